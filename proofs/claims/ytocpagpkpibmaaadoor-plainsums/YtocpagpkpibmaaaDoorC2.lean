import Derived.Deep.MidRow
import Derived.Test.YtocpagpkpibmaaaDoorC1
/-
  OWN WORK (by mkpno.py). Scripts (layer 18): rows of five cells.
-/
namespace Go.Proofs.YtocpagpkpibmaaaDoor
open Go.RowKit
set_option linter.unusedVariables false
set_option linter.unusedSimpArgs false

def OpR.cs (s : OpR) : List Value := [.int .i64 s.kind, .int .i64 s.id, .int .i64 s.key, .int .u64 s.v, .int .i64 s.n]
def OpAt (w : World) (a : Addr) (s : OpR) : Prop := (∀ (j : Nat) u, s.cs[j]? = some u → w.cell? (a.add j) = some u) ∧ s.ok
/-- v is a slice of these -/
def Ops (w : World) (v : Value) (ss : List OpR) : Prop :=
  ∃ (p : Option Addr) (c : Nat), v = .slice p ss.length c ∧ ss.length ≤ c ∧ c ≤ maxLen ∧ (p = none → c = 0) ∧ ∀ a, p = some a → ∀ (i : Nat) s, ss[i]? = some s → OpAt w (a.add (i * 5)) s
theorem OpAt.kept {w w' : World} {a : Addr} {s : OpR} (h : OpAt w a s) (k : Kept [] w w') : OpAt w' a s := ⟨fun j u hj => k.cell (h.1 j u hj) (by simp), h.2⟩
theorem Ops.kept {w w' : World} {v : Value} {ss : List OpR} (h : Ops w v ss) (k : Kept [] w w') : Ops w' v ss := by
  obtain ⟨p, c, e, h1, h2, h3, h4⟩ := h
  exact ⟨p, c, e, h1, h2, h3, fun a ha i s hs => (h4 a ha i s hs).kept k⟩
theorem Ops.shape {w : World} {v : Value} {ss : List OpR} (h : Ops w v ss) : ∃ p c, v = .slice p ss.length c ∧ ss.length ≤ maxLen := by
  obtain ⟨p, c, e, h1, h2, -⟩ := h
  exact ⟨p, c, e, by omega⟩
theorem Ops.at {w : World} {v : Value} {ss : List OpR} (h : Ops w v ss) {k : Nat} {s : OpR} (hk : ss[k]? = some s) :
    ∃ b o c, v = .slice (some ⟨b, o, none⟩) ss.length c ∧ (w.cell? ⟨b, o + k * 5, none⟩ = some (.int .i64 s.kind) ∧ w.cell? ⟨b, o + k * 5 + 1, none⟩ = some (.int .i64 s.id) ∧ w.cell? ⟨b, o + k * 5 + 2, none⟩ = some (.int .i64 s.key) ∧ w.cell? ⟨b, o + k * 5 + 3, none⟩ = some (.int .u64 s.v) ∧ w.cell? ⟨b, o + k * 5 + 4, none⟩ = some (.int .i64 s.n)) ∧ s.ok := by
  obtain ⟨p, c, rfl, h1, h2, h3, h4⟩ := h
  have hkl := (List.getElem?_eq_some_iff.1 hk).1
  cases p with
  | none => have := h3 rfl; omega
  | some a =>
    have h0 := (h4 a rfl 0 ss[0] (List.getElem?_eq_getElem (by omega))).1 0 _ rfl
    have hs := spot_of_cell h0
    have hs' : a.spot = none := by
      unfold Addr.add at hs
      split at hs <;> simp_all
    obtain ⟨g, g4⟩ := h4 a rfl k s hk
    obtain ⟨b, o, sp⟩ := a
    simp only at hs'
    subst hs'
    have hA : (⟨b, o, none⟩ : Addr).add (k * 5) = ⟨b, o + k * 5, none⟩ := add_none (a := ⟨b, o, none⟩) rfl (k * 5)
    rw [hA] at g
    have q : ∀ (j : Nat) u, s.cs[j]? = some u → w.cell? ⟨b, o + k * 5 + j, none⟩ = some u := fun j u hj => by have := g j u hj; rw [add_none (a := ⟨b, o + k * 5, none⟩) rfl] at this; exact this
    exact ⟨b, o, c, rfl, ⟨q 0 _ rfl, q 1 _ rfl, q 2 _ rfl, q 3 _ rfl, q 4 _ rfl⟩, g4⟩
end Go.Proofs.YtocpagpkpibmaaaDoor

/-
  OWN WORK (by mkpnn.py). The document's New with its blocks; the law's alive (layer 18), for any State.
-/
namespace Go.Proofs.YtocpagpkpibmaaaDoor
open Go.RowKit
set_option linter.unusedVariables false
set_option linter.unusedSimpArgs false

theorem fresh_go {w a b : World} {F F' : List Nat} (hF : ∀ x ∈ F, w.heap.size ≤ x) (k : Kept [] w a) (f : Fr a F F') (k' : Kept F a b) : (∀ x ∈ F', w.heap.size ≤ x) ∧ Kept [] w b :=
  ⟨fun x hx => by
    rcases f x hx with q | q
    · exact hF x q
    · have := k.size; omega, k.trans k' (fun y hy => .inr (hF y hy))⟩
/-- the law's own Config -/
def c18 : Cf := ⟨2, 2, 1024, 2, 2, 100⟩
def a0 : St := ⟨[], [], 0⟩
def a1 : St := begS c18 a0 3
def a2 : St := putS c18 a1 3 8 5
def a3 : St := begS c18 a2 3
def a4 : St := getS c18 a3 3 8
theorem c18_may : mayC c18 := by unfold mayC c18; decide
theorem a_ans : begE c18 a0 3 = 0 ∧ putE c18 a1 3 8 5 = 0 ∧ begE c18 a2 3 = 160 ∧ a3.used = 90 ∧ keptO a3.opn = 154 ∧ getA c18 a3 3 8 = (5, true, 0) ∧ endE a4 3 = 0 := by decide +kernel
theorem a_small : small a0 ∧ small a1 ∧ small a2 ∧ small a3 ∧ small a4 := by unfold small; decide +kernel
theorem small_any (w : World) : Calls Tryd.prog 19 #[] w fun e w' => e = .returned (.agg #[.int .i64 c18.pages, .int .i64 c18.slots, .int .i64 c18.log, .int .i64 c18.frames, .int .i64 c18.table, .int .i64 c18.keys]) ∧ Kept [] w w' := by
  go_enter Tryd.func19, Tryd.ntmps19
  go_wp2
  obtain ⟨w1, hw1⟩ : ∃ wx, wx = w.alloc (.cells #[.int .i64 2, .int .i64 2, .int .i64 1024, .int .i64 2, .int .i64 2, .int .i64 100] 39) := ⟨_, rfl⟩
  have B : Blk w1 w.heap.size 39 [.int .i64 2, .int .i64 2, .int .i64 1024, .int .i64 2, .int .i64 2, .int .i64 100] := by rw [hw1]; exact Blk.new w _ _
  have k1 : Kept [] w w1 := by rw [hw1]; exact (Kept.refl [] w).alloc _
  rw [← hw1]
  refine bodyPost_ret (v := .agg #[.int .i64 2, .int .i64 2, .int .i64 1024, .int .i64 2, .int .i64 2, .int .i64 100]) (results_cell_row Tryd.results19 _ w1 w.heap.size 39 _ (0, 0) _ (by rfl) B Tryd.underlying39 rfl (by kernel_rfl)) rfl ?_
  exact ⟨rfl, k1⟩
variable {Ks : List Nat} {Vr : World → Prop} {Pn : World → Nat → List Nat → Cf → St → Prop} (O : PnOps Ks Vr Pn)
include O
set_option maxRecDepth 20000 in
set_option maxHeartbeats 6400000 in
theorem alive_any (w : World) (hv : Vr w) : Calls Tryd.prog 7 #[] w fun e w' => e = .returned (.bool true) ∧ Kept [] w w' := by
  have HA := @hideH _ a_ans
  have HV := @hideH _ hv
  clear hv
  have HSM := @hideH _ a_small
  go_enter Tryd.func7, Tryd.ntmps7
  go_wp2_with fail
  refine (small_any _).mono ?_
  rintro e w1 ⟨rfl, k1⟩
  go_wp2_with fail
  refine (O.new c18 _ (O.vkept HV.out k1 (by simp))).mono ?_
  rintro e w2 (⟨-, g, F, rfl, p, hF, k2⟩ | ⟨hm, -⟩)
  rotate_left
  · exact absurd c18_may hm
  have HF := @hideH _ (show (∀ x ∈ F, w.heap.size ≤ x) ∧ Kept [] w w2 from ⟨fun x hx => Nat.le_trans k1.size (hF x hx), k1.then k2⟩)
  have HP := @hideH _ (show Pn w2 g F c18 a0 from p)
  clear p hF k1 k2
  go_wp2_with fail
  refine (num_any _ _).mono ?_
  rintro e wb ⟨rfl, hwb⟩
  rw [hwb]
  clear hwb

  go_wp2_with fail
  refine (O.begin_ 3 _ (O.vkept HV.out HF.out.2 (by simp)) HP.out HSM.out.1 (by unfold I64; omega)).mono ?_
  rintro e w3 ⟨F', rfl, p', f', k'⟩
  replace HF := @hideH _ (fresh_go HF.out.1 HF.out.2 f' k')
  replace HP := @hideH _ (show Pn w3 g F' c18 a1 from p')
  clear p' f' k' F w2
  obtain ⟨F, rfl⟩ : ∃ F, F = F' := ⟨_, rfl⟩
  rw [HA.out.1]
  go_wp2_with fail
  refine (num_any _ _).mono ?_
  rintro e wb ⟨rfl, hwb⟩
  rw [hwb]
  clear hwb
  go_wp2_with fail
  refine (O.put 3 8 5 _ (O.vkept HV.out HF.out.2 (by simp)) HP.out HSM.out.2.1 (by unfold I64; omega) (by unfold I64; omega) (by unfold u64; omega)).mono ?_
  rintro e w4 ⟨F', rfl, p', f', k'⟩
  replace HF := @hideH _ (fresh_go HF.out.1 HF.out.2 f' k')
  replace HP := @hideH _ (show Pn w4 g F' c18 a2 from p')
  clear p' f' k' F w3
  obtain ⟨F, rfl⟩ : ∃ F, F = F' := ⟨_, rfl⟩
  rw [HA.out.2.1]
  go_wp2_with fail
  refine (num_any _ _).mono ?_
  rintro e wb ⟨rfl, hwb⟩
  rw [hwb]
  clear hwb
  go_wp2_with fail
  refine (O.begin_ 3 _ (O.vkept HV.out HF.out.2 (by simp)) HP.out HSM.out.2.2.1 (by unfold I64; omega)).mono ?_
  rintro e w5 ⟨F', rfl, p', f', k'⟩
  replace HF := @hideH _ (fresh_go HF.out.1 HF.out.2 f' k')
  replace HP := @hideH _ (show Pn w5 g F' c18 a3 from p')
  clear p' f' k' F w4
  obtain ⟨F, rfl⟩ : ∃ F, F = F' := ⟨_, rfl⟩
  rw [HA.out.2.2.1]
  go_wp2_with fail
  refine (num_any _ _).mono ?_
  rintro e wb ⟨rfl, hwb⟩
  rw [hwb]
  clear hwb
  go_wp2_with fail
  refine (O.used _ (O.vkept HV.out HF.out.2 (by simp)) HP.out).mono ?_
  rintro e w6 ⟨rfl, k6⟩
  replace HF := @hideH _ (And.intro HF.out.1 (HF.out.2.then k6))
  replace HP := @hideH _ (O.kept HP.out k6 (by simp))
  clear k6 w5
  rw [HA.out.2.2.2.1, HA.out.2.2.2.2.1]
  go_wp2_with fail
  refine (O.get 3 8 _ (O.vkept HV.out HF.out.2 (by simp)) HP.out HSM.out.2.2.2.1 (by unfold I64; omega) (by unfold I64; omega)).mono ?_
  rintro e w7 ⟨F', rfl, p', f', k'⟩
  replace HF := @hideH _ (fresh_go HF.out.1 HF.out.2 f' k')
  replace HP := @hideH _ (show Pn w7 g F' c18 a4 from p')
  clear p' f' k' F w6
  obtain ⟨F, rfl⟩ : ∃ F, F = F' := ⟨_, rfl⟩
  rw [HA.out.2.2.2.2.2.1]
  go_wp2_with fail
  refine (num_any _ _).mono ?_
  rintro e wb ⟨rfl, hwb⟩
  rw [hwb]
  clear hwb
  go_wp2_with fail
  refine (O.commit 3 _ (O.vkept HV.out HF.out.2 (by simp)) HP.out HSM.out.2.2.2.2 (by unfold I64; omega)).mono ?_
  rintro e w8 ⟨F', rfl, p', f', k'⟩
  replace HF := @hideH _ (fresh_go HF.out.1 HF.out.2 f' k')
  replace HP := @hideH _ (show Pn w8 g F' c18 (comS a4 3) from p')
  clear p' f' k' F w7
  obtain ⟨F, rfl⟩ : ∃ F, F = F' := ⟨_, rfl⟩
  rw [HA.out.2.2.2.2.2.2]
  go_wp2_with fail
  refine (num_any _ _).mono ?_
  rintro e wb ⟨rfl, hwb⟩
  rw [hwb]
  clear hwb
  go_wp2
  go_ret
  exact ⟨rfl, HF.out.2⟩
end Go.Proofs.YtocpagpkpibmaaaDoor

/-
  OWN WORK (by mkpnr.py). The law's does, rest, played (layer 18), for any State.
-/
namespace Go.Proofs.YtocpagpkpibmaaaDoor
open Go.RowKit
set_option linter.unusedVariables false
set_option linter.unusedSimpArgs false

/-- the error that a step answers -/
def erS (c : Cf) (S : St) (o : OpR) : Int := if o.kind = 1 then begE c S o.id else if o.kind = 2 then (getA c S o.id o.key).2.2 else if o.kind = 3 then putE c S o.id o.key o.v else if o.kind = 4 then delE c S o.id o.key else if o.kind = 5 then endE S o.id else if o.kind = 6 then endE S o.id else if o.kind = 7 then chkE c S o.n else if o.kind = 8 then renE S else 0
theorem tmod_neg18 {n t : Int} (ht : 0 < t) : (n.tmod t < 0 → n.tmod t + t = n % t) ∧ (¬ n.tmod t < 0 → n.tmod t = n % t) ∧ -t < n.tmod t ∧ n.tmod t < t := by
  have h1 := Int.emod_nonneg n (show t ≠ 0 by omega)
  have h2 := Int.emod_lt_of_pos n ht
  have h3 : n.tmod t = if 0 ≤ n ∨ t ∣ n then n % t else n % t - t := by
    rw [Int.tmod_eq_emod]
    by_cases hc : 0 ≤ n ∨ t ∣ n
    · rw [if_pos hc, if_pos hc]; omega
    · rw [if_neg hc, if_neg hc]; omega
  split at h3
  · exact ⟨fun c => by omega, fun _ => h3, by omega, by omega⟩
  · rename_i hc
    have : n % t ≠ 0 := fun q => hc (.inr (Int.dvd_of_emod_eq_zero q))
    exact ⟨fun _ => by omega, fun c => by omega, by omega, by omega⟩
set_option maxRecDepth 20000 in
set_option maxHeartbeats 1600000 in
theorem rest_any (n t : Int) (w : World) (ht : 0 < t) (ht2 : t ≤ 2000000) : Calls Tryd.prog 25 #[.int .i64 n, .int .i64 t] w fun e w' => e = .returned (.int .i64 (n % t)) ∧ w' = w := by
  obtain ⟨h1, h2, h3, h4⟩ := tmod_neg18 (n := n) ht
  have wk : IntKind.i64.wrap (n.tmod t) = n.tmod t := wrap_i64_of (by omega) (by omega)
  have wk2 : IntKind.i64.wrap (n.tmod t + t) = n.tmod t + t := wrap_i64_of (by omega) (by omega)
  have t0 : (t == 0) = false := by simp; omega
  have t0' : ¬ t = 0 := by omega
  obtain ⟨q, hq⟩ : ∃ q, q = n % t := ⟨_, rfl⟩
  rw [← hq] at h1 h2 ⊢
  have HQ := @hideH _ (And.intro h1 h2)
  clear hq h1 h2 ht2
  by_cases c : n.tmod t < 0
  · have hc := HQ.out.1 c
    have HC := @hideH _ hc
    clear hc h3 h4
    go_enter Tryd.func25, Tryd.ntmps25
    go_wp2
    go_ret
    exact ⟨by rw [← HC.out]; rfl, rfl⟩
  · have hc := HQ.out.2 c
    have HC := @hideH _ hc
    clear hc h3 h4
    go_enter Tryd.func25, Tryd.ntmps25
    go_wp2
    go_ret
    exact ⟨by rw [← HC.out]; rfl, rfl⟩
variable {Ks : List Nat} {Vr : World → Prop} {Pn : World → Nat → List Nat → Cf → St → Prop} (O : PnOps Ks Vr Pn)
include O
set_option maxRecDepth 20000 in
set_option maxHeartbeats 6400000 in
theorem does_any {g : Nat} {F : List Nat} {c : Cf} {S : St} (o : OpR) (w : World) (hv : Vr w) (h : Pn w g F c S) (hs : small S) (ho : o.ok) : Calls Tryd.prog 15 #[.pointer (some ⟨g, 0, none⟩), o.v5] w fun e w' => e = .returned (.int .i64 (erS c S o)) ∧ ∃ F', Pn w' g F' c (stS c S o) ∧ Fr w F F' ∧ Kept F w w' := by
  show Calls Tryd.prog 15 #[.pointer (some ⟨g, 0, none⟩), .agg #[.int .i64 o.kind, .int .i64 o.id, .int .i64 o.key, .int .u64 o.v, .int .i64 o.n]] w _
  obtain ⟨w1, hw1⟩ : ∃ wx, wx = w.alloc (.cells #[.int .i64 o.kind, .int .i64 o.id, .int .i64 o.key, .int .u64 o.v, .int .i64 o.n] 51) := ⟨_, rfl⟩
  have k1 : Kept [] w w1 := by rw [hw1]; exact (Kept.refl [] w).alloc _
  have X1 : Blk w1 w.heap.size 51 [.int .i64 o.kind, .int .i64 o.id, .int .i64 o.key, .int .u64 o.v, .int .i64 o.n] := by rw [hw1]; exact Blk.new w _ _
  have y0 := X1.cell (j := 0) rfl
  have y1 := X1.cell (j := 1) rfl
  have y2 := X1.cell (j := 2) rfl
  have y3 := X1.cell (j := 3) rfl
  have y4 := X1.cell (j := 4) rfl
  have HV := @hideH _ (O.vkept hv k1 (by simp))
  have HP := @hideH _ (O.kept h k1 (by simp))
  have HK1 := @hideH _ k1
  have HSM := @hideH _ hs
  have HO := @hideH _ ho
  clear h hs ho k1 X1 hv
  go_enter Tryd.func15, Tryd.ntmps15
  go_upto_region 1 with fail
  rw [← hw1]
  clear hw1
  by_cases q1 : o.kind = 1
  · skip
    have q1' : (o.kind == 1) = true := by simpa using q1
    have HE := @hideH _ (show stS c S o = begS c S o.id ∧ erS c S o = begE c S o.id from ⟨by unfold stS;  rw [if_pos q1], by unfold erS;  rw [if_pos q1]⟩)
    clear q1
    go_wp2_with fail
    refine (O.begin_ o.id _ HV.out HP.out HSM.out HO.out.1).mono ?_
    rintro e w2 ⟨F', rfl, p', f', k'⟩
    have HFN := @hideH _ (And.intro p' (And.intro (f'.old HK1.out.size) ((HK1.out.mono (T := F) (by simp)).trans k' (fun y hy => .inl hy))))
    clear p' f' k' y0 y1 y2 y3 y4
    go_wp2_with fail
    refine (num_any _ _).mono ?_
    rintro e wb ⟨rfl, hwb⟩
    rw [hwb]
    clear hwb
    go_wp2
    go_ret
    exact ⟨by rw [HE.out.2]; first | done | rfl, F', by rw [HE.out.1]; exact HFN.out.1, HFN.out.2.1, HFN.out.2.2⟩
  have q1' : (o.kind == 1) = false := by simpa using q1
  by_cases q2 : o.kind = 2
  · skip
    have q2' : (o.kind == 2) = true := by simpa using q2
    have HE := @hideH _ (show stS c S o = getS c S o.id o.key ∧ erS c S o = (getA c S o.id o.key).2.2 from ⟨by unfold stS; rw [if_neg q1]; rw [if_pos q2], by unfold erS; rw [if_neg q1]; rw [if_pos q2]⟩)
    clear q1
    clear q2
    go_wp2_with fail
    refine (O.get o.id o.key _ HV.out HP.out HSM.out HO.out.1 HO.out.2.1).mono ?_
    rintro e w2 ⟨F', rfl, p', f', k'⟩
    have HFN := @hideH _ (And.intro p' (And.intro (f'.old HK1.out.size) ((HK1.out.mono (T := F) (by simp)).trans k' (fun y hy => .inl hy))))
    clear p' f' k' y0 y1 y2 y3 y4
    go_wp2_with fail
    refine (num_any _ _).mono ?_
    rintro e wb ⟨rfl, hwb⟩
    rw [hwb]
    clear hwb
    go_wp2
    go_ret
    exact ⟨by rw [HE.out.2]; first | done | rfl, F', by rw [HE.out.1]; exact HFN.out.1, HFN.out.2.1, HFN.out.2.2⟩
  have q2' : (o.kind == 2) = false := by simpa using q2
  by_cases q3 : o.kind = 3
  · skip
    have q3' : (o.kind == 3) = true := by simpa using q3
    have HE := @hideH _ (show stS c S o = putS c S o.id o.key o.v ∧ erS c S o = putE c S o.id o.key o.v from ⟨by unfold stS; rw [if_neg q1]; rw [if_neg q2]; rw [if_pos q3], by unfold erS; rw [if_neg q1]; rw [if_neg q2]; rw [if_pos q3]⟩)
    clear q1
    clear q2
    clear q3
    go_wp2_with fail
    refine (O.put o.id o.key o.v _ HV.out HP.out HSM.out HO.out.1 HO.out.2.1 HO.out.2.2.1).mono ?_
    rintro e w2 ⟨F', rfl, p', f', k'⟩
    have HFN := @hideH _ (And.intro p' (And.intro (f'.old HK1.out.size) ((HK1.out.mono (T := F) (by simp)).trans k' (fun y hy => .inl hy))))
    clear p' f' k' y0 y1 y2 y3 y4
    go_wp2_with fail
    refine (num_any _ _).mono ?_
    rintro e wb ⟨rfl, hwb⟩
    rw [hwb]
    clear hwb
    go_wp2
    go_ret
    exact ⟨by rw [HE.out.2]; first | done | rfl, F', by rw [HE.out.1]; exact HFN.out.1, HFN.out.2.1, HFN.out.2.2⟩
  have q3' : (o.kind == 3) = false := by simpa using q3
  by_cases q4 : o.kind = 4
  · skip
    have q4' : (o.kind == 4) = true := by simpa using q4
    have HE := @hideH _ (show stS c S o = delS c S o.id o.key ∧ erS c S o = delE c S o.id o.key from ⟨by unfold stS; rw [if_neg q1]; rw [if_neg q2]; rw [if_neg q3]; rw [if_pos q4], by unfold erS; rw [if_neg q1]; rw [if_neg q2]; rw [if_neg q3]; rw [if_pos q4]⟩)
    clear q1
    clear q2
    clear q3
    clear q4
    go_wp2_with fail
    refine (O.delete o.id o.key _ HV.out HP.out HSM.out HO.out.1 HO.out.2.1).mono ?_
    rintro e w2 ⟨F', rfl, p', f', k'⟩
    have HFN := @hideH _ (And.intro p' (And.intro (f'.old HK1.out.size) ((HK1.out.mono (T := F) (by simp)).trans k' (fun y hy => .inl hy))))
    clear p' f' k' y0 y1 y2 y3 y4
    go_wp2_with fail
    refine (num_any _ _).mono ?_
    rintro e wb ⟨rfl, hwb⟩
    rw [hwb]
    clear hwb
    go_wp2
    go_ret
    exact ⟨by rw [HE.out.2]; first | done | rfl, F', by rw [HE.out.1]; exact HFN.out.1, HFN.out.2.1, HFN.out.2.2⟩
  have q4' : (o.kind == 4) = false := by simpa using q4
  by_cases q5 : o.kind = 5
  · skip
    have q5' : (o.kind == 5) = true := by simpa using q5
    have HE := @hideH _ (show stS c S o = comS S o.id ∧ erS c S o = endE S o.id from ⟨by unfold stS; rw [if_neg q1]; rw [if_neg q2]; rw [if_neg q3]; rw [if_neg q4]; rw [if_pos q5], by unfold erS; rw [if_neg q1]; rw [if_neg q2]; rw [if_neg q3]; rw [if_neg q4]; rw [if_pos q5]⟩)
    clear q1
    clear q2
    clear q3
    clear q4
    clear q5
    go_wp2_with fail
    refine (O.commit o.id _ HV.out HP.out HSM.out HO.out.1).mono ?_
    rintro e w2 ⟨F', rfl, p', f', k'⟩
    have HFN := @hideH _ (And.intro p' (And.intro (f'.old HK1.out.size) ((HK1.out.mono (T := F) (by simp)).trans k' (fun y hy => .inl hy))))
    clear p' f' k' y0 y1 y2 y3 y4
    go_wp2_with fail
    refine (num_any _ _).mono ?_
    rintro e wb ⟨rfl, hwb⟩
    rw [hwb]
    clear hwb
    go_wp2
    go_ret
    exact ⟨by rw [HE.out.2]; first | done | rfl, F', by rw [HE.out.1]; exact HFN.out.1, HFN.out.2.1, HFN.out.2.2⟩
  have q5' : (o.kind == 5) = false := by simpa using q5
  by_cases q6 : o.kind = 6
  · skip
    have q6' : (o.kind == 6) = true := by simpa using q6
    have HE := @hideH _ (show stS c S o = aboS S o.id ∧ erS c S o = endE S o.id from ⟨by unfold stS; rw [if_neg q1]; rw [if_neg q2]; rw [if_neg q3]; rw [if_neg q4]; rw [if_neg q5]; rw [if_pos q6], by unfold erS; rw [if_neg q1]; rw [if_neg q2]; rw [if_neg q3]; rw [if_neg q4]; rw [if_neg q5]; rw [if_pos q6]⟩)
    clear q1
    clear q2
    clear q3
    clear q4
    clear q5
    clear q6
    go_wp2_with fail
    refine (O.abort o.id _ HV.out HP.out HSM.out HO.out.1).mono ?_
    rintro e w2 ⟨F', rfl, p', f', k'⟩
    have HFN := @hideH _ (And.intro p' (And.intro (f'.old HK1.out.size) ((HK1.out.mono (T := F) (by simp)).trans k' (fun y hy => .inl hy))))
    clear p' f' k' y0 y1 y2 y3 y4
    go_wp2_with fail
    refine (num_any _ _).mono ?_
    rintro e wb ⟨rfl, hwb⟩
    rw [hwb]
    clear hwb
    go_wp2
    go_ret
    exact ⟨by rw [HE.out.2]; first | done | rfl, F', by rw [HE.out.1]; exact HFN.out.1, HFN.out.2.1, HFN.out.2.2⟩
  have q6' : (o.kind == 6) = false := by simpa using q6
  by_cases q7 : o.kind = 7
  · skip
    have q7' : (o.kind == 7) = true := by simpa using q7
    have HE := @hideH _ (show stS c S o = chkS c S o.n ∧ erS c S o = chkE c S o.n from ⟨by unfold stS; rw [if_neg q1]; rw [if_neg q2]; rw [if_neg q3]; rw [if_neg q4]; rw [if_neg q5]; rw [if_neg q6]; rw [if_pos q7], by unfold erS; rw [if_neg q1]; rw [if_neg q2]; rw [if_neg q3]; rw [if_neg q4]; rw [if_neg q5]; rw [if_neg q6]; rw [if_pos q7]⟩)
    clear q1
    clear q2
    clear q3
    clear q4
    clear q5
    clear q6
    clear q7
    go_wp2_with fail
    refine (O.check o.n _ HV.out HP.out HSM.out HO.out.2.2.2).mono ?_
    rintro e w2 ⟨F', rfl, p', f', k'⟩
    have HFN := @hideH _ (And.intro p' (And.intro (f'.old HK1.out.size) ((HK1.out.mono (T := F) (by simp)).trans k' (fun y hy => .inl hy))))
    clear p' f' k' y0 y1 y2 y3 y4
    go_wp2_with fail
    refine (num_any _ _).mono ?_
    rintro e wb ⟨rfl, hwb⟩
    rw [hwb]
    clear hwb
    go_wp2
    go_ret
    exact ⟨by rw [HE.out.2]; first | done | rfl, F', by rw [HE.out.1]; exact HFN.out.1, HFN.out.2.1, HFN.out.2.2⟩
  have q7' : (o.kind == 7) = false := by simpa using q7
  by_cases q8 : o.kind = 8
  · skip
    have q8' : (o.kind == 8) = true := by simpa using q8
    have HE := @hideH _ (show stS c S o = renS S ∧ erS c S o = renE S from ⟨by unfold stS; rw [if_neg q1]; rw [if_neg q2]; rw [if_neg q3]; rw [if_neg q4]; rw [if_neg q5]; rw [if_neg q6]; rw [if_neg q7]; rw [if_pos q8], by unfold erS; rw [if_neg q1]; rw [if_neg q2]; rw [if_neg q3]; rw [if_neg q4]; rw [if_neg q5]; rw [if_neg q6]; rw [if_neg q7]; rw [if_pos q8]⟩)
    clear q1
    clear q2
    clear q3
    clear q4
    clear q5
    clear q6
    clear q7
    clear q8
    go_wp2_with fail
    refine (O.renew _ HV.out HP.out HSM.out).mono ?_
    rintro e w2 ⟨F', rfl, p', f', k'⟩
    have HFN := @hideH _ (And.intro p' (And.intro (f'.old HK1.out.size) ((HK1.out.mono (T := F) (by simp)).trans k' (fun y hy => .inl hy))))
    clear p' f' k' y0 y1 y2 y3 y4
    go_wp2_with fail
    refine (num_any _ _).mono ?_
    rintro e wb ⟨rfl, hwb⟩
    rw [hwb]
    clear hwb
    go_wp2
    go_ret
    exact ⟨by rw [HE.out.2]; first | done | rfl, F', by rw [HE.out.1]; exact HFN.out.1, HFN.out.2.1, HFN.out.2.2⟩
  have q8' : (o.kind == 8) = false := by simpa using q8
  have HE := @hideH _ (show stS c S o = S ∧ erS c S o = 0 from ⟨by unfold stS; rw [if_neg q1]; rw [if_neg q2]; rw [if_neg q3]; rw [if_neg q4]; rw [if_neg q5]; rw [if_neg q6]; rw [if_neg q7]; rw [if_neg q8], by unfold erS; rw [if_neg q1]; rw [if_neg q2]; rw [if_neg q3]; rw [if_neg q4]; rw [if_neg q5]; rw [if_neg q6]; rw [if_neg q7]; rw [if_neg q8]⟩)
  clear q1 q2 q3 q4 q5 q6 q7 q8
  go_wp2
  go_ret
  exact ⟨by rw [HE.out.2]; first | done | rfl, F, by rw [HE.out.1]; exact HP.out, Fr.refl _ _, HK1.out.mono (by simp)⟩
end Go.Proofs.YtocpagpkpibmaaaDoor

/-
  OWN WORK. The model (layer 18) in plain words: the open ones' numbers; sums behind each step.
-/
namespace Go.Proofs.YtocpagpkpibmaaaDoor
set_option linter.unusedVariables false
theorem mem_idsTo {l : List Tn} : ∀ {n : Nat} {x : Int}, x ∈ idsTo l n ↔ (1 ≤ x ∧ x ≤ (n : Int)) ∧ (findO l x).isSome = true
  | 0, x => by simp [idsTo]; omega
  | n + 1, x => by
    unfold idsTo
    rw [List.mem_append, mem_idsTo (n := n)]
    constructor
    · rintro (⟨h1, h2⟩ | h)
      · exact ⟨⟨h1.1, by omega⟩, h2⟩
      · split at h
        · rename_i q; simp at h; subst h; exact ⟨⟨by omega, by omega⟩, q⟩
        · simp at h
    · rintro ⟨h1, h2⟩
      by_cases c : x = ((n + 1 : Nat) : Int)
      · right; subst c; rw [if_pos h2]; simp
      · exact .inl ⟨⟨h1.1, by omega⟩, h2⟩
theorem idsTo_up {l : List Tn} : ∀ n : Nat, (idsTo l n).Pairwise (· < ·)
  | 0 => .nil
  | n + 1 => by
    unfold idsTo
    refine List.pairwise_append.2 ⟨idsTo_up n, by split <;> simp, fun x hx y hy => ?_⟩
    have := (mem_idsTo.1 hx).1
    split at hy
    · simp at hy; omega
    · simp at hy
theorem findO_mem {l : List Tn} {x : Int} : (findO l x).isSome = true ↔ x ∈ l.map Tn.id := by
  rw [List.mem_map]
  constructor
  · intro h
    obtain ⟨t, ht⟩ := Option.isSome_iff_exists.1 h
    obtain ⟨h1, h2⟩ := findO_some ht
    exact ⟨t, h1, h2⟩
  · rintro ⟨t, h1, h2⟩
    cases e : findO l x with
    | none => exact absurd h2 (findO_none.1 e t h1)
    | some y => rfl
theorem idsS_perm {c : Cf} {s : St} (h : OkS c s) : (idsS s).Perm (s.opn.map Tn.id) := by
  refine (List.perm_ext_iff_of_nodup ((idsTo_up 64).imp fun {a b} q => by omega) ?_).2 fun x => ?_
  · exact List.pairwise_map.2 h.dif
  · skip
    rw [mem_idsTo, findO_mem]
    refine ⟨fun q => q.2, fun q => ⟨?_, q⟩⟩
    obtain ⟨t, h1, h2⟩ := List.mem_map.1 q
    have := h.ids t h1; unfold isId at this; rw [h2] at this; omega
theorem idsS_length {c : Cf} {s : St} (h : OkS c s) : (idsS s).length = s.opn.length := by rw [(idsS_perm h).length_eq, List.length_map]
theorem idsS_up (s : St) : (idsS s).Pairwise (· < ·) := idsTo_up 64
theorem keptO_low {l : List Tn} (h : ∀ t ∈ l, ∀ n ∈ t.lens, 1 ≤ n ∧ n ≤ 16) : 99 * (l.length : Int) ≤ keptO l := by
  induction l with
  | nil => simp [keptO]
  | cons t r ih => have e1 := sumL_pos (h t (by simp)); have e2 := ih (fun x hx => h x (by simp [hx])); simp only [keptO, Tn.kept, List.length_cons]; omega
theorem kept_zero {c : Cf} {s : St} (h : OkS c s) : (s.opn.length = 0 ↔ keptO s.opn = 0) := by
  have := keptO_low h.lens
  constructor
  · intro e; rw [List.eq_nil_of_length_eq_zero e]; rfl
  · intro e; omega
end Go.Proofs.YtocpagpkpibmaaaDoor

/-
  OWN WORK. The model (layer 18) in plain words: what a refused call changes: nothing, but ErrLog of a put or a delete, which ends the transaction.
-/
namespace Go.Proofs.YtocpagpkpibmaaaDoor
set_option linter.unusedVariables false
theorem ask_not170 (c : Cf) (s : St) (id key : Int) : askE c s id key ≠ 170 := by
  unfold askE
  split
  · decide
  · split
    · decide
    · split <;> decide
/-- a change that is refused -/
theorem chg_refused {c : Cf} {s : St} (ok : OkS c s) {k : Nat} {t : Tn} (hk : s.opn[k]? = some t) {x : Chg} (p : Int) (h : chgE c s t x ≠ 0) : chgE c s t x = 170 ∧ chgS c s t p x = ⟨s.done, s.opn.eraseIdx k, s.used + 66 + sumL t.lens⟩ := by
  by_cases h0 : 0 < lenC s t x
  · cases hf : fitsS c s (38 + 2 * lenC s t x) (46 + lenC s t x) with
    | true => exact absurd (chg_fit (page := p) ok hk rfl h0 hf).1 h
    | false => exact chg_not ok hk rfl h0 hf
  · exact absurd (chg_zero (page := p) ok hk rfl h0).1 h
theorem put_refused {c : Cf} {s : St} (ok : OkS c s) {id key v : Int} (h : putE c s id key v ≠ 0) : (putE c s id key v ≠ 170 ∧ putS c s id key v = s) ∨ (putE c s id key v = 170 ∧ ∃ k t, s.opn[k]? = some t ∧ putS c s id key v = ⟨s.done, s.opn.eraseIdx k, s.used + 66 + sumL t.lens⟩) := by
  by_cases ha : askE c s id key = 0
  · obtain ⟨t, hf⟩ := ask_find ha
    obtain ⟨k, hk⟩ := findO_idx ok hf
    cases hb : full c s t key with
    | true =>
      obtain ⟨e1, e2⟩ := put_full (v := v) ha hf hb
      exact .inl ⟨by rw [e1]; decide, e2⟩
    | false =>
      obtain ⟨e1, e2⟩ := put_chg (v := v) ha hf hb
      rw [e1] at h ⊢
      rw [e2]
      obtain ⟨q1, q2⟩ := chg_refused ok hk (key % c.pages) h
      exact .inr ⟨q1, k, t, hk, q2⟩
  · obtain ⟨e1, e2, -⟩ := put_no (v := v) ha
    exact .inl ⟨by rw [e1]; exact ask_not170 _ _ _ _, e2⟩
theorem del_refused {c : Cf} {s : St} (ok : OkS c s) {id key : Int} (h : delE c s id key ≠ 0) : (delE c s id key ≠ 170 ∧ delS c s id key = s) ∨ (delE c s id key = 170 ∧ ∃ k t, s.opn[k]? = some t ∧ delS c s id key = ⟨s.done, s.opn.eraseIdx k, s.used + 66 + sumL t.lens⟩) := by
  by_cases ha : askE c s id key = 0
  · obtain ⟨t, hf⟩ := ask_find ha
    obtain ⟨k, hk⟩ := findO_idx ok hf
    cases hb : (seesT s t key).2 with
    | false => exact absurd (del_none ok hk ha hf hb).1 h
    | true =>
      obtain ⟨e1, -, e2⟩ := del_chg ha hf hb
      rw [e1] at h ⊢
      rw [e2]
      obtain ⟨q1, q2⟩ := chg_refused ok hk (key % c.pages) h
      exact .inr ⟨q1, k, t, hk, q2⟩
  · obtain ⟨-, -, e1, -, e2⟩ := put_no (v := 0) ha
    exact .inl ⟨by rw [e1]; exact ask_not170 _ _ _ _, e2⟩
theorem end_refused {s : St} {id : Int} (h : endE s id ≠ 0) : comS s id = s ∧ aboS s id = s := by
  cases e : findO s.opn id with
  | none => exact ⟨(abo_none e).2.2, (abo_none e).2.1⟩
  | some t => exact absurd (by unfold endE; rw [e]; rfl) h
/-- what a refused step leaves -/
theorem er_step {c : Cf} {S : St} (ok : OkS c S) (o : OpR) (h : erS c S o ≠ 0) : (stS c S o = S ∧ ¬ (erS c S o = 170 ∧ (o.kind = 3 ∨ o.kind = 4))) ∨ ((erS c S o = 170 ∧ (o.kind = 3 ∨ o.kind = 4)) ∧ ∃ k t, S.opn[k]? = some t ∧ stS c S o = ⟨S.done, S.opn.eraseIdx k, S.used + 66 + sumL t.lens⟩) := by
  unfold erS at h ⊢
  unfold stS
  by_cases q1 : o.kind = 1
  · rw [if_pos q1] at h ⊢
    rw [if_pos q1]
    exact .inl ⟨by unfold begS; rw [if_neg h], fun q => by omega⟩
  rw [if_neg q1] at h ⊢
  rw [if_neg q1]
  by_cases q2 : o.kind = 2
  · rw [if_pos q2] at h ⊢
    rw [if_pos q2]
    refine .inl ⟨?_, fun q => by omega⟩
    by_cases ha : askE c S o.id o.key = 0
    · exact absurd (by unfold getA; rw [if_pos ha]) h
    · exact (get_no ha).2
  rw [if_neg q2] at h ⊢
  rw [if_neg q2]
  by_cases q3 : o.kind = 3
  · rw [if_pos q3] at h ⊢
    rw [if_pos q3]
    rcases put_refused ok h with ⟨a, b⟩ | ⟨a, b⟩
    · exact .inl ⟨b, fun q => a q.1⟩
    · exact .inr ⟨⟨a, .inl q3⟩, b⟩
  rw [if_neg q3] at h ⊢
  rw [if_neg q3]
  by_cases q4 : o.kind = 4
  · rw [if_pos q4] at h ⊢
    rw [if_pos q4]
    rcases del_refused ok h with ⟨a, b⟩ | ⟨a, b⟩
    · exact .inl ⟨b, fun q => a q.1⟩
    · exact .inr ⟨⟨a, .inr q4⟩, b⟩
  rw [if_neg q4] at h ⊢
  rw [if_neg q4]
  refine .inl ⟨?_, fun q => by omega⟩
  by_cases q5 : o.kind = 5
  · rw [if_pos q5] at h ⊢
    exact (end_refused h).1
  rw [if_neg q5] at h ⊢
  by_cases q6 : o.kind = 6
  · rw [if_pos q6] at h ⊢
    exact (end_refused h).2
  rw [if_neg q6] at h ⊢
  by_cases q7 : o.kind = 7
  · rw [if_pos q7] at h ⊢
    unfold chkS
    rw [if_neg (fun q => h (by unfold chkE; rw [if_pos q]))]
  rw [if_neg q7] at h ⊢
  by_cases q8 : o.kind = 8
  · rw [if_pos q8] at h ⊢
    unfold renS
    rw [if_neg (fun q => h (by unfold renE; rw [if_pos q]))]
  rw [if_neg q8]
/-- ErrLog of a put or a delete: one is open no more, more is used, less is kept -/
theorem er_log {c : Cf} {S : St} (ok : OkS c S) {k : Nat} {t : Tn} (hk : S.opn[k]? = some t) : (S.opn.eraseIdx k).length + 1 = S.opn.length ∧ S.used < S.used + 66 + sumL t.lens ∧ keptO (S.opn.eraseIdx k) < keptO S.opn := by
  have hl := (List.getElem?_eq_some_iff.1 hk).1
  have h1 := ok.one hk
  refine ⟨by rw [List.length_eraseIdx_of_lt hl]; omega, by omega, ?_⟩
  rw [keptO_erase hk]
  unfold Tn.kept
  omega
/-- what holds behind each step -/
theorem sums_ok {c : Cf} {S : St} (ok : OkS c S) : S.used + keptO S.opn ≤ c.log ∧ 0 ≤ S.used ∧ 99 * ((idsS S).length : Int) ≤ keptO S.opn ∧ ((idsS S).length = 0 ↔ keptO S.opn = 0) ∧ ((idsS S).length : Int) ≤ c.table := by
  rw [idsS_length ok]
  exact ⟨ok.log, ok.low, keptO_low ok.lens, kept_zero ok, ok.len⟩
end Go.Proofs.YtocpagpkpibmaaaDoor

/-
  OWN WORK (by mkpns.py). The law's played (layer 18), for any State.
-/
namespace Go.Proofs.YtocpagpkpibmaaaDoor
open Go.RowKit
set_option linter.unusedVariables false
set_option linter.unusedSimpArgs false

/-- what a script leaves -/
def playS (c : Cf) (S : St) (ss : List OpR) : St := ss.foldl (stS c) S
theorem playS_take (c : Cf) (S : St) {ss : List OpR} {k : Nat} {o : OpR} (h : ss[k]? = some o) : playS c S (ss.take (k + 1)) = stS c (playS c S (ss.take k)) o := by
  unfold playS
  rw [List.take_add_one, h, List.foldl_append]
  rfl
/-- the program's State beside the world that was; k steps at most are behind -/
structure B18 (Ks : List Nat) (Vr : World → Prop) (Pn : World → Nat → List Nat → Cf → St → Prop) (w wr : World) (g : Nat) (c : Cf) (k : Nat) (F : List Nat) (S : St) : Prop where
  p : Pn wr g F c S
  v : Vr wr
  kp : Kept [] w wr
  lo : ∀ x ∈ F, w.heap.size ≤ x
  sz : cnt S ≤ k
theorem B18.then {Ks : List Nat} {Vr : World → Prop} {Pn : World → Nat → List Nat → Cf → St → Prop} (O : PnOps Ks Vr Pn) {w wr w' : World} {g : Nat} {c : Cf} {k : Nat} {F : List Nat} {S : St} (h : B18 Ks Vr Pn w wr g c k F S) (kk : Kept [] wr w') : B18 Ks Vr Pn w w' g c k F S :=
  ⟨O.kept h.p kk (by simp), O.vkept h.v kk (by simp), h.kp.then kk, h.lo, h.sz⟩
/-- a call has changed it -/
theorem B18.go {Ks : List Nat} {Vr : World → Prop} {Pn : World → Nat → List Nat → Cf → St → Prop} (O : PnOps Ks Vr Pn) {w wr w' : World} {g : Nat} {c : Cf} {k j : Nat} {F F' : List Nat} {S S' : St} (h : B18 Ks Vr Pn w wr g c k F S) (p : Pn w' g F' c S') (f : Fr wr F F') (kk : Kept F wr w') (hj : cnt S' ≤ j) : B18 Ks Vr Pn w w' g c j F' S' :=
  ⟨p, O.vkept h.v kk (O.knot h.p), h.kp.trans kk (fun x hx => .inr (h.lo x hx)), (fresh_go h.lo h.kp f kk).1, hj⟩
theorem B18.small {Ks : List Nat} {Vr : World → Prop} {Pn : World → Nat → List Nat → Cf → St → Prop} {w wr : World} {g : Nat} {c : Cf} {k : Nat} {F : List Nat} {S : St} (h : B18 Ks Vr Pn w wr g c k F S) (hk : k ≤ 3600000000000) : small S := by have := h.sz; unfold Go.Proofs.YtocpagpkpibmaaaDoor.small; omega
variable {Ks : List Nat} {Vr : World → Prop} {Pn : World → Nat → List Nat → Cf → St → Prop} (O : PnOps Ks Vr Pn)
include O
set_option maxRecDepth 20000 in
set_option maxHeartbeats 6400000 in
theorem played_any (c : Cf) (v : Value) (ss : List OpR) (w : World) (hv : Vr w) (hS : Ops w v ss) (hL : ss.length ≤ 3600000000000) (hm : mayC c) : Calls Tryd.prog 12 #[.agg #[.int .i64 c.pages, .int .i64 c.slots, .int .i64 c.log, .int .i64 c.frames, .int .i64 c.table, .int .i64 c.keys], v] w fun e w' => ∃ g, e = .returned (.pointer (some ⟨g, 0, none⟩)) ∧ ∃ F, B18 Ks Vr Pn w w' g c ss.length F (playS c ⟨[], [], 0⟩ ss) := by
  obtain ⟨ps, cs, hvs, hml⟩ := hS.shape
  subst hvs
  obtain ⟨n, hn⟩ : ∃ n, n = ss.length := ⟨_, rfl⟩
  have HS := @hideH _ hS
  have HN := @hideH _ (show n = ss.length ∧ n ≤ 3600000000000 from ⟨hn, by omega⟩)
  rw [← hn]
  have HV := @hideH _ hv
  have HM := @hideH _ hm
  clear hS hml hn hL hv hm
  obtain ⟨w1, hw1⟩ : ∃ wx, wx = w.alloc (.cells #[.int .i64 c.pages, .int .i64 c.slots, .int .i64 c.log, .int .i64 c.frames, .int .i64 c.table, .int .i64 c.keys] 39) := ⟨_, rfl⟩
  have k1 : Kept [] w w1 := by rw [hw1]; exact (Kept.refl [] w).alloc _
  have B : Blk w1 w.heap.size 39 [.int .i64 c.pages, .int .i64 c.slots, .int .i64 c.log, .int .i64 c.frames, .int .i64 c.table, .int .i64 c.keys] := by rw [hw1]; exact Blk.new w _ _
  have c0 := B.cell (j := 0) rfl
  have c1 := B.cell (j := 1) rfl
  have c2 := B.cell (j := 2) rfl
  have c3 := B.cell (j := 3) rfl
  have c4 := B.cell (j := 4) rfl
  have c5 := B.cell (j := 5) rfl
  have HK1 := @hideH _ k1
  clear B k1
  go_enter Tryd.func12, Tryd.ntmps12
  go_upto_region 1 with fail
  rw [← hw1]
  clear hw1
  go_wp2_with fail
  refine (O.new c _ (O.vkept HV.out HK1.out (by simp))).mono ?_
  rintro e w2 (⟨-, g, F, rfl, p, hF, k2⟩ | ⟨hm, -⟩)
  rotate_left
  · exact absurd HM.out hm
  have HB := @hideH _ (show B18 Ks Vr Pn w w2 g c 0 F ⟨[], [], 0⟩ from ⟨p, O.vkept HV.out (HK1.out.then k2) (by simp), HK1.out.then k2, fun x hx => Nat.le_trans HK1.out.size (hF x hx), by simp [cnt, chsN]⟩)
  clear p hF k2 c0 c1 c2 c3 c4 c5
  go_wp2_with fail
  refine (num_any _ _).mono ?_
  rintro e wb ⟨rfl, hwb⟩
  rw [hwb]
  clear hwb
  go_wp2
  go_loopw [7] (fun vi wr => ∃ k : Nat, k ≤ n ∧ vi = .int .i64 k ∧ Hid (∃ F, B18 Ks Vr Pn w wr g c k F (playS c ⟨[], [], 0⟩ (ss.take k)))) (fun vi _ => n - (intOf vi).toNat)
  case atStart => exact ⟨0, Nat.zero_le _, rfl, F, HB.out⟩
  case round =>
    clear HB
    obtain ⟨k, hk, rfl, hh⟩ := hrel
    obtain ⟨F, A⟩ := hh.out
    clear hh
    have HAA := @hideH _ A
    clear A
    by_cases hkl : k < n
    rotate_left
    · have hkl' : ¬ (k : Int) < (n : Int) := by omega
      have HE := @hideH _ (show ss.take k = ss ∧ k = n from ⟨List.take_of_length_le (by have := HN.out.1; omega), by omega⟩)
      go_wp2
      go_ret
      exact ⟨g, rfl, F, by have q := HAA.out; rw [HE.out.1, HE.out.2] at q; exact q⟩
    have hkl' : (k : Int) < (n : Int) := by omega
    have hk0 : (0 : Int) ≤ (k : Int) := by omega
    have wk : IntKind.i64.wrap ((k : Int) + 1) = (k : Int) + 1 := wrap_i64_of (by omega) (by have := HN.out.2; omega)
    obtain ⟨s, hs⟩ : ∃ s, ss[k]? = some s := ⟨_, List.getElem?_eq_getElem (by have := HN.out.1; omega)⟩
    obtain ⟨sb, so, sc, es, ⟨c0, c1, c2, c3, c4⟩, nn⟩ := HS.out.at hs
    cases es
    have d0 := HAA.out.kp.cell c0 (by simp)
    have d1 := HAA.out.kp.cell c1 (by simp)
    have d2 := HAA.out.kp.cell c2 (by simp)
    have d3 := HAA.out.kp.cell c3 (by simp)
    have d4 := HAA.out.kp.cell c4 (by simp)
    have HST := @hideH _ (does_any O s wr HAA.out.v HAA.out.p (HAA.out.small (by have := HN.out.2; omega)) nn)
    have HPT := @hideH _ (playS_take c ⟨[], [], 0⟩ hs)
    clear c0 c1 c2 c3 c4 nn hs
    go_wp2_with fail
    refine HST.out.mono ?_
    clear HST
    rintro e w5 ⟨rfl, F5, p5, f5, k5⟩
    have HA5 := @hideH _ (HAA.out.go O (j := k + 1) p5 f5 k5 (by have := cnt_step (O.ok HAA.out.p) s; have := HAA.out.sz; omega))
    rw [← HPT.out] at HA5
    clear p5 f5 k5 HAA d0 d1 d2 d3 d4
    go_wp2
    go_roundw
    case rel => exact ⟨k + 1, by omega, by go_num, _, HA5.out⟩
    case measure => simp [intOf]; omega
end Go.Proofs.YtocpagpkpibmaaaDoor

/-
  OWN WORK (by mkpnt.py). The law's may (layer 18).
-/
namespace Go.Proofs.YtocpagpkpibmaaaDoor
open Go.RowKit
set_option linter.unusedVariables false
set_option linter.unusedSimpArgs false

theorem blk_over_aux {g : Nat} {t : TypeId} : ∀ (vs pre post old : List Value) (w : World), old.length = vs.length → Blk w g t (pre ++ old ++ post) → Blk (w.setCells g pre.length vs) g t (pre ++ vs ++ post)
  | [], pre, post, old, w, hl, h => by
    obtain rfl : old = [] := List.eq_nil_of_length_eq_zero (by simpa using hl)
    exact h
  | v :: r, pre, post, o :: old, w, hl, h => by
    obtain ⟨q, -⟩ := h.set pre.length v
    have e : (pre ++ (o :: old) ++ post).set pre.length v = (pre ++ [v]) ++ old ++ post := by
      rw [List.append_assoc, List.set_append_right _ _ (Nat.le_refl _), Nat.sub_self]
      simp
    rw [e] at q
    have ih := blk_over_aux r (pre ++ [v]) post old _ (by simpa using hl) q
    rw [World.setCells]
    rw [show (pre ++ [v]).length = pre.length + 1 by simp] at ih
    simpa using ih
theorem blk_over {w : World} {g : Nat} {t : TypeId} {old : List Value} (h : Blk w g t old) (vs : List Value) (hl : vs.length = old.length) : Blk (w.setCells g 0 vs) g t vs := by
  have q := blk_over_aux vs [] [] old w hl.symm (by simpa using h)
  simpa using q
theorem over6 {w : World} {g : Nat} {t : TypeId} {Z L : List Value} (h : Blk w g t Z) (hl : L.length = Z.length) : w.there g 0 L.toArray.size ∧ Blk (w.setCells g 0 L) g t L ∧ Kept [g] w (w.setCells g 0 L) := by
  refine ⟨fun j hj => ?_, blk_over h L hl, kept_setCells g _ 0 w⟩
  rw [List.size_toArray, hl] at hj
  obtain ⟨x, hx⟩ : ∃ x, Z[j]? = some x := ⟨_, List.getElem?_eq_getElem hj⟩
  have c := h.cell hx
  refine ⟨?_, h.free _⟩
  rw [Nat.zero_add, c]; rfl
/-- the law's Config that may be, made of any -/
def mayF (c : Cf) : Cf := ⟨1 + c.pages % 16, 1 + c.slots % 8, 1024 + c.log % 64513, 2 + c.frames % 15, 1 + c.table % 8, 1 + c.keys % 1048576⟩
theorem mayF_may (c : Cf) : mayC (mayF c) := by
  unfold mayC mayF
  refine ⟨?_, ?_, ?_, ?_, ?_, ?_⟩ <;> (try unfold Go.Proofs.YtocpagpkpibmaaaDoor.inR) <;> dsimp only <;> omega
set_option maxRecDepth 20000 in
set_option maxHeartbeats 6400000 in
theorem may_any (c : Cf) (w : World) : Calls Tryd.prog 11 #[.agg #[.int .i64 c.pages, .int .i64 c.slots, .int .i64 c.log, .int .i64 c.frames, .int .i64 c.table, .int .i64 c.keys]] w fun e w' => e = .returned (.agg #[.int .i64 (mayF c).pages, .int .i64 (mayF c).slots, .int .i64 (mayF c).log, .int .i64 (mayF c).frames, .int .i64 (mayF c).table, .int .i64 (mayF c).keys]) ∧ Kept [] w w' := by
  obtain ⟨r0, hr0⟩ : ∃ r, r = c.pages % 16 := ⟨_, rfl⟩
  obtain ⟨r1, hr1⟩ : ∃ r, r = c.slots % 8 := ⟨_, rfl⟩
  obtain ⟨r2, hr2⟩ : ∃ r, r = c.log % 64513 := ⟨_, rfl⟩
  obtain ⟨r3, hr3⟩ : ∃ r, r = c.frames % 15 := ⟨_, rfl⟩
  obtain ⟨r4, hr4⟩ : ∃ r, r = c.table % 8 := ⟨_, rfl⟩
  obtain ⟨r5, hr5⟩ : ∃ r, r = c.keys % 1048576 := ⟨_, rfl⟩
  have e0 : IntKind.i64.wrap (1 + r0) = 1 + r0 := wrap_i64_of (by omega) (by omega)
  have e1 : IntKind.i64.wrap (1 + r1) = 1 + r1 := wrap_i64_of (by omega) (by omega)
  have e2 : IntKind.i64.wrap (1024 + r2) = 1024 + r2 := wrap_i64_of (by omega) (by omega)
  have e3 : IntKind.i64.wrap (2 + r3) = 2 + r3 := wrap_i64_of (by omega) (by omega)
  have e4 : IntKind.i64.wrap (1 + r4) = 1 + r4 := wrap_i64_of (by omega) (by omega)
  have e5 : IntKind.i64.wrap (1 + r5) = 1 + r5 := wrap_i64_of (by omega) (by omega)
  have HRS := @hideH _ (show Value.agg #[.int .i64 (mayF c).pages, .int .i64 (mayF c).slots, .int .i64 (mayF c).log, .int .i64 (mayF c).frames, .int .i64 (mayF c).table, .int .i64 (mayF c).keys] = .agg #[.int .i64 (1 + r0), .int .i64 (1 + r1), .int .i64 (1024 + r2), .int .i64 (2 + r3), .int .i64 (1 + r4), .int .i64 (1 + r5)] by unfold mayF; dsimp only; rw [hr0, hr1, hr2, hr3, hr4, hr5])
  have HQ0 := @hideH _ (fun w => rest_any c.pages 16 w (by omega) (by omega))
  have HQ1 := @hideH _ (fun w => rest_any c.slots 8 w (by omega) (by omega))
  have HQ2 := @hideH _ (fun w => rest_any c.log 64513 w (by omega) (by omega))
  have HQ3 := @hideH _ (fun w => rest_any c.frames 15 w (by omega) (by omega))
  have HQ4 := @hideH _ (fun w => rest_any c.table 8 w (by omega) (by omega))
  have HQ5 := @hideH _ (fun w => rest_any c.keys 1048576 w (by omega) (by omega))
  rw [← hr0] at HQ0
  rw [← hr1] at HQ1
  rw [← hr2] at HQ2
  rw [← hr3] at HQ3
  rw [← hr4] at HQ4
  rw [← hr5] at HQ5
  clear hr0 hr1 hr2 hr3 hr4 hr5
  obtain ⟨w1, hw1⟩ : ∃ wx, wx = w.alloc (.cells #[.int .i64 c.pages, .int .i64 c.slots, .int .i64 c.log, .int .i64 c.frames, .int .i64 c.table, .int .i64 c.keys] 39) := ⟨_, rfl⟩
  have k1 : Kept [] w w1 := by rw [hw1]; exact (Kept.refl [] w).alloc _
  have s1 : w1.heap.size = w.heap.size + 1 := by rw [hw1, World.size_alloc]
  have B1 : Blk w1 w.heap.size 39 [.int .i64 c.pages, .int .i64 c.slots, .int .i64 c.log, .int .i64 c.frames, .int .i64 c.table, .int .i64 c.keys] := by rw [hw1]; exact Blk.new w _ _
  obtain ⟨w2, hw2⟩ : ∃ wx, wx = w1.alloc (.cells #[.int .i64 0, .int .i64 0, .int .i64 0, .int .i64 0, .int .i64 0, .int .i64 0] 39) := ⟨_, rfl⟩
  have k2 : Kept [] w1 w2 := by rw [hw2]; exact (Kept.refl [] w1).alloc _
  have B2 : Blk w2 w1.heap.size 39 [.int .i64 0, .int .i64 0, .int .i64 0, .int .i64 0, .int .i64 0, .int .i64 0] := by rw [hw2]; exact Blk.new w1 _ _
  rw [s1] at B2
  have y0 := (B1.kept k2 (by simp)).cell (j := 0) rfl
  have y1 := (B1.kept k2 (by simp)).cell (j := 1) rfl
  have y2 := (B1.kept k2 (by simp)).cell (j := 2) rfl
  have y3 := (B1.kept k2 (by simp)).cell (j := 3) rfl
  have y4 := (B1.kept k2 (by simp)).cell (j := 4) rfl
  have y5 := (B1.kept k2 (by simp)).cell (j := 5) rfl
  have HB2 := @hideH _ B2
  have HK2 := @hideH _ (k1.then k2)
  clear B1 B2 k1 k2
  go_enter Tryd.func11, Tryd.ntmps11
  go_upto_region 1 with fail
  rw [← hw1, ← hw2]
  clear hw1 hw2 s1
  have kx : Kept [] w2 w2.drew := (Kept.refl [] w2).drew
  refine wp_region_late (fun w' => w'.cell? ⟨w.heap.size, 0, none⟩ = some (.int .i64 c.pages) ∧ w'.cell? ⟨w.heap.size, 1, none⟩ = some (.int .i64 c.slots) ∧ w'.cell? ⟨w.heap.size, 2, none⟩ = some (.int .i64 c.log) ∧ w'.cell? ⟨w.heap.size, 3, none⟩ = some (.int .i64 c.frames) ∧ w'.cell? ⟨w.heap.size, 4, none⟩ = some (.int .i64 c.table) ∧ w'.cell? ⟨w.heap.size, 5, none⟩ = some (.int .i64 c.keys)) 29 (by kernel_rfl) ?_
  have hS : w2.drew.cell? ⟨w.heap.size, 0, none⟩ = some (.int .i64 c.pages) ∧ w2.drew.cell? ⟨w.heap.size, 1, none⟩ = some (.int .i64 c.slots) ∧ w2.drew.cell? ⟨w.heap.size, 2, none⟩ = some (.int .i64 c.log) ∧ w2.drew.cell? ⟨w.heap.size, 3, none⟩ = some (.int .i64 c.frames) ∧ w2.drew.cell? ⟨w.heap.size, 4, none⟩ = some (.int .i64 c.table) ∧ w2.drew.cell? ⟨w.heap.size, 5, none⟩ = some (.int .i64 c.keys) := ⟨kx.cell y0 (by simp), kx.cell y1 (by simp), kx.cell y2 (by simp), kx.cell y3 (by simp), kx.cell y4 (by simp), kx.cell y5 (by simp)⟩
  obtain ⟨wd, hwd⟩ : ∃ x, x = w2.drew := ⟨_, rfl⟩
  have HBD := @hideH _ (HB2.out.kept kx (by simp))
  have HKD := @hideH _ (HK2.out.then kx)
  rw [← hwd] at hS HBD HKD ⊢
  clear hwd kx y0 y1 y2 y3 y4 y5
  refine wpAnyZ_take 0 (v := ?v0) rfl (by kernel_rfl) (by kernel_rfl) (by kernel_rfl) (by kernel_rfl) (fun _ _ _ h => h) (by rfl) ?hy0 hS ?rest0
  case hy0 => (intro wx hSx; (try dsimp only at hSx); go_simp; (try with_reducible rfl))
  (try simp only [Act.put, List.setIfInBounds_toArray, List.set_cons_zero, List.set_cons_succ])
  refine wpAnyZ_take 1 (v := ?v1) rfl (by kernel_rfl) (by kernel_rfl) (by kernel_rfl) (by kernel_rfl) (fun _ _ _ h => h) (by rfl) ?hy1 hS ?rest1
  case hy1 => (intro wx hSx; (try dsimp only at hSx); go_simp; (try with_reducible rfl))
  (try simp only [Act.put, List.setIfInBounds_toArray, List.set_cons_zero, List.set_cons_succ])
  refine wpAnyZ_take 2 (v := ?v2) rfl (by kernel_rfl) (by kernel_rfl) (by kernel_rfl) (by kernel_rfl) (fun _ _ _ h => h) (by rfl) ?hy2 hS ?rest2
  case hy2 => (intro wx hSx; (try dsimp only at hSx); go_simp; (try with_reducible rfl))
  (try simp only [Act.put, List.setIfInBounds_toArray, List.set_cons_zero, List.set_cons_succ])
  refine wpAnyZ_take 5 (v := ?v5) rfl (by kernel_rfl) (by kernel_rfl) (by kernel_rfl) (by kernel_rfl) (fun _ _ _ h => h) (by rfl) ?hy5 hS ?rest5
  case hy5 => (intro wx hSx; (try dsimp only at hSx); go_simp; (try with_reducible rfl))
  (try simp only [Act.put, List.setIfInBounds_toArray, List.set_cons_zero, List.set_cons_succ])
  refine wpAnyZ_take 6 (v := ?v6) rfl (by kernel_rfl) (by kernel_rfl) (by kernel_rfl) (by kernel_rfl) (fun _ _ _ h => h) (by rfl) ?hy6 hS ?rest6
  case hy6 => (intro wx hSx; (try dsimp only at hSx); go_simp; (try with_reducible rfl))
  (try simp only [Act.put, List.setIfInBounds_toArray, List.set_cons_zero, List.set_cons_succ])
  refine wpAnyZ_take 7 (v := ?v7) rfl (by kernel_rfl) (by kernel_rfl) (by kernel_rfl) (by kernel_rfl) (fun _ _ _ h => h) (by rfl) ?hy7 hS ?rest7
  case hy7 => (intro wx hSx; (try dsimp only at hSx); go_simp; (try with_reducible rfl))
  (try simp only [Act.put, List.setIfInBounds_toArray, List.set_cons_zero, List.set_cons_succ])
  refine wpAnyZ_take 10 (v := ?v10) rfl (by kernel_rfl) (by kernel_rfl) (by kernel_rfl) (by kernel_rfl) (fun _ _ _ h => h) (by rfl) ?hy10 hS ?rest10
  case hy10 => (intro wx hSx; (try dsimp only at hSx); go_simp; (try with_reducible rfl))
  (try simp only [Act.put, List.setIfInBounds_toArray, List.set_cons_zero, List.set_cons_succ])
  refine wpAnyZ_take 11 (v := ?v11) rfl (by kernel_rfl) (by kernel_rfl) (by kernel_rfl) (by kernel_rfl) (fun _ _ _ h => h) (by rfl) ?hy11 hS ?rest11
  case hy11 => (intro wx hSx; (try dsimp only at hSx); go_simp; (try with_reducible rfl))
  (try simp only [Act.put, List.setIfInBounds_toArray, List.set_cons_zero, List.set_cons_succ])
  refine wpAnyZ_take 12 (v := ?v12) rfl (by kernel_rfl) (by kernel_rfl) (by kernel_rfl) (by kernel_rfl) (fun _ _ _ h => h) (by rfl) ?hy12 hS ?rest12
  case hy12 => (intro wx hSx; (try dsimp only at hSx); go_simp; (try with_reducible rfl))
  (try simp only [Act.put, List.setIfInBounds_toArray, List.set_cons_zero, List.set_cons_succ])
  refine wpAnyZ_take 16 (v := ?v16) rfl (by kernel_rfl) (by kernel_rfl) (by kernel_rfl) (by kernel_rfl) (fun _ _ _ h => h) (by rfl) ?hy16 hS ?rest16
  case hy16 => (intro wx hSx; (try dsimp only at hSx); go_simp; (try with_reducible rfl))
  (try simp only [Act.put, List.setIfInBounds_toArray, List.set_cons_zero, List.set_cons_succ])
  refine wpAnyZ_take 17 (v := ?v17) rfl (by kernel_rfl) (by kernel_rfl) (by kernel_rfl) (by kernel_rfl) (fun _ _ _ h => h) (by rfl) ?hy17 hS ?rest17
  case hy17 => (intro wx hSx; (try dsimp only at hSx); go_simp; (try with_reducible rfl))
  (try simp only [Act.put, List.setIfInBounds_toArray, List.set_cons_zero, List.set_cons_succ])
  refine wpAnyZ_take 20 (v := ?v20) rfl (by kernel_rfl) (by kernel_rfl) (by kernel_rfl) (by kernel_rfl) (fun _ _ _ h => h) (by rfl) ?hy20 hS ?rest20
  case hy20 => (intro wx hSx; (try dsimp only at hSx); go_simp; (try with_reducible rfl))
  (try simp only [Act.put, List.setIfInBounds_toArray, List.set_cons_zero, List.set_cons_succ])
  refine wpAnyZ_take 21 (v := ?v21) rfl (by kernel_rfl) (by kernel_rfl) (by kernel_rfl) (by kernel_rfl) (fun _ _ _ h => h) (by rfl) ?hy21 hS ?rest21
  case hy21 => (intro wx hSx; (try dsimp only at hSx); go_simp; (try with_reducible rfl))
  (try simp only [Act.put, List.setIfInBounds_toArray, List.set_cons_zero, List.set_cons_succ])
  refine wpAnyZ_take 24 (v := ?v24) rfl (by kernel_rfl) (by kernel_rfl) (by kernel_rfl) (by kernel_rfl) (fun _ _ _ h => h) (by rfl) ?hy24 hS ?rest24
  case hy24 => (intro wx hSx; (try dsimp only at hSx); go_simp; (try with_reducible rfl))
  (try simp only [Act.put, List.setIfInBounds_toArray, List.set_cons_zero, List.set_cons_succ])
  refine wpAnyZ_take 25 (v := ?v25) rfl (by kernel_rfl) (by kernel_rfl) (by kernel_rfl) (by kernel_rfl) (fun _ _ _ h => h) (by rfl) ?hy25 hS ?rest25
  case hy25 => (intro wx hSx; (try dsimp only at hSx); go_simp; (try with_reducible rfl))
  (try simp only [Act.put, List.setIfInBounds_toArray, List.set_cons_zero, List.set_cons_succ])
  refine wpAnyZ_one 3 rfl (by kernel_rfl) (fun K hK => ?_)
  go_simp
  refine (HQ0.out _).mono ?_
  rintro e wb ⟨rfl, hwb⟩
  rw [hwb]
  clear hwb wb
  dsimp only
  refine hK _ _ (fun _ => hS) ?_
  clear hK K
  (try simp only [Act.put, List.setIfInBounds_toArray, List.set_cons_zero, List.set_cons_succ])
  refine wpAnyZ_take 4 (v := ?v4) rfl (by kernel_rfl) (by kernel_rfl) (by kernel_rfl) (by kernel_rfl) (fun _ _ _ h => h) (by rfl) ?hy4 hS ?rest4
  case hy4 => (intro wx hSx; (try dsimp only at hSx); go_simp; (try with_reducible rfl))
  (try simp only [Act.put, List.setIfInBounds_toArray, List.set_cons_zero, List.set_cons_succ])
  refine wpAnyZ_one 8 rfl (by kernel_rfl) (fun K hK => ?_)
  go_simp
  refine (HQ1.out _).mono ?_
  rintro e wb ⟨rfl, hwb⟩
  rw [hwb]
  clear hwb wb
  dsimp only
  refine hK _ _ (fun _ => hS) ?_
  clear hK K
  (try simp only [Act.put, List.setIfInBounds_toArray, List.set_cons_zero, List.set_cons_succ])
  refine wpAnyZ_take 9 (v := ?v9) rfl (by kernel_rfl) (by kernel_rfl) (by kernel_rfl) (by kernel_rfl) (fun _ _ _ h => h) (by rfl) ?hy9 hS ?rest9
  case hy9 => (intro wx hSx; (try dsimp only at hSx); go_simp; (try with_reducible rfl))
  (try simp only [Act.put, List.setIfInBounds_toArray, List.set_cons_zero, List.set_cons_succ])
  refine wpAnyZ_one 13 rfl (by kernel_rfl) (fun K hK => ?_)
  go_simp
  refine (HQ2.out _).mono ?_
  rintro e wb ⟨rfl, hwb⟩
  rw [hwb]
  clear hwb wb
  dsimp only
  refine hK _ _ (fun _ => hS) ?_
  clear hK K
  (try simp only [Act.put, List.setIfInBounds_toArray, List.set_cons_zero, List.set_cons_succ])
  refine wpAnyZ_take 14 (v := ?v14) rfl (by kernel_rfl) (by kernel_rfl) (by kernel_rfl) (by kernel_rfl) (fun _ _ _ h => h) (by rfl) ?hy14 hS ?rest14
  case hy14 => (intro wx hSx; (try dsimp only at hSx); go_simp; (try with_reducible rfl))
  (try simp only [Act.put, List.setIfInBounds_toArray, List.set_cons_zero, List.set_cons_succ])
  refine wpAnyZ_take 15 (v := ?v15) rfl (by kernel_rfl) (by kernel_rfl) (by kernel_rfl) (by kernel_rfl) (fun _ _ _ h => h) (by rfl) ?hy15 hS ?rest15
  case hy15 => (intro wx hSx; (try dsimp only at hSx); go_simp; (try with_reducible rfl))
  (try simp only [Act.put, List.setIfInBounds_toArray, List.set_cons_zero, List.set_cons_succ])
  refine wpAnyZ_one 18 rfl (by kernel_rfl) (fun K hK => ?_)
  go_simp
  refine (HQ3.out _).mono ?_
  rintro e wb ⟨rfl, hwb⟩
  rw [hwb]
  clear hwb wb
  dsimp only
  refine hK _ _ (fun _ => hS) ?_
  clear hK K
  (try simp only [Act.put, List.setIfInBounds_toArray, List.set_cons_zero, List.set_cons_succ])
  refine wpAnyZ_take 19 (v := ?v19) rfl (by kernel_rfl) (by kernel_rfl) (by kernel_rfl) (by kernel_rfl) (fun _ _ _ h => h) (by rfl) ?hy19 hS ?rest19
  case hy19 => (intro wx hSx; (try dsimp only at hSx); go_simp; (try with_reducible rfl))
  (try simp only [Act.put, List.setIfInBounds_toArray, List.set_cons_zero, List.set_cons_succ])
  refine wpAnyZ_one 22 rfl (by kernel_rfl) (fun K hK => ?_)
  go_simp
  refine (HQ4.out _).mono ?_
  rintro e wb ⟨rfl, hwb⟩
  rw [hwb]
  clear hwb wb
  dsimp only
  refine hK _ _ (fun _ => hS) ?_
  clear hK K
  (try simp only [Act.put, List.setIfInBounds_toArray, List.set_cons_zero, List.set_cons_succ])
  refine wpAnyZ_take 23 (v := ?v23) rfl (by kernel_rfl) (by kernel_rfl) (by kernel_rfl) (by kernel_rfl) (fun _ _ _ h => h) (by rfl) ?hy23 hS ?rest23
  case hy23 => (intro wx hSx; (try dsimp only at hSx); go_simp; (try with_reducible rfl))
  (try simp only [Act.put, List.setIfInBounds_toArray, List.set_cons_zero, List.set_cons_succ])
  refine wpAnyZ_one 26 rfl (by kernel_rfl) (fun K hK => ?_)
  go_simp
  refine (HQ5.out _).mono ?_
  rintro e wb ⟨rfl, hwb⟩
  rw [hwb]
  clear hwb wb
  dsimp only
  refine hK _ _ (fun _ => hS) ?_
  clear hK K
  (try simp only [Act.put, List.setIfInBounds_toArray, List.set_cons_zero, List.set_cons_succ])
  refine wpAnyZ_one 27 rfl (by kernel_rfl) (fun K hK => ?_)
  go_simp
  refine hK _ _ (fun _ => hS) ?_
  clear hK K
  (try simp only [Act.put, List.setIfInBounds_toArray, List.set_cons_zero, List.set_cons_succ])
  refine wpAnyZ_one 28 rfl (by kernel_rfl) (fun K hK => ?_)
  go_simp
  refine hK _ _ (fun _ => hS) ?_
  clear hK K
  (try simp only [Act.put, List.setIfInBounds_toArray, List.set_cons_zero, List.set_cons_succ])
  obtain ⟨ht, B3, k3⟩ := over6 (L := [.int .i64 (1 + r0), .int .i64 (1 + r1), .int .i64 (1024 + r2), .int .i64 (2 + r3), .int .i64 (1 + r4), .int .i64 (1 + r5)]) HBD.out rfl
  obtain ⟨w3, hw3⟩ : ∃ x, x = wd.setCells (w.heap.size + 1) 0 [.int .i64 (1 + r0), .int .i64 (1 + r1), .int .i64 (1024 + r2), .int .i64 (2 + r3), .int .i64 (1 + r4), .int .i64 (1 + r5)] := ⟨_, rfl⟩
  rw [← hw3] at B3 k3
  have HB3 := @hideH _ B3
  have HK3 := @hideH _ (HKD.out.trans k3 (fun y hy => .inr (by simp at hy; omega)))
  clear B3 k3
  refine wpAnyZ_one 29 rfl (by kernel_rfl) (fun K hK => ?_)
  rw [if_pos (by rfl)]
  refine wp_store_mid 39 (.tmp 2) (.tmp 31) rfl (w.heap.size + 1) 0 #[.int .i64 (1 + r0), .int .i64 (1 + r1), .int .i64 (1024 + r2), .int .i64 (2 + r3), .int .i64 (1 + r4), .int .i64 (1 + r5)] (by rfl) (by rfl) ht (by kernel_rfl) (by simp [Value.oneCell']) ?_
  refine hK _ _ (fun h => absurd rfl h) ?_
  clear hK K
  rw [show (#[.int .i64 (1 + r0), .int .i64 (1 + r1), .int .i64 (1024 + r2), .int .i64 (2 + r3), .int .i64 (1 + r4), .int .i64 (1 + r5)] : Array Value).toList = [.int .i64 (1 + r0), .int .i64 (1 + r1), .int .i64 (1024 + r2), .int .i64 (2 + r3), .int .i64 (1 + r4), .int .i64 (1 + r5)] from rfl, ← hw3]
  clear hw3 ht hS
  (try simp only [Act.put, List.setIfInBounds_toArray, List.set_cons_zero, List.set_cons_succ])
  refine wpAnyZ_done (by kernel_rfl) ?_ _
  go_wp2
  refine bodyPost_ret (v := .agg #[.int .i64 (1 + r0), .int .i64 (1 + r1), .int .i64 (1024 + r2), .int .i64 (2 + r3), .int .i64 (1 + r4), .int .i64 (1 + r5)]) (results_cell_row Tryd.results11 _ w3 (w.heap.size + 1) 39 _ (0, 0) _ (by rfl) HB3.out Tryd.underlying39 rfl (by kernel_rfl)) rfl ?_
  exact ⟨by rw [HRS.out], HK3.out⟩
end Go.Proofs.YtocpagpkpibmaaaDoor

