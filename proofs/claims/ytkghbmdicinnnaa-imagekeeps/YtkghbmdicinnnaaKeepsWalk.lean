/-
  OWN WORK. ImageKeeps.
-/
import Derived.Test.YtkghbmdicinnnaaRows
import Derived.Test.YtkghbmdicinnnaaImgApart
namespace Go.Proofs.Ytkghbmdicinnnaa
open Go.RowKit
set_option linter.unusedVariables false

theorem wrap_u8b {x : Nat} (h : x < 2 ^ 8) : IntKind.u8.wrap (x : Int) = (x : Int) := by
  simp only [IntKind.wrap, IntKind.bits, IntKind.signed]
  have : 2 ^ 8 = 256 := by decide
  simp
  omega
theorem xor55 (y : UInt8) : bits .xor .u8 (y.toNat : Int) 85 = ((y ^^^ 0x55).toNat : Int) := by
  have h1 : (BitVec.ofInt 8 (y.toNat : Int)).toNat = y.toNat := by
    rw [BitVec.ofInt_natCast, BitVec.toNat_ofNat]; exact Nat.mod_eq_of_lt y.toNat_lt
  have h2 : (BitVec.ofInt 8 (85 : Int)).toNat = 85 := by decide
  show IntKind.u8.wrap ((BitVec.ofInt 8 (y.toNat : Int) ^^^ BitVec.ofInt 8 (85 : Int)).toNat : Int) = _
  rw [BitVec.toNat_xor, h1, h2, UInt8.toNat_xor]
  have hx : y.toNat ^^^ 85 < 2 ^ 8 := Nat.xor_lt_two_pow y.toNat_lt (by decide)
  have e : (0x55 : UInt8).toNat = 85 := by decide
  rw [e]
  exact wrap_u8b hx
theorem xor_ne (y : UInt8) : y ^^^ 0x55 ≠ y := fun h => by
  have h2 : y ^^^ (y ^^^ 0x55) = y ^^^ y := by rw [h]
  rw [← UInt8.xor_assoc, UInt8.xor_self, UInt8.zero_xor] at h2
  exact absurd h2 (by decide)
def flip (b : List UInt8) : List UInt8 := b.map (· ^^^ 0x55)
theorem flip_length (b : List UInt8) : (flip b).length = b.length := by simp [flip]
/-- the first k bytes turned -/
def turnd (b : List UInt8) (k : Nat) : List UInt8 := flip (b.take k) ++ b.drop k
theorem turnd_zero (b : List UInt8) : turnd b 0 = b := by simp [turnd, flip]
theorem turnd_all (b : List UInt8) : turnd b b.length = flip b := by simp [turnd]
theorem turnd_length (b : List UInt8) (k : Nat) : (turnd b k).length = b.length := by simp [turnd, flip]; omega
theorem turnd_at (b : List UInt8) (k : Nat) (h : k < b.length) : (turnd b k ++ spare)[k]? = some b[k] := by
  rw [List.getElem?_append_left (by rw [turnd_length]; exact h)]
  unfold turnd
  rw [List.getElem?_append_right (by rw [flip_length]; simp; omega), List.getElem?_drop, flip_length]
  rw [show k + (k - (b.take k).length) = k by simp; omega]
  exact List.getElem?_eq_getElem h
theorem turnd_succ (b : List UInt8) (k : Nat) (h : k < b.length) : (turnd b k ++ spare).set k (b[k] ^^^ 0x55) = turnd b (k + 1) ++ spare := by
  rw [List.set_append_left _ _ (by rw [turnd_length]; exact h)]
  congr 1
  unfold turnd
  have e : (flip (b.take k)).length = k := by rw [flip_length]; simp; omega
  rw [List.set_append_right _ _ (by omega), e, Nat.sub_self, List.drop_eq_getElem_cons h, List.set_cons_zero, List.take_succ_eq_append_getElem h]
  unfold flip
  rw [List.map_append, List.append_assoc]
  rfl
theorem flip_parts (b : List UInt8) : PartAns (flip b) b 0 b.length 0 := by
  have hne : ∀ i, i < b.length → (flip b)[i]? ≠ b[i]? := fun i hi e => by
    rw [List.getElem?_eq_getElem hi] at e
    simp [flip, hi] at e
    exact xor_ne _ e
  exact .inr ⟨flip_length b, rfl, ⟨Nat.zero_le _, by rw [flip_length]; omega, fun i h1 h2 => by rw [flip_length] at h1; omega, fun h => ⟨hne 0 h, hne _ (by omega)⟩, fun h => h.symm⟩⟩
theorem keep_cut (b : List UInt8) : cutL b 0 b.length = b ∧ cutE b 0 b.length = 0 := by
  have := cut_of (a := b) (f := 0) (t := b.length) (by omega) (by omega)
  simpa using this
theorem keep_end (b : List UInt8) : layL b b.length [] = b ∧ layE b b.length [] = 0 := by
  have := layL_good (a := b) (r := []) (f := b.length) (by simp)
  rwa [over_nil] at this
theorem keep_front (b : List UInt8) : layL b 0 [] = b ∧ layE b 0 [] = 0 := by
  have := layL_good (a := b) (r := []) (f := 0) (by simp)
  rwa [over_nil] at this
theorem keep_self (r : List UInt8) : layL r 0 r = r ∧ layE r 0 r = 0 := by
  have := layL_good (a := r) (r := r) (f := 0) (by simp)
  rwa [show over r 0 r = r by simp [over]] at this
/-- a literal's slices as a row of one's own -/
theorem own_of_slices (w : World) (e base : Nat) (vs : List Value) (n : Nat) (hn : vs.length = n) (hb : base ≤ w.heap.size) (hl : n ≤ maxLen) (cs : Array Value) (hcs : cs = vs.toArray) : (w.alloc (.cells cs e)).ownsRow base e 1 (.slice (some ⟨w.heap.size, 0, none⟩) n n) n vs := by
  subst hn
  subst hcs
  exact ⟨by simp, .inr ⟨w.heap.size, vs.length, _, rfl, hb, heap_alloc_new w _, Nat.le_refl _, hl, by simp, by simp⟩⟩
theorem strs_at (w : World) (e : TypeId) (cs : Array Value) (ls : List (List UInt8)) (hcs : cs = (ls.map fun l => Value.string ⟨l.toArray⟩).toArray) (H : Nat) (hH : w.heap.size = H) (j : Nat) (l : List UInt8) (hl : ls[j]? = some l) : (w.alloc (.cells cs e)).cell? ⟨H, j, none⟩ = some (.string ⟨l.toArray⟩) := by
  subst hcs; subst hH
  have := World.news_of_block (heap_alloc_new w (.cells (ls.map fun l => Value.string ⟨l.toArray⟩).toArray e)) j (.string ⟨l.toArray⟩) (by simp [hl])
  have e : (⟨w.heap.size, 0, none⟩ : Addr).add j = ⟨w.heap.size, j, none⟩ := by rw [add_none rfl]; simp
  rw [e] at this
  exact this
theorem blocks_ge {w : World} {base : Nat} {vs : List Value} {ls : List (List UInt8)} (F : Fam w base vs ls) (x : Nat) (h : x ∈ blocks vs) : base ≤ x := (F.not8 h).2.1
theorem keeps_nn (b r : List UInt8) (hb : b.length ≤ 140737488351232) (hr : r.length ≤ 140737488351232) (j : Nat) : nn [b, b, r, b, b] j ≤ 140737488351232 := by
  unfold nn
  match j with
  | 0 => exact hb
  | 1 => exact hb
  | 2 => exact hr
  | 3 => exact hb
  | 4 => exact hb
  | j + 5 => simp

set_option maxRecDepth 100000 in
set_option maxHeartbeats 8000000 in
theorem imageKeeps_walk (u v : Value) (b r : List UInt8) (w : World) (hu : Bs w u b) (hv : Bs w v r) (ha : b.length ≤ 140737488351232) (hb : r.length ≤ 140737488351232) :
    Calls Try.prog 7 #[u, v] w fun e w' => e = .returned (.bool true) ∧ Kept [] w w' := by
  have HA : Hid (b.length ≤ 140737488351232) := ha
  have HB : Hid (r.length ≤ 140737488351232) := hb
  clear ha hb
  obtain ⟨pu, cu, rfl, -⟩ := id hu
  obtain ⟨pv, cv, rfl, -⟩ := id hv
  go_enter Try.func7, Try.ntmps7
  go_wp2_with fail
  refine (lent_any _ b _ hu (by have := HA.out; omega)).mono ?_
  rintro e w1 ⟨x, rfl, O1, k1⟩
  go_wp2_with fail
  refine (lent_any _ r _ (hv.kept k1) (by have := HB.out; omega)).mono ?_
  rintro e w2 ⟨y, rfl, O2, k2⟩
  have O1 := own_of_kept O1 k2 (by simp)
  have kk := k1.then k2
  have hk1 := k1.size
  clear k1 k2
  rcases id O1.2 with ⟨_, h0⟩ | ⟨bx, cx, cur1, rfl, hbx, -, hx, -⟩
  · omega
  · rcases id O2.2 with ⟨_, h0⟩ | ⟨by', cy, cur2, rfl, hby, -, hy, -⟩
    · omega
    · obtain ⟨cutx, Bx⟩ := lent_cut (P := Try.prog) 22 5 Try.underlying22 (by kernel_rfl) O1
      obtain ⟨cuty, By⟩ := lent_cut (P := Try.prog) 22 5 Try.underlying22 (by kernel_rfl) O2
      have hcx : (b.length : Int) ≤ (cx : Int) := by omega
      have hcy : (r.length : Int) ≤ (cy : Int) := by omega
      have h0a : (0 : Int) ≤ (b.length : Int) := by omega
      have h0b : (0 : Int) ≤ (r.length : Int) := by omega
      go_wp2_with fail
      refine (cut_tot _ b 0 b.length _ Bx (by have := HA.out; omega)).mono ?_
      rintro e w3 ⟨c, rfl, O3, k3⟩
      rw [(keep_cut b).2]
      rw [(keep_cut b).1] at O3
      obtain ⟨pc, cc, rfl⟩ := own_shape2 O3
      have F1 : Fam w3 w2.heap.size [Value.slice pc b.length cc] [b] := (Fam.nil w2 w2.heap.size).snoc (Nat.le_refl _) k3 (by simp) O3
      go_wp2_with fail
      refine (lay_tot _ _ b [] b.length _ (Bx.kept k3) (Bs.nil _) (by have := HA.out; omega)).mono ?_
      rintro e w4 ⟨d, rfl, O4, k4⟩
      rw [(keep_end b).2]
      rw [(keep_end b).1] at O4
      obtain ⟨pd, cd, rfl⟩ := own_shape2 O4
      have k4' := k3.then k4
      have F2 : Fam w4 w2.heap.size [Value.slice pc b.length cc, Value.slice pd b.length cd] [b, b] := F1.snoc k3.size k4 (by simp) O4
      go_wp2_with fail
      refine (lay_tot _ _ r r 0 _ (By.kept k4') (By.kept k4') (by have := HB.out; omega)).mono ?_
      rintro e w5 ⟨g, rfl, O5, k5⟩
      rw [(keep_self r).2]
      rw [(keep_self r).1] at O5
      obtain ⟨pg, cg, rfl⟩ := own_shape2 O5
      have k5' := k4'.then k5
      have F3 : Fam w5 w2.heap.size [Value.slice pc b.length cc, Value.slice pd b.length cd, Value.slice pg r.length cg] [b, b, r] := F2.snoc k4'.size k5 (by simp) O5
      go_wp2_with fail
      refine (cut_tot _ b 0 b.length _ (Bx.kept k5') (by have := HA.out; omega)).mono ?_
      rintro e w6 ⟨i, rfl, O6, k6⟩
      rw [(keep_cut b).2]
      rw [(keep_cut b).1] at O6
      obtain ⟨pi, ci, rfl⟩ := own_shape2 O6
      have k6' := k5'.then k6
      have F4 : Fam w6 w2.heap.size [Value.slice pc b.length cc, Value.slice pd b.length cd, Value.slice pg r.length cg, Value.slice pi b.length ci] [b, b, r, b] := F3.snoc k5'.size k6 (by simp) O6
      go_wp2_with fail
      refine (lay_tot _ _ b [] b.length _ (Bx.kept k6') (Bs.nil _) (by have := HA.out; omega)).mono ?_
      rintro e w7 ⟨k, rfl, O7, k7⟩
      rw [(keep_end b).2]
      rw [(keep_end b).1] at O7
      obtain ⟨pk, ck, rfl⟩ := own_shape2 O7
      have k7' := k6'.then k7
      have F5 : Fam w7 w2.heap.size [Value.slice pc b.length cc, Value.slice pd b.length cd, Value.slice pg r.length cg, Value.slice pi b.length ci, Value.slice pk b.length ck] [b, b, r, b, b] := F4.snoc k6'.size k7 (by simp) O7
      clear O3 O4 O5 O6 O7 F1 F2 F3 F4 k3 k4 k5 k6 k7 k4' k5' k6' Bx By
      go_wp2_with (go_at_call 10; refine (num_any _ _).mono ?_; rintro e w' ⟨rfl, hw'⟩; subst hw')
      refine (alive_any _).mono ?_
      rintro e w8 ⟨rfl, k8⟩
      have k28 := k7'.then k8
      have F8 := F5.kept k8 (by simp)
      have kk8 := kk.then k28
      have tb : ∀ o1, (Go.convert 22 9 (.slice pu b.length cu)).run Try.prog (w8.alloc o1) = .ok (.string ⟨b.toArray⟩) (w8.alloc o1) := fun o1 => (hu.kept (kk8.alloc o1)).text
      have tr : ∀ o1, (Go.convert 22 9 (.slice pv r.length cv)).run Try.prog (w8.alloc o1) = .ok (.string ⟨r.toArray⟩) (w8.alloc o1) := fun o1 => (hv.kept (kk8.alloc o1)).text
      have kal : ∀ o1 o2, Kept [] w8 ((w8.alloc o1).alloc o2) := fun o1 o2 => ((Kept.refl [] w8).alloc o1).alloc o2
      clear k7' k8 F5
      go_wp2_with fail
      refine (apart_any w8.heap.size 5 5 (w8.heap.size + 1) 5 [Value.slice pc b.length cc, Value.slice pd b.length cd, Value.slice pg r.length cg, Value.slice pi b.length ci, Value.slice pk b.length ck] [b, b, r, b, b] w2.heap.size _ (own_of_kept (own_of_slices w8 22 w2.heap.size _ 5 rfl k28.size (by decide) _ rfl) ((Kept.refl [] _).alloc _) (by simp)) (F8.kept (kal _ _) (by simp)) (strs_at _ 9 _ [b, b, r, b, b] rfl _ (by simp)) rfl (by decide) (Nat.le_trans k28.size (by simp; omega)) (keeps_nn b r HA.out HB.out)).mono ?_
      rintro e w9 ⟨rfl, k9⟩
      have k29 : Kept [] w2 w9 := (k28.then (kal _ _)).trans k9 (fun x hx => .inr (blocks_ge F8 x hx))
      have kk9 := kk.then k29
      clear k9 F8 kal tb tr k28 kk8
      go_wp2_with fail
      refine (whole_any _ _ (b ++ spare) b _ ((Bs.ofOwn O1).kept k29) (hu.kept kk9) (by have := HA.out; omega)).mono ?_
      rintro e w10 ⟨rfl, k10⟩
      rw [beq_self_eq_true]
      have k210 := k29.then k10
      have kk10 := kk.then k210
      go_wp2_with fail
      refine (whole_any _ _ (r ++ spare) r _ ((Bs.ofOwn O2).kept k210) (hv.kept kk10) (by have := HB.out; omega)).mono ?_
      rintro e w11 ⟨rfl, k11⟩
      rw [beq_self_eq_true]
      have k211 := k210.then k11
      have kk11 := kk.then k211
      have Ox := own_of_kept O1 k211 (by simp)
      have HU : Hid (Bs w (.slice pu b.length cu) b) := hu
      have hlen : b.length ≤ 9223372036854775806 := by have := HA.out; omega
      clear O1 O2 hv k29 k210 k211 k10 k11 kk9 kk10 kk hu cuty cutx
      go_wp2
      go_loopw [19] (fun i wr => ∃ k : Nat, k ≤ b.length ∧ i = .int .i64 k ∧ wr.ownsRow w.heap.size 5 1 (.slice (some ⟨bx, 0, none⟩) (b.length + 120) cx) (b.length + 120) (u8s (turnd b k ++ spare)) ∧ Kept [bx] w11 wr) (fun i _ => b.length - (intOf i).toNat)
      case atStart => exact ⟨0, Nat.zero_le _, rfl, by rw [turnd_zero]; exact Ox, Kept.refl _ _⟩
      case round =>
        clear Ox
        obtain ⟨k, hk, rfl, ow, kw⟩ := hrel
        by_cases hlt : k < b.length
        · have hcc := ow.cellAt k (by omega)
          rw [show (u8s (turnd b k ++ spare))[k]? = some (.int .u8 (b[k].toNat : Int)) from by simp only [u8s, List.getElem?_map, turnd_at b k hlt]; rfl] at hcc
          have hf := ow.frozenAt k
          have hxx := xor55 b[k]
          go_wp2
          obtain ⟨ow2, kw2⟩ := set_own ow k (b[k] ^^^ 0x55) _ rfl
          rw [turnd_succ b k hlt] at ow2
          go_roundw
          case rel => exact ⟨k + 1, by omega, by go_num, ow2, kw.trans kw2 (by simp)⟩
          case measure => simp [intOf]; omega
        · have ek : k = b.length := by omega
          subst ek
          rw [turnd_all] at ow
          have kkr : Kept [] w wr := kk11.trans kw (by intro x hx; simp at hx; right; omega)
          obtain ⟨-, Bl⟩ := lent_cut (P := Try.prog) 22 5 Try.underlying22 (by kernel_rfl) ow
          have fl := flip_length b
          have fc : cutL (flip b) 0 b.length = flip b ∧ cutE (flip b) 0 b.length = 0 := by have := keep_cut (flip b); rwa [fl] at this
          have HF : Hid ((flip b).length = b.length) := fl
          have HFC : Hid (cutL (flip b) 0 b.length = flip b ∧ cutE (flip b) 0 b.length = 0) := fc
          rw [fl] at Bl
          clear fl fc ow kw
          go_wp2_with fail
          refine (cut_tot _ (flip b) 0 b.length _ Bl (by rw [HF.out]; have := HA.out; omega)).mono ?_
          rintro e w12 ⟨c', rfl, O12, k12⟩
          rw [HFC.out.2]
          rw [HFC.out.1] at O12
          go_wp2_with fail
          refine (lay_tot _ _ (flip b) [] 0 _ (Bl.kept k12) (Bs.nil _) (by rw [HF.out]; have := HA.out; omega)).mono ?_
          rintro e w13 ⟨d', rfl, O13, k13⟩
          rw [(keep_front (flip b)).2]
          rw [(keep_front (flip b)).1] at O13
          have k13' := k12.then k13
          go_wp2_with fail
          refine (part_tot _ _ (flip b) b _ (Bl.kept k13') (HU.out.kept (kkr.then k13'))).mono ?_
          rintro e w14 ⟨f, t, z, rfl, hp, k14⟩
          obtain ⟨rfl, rfl, rfl⟩ := hp.uniq (flip_parts b)
          have bc := (Bs.ofOwn O12).kept (k13.then k14)
          have bd := (Bs.ofOwn O13).kept k14
          have bl := (Bl.kept k13').kept k14
          have kend := (kkr.then k13').then k14
          obtain ⟨pcc, ccc, rfl, -⟩ := id bc
          obtain ⟨pdd, cdd, rfl, -⟩ := id bd
          rw [HF.out] at *
          have t1 := bc.text
          have t2 := bd.text
          have t3 := bl.text
          clear bc bd bl Bl O12 O13 k12 k13 k14 k13' kkr hp
          go_wp2_with (go_at_call 10; refine (num_any _ _).mono ?_; rintro e w' ⟨rfl, hw'⟩; subst hw')
          go_ret
          exact ⟨rfl, kend⟩
end Go.Proofs.Ytkghbmdicinnnaa
