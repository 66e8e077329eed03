import Derived.Shelf.SlSortCmp.NoneTotal
import Derived.Sort.OwnSortedInts
import Derived.Test.YtnjfahgmebmakaaGreatDoorRows
import Derived.Test.YtnjfahgmebmakaaGreatDoorCards
import Derived.Test.YtnjfahgmebmakaaGreatDoorTie
import Derived.SevenTiedAt
import Derived.Handed
import Derived.Test.YtnjfahgmebmakaaGreatDoorC14
/-
  OWN WORK. The landed plain (layer 18): Ids.
-/
namespace Go.Proofs.YtnjfahgmebmakaaGreatDoor
open Go.RowKit Go.Maps Go.Sort Go.Shelf
set_option linter.unusedVariables false
set_option linter.unusedSimpArgs false
theorem sortsA (m : Nat) : AnyZI.SortsIn Tryz.prog sortedA_ren Fence.wide m :=
  ⟨fun blk off cap ss W hH hblk hsz => callsIn_wide.2 (AnyM.slices_Sort_int sortA blk off cap ss W hH hblk hsz),
   fun p cap W => callsIn_wide.2 (AnyM.slices_Sort_int_none sortA p cap W)⟩
/-- a row as the library tells it, as a list of numbers of one's own -/
theorem Ns.ofOwns {w : World} {base : Nat} {v : Value} {l : List Int} (h : w.ownsRow base 3 1 v l.length (l.map encZ)) : Ns w base v l := by
  obtain ⟨h1, h2⟩ := h
  unfold Ns
  have hc : i64s l = l.map encZ := rfl
  refine ⟨by rw [i64s_length]; omega, i64s_one l, ?_⟩
  rcases h2 with ⟨e, e2⟩ | ⟨g, cap, cur, e, hb, hbl, hc1, hc2, hc3, hc4⟩
  · exact ⟨none, 0, by rw [e, e2], by omega, by simp [maxLen], .inl ⟨rfl, rfl⟩⟩
  · refine ⟨some ⟨g, 0, none⟩, cap, e, hc1, hc2, .inr ⟨g, rfl, hb, ?_, fun j u hj => ?_, fun j hj => ?_⟩⟩
    · exact (Array.getElem?_eq_some_iff.1 hbl).1
    · have hjl := (List.getElem?_eq_some_iff.1 hj).1
      rw [i64s_length] at hjl
      have q : (cur.toList.take (l.length * 1))[j]? = some u := by rw [hc4]; exact hj
      rw [List.getElem?_take_of_lt (by omega), Array.getElem?_toList] at q
      simp [World.cell?, hbl, q]
    · refine ⟨?_, by simp [World.frozen?, hbl]⟩
      have : j < cur.size := by omega
      simp [World.cell?, hbl, this]
set_option maxHeartbeats 1600000 in
theorem qIds {V : Tag → Value} {g : Nat} {c : Cf} {S : St} (w : World) (h : PpP w V g c S) : Calls Tryz.prog 10 #[.pointer (some ⟨g, 0, none⟩)] w fun e w' => ∃ vi, e = .returned vi ∧ Ns w' w.heap.size vi (idsS S) ∧ Kept [] w w' := by
  obtain ⟨bo, e1, D, hO, hT, hK⟩ := h.opn
  have B := h.box
  rw [e1] at B
  have c7 := B.cell (j := 7) rfl
  have hsz := size_ks hO hT hK
  have hp := idsS_perm h.ok
  have hup := idsS_up S
  have h8 := h.ok.lenN
  have hmax : Maps.size D ≤ maxLen := by rw [hsz.2, List.length_map]; unfold maxLen; omega
  have hbytes : Maps.size D * 8 ≤ 140737488355328 := by rw [hsz.2, List.length_map]; omega
  have hbl := hO.lt
  have HR := @hideH _ (And.intro hsz.1 (And.intro hp hup))
  clear B h hT hK hp hup hsz
  refine (callsIn_wide (n := 6)).1 ?_
  have hseq : SeqGives Fence.wide 2 Tryz.prog 63 #[.pointer (some ⟨w.heap.size, 0, none⟩)] encZ (fun ss => ss.Perm (intKeys D)) (Maps.size D) (w.alloc (.cells #[.map (some bo)] 76)) :=
    AnyZI.keys_gives (ρ := keysA_ren) { keysA with } Fence.wide _ trivial rfl (by omega) w.heap.size bo _ D _ (by simp) (by simp) (by
      obtain ⟨es, clock, hb, Ft, hs, hD⟩ := hO
      exact ⟨es, clock, (Below.heap_alloc _ _ bo hbl).trans hb, Ft, hs, hD⟩)
  have cK : ∀ mb W, CallsIn Fence.wide 5 Tryz.prog 34 #[.map mb] W fun e w' => e = .returned (.func (.func 63) #[] #[.pointer (some ⟨W.heap.size, 0, none⟩)]) ∧ w' = W.alloc (.cells #[.map mb] 76) := fun mb W => AnyZI.keys_in keysA Fence.wide 5 trivial rfl mb W
  have cS := AnyZI.sorted_in sortedA Fence.wide 5 trivial trivial trivial trivial rfl (by omega) (sortsA _) (enters_of Tryz.func62 (by kernel_rfl) rfl) 63 #[.pointer (some ⟨w.heap.size, 0, none⟩)] trivial (enters_of Tryz.func63 (by kernel_rfl) rfl) _ _ hmax hbytes _ hseq
  change CallsIn _ _ Tryz.prog 33 _ _ _ at cS
  have hfK : Fence.wide.fn 34 := trivial
  have hfS : Fence.wide.fn 33 := trivial
  refine callsIn_of_wp Tryz.func10 rfl trivial ?_ rfl
  simp only [Tryz.ntmps10, List.size_toArray, List.length_cons, List.length_nil, Nat.reduceAdd, Nat.reduceSub, Array.replicate_succ, Array.replicate_zero, List.push_toArray, List.append_toArray, List.nil_append, List.cons_append]
  gi_wp2_with (first
    | (gi_at_call 34; refine (cK _ _).mono ?_; rintro e w' ⟨rfl, rfl⟩)
    | (gi_at_call 33; refine cS.mono ?_; rintro e w' ⟨v, ss, rfl, hS, hrow, hnil, hb⟩))
  go_ret
  have hlen : ss.length = (ss.mergeSort (fun x y => decide (x ≤ y))).length := by simp
  have hperm : (ss.mergeSort (fun x y => decide (x ≤ y))).Perm (idsS S) := ((List.mergeSort_perm ss _).trans (hS.trans HR.out.1.symm)).trans HR.out.2.1.symm
  have heq : ss.mergeSort (fun x y => decide (x ≤ y)) = idsS S := by
    refine hperm.eq_of_pairwise (le := fun x y : Int => x ≤ y) (fun a b _ _ h1 h2 => by omega) ?_ (HR.out.2.2.imp fun q => by omega)
    have q := List.pairwise_mergeSort (le := fun x y : Int => decide (x ≤ y)) (fun a b c h1 h2 => by simp at *; omega) (fun a b => by simp; omega) ss
    exact q.imp fun h => by simpa using h
  refine ⟨v, rfl, ?_, ?_⟩
  · rw [hlen, heq] at hrow
    exact (Ns.ofOwns hrow).mono (by simp)
  · exact ((Kept.refl [] w).alloc _).then (Kept.ofBelow hb)
end Go.Proofs.YtnjfahgmebmakaaGreatDoor

/-
  OWN WORK. The landed plain (layer 18): its State is what the laws ask for.
-/
namespace Go.Proofs.YtnjfahgmebmakaaGreatDoor
open Go.RowKit
theorem fIds {g : Nat} {F : List Nat} {c : Cf} {S : St} (w : World) (h : Pz w g F c S) : Calls Tryz.prog 10 #[.pointer (some ⟨g, 0, none⟩)] w fun e w' => ∃ vi, e = .returned vi ∧ Ns w' w.heap.size vi (idsS S) ∧ Kept [] w w' := by
  obtain ⟨V, hp, -⟩ := h
  exact qIds w hp
theorem pnOps : PnOps [0] Vr Pz where
  kept h k hX := h.kept k hX
  lt h x hx := by
    obtain ⟨V, -, -, h3, -⟩ := h
    exact h3 x hx
  ok h := by
    obtain ⟨V, hp, -⟩ := h
    exact hp.ok
  vkept hv k hX := hv.kept k (hX 0 (by simp))
  vlt hv x hx := by
    have e : x = 0 := by simpa using hx
    rw [e]; exact hv.lt
  knot h x hx := by
    have e : x = 0 := by simpa using hx
    obtain ⟨V, -, -, -, h4⟩ := h
    rw [e]; exact h4
  new c w hv := fNew c w hv
  begin_ id w hv h _ hi := fBegin id w hv h hi
  get id key w hv h hs hi hk := fGet id key w hv h hs hi hk
  put id key v w hv h hs hi hk hu := fPut id key v w hv h hs hi hk hu
  delete id key w hv h hs hi hk := fDelete id key w hv h hs hi hk
  commit id w hv h hs hi := fCommit id w hv h hs hi
  abort id w hv h _ hi := fAbort id w hv h hi
  check d w hv h _ _ := fCheck d w hv h
  renew w hv h _ := fRenew w hv h
  ids w _ h := fIds w h
  used w _ h := fUsed w h
end Go.Proofs.YtnjfahgmebmakaaGreatDoor

/-
  OWN WORK. The landed plain (layer 18): a list of entries, sorted by the library.
-/
namespace Go.Proofs.YtnjfahgmebmakaaGreatDoor
open Go.RowKit Go.Maps Go.Sort Go.Shelf Go.Lib
set_option linter.unusedVariables false
set_option linter.unusedSimpArgs false
theorem grownV {w : World} {g n : Nat} {os : Array Obj} (d : Array Value) : w.grownBy (grow (putRow id (Sort.ahead w n) g 0 d) os) (some g) := by
  refine ⟨rfl, rfl, rfl, by simp, fun k hk hne => ?_⟩
  rw [heap_grow_old _ _ (by simpa using hk)]
  have : g ≠ k := fun e => hne (by rw [e])
  simp [putRow, mapBlock, Sort.ahead, Array.getElem?_modify, this]
theorem Row.holdsV {w : World} {base sz g n c : Nat} {cs : List Value} (h : Row w base sz (.slice (some ⟨g, 0, none⟩) n c) n cs) : Holds id w g 0 cs.toArray := by
  intro j hj
  have hj' : j < cs.length := by simpa using hj
  obtain ⟨h1, h2, p, c', e, h3, h4, h5⟩ := h
  cases e
  rcases h5 with ⟨q, -⟩ | ⟨g', e, h6, h7, h8, h9⟩
  · cases q
  cases e
  have hjc : j < c * sz := Nat.lt_of_lt_of_le (by rw [← h1]; exact hj') (Nat.mul_le_mul_right sz h3)
  refine ⟨?_, by have := (h9 j hjc).2; simpa using this⟩
  rw [Nat.zero_add, h8 j cs[j] (List.getElem?_eq_getElem hj')]
  simp [hj']
theorem Row.sorted {w : World} {base sz g n c : Nat} {cs ts : List Value} (h : Row w base sz (.slice (some ⟨g, 0, none⟩) n c) n cs) (hl : ts.length = cs.length) (ho : ∀ u ∈ ts, u.oneCell' = true) (k : Nat) (os : Array Obj) : Row (grow (putRow id (Sort.ahead w k) g 0 ts.toArray) os) base sz (.slice (some ⟨g, 0, none⟩) n c) n ts ∧ Kept [g] w (grow (putRow id (Sort.ahead w k) g 0 ts.toArray) os) := by
  refine ⟨?_, (Kept.refl [g] w).grown (grownV ts.toArray) (fun j hj => .inl (by cases hj; simp))⟩
  have hH := h.holdsV
  obtain ⟨h1, h2, p, c', e, h3, h4, h5⟩ := h
  cases e
  rcases h5 with ⟨q, -⟩ | ⟨g', e, h6, h7, h8, h9⟩
  · cases q
  cases e
  have hz : g < (putRow id (Sort.ahead w k) g 0 ts.toArray).heap.size := by rw [size_putRow]; exact h7
  refine ⟨by rw [hl]; exact h1, ho, _, _, rfl, h3, h4, .inr ⟨g, rfl, h6, by rw [size_grow]; omega, fun j u hj => ?_, fun j hj => ⟨?_, ?_⟩⟩⟩
  · have hjl : j < ts.length := (List.getElem?_eq_some_iff.1 hj).1
    rw [cell?_grow _ _ _ hz]
    have q := cell?_putRow id (Sort.ahead w k) g 0 cs.toArray ts.toArray (holds_ahead _ _ _ _ _ _ hH) (by simpa using hl) j (by simpa using hjl)
    rw [Nat.zero_add] at q
    rw [q, ← hj, List.getElem?_eq_getElem hjl]
    simp [hjl]
  · rw [cell?_grow _ _ _ hz]
    by_cases hjl : j < ts.length
    · have q := cell?_putRow id (Sort.ahead w k) g 0 cs.toArray ts.toArray (holds_ahead _ _ _ _ _ _ hH) (by simpa using hl) j (by simpa using hjl)
      rw [Nat.zero_add] at q
      rw [q]; rfl
    · rw [cell?_putRow_other _ _ _ _ _ _ (.inr (.inr (by simp; omega)))]
      exact (h9 j hj).1
  · rw [frozen?_grow _ _ _ hz, frozen?_putRow]
    exact (h9 j hj).2
def encE (x : Int × Int) : List Value := [.int .i64 x.1, .int .u64 x.2]
theorem flat_ecs (l : List (Int × Int)) : flatK encE 2 l.toArray = (ecs l).toArray := by
  apply Array.ext
  · simp [flatK, ecs_length]
  · intro t h1 h2
    have ht : t < l.length * 2 := by simpa [flatK] using h1
    have hq : t / 2 < l.length := by omega
    obtain ⟨a0, a1⟩ := ecs_at (l := l) (i := t / 2) (x := l[t / 2]) (List.getElem?_eq_getElem hq)
    have e : (flatK encE 2 l.toArray)[t]'h1 = (encE l[t / 2])[t % 2]! := by
      simp [flatK, hq]
    rw [e]
    have h2' : t < (ecs l).length := by simpa using h2
    have q : (ecs l).toArray[t]'h2 = (ecs l)[t] := rfl
    rw [q]
    rcases Nat.mod_two_eq_zero_or_one t with r | r
    · have et : t / 2 * 2 = t := by omega
      rw [et, List.getElem?_eq_getElem h2'] at a0
      rw [r, Option.some.inj a0]; rfl
    · have et : t / 2 * 2 + 1 = t := by omega
      rw [et, List.getElem?_eq_getElem h2'] at a1
      rw [r, Option.some.inj a1]; rfl
theorem nan2 (a : Int) (w : World) : Calls Tryz.prog 98 #[.int .i64 a] w fun e w' => e = .returned (.bool false) ∧ w' = w := by
  go_enter Tryz.func98, Tryz.ntmps98
  go_wp2
  go_ret
  exact ⟨by simp, rfl⟩
set_option maxRecDepth 20000 in
theorem compare2 (a b : Int) (w : World) : Calls Tryz.prog 70 #[.int .i64 a, .int .i64 b] w fun e w' => e = .returned (.int .i64 (Lib.compareInt a b)) ∧ w' = w := by
  go_enter Tryz.func70, Tryz.ntmps70
  go_wp2_with fail
  refine (nan2 a w).mono ?_
  rintro e w1 ⟨rfl, hw1⟩
  subst hw1
  go_wp2_with fail
  refine (nan2 b w1).mono ?_
  rintro e w2 ⟨rfl, hw2⟩
  subst hw2
  by_cases h : a < b
  · have HC := @hideH _ (show Lib.compareInt a b = -1 by unfold Lib.compareInt; simp [h])
    go_wp2
    go_ret
    exact ⟨by rw [HC.out]; rfl, rfl⟩
  · by_cases h2 : b < a
    · have HC := @hideH _ (show Lib.compareInt a b = 1 by unfold Lib.compareInt; simp [h, h2])
      go_wp2
      go_ret
      exact ⟨by rw [HC.out]; rfl, rfl⟩
    · have HC := @hideH _ (show Lib.compareInt a b = 0 by unfold Lib.compareInt; simp [h, h2])
      go_wp2
      go_ret
      exact ⟨by rw [HC.out]; rfl, rfl⟩
set_option maxHeartbeats 1000000 in
theorem closureE (x y : Int × Int) (W : World) : Calls Tryz.prog 69 #[.agg #[.int .i64 x.1, .int .u64 x.2], .agg #[.int .i64 y.1, .int .u64 y.2]] W fun e w' => e = .returned (.int .i64 (Lib.compareInt x.1 y.1)) ∧ ∃ q os', w' = grow (W.drewN q) os' := by
  have hcon := fun W' => compare2 x.1 y.1 W'
  generalize Lib.compareInt x.1 y.1 = r at hcon ⊢
  go_enter Tryz.func69, Tryz.ntmps69
  go_wp2_with (go_at_call 70; refine (hcon _).mono ?_; rintro e w' ⟨rfl, rfl⟩)
  go_ret
  exact ⟨rfl, 0, _, by rw [alloc_eq_grow, alloc_eq_grow, grow_grow]; rfl⟩
theorem ltE (x y : Int × Int) : ltOf (fun x y : Int × Int => Lib.compareInt x.1 y.1) x y = decide (x.1 < y.1) := by
  unfold ltOf Lib.compareInt
  by_cases h1 : x.1 < y.1
  · simp [h1]
  · by_cases h2 : y.1 < x.1 <;> simp [h1, h2]
theorem swoE : SWO (ltOf fun x y : Int × Int => Lib.compareInt x.1 y.1) where
  irrefl x := by rw [ltE]; simp
  trans x y z h1 h2 := by rw [ltE] at *; simp at *; omega
  ntrans x y z h1 h2 := by rw [ltE] at *; simp at *; omega
theorem qSortE {base : Nat} {p : Option Addr} {n c : Nat} {l : List (Int × Int)} (w : World) (h : Es w base (.slice p n c) l) (hl : l.length ≤ 3600000000000) : Calls Tryz.prog 68 #[.slice p n c, .func (.func 69) #[] #[]] w fun e w' => e = .returned (.tuple #[]) ∧ ∃ l', l'.Perm l ∧ l'.Pairwise (fun a b => a.1 ≤ b.1) ∧ Es w' base (.slice p n c) l' ∧ Kept (Value.slice p n c).ownBlock.toList w w' := by
  obtain ⟨p', c', e, h3, h4⟩ := Row.shape h
  cases e
  by_cases h0 : l.length = 0
  · obtain rfl : l = [] := List.eq_nil_of_length_eq_zero h0
    refine (AnyF.slices_SortFunc_none sortE p c _ w).mono fun e w' ⟨he, hw⟩ => ?_
    subst hw
    exact ⟨he, [], .refl _, .nil, h, Kept.refl _ _⟩
  · obtain ⟨g, rfl, h6, h7, -⟩ := Row.pos h (by omega)
    have hH : HoldsK encE 2 w g 0 l.toArray := by
      unfold HoldsK
      rw [flat_ecs]
      exact Row.holdsV h
    have hcon := AnyQ.slices_SortFunc sortE 2 Tryz.isAgg47 Tryz.sizeOf47 encE (fun _ => rfl) (fun x v hv => by simp [encE] at hv; rcases hv with rfl | rfl <;> rfl) (fun x y => Lib.compareInt x.1 y.1) swoE 69 #[] g 0 c l.toArray w (enters_of Tryz.func69 (by kernel_rfl) rfl) (fun _ _ _ _ x y => closureE x y _) hH h7 (by simp; omega)
    refine hcon.mono fun e w' ⟨he, d', k, os, hp, hs, hw⟩ => ?_
    have hsz : d'.size = l.length := by simpa using hp.1
    have hln : d'.toList.length = l.length := by simpa using hsz
    have hperm : d'.toList.Perm l := by
      have q := hp.2.2
      have e1 : d'.extract 0 l.toArray.size = d' := by rw [← hp.1]; exact Array.extract_size
      have e2 : l.toArray.extract 0 l.toArray.size = l.toArray := Array.extract_size
      rw [e1, e2] at q
      simpa using q
    have hup : d'.toList.Pairwise (fun a b => a.1 ≤ b.1) := by
      refine List.pairwise_iff_getElem.2 fun i j hi hj hij => ?_
      have q := hs i j (Nat.zero_le _) hij (by simp at hj; rw [hp.1] at hj; exact hj)
      rw [ltE] at q
      have hi' : i < d'.size := by simpa using hi
      have hj' : j < d'.size := by simpa using hj
      rw [getElem!_pos d' i hi', getElem!_pos d' j hj'] at q
      have := of_decide_eq_false q
      simp only [Array.getElem_toList]
      omega
    have hfl : flatK encE 2 d' = (ecs d'.toList).toArray := by
      have q := flat_ecs d'.toList
      simpa using q
    have hrow : Row w base 2 (.slice (some ⟨g, 0, none⟩) l.length c) l.length (ecs l) := h
    obtain ⟨r1, r2⟩ := Row.sorted hrow (ts := ecs d'.toList) (by rw [ecs_length, ecs_length, hln]) (fun u hu => by
      have : ∀ (m : List (Int × Int)) (u : Value), u ∈ ecs m → u.oneCell' = true := by
        intro m
        induction m with
        | nil => intro u hu; simp [ecs] at hu
        | cons x r ih =>
          intro u hu
          simp [ecs] at hu
          rcases hu with rfl | rfl | hu
          · rfl
          · rfl
          · exact ih u hu
      exact this _ u hu) k os
    have hw' : w' = grow (putRow id (Sort.ahead w k) g 0 (ecs d'.toList).toArray) os := by
      rw [hw]
      unfold sortWorldK putRowK
      rw [hfl]
    rw [← hw'] at r1 r2
    refine ⟨he, d'.toList, hperm, hup, ?_, r2⟩
    unfold Es
    rw [hln]
    exact r1
end Go.Proofs.YtnjfahgmebmakaaGreatDoor

/-
  OWN WORK (by mkppb.py). The landed plain (layer 18): entries, Fold.
-/
namespace Go.Proofs.YtnjfahgmebmakaaGreatDoor
open Go.RowKit Go.Maps
set_option linter.unusedVariables false
set_option linter.unusedSimpArgs false
def iOf3 : Value → Int
  | .int _ q => q
  | _ => 0
/-- what a range over a map of values has met -/
structure Met (l : List (Int × Int)) (left : Lit → Bool) (vis : List (Int × Int)) : Prop where
  nd : vis.Nodup
  mem : ∀ e, e ∈ vis ↔ e ∈ l ∧ left (.int .i64 e.1) = false
theorem Met.start {D : DataW Unit} {l : List (Int × Int)} (hT : Tel D (.int .u64 0) (fV l)) (hi : ∀ e ∈ l, I64 e.1) (hr : Rise l) : Met l (Maps.has D) [] := by
  refine ⟨.nil, fun e => ⟨fun q => by simp at q, fun ⟨h1, h2⟩ => ?_⟩⟩
  rw [hT.has e.1 (hi e h1), fV_isSome, (lookE_some hr (k := e.1) (v := e.2)).2 h1] at h2
  cases h2
theorem Met.step {l : List (Int × Int)} {left : Lit → Bool} {vis : List (Int × Int)} (h : Met l left vis) (hr : Rise l) {x y : Int} (hm : (x, y) ∈ l) (hl : left (.int .i64 x) = true) : Met l (fun z => left z && !z.sameKey (.int .i64 x)) (vis ++ [(x, y)]) := by
  have hn : (x, y) ∉ vis := fun q => by have := ((h.mem _).1 q).2; rw [hl] at this; cases this
  refine ⟨List.nodup_append.2 ⟨h.nd, by simp, fun a ha b hb => by simp at hb; rw [hb]; exact fun e => hn (e ▸ ha)⟩, fun e => ?_⟩
  rw [List.mem_append, h.mem e]
  by_cases q : e.1 = x
  · constructor
    · rintro (⟨h1, h2⟩ | h1)
      · exact ⟨h1, by simp [h2]⟩
      · simp at h1; subst h1; exact ⟨hm, by simp [Lit.sameKey]⟩
    · rintro ⟨h1, -⟩
      exact .inr (by simp; exact hr.eq h1 hm q)
  · have es : (Lit.int .i64 e.1).sameKey (.int .i64 x) = false := Maps.sameKey_ne (fun r => q (by simpa using r))
    constructor
    · rintro (⟨h1, h2⟩ | h1)
      · exact ⟨h1, by simp [h2]⟩
      · simp at h1; rw [h1] at q; exact absurd rfl q
    · rintro ⟨h1, h2⟩
      simp [es] at h2
      exact .inl ⟨h1, h2⟩
theorem Met.done {l : List (Int × Int)} {left : Lit → Bool} {vis : List (Int × Int)} (h : Met l left vis) (hr : Rise l) (hl : ∀ k, left k = false) : vis.Perm l := by
  have nd : l.Nodup := hr.imp (fun {x y} q e => by rw [e] at q; omega)
  exact (List.perm_ext_iff_of_nodup h.nd nd).2 fun e => by rw [h.mem e, hl]; simp
theorem Met.few {l : List (Int × Int)} {left : Lit → Bool} {vis : List (Int × Int)} (h : Met l left vis) : vis.length ≤ l.length := List.Nodup.length_le_of_subset h.nd (fun e he => ((h.mem e).1 he).1)
set_option maxRecDepth 20000 in
set_option maxHeartbeats 6400000 in
theorem qEntries {v : Value} {M : List (Nat × List (Int × Int))} (w : World) (hM : Row w 0 1 v M.length (M.map fun x => .map (some x.1))) (hV : ∀ x ∈ M, Vm w x.1 x.2) (hl : (M.flatMap Prod.snd).length ≤ 3600000000000) : Calls Tryz.prog 38 #[v] w fun e w' => ∃ ve l', e = .returned ve ∧ l'.Perm (M.flatMap Prod.snd) ∧ l'.Pairwise (fun a b => a.1 ≤ b.1) ∧ Es w' w.heap.size ve l' ∧ Kept [] w w' := by
  obtain ⟨pm, cm, em, hncm, hcmm⟩ := hM.shape
  subst em
  obtain ⟨m, hm⟩ : ∃ m, m = M.length := ⟨_, rfl⟩
  rw [← hm] at hM ⊢
  have HM := @hideH _ (And.intro hM (And.intro hV (And.intro hl (And.intro hm (show m ≤ maxLen by rw [hm]; exact Nat.le_trans hncm hcmm)))))
  obtain ⟨infE, hin1, hin2, hin3, hin4⟩ := info_parts3 (show (Tryz.prog.info? 47).map (fun i => (i.zero, i.size, i.bytes)) = some (some (.agg #[.int .i64 0, .int .u64 0]), 2, 16) by kernel_rfl)
  have HIE := @hideH _ (And.intro hin1 (And.intro hin2 (And.intro hin3 hin4)))
  clear hin1 hin2 hin3 hin4
  clear hM hV hl hm hncm hcmm
  go_enter Tryz.func38, Tryz.ntmps38
  go_wp2
  go_loopw [3, 10] (fun vo vi wr => ∃ (i : Nat) (out : List (Int × Int)), i ≤ m ∧ vi = .int .i64 i ∧ (∃ p c, vo = .slice p out.length c) ∧ Hid (out.Perm ((M.take i).flatMap Prod.snd) ∧ Es wr w.heap.size vo out ∧ Kept [] w wr)) (fun _ vi _ => m - (iOf3 vi).toNat)
  case atStart => exact ⟨0, [], Nat.zero_le _, rfl, ⟨none, 0, rfl⟩, by simp, Es.nil _ _, Kept.refl _ _⟩
  case round =>
    obtain ⟨i, out, hi, rfl, ⟨po, co, rfl⟩, hh⟩ := hrel
    obtain ⟨wo, rfl⟩ : ∃ wo, wo = wr := ⟨_, rfl⟩
    by_cases him : i < m
    · have him' : (i : Int) < (m : Int) := by omega
      have hi0 : (0 : Int) ≤ (i : Int) := by omega
      have wi : IntKind.i64.wrap ((i : Int) + 1) = (i : Int) + 1 := wrap_i64_of (by omega) (by have := HM.out.2.2.2.2; unfold maxLen at this; omega)
      obtain ⟨x, hx⟩ : ∃ x, M[i]? = some x := ⟨_, List.getElem?_eq_getElem (by have := HM.out.2.2.2.1; omega)⟩
      obtain ⟨b, l⟩ := x
      have hV := HM.out.2.1 _ (List.mem_of_getElem? hx)
      dsimp only at hV
      have hi64 := hV.i64
      obtain ⟨⟨D, hO, hT, hK⟩, hr⟩ := hV
      have hrow := HM.out.1
      have hMn : M.length = m := HM.out.2.2.2.1.symm
      obtain ⟨gm, rfl, -, -, h8, -⟩ := Row.pos hrow (by omega)
      have cx := hh.out.2.2.cell (h8 i (.map (some b)) (by rw [List.getElem?_map, hx]; rfl)) (by simp)
      have hOo := ownsMap_kept hO hh.out.2.2 (by simp)
      have hbl := hO.lt
      obtain ⟨n, hn⟩ : ∃ n, n = (l.map Prod.fst).length := ⟨_, rfl⟩
      rw [← hn] at hOo
      have htk : (M.take (i + 1)).flatMap Prod.snd = (M.take i).flatMap Prod.snd ++ l := by rw [List.take_add_one, hx]; simp
      have hlen : ((M.take i).flatMap Prod.snd ++ l).length ≤ 3600000000000 := by
        have e : (M.flatMap Prod.snd) = (M.take (i + 1)).flatMap Prod.snd ++ (M.drop (i + 1)).flatMap Prod.snd := by rw [← List.flatMap_append, List.take_append_drop]
        have := HM.out.2.2.1
        rw [e, List.length_append, htk] at this
        omega
      have HL := @hideH _ (And.intro hT (And.intro hr (And.intro hi64 (And.intro htk hlen))))
      have hso := hh.out.2.2.size
      clear hx hO hT hK hr hi64 hrow h8 htk hlen hMn hn
      go_wp2_with (at_range; refine wpList_range_own _ rfl _ 88 rfl 3 45 keyL Tryz.underlying88 _ b n D rfl hOo ?_; intro w0 hrg0 hg0 hs0)
      go_frame
      have k0 : Kept [] wo w0 := (Kept.refl [] wo).grown hg0 (fun k hk => by cases hk)
      have hpo : ∀ z, (Value.slice po out.length co).ownBlock = some z → z < wo.heap.size := fun z hz => (Row.lt hh.out.2.1 z hz).2
      go_loopw [3] (fun vo wr => ∃ (left : Lit → Bool) (cnt : Nat) (vis : List (Int × Int)), (∃ p c, vo = .slice p (out.length + vis.length) c) ∧ Hid (wr.ranges Tryz.prog 3 (plainElem Tryz.prog 45) b wo.heap.size n D left cnt ∧ Met l left vis ∧ Es wr w.heap.size vo (out ++ vis) ∧ Kept [] w wr ∧ (∀ k, left k = true → Maps.has D k = true) ∧ (∀ z, vo.ownBlock = some z → z ≠ wo.heap.size) ∧ wo.heap.size < wr.heap.size)) (fun _ wr => wr.rangeLeft b wo.heap.size)
      case atStart =>
        refine ⟨_, _, [], ⟨po, co, rfl⟩, hrg0, Met.start HL.out.1 HL.out.2.2.1 HL.out.2.1, ?_, hh.out.2.2.then k0, fun k hk => hk, fun z hz => by have := hpo z hz; omega, by omega⟩
        rw [List.append_nil]
        exact hh.out.2.1.kept k0 (by simp)
      case round =>
        clear hrg0 hg0 hs0 k0 hpo
        obtain ⟨left, cnt, vis, ⟨p, c, rfl⟩, h2⟩ := hrel
        have hrg := h2.out.1
        go_wp2_with (at_next; refine wpList_next_ranges_ii _ rfl _ rfl 3 45 .i64 .u64 keyL Tryz.underlying3 Tryz.underlying45 b wo.heap.size n _ _ _ rfl hrg ?_ ?_)
        · intro hc0 hl0
          have HD := @hideH _ (show (out ++ vis).Perm ((M.take (i + 1)).flatMap Prod.snd) by rw [HL.out.2.2.2.1]; exact hh.out.1.append (h2.out.2.1.done HL.out.2.1 hl0))
          clear hc0 hl0 hrg
          go_wp2
          go_roundw
          case rel => exact ⟨i + 1, out ++ vis, by omega, by go_num, ⟨p, c, by rw [List.length_append]⟩, HD.out, h2.out.2.2.1, h2.out.2.2.2.1⟩
          case measure => first | (simp [iOf3]; done) | (simp [iOf3]; omega)
        · intro x y w1 cnt1 hwx hwy hlx hat hrg1 hlt1 hg1 hs1 hen
          have hix : I64 x := i64_wf15 hwx
          have hxm : (x, y) ∈ l := by
            have e1 := HL.out.1.atk x hix
            have e2 := h2.out.2.2.2.2.1 _ hlx
            rw [HL.out.1.has x hix] at e2
            obtain ⟨q, hq⟩ := Option.isSome_iff_exists.1 e2
            rw [hat, hq] at e1
            obtain ⟨v, rfl, hv⟩ := fV_some HL.out.2.1 hq
            simp at e1
            rw [e1]; exact hv
          have mt := h2.out.2.1.step HL.out.2.1 hxm hlx
          have k1 : Kept [] w w1 := h2.out.2.2.2.1.grown hg1 (fun k hk => .inr (by cases hk; omega))
          have k1b : Kept [wo.heap.size] wr w1 := (Kept.refl _ wr).grown hg1 (fun k hk => .inl (by cases hk; simp))
          have e1 := h2.out.2.2.1.kept k1b (fun z hz hz' => h2.out.2.2.2.2.2.1 z hz (by simpa using hz'))
          have hfew : out.length + vis.length < 3600000000000 := by
            have q1 := mt.few
            have q2 := hh.out.1.length_eq
            have q3 := HL.out.2.2.2.2
            rw [List.length_append] at q1 q3
            simp at q1
            omega
          obtain ⟨w7, hw7⟩ : ∃ wx, wx = w1.alloc (.cells #[.int .i64 x, .int .u64 y] 47) := ⟨_, rfl⟩
          have k7 : Kept [] w1 w7 := by rw [hw7]; exact (Kept.refl [] w1).alloc _
          have hsrc := src_ent (P := Tryz.prog) w1 36 47 Tryz.underlying36 x y
          rw [← hw7] at hsrc
          have R7 : Row w7 w.heap.size 2 (.slice p (out.length + vis.length) c) (out.length + vis.length) (ecs (out ++ vis)) := by
            have q := e1.kept k7 (by simp)
            unfold Es at q
            rw [List.length_append] at q
            exact q
          have z7 : w7.heap.size = w1.heap.size + 1 := by rw [hw7, World.size_alloc]
          have HB := @hideH _ (And.intro mt (And.intro k1 (And.intro k7 (And.intro hrg1 (And.intro hlt1 (And.intro z7 (And.intro hs1 hfew)))))))
          obtain ⟨ln, hln⟩ : ∃ ln, ln = out.length + vis.length := ⟨_, rfl⟩
          have HLN := @hideH _ hln
          have HLNb := @hideH _ (show ln ≤ 3600000000000 by omega)
          rw [← hln] at R7 ⊢
          have hba : w.heap.size ≤ w7.heap.size := by have := k1.size; omega
          clear hln mt k1 k1b e1 hfew k7 hrg1 hlt1 hg1 hs1 hxm hat hlx hwx hwy hix z7
          go_wp2_with (at_builtin; (try rw [← hw7]); (try clear hw7); refine wpList_append_row2 rfl (.tmp 21) (.tmp 25) 36 rfl w.heap.size 47 infE (.agg #[.int .i64 0, .int .u64 0]) 2 16 Tryz.underlying36 HIE.out.1 HIE.out.2.1 HIE.out.2.2.1 HIE.out.2.2.2 rfl _ _ _ (by rfl) R7 _ 1 _ (by rfl) hsrc (by have e1 := HLNb.out; omega) (by have e1 := HLNb.out; unfold maxLen; omega) (by have e1 := HLNb.out; omega) hba ?_; intro v' w8 r8 k8 o8; obtain ⟨p8, c8, hv8, -⟩ := Row.shape r8; subst hv8; have HX8 := @hideH _ (And.intro r8 (And.intro k8 o8)); clear r8 k8 o8 R7 hsrc)
          have hown : ∀ z ∈ (Value.slice p ln c).ownBlock.toList, z ≠ wo.heap.size ∧ w.heap.size ≤ z := fun z hz => by
            have q := own_mem.1 hz
            have q' : (Value.slice p (out.length + vis.length) c).ownBlock = some z := by rw [← HLN.out]; exact q
            exact ⟨h2.out.2.2.2.2.2.1 z q', (Row.lt h2.out.2.2.1 z q').1⟩
          have hbw : b < w.heap.size := hbl
          have hrg8 : w8.ranges Tryz.prog 3 (plainElem Tryz.prog 45) b wo.heap.size n D (fun z => left z && !z.sameKey (.int .i64 x)) cnt1 := ranges_kept (ranges_kept HB.out.2.2.2.1 HB.out.2.2.1 (by simp) (by simp)) HX8.out.2.1 (fun q => by have := (hown _ q).2; omega) (fun q => (hown _ q).1 rfl)
          have kw8 : Kept [] w w8 := (HB.out.2.1.then HB.out.2.2.1).trans HX8.out.2.1 (fun z hz => .inr (hown z hz).2)
          have HF := @hideH _ (And.intro hrg8 (And.intro kw8 (show ∀ z, (Value.slice p8 (ln + 1) c8).ownBlock = some z → z ≠ wo.heap.size from fun z hz => by
            rcases HX8.out.2.2 with o | ⟨o, -⟩
            · rw [o] at hz; exact (hown z (own_mem.2 hz)).1
            · rw [o] at hz
              have ez := (Option.some.inj hz).symm
              have s1 := HB.out.2.2.2.2.2.1
              have s2 := HB.out.2.2.2.2.2.2.1
              have s3 := h2.out.2.2.2.2.2.2
              omega)))
          clear hrg8 kw8 hown hbw
          try go_wp2
          go_roundw
          case rel =>
            refine ⟨_, cnt1, vis ++ [(x, y)], ⟨p8, c8, by rw [List.length_append, HLN.out]; first | rfl | (congr 1) ⟩, HF.out.1, HB.out.1, ?_, HF.out.2.1, fun k hk => h2.out.2.2.2.2.1 k (by revert hk; cases left k <;> simp), HF.out.2.2, ?_⟩
            · rw [← List.append_assoc]
              refine Es.snoc (w := w8) (l := out ++ vis) (x := (x, y)) ?_
              rw [List.length_append, ← HLN.out]
              exact HX8.out.1
            · have s0 := HX8.out.2.1.size
              have s1 := HB.out.2.2.2.2.2.1
              have s2 := HB.out.2.2.2.2.2.2.1
              have s3 := h2.out.2.2.2.2.2.2
              omega
          case measure => rw [HF.out.1.left_eq, hrg.left_eq]; exact HB.out.2.2.2.2.1
    · obtain rfl : i = m := by omega
      have hall : (M.take i).flatMap Prod.snd = M.flatMap Prod.snd := by rw [List.take_of_length_le (by have := HM.out.2.2.2.1; omega)]
      have hlen : out.length ≤ 3600000000000 := by have := hh.out.1.length_eq; rw [hall] at this; have := HM.out.2.2.1; omega
      have HQ := @hideH _ (qSortE wo hh.out.2.1 hlen)
      have HA := @hideH _ (show out.Perm (M.flatMap Prod.snd) ∧ Kept [] w wo ∧ ∀ z, (Value.slice po out.length co).ownBlock = some z → w.heap.size ≤ z from ⟨by rw [← hall]; exact hh.out.1, hh.out.2.2, fun z hz => (Row.lt hh.out.2.1 z hz).1⟩)
      clear hall hlen
      go_wp2_with fail
      refine HQ.out.mono ?_
      clear HQ
      rintro e w9 ⟨rfl, l', hp, hu, es, k9⟩
      have HF := @hideH _ (And.intro hp (And.intro hu (And.intro es k9)))
      clear hp hu es k9
      go_wp2
      go_ret
      exact ⟨_, l', by first | rfl | trivial, HF.out.1.trans HA.out.1, HF.out.2.1, HF.out.2.2.1, HA.out.2.1.trans HF.out.2.2.2 (fun z hz => .inr (HA.out.2.2 z (own_mem.1 hz)))⟩
end Go.Proofs.YtnjfahgmebmakaaGreatDoor

/-
  OWN WORK. The landed plain (layer 18): Fold.
-/
namespace Go.Proofs.YtnjfahgmebmakaaGreatDoor
open Go.RowKit Go.Maps
set_option linter.unusedVariables false
set_option linter.unusedSimpArgs false
/-- a rising list is what its members sort to -/
theorem sorted_is {l l' : List (Int × Int)} (hr : Rise l) (hp : l'.Perm l) (hu : l'.Pairwise (fun a b => a.1 ≤ b.1)) : l' = l :=
  hp.eq_of_pairwise (le := fun a b : Int × Int => a.1 ≤ b.1) (fun a b ha hb h1 h2 => hr.eq (hp.mem_iff.1 ha) hb (by omega)) hu (hr.imp fun q => by omega)
theorem row_one (w : World) (t : TypeId) (b : Nat) : Row (w.alloc (.cells #[.map (some b)] t)) 0 1 (.slice (some ⟨w.heap.size, 0, none⟩) 1 1) 1 [.map (some b)] := by
  have hB := Blk.new w t [.map (some b)]
  refine ⟨rfl, by simp [Value.oneCell'], some ⟨w.heap.size, 0, none⟩, 1, rfl, Nat.le_refl _, by simp [maxLen], .inr ⟨w.heap.size, rfl, Nat.zero_le _, by rw [World.size_alloc]; omega, fun j u hj => hB.cell hj, fun j hj => ?_⟩⟩
  have e : j = 0 := by omega
  subst e
  exact ⟨by rw [hB.cell (j := 0) rfl]; rfl, hB.free 0⟩
set_option maxRecDepth 20000 in
set_option maxHeartbeats 6400000 in
theorem fFold (v : Value) (D : List (List Chg × Value)) (w : World) (h : Ll w v D) (hlen : (D.map Prod.fst).flatten.length ≤ 3600000000000) (hok : ∀ d ∈ D, ∀ x ∈ d.1, I64 x.key ∧ u64 x.val) : Calls Tryz.prog 15 #[v] w fun e w' => ∃ ve, e = .returned ve ∧ Es w' w.heap.size ve (foldL (D.map Prod.fst)) ∧ Kept [] w w' := by
  obtain ⟨pv, cv, ev, hncv, hcmv⟩ := h.1.shape
  subst ev
  obtain ⟨m, hm⟩ : ∃ m, m = D.length := ⟨_, rfl⟩
  rw [← hm]
  obtain ⟨w1, hw1⟩ : ∃ wx, wx = w.alloc (.map #[] 0) := ⟨_, rfl⟩
  have k1 : Kept [] w w1 := by rw [hw1]; exact (Kept.refl [] w).alloc _
  have v1 : Vm w1 w.heap.size [] := by rw [hw1]; exact Vm.made w
  have hmk : (Instr.makeMap 88 none).run Tryz.prog w = .ok (.map (some w.heap.size)) w1 := by rw [hw1]; rfl
  have HD := @hideH _ (And.intro h (And.intro hlen (And.intro hok (And.intro hm (show m ≤ maxLen by rw [hm]; exact Nat.le_trans hncv hcmv)))))
  have H1 := @hideH _ (And.intro k1 v1)
  clear h hlen hok hncv hcmv k1 v1 hw1
  clear hm
  go_enter Tryz.func15, Tryz.ntmps15
  go_wp2
  go_loopw [11] (fun vi wr => ∃ i : Nat, i ≤ m ∧ vi = .int .i64 i ∧ Hid (Vm wr w.heap.size (foldL ((D.map Prod.fst).take i)) ∧ Kept [] w wr)) (fun vi _ => m - (iOf3 vi).toNat)
  case atStart => exact ⟨0, Nat.zero_le _, rfl, H1.out.2, H1.out.1⟩
  case round =>
    obtain ⟨i, hi, rfl, hh⟩ := hrel
    obtain ⟨wo, rfl⟩ : ∃ wo, wo = wr := ⟨_, rfl⟩
    by_cases him : i < m
    · have him' : (i : Int) < (m : Int) := by omega
      have hi0 : (0 : Int) ≤ (i : Int) := by omega
      have wi : IntKind.i64.wrap ((i : Int) + 1) = (i : Int) + 1 := wrap_i64_of (by omega) (by have := HD.out.2.2.2.2; unfold maxLen at this; omega)
      obtain ⟨d, hd⟩ : ∃ d, D[i]? = some d := ⟨_, List.getElem?_eq_getElem (by have := HD.out.2.2.2.1; omega)⟩
      obtain ⟨gl, hpv, cd0⟩ := HD.out.1.at hd
      subst hpv
      have hcs := HD.out.1.2 d (List.mem_of_getElem? hd)
      have hdi : (D.map Prod.fst)[i]? = some d.1 := by rw [List.getElem?_map, hd]; rfl
      obtain ⟨l, vl⟩ := d
      dsimp only at hcs cd0 hdi
      obtain ⟨pl, cl, evl, hncl, hcml⟩ := hcs.shape
      subst evl
      obtain ⟨n, hn⟩ : ∃ n, n = l.length := ⟨_, rfl⟩
      have cdo := hh.out.2.cell cd0 (by simp)
      rw [← hn] at cdo
      have HC := @hideH _ (And.intro hcs (And.intro hn (And.intro hdi (And.intro (List.mem_of_getElem? hd) (show n ≤ maxLen by rw [hn]; exact Nat.le_trans hncl hcml)))))
      clear hd hcs hdi hncl hcml cd0 hn
      go_wp2
      go_loopw [17] (fun vj wr => ∃ j : Nat, j ≤ n ∧ vj = .int .i64 j ∧ Hid (Vm wr w.heap.size (foldE (foldL ((D.map Prod.fst).take i)) (l.take j)) ∧ Kept [] w wr)) (fun vj _ => n - (iOf3 vj).toNat)
      case atStart => exact ⟨0, Nat.zero_le _, rfl, hh.out.1, hh.out.2⟩
      case round =>
        obtain ⟨j, hj, rfl, h2⟩ := hrel
        by_cases hjn : j < n
        · have hjn' : (j : Int) < (n : Int) := by omega
          have hj0 : (0 : Int) ≤ (j : Int) := by omega
          have wj : IntKind.i64.wrap ((j : Int) + 1) = (j : Int) + 1 := wrap_i64_of (by omega) (by have := HC.out.2.2.2.2; unfold maxLen at this; omega)
          obtain ⟨x, hx⟩ : ∃ x, l[j]? = some x := ⟨_, List.getElem?_eq_getElem (by have := HC.out.2.1; omega)⟩
          obtain ⟨g3, hpl, -, -, a0, a1, a2⟩ := HC.out.1.at hx
          subst hpl
          have b0 := h2.out.2.cell a0 (by simp)
          have b1 := h2.out.2.cell a1 (by simp)
          have b2 := h2.out.2.cell a2 (by simp)
          obtain ⟨wb, hwb⟩ : ∃ wx, wx = wr.alloc (.cells #[.int .i64 x.key, .int .u64 x.val, .bool x.gone] 50) := ⟨_, rfl⟩
          have kb : Kept [] wr wb := by rw [hwb]; exact (Kept.refl [] wr).alloc _
          have Bb : Blk wb wr.heap.size 50 [.int .i64 x.key, .int .u64 x.val, .bool x.gone] := by rw [hwb]; exact Blk.new wr _ _
          have hxok := HD.out.2.2.1 _ HC.out.2.2.2.1 x (List.mem_of_getElem? hx)
          have hbd := fold_bound (j := j) HC.out.2.2.1
          have vb := h2.out.1.kept kb (by simp)
          have HQ := @hideH _ (qLay x wb vb (by have := HD.out.2.1; omega) hxok.1 hxok.2)
          have HX := @hideH _ (And.intro (foldE_take (o := foldL ((D.map Prod.fst).take i)) hx) (And.intro kb h2.out.1.lt))
          have y0 := Bb.cell (j := 0) rfl
          have y1 := Bb.cell (j := 1) rfl
          have y2 := Bb.cell (j := 2) rfl
          clear hx a0 a1 a2 Bb kb hxok hbd vb
          go_upto_region 8 with fail
          rw [← hwb]
          clear hwb b0 b1 b2
          go_wp2_with fail
          refine HQ.out.mono ?_
          clear HQ
          rintro e wc ⟨rfl, vc, kc⟩
          have HV := @hideH _ (show Vm wc w.heap.size (foldE (foldL ((D.map Prod.fst).take i)) (l.take (j + 1))) ∧ Kept [] w wc from ⟨by rw [HX.out.1]; exact vc, (h2.out.2.then HX.out.2.1).trans kc (fun z hz => .inr (by simp at hz; omega))⟩)
          clear vc kc
          go_wp2
          go_roundw
          case rel => exact ⟨j + 1, by omega, by go_num, HV.out⟩
          case measure => first | (simp [iOf3]; done) | (simp [iOf3]; omega)
        · obtain rfl : j = n := by omega
          have HE := @hideH _ (show Vm wr w.heap.size (foldL ((D.map Prod.fst).take (i + 1))) by
            rw [foldL_take HC.out.2.2.1]
            have e : l.take j = l := List.take_of_length_le (by have := HC.out.2.1; omega)
            have q := h2.out.1
            rw [e] at q
            exact q)
          go_wp2
          go_roundw
          case rel => exact ⟨i + 1, by omega, by go_num, HE.out, h2.out.2⟩
          case measure => first | (simp [iOf3]; done) | (simp [iOf3]; omega)
    · obtain rfl : i = m := by omega
      have hall : (D.map Prod.fst).take i = D.map Prod.fst := List.take_of_length_le (by have := HD.out.2.2.2.1; rw [List.length_map]; omega)
      have hv := hh.out.1
      rw [hall] at hv
      obtain ⟨w7, hw7⟩ : ∃ wx, wx = wo.alloc (.cells #[.map (some w.heap.size)] 88) := ⟨_, rfl⟩
      have k7 : Kept [] wo w7 := by rw [hw7]; exact (Kept.refl [] wo).alloc _
      have r7 := row_one wo 88 w.heap.size
      rw [← hw7] at r7
      have hfl := foldL_len (D.map Prod.fst) []
      have HQ := @hideH _ (qEntries (v := .slice (some ⟨wo.heap.size, 0, none⟩) 1 1) (M := [(w.heap.size, foldL (D.map Prod.fst))]) w7 r7 (fun x hx => by simp at hx; subst hx; exact hv.kept k7 (by simp)) (by
        have e : ([(w.heap.size, foldL (D.map Prod.fst))] : List (Nat × List (Int × Int))).flatMap Prod.snd = foldL (D.map Prod.fst) := by simp
        rw [e]
        have q1 := HD.out.2.1
        have q2 : (foldL (D.map Prod.fst)).length ≤ (D.map Prod.fst).flatten.length := by unfold foldL; simpa using hfl
        omega))
      have HK := @hideH _ (hh.out.2.then k7)
      clear hall hv k7 r7 hfl
      go_wp2_with fail
      rw [← hw7]
      clear hw7
      refine HQ.out.mono ?_
      clear HQ
      rintro e w9 ⟨ve, l', rfl, hp, hu, es, k9⟩
      have HF := @hideH _ (And.intro hp (And.intro hu (And.intro es k9)))
      obtain ⟨pe, ce, eve, -, -⟩ := es.shape
      subst eve
      clear hp hu es k9
      go_wp2
      go_ret
      refine ⟨_, by first | rfl | trivial, ?_, HK.out.then HF.out.2.2.2⟩
      have hp2 : l'.Perm (foldL (D.map Prod.fst)) := by have q := HF.out.1; simpa using q
      rw [← sorted_is (foldL_rise _) hp2 HF.out.2.1]
      exact HF.out.2.2.1.mono HK.out.size
end Go.Proofs.YtnjfahgmebmakaaGreatDoor

/-
  OWN WORK. The landed plain (layer 18): Entries, Done.
-/
namespace Go.Proofs.YtnjfahgmebmakaaGreatDoor
open Go.RowKit Go.Maps
set_option linter.unusedVariables false
set_option linter.unusedSimpArgs false
theorem pnFold : PnFold := ⟨fFold⟩
/-- the pages' entries together are all entries -/
theorem pages_perm {c : Cf} (hc : mayC c) {L : List (Int × Int)} (hr : Rise L) : ((List.range c.pages.toNat).flatMap fun i : Nat => onP c (i : Int) L).Perm L := by
  have ndL : ∀ {l : List (Int × Int)}, Rise l → l.Nodup := fun {l} hl => hl.imp (fun {x y} q e => by rw [e] at q; omega)
  have nd : ∀ n : Nat, ((List.range n).flatMap fun i : Nat => onP c (i : Int) L).Nodup := by
    intro n
    induction n with
    | zero => simp
    | succ n ih =>
      rw [List.range_succ, List.flatMap_append]
      refine List.nodup_append.2 ⟨ih, by simpa using ndL (onP_rise (c := c) (p := (n : Int)) hr), fun a ha b hb e => ?_⟩
      obtain ⟨i, hi, ha⟩ := List.mem_flatMap.1 ha
      have hi' := List.mem_range.1 hi
      simp at hb
      have h1 := (mem_onP.1 ha).2
      have h2 := (mem_onP.1 hb).2
      rw [e, h2] at h1
      omega
  refine (List.perm_ext_iff_of_nodup (nd _) (ndL hr)).2 fun e => ?_
  rw [List.mem_flatMap]
  constructor
  · rintro ⟨i, -, h⟩
    exact (mem_onP.1 h).1
  · intro h
    have h0 := hc.1
    have h1 := Int.emod_nonneg e.1 (show c.pages ≠ 0 by omega)
    have h2 := Int.emod_lt_of_pos e.1 (show 0 < c.pages by omega)
    refine ⟨(e.1 % c.pages).toNat, List.mem_range.2 (by omega), mem_onP.2 ⟨h, by omega⟩⟩
set_option maxHeartbeats 1600000 in
theorem fEntries {g : Nat} {F : List Nat} {c : Cf} {S : St} (w : World) (hv : Vr w) (h : Pz w g F c S) (hs : small S) : Calls Tryz.prog 13 #[.pointer (some ⟨g, 0, none⟩)] w fun e w' => ∃ ve, e = .returned (.tuple #[ve, .int .i64 (entE S)]) ∧ Es w' w.heap.size ve (entL S) ∧ Kept [] w w' := by
  obtain ⟨V, hp, -⟩ := h
  have HQ := @hideH _ (qIdle w hp)
  have B := hp.box
  obtain ⟨pp, cp, epp, -, -⟩ := hp.pgs.shape
  rw [epp] at B
  have c6 := B.cell (j := 6) rfl
  have hrow := hp.pgs
  obtain ⟨n, hn⟩ : ∃ n, n = c.pages.toNat := ⟨_, rfl⟩
  rw [← hn] at c6
  rw [epp, ← hn] at hrow
  have hex : ∀ p : Int, ∃ b, 0 ≤ p → p < c.pages → V (.pg p) = .map (some b) ∧ Vm w b (pgD c S p) := fun p => by
    by_cases q : 0 ≤ p ∧ p < c.pages
    · obtain ⟨b, hb⟩ := hp.pg p q.1 q.2
      exact ⟨b, fun _ _ => hb⟩
    · exact ⟨0, fun q1 q2 => absurd ⟨q1, q2⟩ q⟩
  obtain ⟨bf, hbf⟩ := Classical.axiomOfChoice hex
  have hM : Row w 0 1 (.slice pp n cp) ((List.range n).map fun i : Nat => (bf (i : Int), pgD c S (i : Int))).length (((List.range n).map fun i : Nat => (bf (i : Int), pgD c S (i : Int))).map fun x => .map (some x.1)) := by
    have e : ((List.range n).map fun i : Nat => (bf (i : Int), pgD c S (i : Int))).map (fun x => Value.map (some x.1)) = (List.range n).map fun i : Nat => V (.pg (i : Int)) := by
      rw [List.map_map]
      refine List.map_congr_left fun i hi => ?_
      have := List.mem_range.1 hi
      exact ((hbf (i : Int)) (by omega) (by omega)).1.symm
    rw [e, List.length_map, List.length_range]
    exact hrow
  have hflat : ((List.range n).map fun i : Nat => (bf (i : Int), pgD c S (i : Int))).flatMap Prod.snd = (List.range n).flatMap fun i : Nat => onP c (i : Int) (foldL S.done) := by
    rw [List.flatMap_map]; rfl
  have hperm := pages_perm hp.ok.may (foldL_rise S.done)
  rw [← hn] at hperm
  have hlen : (foldL S.done).length ≤ 3600000000000 := by
    have e3 := foldL_len S.done []
    have e5 : (foldL S.done).length ≤ S.done.flatten.length := by unfold foldL; simpa using e3
    unfold small cnt at hs
    omega
  have HE := @hideH _ (qEntries (v := .slice pp n cp) w hM (fun x hx => by
    obtain ⟨i, hi, rfl⟩ := List.mem_map.1 hx
    have := List.mem_range.1 hi
    exact ((hbf (i : Int)) (by omega) (by omega)).2) (by rw [hflat, hperm.length_eq]; exact hlen))
  have HP := @hideH _ (And.intro hperm hflat)
  have HV := @hideH _ hv
  clear B hrow hex hbf hM hflat hperm hlen hp hv hs hn epp
  go_enter Tryz.func13, Tryz.ntmps13
  go_wp2_with fail
  refine HQ.out.mono ?_
  clear HQ
  rintro e wi ⟨rfl, ⟨ho, rfl⟩ | ⟨ho, rfl⟩⟩
  · have HO := @hideH _ (show entE S = 0 ∧ entL S = foldL S.done by unfold entE entL; rw [if_pos ho, if_pos ho]; exact ⟨rfl, rfl⟩)
    clear ho
    go_wp2_with fail
    refine HE.out.mono ?_
    rintro e w2 ⟨ve, l', rfl, hp, hu, es, k2⟩
    obtain ⟨pe, ce, eve, -, -⟩ := es.shape
    subst eve
    have HF := @hideH _ (And.intro hp (And.intro hu (And.intro es k2)))
    clear hp hu es k2 HE
    go_wp2
    go_ret2
    rw [HO.out.1, HO.out.2]
    refine ⟨_, by first | rfl | trivial, ?_, HF.out.2.2.2⟩
    have hp2 : l'.Perm (foldL S.done) := by have q := HF.out.1; rw [HP.out.2] at q; exact q.trans HP.out.1
    rw [← sorted_is (foldL_rise _) hp2 HF.out.2.1]
    exact HF.out.2.2.1
  · have HO := @hideH _ (show entE S = 210 ∧ entL S = [] by unfold entE entL; rw [if_neg ho, if_neg ho]; exact ⟨rfl, rfl⟩)
    have HN := @hideH _ (qNumber wi HV.out (Er.ref 210) (by omega))
    clear ho
    go_wp2_with fail
    refine HN.out.mono ?_
    rintro e w2 ⟨rfl, k2⟩
    have HK := @hideH _ k2
    clear k2 HN
    go_wp2
    go_ret2
    rw [HO.out.1, HO.out.2]
    exact ⟨.slice none 0 0, by first | rfl | trivial, Es.nil _ _, HK.out⟩
end Go.Proofs.YtnjfahgmebmakaaGreatDoor

/-
  OWN WORK (by mkppc.py). The landed plain (layer 18): Done.
-/
namespace Go.Proofs.YtnjfahgmebmakaaGreatDoor
open Go.RowKit Go.Maps
set_option linter.unusedVariables false
set_option linter.unusedSimpArgs false
theorem row_empty (w : World) (t : TypeId) (sz : Nat) : Row (w.alloc (.cells #[] t)) w.heap.size sz (.slice (some ⟨w.heap.size, 0, none⟩) 0 0) 0 [] :=
  ⟨by simp, by simp, some ⟨w.heap.size, 0, none⟩, 0, rfl, Nat.le_refl _, by simp [maxLen], .inr ⟨w.heap.size, rfl, Nat.le_refl _, by rw [World.size_alloc]; omega, by simp, fun j hj => by omega⟩⟩
theorem ccells_one : ∀ (l : List Chg) (u : Value), u ∈ ccells l → u.oneCell' = true
  | [], u, h => by simp [ccells] at h
  | x :: r, u, h => by
    simp [ccells] at h
    rcases h with rfl | rfl | rfl | h
    · rfl
    · rfl
    · rfl
    · exact ccells_one r u h
set_option maxRecDepth 20000 in
set_option maxHeartbeats 1600000 in
theorem qClone {v : Value} {l : List Chg} (w : World) (h : Cs w 0 v l) (hl : l.length ≤ 3600000000000) : Calls Tryz.prog 40 #[v] w fun e w' => ∃ p c, e = .returned (.slice p l.length c) ∧ Cs w' w.heap.size (.slice p l.length c) l ∧ Kept [] w w' := by
  have heq : ∀ (w : World) (a : Option Addr) (n c : Nat), (binOp .eql 48 (.slice a n c) (.slice none 0 0)).run Tryz.prog w = .ok (.bool a.isNone) w := fun w a n c => Lib.run_eql_slice_nil w _ _ a n c 0 0 Tryz.underlying48
  obtain ⟨p, c, ev, hnc, hcm⟩ := h.shape
  subst ev
  obtain ⟨n, hn⟩ : ∃ n, n = l.length := ⟨_, rfl⟩
  have h' := h
  obtain ⟨h1, h2, p', c', e', h3, h4, h5⟩ := h'
  cases e'
  rcases h5 with ⟨rfl, hc0⟩ | ⟨g, rfl, h6, h7, h8, h9⟩
  · have hn0 : l.length = 0 := by omega
    have el : l = [] := List.eq_nil_of_length_eq_zero hn0
    subst el
    clear h hnc hcm h1 h2 h3 h4 hn
    go_enter Tryz.func40, Tryz.ntmps40
    go_wp2
    go_ret
    exact ⟨none, 0, by first | rfl | trivial, Cs.nil _ _, Kept.refl _ _⟩
  · obtain ⟨w1, hw1⟩ : ∃ wx, wx = w.alloc (.cells #[] 50) := ⟨_, rfl⟩
    have k1 : Kept [] w w1 := by rw [hw1]; exact (Kept.refl [] w).alloc _
    have R1 := row_empty w 50 3
    rw [← hw1] at R1
    have hsrc : Src Tryz.prog 3 48 (.slice (some ⟨g, 0, none⟩) l.length c) l.length (ccells l) w1 := by
      refine Src.ofSlice _ Tryz.underlying48 _ _ _ _ (by rw [ccells_length]) (fun j u hj => ?_) (fun u hu => ccells_one l u hu)
      rw [add_none rfl, Nat.zero_add]
      exact k1.cell (h8 j u hj) (by simp)
    rw [← hn] at hsrc ⊢
    have hns : n ≤ 3600000000000 := by omega
    have HN := @hideH _ (And.intro hn hns)
    have HK := @hideH _ k1
    have hba : w.heap.size ≤ w1.heap.size := k1.size
    obtain ⟨infC, hin1, hin2, hin3, hin4⟩ := info_parts3 (show (Tryz.prog.info? 50).map (fun i => (i.zero, i.size, i.bytes)) = some (some (.agg #[.int .i64 0, .int .u64 0, .bool false]), 3, 24) by kernel_rfl)
    have HIC := @hideH _ (And.intro hin1 (And.intro hin2 (And.intro hin3 hin4)))
    clear hin1 hin2 hin3 hin4
    clear h h1 h2 h3 h4 h6 h7 h8 h9 hnc hcm hl hn hns k1
    go_enter Tryz.func40, Tryz.ntmps40
    go_wp2_with (at_builtin; (try rw [← hw1]); (try clear hw1); refine wpList_append_row2 rfl (.tmp 5) (.tmp 6) 48 rfl w.heap.size 50 infC (.agg #[.int .i64 0, .int .u64 0, .bool false]) 3 24 Tryz.underlying48 HIC.out.1 HIC.out.2.1 HIC.out.2.2.1 HIC.out.2.2.2 rfl _ _ _ (by rfl) R1 _ n _ (by rfl) hsrc (by have e1 := HN.out.2; omega) (by have e1 := HN.out.2; unfold maxLen; omega) (by have e1 := HN.out.2; omega) hba ?_; intro v' w8 r8 k8 o8; obtain ⟨p8, c8, hv8, -⟩ := Row.shape r8; subst hv8; have HX8 := @hideH _ (And.intro r8 (And.intro k8 o8)); clear r8 k8 o8 R1 hsrc)
    try go_wp2
    go_ret
    have r := HX8.out.1
    rw [Nat.zero_add, List.nil_append] at r
    refine ⟨p8, c8, by first | rfl | (rw [Nat.zero_add]; rfl) | simp, ?_, HK.out.trans HX8.out.2.1 (fun z hz => .inr (by simp [Value.ownBlock] at hz; omega))⟩
    unfold Cs
    rw [← HN.out.1]
    exact r
/-- 'make([][]Change, 0, n)' -/
theorem makeDone (w : World) (n : Nat) (hc : n ≤ 3600000000000) : (Instr.makeSlice 41 (.int .i64 0) (.int .i64 (n : Int))).run Tryz.prog w = .ok (.slice (some ⟨w.heap.size, 0, none⟩) 0 n) (w.alloc (.cells (List.replicate n (Value.slice none 0 0)).toArray 48)) := by
  obtain ⟨i, hi, hz, hsz, hby⟩ := info_parts3 (show (Tryz.prog.info? 48).map (fun i => (i.zero, i.size, i.bytes)) = some (some (.slice none 0 0), 1, 24) by kernel_rfl)
  have h := run_make (P := Tryz.prog) w 41 48 i (.slice none 0 0) Tryz.underlying41 hi hz .i64 .i64 0 (n : Int) (by omega) (by omega) (by rw [hby]; omega) (by omega)
  have hl : madeCells #[.slice none 0 0] n = (List.replicate n (Value.slice none 0 0)).toArray := by
    have h0 : (madeCells #[.slice none 0 0] n).toList = List.replicate n (.slice none 0 0) := by rw [toList_madeCells_one]
    rw [← h0]
  rw [h, hsz]
  simp [Value.cells, hl]
theorem row_room (w : World) (t : TypeId) (n : Nat) (hc : n ≤ maxLen) : Row (w.alloc (.cells (List.replicate n (Value.slice none 0 0)).toArray t)) w.heap.size 1 (.slice (some ⟨w.heap.size, 0, none⟩) 0 n) 0 [] := by
  have hB := Blk.new w t (List.replicate n (.slice none 0 0))
  refine ⟨by simp, by simp, some ⟨w.heap.size, 0, none⟩, n, rfl, Nat.zero_le _, hc, .inr ⟨w.heap.size, rfl, Nat.le_refl _, by rw [World.size_alloc]; omega, by simp, fun j hj => ?_⟩⟩
  have q := hB.cell (j := j) (v := .slice none 0 0) (by rw [List.getElem?_replicate, if_pos (by omega)])
  exact ⟨by rw [q]; rfl, hB.free j⟩
/-- lists that were told, one more -/
theorem LlN.more {w w3 w4 w5 : World} {base : Nat} {v v3 v5 : Value} {E : List (List Chg × Value)} {l : List Chg} (h : LlN w base v E) (k3 : Kept [] w w3) (h3 : Cs w3 w.heap.size v3 l) (hb : base ≤ w.heap.size) (k4 : Kept [] w3 w4) (k5 : Kept v.ownBlock.toList w4 w5) (r5 : Row w5 base 1 v5 (E.length + 1) (E.map Prod.snd ++ [v3])) (o5 : v5.ownBlock = v.ownBlock ∨ (v5.ownBlock = some w4.heap.size ∧ Kept [] w4 w5)) : LlN w5 base v5 (E ++ [(l, v3)]) := by
  have hv : ∀ z, v.ownBlock = some z → z < w.heap.size := fun z hz => (Row.lt h.row z hz).2
  have hE : ∀ d ∈ E, ∀ z, d.2.ownBlock = some z → z < w.heap.size := fun d hd z hz => (Row.lt (h.each d hd) z hz).2
  have h3b : ∀ z, v3.ownBlock = some z → w.heap.size ≤ z ∧ z < w3.heap.size := fun z hz => Row.lt h3 z hz
  have s4 := k4.size
  have s3 := k3.size
  have ap := List.pairwise_cons.1 h.ap
  have v5E : ∀ d ∈ E, Ap v5 d.2 := fun d hd z hz e => by
    rcases o5 with o | ⟨o, -⟩
    · rw [o] at hz; exact ap.1 d.2 (List.mem_map.2 ⟨d, hd, rfl⟩) z hz e
    · rw [o] at hz; have := (Option.some.inj hz).symm; have := hE d hd z e; omega
  have v53 : Ap v5 v3 := fun z hz e => by
    rcases o5 with o | ⟨o, -⟩
    · rw [o] at hz; have := hv z hz; have := (h3b z e).1; omega
    · rw [o] at hz; have := (Option.some.inj hz).symm; have := (h3b z e).2; omega
  refine ⟨by rw [List.length_append, List.map_append]; exact r5, fun d hd => ?_, ?_⟩
  · rcases List.mem_append.1 hd with q | q
    · have r := ((h.each d q).kept k3 (by simp)).kept k4 (by simp)
      exact Row.kept r k5 (fun z hz hz' => ap.1 d.2 (List.mem_map.2 ⟨d, q, rfl⟩) z (own_mem.1 hz') hz)
    · simp at q; subst q
      have r : Row w5 w.heap.size 3 v3 l.length (ccells l) := Row.kept (h3.kept k4 (by simp)) k5 (fun z hz hz' => by have := hv z (own_mem.1 hz'); have := (h3b z hz).1; omega)
      exact Row.mono r hb
  · rw [List.map_append]
    refine List.pairwise_cons.2 ⟨fun u hu => ?_, List.pairwise_append.2 ⟨ap.2, by simp, fun a ha b hb' => ?_⟩⟩
    · rcases List.mem_append.1 hu with q | q
      · obtain ⟨d, hd, rfl⟩ := List.mem_map.1 q
        exact v5E d hd
      · simp at q; subst q; exact v53
    · simp at hb'; subst hb'
      obtain ⟨d, hd, rfl⟩ := List.mem_map.1 ha
      exact fun z hz e => by have := hE d hd z hz; have := (h3b z e).1; omega
set_option maxRecDepth 20000 in
set_option maxHeartbeats 3200000 in
theorem fDone {g : Nat} {F : List Nat} {c : Cf} {S : St} (w : World) (h : Pz w g F c S) (hs : small S) : Calls Tryz.prog 16 #[.pointer (some ⟨g, 0, none⟩)] w fun e w' => ∃ v D, e = .returned v ∧ LlN w' w.heap.size v D ∧ D.map Prod.fst = S.done ∧ Kept [] w w' := by
  obtain ⟨V, hp, -⟩ := h
  have B := hp.box
  obtain ⟨pd, cd, evd, hnc, hcm⟩ := hp.done.shape
  obtain ⟨m, hm⟩ : ∃ m, m = S.done.length := ⟨_, rfl⟩
  rw [evd, ← hm] at B
  have c9 := B.cell (j := 9) rfl
  have hm36 : m ≤ 3600000000000 := by rw [hm]; unfold small cnt at hs; omega
  have hmk := makeDone w m hm36
  obtain ⟨w1, hw1⟩ : ∃ wx, wx = w.alloc (.cells (List.replicate m (Value.slice none 0 0)).toArray 48) := ⟨_, rfl⟩
  have r1 := row_room w 48 m (by unfold maxLen; omega)
  have k1 : Kept [] w w1 := by rw [hw1]; exact (Kept.refl [] w).alloc _
  rw [← hw1] at r1 hmk
  have hrow := hp.done
  rw [evd, ← hm] at hrow
  have HP := @hideH _ (And.intro hp (And.intro hrow (And.intro hm (And.intro hm36 hs))))
  have H1 := @hideH _ (And.intro r1 k1)
  have c91 := k1.cell c9 (by simp)
  obtain ⟨infD, hin1, hin2, hin3, hin4⟩ := info_parts3 (show (Tryz.prog.info? 48).map (fun i => (i.zero, i.size, i.bytes)) = some (some (.slice none 0 0), 1, 24) by kernel_rfl)
  have HID := @hideH _ (And.intro hin1 (And.intro hin2 (And.intro hin3 hin4)))
  clear hin1 hin2 hin3 hin4
  clear B hp hnc hcm hm hm36 r1 k1 hw1 hrow hs evd
  go_enter Tryz.func16, Tryz.ntmps16
  go_wp2
  go_loopw [3, 17] (fun vo vi wr => ∃ (i : Nat) (E : List (List Chg × Value)), i ≤ m ∧ vi = .int .i64 i ∧ (∃ p c, vo = .slice p i c) ∧ E.length = i ∧ Hid (LlN wr w.heap.size vo E ∧ E.map Prod.fst = S.done.take i ∧ Kept [] w wr)) (fun _ vi _ => m - (iOf3 vi).toNat)
  case atStart => exact ⟨0, [], Nat.zero_le _, rfl, ⟨_, _, rfl⟩, rfl, ⟨H1.out.1, by simp, by simp⟩, by simp, H1.out.2⟩
  case round =>
    obtain ⟨i, E, hi, rfl, ⟨po, co, rfl⟩, hEi, hh⟩ := hrel
    by_cases him : i < m
    · have him' : (i : Int) < (m : Int) := by omega
      have hi0 : (0 : Int) ≤ (i : Int) := by omega
      have wi : IntKind.i64.wrap ((i : Int) + 1) = (i : Int) + 1 := wrap_i64_of (by omega) (by have := HP.out.2.2.2.1; omega)
      obtain ⟨l, hl⟩ : ∃ l, S.done[i]? = some l := ⟨_, List.getElem?_eq_getElem (by have := HP.out.2.2.1; omega)⟩
      have hcs := HP.out.1.dns i l hl
      obtain ⟨gd, rfl, -, -, h8, -⟩ := Row.pos HP.out.2.1 (by omega)
      obtain ⟨pl, cl, evl, hncl, hcml⟩ := hcs.shape
      have cx := hh.out.2.2.cell (h8 i (.slice pl l.length cl) (by rw [List.getElem?_map, List.getElem?_range him]; show some (V (.dn i)) = _; rw [evl])) (by simp)
      have hll : l.length ≤ 3600000000000 := by
        have hs := HP.out.2.2.2.2
        unfold small cnt at hs
        have q : l.length ≤ S.done.flatten.length := by
          have e := split_at hl
          rw [e, List.flatten_append, List.flatten_cons, List.length_append, List.length_append]
          omega
        omega
      rw [evl] at hcs
      have HC := @hideH _ (qClone wr (hcs.kept hh.out.2.2 (by simp)) hll)
      obtain ⟨n, hn⟩ : ∃ n, n = l.length := ⟨_, rfl⟩
      rw [← hn] at cx HC
      have HL := @hideH _ (And.intro hl hn)
      clear hl hcs h8 evl hncl hcml hll hn
      go_wp2_with fail
      refine HC.out.mono ?_
      clear HC
      rintro e w3 ⟨p3, c3, rfl, cs3, k3⟩
      obtain ⟨w4, hw4⟩ : ∃ wx, wx = w3.alloc (.cells #[.slice p3 n c3] 48) := ⟨_, rfl⟩
      have k4 : Kept [] w3 w4 := by rw [hw4]; exact (Kept.refl [] w3).alloc _
      have hsrc := srcS (P := Tryz.prog) w3 41 48 Tryz.underlying41 p3 n c3
      rw [← hw4] at hsrc
      have R4 : Row w4 w.heap.size 1 (.slice po i co) i (E.map Prod.snd) := by
        have q := (hh.out.1.row.kept k3 (by simp)).kept k4 (by simp)
        rw [hEi] at q
        exact q
      have H3 := @hideH _ (And.intro cs3 (And.intro k3 k4))
      have hba : w.heap.size ≤ w4.heap.size := by have := hh.out.2.2.size; have := k3.size; have := k4.size; omega
      have HIB := @hideH _ (show i ≤ 3600000000000 by have := HP.out.2.2.2.1; omega)
      clear cs3 k3 k4
      go_wp2_with (at_builtin; (try rw [← hw4]); (try clear hw4); refine wpList_append_row2 rfl (.tmp 21) (.tmp 24) 41 rfl w.heap.size 48 infD (.slice none 0 0) 1 24 Tryz.underlying41 HID.out.1 HID.out.2.1 HID.out.2.2.1 HID.out.2.2.2 rfl _ _ _ (by rfl) R4 _ 1 _ (by rfl) hsrc (by have e1 := HIB.out; omega) (by have e1 := HIB.out; unfold maxLen; omega) (by have e1 := HIB.out; omega) hba ?_; intro v' w5 r5 k5 o5; obtain ⟨p5, c5, hv5, -⟩ := Row.shape r5; subst hv5; have HX5 := @hideH _ (And.intro r5 (And.intro k5 o5)); clear r5 k5 o5 R4 hsrc)
      have LM := LlN.more (l := l) (v3 := .slice p3 n c3) hh.out.1 H3.out.2.1 H3.out.1 hh.out.2.2.size H3.out.2.2 HX5.out.2.1 (by rw [hEi]; exact HX5.out.1) HX5.out.2.2
      have HF := @hideH _ (show LlN w5 w.heap.size (.slice p5 (i + 1) c5) (E ++ [(l, .slice p3 n c3)]) ∧ (E ++ [(l, Value.slice p3 n c3)]).map Prod.fst = S.done.take (i + 1) ∧ Kept [] w w5 from ⟨LM, by rw [List.map_append, hh.out.2.1, List.take_add_one, HL.out.1]; rfl, (hh.out.2.2.then (H3.out.2.1.then H3.out.2.2)).trans HX5.out.2.1 (fun z hz => .inr (Row.lt hh.out.1.row z (own_mem.1 hz)).1)⟩)
      clear LM
      try go_wp2
      go_roundw
      case rel => exact ⟨i + 1, _, by omega, by go_num, ⟨p5, c5, rfl⟩, by rw [List.length_append, hEi]; rfl, HF.out⟩
      case measure => first | (simp [iOf3]; done) | (simp [iOf3]; omega)
    · obtain rfl : i = m := by omega
      have HE := @hideH _ (show E.map Prod.fst = S.done by rw [hh.out.2.1, List.take_of_length_le (by have := HP.out.2.2.1; omega)])
      go_wp2
      go_ret
      exact ⟨_, E, by first | rfl | trivial, hh.out.1, HE.out, hh.out.2.2⟩
theorem pnTel : PnTel Vr Pz := ⟨fun w hv h hs => fEntries w hv h hs, fun w _ h hs => fDone w h hs⟩
end Go.Proofs.YtnjfahgmebmakaaGreatDoor

/-
  OWN WORK. THE STATEMENT, out of the walk.
-/
namespace Go.Proofs.YtnjfahgmebmakaaGreatDoor.plainApart
open Go.ChangeShapes Go.WideShapes Go.ChangeAt Go.RowKit
set_option linter.unusedVariables false
set_option maxRecDepth 100000 in
theorem contract (H : Type) (enc : TypeId × Value → H) (W : World) (base : Nat) (args : Array Value) (ds gs : List (DataW H)) (before : List MemPlace)
    (hval : ∀ (j : Nat) t v, Tryz.f5.params[j]? = some t → args[j]? = some v → Value.okWide Tryz.prog W .any base t v)
    (hW : DataW.Whole enc Tryz.prog Tryz.f5.params.toList Rows.plainApartSpec.vars false W args.toList ds gs before) (hsz : (DataW.weightsEach Tryz.prog (Tryz.f5.params.toList ++ Rows.plainApartSpec.plain.varTypes Tryz.prog) (ds ++ gs)).all (· ≤ reachBytes) = true) (hv : Vr W) :
    Calls Tryz.prog 5 args W fun e W' => ∃ v, e = .returned v ∧ Rows.plainApartSpec.post enc Tryz.prog Tryz.f5 false true false false W args v W' := by
  have hW' := hW
  obtain ⟨p, q, hA0, hV, rfl, hfz, hnd⟩ := hW
  have hA : DataW.TrodAll enc Tryz.prog W 0 (fun _ => true) true Tryz.f5.params.toList args.toList ds p := hA0
  rw [Tryz.params5] at hA hval hsz
  obtain ⟨v0, vs0, d0, ds0, p0, q0, hargs, rfl, rfl, h0, r0⟩ := trodAll_cons hA
  obtain ⟨v1, vs1, d1, ds1, p1, q1, rfl, rfl, rfl, h1, r1⟩ := trodAll_cons r0
  obtain ⟨v2, vs2, d2, ds2, p2, q2, rfl, rfl, rfl, h2, r2⟩ := trodAll_cons r1
  obtain ⟨v3, vs3, d3, ds3, p3, q3, rfl, rfl, rfl, h3, r3⟩ := trodAll_cons r2
  obtain ⟨rfl, rfl, rfl⟩ := trodAll_nil r3
  obtain rfl : args = #[v0, v1, v2, v3] := by cases args; simp_all
  obtain ⟨rfl, rfl⟩ := trodVars_none hV
  have hv0 : Value.okWide Tryz.prog W .any base 25 v0 := hval 0 25 v0 (by rfl) (by rfl)
  obtain ⟨cs0, rfl, sz0⟩ := okWide_struct (P := Tryz.prog) (t := 25) Tryz.underlying25 hv0
  clear hv0
  have lt0 : ∀ x ∈ p0, x.block < W.heap.size := by obtain ⟨m, hm⟩ := h0; exact DataW.trod_lt m _ _ _ hm
  obtain ⟨c0, hag0, ri0⟩ := conf_open (sz0.trans (by kernel_rfl)) h0
  rw [hag0] at h0 hW' ⊢
  obtain ⟨ao1, len1, cap1, rfl⟩ := okWide_slice Tryz.underlying26 (hval 1 26 v1 rfl rfl)
  have lt1 : ∀ x ∈ p1, x.block < W.heap.size := by obtain ⟨m, hm⟩ := h1; exact DataW.trod_lt m _ _ _ hm
  obtain ⟨l1, hl1, B1, dd1⟩ := ops_open h1
  obtain ⟨ao2, len2, cap2, rfl⟩ := okWide_slice Tryz.underlying31 (hval 2 31 v2 rfl rfl)
  have lt2 : ∀ x ∈ p2, x.block < W.heap.size := by obtain ⟨m, hm⟩ := h2; exact DataW.trod_lt m _ _ _ hm
  obtain ⟨l2, hl2, B2⟩ := inn_open h2
  obtain ⟨a3, rfl, rfl, rfl⟩ := Go.RowKit.open_bool Tryz.underlying4 (hval 3 4 v3 rfl rfl) h3
  clear hA0
  have szl1 : l1.length ≤ 3550000000000 := by
    rcases dd1 with ⟨_, e⟩ | ⟨el, sp, rfl, e⟩
    · rw [hl1, e]; omega
    · have := sized_slice hsz (j := 1) (t := 26) rfl rfl Tryz.underlying26
      rw [show Tryz.prog.bytesOf 66 = 40 by kernel_rfl] at this
      simp only [reachBytes] at this
      rw [hl1, ← e]
      omega
  refine (plainApart_walk pnOps pnTel pnFold c0 _ l1 _ l2 a3 W hv B1 szl1 B2).mono fun e W' ⟨he, kp⟩ => ?_
  subst he
  have bel := kp.below
  exact ⟨_, rfl, _, _, _, [], _, [], hW', trodAll_mk1 (shut_bool Tryz.underlying4 _), (trodAll_cons_mk (Below.trod laidOut (by kernel_rfl) (of_decide_eq_true (by kernel_rfl)) h0 bel lt0) (trodAll_cons_mk (Below.trod laidOut (by kernel_rfl) (of_decide_eq_true (by kernel_rfl)) h1 bel lt1) (trodAll_cons_mk (Below.trod laidOut (by kernel_rfl) (of_decide_eq_true (by kernel_rfl)) h2 bel lt2) (trodAll_cons_mk (Go.RowKit.shut_bool Tryz.underlying4 _) trodAll_mk0)))), rfl, bel.frame _, fun h => by cases h⟩

set_option maxRecDepth 100000 in
theorem lifted (os : Os) (started : os.Started) (H : Type) (enc : TypeId × Value → H) :
    ReturnsInHanded {} Tryz.checked os 5 .any (fun w args => (Rows.plainApartSpec.pre enc Tryz.prog Tryz.f5 [] false w args ∧ laidMetH Tryz.prog laidL w) ∧ sizedMet enc Tryz.prog Tryz.f5 (OpenSpec.ofChange Rows.plainApartSpec) false w args)
      (Rows.plainApartSpec.post enc Tryz.prog Tryz.f5 false true false false) := by
  refine returnsInHanded_of_change_and (C := Tryz.checked) (X := fun w _ => laidMetH Tryz.prog laidL w) (fun _ _ _ hh h => h.of_heap hh) own started (by kernel_rfl) Tryz.func5
    (ChangeSpec.witness_at (enc := enc) (C := Tryz.checked) (os := os) (X := fun w _ => laidMetH Tryz.prog laidL w) false (laidWorld os) #[.agg #[.int .i64 0, .int .i64 0, .int .i64 0, .int .i64 0, .int .i64 0, .int .i64 0], .slice none 0 0, .slice none 0 0, .bool false] 8 rfl (by kernel_rfl) (by kernel_rfl) (by kernel_rfl) (by kernel_rfl) (by kernel_rfl) (laidWorld_met os _)) ?_
  intro W base args ds gs before hval hW _ hsz hL _
  exact contract H enc W base args ds gs before hval hW hsz (vr_of_laid hL)

theorem proved : Rows.PlainApartSaid :=
  OpenClaim.holds_of_wide 5 Tryz.f5 rfl rfl rfl rfl rfl rfl rfl ⟨rfl, rfl, rfl, rfl, rfl⟩ rfl rfl rfl rfl rfl (by kernel_rfl) Tryz.func5 (by kernel_rfl)
    (of_decide_eq_true (by kernel_rfl)) (by unfold Func.isWrapper; first | (rw [if_pos (by decide +kernel)]; kernel_rfl) | (rw [if_neg (by decide +kernel)]; exact ⟨rfl, rfl⟩))
    (fun os started H enc _ => lifted os started H enc)

theorem card : Rows.PlainApartCardSaid :=
  Claim7.holds_tied_plain_at .later [] [.handle] true Rows.plainApartCard.stood.harness true
    (proved) (fun _ h => by cases h) (by kernel_rfl) (fun _ h => by cases h) plainApart_row_tie rfl ⟨rfl, rfl⟩ (by kernel_rfl) rfl
    (fun f fn hf hfn => by
      obtain rfl : f = 5 := Option.some.inj ((show Tryz.prog.funcNamed "tidemark/tidemarklaw18.PlainApart" = some 5 by kernel_rfl).symm.trans hf) |>.symm
      obtain rfl : fn = Tryz.f5 := (Option.some.inj (Tryz.func5.symm.trans hfn)).symm
      exact ⟨by kernel_rfl, fun j t ht => by
        rw [Tryz.params5] at ht
        rcases j with _ | _ | _ | _ | j
        · obtain rfl : t = 25 := by simpa using ht.symm
          exact (show Tryz.prog.wantsStandIn 25 = false by kernel_rfl)
        · obtain rfl : t = 26 := by simpa using ht.symm
          exact (show Tryz.prog.wantsStandIn 26 = false by kernel_rfl)
        · obtain rfl : t = 31 := by simpa using ht.symm
          exact (show Tryz.prog.wantsStandIn 31 = false by kernel_rfl)
        · obtain rfl : t = 4 := by simpa using ht.symm
          exact (show Tryz.prog.wantsStandIn 4 = false by kernel_rfl)
        · simp at ht⟩)
    (by kernel_rfl)
#print axioms card
end Go.Proofs.YtnjfahgmebmakaaGreatDoor.plainApart

