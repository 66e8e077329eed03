import Derived.Test.YtocpagpkpibmaaaDoorRows
import Derived.Test.YtocpagpkpibmaaaDoorCards
import Derived.Test.YtocpagpkpibmaaaDoorTie
import Derived.SevenTiedAt
import Derived.Handed
import Derived.Test.YtocpagpkpibmaaaDoorC10
/-
  OWN WORK. The landed plain (layer 18): Ids.
-/
namespace Go.Proofs.YtocpagpkpibmaaaDoor
open Go.RowKit Go.Maps Go.Sort Go.Shelf
set_option linter.unusedVariables false
set_option linter.unusedSimpArgs false
theorem sortsA (m : Nat) : AnyZI.SortsIn Tryd.prog sortedA_ren Fence.wide m :=
  ⟨fun blk off cap ss W hH hblk hsz => callsIn_wide.2 (AnyM.slices_Sort_int sortA blk off cap ss W hH hblk hsz),
   fun p cap W => callsIn_wide.2 (AnyM.slices_Sort_int_none sortA p cap W)⟩
/-- a row as the library tells it, as a list of numbers of one's own -/
theorem Ns.ofOwns {w : World} {base : Nat} {v : Value} {l : List Int} (h : w.ownsRow base 3 1 v l.length (l.map encZ)) : Ns w base v l := by
  obtain ⟨h1, h2⟩ := h
  unfold Ns
  have hc : i64s l = l.map encZ := rfl
  refine ⟨by rw [i64s_length]; omega, i64s_one l, ?_⟩
  rcases h2 with ⟨e, e2⟩ | ⟨g, cap, cur, e, hb, hbl, hc1, hc2, hc3, hc4⟩
  · exact ⟨none, 0, by rw [e, e2], by omega, by simp [maxLen], .inl ⟨rfl, rfl⟩⟩
  · refine ⟨some ⟨g, 0, none⟩, cap, e, hc1, hc2, .inr ⟨g, rfl, hb, ?_, fun j u hj => ?_, fun j hj => ?_⟩⟩
    · exact (Array.getElem?_eq_some_iff.1 hbl).1
    · have hjl := (List.getElem?_eq_some_iff.1 hj).1
      rw [i64s_length] at hjl
      have q : (cur.toList.take (l.length * 1))[j]? = some u := by rw [hc4]; exact hj
      rw [List.getElem?_take_of_lt (by omega), Array.getElem?_toList] at q
      simp [World.cell?, hbl, q]
    · refine ⟨?_, by simp [World.frozen?, hbl]⟩
      have : j < cur.size := by omega
      simp [World.cell?, hbl, this]
set_option maxHeartbeats 1600000 in
theorem qIds {V : Tag → Value} {g : Nat} {c : Cf} {S : St} (w : World) (h : PpP w V g c S) : Calls Tryd.prog 14 #[.pointer (some ⟨g, 0, none⟩)] w fun e w' => ∃ vi, e = .returned vi ∧ Ns w' w.heap.size vi (idsS S) ∧ Kept [] w w' := by
  obtain ⟨bo, e1, D, hO, hT, hK⟩ := h.opn
  have B := h.box
  rw [e1] at B
  have c7 := B.cell (j := 7) rfl
  have hsz := size_ks hO hT hK
  have hp := idsS_perm h.ok
  have hup := idsS_up S
  have h8 := h.ok.lenN
  have hmax : Maps.size D ≤ maxLen := by rw [hsz.2, List.length_map]; unfold maxLen; omega
  have hbytes : Maps.size D * 8 ≤ 140737488355328 := by rw [hsz.2, List.length_map]; omega
  have hbl := hO.lt
  have HR := @hideH _ (And.intro hsz.1 (And.intro hp hup))
  clear B h hT hK hp hup hsz
  refine (callsIn_wide (n := 6)).1 ?_
  have hseq : SeqGives Fence.wide 2 Tryd.prog 43 #[.pointer (some ⟨w.heap.size, 0, none⟩)] encZ (fun ss => ss.Perm (intKeys D)) (Maps.size D) (w.alloc (.cells #[.map (some bo)] 75)) :=
    AnyZI.keys_gives (ρ := keysA_ren) { keysA with } Fence.wide _ trivial rfl (by omega) w.heap.size bo _ D _ (by simp) (by simp) (by
      obtain ⟨es, clock, hb, Ft, hs, hD⟩ := hO
      exact ⟨es, clock, (Below.heap_alloc _ _ bo hbl).trans hb, Ft, hs, hD⟩)
  have cK : ∀ mb W, CallsIn Fence.wide 5 Tryd.prog 27 #[.map mb] W fun e w' => e = .returned (.func (.func 43) #[] #[.pointer (some ⟨W.heap.size, 0, none⟩)]) ∧ w' = W.alloc (.cells #[.map mb] 75) := fun mb W => AnyZI.keys_in keysA Fence.wide 5 trivial rfl mb W
  have cS := AnyZI.sorted_in sortedA Fence.wide 5 trivial trivial trivial trivial rfl (by omega) (sortsA _) (enters_of Tryd.func42 (by kernel_rfl) rfl) 43 #[.pointer (some ⟨w.heap.size, 0, none⟩)] trivial (enters_of Tryd.func43 (by kernel_rfl) rfl) _ _ hmax hbytes _ hseq
  change CallsIn _ _ Tryd.prog 26 _ _ _ at cS
  have hfK : Fence.wide.fn 27 := trivial
  have hfS : Fence.wide.fn 26 := trivial
  refine callsIn_of_wp Tryd.func14 rfl trivial ?_ rfl
  simp only [Tryd.ntmps14, List.size_toArray, List.length_cons, List.length_nil, Nat.reduceAdd, Nat.reduceSub, Array.replicate_succ, Array.replicate_zero, List.push_toArray, List.append_toArray, List.nil_append, List.cons_append]
  gi_wp2_with (first
    | (gi_at_call 27; refine (cK _ _).mono ?_; rintro e w' ⟨rfl, rfl⟩)
    | (gi_at_call 26; refine cS.mono ?_; rintro e w' ⟨v, ss, rfl, hS, hrow, hnil, hb⟩))
  go_ret
  have hlen : ss.length = (ss.mergeSort (fun x y => decide (x ≤ y))).length := by simp
  have hperm : (ss.mergeSort (fun x y => decide (x ≤ y))).Perm (idsS S) := ((List.mergeSort_perm ss _).trans (hS.trans HR.out.1.symm)).trans HR.out.2.1.symm
  have heq : ss.mergeSort (fun x y => decide (x ≤ y)) = idsS S := by
    refine hperm.eq_of_pairwise (le := fun x y : Int => x ≤ y) (fun a b _ _ h1 h2 => by omega) ?_ (HR.out.2.2.imp fun q => by omega)
    have q := List.pairwise_mergeSort (le := fun x y : Int => decide (x ≤ y)) (fun a b c h1 h2 => by simp at *; omega) (fun a b => by simp; omega) ss
    exact q.imp fun h => by simpa using h
  refine ⟨v, rfl, ?_, ?_⟩
  · rw [hlen, heq] at hrow
    exact (Ns.ofOwns hrow).mono (by simp)
  · exact ((Kept.refl [] w).alloc _).then (Kept.ofBelow hb)
end Go.Proofs.YtocpagpkpibmaaaDoor

/-
  OWN WORK. The landed plain (layer 18): its State is what the laws ask for.
-/
namespace Go.Proofs.YtocpagpkpibmaaaDoor
open Go.RowKit
theorem fIds {g : Nat} {F : List Nat} {c : Cf} {S : St} (w : World) (h : Pz w g F c S) : Calls Tryd.prog 14 #[.pointer (some ⟨g, 0, none⟩)] w fun e w' => ∃ vi, e = .returned vi ∧ Ns w' w.heap.size vi (idsS S) ∧ Kept [] w w' := by
  obtain ⟨V, hp, -⟩ := h
  exact qIds w hp
theorem pnOps : PnOps [0] Vr Pz where
  kept h k hX := h.kept k hX
  lt h x hx := by
    obtain ⟨V, -, -, h3, -⟩ := h
    exact h3 x hx
  ok h := by
    obtain ⟨V, hp, -⟩ := h
    exact hp.ok
  vkept hv k hX := hv.kept k (hX 0 (by simp))
  vlt hv x hx := by
    have e : x = 0 := by simpa using hx
    rw [e]; exact hv.lt
  knot h x hx := by
    have e : x = 0 := by simpa using hx
    obtain ⟨V, -, -, -, h4⟩ := h
    rw [e]; exact h4
  new c w hv := fNew c w hv
  begin_ id w hv h _ hi := fBegin id w hv h hi
  get id key w hv h hs hi hk := fGet id key w hv h hs hi hk
  put id key v w hv h hs hi hk hu := fPut id key v w hv h hs hi hk hu
  delete id key w hv h hs hi hk := fDelete id key w hv h hs hi hk
  commit id w hv h hs hi := fCommit id w hv h hs hi
  abort id w hv h _ hi := fAbort id w hv h hi
  check d w hv h _ _ := fCheck d w hv h
  renew w hv h _ := fRenew w hv h
  ids w _ h := fIds w h
  used w _ h := fUsed w h
end Go.Proofs.YtocpagpkpibmaaaDoor

/-
  OWN WORK. THE STATEMENT, out of the walk.
-/
namespace Go.Proofs.YtocpagpkpibmaaaDoor.plainSums
open Go.ChangeShapes Go.WideShapes Go.ChangeAt Go.RowKit
set_option linter.unusedVariables false
set_option maxRecDepth 100000 in
theorem contract (H : Type) (enc : TypeId × Value → H) (W : World) (base : Nat) (args : Array Value) (ds gs : List (DataW H)) (before : List MemPlace)
    (hval : ∀ (j : Nat) t v, Tryd.f4.params[j]? = some t → args[j]? = some v → Value.okWide Tryd.prog W .any base t v)
    (hW : DataW.Whole enc Tryd.prog Tryd.f4.params.toList Rows.plainSumsSpec.vars false W args.toList ds gs before) (hsz : (DataW.weightsEach Tryd.prog (Tryd.f4.params.toList ++ Rows.plainSumsSpec.plain.varTypes Tryd.prog) (ds ++ gs)).all (· ≤ reachBytes) = true) (hv : Vr W) :
    Calls Tryd.prog 4 args W fun e W' => ∃ v, e = .returned v ∧ Rows.plainSumsSpec.post enc Tryd.prog Tryd.f4 false true false false W args v W' := by
  have hW' := hW
  obtain ⟨p, q, hA0, hV, rfl, hfz, hnd⟩ := hW
  have hA : DataW.TrodAll enc Tryd.prog W 0 (fun _ => true) true Tryd.f4.params.toList args.toList ds p := hA0
  rw [Tryd.params4] at hA hval hsz
  obtain ⟨v0, vs0, d0, ds0, p0, q0, hargs, rfl, rfl, h0, r0⟩ := trodAll_cons hA
  obtain ⟨v1, vs1, d1, ds1, p1, q1, rfl, rfl, rfl, h1, r1⟩ := trodAll_cons r0
  obtain ⟨rfl, rfl, rfl⟩ := trodAll_nil r1
  obtain rfl : args = #[v0, v1] := by cases args; simp_all
  obtain ⟨rfl, rfl⟩ := trodVars_none hV
  have hv0 : Value.okWide Tryd.prog W .any base 39 v0 := hval 0 39 v0 (by rfl) (by rfl)
  obtain ⟨cs0, rfl, sz0⟩ := okWide_struct (P := Tryd.prog) (t := 39) Tryd.underlying39 hv0
  clear hv0
  have lt0 : ∀ x ∈ p0, x.block < W.heap.size := by obtain ⟨m, hm⟩ := h0; exact DataW.trod_lt m _ _ _ hm
  obtain ⟨c0, hag0, ri0⟩ := conf_open (sz0.trans (by kernel_rfl)) h0
  rw [hag0] at h0 hW' ⊢
  obtain ⟨ao1, len1, cap1, rfl⟩ := okWide_slice Tryd.underlying40 (hval 1 40 v1 rfl rfl)
  have lt1 : ∀ x ∈ p1, x.block < W.heap.size := by obtain ⟨m, hm⟩ := h1; exact DataW.trod_lt m _ _ _ hm
  obtain ⟨l1, hl1, B1, dd1⟩ := ops_open h1
  clear hA0
  have szl1 : l1.length ≤ 3600000000000 := by
    rcases dd1 with ⟨_, e⟩ | ⟨el, sp, rfl, e⟩
    · rw [hl1, e]; omega
    · have := sized_slice hsz (j := 1) (t := 40) rfl rfl Tryd.underlying40
      rw [show Tryd.prog.bytesOf 51 = 40 by kernel_rfl] at this
      simp only [reachBytes] at this
      rw [hl1, ← e]
      omega
  refine (plainSums_walk pnOps c0 _ l1 W hv B1 szl1).mono fun e W' ⟨he, kp⟩ => ?_
  subst he
  have bel := kp.below
  exact ⟨_, rfl, _, _, _, [], _, [], hW', trodAll_mk1 (shut_bool Tryd.underlying4 _), (trodAll_cons_mk (Below.trod laidOut (by kernel_rfl) (of_decide_eq_true (by kernel_rfl)) h0 bel lt0) (trodAll_cons_mk (Below.trod laidOut (by kernel_rfl) (of_decide_eq_true (by kernel_rfl)) h1 bel lt1) trodAll_mk0)), rfl, bel.frame _, fun h => by cases h⟩

set_option maxRecDepth 100000 in
theorem lifted (os : Os) (started : os.Started) (H : Type) (enc : TypeId × Value → H) :
    ReturnsInHanded {} Tryd.checked os 4 .any (fun w args => (Rows.plainSumsSpec.pre enc Tryd.prog Tryd.f4 [] false w args ∧ laidMetH Tryd.prog laidL w) ∧ sizedMet enc Tryd.prog Tryd.f4 (OpenSpec.ofChange Rows.plainSumsSpec) false w args)
      (Rows.plainSumsSpec.post enc Tryd.prog Tryd.f4 false true false false) := by
  refine returnsInHanded_of_change_and (C := Tryd.checked) (X := fun w _ => laidMetH Tryd.prog laidL w) (fun _ _ _ hh h => h.of_heap hh) own started (by kernel_rfl) Tryd.func4
    (ChangeSpec.witness_at (enc := enc) (C := Tryd.checked) (os := os) (X := fun w _ => laidMetH Tryd.prog laidL w) false (laidWorld os) #[.agg #[.int .i64 0, .int .i64 0, .int .i64 0, .int .i64 0, .int .i64 0, .int .i64 0], .slice none 0 0] 8 rfl (by kernel_rfl) (by kernel_rfl) (by kernel_rfl) (by kernel_rfl) (by kernel_rfl) (laidWorld_met os _)) ?_
  intro W base args ds gs before hval hW _ hsz hL _
  exact contract H enc W base args ds gs before hval hW hsz (vr_of_laid hL)

theorem proved : Rows.PlainSumsSaid :=
  OpenClaim.holds_of_wide 4 Tryd.f4 rfl rfl rfl rfl rfl rfl rfl ⟨rfl, rfl, rfl, rfl, rfl⟩ rfl rfl rfl rfl rfl (by kernel_rfl) Tryd.func4 (by kernel_rfl)
    (of_decide_eq_true (by kernel_rfl)) (by unfold Func.isWrapper; first | (rw [if_pos (by decide +kernel)]; kernel_rfl) | (rw [if_neg (by decide +kernel)]; exact ⟨rfl, rfl⟩))
    (fun os started H enc _ => lifted os started H enc)

theorem card : Rows.PlainSumsCardSaid :=
  Claim7.holds_tied_plain_at .later [] [.handle] true Rows.plainSumsCard.stood.harness true
    (proved) (fun _ h => by cases h) (by kernel_rfl) (fun _ h => by cases h) plainSums_row_tie rfl ⟨rfl, rfl⟩ (by kernel_rfl) rfl
    (fun f fn hf hfn => by
      obtain rfl : f = 4 := Option.some.inj ((show Tryd.prog.funcNamed "tidemark/tidemarklaw18.PlainSums" = some 4 by kernel_rfl).symm.trans hf) |>.symm
      obtain rfl : fn = Tryd.f4 := (Option.some.inj (Tryd.func4.symm.trans hfn)).symm
      exact ⟨by kernel_rfl, fun j t ht => by
        rw [Tryd.params4] at ht
        rcases j with _ | _ | j
        · obtain rfl : t = 39 := by simpa using ht.symm
          exact (show Tryd.prog.wantsStandIn 39 = false by kernel_rfl)
        · obtain rfl : t = 40 := by simpa using ht.symm
          exact (show Tryd.prog.wantsStandIn 40 = false by kernel_rfl)
        · simp at ht⟩)
    (by kernel_rfl)
#print axioms card
end Go.Proofs.YtocpagpkpibmaaaDoor.plainSums

