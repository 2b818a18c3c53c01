/-
  The statement UnitChecks of spile/spilelaw03 holds: for every input the call returns true, and each argument reads afterwards as it read before. (The listed package variables hold what the program lays: the card ties them.)
-/
import Derived.Test.YtdhckbjebccdbaaDoorULaw
import Derived.Test.YtdhckbjebccdbaaDoorURefU
import Derived.Test.YtdhckbjebccdbaaDoorOpenU
import Derived.Deep.RegionHeld3
import Derived.Test.YtdhckbjebccdbaaDoorCards
import Derived.Test.YtdhckbjebccdbaaDoorTie
import Derived.Below
import Derived.Carry
import Derived.Lib.LaidTab
import Derived.Deep.DeepHandedRow
import Derived.SevenTiedPlain
import Derived.Lay
namespace Go.Proofs.YtdhckbjebccdbaaDoor.unitChecks
open Go.ChangeShapes Go.WideShapes Go.ChangeAt Go.RowKit
open Go.ChangeMaps (open_string shut_string)
set_option linter.unusedVariables false

theorem checks_long (k a : Int) (s : ByteArray) (w : World) (h : 100 < s.size) (hn : s.size ≤ 9223372036854775807)
    (HA : Hid (∀ W, Below w.heap.size w W → Calls Tryd.prog 10 #[] W fun e w' => e = .returned (.bool true) ∧ Below W.heap.size W w')) :
    Calls Tryd.prog 3 #[.agg #[.int .i64 k, .int .i64 a], .string s] w fun e w' => e = .returned (.bool true) ∧ Below w.heap.size w w' := by
  go_enter Tryd.func3, Tryd.ntmps3
  go_wp2_with fail
  refine (HA.out _ (bel_alloc (Below.refl _ _))).mono ?_
  rintro e w1 ⟨rfl, gg⟩
  have X1 := Lib.hid (bel_alloc gg); clear gg
  go_wp2
  go_returns
  exact ⟨rfl, X1.out⟩

set_option maxRecDepth 100000 in
set_option maxHeartbeats 4000000 in
theorem checks_core (k a K F E G Q : Int) (L : List UInt8) (s : ByteArray) (w : World) (h : s.size ≤ 100)
    (HA : Hid (∀ W, Below w.heap.size w W → Calls Tryd.prog 10 #[] W fun e w' => e = .returned (.bool true) ∧ Below W.heap.size W w'))
    (H1 : Hid (∀ W, Below w.heap.size w W → Calls Tryd.prog 11 #[.string s] W fun e w' => e = .returned (.tuple #[.int .i64 K, .int .i64 F, .int .i64 E]) ∧ Below W.heap.size W w'))
    (H2 : Hid (∀ W, Calls Tryd.prog 12 #[.string s] W fun e w' => e = .returned (.tuple #[.int .i64 K, .int .i64 F, .int .i64 E]) ∧ Below W.heap.size W w'))
    (H3 : Hid (∀ W, Below w.heap.size w W → Calls Tryd.prog 13 #[.agg #[.int .i64 k, .int .i64 a]] W fun e w' => e = .returned (.tuple #[.string ⟨L.toArray⟩, .int .i64 G]) ∧ Below W.heap.size W w'))
    (H4 : Hid (∀ W, Calls Tryd.prog 14 #[.agg #[.int .i64 k, .int .i64 a]] W fun e w' => e = .returned (.tuple #[.string ⟨L.toArray⟩, .int .i64 G]) ∧ Below W.heap.size W w'))
    (H5 : Hid (∀ W, Below w.heap.size w W → Calls Tryd.prog 15 #[.agg #[.int .i64 k, .int .i64 a]] W fun e w' => e = .returned (.int .i64 Q) ∧ Below W.heap.size W w'))
    (H6 : Hid (∀ W, Calls Tryd.prog 16 #[.agg #[.int .i64 k, .int .i64 a]] W fun e w' => e = .returned (.int .i64 Q) ∧ Below W.heap.size W w')) :
    Calls Tryd.prog 3 #[.agg #[.int .i64 k, .int .i64 a], .string s] w fun e w' => e = .returned (.bool true) ∧ Below w.heap.size w w' := by
  go_enter Tryd.func3, Tryd.ntmps3
  go_wp2_with fail
  have T1 := Lib.hid (Two.new w (.int .i64 k) (.int .i64 a) 23)
  have X1 := Lib.hid (bel_alloc (Below.refl (w.alloc (.cells #[.int .i64 k, .int .i64 a] 23)).heap.size (w.alloc (.cells #[.int .i64 k, .int .i64 a] 23))))
  refine (HA.out _ X1.out).mono ?_
  rintro e w1 ⟨rfl, gg⟩
  replace T1 := Lib.hid (T1.out.below gg)
  replace X1 := Lib.hid (bel_trans X1.out gg); clear gg
  go_wp2_with fail
  refine (H1.out _ X1.out).mono ?_
  rintro e w2 ⟨rfl, gg⟩
  replace T1 := Lib.hid (T1.out.below gg)
  replace X1 := Lib.hid (bel_trans X1.out gg); clear gg
  go_wp2_with fail
  refine (H2.out _).mono ?_
  rintro e w3 ⟨rfl, gg⟩
  replace T1 := Lib.hid (T1.out.below gg)
  replace X1 := Lib.hid (bel_trans X1.out gg); clear gg
  obtain ⟨p0, p1, _, _, _⟩ := T1.out
  go_wp2_with fail
  refine (H3.out _ X1.out).mono ?_
  rintro e w4 ⟨rfl, gg⟩
  clear p0 p1
  replace T1 := Lib.hid (T1.out.below gg)
  replace X1 := Lib.hid (bel_trans X1.out gg); clear gg
  obtain ⟨p0, p1, _, _, _⟩ := T1.out
  go_wp2_with fail
  refine (H4.out _).mono ?_
  rintro e w5 ⟨rfl, gg⟩
  clear p0 p1
  replace T1 := Lib.hid (T1.out.below gg)
  replace X1 := Lib.hid (bel_trans X1.out gg); clear gg
  have K5 : Hid (∀ W, Below w.heap.size w W ∧ Two w.heap.size W (.int .i64 k) (.int .i64 a) → Calls Tryd.prog 15 #[.agg #[.int .i64 k, .int .i64 a]] W fun e w' => e = .returned (.int .i64 Q) ∧ (Below w.heap.size w w' ∧ Two w.heap.size w' (.int .i64 k) (.int .i64 a))) :=
    fun W h => (H5.out W h.1).mono fun e w' g => ⟨g.1, bel_trans h.1 g.2, h.2.below g.2⟩
  have K6 : Hid (∀ W, Below w.heap.size w W ∧ Two w.heap.size W (.int .i64 k) (.int .i64 a) → Calls Tryd.prog 16 #[.agg #[.int .i64 k, .int .i64 a]] W fun e w' => e = .returned (.int .i64 Q) ∧ (Below w.heap.size w w' ∧ Two w.heap.size w' (.int .i64 k) (.int .i64 a))) :=
    fun W h => (H6.out W).mono fun e w' g => ⟨g.1, bel_trans h.1 g.2, h.2.below g.2⟩
  have B5 : Hid (Below w.heap.size w w5.drew ∧ Two w.heap.size w5.drew (.int .i64 k) (.int .i64 a)) := ⟨bel_trans X1.out (bel_drew _), T1.out.below (bel_drew _)⟩
  obtain ⟨p0, p1, _, _, _⟩ := T1.out
  clear H1 H2 H3 H4 H5 H6
  have ss : (({ data := L.toArray } : ByteArray).toList == ({ data := L.toArray } : ByteArray).toList) = true := by simp
  go_wp2_with fail
  go_region_held3 (fun w' => w'.cell? ⟨w.heap.size, 0, none⟩ = some (.int .i64 k) ∧ w'.cell? ⟨w.heap.size, 1, none⟩ = some (.int .i64 a)) (go_keep)
    (first | (go_at_call 15; (with_reducible refine (K5.out _ B5.out).mono ?_); rintro e w6 ⟨rfl, B6⟩; have c0 := B6.2.1; have c1 := B6.2.2.1; replace B6 := Lib.hid B6) | (go_at_call 16; (with_reducible refine (K6.out _ B6.out).mono ?_); rintro e w7 ⟨rfl, B7⟩; have d0 := B7.2.1; have d1 := B7.2.2.1; replace B7 := Lib.hid B7))
  go_wp2
  go_ret
  exact ⟨rfl, B7.out.1⟩

theorem walk (k a : Int) (s : ByteArray) (w : World) (_ : -9223372036854775808 ≤ k ∧ k ≤ 9223372036854775807) (_ : -9223372036854775808 ≤ a ∧ a ≤ 9223372036854775807) (hs : s.size ≤ 9223372036854775807) (hw : LaidU w) :
    Calls Tryd.prog 3 #[.agg #[.int .i64 k, .int .i64 a], .string s] w fun e w' => e = .returned (.bool true) ∧ Below w.heap.size w w' := by
  have HA : Hid (∀ W, Below w.heap.size w W → Calls Tryd.prog 10 #[] W fun e w' => e = .returned (.bool true) ∧ Below W.heap.size W w') := fun W h => awake_any W (hw.below h)
  by_cases h : 100 < s.size
  · exact checks_long k a s w h hs HA
  · exact checks_core k a _ _ _ _ _ _ s w (by omega) HA (fun W hW => unit_any s W) (fun W => refUnit_any s W hs) (fun W hW => best_any k a W (hw.below hW)) (fun W => refBest_any k a W) (fun W hW => check_any k a W (hw.below hW)) (fun W => refCheck_any k a W)

set_option maxRecDepth 100000 in
theorem contract (H : Type) (enc : TypeId × Value → H) (W : World) (base : Nat) (args : Array Value) (ds gs : List (DataW H)) (before : List MemPlace)
    (hval : ∀ (j : Nat) t v, Tryd.f3.params[j]? = some t → args[j]? = some v → Value.okWide Tryd.prog W .any base t v)
    (hW : DataW.Whole enc Tryd.prog Tryd.f3.params.toList Rows.unitChecksSpec.vars false W args.toList ds gs before) (hL : laidMetH Tryd.prog Rows.unitChecksRow.laid W) (hSh : W.ShapedOpen Tryd.prog) :
    Calls Tryd.prog 3 args W fun e W' => ∃ v, e = .returned v ∧ Rows.unitChecksSpec.post enc Tryd.prog Tryd.f3 false true false false W args v W' := by
  have hW' := hW
  obtain ⟨p, q, hA0, hV, rfl, hfz, hnd⟩ := hW
  have hA : DataW.TrodAll enc Tryd.prog W 0 (fun _ => true) true Tryd.f3.params.toList args.toList ds p := hA0
  rw [Tryd.params3] at hA hval
  obtain ⟨v0, vs0, d0, ds0, p0, q0, hargs, rfl, rfl, h0, r0⟩ := trodAll_cons hA
  obtain ⟨v1, vs1, d1, ds1, p1, q1, rfl, rfl, rfl, h1, r1⟩ := trodAll_cons r0
  obtain ⟨rfl, rfl, rfl⟩ := trodAll_nil r1
  obtain rfl : args = #[v0, v1] := by cases args; simp_all
  obtain ⟨rfl, rfl⟩ := trodVars_none hV
  have k0 := h0
  have lt0 : ∀ x ∈ p0, x.block < W.heap.size := by obtain ⟨m, hm⟩ := k0; exact DataW.trod_lt m _ _ _ hm
  have k1 := h1
  have lt1 : ∀ x ∈ p1, x.block < W.heap.size := by obtain ⟨m, hm⟩ := k1; exact DataW.trod_lt m _ _ _ hm
  obtain ⟨y0, m0, rfl, wy0, wm0⟩ := open_qty (hval 0 23 v0 rfl rfl) h0
  obtain ⟨a1, rfl, rfl, rfl, w1⟩ := open_string Tryd.underlying9 (hval 1 9 v1 rfl rfl) h1
  clear hA0
  refine (walk y0 m0 a1 W wy0 wm0 w1 (laid_of rfl hL hSh)).mono fun e W' ⟨he, bel⟩ => ?_
  subst he
  exact ⟨_, rfl, _, _, _, [], _, [], hW', trodAll_mk1 (shut_bool Tryd.underlying4 _), (trodAll_cons_mk (Below.trod laidOut (by kernel_rfl) (of_decide_eq_true (by kernel_rfl)) k0 bel lt0) (trodAll_cons_mk (Below.trod laidOut (by kernel_rfl) (of_decide_eq_true (by kernel_rfl)) k1 bel lt1) trodAll_mk0)), rfl, bel.frame _, fun h => by cases h⟩

noncomputable def laidWorld (os : Os) : World := World.laidAll Tryd.prog os Rows.unitChecksRow.laid
theorem laid_met (os : Os) : laidMet Tryd.prog Rows.unitChecksRow.laid ((laidWorld os).forCall (fun _ _ => 0) ⟨#[], #[.agg #[.int .i64 0, .int .i64 0], .string ByteArray.empty], []⟩).memory :=
  laidMet_laidAll _ (by kernel_rfl) (by kernel_rfl)
theorem reads (os : Os) {H : Type} (enc : TypeId × Value → H) : ∃ places, DataW.whole enc Tryd.prog ((laidWorld os).forCall (fun _ _ => 0) ⟨#[], #[.agg #[.int .i64 0, .int .i64 0], .string ByteArray.empty], []⟩).memory Tryd.f3.params.toList Rows.unitChecksSpec.vars false (#[.agg #[.int .i64 0, .int .i64 0], .string ByteArray.empty] : Array Value).toList 8 = some ([.agg [.lit (.int .i64 0), .lit (.int .i64 0)], .lit (.string [])], [], places) :=
  ⟨[], by kernel_rfl⟩

set_option maxRecDepth 100000 in
theorem lifted (os : Os) (started : os.Started) (H : Type) (enc : TypeId × Value → H) (F : Stop.Interp) :
    ReturnsInHanded {} Tryd.checked os 3 .any ((OpenSpec.ofChange Rows.unitChecksSpec).preRow enc Tryd.prog Tryd.f3 Rows.unitChecksRow.domain false Rows.unitChecksRow.laid) (((OpenSpec.ofChange Rows.unitChecksSpec).at F).post enc Tryd.prog Tryd.f3 false true false false) := by
  obtain ⟨places, hx⟩ := reads os enc
  refine returnsInHanded_of_row (C := Tryd.checked) (s := OpenSpec.ofChange Rows.unitChecksSpec) own started (by kernel_rfl) Tryd.func3
    (witness_row_at (enc := enc) (C := Tryd.checked) false (laidWorld os) #[.agg #[.int .i64 0, .int .i64 0], .string ByteArray.empty] (World.laidAll_os _ _ _) (by kernel_rfl) (by kernel_rfl) (by kernel_rfl)
      (OpenSpec.preRow_of_cond 8 hx (by kernel_rfl) (fun k hk => by cases hk) (by kernel_rfl) (laid_met os))) ?_
  intro W base args ds gs before hval hW _ _ _ hL hSh _
  exact contract H enc W base args ds gs before hval hW hL hSh

theorem said : Rows.UnitChecksSaid :=
  OpenClaim.holds_of_cond 3 Tryd.f3 rfl rfl rfl rfl rfl rfl rfl ⟨rfl, rfl, rfl, rfl, rfl⟩ rfl rfl rfl rfl rfl (by kernel_rfl) Tryd.func3 (by kernel_rfl)
    (of_decide_eq_true (by kernel_rfl)) (by unfold Func.isWrapper; first | (rw [if_pos (by decide +kernel)]; kernel_rfl) | (rw [if_neg (by decide +kernel)]; exact ⟨rfl, rfl⟩))
    (fun os started H enc _ F => by rw [OpenClaim.pre_eq_preRow]; exact lifted os started H enc F)

theorem plain (f : FuncId) (fn : Func) (hf : Tryd.pinned.checked.prog.funcNamed "spile/spilelaw03.UnitChecks" = some f) (hfn : Tryd.pinned.checked.prog.funcs[f]? = some fn) :
    false = Tryd.pinned.checked.prog.looks [] ∧ ∀ (j : Nat) t, fn.params[j]? = some t → Tryd.pinned.checked.prog.wantsStandIn t = false := by
  obtain rfl : f = 3 := Option.some.inj ((show Tryd.prog.funcNamed "spile/spilelaw03.UnitChecks" = some 3 by kernel_rfl).symm.trans hf) |>.symm
  obtain rfl : fn = Tryd.f3 := (Option.some.inj (Tryd.func3.symm.trans hfn)).symm
  refine ⟨by kernel_rfl, fun j t ht => ?_⟩
  rw [Tryd.params3] at ht
  rcases j with _ | _ | j
  · obtain rfl : t = 23 := by simpa using ht.symm
    exact (show Tryd.prog.wantsStandIn 23 = false by kernel_rfl)
  · obtain rfl : t = 9 := by simpa using ht.symm
    exact (show Tryd.prog.wantsStandIn 9 = false by kernel_rfl)
  · simp at ht

theorem proved : Rows.UnitChecksCardSaid :=
  Claim7.holds_tied_plain_at .later [] _ _ _ _ said (fun _ h => by cases h) (by kernel_rfl) (fun _ h => by cases h) unitChecks_row_tie rfl ⟨rfl, rfl⟩ (by kernel_rfl) rfl plain (by kernel_rfl)
#print axioms proved
end Go.Proofs.YtdhckbjebccdbaaDoor.unitChecks
