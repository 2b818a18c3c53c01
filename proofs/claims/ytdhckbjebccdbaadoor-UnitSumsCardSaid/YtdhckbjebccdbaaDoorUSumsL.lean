/-
  The statement UnitSums of spile/spilelaw03 holds: for every input the call returns true, and each argument reads afterwards as it read before. (The listed package variables hold what the program lays: the card ties them.)
-/
import Derived.Test.YtdhckbjebccdbaaDoorULaw
import Derived.Test.YtdhckbjebccdbaaDoorURefS
import Derived.Test.YtdhckbjebccdbaaDoorUClone
import Derived.Test.YtdhckbjebccdbaaDoorUQOpen
import Derived.Test.YtdhckbjebccdbaaDoorOpenU
import Derived.Test.YtdhckbjebccdbaaDoorCards
import Derived.Test.YtdhckbjebccdbaaDoorTie
import Derived.Below
import Derived.Carry
import Derived.Lib.LaidTab
import Derived.Deep.DeepHandedRow
import Derived.SevenTiedPlain
import Derived.Lay
namespace Go.Proofs.YtdhckbjebccdbaaDoor.unitSums
open Go.ChangeShapes Go.WideShapes Go.ChangeAt Go.RowKit
open Go.ChangeMaps (open_string shut_string)
set_option linter.unusedVariables false

theorem sums_long (a : Option Addr) (n cap : Nat) (w : World) (h : 65 < n) (hn : n ≤ 9223372036854775807)
    (HA : Hid (∀ W, Below w.heap.size w W → Calls Tryd.prog 10 #[] W fun e w' => e = .returned (.bool true) ∧ Below W.heap.size W w')) :
    Calls Tryd.prog 5 #[.slice a n cap] w fun e w' => e = .returned (.bool true) ∧ Below w.heap.size w w' := by
  go_enter Tryd.func5, Tryd.ntmps5
  go_wp2_with fail
  refine (HA.out _ (Below.refl _ _)).mono ?_
  rintro e w1 ⟨rfl, gg⟩
  have X1 := Lib.hid gg; clear gg
  go_wp2
  go_returns
  exact ⟨rfl, X1.out⟩

set_option maxRecDepth 100000 in
set_option maxHeartbeats 4000000 in
theorem sums_core (a : Option Addr) (n cap : Nat) (l : List (Int × Int)) (K A E : Int) (w : World) (h : n ≤ 65) (hv : Hid (Qs w (.slice a n cap) l))
    (HA : Hid (∀ W, Below w.heap.size w W → Calls Tryd.prog 10 #[] W fun e w' => e = .returned (.bool true) ∧ Below W.heap.size W w'))
    (HC : Hid (∀ W, Qs W (.slice a n cap) l → Calls Tryd.prog 22 #[.slice a n cap] W fun e w' => ∃ u, e = .returned u ∧ Qs w' u l ∧ Below W.heap.size W w'))
    (HS : Hid (∀ u W, Below w.heap.size w W → Qs W u l → Calls Tryd.prog 21 #[u] W fun e w' => e = .returned (.tuple #[.agg #[.int .i64 K, .int .i64 A], .int .i64 E]) ∧ Below W.heap.size W w'))
    (HR : Hid (∀ W, Qs W (.slice a n cap) l → Calls Tryd.prog 23 #[.slice a n cap] W fun e w' => e = .returned (.tuple #[.agg #[.int .i64 K, .int .i64 A], .int .i64 E]) ∧ Below W.heap.size W w')) :
    Calls Tryd.prog 5 #[.slice a n cap] w fun e w' => e = .returned (.bool true) ∧ Below w.heap.size w w' := by
  have HQ := fun W => run_eql_qty K A K A W
  rw [show samQ K A K A = true by simp [samQ]] at HQ
  go_enter Tryd.func5, Tryd.ntmps5
  go_wp2_with fail
  refine (HA.out _ (Below.refl _ _)).mono ?_
  rintro e w1 ⟨rfl, gg⟩
  have X1 := Lib.hid gg; clear gg
  go_wp2_with fail
  refine (HC.out _ (hv.out.below X1.out)).mono ?_
  rintro e w2 ⟨u, rfl, hu, gg⟩
  replace X1 := Lib.hid (bel_trans X1.out gg); clear gg
  have HU := Lib.hid hu; clear hu
  go_wp2_with fail
  refine (HS.out _ _ X1.out HU.out).mono ?_
  rintro e w3 ⟨rfl, gg⟩
  replace X1 := Lib.hid (bel_trans X1.out gg); clear gg HU
  go_wp2_with fail
  have T1 := Lib.hid (Two.new w3 (.int .i64 K) (.int .i64 A) 23)
  replace X1 := Lib.hid (bel_trans X1.out (bel_alloc (Below.refl (w3.alloc (.cells #[.int .i64 K, .int .i64 A] 23)).heap.size _)))
  refine (HR.out _ (hv.out.below X1.out)).mono ?_
  rintro e w4 ⟨rfl, gg⟩
  replace T1 := Lib.hid (T1.out.below gg)
  replace X1 := Lib.hid (bel_trans X1.out gg); clear gg
  obtain ⟨p0, p1, _, _, hlt⟩ := T1.out
  go_wp2
  go_ret
  exact ⟨rfl, bel_trans X1.out (bel_alloc (Below.refl _ _))⟩

theorem walk (v : Value) (l : List (Int × Int)) (w : World) (hv : Qs w v l) (hw : LaidU w) :
    Calls Tryd.prog 5 #[v] w fun e w' => e = .returned (.bool true) ∧ Below w.heap.size w w' := by
  have HA : Hid (∀ W, Below w.heap.size w W → Calls Tryd.prog 10 #[] W fun e w' => e = .returned (.bool true) ∧ Below W.heap.size W w') := fun W h => awake_any W (hw.below h)
  have hv' := hv
  obtain ⟨a, cap, rfl, hl, _⟩ := hv'
  by_cases h : 65 < l.length
  · exact sums_long _ _ _ _ h (by omega) HA
  · exact sums_core a l.length cap l _ _ _ w (by omega) hv HA (fun W hW => (clone_q _ l W hW (by omega)).mono fun e w' ⟨u, g1, g2, g3⟩ => ⟨u, g1, g2.qs, g3⟩) (fun u W hW hu => sum_any u l W (hw.below hW) hu) (fun W hW => refSum_any _ l W hW)

set_option maxRecDepth 100000 in
theorem contract (H : Type) (enc : TypeId × Value → H) (W : World) (base : Nat) (args : Array Value) (ds gs : List (DataW H)) (before : List MemPlace)
    (hval : ∀ (j : Nat) t v, Tryd.f5.params[j]? = some t → args[j]? = some v → Value.okWide Tryd.prog W .any base t v)
    (hW : DataW.Whole enc Tryd.prog Tryd.f5.params.toList Rows.unitSumsSpec.vars false W args.toList ds gs before) (hL : laidMetH Tryd.prog Rows.unitSumsRow.laid W) (hSh : W.ShapedOpen Tryd.prog) :
    Calls Tryd.prog 5 args W fun e W' => ∃ v, e = .returned v ∧ Rows.unitSumsSpec.post enc Tryd.prog Tryd.f5 false true false false W args v W' := by
  have hW' := hW
  obtain ⟨p, q, hA0, hV, rfl, hfz, hnd⟩ := hW
  have hA : DataW.TrodAll enc Tryd.prog W 0 (fun _ => true) true Tryd.f5.params.toList args.toList ds p := hA0
  rw [Tryd.params5] at hA hval
  obtain ⟨v0, vs0, d0, ds0, p0, q0, hargs, rfl, rfl, h0, r0⟩ := trodAll_cons hA
  obtain ⟨rfl, rfl, rfl⟩ := trodAll_nil r0
  obtain rfl : args = #[v0] := by cases args; simp_all
  obtain ⟨rfl, rfl⟩ := trodVars_none hV
  have k0 := h0
  have lt0 : ∀ x ∈ p0, x.block < W.heap.size := by obtain ⟨m, hm⟩ := k0; exact DataW.trod_lt m _ _ _ hm
  obtain ⟨z0, w0⟩ := open_qtys (hval 0 36 v0 rfl rfl) h0
  clear hA0
  refine (walk v0 z0 W w0 (laid_of rfl hL hSh)).mono fun e W' ⟨he, bel⟩ => ?_
  subst he
  exact ⟨_, rfl, _, _, _, [], _, [], hW', trodAll_mk1 (shut_bool Tryd.underlying4 _), (trodAll_cons_mk (Below.trod laidOut (by kernel_rfl) (of_decide_eq_true (by kernel_rfl)) k0 bel lt0) trodAll_mk0), rfl, bel.frame _, fun h => by cases h⟩

noncomputable def laidWorld (os : Os) : World := World.laidAll Tryd.prog os Rows.unitSumsRow.laid
theorem laid_met (os : Os) : laidMet Tryd.prog Rows.unitSumsRow.laid ((laidWorld os).forCall (fun _ _ => 0) ⟨#[], #[.slice none 0 0], []⟩).memory :=
  laidMet_laidAll _ (by kernel_rfl) (by kernel_rfl)
theorem reads (os : Os) {H : Type} (enc : TypeId × Value → H) : ∃ places, DataW.whole enc Tryd.prog ((laidWorld os).forCall (fun _ _ => 0) ⟨#[], #[.slice none 0 0], []⟩).memory Tryd.f5.params.toList Rows.unitSumsSpec.vars false (#[.slice none 0 0] : Array Value).toList 8 = some ([.nil], [], places) :=
  ⟨[], by kernel_rfl⟩

set_option maxRecDepth 100000 in
theorem lifted (os : Os) (started : os.Started) (H : Type) (enc : TypeId × Value → H) (F : Stop.Interp) :
    ReturnsInHanded {} Tryd.checked os 5 .any ((OpenSpec.ofChange Rows.unitSumsSpec).preRow enc Tryd.prog Tryd.f5 Rows.unitSumsRow.domain false Rows.unitSumsRow.laid) (((OpenSpec.ofChange Rows.unitSumsSpec).at F).post enc Tryd.prog Tryd.f5 false true false false) := by
  obtain ⟨places, hx⟩ := reads os enc
  refine returnsInHanded_of_row (C := Tryd.checked) (s := OpenSpec.ofChange Rows.unitSumsSpec) own started (by kernel_rfl) Tryd.func5
    (witness_row_at (enc := enc) (C := Tryd.checked) false (laidWorld os) #[.slice none 0 0] (World.laidAll_os _ _ _) (by kernel_rfl) (by kernel_rfl) (by kernel_rfl)
      (OpenSpec.preRow_of_cond 8 hx (by kernel_rfl) (fun k hk => by cases hk) (by kernel_rfl) (laid_met os))) ?_
  intro W base args ds gs before hval hW _ _ _ hL hSh _
  exact contract H enc W base args ds gs before hval hW hL hSh

theorem said : Rows.UnitSumsSaid :=
  OpenClaim.holds_of_cond 5 Tryd.f5 rfl rfl rfl rfl rfl rfl rfl ⟨rfl, rfl, rfl, rfl, rfl⟩ rfl rfl rfl rfl rfl (by kernel_rfl) Tryd.func5 (by kernel_rfl)
    (of_decide_eq_true (by kernel_rfl)) (by unfold Func.isWrapper; first | (rw [if_pos (by decide +kernel)]; kernel_rfl) | (rw [if_neg (by decide +kernel)]; exact ⟨rfl, rfl⟩))
    (fun os started H enc _ F => by rw [OpenClaim.pre_eq_preRow]; exact lifted os started H enc F)

theorem plain (f : FuncId) (fn : Func) (hf : Tryd.pinned.checked.prog.funcNamed "spile/spilelaw03.UnitSums" = some f) (hfn : Tryd.pinned.checked.prog.funcs[f]? = some fn) :
    false = Tryd.pinned.checked.prog.looks [] ∧ ∀ (j : Nat) t, fn.params[j]? = some t → Tryd.pinned.checked.prog.wantsStandIn t = false := by
  obtain rfl : f = 5 := Option.some.inj ((show Tryd.prog.funcNamed "spile/spilelaw03.UnitSums" = some 5 by kernel_rfl).symm.trans hf) |>.symm
  obtain rfl : fn = Tryd.f5 := (Option.some.inj (Tryd.func5.symm.trans hfn)).symm
  refine ⟨by kernel_rfl, fun j t ht => ?_⟩
  rw [Tryd.params5] at ht
  rcases j with _ | j
  · obtain rfl : t = 36 := by simpa using ht.symm
    exact (show Tryd.prog.wantsStandIn 36 = false by kernel_rfl)
  · simp at ht

theorem proved : Rows.UnitSumsCardSaid :=
  Claim7.holds_tied_plain_at .later [] _ _ _ _ said (fun _ h => by cases h) (by kernel_rfl) (fun _ h => by cases h) unitSums_row_tie rfl ⟨rfl, rfl⟩ (by kernel_rfl) rfl plain (by kernel_rfl)
#print axioms proved
end Go.Proofs.YtdhckbjebccdbaaDoor.unitSums
