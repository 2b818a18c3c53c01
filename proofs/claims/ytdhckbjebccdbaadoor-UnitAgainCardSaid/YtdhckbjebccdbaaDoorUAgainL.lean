/-
  The statement UnitAgain of spile/spilelaw03 holds: for every input the call returns true, and each argument reads afterwards as it read before. (The listed package variables hold what the program lays: the card ties them.)
-/
import Derived.Test.YtdhckbjebccdbaaDoorULaw
import Derived.Test.YtdhckbjebccdbaaDoorUAg
import Derived.Test.YtdhckbjebccdbaaDoorOpenU
import Derived.Test.YtdhckbjebccdbaaDoorCards
import Derived.Test.YtdhckbjebccdbaaDoorTie
import Derived.Below
import Derived.Carry
import Derived.Lib.LaidTab
import Derived.Deep.DeepHandedRow
import Derived.SevenTiedPlain
import Derived.Lay
namespace Go.Proofs.YtdhckbjebccdbaaDoor.unitAgain
open Go.ChangeShapes Go.WideShapes Go.ChangeAt Go.RowKit
open Go.ChangeMaps (open_string shut_string)
set_option linter.unusedVariables false

theorem again_long (s : ByteArray) (w : World) (hs : s.size ≤ 9223372036854775807) (h : 100 < s.size)
    (HA : Hid (∀ W, Below w.heap.size w W → Calls Tryd.prog 10 #[] W fun e w' => e = .returned (.bool true) ∧ Below W.heap.size W w')) :
    Calls Tryd.prog 7 #[.string s] w fun e w' => e = .returned (.bool true) ∧ Below w.heap.size w w' := by
  go_enter Tryd.func7, Tryd.ntmps7
  go_wp2_with fail
  refine (HA.out _ (Below.refl _ _)).mono ?_
  rintro e w1 ⟨rfl, gg⟩
  have X1 := Lib.hid gg; clear gg
  go_wp2
  go_returns
  exact ⟨rfl, X1.out⟩

set_option maxRecDepth 100000 in
set_option maxHeartbeats 4000000 in
theorem again_core (s U N : ByteArray) (pt : Bool) (K A E F : Int) (R : ByteArray) (w : World) (hs : s.size ≤ 100)
    (HA : Hid (∀ W, Below w.heap.size w W → Calls Tryd.prog 10 #[] W fun e w' => e = .returned (.bool true) ∧ Below W.heap.size W w'))
    (H1 : Hid (∀ W, Below w.heap.size w W → Calls Tryd.prog 19 #[.string s] W fun e w' => e = .returned (.tuple #[.agg #[.int .i64 K, .int .i64 A], .int .i64 E]) ∧ Below W.heap.size W w'))
    (H2 : Hid (∀ W, Below w.heap.size w W → Calls Tryd.prog 26 #[.string s, .string ⟨#[32]⟩] W fun e w' => e = .returned (.tuple #[.string N, .string U, .bool pt]) ∧ Below W.heap.size W w'))
    (H3 : Hid (∀ W, Below w.heap.size w W → Calls Tryd.prog 17 #[.agg #[.int .i64 K, .int .i64 A], .string U] W fun e w' => e = .returned (.tuple #[.string R, .int .i64 F]) ∧ Below W.heap.size W w'))
    (H4 : Hid (∀ W, Below w.heap.size w W → Calls Tryd.prog 15 #[.agg #[.int .i64 K, .int .i64 A]] W fun e w' => e = .returned (.int .i64 (qE K A)) ∧ Below W.heap.size W w'))
    (h : (((E == 0) = false ∧ (E != 0) = true) ∧ K = 0 ∧ A = 0) ∨ (E = 0 ∧ pt = true ∧ F = 0 ∧ R = s ∧ qE K A = 0)) :
    Calls Tryd.prog 7 #[.string s] w fun e w' => e = .returned (.bool true) ∧ Below w.heap.size w w' := by
  have HH := Lib.hid h; clear h
  have HQ := fun W => run_eql_qty 0 0 0 0 W
  rw [show samQ 0 0 0 0 = true by decide] at HQ
  go_enter Tryd.func7, Tryd.ntmps7
  go_wp2_with fail
  refine (HA.out _ (Below.refl _ _)).mono ?_
  rintro e w1 ⟨rfl, gg⟩
  have X1 := Lib.hid gg; clear gg
  go_wp2_with fail
  refine (H1.out _ X1.out).mono ?_
  rintro e w2 ⟨rfl, gg⟩
  replace X1 := Lib.hid (bel_trans X1.out gg); clear gg
  rcases HH.out with ⟨⟨e1, e2⟩, rfl, rfl⟩ | ⟨rfl, rfl, rfl, rfl, hq⟩
  · clear HH
    go_wp2
    go_returns
    exact ⟨rfl, bel_trans X1.out (bel_alloc (Below.refl _ _))⟩
  · rw [hq] at H4
    clear HH hq HQ
    go_wp2_with fail
    have T1 := Lib.hid (Two.new w2 (.int .i64 K) (.int .i64 A) 23)
    replace X1 := Lib.hid (bel_trans X1.out (bel_alloc (Below.refl (w2.alloc (.cells #[.int .i64 K, .int .i64 A] 23)).heap.size _)))
    refine (H2.out _ X1.out).mono ?_
    rintro e w3 ⟨rfl, gg⟩
    replace T1 := Lib.hid (T1.out.below gg)
    replace X1 := Lib.hid (bel_trans X1.out gg); clear gg
    obtain ⟨p0, p1, _, _, _⟩ := T1.out
    go_wp2_with fail
    refine (H3.out _ X1.out).mono ?_
    rintro e w4 ⟨rfl, gg⟩
    clear p0 p1
    replace T1 := Lib.hid (T1.out.below gg)
    replace X1 := Lib.hid (bel_trans X1.out gg); clear gg
    obtain ⟨p0, p1, _, _, _⟩ := T1.out
    have HK := Lib.hid (H4.out _ X1.out)
    have hss : (R.toList == R.toList) = true := by simp
    go_wp2_with (go_at_call 15; refine HK.out.mono ?_; rintro e w9 ⟨rfl, gg⟩; replace X1 := Lib.hid (bel_trans X1.out gg); clear gg)
    go_ret
    exact ⟨rfl, X1.out⟩

theorem walk (s : ByteArray) (w : World) (hs : s.size ≤ 9223372036854775807) (hw : LaidU w) :
    Calls Tryd.prog 7 #[.string s] w fun e w' => e = .returned (.bool true) ∧ Below w.heap.size w w' := by
  have HA : Hid (∀ W, Below w.heap.size w W → Calls Tryd.prog 10 #[] W fun e w' => e = .returned (.bool true) ∧ Below W.heap.size W w') := fun W h => awake_any W (hw.below h)
  by_cases h : 100 < s.size
  · exact again_long s w hs h HA
  · refine again_core s ⟨(psU s.data.toList).toArray⟩ ⟨(psN s.data.toList).toArray⟩ (Lib.cut s.data.toList [32]).2.2 (psK s.data.toList) (psA s.data.toList) (psE s.data.toList) (prE (psK s.data.toList) (psA s.data.toList) (psU s.data.toList)) ⟨(prL (psK s.data.toList) (psA s.data.toList) (psU s.data.toList)).toArray⟩ w (by omega) HA
      (fun W h => parse_any s W (hw.below h) hs) (fun W h => ?_) (fun W h => print_any _ _ ⟨(psU s.data.toList).toArray⟩ W (hw.below h)) (fun W h => check_any _ _ W (hw.below h)) ?_
    · obtain ⟨m, hm⟩ := (hw.below h).2.2
      refine (Tryd.strings_Cut s ⟨#[32]⟩ m W (by omega) hm).mono ?_
      rintro e w' ⟨rfl, n, rfl⟩
      exact ⟨rfl, bel_drewN _ _⟩
    · by_cases he : psE s.data.toList = 0
      · right
        obtain ⟨g1, g2, g3, g4⟩ := again _ he
        exact ⟨he, g1, g3, by rw [g2], g4⟩
      · left
        exact ⟨⟨by simpa using he, by simpa using he⟩, by unfold psK; rw [if_neg he], by unfold psA; rw [if_neg he]⟩

set_option maxRecDepth 100000 in
theorem contract (H : Type) (enc : TypeId × Value → H) (W : World) (base : Nat) (args : Array Value) (ds gs : List (DataW H)) (before : List MemPlace)
    (hval : ∀ (j : Nat) t v, Tryd.f7.params[j]? = some t → args[j]? = some v → Value.okWide Tryd.prog W .any base t v)
    (hW : DataW.Whole enc Tryd.prog Tryd.f7.params.toList Rows.unitAgainSpec.vars false W args.toList ds gs before) (hL : laidMetH Tryd.prog Rows.unitAgainRow.laid W) (hSh : W.ShapedOpen Tryd.prog) :
    Calls Tryd.prog 7 args W fun e W' => ∃ v, e = .returned v ∧ Rows.unitAgainSpec.post enc Tryd.prog Tryd.f7 false true false false W args v W' := by
  have hW' := hW
  obtain ⟨p, q, hA0, hV, rfl, hfz, hnd⟩ := hW
  have hA : DataW.TrodAll enc Tryd.prog W 0 (fun _ => true) true Tryd.f7.params.toList args.toList ds p := hA0
  rw [Tryd.params7] at hA hval
  obtain ⟨v0, vs0, d0, ds0, p0, q0, hargs, rfl, rfl, h0, r0⟩ := trodAll_cons hA
  obtain ⟨rfl, rfl, rfl⟩ := trodAll_nil r0
  obtain rfl : args = #[v0] := by cases args; simp_all
  obtain ⟨rfl, rfl⟩ := trodVars_none hV
  have k0 := h0
  have lt0 : ∀ x ∈ p0, x.block < W.heap.size := by obtain ⟨m, hm⟩ := k0; exact DataW.trod_lt m _ _ _ hm
  obtain ⟨a0, rfl, rfl, rfl, w0⟩ := open_string Tryd.underlying9 (hval 0 9 v0 rfl rfl) h0
  clear hA0
  refine (walk a0 W w0 (laid_of rfl hL hSh)).mono fun e W' ⟨he, bel⟩ => ?_
  subst he
  exact ⟨_, rfl, _, _, _, [], _, [], hW', trodAll_mk1 (shut_bool Tryd.underlying4 _), (trodAll_cons_mk (Below.trod laidOut (by kernel_rfl) (of_decide_eq_true (by kernel_rfl)) k0 bel lt0) trodAll_mk0), rfl, bel.frame _, fun h => by cases h⟩

noncomputable def laidWorld (os : Os) : World := World.laidAll Tryd.prog os Rows.unitAgainRow.laid
theorem laid_met (os : Os) : laidMet Tryd.prog Rows.unitAgainRow.laid ((laidWorld os).forCall (fun _ _ => 0) ⟨#[], #[.string ByteArray.empty], []⟩).memory :=
  laidMet_laidAll _ (by kernel_rfl) (by kernel_rfl)
theorem reads (os : Os) {H : Type} (enc : TypeId × Value → H) : ∃ places, DataW.whole enc Tryd.prog ((laidWorld os).forCall (fun _ _ => 0) ⟨#[], #[.string ByteArray.empty], []⟩).memory Tryd.f7.params.toList Rows.unitAgainSpec.vars false (#[.string ByteArray.empty] : Array Value).toList 8 = some ([.lit (.string [])], [], places) :=
  ⟨[], by kernel_rfl⟩

set_option maxRecDepth 100000 in
theorem lifted (os : Os) (started : os.Started) (H : Type) (enc : TypeId × Value → H) (F : Stop.Interp) :
    ReturnsInHanded {} Tryd.checked os 7 .any ((OpenSpec.ofChange Rows.unitAgainSpec).preRow enc Tryd.prog Tryd.f7 Rows.unitAgainRow.domain false Rows.unitAgainRow.laid) (((OpenSpec.ofChange Rows.unitAgainSpec).at F).post enc Tryd.prog Tryd.f7 false true false false) := by
  obtain ⟨places, hx⟩ := reads os enc
  refine returnsInHanded_of_row (C := Tryd.checked) (s := OpenSpec.ofChange Rows.unitAgainSpec) own started (by kernel_rfl) Tryd.func7
    (witness_row_at (enc := enc) (C := Tryd.checked) false (laidWorld os) #[.string ByteArray.empty] (World.laidAll_os _ _ _) (by kernel_rfl) (by kernel_rfl) (by kernel_rfl)
      (OpenSpec.preRow_of_cond 8 hx (by kernel_rfl) (fun k hk => by cases hk) (by kernel_rfl) (laid_met os))) ?_
  intro W base args ds gs before hval hW _ _ _ hL hSh _
  exact contract H enc W base args ds gs before hval hW hL hSh

theorem said : Rows.UnitAgainSaid :=
  OpenClaim.holds_of_cond 7 Tryd.f7 rfl rfl rfl rfl rfl rfl rfl ⟨rfl, rfl, rfl, rfl, rfl⟩ rfl rfl rfl rfl rfl (by kernel_rfl) Tryd.func7 (by kernel_rfl)
    (of_decide_eq_true (by kernel_rfl)) (by unfold Func.isWrapper; first | (rw [if_pos (by decide +kernel)]; kernel_rfl) | (rw [if_neg (by decide +kernel)]; exact ⟨rfl, rfl⟩))
    (fun os started H enc _ F => by rw [OpenClaim.pre_eq_preRow]; exact lifted os started H enc F)

theorem plain (f : FuncId) (fn : Func) (hf : Tryd.pinned.checked.prog.funcNamed "spile/spilelaw03.UnitAgain" = some f) (hfn : Tryd.pinned.checked.prog.funcs[f]? = some fn) :
    false = Tryd.pinned.checked.prog.looks [] ∧ ∀ (j : Nat) t, fn.params[j]? = some t → Tryd.pinned.checked.prog.wantsStandIn t = false := by
  obtain rfl : f = 7 := Option.some.inj ((show Tryd.prog.funcNamed "spile/spilelaw03.UnitAgain" = some 7 by kernel_rfl).symm.trans hf) |>.symm
  obtain rfl : fn = Tryd.f7 := (Option.some.inj (Tryd.func7.symm.trans hfn)).symm
  refine ⟨by kernel_rfl, fun j t ht => ?_⟩
  rw [Tryd.params7] at ht
  rcases j with _ | j
  · obtain rfl : t = 9 := by simpa using ht.symm
    exact (show Tryd.prog.wantsStandIn 9 = false by kernel_rfl)
  · simp at ht

theorem proved : Rows.UnitAgainCardSaid :=
  Claim7.holds_tied_plain_at .later [] _ _ _ _ said (fun _ h => by cases h) (by kernel_rfl) (fun _ h => by cases h) unitAgain_row_tie rfl ⟨rfl, rfl⟩ (by kernel_rfl) rfl plain (by kernel_rfl)
#print axioms proved
end Go.Proofs.YtdhckbjebccdbaaDoor.unitAgain
