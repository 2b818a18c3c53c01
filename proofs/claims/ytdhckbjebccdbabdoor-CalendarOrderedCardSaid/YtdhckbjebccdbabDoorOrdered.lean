/-
  The statement CalendarOrdered of spile/spilelaw04 holds: for every input the call returns true, and each argument reads afterwards as it read before. (The listed package variables hold what the program lays: the card ties them.)
-/
import Derived.Test.YtdhckbjebccdbabDoorOrd
import Derived.Test.YtdhckbjebccdbabDoorOpenC
import Derived.Test.YtdhckbjebccdbabDoorCards
import Derived.Test.YtdhckbjebccdbabDoorTie
import Derived.Below
import Derived.Carry
import Derived.Lib.LaidTab
import Derived.Deep.DeepHandedRow
import Derived.SevenTiedPlain
import Derived.Lay
namespace Go.Proofs.YtdhckbjebccdbabDoor.calendarOrdered
open Go.ChangeShapes Go.WideShapes Go.ChangeAt Go.RowKit
open Go.ChangeMaps (open_string shut_string)
set_option linter.unusedVariables false

theorem many (a b : Int) (s : ByteArray) (w : World) (HA : Hid (Calls Tryd.prog 10 #[] w fun e w' => e = .returned (.bool true) ∧ Below w.heap.size w w')) (hs : 100 < s.size) (h2 : s.size ≤ 9223372036854775807) :
    Calls Tryd.prog 7 #[.int .i64 a, .int .i64 b, .string s] w fun e w' => e = .returned (.bool true) ∧ Below w.heap.size w w' := by
  go_enter Tryd.func7, Tryd.ntmps7
  go_wp2_with fail
  refine HA.out.mono ?_
  rintro e w1 ⟨rfl, h1⟩
  have HB := Lib.hid h1; clear h1
  go_wp2
  go_ret
  exact ⟨rfl, HB.out⟩

set_option maxHeartbeats 4000000 in
theorem core (a b N E Ea Eb Pn Pe : Int) (s A B : ByteArray) (c : Bool) (w : World) (hs : s.size ≤ 100)
    (HA : Hid (Calls Tryd.prog 10 #[] w fun e w' => e = .returned (.bool true) ∧ Below w.heap.size w w'))
    (H1 : Hid (∀ W, Below w.heap.size w W → Calls Tryd.prog 25 #[.string s] W fun e w' => e = .returned (.tuple #[.int .i64 N, .int .i64 E]) ∧ Below W.heap.size W w'))
    (H2 : Hid (E = 0 → ∀ W, Below w.heap.size w W → Calls Tryd.prog 23 #[.int .i64 N] W fun e w' => e = .returned (.tuple #[.string s, .int .i64 0]) ∧ Below W.heap.size W w'))
    (H3 : Hid (∀ W, Below w.heap.size w W → Calls Tryd.prog 23 #[.int .i64 a] W fun e w' => e = .returned (.tuple #[.string A, .int .i64 Ea]) ∧ Below W.heap.size W w'))
    (H4 : Hid (∀ W, Below w.heap.size w W → Calls Tryd.prog 23 #[.int .i64 b] W fun e w' => e = .returned (.tuple #[.string B, .int .i64 Eb]) ∧ Below W.heap.size W w'))
    (H5 : Hid (∀ W, Below w.heap.size w W → Calls Tryd.prog 25 #[.string A] W fun e w' => e = .returned (.tuple #[.int .i64 Pn, .int .i64 Pe]) ∧ Below W.heap.size W w'))
    (hE : E = 0 ∨ ((E == 0) = false ∧ (E != 0) = true)) (hc : decide (a < b) = c)
    (h : (Ea = 2 ∧ A = ⟨#[]⟩ ∧ Eb = 2 ∧ B = ⟨#[]⟩) ∨ (Ea = 2 ∧ A = ⟨#[]⟩ ∧ Eb = 0) ∨ (Ea = 0 ∧ Eb = 2 ∧ B = ⟨#[]⟩) ∨ (Ea = 0 ∧ Eb = 0 ∧ Pn = a ∧ Pe = 0 ∧ A.size = 10 ∧ Op.bytesLess A.toList B.toList = c)) :
    Calls Tryd.prog 7 #[.int .i64 a, .int .i64 b, .string s] w fun e w' => e = .returned (.bool true) ∧ Below w.heap.size w w' := by
  have he : (⟨#[]⟩ : ByteArray).toList = [] := by kernel_rfl
  rcases h with ⟨rfl, rfl, rfl, rfl⟩ | ⟨rfl, rfl, rfl⟩ | ⟨rfl, rfl, rfl⟩ | ⟨rfl, rfl, rfl, rfl, hz, hl⟩
  · rcases hE with rfl | ⟨e1, e2⟩
    · have K2 := Lib.hid (fun W hW => H2.out rfl W hW)
      clear H2
      go_enter Tryd.func7, Tryd.ntmps7
      go_wp2_with fail
      refine (HA.out).mono ?_
      rintro e w1 ⟨rfl, h1⟩
      have HB := Lib.hid h1; clear h1
      go_wp2_with fail
      refine (H1.out _ HB.out).mono ?_
      rintro e w2 ⟨rfl, h1⟩
      replace HB := Lib.hid (bel_trans HB.out h1); clear h1
      go_wp2_with fail
      refine (K2.out _ HB.out).mono ?_
      rintro e w3 ⟨rfl, h1⟩
      replace HB := Lib.hid (bel_trans HB.out h1); clear h1
      go_wp2_with fail
      refine (H3.out _ HB.out).mono ?_
      rintro e w4 ⟨rfl, h1⟩
      replace HB := Lib.hid (bel_trans HB.out h1); clear h1
      go_wp2_with fail
      refine (H4.out _ HB.out).mono ?_
      rintro e w5 ⟨rfl, h1⟩
      replace HB := Lib.hid (bel_trans HB.out h1); clear h1
      go_wp2
      go_ret
      exact ⟨rfl, HB.out⟩
    · clear H2
      go_enter Tryd.func7, Tryd.ntmps7
      go_wp2_with fail
      refine (HA.out).mono ?_
      rintro e w6 ⟨rfl, h1⟩
      have HB := Lib.hid h1; clear h1
      go_wp2_with fail
      refine (H1.out _ HB.out).mono ?_
      rintro e w7 ⟨rfl, h1⟩
      replace HB := Lib.hid (bel_trans HB.out h1); clear h1
      go_wp2_with fail
      refine (H3.out _ HB.out).mono ?_
      rintro e w8 ⟨rfl, h1⟩
      replace HB := Lib.hid (bel_trans HB.out h1); clear h1
      go_wp2_with fail
      refine (H4.out _ HB.out).mono ?_
      rintro e w9 ⟨rfl, h1⟩
      replace HB := Lib.hid (bel_trans HB.out h1); clear h1
      go_wp2
      go_ret
      exact ⟨rfl, HB.out⟩
  · rcases hE with rfl | ⟨e1, e2⟩
    · have K2 := Lib.hid (fun W hW => H2.out rfl W hW)
      clear H2
      go_enter Tryd.func7, Tryd.ntmps7
      go_wp2_with fail
      refine (HA.out).mono ?_
      rintro e w10 ⟨rfl, h1⟩
      have HB := Lib.hid h1; clear h1
      go_wp2_with fail
      refine (H1.out _ HB.out).mono ?_
      rintro e w11 ⟨rfl, h1⟩
      replace HB := Lib.hid (bel_trans HB.out h1); clear h1
      go_wp2_with fail
      refine (K2.out _ HB.out).mono ?_
      rintro e w12 ⟨rfl, h1⟩
      replace HB := Lib.hid (bel_trans HB.out h1); clear h1
      go_wp2_with fail
      refine (H3.out _ HB.out).mono ?_
      rintro e w13 ⟨rfl, h1⟩
      replace HB := Lib.hid (bel_trans HB.out h1); clear h1
      go_wp2_with fail
      refine (H4.out _ HB.out).mono ?_
      rintro e w14 ⟨rfl, h1⟩
      replace HB := Lib.hid (bel_trans HB.out h1); clear h1
      go_wp2
      go_ret
      exact ⟨rfl, HB.out⟩
    · clear H2
      go_enter Tryd.func7, Tryd.ntmps7
      go_wp2_with fail
      refine (HA.out).mono ?_
      rintro e w15 ⟨rfl, h1⟩
      have HB := Lib.hid h1; clear h1
      go_wp2_with fail
      refine (H1.out _ HB.out).mono ?_
      rintro e w16 ⟨rfl, h1⟩
      replace HB := Lib.hid (bel_trans HB.out h1); clear h1
      go_wp2_with fail
      refine (H3.out _ HB.out).mono ?_
      rintro e w17 ⟨rfl, h1⟩
      replace HB := Lib.hid (bel_trans HB.out h1); clear h1
      go_wp2_with fail
      refine (H4.out _ HB.out).mono ?_
      rintro e w18 ⟨rfl, h1⟩
      replace HB := Lib.hid (bel_trans HB.out h1); clear h1
      go_wp2
      go_ret
      exact ⟨rfl, HB.out⟩
  · rcases hE with rfl | ⟨e1, e2⟩
    · have K2 := Lib.hid (fun W hW => H2.out rfl W hW)
      clear H2
      go_enter Tryd.func7, Tryd.ntmps7
      go_wp2_with fail
      refine (HA.out).mono ?_
      rintro e w19 ⟨rfl, h1⟩
      have HB := Lib.hid h1; clear h1
      go_wp2_with fail
      refine (H1.out _ HB.out).mono ?_
      rintro e w20 ⟨rfl, h1⟩
      replace HB := Lib.hid (bel_trans HB.out h1); clear h1
      go_wp2_with fail
      refine (K2.out _ HB.out).mono ?_
      rintro e w21 ⟨rfl, h1⟩
      replace HB := Lib.hid (bel_trans HB.out h1); clear h1
      go_wp2_with fail
      refine (H3.out _ HB.out).mono ?_
      rintro e w22 ⟨rfl, h1⟩
      replace HB := Lib.hid (bel_trans HB.out h1); clear h1
      go_wp2_with fail
      refine (H4.out _ HB.out).mono ?_
      rintro e w23 ⟨rfl, h1⟩
      replace HB := Lib.hid (bel_trans HB.out h1); clear h1
      go_wp2
      go_ret
      exact ⟨rfl, HB.out⟩
    · clear H2
      go_enter Tryd.func7, Tryd.ntmps7
      go_wp2_with fail
      refine (HA.out).mono ?_
      rintro e w24 ⟨rfl, h1⟩
      have HB := Lib.hid h1; clear h1
      go_wp2_with fail
      refine (H1.out _ HB.out).mono ?_
      rintro e w25 ⟨rfl, h1⟩
      replace HB := Lib.hid (bel_trans HB.out h1); clear h1
      go_wp2_with fail
      refine (H3.out _ HB.out).mono ?_
      rintro e w26 ⟨rfl, h1⟩
      replace HB := Lib.hid (bel_trans HB.out h1); clear h1
      go_wp2_with fail
      refine (H4.out _ HB.out).mono ?_
      rintro e w27 ⟨rfl, h1⟩
      replace HB := Lib.hid (bel_trans HB.out h1); clear h1
      go_wp2
      go_ret
      exact ⟨rfl, HB.out⟩
  · rcases hE with rfl | ⟨e1, e2⟩
    · have K2 := Lib.hid (fun W hW => H2.out rfl W hW)
      clear H2
      go_enter Tryd.func7, Tryd.ntmps7
      go_wp2_with fail
      refine (HA.out).mono ?_
      rintro e w28 ⟨rfl, h1⟩
      have HB := Lib.hid h1; clear h1
      go_wp2_with fail
      refine (H1.out _ HB.out).mono ?_
      rintro e w29 ⟨rfl, h1⟩
      replace HB := Lib.hid (bel_trans HB.out h1); clear h1
      go_wp2_with fail
      refine (K2.out _ HB.out).mono ?_
      rintro e w30 ⟨rfl, h1⟩
      replace HB := Lib.hid (bel_trans HB.out h1); clear h1
      go_wp2_with fail
      refine (H3.out _ HB.out).mono ?_
      rintro e w31 ⟨rfl, h1⟩
      replace HB := Lib.hid (bel_trans HB.out h1); clear h1
      go_wp2_with fail
      refine (H4.out _ HB.out).mono ?_
      rintro e w32 ⟨rfl, h1⟩
      replace HB := Lib.hid (bel_trans HB.out h1); clear h1
      go_wp2_with fail
      refine (H5.out _ HB.out).mono ?_
      rintro e w33 ⟨rfl, h1⟩
      replace HB := Lib.hid (bel_trans HB.out h1); clear h1
      go_wp2
      go_ret
      exact ⟨rfl, HB.out⟩
    · clear H2
      go_enter Tryd.func7, Tryd.ntmps7
      go_wp2_with fail
      refine (HA.out).mono ?_
      rintro e w34 ⟨rfl, h1⟩
      have HB := Lib.hid h1; clear h1
      go_wp2_with fail
      refine (H1.out _ HB.out).mono ?_
      rintro e w35 ⟨rfl, h1⟩
      replace HB := Lib.hid (bel_trans HB.out h1); clear h1
      go_wp2_with fail
      refine (H3.out _ HB.out).mono ?_
      rintro e w36 ⟨rfl, h1⟩
      replace HB := Lib.hid (bel_trans HB.out h1); clear h1
      go_wp2_with fail
      refine (H4.out _ HB.out).mono ?_
      rintro e w37 ⟨rfl, h1⟩
      replace HB := Lib.hid (bel_trans HB.out h1); clear h1
      go_wp2_with fail
      refine (H5.out _ HB.out).mono ?_
      rintro e w38 ⟨rfl, h1⟩
      replace HB := Lib.hid (bel_trans HB.out h1); clear h1
      go_wp2
      go_ret
      exact ⟨rfl, HB.out⟩

theorem list_of (l : List UInt8) : (⟨l.toArray⟩ : ByteArray).toList = l := by rw [ByteArray.toList_eq]

theorem walk (a b : Int) (s : ByteArray) (w : World) (wa : -9223372036854775808 ≤ a ∧ a ≤ 9223372036854775807) (wb : -9223372036854775808 ≤ b ∧ b ≤ 9223372036854775807) (ws : s.size ≤ 9223372036854775807) (hw : LaidC w) :
    Calls Tryd.prog 7 #[.int .i64 a, .int .i64 b, .string s] w fun e w' => e = .returned (.bool true) ∧ Below w.heap.size w w' := by
  by_cases h : 100 < s.size
  · exact many a b s w (awake_any w hw) h ws
  · have hz : (⟨(prV a).toArray⟩ : ByteArray).size ≤ 1000 := by
      rw [str_size]; unfold prV; split
      · rw [(print_read a ‹_›).2.2]; omega
      · simp
    refine core a b _ _ _ _ _ _ s _ _ _ w (by omega) (awake_any w hw) (fun W h => parse_any s W (hw.below h) (by omega)) (fun hE W h => ?_) (fun W h => print_any a W (hw.below h)) (fun W h => print_any b W (hw.below h)) (fun W h => parse_any _ W (hw.below h) hz) ?_ rfl ?_
    · obtain ⟨r1, r2⟩ := read_print _ hE
      have := print_any (paN s.data.toList) W (hw.below h)
      unfold prV dE str at this
      rw [r1, if_pos rfl, r2] at this
      exact this
    · by_cases e : paE s.data.toList = 0
      · exact .inl e
      · exact .inr ⟨by simpa using e, by simpa using e⟩
    · unfold prV dE
      cases ha : dayB a with
      | false =>
        cases hb : dayB b with
        | false => left; simp
        | true => right; left; simp
      | true =>
        cases hb : dayB b with
        | false => right; right; left; simp
        | true =>
          right; right; right
          obtain ⟨r1, r2, r3⟩ := print_read a ha
          simp only [if_true]
          refine ⟨trivial, trivial, r1, r2, by rw [str_size, r3], ?_⟩
          rw [list_of, list_of, txt_lt a b ha hb]

set_option maxRecDepth 100000 in
theorem contract (H : Type) (enc : TypeId × Value → H) (W : World) (base : Nat) (args : Array Value) (ds gs : List (DataW H)) (before : List MemPlace)
    (hval : ∀ (j : Nat) t v, Tryd.f7.params[j]? = some t → args[j]? = some v → Value.okWide Tryd.prog W .any base t v)
    (hW : DataW.Whole enc Tryd.prog Tryd.f7.params.toList Rows.calendarOrderedSpec.vars false W args.toList ds gs before) (hL : laidMetH Tryd.prog Rows.calendarOrderedRow.laid W) (hSh : W.ShapedOpen Tryd.prog) :
    Calls Tryd.prog 7 args W fun e W' => ∃ v, e = .returned v ∧ Rows.calendarOrderedSpec.post enc Tryd.prog Tryd.f7 false true false false W args v W' := by
  have hW' := hW
  obtain ⟨p, q, hA0, hV, rfl, hfz, hnd⟩ := hW
  have hA : DataW.TrodAll enc Tryd.prog W 0 (fun _ => true) true Tryd.f7.params.toList args.toList ds p := hA0
  rw [Tryd.params7] at hA hval
  obtain ⟨v0, vs0, d0, ds0, p0, q0, hargs, rfl, rfl, h0, r0⟩ := trodAll_cons hA
  obtain ⟨v1, vs1, d1, ds1, p1, q1, rfl, rfl, rfl, h1, r1⟩ := trodAll_cons r0
  obtain ⟨v2, vs2, d2, ds2, p2, q2, rfl, rfl, rfl, h2, r2⟩ := trodAll_cons r1
  obtain ⟨rfl, rfl, rfl⟩ := trodAll_nil r2
  obtain rfl : args = #[v0, v1, v2] := by cases args; simp_all
  obtain ⟨rfl, rfl⟩ := trodVars_none hV
  have k0 := h0
  have lt0 : ∀ x ∈ p0, x.block < W.heap.size := by obtain ⟨m, hm⟩ := k0; exact DataW.trod_lt m _ _ _ hm
  have k1 := h1
  have lt1 : ∀ x ∈ p1, x.block < W.heap.size := by obtain ⟨m, hm⟩ := k1; exact DataW.trod_lt m _ _ _ hm
  have k2 := h2
  have lt2 : ∀ x ∈ p2, x.block < W.heap.size := by obtain ⟨m, hm⟩ := k2; exact DataW.trod_lt m _ _ _ hm
  obtain ⟨a0, rfl, rfl, rfl, w0⟩ := open_int Tryd.underlying3 (hval 0 3 v0 rfl rfl) h0
  obtain ⟨a1, rfl, rfl, rfl, w1⟩ := open_int Tryd.underlying3 (hval 1 3 v1 rfl rfl) h1
  obtain ⟨a2, rfl, rfl, rfl, w2⟩ := open_string Tryd.underlying9 (hval 2 9 v2 rfl rfl) h2
  clear hA0
  refine (walk a0 a1 a2 W (wf_bd w0) (wf_bd w1) w2 (laid_of rfl hL)).mono fun e W' ⟨he, bel⟩ => ?_
  subst he
  exact ⟨_, rfl, _, _, _, [], _, [], hW', trodAll_mk1 (shut_bool Tryd.underlying4 _), (trodAll_cons_mk (Below.trod laidOut (by kernel_rfl) (of_decide_eq_true (by kernel_rfl)) k0 bel lt0) (trodAll_cons_mk (Below.trod laidOut (by kernel_rfl) (of_decide_eq_true (by kernel_rfl)) k1 bel lt1) (trodAll_cons_mk (Below.trod laidOut (by kernel_rfl) (of_decide_eq_true (by kernel_rfl)) k2 bel lt2) trodAll_mk0))), rfl, bel.frame _, fun h => by cases h⟩

noncomputable def laidWorld (os : Os) : World := World.laidAll Tryd.prog os Rows.calendarOrderedRow.laid
theorem laid_met (os : Os) : laidMet Tryd.prog Rows.calendarOrderedRow.laid ((laidWorld os).forCall (fun _ _ => 0) ⟨#[], #[.int .i64 0, .int .i64 0, .string ByteArray.empty], []⟩).memory :=
  laidMet_laidAll _ (by kernel_rfl) (by kernel_rfl)
theorem reads (os : Os) {H : Type} (enc : TypeId × Value → H) : ∃ places, DataW.whole enc Tryd.prog ((laidWorld os).forCall (fun _ _ => 0) ⟨#[], #[.int .i64 0, .int .i64 0, .string ByteArray.empty], []⟩).memory Tryd.f7.params.toList Rows.calendarOrderedSpec.vars false (#[.int .i64 0, .int .i64 0, .string ByteArray.empty] : Array Value).toList 8 = some ([.lit (.int .i64 0), .lit (.int .i64 0), .lit (.string [])], [], places) :=
  ⟨[], by kernel_rfl⟩

set_option maxRecDepth 100000 in
theorem lifted (os : Os) (started : os.Started) (H : Type) (enc : TypeId × Value → H) (F : Stop.Interp) :
    ReturnsInHanded {} Tryd.checked os 7 .any ((OpenSpec.ofChange Rows.calendarOrderedSpec).preRow enc Tryd.prog Tryd.f7 Rows.calendarOrderedRow.domain false Rows.calendarOrderedRow.laid) (((OpenSpec.ofChange Rows.calendarOrderedSpec).at F).post enc Tryd.prog Tryd.f7 false true false false) := by
  obtain ⟨places, hx⟩ := reads os enc
  refine returnsInHanded_of_row (C := Tryd.checked) (s := OpenSpec.ofChange Rows.calendarOrderedSpec) own started (by kernel_rfl) Tryd.func7
    (witness_row_at (enc := enc) (C := Tryd.checked) false (laidWorld os) #[.int .i64 0, .int .i64 0, .string ByteArray.empty] (World.laidAll_os _ _ _) (by kernel_rfl) (by kernel_rfl) (by kernel_rfl)
      (OpenSpec.preRow_of_cond 8 hx (by kernel_rfl) (fun k hk => by cases hk) (by kernel_rfl) (laid_met os))) ?_
  intro W base args ds gs before hval hW _ _ _ hL hSh _
  exact contract H enc W base args ds gs before hval hW hL hSh

theorem said : Rows.CalendarOrderedSaid :=
  OpenClaim.holds_of_cond 7 Tryd.f7 rfl rfl rfl rfl rfl rfl rfl ⟨rfl, rfl, rfl, rfl, rfl⟩ rfl rfl rfl rfl rfl (by kernel_rfl) Tryd.func7 (by kernel_rfl)
    (of_decide_eq_true (by kernel_rfl)) (by unfold Func.isWrapper; first | (rw [if_pos (by decide +kernel)]; kernel_rfl) | (rw [if_neg (by decide +kernel)]; exact ⟨rfl, rfl⟩))
    (fun os started H enc _ F => by rw [OpenClaim.pre_eq_preRow]; exact lifted os started H enc F)

theorem plain (f : FuncId) (fn : Func) (hf : Tryd.pinned.checked.prog.funcNamed "spile/spilelaw04.CalendarOrdered" = some f) (hfn : Tryd.pinned.checked.prog.funcs[f]? = some fn) :
    false = Tryd.pinned.checked.prog.looks [] ∧ ∀ (j : Nat) t, fn.params[j]? = some t → Tryd.pinned.checked.prog.wantsStandIn t = false := by
  obtain rfl : f = 7 := Option.some.inj ((show Tryd.prog.funcNamed "spile/spilelaw04.CalendarOrdered" = some 7 by kernel_rfl).symm.trans hf) |>.symm
  obtain rfl : fn = Tryd.f7 := (Option.some.inj (Tryd.func7.symm.trans hfn)).symm
  refine ⟨by kernel_rfl, fun j t ht => ?_⟩
  rw [Tryd.params7] at ht
  rcases j with _ | _ | _ | j
  · obtain rfl : t = 3 := by simpa using ht.symm
    exact (show Tryd.prog.wantsStandIn 3 = false by kernel_rfl)
  · obtain rfl : t = 3 := by simpa using ht.symm
    exact (show Tryd.prog.wantsStandIn 3 = false by kernel_rfl)
  · obtain rfl : t = 9 := by simpa using ht.symm
    exact (show Tryd.prog.wantsStandIn 9 = false by kernel_rfl)
  · simp at ht

theorem proved : Rows.CalendarOrderedCardSaid :=
  Claim7.holds_tied_plain_at .later [] _ _ _ _ said (fun _ h => by cases h) (by kernel_rfl) (fun _ h => by cases h) calendarOrdered_row_tie rfl ⟨rfl, rfl⟩ (by kernel_rfl) rfl plain (by kernel_rfl)
#print axioms proved
end Go.Proofs.YtdhckbjebccdbabDoor.calendarOrdered
