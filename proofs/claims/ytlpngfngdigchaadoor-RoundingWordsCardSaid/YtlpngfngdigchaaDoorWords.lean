/-
  The statement RoundingWords of spile/spilelaw02 holds: for every input the call returns true, and each argument reads afterwards as it read before. (The listed package variables hold what the program lays: the card ties them.)
-/
import Derived.Test.YtlpngfngdigchaaDoorAwake2
import Derived.Test.YtlpngfngdigchaaDoorRefW
import Derived.Test.YtlpngfngdigchaaDoorClone
import Derived.Test.YtlpngfngdigchaaDoorOpen
import Derived.Test.YtlpngfngdigchaaDoorCards
import Derived.Test.YtlpngfngdigchaaDoorTie
import Derived.Below
import Derived.Carry
import Derived.Lib.LaidTab
import Derived.Deep.DeepHandedRow
import Derived.SevenTiedPlain
namespace Go.Proofs.YtlpngfngdigchaaDoor.roundingWords
open Go.ChangeShapes Go.WideShapes Go.ChangeAt Go.RowKit
open Go.ChangeMaps (open_string shut_string)
set_option linter.unusedVariables false

theorem words_many (rule b : Int) (s : ByteArray) (v : Value) (l : List Int) (w : World) (hw : WordsIs w) (hv : Ins w v l) (hs : s.size ≤ 9223372036854775807) (h : 100 < s.size ∨ 65 < l.length) :
    Calls Tryd.prog 5 #[.int .i64 rule, .string s, v, .int .i64 b] w fun e w' => e = .returned (.bool true) ∧ Below w.heap.size w w' := by
  have HA := Lib.hid (awake_any w hw); clear hw
  obtain ⟨ad, cap, rfl, hl, hc⟩ := hv
  clear hc
  generalize l.length = n at *
  generalize hm : s.size = m at *
  by_cases h1 : 100 < m
  · clear h
    go_enter Tryd.func5, Tryd.ntmps5
    go_wp2_with fail
    refine HA.out.mono ?_
    rintro e w1 ⟨rfl, h1⟩
    have HB := Lib.hid h1; clear h1
    go_wp2
    go_ret
    exact ⟨rfl, HB.out⟩
  · have h2 : 65 < n := by omega
    clear h
    go_enter Tryd.func5, Tryd.ntmps5
    go_wp2_with fail
    refine HA.out.mono ?_
    rintro e w1 ⟨rfl, h1⟩
    have HB := Lib.hid h1; clear h1
    go_wp2
    go_ret
    exact ⟨rfl, HB.out⟩

set_option maxHeartbeats 2000000 in
theorem words_core (rule b S R E U : Int) (s X : ByteArray) (v : Value) (l : List Int) (w : World) (hw : WordsIs w) (hv : Ins w v l) (hs : s.size ≤ 100) (h : l.length ≤ 65)
    (H1 : Hid (∀ u W, Ins W u l → Calls Tryd.prog 17 #[u, .int .i64 b, .int .i64 rule] W fun e w' => e = .returned (.tuple #[.int .i64 S, .int .i64 R, .int .i64 E]) ∧ Below W.heap.size W w'))
    (H2 : Hid (∀ u W, Ins W u l → Calls Tryd.prog 19 #[u, .int .i64 b, .int .i64 rule] W fun e w' => e = .returned (.tuple #[.int .i64 S, .int .i64 R, .int .i64 E]) ∧ Below W.heap.size W w'))
    (H3 : Hid (∀ W, WordsIs W → Calls Tryd.prog 20 #[.int .i64 rule] W fun e w' => e = .returned (.string X) ∧ Below W.heap.size W w'))
    (H4 : Hid (∀ W, Calls Tryd.prog 21 #[.int .i64 rule] W fun e w' => e = .returned (.string X) ∧ Below W.heap.size W w'))
    (H5 : Hid (∀ W, WordsIs W → Calls Tryd.prog 22 #[.string s] W fun e w' => e = .returned (.int .i64 U) ∧ Below W.heap.size W w'))
    (H6 : Hid (∀ W, Calls Tryd.prog 23 #[.string s] W fun e w' => e = .returned (.int .i64 U) ∧ Below W.heap.size W w')) :
    Calls Tryd.prog 5 #[.int .i64 rule, .string s, v, .int .i64 b] w fun e w' => e = .returned (.bool true) ∧ Below w.heap.size w w' := by
  have HA := Lib.hid (awake_any w hw)
  have HW := Lib.hid hw; clear hw
  have HV := Lib.hid hv
  have HC := Lib.hid (fun W (h1 : Below w.heap.size w W) => clone_any v l W (hv.below h1) (by omega))
  obtain ⟨ad, cap, rfl, hl, hc⟩ := hv
  clear hc
  generalize l.length = n at *
  generalize hm : s.size = m at *
  go_enter Tryd.func5, Tryd.ntmps5
  go_wp2_with fail
  refine HA.out.mono ?_
  rintro e w1 ⟨rfl, h1⟩
  have HB := Lib.hid h1; clear h1
  go_wp2_with fail
  refine (HC.out _ HB.out).mono ?_
  rintro e w2 ⟨u, rfl, hu, h1⟩
  have HU := Lib.hid hu; clear hu
  replace HB := Lib.hid (bel_trans HB.out h1); clear h1
  go_wp2_with fail
  refine (H1.out u _ HU.out).mono ?_
  rintro e w3 ⟨rfl, h1⟩
  replace HB := Lib.hid (bel_trans HB.out h1); clear h1
  go_wp2_with fail
  refine (H2.out _ _ (HV.out.below HB.out)).mono ?_
  rintro e w4 ⟨rfl, h1⟩
  replace HB := Lib.hid (bel_trans HB.out h1); clear h1
  go_wp2_with fail
  refine (H3.out _ (HW.out.below HB.out)).mono ?_
  rintro e w5 ⟨rfl, h1⟩
  replace HB := Lib.hid (bel_trans HB.out h1); clear h1
  go_wp2_with fail
  refine (H4.out _).mono ?_
  rintro e w6 ⟨rfl, h1⟩
  replace HB := Lib.hid (bel_trans HB.out h1); clear h1
  go_wp2_with fail
  refine (H5.out _ (HW.out.below HB.out)).mono ?_
  rintro e w7 ⟨rfl, h1⟩
  replace HB := Lib.hid (bel_trans HB.out h1); clear h1
  go_wp2_with fail
  refine (H6.out _).mono ?_
  rintro e w8 ⟨rfl, h1⟩
  replace HB := Lib.hid (bel_trans HB.out h1); clear h1
  go_wp2
  go_ret
  exact ⟨rfl, HB.out⟩

theorem walk (rule : Int) (s : ByteArray) (v : Value) (l : List Int) (b : Int) (w : World) (wc : -9223372036854775808 ≤ rule ∧ rule ≤ 9223372036854775807) (ws : s.size ≤ 9223372036854775807) (hv : Ins w v l) (wl : ∀ z ∈ l, (Lit.int .i64 z).wf = true) (wb : -9223372036854775808 ≤ b ∧ b ≤ 9223372036854775807) (hw : WordsIs w) :
    Calls Tryd.prog 5 #[.int .i64 rule, .string s, v, .int .i64 b] w fun e w' => e = .returned (.bool true) ∧ Below w.heap.size w w' := by
  by_cases h : 100 < s.size ∨ 65 < l.length
  · exact words_many rule b s v l w hw hv ws h
  · exact words_core rule b _ _ _ _ s ⟨(wordOf rule).toArray⟩ v l w hw hv (by omega) (by omega)
      (fun u W hu => total_any u l b rule W hu) (fun u W hu => refTotal_any u l b rule W hu) (fun W h => word_any rule W h) (fun W => refWord_any rule W) (fun W h => rule_any s W h) (fun W => refRule_any s W)

set_option maxRecDepth 100000 in
theorem contract (H : Type) (enc : TypeId × Value → H) (W : World) (base : Nat) (args : Array Value) (ds gs : List (DataW H)) (before : List MemPlace)
    (hval : ∀ (j : Nat) t v, Tryd.f5.params[j]? = some t → args[j]? = some v → Value.okWide Tryd.prog W .any base t v)
    (hW : DataW.Whole enc Tryd.prog Tryd.f5.params.toList Rows.roundingWordsSpec.vars false W args.toList ds gs before) (hL : laidMetH Tryd.prog Rows.roundingWordsRow.laid W) :
    Calls Tryd.prog 5 args W fun e W' => ∃ v, e = .returned v ∧ Rows.roundingWordsSpec.post enc Tryd.prog Tryd.f5 false true false false W args v W' := by
  have hW' := hW
  obtain ⟨p, q, hA0, hV, rfl, hfz, hnd⟩ := hW
  have hA : DataW.TrodAll enc Tryd.prog W 0 (fun _ => true) true Tryd.f5.params.toList args.toList ds p := hA0
  rw [Tryd.params5] at hA hval
  obtain ⟨v0, vs0, d0, ds0, p0, q0, hargs, rfl, rfl, h0, r0⟩ := trodAll_cons hA
  obtain ⟨v1, vs1, d1, ds1, p1, q1, rfl, rfl, rfl, h1, r1⟩ := trodAll_cons r0
  obtain ⟨v2, vs2, d2, ds2, p2, q2, rfl, rfl, rfl, h2, r2⟩ := trodAll_cons r1
  obtain ⟨v3, vs3, d3, ds3, p3, q3, rfl, rfl, rfl, h3, r3⟩ := trodAll_cons r2
  obtain ⟨rfl, rfl, rfl⟩ := trodAll_nil r3
  obtain rfl : args = #[v0, v1, v2, v3] := by cases args; simp_all
  obtain ⟨rfl, rfl⟩ := trodVars_none hV
  have k0 := h0
  have lt0 : ∀ x ∈ p0, x.block < W.heap.size := by obtain ⟨m, hm⟩ := k0; exact DataW.trod_lt m _ _ _ hm
  have k1 := h1
  have lt1 : ∀ x ∈ p1, x.block < W.heap.size := by obtain ⟨m, hm⟩ := k1; exact DataW.trod_lt m _ _ _ hm
  have k2 := h2
  have lt2 : ∀ x ∈ p2, x.block < W.heap.size := by obtain ⟨m, hm⟩ := k2; exact DataW.trod_lt m _ _ _ hm
  have k3 := h3
  have lt3 : ∀ x ∈ p3, x.block < W.heap.size := by obtain ⟨m, hm⟩ := k3; exact DataW.trod_lt m _ _ _ hm
  obtain ⟨a0, rfl, rfl, rfl, w0⟩ := open_int Tryd.underlying3 (hval 0 3 v0 rfl rfl) h0
  obtain ⟨a1, rfl, rfl, rfl, w1⟩ := open_string Tryd.underlying9 (hval 1 9 v1 rfl rfl) h1
  obtain ⟨z2, w2, b2⟩ := open_intSlice Tryd.underlying32 Tryd.underlying3 (by kernel_rfl) (hval 2 32 v2 rfl rfl) h2
  obtain ⟨a3, rfl, rfl, rfl, w3⟩ := open_int Tryd.underlying3 (hval 3 3 v3 rfl rfl) h3
  clear hA0
  refine (walk a0 a1 v2 z2 a3 W (wf_bd w0) w1 w2 b2 (wf_bd w3) (words_of hL)).mono fun e W' ⟨he, bel⟩ => ?_
  subst he
  exact ⟨_, rfl, _, _, _, [], _, [], hW', trodAll_mk1 (shut_bool Tryd.underlying4 _), (trodAll_cons_mk (Below.trod laidOut (by kernel_rfl) (of_decide_eq_true (by kernel_rfl)) k0 bel lt0) (trodAll_cons_mk (Below.trod laidOut (by kernel_rfl) (of_decide_eq_true (by kernel_rfl)) k1 bel lt1) (trodAll_cons_mk (Below.trod laidOut (by kernel_rfl) (of_decide_eq_true (by kernel_rfl)) k2 bel lt2) (trodAll_cons_mk (Below.trod laidOut (by kernel_rfl) (of_decide_eq_true (by kernel_rfl)) k3 bel lt3) trodAll_mk0)))), rfl, bel.frame _, fun h => by cases h⟩

noncomputable def laidWorld (os : Os) : World :=
  { World.holding Tryd.prog os ⟨#[], #[], []⟩ with heap := (World.holding Tryd.prog os ⟨#[], #[], []⟩).heap.modify 0 fun
      | .cells _ t frozen => .cells (wordsL.map str).toArray t frozen
      | o => o }
theorem laid_met (os : Os) : laidMet Tryd.prog Rows.roundingWordsRow.laid ((laidWorld os).forCall (fun _ _ => 0) ⟨#[], #[.int .i64 0, .string ByteArray.empty, .slice none 0 0, .int .i64 0], []⟩).memory :=
  laidMet_of_run' 8 (by kernel_rfl) (by kernel_rfl)
theorem reads (os : Os) {H : Type} (enc : TypeId × Value → H) : ∃ places, DataW.whole enc Tryd.prog ((laidWorld os).forCall (fun _ _ => 0) ⟨#[], #[.int .i64 0, .string ByteArray.empty, .slice none 0 0, .int .i64 0], []⟩).memory Tryd.f5.params.toList Rows.roundingWordsSpec.vars false (#[.int .i64 0, .string ByteArray.empty, .slice none 0 0, .int .i64 0] : Array Value).toList 8 = some ([.lit (.int .i64 0), .lit (.string []), .nil, .lit (.int .i64 0)], [], places) :=
  ⟨[], by kernel_rfl⟩

set_option maxRecDepth 100000 in
theorem lifted (os : Os) (started : os.Started) (H : Type) (enc : TypeId × Value → H) (F : Stop.Interp) :
    ReturnsInHanded {} Tryd.checked os 5 .any ((OpenSpec.ofChange Rows.roundingWordsSpec).preRow enc Tryd.prog Tryd.f5 Rows.roundingWordsRow.domain false Rows.roundingWordsRow.laid) (((OpenSpec.ofChange Rows.roundingWordsSpec).at F).post enc Tryd.prog Tryd.f5 false true false false) := by
  obtain ⟨places, hx⟩ := reads os enc
  refine returnsInHanded_of_row (C := Tryd.checked) (s := OpenSpec.ofChange Rows.roundingWordsSpec) own started (by kernel_rfl) Tryd.func5
    (witness_row_at (enc := enc) (C := Tryd.checked) false (laidWorld os) #[.int .i64 0, .string ByteArray.empty, .slice none 0 0, .int .i64 0] rfl (by kernel_rfl) (by kernel_rfl) (by kernel_rfl)
      (OpenSpec.preRow_of_cond 8 hx (by kernel_rfl) (fun k hk => by cases hk) (by kernel_rfl) (laid_met os))) ?_
  intro W base args ds gs before hval hW _ _ _ hL _ _
  exact contract H enc W base args ds gs before hval hW hL

theorem said : Rows.RoundingWordsSaid :=
  OpenClaim.holds_of_cond 5 Tryd.f5 rfl rfl rfl rfl rfl rfl rfl ⟨rfl, rfl, rfl, rfl, rfl⟩ rfl rfl rfl rfl rfl (by kernel_rfl) Tryd.func5 (by kernel_rfl)
    (of_decide_eq_true (by kernel_rfl)) (by unfold Func.isWrapper; first | (rw [if_pos (by decide +kernel)]; kernel_rfl) | (rw [if_neg (by decide +kernel)]; exact ⟨rfl, rfl⟩))
    (fun os started H enc _ F => by rw [OpenClaim.pre_eq_preRow]; exact lifted os started H enc F)

theorem plain (f : FuncId) (fn : Func) (hf : Tryd.pinned.checked.prog.funcNamed "spile/spilelaw02.RoundingWords" = some f) (hfn : Tryd.pinned.checked.prog.funcs[f]? = some fn) :
    false = Tryd.pinned.checked.prog.looks [] ∧ ∀ (j : Nat) t, fn.params[j]? = some t → Tryd.pinned.checked.prog.wantsStandIn t = false := by
  obtain rfl : f = 5 := Option.some.inj ((show Tryd.prog.funcNamed "spile/spilelaw02.RoundingWords" = some 5 by kernel_rfl).symm.trans hf) |>.symm
  obtain rfl : fn = Tryd.f5 := (Option.some.inj (Tryd.func5.symm.trans hfn)).symm
  refine ⟨by kernel_rfl, fun j t ht => ?_⟩
  rw [Tryd.params5] at ht
  rcases j with _ | _ | _ | _ | j
  · obtain rfl : t = 3 := by simpa using ht.symm
    exact (show Tryd.prog.wantsStandIn 3 = false by kernel_rfl)
  · obtain rfl : t = 9 := by simpa using ht.symm
    exact (show Tryd.prog.wantsStandIn 9 = false by kernel_rfl)
  · obtain rfl : t = 32 := by simpa using ht.symm
    exact (show Tryd.prog.wantsStandIn 32 = false by kernel_rfl)
  · obtain rfl : t = 3 := by simpa using ht.symm
    exact (show Tryd.prog.wantsStandIn 3 = false by kernel_rfl)
  · simp at ht

theorem proved : Rows.RoundingWordsCardSaid :=
  Claim7.holds_tied_plain_at .later [] _ _ _ _ said (fun _ h => by cases h) (by kernel_rfl) (fun _ h => by cases h) roundingWords_row_tie rfl ⟨rfl, rfl⟩ (by kernel_rfl) rfl plain (by kernel_rfl)
#print axioms proved
end Go.Proofs.YtlpngfngdigchaaDoor.roundingWords
