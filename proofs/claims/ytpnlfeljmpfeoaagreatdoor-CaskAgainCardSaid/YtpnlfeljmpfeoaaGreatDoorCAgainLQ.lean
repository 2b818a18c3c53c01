/-
  The statement CaskAgain of spile/spilelaw09 holds: for every input the call returns true, and each argument reads afterwards as it read before. (The listed package variables hold what the program lays: the card ties them.)
-/
import Derived.Test.YtpnlfeljmpfeoaaGreatDoorM4
import Derived.Test.YtpnlfeljmpfeoaaGreatDoorCards
import Derived.Test.YtpnlfeljmpfeoaaGreatDoorTie
import Derived.Below
import Derived.Carry
import Derived.Lib.LaidTab
import Derived.Deep.DeepHandedRow
import Derived.SevenTiedPlain
import Derived.Lay
set_option linter.unusedVariables false
set_option linter.unusedSimpArgs false
namespace Go.Proofs.YtpnlfeljmpfeoaaGreatDoor.caskAgain
open Go.ChangeShapes Go.WideShapes Go.ChangeAt Go.RowKit
open Go.ChangeMaps (open_string shut_string)
set_option linter.unusedVariables false

set_option maxRecDepth 100000 in
set_option maxHeartbeats 8000000 in
theorem bad (s : ByteArray) (n E : Int) (w : World) (hs : s.size ≤ 2000) (hE : (E != 0) = true) (hd : decide (0 < n) = decide (E = 3))
    (HA : Hid (Calls Tryz.prog 10 #[] w fun e w' => e = .returned (.bool true) ∧ Below w.heap.size w w'))
    (H1 : Hid (∀ W, Below w.heap.size w W → Calls Tryz.prog 24 #[.string s] W fun e w' => ∃ v, e = .returned (.tuple #[v, .int .i64 n, .int .i64 E]) ∧ Cks w' v [] ∧ Below W.heap.size W w')) :
    Calls Tryz.prog 7 #[.string s] w fun e w' => e = .returned (.bool true) ∧ Below w.heap.size w w' := by
  have h2 : ¬ (2000 : Int) < (s.size : Int) := by omega
  have e3 : (decide (0 < n) == (E == 3)) = true := by
    rw [hd]
    by_cases h : E = 3 <;> simp [h]
  go_enter Tryz.func7, Tryz.ntmps7
  go_wp2_with fail
  refine HA.out.mono ?_
  rintro e w1 ⟨rfl, gg⟩
  have X := Lib.hid gg; clear gg HA
  go_wp2_with fail
  refine (H1.out _ X.out).mono ?_
  rintro e w2 ⟨v, rfl, hv, gg⟩
  replace X := Lib.hid (bel_trans X.out gg); clear gg H1
  obtain ⟨a, cap, rfl, _⟩ := hv
  clear hd
  simp only [List.length_nil]
  go_wp2
  go_returns
  exact ⟨rfl, X.out⟩
set_option maxRecDepth 100000 in
set_option maxHeartbeats 8000000 in
theorem good (s : ByteArray) (l : List Ck) (w : World) (hs : s.size ≤ 2000)
    (HA : Hid (Calls Tryz.prog 10 #[] w fun e w' => e = .returned (.bool true) ∧ Below w.heap.size w w'))
    (H1 : Hid (∀ W, Below w.heap.size w W → Calls Tryz.prog 24 #[.string s] W fun e w' => ∃ v, e = .returned (.tuple #[v, .int .i64 0, .int .i64 0]) ∧ Cks w' v l ∧ Below W.heap.size W w'))
    (HC : Hid (∀ v W, Cks W v l → Calls Tryz.prog 13 #[v] W fun e w' => ∃ u, e = .returned u ∧ Cks w' u l ∧ Below W.heap.size W w'))
    (H2 : Hid (∀ v W, Below w.heap.size w W → Cks W v l → Calls Tryz.prog 22 #[v] W fun e w' => e = .returned (.tuple #[.string s, .int .i64 0]) ∧ Below W.heap.size W w'))
    (H3 : Hid (∀ v W, Cks W v l → Calls Tryz.prog 16 #[v] W fun e w' => e = .returned (.int .i64 0) ∧ Below W.heap.size W w')) :
    Calls Tryz.prog 7 #[.string s] w fun e w' => e = .returned (.bool true) ∧ Below w.heap.size w w' := by
  have h2 : ¬ (2000 : Int) < (s.size : Int) := by omega
  have e1 : ((s.toList == s.toList) = true) := by simp
  go_enter Tryz.func7, Tryz.ntmps7
  go_wp2_with fail
  refine HA.out.mono ?_
  rintro e w1 ⟨rfl, gg⟩
  have X := Lib.hid gg; clear gg HA
  go_wp2_with fail
  refine (H1.out _ X.out).mono ?_
  rintro e w2 ⟨v, rfl, hv, gg⟩
  replace X := Lib.hid (bel_trans X.out gg); clear gg H1
  have C1 := Lib.hid hv
  obtain ⟨a, cap, rfl, _⟩ := hv
  go_wp2_with fail
  refine (HC.out _ _ C1.out).mono ?_
  rintro e w3 ⟨u, rfl, hu, gg⟩
  replace X := Lib.hid (bel_trans X.out gg)
  replace C1 := Lib.hid (C1.out.below gg); clear gg HC
  have C2 := Lib.hid hu
  obtain ⟨a2, cap2, rfl, _⟩ := hu
  go_wp2_with fail
  refine (H2.out _ _ X.out C2.out).mono ?_
  rintro e w4 ⟨rfl, gg⟩
  replace X := Lib.hid (bel_trans X.out gg)
  replace C1 := Lib.hid (C1.out.below gg); clear gg H2 C2
  go_wp2_with fail
  refine (H3.out _ _ C1.out).mono ?_
  rintro e w5 ⟨rfl, gg⟩
  replace X := Lib.hid (bel_trans X.out gg); clear gg H3 C1
  go_wp2
  go_returns
  exact ⟨rfl, X.out⟩
set_option maxRecDepth 100000 in
set_option maxHeartbeats 8000000 in
theorem long (s : ByteArray) (w : World) (hs : 2000 < s.size) (hn : s.size ≤ 9223372036854775807)
    (HA : Hid (Calls Tryz.prog 10 #[] w fun e w' => e = .returned (.bool true) ∧ Below w.heap.size w w')) :
    Calls Tryz.prog 7 #[.string s] w fun e w' => e = .returned (.bool true) ∧ Below w.heap.size w w' := by
  have h2 : (2000 : Int) < (s.size : Int) := by omega
  go_enter Tryz.func7, Tryz.ntmps7
  go_wp2_with fail
  refine HA.out.mono ?_
  rintro e w1 ⟨rfl, gg⟩
  have X := Lib.hid gg; clear gg HA
  go_wp2
  go_returns
  exact ⟨rfl, X.out⟩
theorem walk (s : ByteArray) (w : World) (hn : s.size ≤ maxLen) (hw : CV w) :
    Calls Tryz.prog 7 #[.string s] w fun e w' => e = .returned (.bool true) ∧ Below w.heap.size w w' := by
  have HA := Lib.hid (awake_any w hw)
  by_cases h : s.size ≤ 2000
  · have HP : Hid (∀ W, Below w.heap.size w W → _) := Lib.hid fun W hW => parse_is s W (hw.below hW) (by omega)
    obtain ⟨g1, g2⟩ := again s
    by_cases hE : paE s = 0
    · obtain ⟨q1, q2, q3⟩ := g1 hE
      rw [hE, q3] at HP
      obtain ⟨b1, b2⟩ := paL_small s
      exact good s (paL s) w h HA HP (Lib.hid fun v W hv => (refCopy_any v _ W hv b1 b2).mono fun e w' ⟨u, e1, hu, gg⟩ => ⟨u, e1, own_reads hu hv, gg⟩)
        (Lib.hid fun v W hW hv => by
          have := cPr_any v _ W (hw.below hW) hv
          unfold str at this
          rwa [q1, q2] at this)
        (Lib.hid fun v W hv => by
          have := cLi_any v _ W hv
          rwa [q1] at this)
    · obtain ⟨q1, q2⟩ := g2 hE
      rw [q1] at HP
      exact bad s (paN s) (paE s) w h (by simpa using hE) q2 HA HP
  · exact long s w (by omega) (by unfold maxLen at hn; omega) HA

set_option maxRecDepth 100000 in
theorem contract (H : Type) (enc : TypeId × Value → H) (W : World) (base : Nat) (args : Array Value) (ds gs : List (DataW H)) (before : List MemPlace)
    (hval : ∀ (j : Nat) t v, Tryz.f7.params[j]? = some t → args[j]? = some v → Value.okWide Tryz.prog W .any base t v)
    (hW : DataW.Whole enc Tryz.prog Tryz.f7.params.toList Rows.caskAgainSpec.vars false W args.toList ds gs before) (hL : laidMetH Tryz.prog Rows.caskAgainRow.laid W) (hSh : W.ShapedOpen Tryz.prog) :
    Calls Tryz.prog 7 args W fun e W' => ∃ v, e = .returned v ∧ Rows.caskAgainSpec.post enc Tryz.prog Tryz.f7 false true false false W args v W' := by
  have hW' := hW
  obtain ⟨p, q, hA0, hV, rfl, hfz, hnd⟩ := hW
  have hA : DataW.TrodAll enc Tryz.prog W 0 (fun _ => true) true Tryz.f7.params.toList args.toList ds p := hA0
  rw [Tryz.params7] at hA hval
  obtain ⟨v0, vs0, d0, ds0, p0, q0, hargs, rfl, rfl, h0, r0⟩ := trodAll_cons hA
  obtain ⟨rfl, rfl, rfl⟩ := trodAll_nil r0
  obtain rfl : args = #[v0] := by cases args; simp_all
  obtain ⟨rfl, rfl⟩ := trodVars_none hV
  have k0 := h0
  have lt0 : ∀ x ∈ p0, x.block < W.heap.size := by obtain ⟨m, hm⟩ := k0; exact DataW.trod_lt m _ _ _ hm
  obtain ⟨a0, rfl, rfl, rfl, w0⟩ := open_string Tryz.underlying9 (hval 0 9 v0 rfl rfl) h0
  clear hA0
  refine (walk a0 W w0 (laid_of rfl hL hSh)).mono fun e W' ⟨he, bel⟩ => ?_
  subst he
  exact ⟨_, rfl, _, _, _, [], _, [], hW', trodAll_mk1 (shut_bool Tryz.underlying4 _), (trodAll_cons_mk (Below.trod laidOut (by kernel_rfl) (of_decide_eq_true (by kernel_rfl)) k0 bel lt0) trodAll_mk0), rfl, bel.frame _, fun h => by cases h⟩

noncomputable def laidWorld (os : Os) : World := World.laidAll Tryz.prog os Rows.caskAgainRow.laid
theorem laid_met (os : Os) : laidMet Tryz.prog Rows.caskAgainRow.laid ((laidWorld os).forCall (fun _ _ => 0) ⟨#[], #[.string ByteArray.empty], []⟩).memory :=
  laidMet_laidAll _ (by kernel_rfl) (by kernel_rfl)
theorem reads (os : Os) {H : Type} (enc : TypeId × Value → H) : ∃ places, DataW.whole enc Tryz.prog ((laidWorld os).forCall (fun _ _ => 0) ⟨#[], #[.string ByteArray.empty], []⟩).memory Tryz.f7.params.toList Rows.caskAgainSpec.vars false (#[.string ByteArray.empty] : Array Value).toList 8 = some ([.lit (.string [])], [], places) :=
  ⟨[], by kernel_rfl⟩

set_option maxRecDepth 100000 in
theorem lifted (os : Os) (started : os.Started) (H : Type) (enc : TypeId × Value → H) (F : Stop.Interp) :
    ReturnsInHanded {} Tryz.checked os 7 .any ((OpenSpec.ofChange Rows.caskAgainSpec).preRow enc Tryz.prog Tryz.f7 Rows.caskAgainRow.domain false Rows.caskAgainRow.laid) (((OpenSpec.ofChange Rows.caskAgainSpec).at F).post enc Tryz.prog Tryz.f7 false true false false) := by
  obtain ⟨places, hx⟩ := reads os enc
  refine returnsInHanded_of_row (C := Tryz.checked) (s := OpenSpec.ofChange Rows.caskAgainSpec) own started (by kernel_rfl) Tryz.func7
    (witness_row_at (enc := enc) (C := Tryz.checked) false (laidWorld os) #[.string ByteArray.empty] (World.laidAll_os _ _ _) (by kernel_rfl) (by kernel_rfl) (by kernel_rfl)
      (OpenSpec.preRow_of_cond 8 hx (by kernel_rfl) (fun k hk => by cases hk) (by kernel_rfl) (laid_met os))) ?_
  intro W base args ds gs before hval hW _ _ _ hL hSh _
  exact contract H enc W base args ds gs before hval hW hL hSh

theorem said : Rows.CaskAgainSaid :=
  OpenClaim.holds_of_cond 7 Tryz.f7 rfl rfl rfl rfl rfl rfl rfl ⟨rfl, rfl, rfl, rfl, rfl⟩ rfl rfl rfl rfl rfl (by kernel_rfl) Tryz.func7 (by kernel_rfl)
    (of_decide_eq_true (by kernel_rfl)) (by unfold Func.isWrapper; first | (rw [if_pos (by decide +kernel)]; kernel_rfl) | (rw [if_neg (by decide +kernel)]; exact ⟨rfl, rfl⟩))
    (fun os started H enc _ F => by rw [OpenClaim.pre_eq_preRow]; exact lifted os started H enc F)

theorem plain (f : FuncId) (fn : Func) (hf : Tryz.pinned.checked.prog.funcNamed "spile/spilelaw09.CaskAgain" = some f) (hfn : Tryz.pinned.checked.prog.funcs[f]? = some fn) :
    true = Tryz.pinned.checked.prog.looks [] ∧ ∀ (j : Nat) t, fn.params[j]? = some t → Tryz.pinned.checked.prog.wantsStandIn t = false := by
  obtain rfl : f = 7 := Option.some.inj ((show Tryz.prog.funcNamed "spile/spilelaw09.CaskAgain" = some 7 by kernel_rfl).symm.trans hf) |>.symm
  obtain rfl : fn = Tryz.f7 := (Option.some.inj (Tryz.func7.symm.trans hfn)).symm
  refine ⟨by kernel_rfl, fun j t ht => ?_⟩
  rw [Tryz.params7] at ht
  rcases j with _ | j
  · obtain rfl : t = 9 := by simpa using ht.symm
    exact (show Tryz.prog.wantsStandIn 9 = false by kernel_rfl)
  · simp at ht

theorem proved : Rows.CaskAgainCardSaid :=
  Claim7.holds_tied_plain_at .later [] _ _ _ _ said (fun _ h => by cases h) (by kernel_rfl) (fun _ h => by cases h) caskAgain_row_tie rfl ⟨rfl, rfl⟩ (by kernel_rfl) rfl plain (by kernel_rfl)
#print axioms proved
end Go.Proofs.YtpnlfeljmpfeoaaGreatDoor.caskAgain
