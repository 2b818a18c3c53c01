/-
  The statement CapacityTotals of spile/spilelaw10 holds: for every input the call returns true, and each argument reads afterwards as it read before.
-/
import Derived.Test.YtpnlfeljmpfeoabM3
import Derived.Below
import Derived.Carry
set_option linter.unusedVariables false
set_option linter.unusedSimpArgs false
namespace Go.Proofs.Ytpnlfeljmpfeoab.capacityTotals
open Go.ChangeShapes Go.WideShapes Go.ChangeAt Go.RowKit
open Go.ChangeMaps (open_string shut_string)
set_option linter.unusedVariables false

set_option maxHeartbeats 8000000 in
set_option maxRecDepth 100000 in
theorem core (L H E : Int) (B1 : Bool) (a : Option Addr) (n cap : Nat) (l : List Ck) (w : World) (NV : Hid (Cks w (.slice a n cap) l))
    (FW : Hid (∀ W, Below w.heap.size w W → Calls Try.prog 17 #[.slice a n cap] W fun e w' => e = .returned (.bool B1) ∧ w' = W))
    (CO : Hid (B1 = true → ∀ W, Cks W (.slice a n cap) l → Calls Try.prog 19 #[.slice a n cap] W fun e w' => ∃ u, e = .returned u ∧ Cks w' u l ∧ Below W.heap.size W w'))
    (H1 : Hid (∀ v W, Cks W v l → Calls Try.prog 26 #[v] W fun e w' => e = .returned (.tuple #[.agg #[.int .i64 L, .int .i64 H], .int .i64 E]) ∧ Below W.heap.size W w'))
    (R1 : Hid (∀ v W, Cks W v l → Calls Try.prog 27 #[v] W fun e w' => e = .returned (.tuple #[.agg #[.int .i64 L, .int .i64 H], .int .i64 E]) ∧ Below W.heap.size W w')) :
    Calls Try.prog 5 #[.slice a n cap] w fun e w' => e = .returned (.bool true) ∧ Below w.heap.size w w' := by
  have HA := Lib.hid (fun W => awake_any W)
  have Q1 : ∀ (p q : Int) W, (binOp .eql 32 (.agg #[.int .i64 p, .int .i64 q]) (.agg #[.int .i64 p, .int .i64 q])).run Try.prog W = .ok (.bool true) W := fun p q W => by rw [run_eql_bounds, show samB p q p q = true by simp [samB]]
  have HB := Lib.hid (Below.refl w.heap.size w)
  go_enter Try.func5, Try.ntmps5
  go_wp2_with fail
  refine (HA.out _).mono ?_
  rintro e w3 ⟨rfl, h1⟩
  replace NV := Lib.hid (NV.out.below h1)
  replace HB := Lib.hid (bel_trans HB.out h1); clear h1
  go_wp2_with fail
  refine (FW.out _ HB.out).mono ?_
  rintro e w90 ⟨rfl, hw⟩
  subst hw
  clear FW
  cases B1 with
  | false =>
    go_wp2
    go_returns
    exact ⟨rfl, HB.out⟩
  | true =>
    go_wp2_with fail
    refine (CO.out (by simp) _ NV.out).mono ?_
    rintro e w4 ⟨V1, rfl, hx, h1⟩
    replace NV := Lib.hid (NV.out.below h1)
    replace HB := Lib.hid (bel_trans HB.out h1); clear h1
    have N1 := Lib.hid hx; clear hx
    go_wp2_with fail
    refine (H1.out _ _ N1.out).mono ?_
    rintro e w5 ⟨rfl, h1⟩
    replace NV := Lib.hid ((NV.out.below h1).alloc (.cells #[.int .i64 L, .int .i64 H] 32))
    replace N1 := Lib.hid ((N1.out.below h1).alloc (.cells #[.int .i64 L, .int .i64 H] 32))
    replace HB := Lib.hid ((bel_trans HB.out h1).alloc (bel_trans HB.out h1).size (.cells #[.int .i64 L, .int .i64 H] 32)); clear h1
    have T1 := Lib.hid (Two.new w5 (.int .i64 L) (.int .i64 H) 32)
    go_wp2_with fail
    refine (R1.out _ _ NV.out).mono ?_
    rintro e w6 ⟨rfl, h1⟩
    replace NV := Lib.hid ((NV.out.below h1).alloc (.cells #[.int .i64 L, .int .i64 H] 32))
    replace N1 := Lib.hid ((N1.out.below h1).alloc (.cells #[.int .i64 L, .int .i64 H] 32))
    replace T1 := Lib.hid ((T1.out.below h1).alloc (.cells #[.int .i64 L, .int .i64 H] 32))
    replace HB := Lib.hid ((bel_trans HB.out h1).alloc (bel_trans HB.out h1).size (.cells #[.int .i64 L, .int .i64 H] 32)); clear h1
    have T2 := Lib.hid (Two.new w6 (.int .i64 L) (.int .i64 H) 32)
    obtain ⟨T10, T11, T12, T13, T14⟩ := T1.out
    obtain ⟨T20, T21, T22, T23, T24⟩ := T2.out
    go_wp2
    go_returns
    exact ⟨rfl, HB.out⟩
theorem walk (v : Value) (l : List Ck) (w : World) (hv : Cks w v l) :
    Calls Try.prog 5 #[v] w fun e w' => e = .returned (.bool true) ∧ Below w.heap.size w w' := by
  have hv2 := hv
  obtain ⟨a, cap, rfl, _, _⟩ := hv.shape
  refine core (toL l) (toH l) (liE l) (fewB l) a l.length cap l w hv2 (Lib.hid fun W hW => refFew_any _ l W (hv2.below hW)) (Lib.hid fun hf W hW => ?_) (Lib.hid fun v W h => cTot_any v l W h) (Lib.hid fun v W h => refTot_any v l W h)
  have hf2 : l.length ≤ 33 ∧ ∀ c ∈ l, fewC c = true := by
    unfold fewB at hf
    simp only [Bool.and_eq_true, List.all_eq_true, decide_eq_true_eq] at hf
    exact ⟨hf.2, hf.1⟩
  refine (refCopy_any _ l W hW (by omega) (fun c hc => by have := fewC_pf (hf2.2 c hc); omega)).mono fun e w' ⟨u, g1, g2, g3⟩ => ⟨u, g1, ?_, g3⟩
  exact g2.cks hW.wide

set_option maxRecDepth 100000 in
theorem lifted (os : Os) (started : os.Started) (H : Type) (enc : TypeId × Value → H) :
    ReturnsInHanded {} Try.checked os 5 .any (Rows.capacityTotalsSpec.pre6 enc Try.prog Try.f5 Rows.capacityTotalsRow.domain false) (Rows.capacityTotalsSpec.post enc Try.prog Try.f5 false true false false) := by
  refine returnsInHanded_of_change (C := Try.checked) own started (by kernel_rfl) Try.func5
    (ChangeSpec.witness6 (enc := enc) (C := Try.checked) false ⟨#[], #[.slice none 0 0], []⟩ 8 (by kernel_rfl) (by kernel_rfl) (by kernel_rfl) (by kernel_rfl)) ?_
  intro W base args ds gs before hval0 hW hcnd _
  have hval : ∀ (j : Nat) t v, Try.f5.params[j]? = some t → args[j]? = some v → Value.okWide Try.prog W .any base t v := hval0
  clear hval0
  have hW' := hW
  obtain ⟨p, q, hA0, hV, rfl, hfz, hnd⟩ := hW
  have hA : DataW.TrodAll enc Try.prog W 0 (fun _ => true) true Try.f5.params.toList args.toList ds p := hA0
  rw [Try.params5] at hA hval
  obtain ⟨v0, vs0, d0, ds0, p0, q0, hargs, rfl, rfl, h0, r0⟩ := trodAll_cons hA
  obtain ⟨rfl, rfl, rfl⟩ := trodAll_nil r0
  obtain rfl : args = #[v0] := by cases args; simp_all
  obtain ⟨rfl, rfl⟩ := trodVars_none hV
  have k0 := h0
  have lt0 : ∀ x ∈ p0, x.block < W.heap.size := by obtain ⟨m, hm⟩ := k0; exact DataW.trod_lt m _ _ _ hm
  obtain ⟨z0, w0⟩ := open_cks (hval 0 38 v0 rfl rfl) h0
  clear hA0
  refine (walk v0 z0 W w0).mono fun e W' ⟨he, bel⟩ => ?_
  subst he
  exact ⟨_, rfl, _, _, _, [], _, [], hW', trodAll_mk1 (shut_bool Try.underlying4 _), (trodAll_cons_mk (Below.trod laidOut (by kernel_rfl) (of_decide_eq_true (by kernel_rfl)) k0 bel lt0) trodAll_mk0), rfl, bel.frame _, fun h => by cases h⟩

theorem over : Rows.capacityTotalsRow.holds Try.pinned (OpenSpec.ofChange Rows.capacityTotalsSpec) :=
  OpenClaim.holds_of_wide 5 Try.f5 rfl rfl rfl rfl rfl rfl rfl ⟨rfl, rfl, rfl, rfl, rfl⟩ rfl rfl rfl rfl rfl (by kernel_rfl) Try.func5 (by kernel_rfl)
    (of_decide_eq_true (by kernel_rfl)) (by unfold Func.isWrapper; first | (rw [if_pos (by decide +kernel)]; kernel_rfl) | (rw [if_neg (by decide +kernel)]; exact ⟨rfl, rfl⟩))
    (fun os started H enc _ => lifted os started H enc)

theorem proved : Rows.CapacityTotalsSaid := over
#print axioms proved
end Go.Proofs.Ytpnlfeljmpfeoab.capacityTotals
