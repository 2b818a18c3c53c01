/-
  The statement ProfilePlaces of spile/spilelaw08 holds: for every input the call returns true, and each argument reads afterwards as it read before.
-/
import Derived.Test.YtlofblpfohnooabPO
import Derived.Below
import Derived.Carry
namespace Go.Proofs.Ytlofblpfohnooab.profilePlaces
open Go.ChangeShapes Go.WideShapes Go.ChangeAt Go.RowKit
open Go.ChangeMaps (open_string shut_string)
set_option linter.unusedVariables false

set_option maxHeartbeats 4000000 in
theorem long (x : Int) (a : Option Addr) (n cap : Nat) (w : World)
    (FW : Hid (∀ W, Below w.heap.size w W → Calls Try.prog 10 #[.slice a n cap] W fun e w' => e = .returned (.bool false) ∧ w' = W)) :
    Calls Try.prog 4 #[.slice a n cap, .int .i64 x] w fun e w' => e = .returned (.bool true) ∧ Below w.heap.size w w' := by
  have HA := Lib.hid (fun W => awake_any W)
  have HB := Lib.hid (Below.refl w.heap.size w)
  go_enter Try.func4, Try.ntmps4
  go_wp2_with fail
  refine (HA.out _).mono ?_
  rintro e w2 ⟨rfl, h1⟩
  replace HB := Lib.hid (bel_trans HB.out h1); clear h1
  go_wp2_with fail
  refine (FW.out _ HB.out).mono ?_
  rintro e w90 ⟨rfl, hw⟩
  subst hw
  go_wp2
  go_returns
  exact ⟨rfl, HB.out⟩
set_option maxHeartbeats 8000000 in
theorem core (x : Int) (a : Option Addr) (n cap : Nat) (l : List (Int × Int)) (w : World) (hz : Hid (l.length ≤ 33)) (NV : Hid (Pts w (.slice a n cap) l))
    (FW : Hid (∀ W, Below w.heap.size w W → Calls Try.prog 10 #[.slice a n cap] W fun e w' => e = .returned (.bool true) ∧ w' = W)) :
    Calls Try.prog 4 #[.slice a n cap, .int .i64 x] w fun e w' => e = .returned (.bool true) ∧ Below w.heap.size w w' := by
  have HA := Lib.hid (fun W => awake_any W)
  have HT := Lib.hid (fun v W (h : Pts W v l) => At_any v l x W h)
  have HR := Lib.hid (fun v W (h : Pts W v l) => refAt_any v l x W h)
  have HI := Lib.hid (fun v W (h : Pts W v l) => ins_any v l x W h)
  have HJ := Lib.hid (fun v W (h : Pts W v l) => refIns_any v l x W h)
  have HS : Hid (∀ v u W, Pts W v (ixL l x) → Pts W u (ixL l x) → Calls Try.prog 22 #[v, u] W fun e w' => e = .returned (.bool true) ∧ Below W.heap.size W w') := fun v u W h1 h2 => by
    have hb : (ixL l x).length ≤ 34 := by
      have := hz.out
      unfold ixL
      by_cases h : ixE l x = 0
      · rw [if_pos h]; simp; omega
      · rw [if_neg h]; simp
    have := same_any v u _ _ W h1 h2 (by omega)
    rwa [beq_self_eq_true] at this
  have Q1 : ∀ (p q : Int) W, (binOp .eql 33 (.agg #[.int .i64 p, .int .i64 q]) (.agg #[.int .i64 p, .int .i64 q])).run Try.prog W = .ok (.bool true) W := fun p q W => by rw [run_eql_bounds, show samB p q p q = true by simp [samB]]
  generalize atL l x = L1 at *
  generalize atH l x = H1 at *
  generalize plE l x = E1 at *
  generalize ixE l x = E2 at *
  generalize ixL l x = R2 at *
  have HB := Lib.hid (Below.refl w.heap.size w)
  go_enter Try.func4, Try.ntmps4
  go_wp2_with fail
  refine (HA.out _).mono ?_
  rintro e w5 ⟨rfl, h1⟩
  replace NV := Lib.hid (NV.out.below h1)
  replace HB := Lib.hid (bel_trans HB.out h1); clear h1
  go_wp2_with fail
  refine (FW.out _ HB.out).mono ?_
  rintro e w90 ⟨rfl, hw⟩
  subst hw
  clear FW
  go_wp2_with fail
  refine (clone_p _ l _ NV.out (Nat.le_trans hz.out (by omega))).mono ?_
  rintro e w6 ⟨V1, rfl, hx, h1⟩
  replace NV := Lib.hid (NV.out.below h1)
  replace HB := Lib.hid (bel_trans HB.out h1); clear h1
  have N1 := Lib.hid hx; clear hx
  go_wp2_with fail
  refine (HT.out _ _ N1.out).mono ?_
  rintro e w7 ⟨rfl, h1⟩
  replace NV := Lib.hid ((NV.out.below h1).alloc (.cells #[.int .i64 L1, .int .i64 H1] 33))
  replace N1 := Lib.hid ((N1.out.below h1).alloc (.cells #[.int .i64 L1, .int .i64 H1] 33))
  replace HB := Lib.hid ((bel_trans HB.out h1).alloc (bel_trans HB.out h1).size (.cells #[.int .i64 L1, .int .i64 H1] 33)); clear h1
  have T1 := Lib.hid (Two.new w7 (.int .i64 L1) (.int .i64 H1) 33)
  go_wp2_with fail
  refine (HR.out _ _ NV.out).mono ?_
  rintro e w8 ⟨rfl, h1⟩
  replace NV := Lib.hid ((NV.out.below h1).alloc (.cells #[.int .i64 L1, .int .i64 H1] 33))
  replace N1 := Lib.hid ((N1.out.below h1).alloc (.cells #[.int .i64 L1, .int .i64 H1] 33))
  replace T1 := Lib.hid ((T1.out.below h1).alloc (.cells #[.int .i64 L1, .int .i64 H1] 33))
  replace HB := Lib.hid ((bel_trans HB.out h1).alloc (bel_trans HB.out h1).size (.cells #[.int .i64 L1, .int .i64 H1] 33)); clear h1
  have T2 := Lib.hid (Two.new w8 (.int .i64 L1) (.int .i64 H1) 33)
  go_wp2_with fail
  refine (clone_p _ l _ NV.out (Nat.le_trans hz.out (by omega))).mono ?_
  rintro e w9 ⟨V2, rfl, hx, h1⟩
  replace NV := Lib.hid (NV.out.below h1)
  replace N1 := Lib.hid (N1.out.below h1)
  replace T1 := Lib.hid (T1.out.below h1)
  replace T2 := Lib.hid (T2.out.below h1)
  replace HB := Lib.hid (bel_trans HB.out h1); clear h1
  have N2 := Lib.hid hx; clear hx
  go_wp2_with fail
  refine (HI.out _ _ N2.out).mono ?_
  rintro e w10 ⟨V3, rfl, hx, h1⟩
  replace NV := Lib.hid (NV.out.below h1)
  replace N1 := Lib.hid (N1.out.below h1)
  replace T1 := Lib.hid (T1.out.below h1)
  replace T2 := Lib.hid (T2.out.below h1)
  replace N2 := Lib.hid (N2.out.below h1)
  replace HB := Lib.hid (bel_trans HB.out h1); clear h1
  have N3 := Lib.hid hx; clear hx
  go_wp2_with fail
  refine (HJ.out _ _ NV.out).mono ?_
  rintro e w11 ⟨V4, rfl, hx, h1⟩
  replace NV := Lib.hid (NV.out.below h1)
  replace N1 := Lib.hid (N1.out.below h1)
  replace T1 := Lib.hid (T1.out.below h1)
  replace T2 := Lib.hid (T2.out.below h1)
  replace N2 := Lib.hid (N2.out.below h1)
  replace N3 := Lib.hid (N3.out.below h1)
  replace HB := Lib.hid (bel_trans HB.out h1); clear h1
  have N4 := Lib.hid hx; clear hx
  obtain ⟨T10, T11, T12, T13, T14⟩ := T1.out
  obtain ⟨T20, T21, T22, T23, T24⟩ := T2.out
  go_wp2_with fail
  refine (HS.out _ _ _ N3.out N4.out).mono ?_
  rintro e w13 ⟨rfl, h1⟩
  replace NV := Lib.hid (NV.out.below h1)
  replace N1 := Lib.hid (N1.out.below h1)
  replace T1 := Lib.hid (T1.out.below h1)
  replace T2 := Lib.hid (T2.out.below h1)
  replace N2 := Lib.hid (N2.out.below h1)
  replace N3 := Lib.hid (N3.out.below h1)
  replace N4 := Lib.hid (N4.out.below h1)
  replace HB := Lib.hid (bel_trans HB.out h1); clear h1
  go_wp2
  go_returns
  exact ⟨rfl, HB.out⟩
theorem walk (v : Value) (l : List (Int × Int)) (x : Int) (w : World) (hv : Pts w v l) (hx : -9223372036854775808 ≤ x ∧ x ≤ 9223372036854775807) :
    Calls Try.prog 4 #[v, .int .i64 x] w fun e w' => e = .returned (.bool true) ∧ Below w.heap.size w w' := by
  have hv2 := hv
  obtain ⟨a, cap, rfl, _, _⟩ := hv.shape
  by_cases h : l.length ≤ 33
  · refine core x a l.length cap l w (Lib.hid (by omega)) hv2 (Lib.hid fun W hW => ?_)
    have := few_any _ l W (hv2.below hW)
    rwa [decide_eq_true h] at this
  · refine long x a l.length cap w (Lib.hid fun W hW => ?_)
    have := few_any _ l W (hv2.below hW)
    rwa [decide_eq_false h] at this

set_option maxRecDepth 100000 in
theorem lifted (os : Os) (started : os.Started) (H : Type) (enc : TypeId × Value → H) :
    ReturnsInHanded {} Try.checked os 4 .any (Rows.profilePlacesSpec.pre6 enc Try.prog Try.f4 Rows.profilePlacesRow.domain false) (Rows.profilePlacesSpec.post enc Try.prog Try.f4 false true false false) := by
  refine returnsInHanded_of_change (C := Try.checked) own started (by kernel_rfl) Try.func4
    (ChangeSpec.witness6 (enc := enc) (C := Try.checked) false ⟨#[], #[.slice none 0 0, .int .i64 0], []⟩ 8 (by kernel_rfl) (by kernel_rfl) (by kernel_rfl) (by kernel_rfl)) ?_
  intro W base args ds gs before hval0 hW hcnd _
  have hval : ∀ (j : Nat) t v, Try.f4.params[j]? = some t → args[j]? = some v → Value.okWide Try.prog W .any base t v := hval0
  clear hval0
  have hW' := hW
  obtain ⟨p, q, hA0, hV, rfl, hfz, hnd⟩ := hW
  have hA : DataW.TrodAll enc Try.prog W 0 (fun _ => true) true Try.f4.params.toList args.toList ds p := hA0
  rw [Try.params4] at hA hval
  obtain ⟨v0, vs0, d0, ds0, p0, q0, hargs, rfl, rfl, h0, r0⟩ := trodAll_cons hA
  obtain ⟨v1, vs1, d1, ds1, p1, q1, rfl, rfl, rfl, h1, r1⟩ := trodAll_cons r0
  obtain ⟨rfl, rfl, rfl⟩ := trodAll_nil r1
  obtain rfl : args = #[v0, v1] := by cases args; simp_all
  obtain ⟨rfl, rfl⟩ := trodVars_none hV
  have k0 := h0
  have lt0 : ∀ x ∈ p0, x.block < W.heap.size := by obtain ⟨m, hm⟩ := k0; exact DataW.trod_lt m _ _ _ hm
  have k1 := h1
  have lt1 : ∀ x ∈ p1, x.block < W.heap.size := by obtain ⟨m, hm⟩ := k1; exact DataW.trod_lt m _ _ _ hm
  obtain ⟨z0, w0⟩ := open_pts (hval 0 22 v0 rfl rfl) h0
  obtain ⟨a1, rfl, rfl, rfl, w1⟩ := open_int Try.underlying3 (hval 1 3 v1 rfl rfl) h1
  clear hA0
  refine (walk v0 z0 a1 W w0 (wf_bd w1)).mono fun e W' ⟨he, bel⟩ => ?_
  subst he
  exact ⟨_, rfl, _, _, _, [], _, [], hW', trodAll_mk1 (shut_bool Try.underlying4 _), (trodAll_cons_mk (Below.trod laidOut (by kernel_rfl) (of_decide_eq_true (by kernel_rfl)) k0 bel lt0) (trodAll_cons_mk (Below.trod laidOut (by kernel_rfl) (of_decide_eq_true (by kernel_rfl)) k1 bel lt1) trodAll_mk0)), rfl, bel.frame _, fun h => by cases h⟩

theorem over : Rows.profilePlacesRow.holds Try.pinned (OpenSpec.ofChange Rows.profilePlacesSpec) :=
  OpenClaim.holds_of_wide 4 Try.f4 rfl rfl rfl rfl rfl rfl rfl ⟨rfl, rfl, rfl, rfl, rfl⟩ rfl rfl rfl rfl rfl (by kernel_rfl) Try.func4 (by kernel_rfl)
    (of_decide_eq_true (by kernel_rfl)) (by unfold Func.isWrapper; first | (rw [if_pos (by decide +kernel)]; kernel_rfl) | (rw [if_neg (by decide +kernel)]; exact ⟨rfl, rfl⟩))
    (fun os started H enc _ => lifted os started H enc)

theorem proved : Rows.ProfilePlacesSaid := over
#print axioms proved
end Go.Proofs.Ytlofblpfohnooab.profilePlaces
