/-
  The statement SegmentAreas of spile/spilelaw07 holds: for every input the call returns true, and each argument reads afterwards as it read before.
-/
import Derived.Test.YtlofblpfohnooaaSRefI
import Derived.Test.YtlofblpfohnooaaSO
import Derived.Below
import Derived.Carry
namespace Go.Proofs.Ytlofblpfohnooaa.segmentAreas
open Go.ChangeShapes Go.WideShapes Go.ChangeAt Go.RowKit
open Go.ChangeMaps (open_string shut_string)
set_option linter.unusedVariables false

set_option maxHeartbeats 4000000 in
theorem long (r c x y : Int) (a : Option Addr) (n cap : Nat) (w : World) (h : 70 < n) (h2 : n ≤ 9223372036854775807) :
    Calls Try.prog 4 #[.int .i64 r, .int .i64 c, .agg #[.int .i64 x, .int .i64 y], .slice a n cap] w fun e w' => e = .returned (.bool true) ∧ Below w.heap.size w w' := by
  have HA := Lib.hid (fun W => awake_any W)
  go_enter Try.func4, Try.ntmps4
  go_wp2_with fail
  refine (HA.out _).mono ?_
  rintro e w1 ⟨rfl, h1⟩
  have HB := Lib.hid (bel_alloc h1); clear h1
  go_wp2
  go_returns
  exact ⟨rfl, HB.out⟩
set_option maxHeartbeats 8000000 in
theorem core (r c x y : Int) (a : Option Addr) (n cap : Nat) (zs : List Int) (w : World) (hn : n ≤ 70) (hz : Hid (zs.length ≤ 1000)) (NV : Hid (Nums w (.slice a n cap) zs)) :
    Calls Try.prog 4 #[.int .i64 r, .int .i64 c, .agg #[.int .i64 x, .int .i64 y], .slice a n cap] w fun e w' => e = .returned (.bool true) ∧ Below w.heap.size w w' := by
  have HA := Lib.hid (fun W => awake_any W)
  have S1 := Lib.hid (fun W => strip_any r c x y W)
  have S2 := Lib.hid (fun W => refStrip_any r c x y W)
  have A1 := Lib.hid (fun v W (h : Nums W v zs) => area_any r c v zs W h)
  have A2 := Lib.hid (fun v W (h : Nums W v zs) => refArea_any r c v zs W h)
  have W1 := Lib.hid (fun W => whole_any r W)
  have W2 := Lib.hid (fun W => refWhole_any r W)
  generalize arL r c [x, y] = L1 at *
  generalize arH r c [x, y] = H1 at *
  generalize arE r c [x, y] = E1 at *
  generalize arL r c zs = L2 at *
  generalize arH r c zs = H2 at *
  generalize arE r c zs = E2 at *
  generalize whL r = L3 at *
  generalize whH r = H3 at *
  generalize whE r = E3 at *
  have Q1 : ∀ (p q : Int) W, (binOp .eql 33 (.agg #[.int .i64 p, .int .i64 q]) (.agg #[.int .i64 p, .int .i64 q])).run Try.prog W = .ok (.bool true) W := fun p q W => by rw [run_eql_bounds, show samB p q p q = true by simp [samB]]
  have T0 := Lib.hid (Two.new w (.int .i64 x) (.int .i64 y) 33)
  replace NV := Lib.hid (NV.out.alloc (.cells #[.int .i64 x, .int .i64 y] 33))
  have HB := Lib.hid ((Below.refl w.heap.size w).alloc (Nat.le_refl _) (.cells #[.int .i64 x, .int .i64 y] 33))
  go_enter Try.func4, Try.ntmps4
  go_wp2_with fail
  refine (HA.out _).mono ?_
  rintro e w2 ⟨rfl, h1⟩
  replace NV := Lib.hid (NV.out.below h1)
  replace T0 := Lib.hid (T0.out.below h1)
  replace HB := Lib.hid (bel_trans HB.out h1); clear h1
  obtain ⟨T00, T01, T02, T03, T04⟩ := T0.out
  go_wp2_with fail
  refine (S1.out _).mono ?_
  rintro e w4 ⟨rfl, h1⟩
  replace NV := Lib.hid ((NV.out.below h1).alloc (.cells #[.int .i64 L1, .int .i64 H1] 33))
  replace T0 := Lib.hid ((T0.out.below h1).alloc (.cells #[.int .i64 L1, .int .i64 H1] 33))
  replace HB := Lib.hid ((bel_trans HB.out h1).alloc (bel_trans HB.out h1).size (.cells #[.int .i64 L1, .int .i64 H1] 33)); clear h1
  have T1 := Lib.hid (Two.new w4 (.int .i64 L1) (.int .i64 H1) 33)
  obtain ⟨T00, T01, T02, T03, T04⟩ := T0.out
  go_wp2_with fail
  refine (S2.out _).mono ?_
  rintro e w6 ⟨rfl, h1⟩
  replace NV := Lib.hid ((NV.out.below h1).alloc (.cells #[.int .i64 L1, .int .i64 H1] 33))
  replace T0 := Lib.hid ((T0.out.below h1).alloc (.cells #[.int .i64 L1, .int .i64 H1] 33))
  replace T1 := Lib.hid ((T1.out.below h1).alloc (.cells #[.int .i64 L1, .int .i64 H1] 33))
  replace HB := Lib.hid ((bel_trans HB.out h1).alloc (bel_trans HB.out h1).size (.cells #[.int .i64 L1, .int .i64 H1] 33)); clear h1
  have T2 := Lib.hid (Two.new w6 (.int .i64 L1) (.int .i64 H1) 33)
  go_wp2_with fail
  refine (clone_nums _ zs _ NV.out hz.out).mono ?_
  rintro e w7 ⟨V3, rfl, hx, h1⟩
  replace NV := Lib.hid (NV.out.below h1)
  replace T0 := Lib.hid (T0.out.below h1)
  replace T1 := Lib.hid (T1.out.below h1)
  replace T2 := Lib.hid (T2.out.below h1)
  replace HB := Lib.hid (bel_trans HB.out h1); clear h1
  have N3 := Lib.hid hx; clear hx
  go_wp2_with fail
  refine (A1.out _ _ N3.out).mono ?_
  rintro e w8 ⟨rfl, h1⟩
  replace NV := Lib.hid ((NV.out.below h1).alloc (.cells #[.int .i64 L2, .int .i64 H2] 33))
  replace T0 := Lib.hid ((T0.out.below h1).alloc (.cells #[.int .i64 L2, .int .i64 H2] 33))
  replace T1 := Lib.hid ((T1.out.below h1).alloc (.cells #[.int .i64 L2, .int .i64 H2] 33))
  replace T2 := Lib.hid ((T2.out.below h1).alloc (.cells #[.int .i64 L2, .int .i64 H2] 33))
  replace N3 := Lib.hid ((N3.out.below h1).alloc (.cells #[.int .i64 L2, .int .i64 H2] 33))
  replace HB := Lib.hid ((bel_trans HB.out h1).alloc (bel_trans HB.out h1).size (.cells #[.int .i64 L2, .int .i64 H2] 33)); clear h1
  have T3 := Lib.hid (Two.new w8 (.int .i64 L2) (.int .i64 H2) 33)
  go_wp2_with fail
  refine (A2.out _ _ NV.out).mono ?_
  rintro e w9 ⟨rfl, h1⟩
  replace NV := Lib.hid ((NV.out.below h1).alloc (.cells #[.int .i64 L2, .int .i64 H2] 33))
  replace T0 := Lib.hid ((T0.out.below h1).alloc (.cells #[.int .i64 L2, .int .i64 H2] 33))
  replace T1 := Lib.hid ((T1.out.below h1).alloc (.cells #[.int .i64 L2, .int .i64 H2] 33))
  replace T2 := Lib.hid ((T2.out.below h1).alloc (.cells #[.int .i64 L2, .int .i64 H2] 33))
  replace N3 := Lib.hid ((N3.out.below h1).alloc (.cells #[.int .i64 L2, .int .i64 H2] 33))
  replace T3 := Lib.hid ((T3.out.below h1).alloc (.cells #[.int .i64 L2, .int .i64 H2] 33))
  replace HB := Lib.hid ((bel_trans HB.out h1).alloc (bel_trans HB.out h1).size (.cells #[.int .i64 L2, .int .i64 H2] 33)); clear h1
  have T4 := Lib.hid (Two.new w9 (.int .i64 L2) (.int .i64 H2) 33)
  go_wp2_with fail
  refine (W1.out _).mono ?_
  rintro e w10 ⟨rfl, h1⟩
  replace NV := Lib.hid ((NV.out.below h1).alloc (.cells #[.int .i64 L3, .int .i64 H3] 33))
  replace T0 := Lib.hid ((T0.out.below h1).alloc (.cells #[.int .i64 L3, .int .i64 H3] 33))
  replace T1 := Lib.hid ((T1.out.below h1).alloc (.cells #[.int .i64 L3, .int .i64 H3] 33))
  replace T2 := Lib.hid ((T2.out.below h1).alloc (.cells #[.int .i64 L3, .int .i64 H3] 33))
  replace N3 := Lib.hid ((N3.out.below h1).alloc (.cells #[.int .i64 L3, .int .i64 H3] 33))
  replace T3 := Lib.hid ((T3.out.below h1).alloc (.cells #[.int .i64 L3, .int .i64 H3] 33))
  replace T4 := Lib.hid ((T4.out.below h1).alloc (.cells #[.int .i64 L3, .int .i64 H3] 33))
  replace HB := Lib.hid ((bel_trans HB.out h1).alloc (bel_trans HB.out h1).size (.cells #[.int .i64 L3, .int .i64 H3] 33)); clear h1
  have T5 := Lib.hid (Two.new w10 (.int .i64 L3) (.int .i64 H3) 33)
  go_wp2_with fail
  refine (W2.out _).mono ?_
  rintro e w11 ⟨rfl, h1⟩
  replace NV := Lib.hid ((NV.out.below h1).alloc (.cells #[.int .i64 L3, .int .i64 H3] 33))
  replace T0 := Lib.hid ((T0.out.below h1).alloc (.cells #[.int .i64 L3, .int .i64 H3] 33))
  replace T1 := Lib.hid ((T1.out.below h1).alloc (.cells #[.int .i64 L3, .int .i64 H3] 33))
  replace T2 := Lib.hid ((T2.out.below h1).alloc (.cells #[.int .i64 L3, .int .i64 H3] 33))
  replace N3 := Lib.hid ((N3.out.below h1).alloc (.cells #[.int .i64 L3, .int .i64 H3] 33))
  replace T3 := Lib.hid ((T3.out.below h1).alloc (.cells #[.int .i64 L3, .int .i64 H3] 33))
  replace T4 := Lib.hid ((T4.out.below h1).alloc (.cells #[.int .i64 L3, .int .i64 H3] 33))
  replace T5 := Lib.hid ((T5.out.below h1).alloc (.cells #[.int .i64 L3, .int .i64 H3] 33))
  replace HB := Lib.hid ((bel_trans HB.out h1).alloc (bel_trans HB.out h1).size (.cells #[.int .i64 L3, .int .i64 H3] 33)); clear h1
  have T6 := Lib.hid (Two.new w11 (.int .i64 L3) (.int .i64 H3) 33)
  obtain ⟨T10, T11, T12, T13, T14⟩ := T1.out
  obtain ⟨T20, T21, T22, T23, T24⟩ := T2.out
  obtain ⟨T30, T31, T32, T33, T34⟩ := T3.out
  obtain ⟨T40, T41, T42, T43, T44⟩ := T4.out
  obtain ⟨T50, T51, T52, T53, T54⟩ := T5.out
  obtain ⟨T60, T61, T62, T63, T64⟩ := T6.out
  go_wp2
  go_returns
  exact ⟨rfl, HB.out⟩
theorem walk (r c x y : Int) (v : Value) (zs : List Int) (w : World) (r0 : -9223372036854775808 ≤ r ∧ r ≤ 9223372036854775807) (c0 : -9223372036854775808 ≤ c ∧ c ≤ 9223372036854775807) (x0 : -9223372036854775808 ≤ x ∧ x ≤ 9223372036854775807) (y0 : -9223372036854775808 ≤ y ∧ y ≤ 9223372036854775807) (hv : Nums w v zs) (hz : ∀ z ∈ zs, (Lit.int .i64 z).wf = true) :
    Calls Try.prog 4 #[.int .i64 r, .int .i64 c, .agg #[.int .i64 x, .int .i64 y], v] w fun e w' => e = .returned (.bool true) ∧ Below w.heap.size w w' := by
  have hv2 := hv
  obtain ⟨a, cap, rfl, ⟨l1, l2⟩, _⟩ := hv
  by_cases h : 70 < zs.length
  · exact long r c x y a zs.length cap w h (by omega)
  · exact core r c x y a zs.length cap zs w (by omega) (Lib.hid (by omega)) hv2

set_option maxRecDepth 100000 in
theorem lifted (os : Os) (started : os.Started) (H : Type) (enc : TypeId × Value → H) :
    ReturnsInHanded {} Try.checked os 4 .any (Rows.segmentAreasSpec.pre6 enc Try.prog Try.f4 Rows.segmentAreasRow.domain false) (Rows.segmentAreasSpec.post enc Try.prog Try.f4 false true false false) := by
  refine returnsInHanded_of_change (C := Try.checked) own started (by kernel_rfl) Try.func4
    (ChangeSpec.witness6 (enc := enc) (C := Try.checked) false ⟨#[], #[.int .i64 0, .int .i64 0, .agg #[.int .i64 0, .int .i64 0], .slice none 0 0], []⟩ 8 (by kernel_rfl) (by kernel_rfl) (by kernel_rfl) (by kernel_rfl)) ?_
  intro W base args ds gs before hval0 hW hcnd _
  have hval : ∀ (j : Nat) t v, Try.f4.params[j]? = some t → args[j]? = some v → Value.okWide Try.prog W .any base t v := hval0
  clear hval0
  have hW' := hW
  obtain ⟨p, q, hA0, hV, rfl, hfz, hnd⟩ := hW
  have hA : DataW.TrodAll enc Try.prog W 0 (fun _ => true) true Try.f4.params.toList args.toList ds p := hA0
  rw [Try.params4] at hA hval
  obtain ⟨v0, vs0, d0, ds0, p0, q0, hargs, rfl, rfl, h0, r0⟩ := trodAll_cons hA
  obtain ⟨v1, vs1, d1, ds1, p1, q1, rfl, rfl, rfl, h1, r1⟩ := trodAll_cons r0
  obtain ⟨v2, vs2, d2, ds2, p2, q2, rfl, rfl, rfl, h2, r2⟩ := trodAll_cons r1
  obtain ⟨v3, vs3, d3, ds3, p3, q3, rfl, rfl, rfl, h3, r3⟩ := trodAll_cons r2
  obtain ⟨rfl, rfl, rfl⟩ := trodAll_nil r3
  obtain rfl : args = #[v0, v1, v2, v3] := by cases args; simp_all
  obtain ⟨rfl, rfl⟩ := trodVars_none hV
  have k0 := h0
  have lt0 : ∀ x ∈ p0, x.block < W.heap.size := by obtain ⟨m, hm⟩ := k0; exact DataW.trod_lt m _ _ _ hm
  have k1 := h1
  have lt1 : ∀ x ∈ p1, x.block < W.heap.size := by obtain ⟨m, hm⟩ := k1; exact DataW.trod_lt m _ _ _ hm
  have k2 := h2
  have lt2 : ∀ x ∈ p2, x.block < W.heap.size := by obtain ⟨m, hm⟩ := k2; exact DataW.trod_lt m _ _ _ hm
  have k3 := h3
  have lt3 : ∀ x ∈ p3, x.block < W.heap.size := by obtain ⟨m, hm⟩ := k3; exact DataW.trod_lt m _ _ _ hm
  obtain ⟨a0, rfl, rfl, rfl, w0⟩ := open_int Try.underlying3 (hval 0 3 v0 rfl rfl) h0
  obtain ⟨a1, rfl, rfl, rfl, w1⟩ := open_int Try.underlying3 (hval 1 3 v1 rfl rfl) h1
  obtain ⟨y2, m2, rfl, wy2, wm2⟩ := open_bnd (hval 2 33 v2 rfl rfl) h2
  obtain ⟨z3, w3, b3⟩ := open_intSlice Try.underlying22 Try.underlying3 (by kernel_rfl) (hval 3 22 v3 rfl rfl) h3
  clear hA0
  refine (walk a0 a1 y2 m2 v3 z3 W (wf_bd w0) (wf_bd w1) wy2 wm2 w3 b3).mono fun e W' ⟨he, bel⟩ => ?_
  subst he
  exact ⟨_, rfl, _, _, _, [], _, [], hW', trodAll_mk1 (shut_bool Try.underlying4 _), (trodAll_cons_mk (Below.trod laidOut (by kernel_rfl) (of_decide_eq_true (by kernel_rfl)) k0 bel lt0) (trodAll_cons_mk (Below.trod laidOut (by kernel_rfl) (of_decide_eq_true (by kernel_rfl)) k1 bel lt1) (trodAll_cons_mk (Below.trod laidOut (by kernel_rfl) (of_decide_eq_true (by kernel_rfl)) k2 bel lt2) (trodAll_cons_mk (Below.trod laidOut (by kernel_rfl) (of_decide_eq_true (by kernel_rfl)) k3 bel lt3) trodAll_mk0)))), rfl, bel.frame _, fun h => by cases h⟩

theorem over : Rows.segmentAreasRow.holds Try.pinned (OpenSpec.ofChange Rows.segmentAreasSpec) :=
  OpenClaim.holds_of_wide 4 Try.f4 rfl rfl rfl rfl rfl rfl rfl ⟨rfl, rfl, rfl, rfl, rfl⟩ rfl rfl rfl rfl rfl (by kernel_rfl) Try.func4 (by kernel_rfl)
    (of_decide_eq_true (by kernel_rfl)) (by unfold Func.isWrapper; first | (rw [if_pos (by decide +kernel)]; kernel_rfl) | (rw [if_neg (by decide +kernel)]; exact ⟨rfl, rfl⟩))
    (fun os started H enc _ => lifted os started H enc)

theorem proved : Rows.SegmentAreasSaid := over
#print axioms proved
end Go.Proofs.Ytlofblpfohnooaa.segmentAreas
