/-
  The statement SegmentHeights of spile/spilelaw07 holds: for every input the call returns true, and each argument reads afterwards as it read before.
-/
import Derived.Test.YtlofblpfohnooaaSRefI
import Derived.Test.YtlofblpfohnooaaSO
import Derived.Below
import Derived.Carry
namespace Go.Proofs.Ytlofblpfohnooaa.segmentHeights
open Go.ChangeShapes Go.WideShapes Go.ChangeAt Go.RowKit
open Go.ChangeMaps (open_string shut_string)
set_option linter.unusedVariables false

set_option maxHeartbeats 4000000 in
theorem long (top m : Int) (a : Option Addr) (n cap : Nat) (w : World) (h : 70 < n) (h2 : n ≤ 9223372036854775807) :
    Calls Try.prog 3 #[.int .i64 top, .int .i64 m, .slice a n cap] w fun e w' => e = .returned (.bool true) ∧ Below w.heap.size w w' := by
  have HA := Lib.hid (fun W => awake_any W)
  have HB := Lib.hid (Below.refl w.heap.size w)
  go_enter Try.func3, Try.ntmps3
  go_wp2_with fail
  refine (HA.out _).mono ?_
  rintro e w2 ⟨rfl, h1⟩
  replace HB := Lib.hid (bel_trans HB.out h1); clear h1
  go_wp2
  go_returns
  exact ⟨rfl, HB.out⟩
set_option maxHeartbeats 4000000 in
theorem core (top m : Int) (a : Option Addr) (n cap : Nat) (zs : List Int) (w : World) (hn : n ≤ 70) (hz : Hid (zs.length ≤ 1000)) (NV : Hid (Nums w (.slice a n cap) zs)) :
    Calls Try.prog 3 #[.int .i64 top, .int .i64 m, .slice a n cap] w fun e w' => e = .returned (.bool true) ∧ Below w.heap.size w w' := by
  have HA := Lib.hid (fun W => awake_any W)
  have HB := Lib.hid (Below.refl w.heap.size w)
  go_enter Try.func3, Try.ntmps3
  go_wp2_with fail
  refine (HA.out _).mono ?_
  rintro e w5 ⟨rfl, h1⟩
  replace NV := Lib.hid (NV.out.below h1)
  replace HB := Lib.hid (bel_trans HB.out h1); clear h1
  go_wp2_with fail
  refine (hts_any top m _).mono ?_
  rintro e w6 ⟨V1, rfl, hx, h1⟩
  replace NV := Lib.hid (NV.out.below h1)
  replace HB := Lib.hid (bel_trans HB.out h1); clear h1
  have N1 := Lib.hid hx; clear hx
  go_wp2_with fail
  refine (refHts_any top m _).mono ?_
  rintro e w7 ⟨V2, rfl, hx, h1⟩
  replace NV := Lib.hid (NV.out.below h1)
  replace N1 := Lib.hid (N1.out.below h1)
  replace HB := Lib.hid (bel_trans HB.out h1); clear h1
  have N2 := Lib.hid hx; clear hx
  go_wp2_with fail
  refine (clone_nums _ zs _ NV.out hz.out).mono ?_
  rintro e w8 ⟨V3, rfl, hx, h1⟩
  replace NV := Lib.hid (NV.out.below h1)
  replace N1 := Lib.hid (N1.out.below h1)
  replace N2 := Lib.hid (N2.out.below h1)
  replace HB := Lib.hid (bel_trans HB.out h1); clear h1
  have N3 := Lib.hid hx; clear hx
  go_wp2_with fail
  refine (rfn_any _ zs _ N3.out).mono ?_
  rintro e w9 ⟨V4, rfl, hx, h1⟩
  replace NV := Lib.hid (NV.out.below h1)
  replace N1 := Lib.hid (N1.out.below h1)
  replace N2 := Lib.hid (N2.out.below h1)
  replace N3 := Lib.hid (N3.out.below h1)
  replace HB := Lib.hid (bel_trans HB.out h1); clear h1
  have N4 := Lib.hid hx; clear hx
  go_wp2_with fail
  refine (refRfn_any _ zs _ NV.out).mono ?_
  rintro e w10 ⟨V5, rfl, hx, h1⟩
  replace NV := Lib.hid (NV.out.below h1)
  replace N1 := Lib.hid (N1.out.below h1)
  replace N2 := Lib.hid (N2.out.below h1)
  replace N3 := Lib.hid (N3.out.below h1)
  replace N4 := Lib.hid (N4.out.below h1)
  replace HB := Lib.hid (bel_trans HB.out h1); clear h1
  have N5 := Lib.hid hx; clear hx
  go_wp2_with fail
  refine (equal_same _ _ _ _ N1.out N2.out).mono ?_
  rintro e w11 ⟨rfl, h1⟩
  replace NV := Lib.hid (NV.out.below h1)
  replace N1 := Lib.hid (N1.out.below h1)
  replace N2 := Lib.hid (N2.out.below h1)
  replace N3 := Lib.hid (N3.out.below h1)
  replace N4 := Lib.hid (N4.out.below h1)
  replace N5 := Lib.hid (N5.out.below h1)
  replace HB := Lib.hid (bel_trans HB.out h1); clear h1
  go_wp2_with fail
  refine (equal_same _ _ _ _ N4.out N5.out).mono ?_
  rintro e w12 ⟨rfl, h1⟩
  replace NV := Lib.hid (NV.out.below h1)
  replace N1 := Lib.hid (N1.out.below h1)
  replace N2 := Lib.hid (N2.out.below h1)
  replace N3 := Lib.hid (N3.out.below h1)
  replace N4 := Lib.hid (N4.out.below h1)
  replace N5 := Lib.hid (N5.out.below h1)
  replace HB := Lib.hid (bel_trans HB.out h1); clear h1
  go_wp2_with fail
  refine (clone_nums _ zs _ NV.out hz.out).mono ?_
  rintro e w13 ⟨V6, rfl, hx, h1⟩
  replace NV := Lib.hid (NV.out.below h1)
  replace N1 := Lib.hid (N1.out.below h1)
  replace N2 := Lib.hid (N2.out.below h1)
  replace N3 := Lib.hid (N3.out.below h1)
  replace N4 := Lib.hid (N4.out.below h1)
  replace N5 := Lib.hid (N5.out.below h1)
  replace HB := Lib.hid (bel_trans HB.out h1); clear h1
  have N6 := Lib.hid hx; clear hx
  go_wp2_with fail
  refine (chk_any _ zs _ N6.out).mono ?_
  rintro e w14 ⟨rfl, h1⟩
  replace NV := Lib.hid (NV.out.below h1)
  replace N1 := Lib.hid (N1.out.below h1)
  replace N2 := Lib.hid (N2.out.below h1)
  replace N3 := Lib.hid (N3.out.below h1)
  replace N4 := Lib.hid (N4.out.below h1)
  replace N5 := Lib.hid (N5.out.below h1)
  replace N6 := Lib.hid (N6.out.below h1)
  replace HB := Lib.hid (bel_trans HB.out h1); clear h1
  go_wp2_with fail
  refine (refChk_any _ zs _ NV.out).mono ?_
  rintro e w15 ⟨rfl, h1⟩
  replace NV := Lib.hid (NV.out.below h1)
  replace N1 := Lib.hid (N1.out.below h1)
  replace N2 := Lib.hid (N2.out.below h1)
  replace N3 := Lib.hid (N3.out.below h1)
  replace N4 := Lib.hid (N4.out.below h1)
  replace N5 := Lib.hid (N5.out.below h1)
  replace N6 := Lib.hid (N6.out.below h1)
  replace HB := Lib.hid (bel_trans HB.out h1); clear h1
  go_wp2
  go_returns
  exact ⟨rfl, HB.out⟩
theorem walk (top m : Int) (v : Value) (zs : List Int) (w : World) (t0 : -9223372036854775808 ≤ top ∧ top ≤ 9223372036854775807) (m0 : -9223372036854775808 ≤ m ∧ m ≤ 9223372036854775807) (hv : Nums w v zs) (hz : ∀ z ∈ zs, (Lit.int .i64 z).wf = true) :
    Calls Try.prog 3 #[.int .i64 top, .int .i64 m, v] w fun e w' => e = .returned (.bool true) ∧ Below w.heap.size w w' := by
  have hv2 := hv
  obtain ⟨a, cap, rfl, ⟨l1, l2⟩, _⟩ := hv
  by_cases h : 70 < zs.length
  · exact long top m a zs.length cap w h (by omega)
  · exact core top m a zs.length cap zs w (by omega) (Lib.hid (by omega)) hv2

set_option maxRecDepth 100000 in
theorem lifted (os : Os) (started : os.Started) (H : Type) (enc : TypeId × Value → H) :
    ReturnsInHanded {} Try.checked os 3 .any (Rows.segmentHeightsSpec.pre6 enc Try.prog Try.f3 Rows.segmentHeightsRow.domain false) (Rows.segmentHeightsSpec.post enc Try.prog Try.f3 false true false false) := by
  refine returnsInHanded_of_change (C := Try.checked) own started (by kernel_rfl) Try.func3
    (ChangeSpec.witness6 (enc := enc) (C := Try.checked) false ⟨#[], #[.int .i64 0, .int .i64 0, .slice none 0 0], []⟩ 8 (by kernel_rfl) (by kernel_rfl) (by kernel_rfl) (by kernel_rfl)) ?_
  intro W base args ds gs before hval0 hW hcnd _
  have hval : ∀ (j : Nat) t v, Try.f3.params[j]? = some t → args[j]? = some v → Value.okWide Try.prog W .any base t v := hval0
  clear hval0
  have hW' := hW
  obtain ⟨p, q, hA0, hV, rfl, hfz, hnd⟩ := hW
  have hA : DataW.TrodAll enc Try.prog W 0 (fun _ => true) true Try.f3.params.toList args.toList ds p := hA0
  rw [Try.params3] at hA hval
  obtain ⟨v0, vs0, d0, ds0, p0, q0, hargs, rfl, rfl, h0, r0⟩ := trodAll_cons hA
  obtain ⟨v1, vs1, d1, ds1, p1, q1, rfl, rfl, rfl, h1, r1⟩ := trodAll_cons r0
  obtain ⟨v2, vs2, d2, ds2, p2, q2, rfl, rfl, rfl, h2, r2⟩ := trodAll_cons r1
  obtain ⟨rfl, rfl, rfl⟩ := trodAll_nil r2
  obtain rfl : args = #[v0, v1, v2] := by cases args; simp_all
  obtain ⟨rfl, rfl⟩ := trodVars_none hV
  have k0 := h0
  have lt0 : ∀ x ∈ p0, x.block < W.heap.size := by obtain ⟨m, hm⟩ := k0; exact DataW.trod_lt m _ _ _ hm
  have k1 := h1
  have lt1 : ∀ x ∈ p1, x.block < W.heap.size := by obtain ⟨m, hm⟩ := k1; exact DataW.trod_lt m _ _ _ hm
  have k2 := h2
  have lt2 : ∀ x ∈ p2, x.block < W.heap.size := by obtain ⟨m, hm⟩ := k2; exact DataW.trod_lt m _ _ _ hm
  obtain ⟨a0, rfl, rfl, rfl, w0⟩ := open_int Try.underlying3 (hval 0 3 v0 rfl rfl) h0
  obtain ⟨a1, rfl, rfl, rfl, w1⟩ := open_int Try.underlying3 (hval 1 3 v1 rfl rfl) h1
  obtain ⟨z2, w2, b2⟩ := open_intSlice Try.underlying22 Try.underlying3 (by kernel_rfl) (hval 2 22 v2 rfl rfl) h2
  clear hA0
  refine (walk a0 a1 v2 z2 W (wf_bd w0) (wf_bd w1) w2 b2).mono fun e W' ⟨he, bel⟩ => ?_
  subst he
  exact ⟨_, rfl, _, _, _, [], _, [], hW', trodAll_mk1 (shut_bool Try.underlying4 _), (trodAll_cons_mk (Below.trod laidOut (by kernel_rfl) (of_decide_eq_true (by kernel_rfl)) k0 bel lt0) (trodAll_cons_mk (Below.trod laidOut (by kernel_rfl) (of_decide_eq_true (by kernel_rfl)) k1 bel lt1) (trodAll_cons_mk (Below.trod laidOut (by kernel_rfl) (of_decide_eq_true (by kernel_rfl)) k2 bel lt2) trodAll_mk0))), rfl, bel.frame _, fun h => by cases h⟩

theorem over : Rows.segmentHeightsRow.holds Try.pinned (OpenSpec.ofChange Rows.segmentHeightsSpec) :=
  OpenClaim.holds_of_wide 3 Try.f3 rfl rfl rfl rfl rfl rfl rfl ⟨rfl, rfl, rfl, rfl, rfl⟩ rfl rfl rfl rfl rfl (by kernel_rfl) Try.func3 (by kernel_rfl)
    (of_decide_eq_true (by kernel_rfl)) (by unfold Func.isWrapper; first | (rw [if_pos (by decide +kernel)]; kernel_rfl) | (rw [if_neg (by decide +kernel)]; exact ⟨rfl, rfl⟩))
    (fun os started H enc _ => lifted os started H enc)

theorem proved : Rows.SegmentHeightsSaid := over
#print axioms proved
end Go.Proofs.Ytlofblpfohnooaa.segmentHeights
