/-
  The statement ShareTakes of spile/spilelaw23 holds: for every input the call returns true, and each argument reads afterwards as it read before.
-/
import Derived.Test.YtmoeccghkpjbgaaM4
import Derived.Test.YtmoeccghkpjbgaaM2
import Derived.Below
import Derived.Carry
set_option linter.unusedVariables false
set_option linter.unusedSimpArgs false
namespace Go.Proofs.Ytmoeccghkpjbgaa.shareTakes
open Go.ChangeShapes Go.WideShapes Go.ChangeAt Go.RowKit
open Go.ChangeMaps (open_string shut_string)
set_option linter.unusedVariables false

set_option maxHeartbeats 4000000 in
theorem few (a : Option Addr) (n cap : Nat) (k : Int) (w : World) (h : fwS n = false) :
    Calls Try.prog 3 #[.slice a n cap, .int .i64 k] w fun e w' => e = .returned (.bool true) ∧ Below w.heap.size w w' := by
  have HF := Lib.hid (fun W => rlFs_any a n cap W)
  rw [h] at HF
  have HB := Lib.hid (Below.refl w.heap.size w)
  go_enter Try.func3, Try.ntmps3
  go_wp2_with fail
  refine (awakeS_any w).mono ?_
  rintro e w1 ⟨rfl, h1⟩
  replace HB := Lib.hid (bel_trans HB.out h1); clear h1
  go_wp2_with fail
  refine (HF.out _).mono ?_
  rintro e w2 ⟨rfl, h1⟩
  replace HB := Lib.hid (bel_trans HB.out h1); clear h1
  go_wp2
  go_returns
  exact ⟨rfl, HB.out⟩
set_option maxHeartbeats 16000000 in
set_option maxRecDepth 100000 in
theorem core (a : Option Addr) (n cap : Nat) (k CE S SE TE PE : Int) (A B : List (Int × Int)) (P : List Int) (s : List (Int × Int)) (w : World) (NV : Hid (Pts w (.slice a n cap) s)) (hf : fwS n = true) (zA : A.length ≤ 1000) (zB : B.length ≤ 1000)
    (C1 : Hid (∀ W, Pts W (.slice a n cap) s → Calls Try.prog 12 #[.slice a n cap] W fun e w' => e = .returned (.tuple #[.int .i64 S, .int .i64 SE]) ∧ Below W.heap.size W w'))
    (C2 : Hid (∀ W, Pts W (.slice a n cap) s → Calls Try.prog 13 #[.slice a n cap] W fun e w' => e = .returned (.tuple #[.int .i64 S, .int .i64 SE]) ∧ Below W.heap.size W w'))
    (C3 : Hid (∀ W, Pts W (.slice a n cap) s → Calls Try.prog 14 #[.slice a n cap, .int .i64 k] W fun e w' => (∃ u1 u2, e = .returned (.tuple #[u1, u2, .int .i64 TE]) ∧ (RH.Sh w' W.heap.size u1 A ∧ RH.Sh w' W.heap.size u2 B)) ∧ Below W.heap.size W w'))
    (C4 : Hid (∀ W, Pts W (.slice a n cap) s → Calls Try.prog 15 #[.slice a n cap, .int .i64 k] W fun e w' => (∃ u1 u2, e = .returned (.tuple #[u1, u2, .int .i64 TE]) ∧ (RH.Sh w' W.heap.size u1 A ∧ RH.Sh w' W.heap.size u2 B)) ∧ Below W.heap.size W w'))
    (C5 : Hid (∀ W, Pts W (.slice a n cap) s → Calls Try.prog 16 #[.slice a n cap, .int .i64 k] W fun e w' => (∃ u, e = .returned (.tuple #[u, .int .i64 PE]) ∧ Ins w' u P) ∧ Below W.heap.size W w'))
    (C6 : Hid (∀ W, Pts W (.slice a n cap) s → Calls Try.prog 17 #[.slice a n cap, .int .i64 k] W fun e w' => (∃ u, e = .returned (.tuple #[u, .int .i64 PE]) ∧ Ins w' u P) ∧ Below W.heap.size W w'))
    (C7 : Hid (∀ W, Pts W (.slice a n cap) s → Calls Try.prog 18 #[.slice a n cap] W fun e w' => e = .returned (.int .i64 CE) ∧ Below W.heap.size W w'))
    (C8 : Hid (∀ W, Pts W (.slice a n cap) s → Calls Try.prog 19 #[.slice a n cap] W fun e w' => e = .returned (.int .i64 CE) ∧ Below W.heap.size W w')) :
    Calls Try.prog 3 #[.slice a n cap, .int .i64 k] w fun e w' => e = .returned (.bool true) ∧ Below w.heap.size w w' := by
  have HF := Lib.hid (fun W => rlFs_any a n cap W)
  rw [hf] at HF
  have EA := Lib.hid (fun v u W h h' => rlSs_any v u A A W h h' zA)
  have EB := Lib.hid (fun v u W h h' => rlSs_any v u B B W h h' zB)
  rw [show (A == A) = true by simp] at EA
  rw [show (B == B) = true by simp] at EB
  have HB := Lib.hid (Below.refl w.heap.size w)
  go_enter Try.func3, Try.ntmps3
  go_wp2_with fail
  refine (awakeS_any w).mono ?_
  rintro e w1 ⟨rfl, h1⟩
  replace NV := Lib.hid (NV.out.below h1)
  replace HB := Lib.hid (bel_trans HB.out h1); clear h1
  go_wp2_with fail
  refine (HF.out _).mono ?_
  rintro e w2 ⟨rfl, h1⟩
  replace NV := Lib.hid (NV.out.below h1)
  replace HB := Lib.hid (bel_trans HB.out h1); clear h1
  go_wp2_with fail
  refine (C1.out _ NV.out).mono ?_
  rintro e w3 ⟨rfl, h1⟩
  replace NV := Lib.hid (NV.out.below h1)
  replace HB := Lib.hid (bel_trans HB.out h1); clear h1
  go_wp2_with fail
  refine (C2.out _ NV.out).mono ?_
  rintro e w4 ⟨rfl, h1⟩
  replace NV := Lib.hid (NV.out.below h1)
  replace HB := Lib.hid (bel_trans HB.out h1); clear h1
  go_wp2_with fail
  refine (C3.out _ NV.out).mono ?_
  rintro e w5 ⟨⟨uA1, uB1, rfl, ⟨g1, g2⟩⟩, h1⟩
  replace NV := Lib.hid (NV.out.below h1)
  replace HB := Lib.hid (bel_trans HB.out h1); clear h1
  have A1 := Lib.hid g1.pts
  have B1 := Lib.hid g2.pts
  clear g1 g2
  go_wp2_with fail
  refine (C4.out _ NV.out).mono ?_
  rintro e w6 ⟨⟨uA2, uB2, rfl, ⟨g1, g2⟩⟩, h1⟩
  replace NV := Lib.hid (NV.out.below h1)
  replace A1 := Lib.hid (A1.out.below h1)
  replace B1 := Lib.hid (B1.out.below h1)
  replace HB := Lib.hid (bel_trans HB.out h1); clear h1
  have A2 := Lib.hid g1.pts
  have B2 := Lib.hid g2.pts
  clear g1 g2
  go_wp2_with fail
  refine (C5.out _ NV.out).mono ?_
  rintro e w7 ⟨⟨uI1, rfl, g1⟩, h1⟩
  replace NV := Lib.hid (NV.out.below h1)
  replace A1 := Lib.hid (A1.out.below h1)
  replace B1 := Lib.hid (B1.out.below h1)
  replace A2 := Lib.hid (A2.out.below h1)
  replace B2 := Lib.hid (B2.out.below h1)
  replace HB := Lib.hid (bel_trans HB.out h1); clear h1
  have I1 := Lib.hid g1
  clear g1
  go_wp2_with fail
  refine (C6.out _ NV.out).mono ?_
  rintro e w8 ⟨⟨uI2, rfl, g1⟩, h1⟩
  replace NV := Lib.hid (NV.out.below h1)
  replace A1 := Lib.hid (A1.out.below h1)
  replace B1 := Lib.hid (B1.out.below h1)
  replace A2 := Lib.hid (A2.out.below h1)
  replace B2 := Lib.hid (B2.out.below h1)
  replace I1 := Lib.hid (I1.out.below h1)
  replace HB := Lib.hid (bel_trans HB.out h1); clear h1
  have I2 := Lib.hid g1
  clear g1
  go_wp2_with fail
  refine (C7.out _ NV.out).mono ?_
  rintro e w9 ⟨rfl, h1⟩
  replace NV := Lib.hid (NV.out.below h1)
  replace A1 := Lib.hid (A1.out.below h1)
  replace B1 := Lib.hid (B1.out.below h1)
  replace A2 := Lib.hid (A2.out.below h1)
  replace B2 := Lib.hid (B2.out.below h1)
  replace I1 := Lib.hid (I1.out.below h1)
  replace I2 := Lib.hid (I2.out.below h1)
  replace HB := Lib.hid (bel_trans HB.out h1); clear h1
  go_wp2_with fail
  refine (C8.out _ NV.out).mono ?_
  rintro e w10 ⟨rfl, h1⟩
  replace NV := Lib.hid (NV.out.below h1)
  replace A1 := Lib.hid (A1.out.below h1)
  replace B1 := Lib.hid (B1.out.below h1)
  replace A2 := Lib.hid (A2.out.below h1)
  replace B2 := Lib.hid (B2.out.below h1)
  replace I1 := Lib.hid (I1.out.below h1)
  replace I2 := Lib.hid (I2.out.below h1)
  replace HB := Lib.hid (bel_trans HB.out h1); clear h1
  go_wp2_with fail
  refine (EA.out _ _ _ A1.out A2.out).mono ?_
  rintro e w11 ⟨rfl, h1⟩
  replace NV := Lib.hid (NV.out.below h1)
  replace A1 := Lib.hid (A1.out.below h1)
  replace B1 := Lib.hid (B1.out.below h1)
  replace A2 := Lib.hid (A2.out.below h1)
  replace B2 := Lib.hid (B2.out.below h1)
  replace I1 := Lib.hid (I1.out.below h1)
  replace I2 := Lib.hid (I2.out.below h1)
  replace HB := Lib.hid (bel_trans HB.out h1); clear h1
  go_wp2_with fail
  refine (EB.out _ _ _ B1.out B2.out).mono ?_
  rintro e w12 ⟨rfl, h1⟩
  replace NV := Lib.hid (NV.out.below h1)
  replace A1 := Lib.hid (A1.out.below h1)
  replace B1 := Lib.hid (B1.out.below h1)
  replace A2 := Lib.hid (A2.out.below h1)
  replace B2 := Lib.hid (B2.out.below h1)
  replace I1 := Lib.hid (I1.out.below h1)
  replace I2 := Lib.hid (I2.out.below h1)
  replace HB := Lib.hid (bel_trans HB.out h1); clear h1
  go_wp2_with fail
  refine (eqI_yes _ _ P _ I1.out I2.out).mono ?_
  rintro e w13 ⟨rfl, h1⟩
  replace NV := Lib.hid (NV.out.below h1)
  replace A1 := Lib.hid (A1.out.below h1)
  replace B1 := Lib.hid (B1.out.below h1)
  replace A2 := Lib.hid (A2.out.below h1)
  replace B2 := Lib.hid (B2.out.below h1)
  replace I1 := Lib.hid (I1.out.below h1)
  replace I2 := Lib.hid (I2.out.below h1)
  replace HB := Lib.hid (bel_trans HB.out h1); clear h1
  go_wp2
  go_returns
  exact ⟨rfl, HB.out⟩
theorem walk (v : Value) (s : List (Int × Int)) (k : Int) (w : World) (hv : Pts w v s) (_ : -9223372036854775808 ≤ k ∧ k ≤ 9223372036854775807) :
    Calls Try.prog 3 #[v, .int .i64 k] w fun e w' => e = .returned (.bool true) ∧ Below w.heap.size w w' := by
  have hv2 := Lib.hid hv
  obtain ⟨a, cap, rfl, _, _⟩ := hv.shape
  cases hf : fwS s.length with
  | false => exact few a _ cap k w hf
  | true =>
    have hl := fwS_iff.1 hf
    have zA : (tkA s k).length ≤ 1000 := by
      unfold tkA; split
      · have := wiS_len s (drawD (amS s) k) s.length; omega
      · simp
    have zB : (tkB s k).length ≤ 1000 := by
      unfold tkB; split
      · have := wiS_len s (drawS (amS s) k) s.length; omega
      · simp
    exact core a _ cap k _ _ _ _ _ _ _ _ s w hv2 hf zA zB (Lib.hid fun W h => shSu_any _ s W h) (Lib.hid fun W h => rsSu_any _ s W h) (Lib.hid fun W h => (shTk_any _ s k W h).mono fun _ _ ⟨u1, u2, e, g, b⟩ => ⟨⟨u1, u2, e, g⟩, b⟩) (Lib.hid fun W h => (rsTk_any _ s k W h).mono fun _ _ ⟨u1, u2, e, g, b⟩ => ⟨⟨u1, u2, e, g⟩, b⟩) (Lib.hid fun W h => (shPa_any _ s k W h).mono fun _ _ ⟨u, e, g, b⟩ => ⟨⟨u, e, g⟩, b⟩) (Lib.hid fun W h => (rsPa_any _ s k W h).mono fun _ _ ⟨u, e, g, b⟩ => ⟨⟨u, e, g⟩, b⟩) (Lib.hid fun W h => shCh_any _ s W h) (Lib.hid fun W h => rsCh_any _ s W h)

set_option maxRecDepth 100000 in
theorem lifted (os : Os) (started : os.Started) (H : Type) (enc : TypeId × Value → H) :
    ReturnsInHanded {} Try.checked os 3 .any (Rows.shareTakesSpec.pre6 enc Try.prog Try.f3 Rows.shareTakesRow.domain false) (Rows.shareTakesSpec.post enc Try.prog Try.f3 false true false false) := by
  refine returnsInHanded_of_change (C := Try.checked) own started (by kernel_rfl) Try.func3
    (ChangeSpec.witness6 (enc := enc) (C := Try.checked) false ⟨#[], #[.slice none 0 0, .int .i64 0], []⟩ 8 (by kernel_rfl) (by kernel_rfl) (by kernel_rfl) (by kernel_rfl)) ?_
  intro W base args ds gs before hval0 hW hcnd _
  have hval : ∀ (j : Nat) t v, Try.f3.params[j]? = some t → args[j]? = some v → Value.okWide Try.prog W .any base t v := hval0
  clear hval0
  have hW' := hW
  obtain ⟨p, q, hA0, hV, rfl, hfz, hnd⟩ := hW
  have hA : DataW.TrodAll enc Try.prog W 0 (fun _ => true) true Try.f3.params.toList args.toList ds p := hA0
  rw [Try.params3] at hA hval
  obtain ⟨v0, vs0, d0, ds0, p0, q0, hargs, rfl, rfl, h0, r0⟩ := trodAll_cons hA
  obtain ⟨v1, vs1, d1, ds1, p1, q1, rfl, rfl, rfl, h1, r1⟩ := trodAll_cons r0
  obtain ⟨rfl, rfl, rfl⟩ := trodAll_nil r1
  obtain rfl : args = #[v0, v1] := by cases args; simp_all
  obtain ⟨rfl, rfl⟩ := trodVars_none hV
  have k0 := h0
  have lt0 : ∀ x ∈ p0, x.block < W.heap.size := by obtain ⟨m, hm⟩ := k0; exact DataW.trod_lt m _ _ _ hm
  have k1 := h1
  have lt1 : ∀ x ∈ p1, x.block < W.heap.size := by obtain ⟨m, hm⟩ := k1; exact DataW.trod_lt m _ _ _ hm
  obtain ⟨z0, w0⟩ := open_shs (hval 0 22 v0 rfl rfl) h0
  obtain ⟨a1, rfl, rfl, rfl, w1⟩ := open_int Try.underlying3 (hval 1 3 v1 rfl rfl) h1
  clear hA0
  refine (walk v0 z0 a1 W w0 (wf_bd w1)).mono fun e W' ⟨he, bel⟩ => ?_
  subst he
  exact ⟨_, rfl, _, _, _, [], _, [], hW', trodAll_mk1 (shut_bool Try.underlying4 _), (trodAll_cons_mk (Below.trod laidOut (by kernel_rfl) (of_decide_eq_true (by kernel_rfl)) k0 bel lt0) (trodAll_cons_mk (Below.trod laidOut (by kernel_rfl) (of_decide_eq_true (by kernel_rfl)) k1 bel lt1) trodAll_mk0)), rfl, bel.frame _, fun h => by cases h⟩

theorem over : Rows.shareTakesRow.holds Try.pinned (OpenSpec.ofChange Rows.shareTakesSpec) :=
  OpenClaim.holds_of_wide 3 Try.f3 rfl rfl rfl rfl rfl rfl rfl ⟨rfl, rfl, rfl, rfl, rfl⟩ rfl rfl rfl rfl rfl (by kernel_rfl) Try.func3 (by kernel_rfl)
    (of_decide_eq_true (by kernel_rfl)) (by unfold Func.isWrapper; first | (rw [if_pos (by decide +kernel)]; kernel_rfl) | (rw [if_neg (by decide +kernel)]; exact ⟨rfl, rfl⟩))
    (fun os started H enc _ => lifted os started H enc)

theorem proved : Rows.ShareTakesSaid := over
#print axioms proved
end Go.Proofs.Ytmoeccghkpjbgaa.shareTakes

