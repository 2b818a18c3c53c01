/-
  The statement CapacityNarrow of spile/spilelaw10 holds: for every input the call returns true, and each argument reads afterwards as it read before.
-/
import Derived.Test.YtpnlfeljmpfeoabM3
import Derived.Below
import Derived.Carry
set_option linter.unusedVariables false
set_option linter.unusedSimpArgs false
namespace Go.Proofs.Ytpnlfeljmpfeoab.capacityNarrow
open Go.ChangeShapes Go.WideShapes Go.ChangeAt Go.RowKit
open Go.ChangeMaps (open_string shut_string)
set_option linter.unusedVariables false

set_option maxHeartbeats 4000000 in
theorem long (x : Int) (a : Option Addr) (n cap : Nat) (w : World)
    (FW : Hid (∀ W, Below w.heap.size w W → Calls Try.prog 11 #[.slice a n cap] W fun e w' => e = .returned (.bool false) ∧ w' = W)) :
    Calls Try.prog 6 #[.slice a n cap, .int .i64 x] w fun e w' => e = .returned (.bool true) ∧ Below w.heap.size w w' := by
  have HA := Lib.hid (fun W => awake_any W)
  have HB := Lib.hid (Below.refl w.heap.size w)
  go_enter Try.func6, Try.ntmps6
  go_wp2_with fail
  refine (HA.out _).mono ?_
  rintro e w2 ⟨rfl, h1⟩
  replace HB := Lib.hid (bel_trans HB.out h1); clear h1
  go_wp2_with fail
  refine (FW.out _ HB.out).mono ?_
  rintro e w90 ⟨rfl, hw⟩
  subst hw
  go_wp2
  go_returns
  exact ⟨rfl, HB.out⟩
set_option maxHeartbeats 8000000 in
theorem bad (x E : Int) (a : Option Addr) (n cap : Nat) (l : List (Int × Int)) (w : World) (hz : Hid (l.length ≤ 1000)) (NV : Hid (Pts w (.slice a n cap) l)) (e1 : (E == 0) = false) (e2 : (E != 0) = true)
    (FW : Hid (∀ W, Below w.heap.size w W → Calls Try.prog 11 #[.slice a n cap] W fun e w' => e = .returned (.bool true) ∧ w' = W))
    (H1 : Hid (∀ v W, Pts W v l → Calls Try.prog 12 #[v] W fun e w' => e = .returned (.tuple #[.int .i64 0, .int .i64 E]) ∧ Below W.heap.size W w'))
    (H2 : Hid (∀ v W, Pts W v l → Calls Try.prog 15 #[v] W fun e w' => e = .returned (.tuple #[.agg #[.int .i64 0, .int .i64 0], .int .i64 E]) ∧ Below W.heap.size W w')) :
    Calls Try.prog 6 #[.slice a n cap, .int .i64 x] w fun e w' => e = .returned (.bool true) ∧ Below w.heap.size w w' := by
  have HA := Lib.hid (fun W => awake_any W)
  have Q1 : ∀ (p q : Int) W, (binOp .eql 32 (.agg #[.int .i64 p, .int .i64 q]) (.agg #[.int .i64 p, .int .i64 q])).run Try.prog W = .ok (.bool true) W := fun p q W => by rw [run_eql_bounds, show samB p q p q = true by simp [samB]]
  have HB := Lib.hid (Below.refl w.heap.size w)
  go_enter Try.func6, Try.ntmps6
  go_wp2_with fail
  refine (HA.out _).mono ?_
  rintro e w5 ⟨rfl, h1⟩
  replace NV := Lib.hid (NV.out.below h1)
  replace HB := Lib.hid (bel_trans HB.out h1); clear h1
  go_wp2_with fail
  refine (FW.out _ HB.out).mono ?_
  rintro e w90 ⟨rfl, hw⟩
  subst hw
  clear FW
  go_wp2_with fail
  refine (clone_p _ l _ NV.out hz.out).mono ?_
  rintro e w6 ⟨V1, rfl, hx, h1⟩
  replace NV := Lib.hid (NV.out.below h1)
  replace HB := Lib.hid (bel_trans HB.out h1); clear h1
  have N1 := Lib.hid hx; clear hx
  go_wp2_with fail
  refine (H1.out _ _ N1.out).mono ?_
  rintro e w7 ⟨rfl, h1⟩
  replace NV := Lib.hid (NV.out.below h1)
  replace N1 := Lib.hid (N1.out.below h1)
  replace HB := Lib.hid (bel_trans HB.out h1); clear h1
  clear N1
  go_wp2_with fail
  refine (clone_p _ l _ NV.out hz.out).mono ?_
  rintro e w9 ⟨V2, rfl, hx, h1⟩
  replace NV := Lib.hid (NV.out.below h1)
  replace HB := Lib.hid (bel_trans HB.out h1); clear h1
  have N2 := Lib.hid hx; clear hx
  go_wp2_with fail
  refine (H2.out _ _ N2.out).mono ?_
  rintro e w10 ⟨rfl, h1⟩
  replace NV := Lib.hid ((NV.out.below h1).alloc (.cells #[.int .i64 0, .int .i64 0] 32))
  replace N2 := Lib.hid ((N2.out.below h1).alloc (.cells #[.int .i64 0, .int .i64 0] 32))
  replace HB := Lib.hid ((bel_trans HB.out h1).alloc (bel_trans HB.out h1).size (.cells #[.int .i64 0, .int .i64 0] 32)); clear h1
  have T1 := Lib.hid (Two.new w10 (.int .i64 0) (.int .i64 0) 32)
  obtain ⟨T10, T11, T12, T13, T14⟩ := T1.out
  go_wp2
  go_returns
  exact ⟨rfl, HB.out⟩
set_option maxHeartbeats 16000000 in
theorem good (x S L H E : Int) (a : Option Addr) (n cap : Nat) (l t m : List (Int × Int)) (w : World) (hz : Hid (l.length ≤ 1000)) (NV : Hid (Pts w (.slice a n cap) l)) (hb : 0 ≤ L ∧ L ≤ H ∧ H ≤ 3200000000000000) (hq : (H - L - 2) * 30000 < H) (he : E = 0 ∨ ((E == 0) = false ∧ (E != 0) = true))
    (FW : Hid (∀ W, Below w.heap.size w W → Calls Try.prog 11 #[.slice a n cap] W fun e w' => e = .returned (.bool true) ∧ w' = W))
    (H1 : Hid (∀ v W, Pts W v l → Calls Try.prog 12 #[v] W fun e w' => e = .returned (.tuple #[.int .i64 S, .int .i64 0]) ∧ Below W.heap.size W w'))
    (H2 : Hid (∀ v W, Pts W v l → Calls Try.prog 15 #[v] W fun e w' => e = .returned (.tuple #[.agg #[.int .i64 L, .int .i64 H], .int .i64 0]) ∧ Below W.heap.size W w'))
    (H3 : Hid (∀ v W, Pts W v l → Calls Try.prog 28 #[v] W fun e w' => ∃ u, e = .returned (.tuple #[u, .int .i64 0]) ∧ Pts w' u t ∧ Below W.heap.size W w'))
    (H4 : Hid (∀ v W, Pts W v t → Calls Try.prog 12 #[v] W fun e w' => e = .returned (.tuple #[.int .i64 S, .int .i64 0]) ∧ Below W.heap.size W w'))
    (H5 : Hid (∀ v W, Pts W v l → Calls Try.prog 29 #[v, .int .i64 x] W fun e w' => ∃ u, e = .returned (.tuple #[u, .int .i64 E]) ∧ Pts w' u m ∧ Below W.heap.size W w'))
    (H6 : Hid (E = 0 → ∀ v W, Pts W v m → Calls Try.prog 12 #[v] W fun e w' => e = .returned (.tuple #[.int .i64 S, .int .i64 0]) ∧ Below W.heap.size W w')) :
    Calls Try.prog 6 #[.slice a n cap, .int .i64 x] w fun e w' => e = .returned (.bool true) ∧ Below w.heap.size w w' := by
  have HA := Lib.hid (fun W => awake_any W)
  have g1 : decide (H < L) = false := decide_eq_false (by omega)
  have w1 : IntKind.i64.wrap (H - L) = H - L := wrap_in _ ⟨by omega, by omega⟩
  have w2 : IntKind.i64.wrap (H - L - 2) = H - L - 2 := wrap_in _ ⟨by omega, by omega⟩
  have d2 : decide (H ≤ (H - L - 2) * 30000) = false := decide_eq_false (by omega)
  have w3 : IntKind.i64.wrap ((H - L - 2) * 30000) = (H - L - 2) * 30000 := wrap_in _ ⟨by omega, by omega⟩
  have HB := Lib.hid (Below.refl w.heap.size w)
  go_enter Try.func6, Try.ntmps6
  go_wp2_with fail
  refine (HA.out _).mono ?_
  rintro e w14 ⟨rfl, h1⟩
  replace NV := Lib.hid (NV.out.below h1)
  replace HB := Lib.hid (bel_trans HB.out h1); clear h1
  go_wp2_with fail
  refine (FW.out _ HB.out).mono ?_
  rintro e w90 ⟨rfl, hw⟩
  subst hw
  clear FW
  go_wp2_with fail
  refine (clone_p _ l _ NV.out hz.out).mono ?_
  rintro e w15 ⟨V1, rfl, hx, h1⟩
  replace NV := Lib.hid (NV.out.below h1)
  replace HB := Lib.hid (bel_trans HB.out h1); clear h1
  have N1 := Lib.hid hx; clear hx
  go_wp2_with fail
  refine (H1.out _ _ N1.out).mono ?_
  rintro e w16 ⟨rfl, h1⟩
  replace NV := Lib.hid (NV.out.below h1)
  replace N1 := Lib.hid (N1.out.below h1)
  replace HB := Lib.hid (bel_trans HB.out h1); clear h1
  clear N1
  go_wp2_with fail
  refine (clone_p _ l _ NV.out hz.out).mono ?_
  rintro e w18 ⟨V2, rfl, hx, h1⟩
  replace NV := Lib.hid (NV.out.below h1)
  replace HB := Lib.hid (bel_trans HB.out h1); clear h1
  have N2 := Lib.hid hx; clear hx
  go_wp2_with fail
  refine (H2.out _ _ N2.out).mono ?_
  rintro e w19 ⟨rfl, h1⟩
  replace NV := Lib.hid ((NV.out.below h1).alloc (.cells #[.int .i64 L, .int .i64 H] 32))
  replace N2 := Lib.hid ((N2.out.below h1).alloc (.cells #[.int .i64 L, .int .i64 H] 32))
  replace HB := Lib.hid ((bel_trans HB.out h1).alloc (bel_trans HB.out h1).size (.cells #[.int .i64 L, .int .i64 H] 32)); clear h1
  have T1 := Lib.hid (Two.new w19 (.int .i64 L) (.int .i64 H) 32)
  clear N2
  go_wp2_with fail
  refine (clone_p _ l _ NV.out hz.out).mono ?_
  rintro e w21 ⟨V3, rfl, hx, h1⟩
  replace NV := Lib.hid (NV.out.below h1)
  replace T1 := Lib.hid (T1.out.below h1)
  replace HB := Lib.hid (bel_trans HB.out h1); clear h1
  have N3 := Lib.hid hx; clear hx
  go_wp2_with fail
  refine (H3.out _ _ N3.out).mono ?_
  rintro e w22 ⟨V4, rfl, hx, h1⟩
  replace NV := Lib.hid (NV.out.below h1)
  replace T1 := Lib.hid (T1.out.below h1)
  replace N3 := Lib.hid (N3.out.below h1)
  replace HB := Lib.hid (bel_trans HB.out h1); clear h1
  have N4 := Lib.hid hx; clear hx
  clear N3
  go_wp2_with fail
  refine (H4.out _ _ N4.out).mono ?_
  rintro e w24 ⟨rfl, h1⟩
  replace NV := Lib.hid (NV.out.below h1)
  replace T1 := Lib.hid (T1.out.below h1)
  replace N4 := Lib.hid (N4.out.below h1)
  replace HB := Lib.hid (bel_trans HB.out h1); clear h1
  clear N4
  obtain ⟨T10, T11, T12, T13, T14⟩ := T1.out
  clear H1 H2 H3 H4 hb hq
  go_wp2_with fail
  refine (clone_p _ l _ NV.out hz.out).mono ?_
  rintro e w27 ⟨V5, rfl, hx, h1⟩
  replace NV := Lib.hid (NV.out.below h1)
  replace T1 := Lib.hid (T1.out.below h1)
  replace HB := Lib.hid (bel_trans HB.out h1); clear h1
  have N5 := Lib.hid hx; clear hx
  go_wp2_with fail
  refine (H5.out _ _ N5.out).mono ?_
  rintro e w28 ⟨V6, rfl, hx, h1⟩
  replace NV := Lib.hid (NV.out.below h1)
  replace T1 := Lib.hid (T1.out.below h1)
  replace N5 := Lib.hid (N5.out.below h1)
  replace HB := Lib.hid (bel_trans HB.out h1); clear h1
  have N6 := Lib.hid hx; clear hx
  rcases he with rfl | ⟨e1, e2⟩
  · have H6' := Lib.hid (H6.out rfl)
    clear H6 H5
    go_wp2_with fail
    refine (H6'.out _ _ N6.out).mono ?_
    rintro e w29 ⟨rfl, h1⟩
    replace NV := Lib.hid (NV.out.below h1)
    replace T1 := Lib.hid (T1.out.below h1)
    replace N5 := Lib.hid (N5.out.below h1)
    replace N6 := Lib.hid (N6.out.below h1)
    replace HB := Lib.hid (bel_trans HB.out h1); clear h1
    go_wp2
    go_returns
    exact ⟨rfl, HB.out⟩
  · clear H6 H5
    go_wp2
    go_returns
    exact ⟨rfl, HB.out⟩
theorem walk (z : Value) (l : List (Int × Int)) (x : Int) (w : World) (hv : Pts w z l) (hx : -9223372036854775808 ≤ x ∧ x ≤ 9223372036854775807) :
    Calls Try.prog 6 #[z, .int .i64 x] w fun e w' => e = .returned (.bool true) ∧ Below w.heap.size w w' := by
  have hv2 := hv
  obtain ⟨a, cap, rfl, _, _⟩ := hv.shape
  by_cases h : l.length ≤ 33
  · have FW : ∀ W, Below w.heap.size w W → Calls Try.prog 11 #[.slice a l.length cap] W fun e w' => e = .returned (.bool true) ∧ w' = W := fun W hW => by
      have := few_any _ l W (hv2.below hW)
      rwa [decide_eq_true h] at this
    by_cases e : ckE l = 0
    · have hR := (ckE_iff l).1 e
      have bd := frS_bd hR
      have nr := cb_narrow bd.1
      have cb := cb_bd bd
      obtain ⟨t1, t2, t3, t4⟩ := tu_some e
      have e1 : fuQ l = frS l := by unfold fuQ; rw [if_pos e]
      have e2 : spL l = cbL (frS l) := by unfold spL; rw [if_pos e]
      have e3 : spH l = cbH (frS l) := by unfold spH; rw [if_pos e]
      have e4 : fuQ (tuL l) = frS l := by unfold fuQ; rw [if_pos t2, frS_turn hR]
      refine good x (frS l) (cbL (frS l)) (cbH (frS l)) (ixE l x) a l.length cap l (tuL l) (ixL l x) w (Lib.hid (by omega)) hv2 (by omega) (by omega) (by by_cases h0 : ixE l x = 0 <;> simp [h0]) FW (fun v W hp => ?_) (fun v W hp => ?_) (fun v W hp => ?_) (fun v W hp => ?_) (fun v W hp => ?_) (fun h0 v W hp => ?_)
      · have := cFru_any v l W hp
        rwa [e1, e] at this
      · have := cSpc_any v l W hp
        rwa [e2, e3, e] at this
      · have := turn_any v l W hp
        rwa [e, t1] at this
      · have := cFru_any v (tuL l) W hp
        rwa [e4, t2] at this
      · exact ins_any v l x W hp
      · obtain ⟨hI, hL, _⟩ := ix_in h0
        have c2 := (ckE_iff _).2 (ins_R hI)
        have := cFru_any v (ixL l x) W hp
        have e5 : fuQ (ixL l x) = frS l := by rw [hL]; unfold fuQ; rw [if_pos c2, frS_ins hI]
        have e6 : ckE (ixL l x) = 0 := by rw [hL]; exact c2
        rwa [e5, e6] at this
    · have e1 : fuQ l = 0 := by unfold fuQ; rw [if_neg e]
      have e2 : spL l = 0 := by unfold spL; rw [if_neg e]
      have e3 : spH l = 0 := by unfold spH; rw [if_neg e]
      refine bad x (ckE l) a l.length cap l w (Lib.hid (by omega)) hv2 (by simpa using e) (by simpa using e) FW (fun v W hp => ?_) (fun v W hp => ?_)
      · have := cFru_any v l W hp
        rwa [e1] at this
      · have := cSpc_any v l W hp
        rwa [e2, e3] at this
  · refine long x a l.length cap w (Lib.hid fun W hW => ?_)
    have := few_any _ l W (hv2.below hW)
    rwa [decide_eq_false h] at this

set_option maxRecDepth 100000 in
theorem lifted (os : Os) (started : os.Started) (H : Type) (enc : TypeId × Value → H) :
    ReturnsInHanded {} Try.checked os 6 .any (Rows.capacityNarrowSpec.pre6 enc Try.prog Try.f6 Rows.capacityNarrowRow.domain false) (Rows.capacityNarrowSpec.post enc Try.prog Try.f6 false true false false) := by
  refine returnsInHanded_of_change (C := Try.checked) own started (by kernel_rfl) Try.func6
    (ChangeSpec.witness6 (enc := enc) (C := Try.checked) false ⟨#[], #[.slice none 0 0, .int .i64 0], []⟩ 8 (by kernel_rfl) (by kernel_rfl) (by kernel_rfl) (by kernel_rfl)) ?_
  intro W base args ds gs before hval0 hW hcnd _
  have hval : ∀ (j : Nat) t v, Try.f6.params[j]? = some t → args[j]? = some v → Value.okWide Try.prog W .any base t v := hval0
  clear hval0
  have hW' := hW
  obtain ⟨p, q, hA0, hV, rfl, hfz, hnd⟩ := hW
  have hA : DataW.TrodAll enc Try.prog W 0 (fun _ => true) true Try.f6.params.toList args.toList ds p := hA0
  rw [Try.params6] at hA hval
  obtain ⟨v0, vs0, d0, ds0, p0, q0, hargs, rfl, rfl, h0, r0⟩ := trodAll_cons hA
  obtain ⟨v1, vs1, d1, ds1, p1, q1, rfl, rfl, rfl, h1, r1⟩ := trodAll_cons r0
  obtain ⟨rfl, rfl, rfl⟩ := trodAll_nil r1
  obtain rfl : args = #[v0, v1] := by cases args; simp_all
  obtain ⟨rfl, rfl⟩ := trodVars_none hV
  have k0 := h0
  have lt0 : ∀ x ∈ p0, x.block < W.heap.size := by obtain ⟨m, hm⟩ := k0; exact DataW.trod_lt m _ _ _ hm
  have k1 := h1
  have lt1 : ∀ x ∈ p1, x.block < W.heap.size := by obtain ⟨m, hm⟩ := k1; exact DataW.trod_lt m _ _ _ hm
  obtain ⟨z0, w0⟩ := open_pts (hval 0 22 v0 rfl rfl) h0
  obtain ⟨a1, rfl, rfl, rfl, w1⟩ := open_int Try.underlying3 (hval 1 3 v1 rfl rfl) h1
  clear hA0
  refine (walk v0 z0 a1 W w0 (wf_bd w1)).mono fun e W' ⟨he, bel⟩ => ?_
  subst he
  exact ⟨_, rfl, _, _, _, [], _, [], hW', trodAll_mk1 (shut_bool Try.underlying4 _), (trodAll_cons_mk (Below.trod laidOut (by kernel_rfl) (of_decide_eq_true (by kernel_rfl)) k0 bel lt0) (trodAll_cons_mk (Below.trod laidOut (by kernel_rfl) (of_decide_eq_true (by kernel_rfl)) k1 bel lt1) trodAll_mk0)), rfl, bel.frame _, fun h => by cases h⟩

theorem over : Rows.capacityNarrowRow.holds Try.pinned (OpenSpec.ofChange Rows.capacityNarrowSpec) :=
  OpenClaim.holds_of_wide 6 Try.f6 rfl rfl rfl rfl rfl rfl rfl ⟨rfl, rfl, rfl, rfl, rfl⟩ rfl rfl rfl rfl rfl (by kernel_rfl) Try.func6 (by kernel_rfl)
    (of_decide_eq_true (by kernel_rfl)) (by unfold Func.isWrapper; first | (rw [if_pos (by decide +kernel)]; kernel_rfl) | (rw [if_neg (by decide +kernel)]; exact ⟨rfl, rfl⟩))
    (fun os started H enc _ => lifted os started H enc)

theorem proved : Rows.CapacityNarrowSaid := over
#print axioms proved
end Go.Proofs.Ytpnlfeljmpfeoab.capacityNarrow
