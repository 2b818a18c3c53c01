/-
  The statement ProfileTwice of spile/spilelaw08 holds: for every input the call returns true, and each argument reads afterwards as it read before.
-/
import Derived.Test.YtlofblpfohnooabPG
import Derived.Test.YtlofblpfohnooabPO
import Derived.Below
import Derived.Carry
namespace Go.Proofs.Ytlofblpfohnooab.profileTwice
open Go.ChangeShapes Go.WideShapes Go.ChangeAt Go.RowKit
open Go.ChangeMaps (open_string shut_string)
set_option linter.unusedVariables false

set_option maxHeartbeats 4000000 in
theorem long (x : Int) (a : Option Addr) (n cap : Nat) (w : World)
    (FW : Hid (∀ W, Below w.heap.size w W → Calls Try.prog 10 #[.slice a n cap] W fun e w' => e = .returned (.bool false) ∧ w' = W)) :
    Calls Try.prog 7 #[.slice a n cap, .int .i64 x] w fun e w' => e = .returned (.bool true) ∧ Below w.heap.size w w' := by
  have HA := Lib.hid (fun W => awake_any W)
  have HB := Lib.hid (Below.refl w.heap.size w)
  go_enter Try.func7, Try.ntmps7
  go_wp2_with fail
  refine (HA.out _).mono ?_
  rintro e w2 ⟨rfl, h1⟩
  replace HB := Lib.hid (bel_trans HB.out h1); clear h1
  go_wp2_with fail
  refine (FW.out _ HB.out).mono ?_
  rintro e w90 ⟨rfl, hw⟩
  subst hw
  go_wp2
  go_returns
  exact ⟨rfl, HB.out⟩
set_option maxHeartbeats 8000000 in
theorem bad (x E : Int) (a : Option Addr) (n cap : Nat) (l : List (Int × Int)) (w : World) (hz : Hid (l.length ≤ 1000)) (NV : Hid (Pts w (.slice a n cap) l)) (e1 : (E == 0) = false) (e2 : (E != 0) = true)
    (FW : Hid (∀ W, Below w.heap.size w W → Calls Try.prog 10 #[.slice a n cap] W fun e w' => e = .returned (.bool true) ∧ w' = W))
    (HU : Hid (∀ v W, Pts W v l → Calls Try.prog 25 #[v] W fun e w' => ∃ u, e = .returned (.tuple #[u, .int .i64 E]) ∧ Pts w' u [] ∧ Below W.heap.size W w')) :
    Calls Try.prog 7 #[.slice a n cap, .int .i64 x] w fun e w' => e = .returned (.bool true) ∧ Below w.heap.size w w' := by
  have HA := Lib.hid (fun W => awake_any W)
  have HB := Lib.hid (Below.refl w.heap.size w)
  go_enter Try.func7, Try.ntmps7
  go_wp2_with fail
  refine (HA.out _).mono ?_
  rintro e w5 ⟨rfl, h1⟩
  replace NV := Lib.hid (NV.out.below h1)
  replace HB := Lib.hid (bel_trans HB.out h1); clear h1
  go_wp2_with fail
  refine (FW.out _ HB.out).mono ?_
  rintro e w90 ⟨rfl, hw⟩
  subst hw
  clear FW
  go_wp2_with fail
  refine (clone_p _ l _ NV.out hz.out).mono ?_
  rintro e w6 ⟨V1, rfl, hx, h1⟩
  replace NV := Lib.hid (NV.out.below h1)
  replace HB := Lib.hid (bel_trans HB.out h1); clear h1
  have N1 := Lib.hid hx; clear hx
  go_wp2_with fail
  refine (HU.out _ _ N1.out).mono ?_
  rintro e w7 ⟨V2, rfl, hx, h1⟩
  replace NV := Lib.hid (NV.out.below h1)
  replace N1 := Lib.hid (N1.out.below h1)
  replace HB := Lib.hid (bel_trans HB.out h1); clear h1
  have N2 := Lib.hid hx; clear hx
  obtain ⟨am, cm, rfl, _, _⟩ := N2.out.shape
  go_wp2
  go_returns
  exact ⟨rfl, HB.out⟩
set_option maxHeartbeats 16000000 in
theorem good (x X L H : Int) (a : Option Addr) (n cap : Nat) (l t : List (Int × Int)) (w : World) (hz : Hid (l.length ≤ 1000)) (ht : Hid (t.length ≤ 1000)) (NV : Hid (Pts w (.slice a n cap) l)) (bX : 0 ≤ X ∧ X ≤ 100000)
    (h : x < 0 ∨ (¬ x < 0 ∧ X < x) ∨ (¬ x < 0 ∧ ¬ X < x))
    (FW : Hid (∀ W, Below w.heap.size w W → Calls Try.prog 10 #[.slice a n cap] W fun e w' => e = .returned (.bool true) ∧ w' = W))
    (HU : Hid (∀ v W, Pts W v l → Calls Try.prog 25 #[v] W fun e w' => ∃ u, e = .returned (.tuple #[u, .int .i64 0]) ∧ Pts w' u t ∧ Below W.heap.size W w'))
    (HV : Hid (∀ v W, Pts W v t → Calls Try.prog 25 #[v] W fun e w' => ∃ u, e = .returned (.tuple #[u, .int .i64 0]) ∧ Pts w' u l ∧ Below W.heap.size W w'))
    (HL : Hid (∀ v W, Pts W v t → Calls Try.prog 11 #[v] W fun e w' => e = .returned (.tuple #[.int .i64 X, .int .i64 0]) ∧ Below W.heap.size W w'))
    (HS : Hid (∀ v u W, Pts W v l → Pts W u l → Calls Try.prog 22 #[v, u] W fun e w' => e = .returned (.bool true) ∧ Below W.heap.size W w'))
    (A1 : Hid (¬ x < 0 → ¬ X < x → ∀ v W, Pts W v l → Calls Try.prog 18 #[v, .int .i64 x] W fun e w' => e = .returned (.tuple #[.agg #[.int .i64 L, .int .i64 H], .int .i64 0]) ∧ Below W.heap.size W w'))
    (A2 : Hid (¬ x < 0 → ¬ X < x → ∀ v W, Pts W v t → Calls Try.prog 18 #[v, .int .i64 (X - x)] W fun e w' => e = .returned (.tuple #[.agg #[.int .i64 L, .int .i64 H], .int .i64 0]) ∧ Below W.heap.size W w')) :
    Calls Try.prog 7 #[.slice a n cap, .int .i64 x] w fun e w' => e = .returned (.bool true) ∧ Below w.heap.size w w' := by
  have HA := Lib.hid (fun W => awake_any W)
  have Q1 : ∀ W, (binOp .eql 33 (.agg #[.int .i64 L, .int .i64 H]) (.agg #[.int .i64 L, .int .i64 H])).run Try.prog W = .ok (.bool true) W := fun W => by rw [run_eql_bounds, show samB L H L H = true by simp [samB]]
  have HB := Lib.hid (Below.refl w.heap.size w)
  go_enter Try.func7, Try.ntmps7
  go_wp2_with fail
  refine (HA.out _).mono ?_
  rintro e w10 ⟨rfl, h1⟩
  replace NV := Lib.hid (NV.out.below h1)
  replace HB := Lib.hid (bel_trans HB.out h1); clear h1
  go_wp2_with fail
  refine (FW.out _ HB.out).mono ?_
  rintro e w90 ⟨rfl, hw⟩
  subst hw
  clear FW
  go_wp2_with fail
  refine (clone_p _ l _ NV.out hz.out).mono ?_
  rintro e w11 ⟨V1, rfl, hx, h1⟩
  replace NV := Lib.hid (NV.out.below h1)
  replace HB := Lib.hid (bel_trans HB.out h1); clear h1
  have N1 := Lib.hid hx; clear hx
  go_wp2_with fail
  refine (HU.out _ _ N1.out).mono ?_
  rintro e w12 ⟨V2, rfl, hx, h1⟩
  replace NV := Lib.hid (NV.out.below h1)
  replace N1 := Lib.hid (N1.out.below h1)
  replace HB := Lib.hid (bel_trans HB.out h1); clear h1
  have N2 := Lib.hid hx; clear hx
  go_wp2_with fail
  refine (clone_p _ t _ N2.out ht.out).mono ?_
  rintro e w13 ⟨V3, rfl, hx, h1⟩
  replace NV := Lib.hid (NV.out.below h1)
  replace N1 := Lib.hid (N1.out.below h1)
  replace N2 := Lib.hid (N2.out.below h1)
  replace HB := Lib.hid (bel_trans HB.out h1); clear h1
  have N3 := Lib.hid hx; clear hx
  go_wp2_with fail
  refine (HV.out _ _ N3.out).mono ?_
  rintro e w14 ⟨V4, rfl, hx, h1⟩
  replace NV := Lib.hid (NV.out.below h1)
  replace N1 := Lib.hid (N1.out.below h1)
  replace N2 := Lib.hid (N2.out.below h1)
  replace N3 := Lib.hid (N3.out.below h1)
  replace HB := Lib.hid (bel_trans HB.out h1); clear h1
  have N4 := Lib.hid hx; clear hx
  go_wp2_with fail
  refine (clone_p _ t _ N2.out ht.out).mono ?_
  rintro e w15 ⟨V5, rfl, hx, h1⟩
  replace NV := Lib.hid (NV.out.below h1)
  replace N1 := Lib.hid (N1.out.below h1)
  replace N2 := Lib.hid (N2.out.below h1)
  replace N3 := Lib.hid (N3.out.below h1)
  replace N4 := Lib.hid (N4.out.below h1)
  replace HB := Lib.hid (bel_trans HB.out h1); clear h1
  have N5 := Lib.hid hx; clear hx
  go_wp2_with fail
  refine (HL.out _ _ N5.out).mono ?_
  rintro e w16 ⟨rfl, h1⟩
  replace NV := Lib.hid (NV.out.below h1)
  replace N1 := Lib.hid (N1.out.below h1)
  replace N2 := Lib.hid (N2.out.below h1)
  replace N3 := Lib.hid (N3.out.below h1)
  replace N4 := Lib.hid (N4.out.below h1)
  replace N5 := Lib.hid (N5.out.below h1)
  replace HB := Lib.hid (bel_trans HB.out h1); clear h1
  go_wp2_with fail
  refine (HS.out _ _ _ N4.out NV.out).mono ?_
  rintro e w17 ⟨rfl, h1⟩
  replace NV := Lib.hid (NV.out.below h1)
  replace N1 := Lib.hid (N1.out.below h1)
  replace N2 := Lib.hid (N2.out.below h1)
  replace N3 := Lib.hid (N3.out.below h1)
  replace N4 := Lib.hid (N4.out.below h1)
  replace N5 := Lib.hid (N5.out.below h1)
  replace HB := Lib.hid (bel_trans HB.out h1); clear h1
  rcases h with h | ⟨h1, h2⟩ | ⟨h1, h2⟩
  · clear A1 A2
    go_wp2_with fail
    refine (HS.out _ _ _ N4.out NV.out).mono ?_
    rintro e w80 ⟨rfl, h1⟩
    replace HB := Lib.hid (bel_trans HB.out h1); clear h1
    go_wp2
    go_returns
    exact ⟨rfl, HB.out⟩
  · clear A1 A2
    go_wp2_with fail
    refine (HS.out _ _ _ N4.out NV.out).mono ?_
    rintro e w80 ⟨rfl, h3⟩
    replace HB := Lib.hid (bel_trans HB.out h3); clear h3
    go_wp2
    go_returns
    exact ⟨rfl, HB.out⟩
  · have A1' := Lib.hid (A1.out h1 h2)
    have A2' := Lib.hid (A2.out h1 h2)
    have ws : IntKind.i64.wrap (X - x) = X - x := wrap_in _ ⟨by omega, by omega⟩
    clear A1 A2
    go_wp2_with fail
    refine (clone_p _ l _ NV.out hz.out).mono ?_
    rintro e w81 ⟨V6, rfl, hx, h3⟩
    replace N2 := Lib.hid (N2.out.below h3)
    replace HB := Lib.hid (bel_trans HB.out h3); clear h3
    have N6 := Lib.hid hx; clear hx
    go_wp2_with fail
    refine (A1'.out _ _ N6.out).mono ?_
    rintro e w82 ⟨rfl, h3⟩
    replace N2 := Lib.hid ((N2.out.below h3).alloc (.cells #[.int .i64 L, .int .i64 H] 33))
    replace HB := Lib.hid ((bel_trans HB.out h3).alloc (bel_trans HB.out h3).size (.cells #[.int .i64 L, .int .i64 H] 33)); clear h3
    have T1 := Lib.hid (Two.new w82 (.int .i64 L) (.int .i64 H) 33)
    go_wp2_with fail
    refine (clone_p _ t _ N2.out ht.out).mono ?_
    rintro e w83 ⟨V7, rfl, hx, h3⟩
    replace T1 := Lib.hid (T1.out.below h3)
    replace HB := Lib.hid (bel_trans HB.out h3); clear h3
    have N7 := Lib.hid hx; clear hx
    go_wp2_with fail
    refine (A2'.out _ _ N7.out).mono ?_
    rintro e w84 ⟨rfl, h3⟩
    replace T1 := Lib.hid ((T1.out.below h3).alloc (.cells #[.int .i64 L, .int .i64 H] 33))
    replace HB := Lib.hid ((bel_trans HB.out h3).alloc (bel_trans HB.out h3).size (.cells #[.int .i64 L, .int .i64 H] 33)); clear h3
    have T2 := Lib.hid (Two.new w84 (.int .i64 L) (.int .i64 H) 33)
    obtain ⟨t0, t1, _, _, _⟩ := T1.out
    obtain ⟨s0, s1, _, _, _⟩ := T2.out
    go_wp2
    go_returns
    exact ⟨rfl, HB.out⟩
theorem walk (z : Value) (l : List (Int × Int)) (x : Int) (w : World) (hv : Pts w z l) (hx : -9223372036854775808 ≤ x ∧ x ≤ 9223372036854775807) :
    Calls Try.prog 7 #[z, .int .i64 x] w fun e w' => e = .returned (.bool true) ∧ Below w.heap.size w w' := by
  have hv2 := hv
  obtain ⟨a, cap, rfl, _, _⟩ := hv.shape
  by_cases h : l.length ≤ 33
  · have FW : ∀ W, Below w.heap.size w W → Calls Try.prog 10 #[.slice a l.length cap] W fun e w' => e = .returned (.bool true) ∧ w' = W := fun W hW => by
      have := few_any _ l W (hv2.below hW)
      rwa [decide_eq_true h] at this
    by_cases e : ckE l = 0
    · have hR := (ckE_iff l).1 e
      have n0 := hR.n0
      obtain ⟨t1, t2, t3, t4⟩ := tu_some e
      have hl := tuL_len l
      refine good x (gX l (l.length - 1)) (rdL l x) (rdH l x) a l.length cap l (tuL l) w (Lib.hid (by omega)) (Lib.hid (by omega)) hv2 (hR.bx _ (by omega)) (by omega) FW (fun v W hp => ?_) (fun v W hp => ?_) (fun v W hp => ?_) (fun v u W h1 h2 => ?_) (fun g1 g2 v W hp => ?_) (fun g1 g2 v W hp => ?_)
      · have := turn_any v l W hp
        rwa [e, t1] at this
      · have := turn_any v (tuL l) W hp
        rwa [t2, t3] at this
      · have := len_any v (tuL l) W hp
        rwa [t4, t2] at this
      · have := same_any v u l l W h1 h2 (by omega)
        rwa [beq_self_eq_true] at this
      · have p := tu_pl e (x := x) (by omega) (by omega)
        have s := at_some p.1
        have := At_any v l x W hp
        rwa [s.1, s.2, p.1] at this
      · have p := tu_pl e (x := x) (by omega) (by omega)
        have s := at_some p.2
        have r := tu_rd hR (x := x) (by omega) (by omega)
        have := At_any v (tuL l) (gX l (l.length - 1) - x) W hp
        rwa [s.1, s.2, p.2, r.1, r.2] at this
    · refine bad x _ a l.length cap l w (Lib.hid (by omega)) hv2 (by simpa using e) (by simpa using e) FW (fun v W hp => ?_)
      have := turn_any v l W hp
      rwa [tu_none e] at this
  · refine long x a l.length cap w (Lib.hid fun W hW => ?_)
    have := few_any _ l W (hv2.below hW)
    rwa [decide_eq_false h] at this

set_option maxRecDepth 100000 in
theorem lifted (os : Os) (started : os.Started) (H : Type) (enc : TypeId × Value → H) :
    ReturnsInHanded {} Try.checked os 7 .any (Rows.profileTwiceSpec.pre6 enc Try.prog Try.f7 Rows.profileTwiceRow.domain false) (Rows.profileTwiceSpec.post enc Try.prog Try.f7 false true false false) := by
  refine returnsInHanded_of_change (C := Try.checked) own started (by kernel_rfl) Try.func7
    (ChangeSpec.witness6 (enc := enc) (C := Try.checked) false ⟨#[], #[.slice none 0 0, .int .i64 0], []⟩ 8 (by kernel_rfl) (by kernel_rfl) (by kernel_rfl) (by kernel_rfl)) ?_
  intro W base args ds gs before hval0 hW hcnd _
  have hval : ∀ (j : Nat) t v, Try.f7.params[j]? = some t → args[j]? = some v → Value.okWide Try.prog W .any base t v := hval0
  clear hval0
  have hW' := hW
  obtain ⟨p, q, hA0, hV, rfl, hfz, hnd⟩ := hW
  have hA : DataW.TrodAll enc Try.prog W 0 (fun _ => true) true Try.f7.params.toList args.toList ds p := hA0
  rw [Try.params7] at hA hval
  obtain ⟨v0, vs0, d0, ds0, p0, q0, hargs, rfl, rfl, h0, r0⟩ := trodAll_cons hA
  obtain ⟨v1, vs1, d1, ds1, p1, q1, rfl, rfl, rfl, h1, r1⟩ := trodAll_cons r0
  obtain ⟨rfl, rfl, rfl⟩ := trodAll_nil r1
  obtain rfl : args = #[v0, v1] := by cases args; simp_all
  obtain ⟨rfl, rfl⟩ := trodVars_none hV
  have k0 := h0
  have lt0 : ∀ x ∈ p0, x.block < W.heap.size := by obtain ⟨m, hm⟩ := k0; exact DataW.trod_lt m _ _ _ hm
  have k1 := h1
  have lt1 : ∀ x ∈ p1, x.block < W.heap.size := by obtain ⟨m, hm⟩ := k1; exact DataW.trod_lt m _ _ _ hm
  obtain ⟨z0, w0⟩ := open_pts (hval 0 22 v0 rfl rfl) h0
  obtain ⟨a1, rfl, rfl, rfl, w1⟩ := open_int Try.underlying3 (hval 1 3 v1 rfl rfl) h1
  clear hA0
  refine (walk v0 z0 a1 W w0 (wf_bd w1)).mono fun e W' ⟨he, bel⟩ => ?_
  subst he
  exact ⟨_, rfl, _, _, _, [], _, [], hW', trodAll_mk1 (shut_bool Try.underlying4 _), (trodAll_cons_mk (Below.trod laidOut (by kernel_rfl) (of_decide_eq_true (by kernel_rfl)) k0 bel lt0) (trodAll_cons_mk (Below.trod laidOut (by kernel_rfl) (of_decide_eq_true (by kernel_rfl)) k1 bel lt1) trodAll_mk0)), rfl, bel.frame _, fun h => by cases h⟩

theorem over : Rows.profileTwiceRow.holds Try.pinned (OpenSpec.ofChange Rows.profileTwiceSpec) :=
  OpenClaim.holds_of_wide 7 Try.f7 rfl rfl rfl rfl rfl rfl rfl ⟨rfl, rfl, rfl, rfl, rfl⟩ rfl rfl rfl rfl rfl (by kernel_rfl) Try.func7 (by kernel_rfl)
    (of_decide_eq_true (by kernel_rfl)) (by unfold Func.isWrapper; first | (rw [if_pos (by decide +kernel)]; kernel_rfl) | (rw [if_neg (by decide +kernel)]; exact ⟨rfl, rfl⟩))
    (fun os started H enc _ => lifted os started H enc)

theorem proved : Rows.ProfileTwiceSaid := over
#print axioms proved
end Go.Proofs.Ytlofblpfohnooab.profileTwice
