/-
  The statement ProfileInner of spile/spilelaw08 holds: for every input the call returns true, and each argument reads afterwards as it read before.
-/
import Derived.Test.YtlofblpfohnooabPN0
import Derived.Test.YtlofblpfohnooabPO
import Derived.Below
import Derived.Carry
namespace Go.Proofs.Ytlofblpfohnooab.profileInner
open Go.ChangeShapes Go.WideShapes Go.ChangeAt Go.RowKit
open Go.ChangeMaps (open_string shut_string)
set_option linter.unusedVariables false

set_option maxHeartbeats 4000000 in
theorem long (s h x : Int) (a : Option Addr) (n cap : Nat) (w : World)
    (FW : Hid (∀ W, Below w.heap.size w W → Calls Try.prog 10 #[.slice a n cap] W fun e w' => e = .returned (.bool false) ∧ w' = W)) :
    Calls Try.prog 8 #[.slice a n cap, .int .i64 s, .int .i64 h, .int .i64 x] w fun e w' => e = .returned (.bool true) ∧ Below w.heap.size w w' := by
  have HA := Lib.hid (fun W => awake_any W)
  have HB := Lib.hid (Below.refl w.heap.size w)
  go_enter Try.func8, Try.ntmps8
  go_wp2_with fail
  refine (HA.out _).mono ?_
  rintro e w2 ⟨rfl, h1⟩
  replace HB := Lib.hid (bel_trans HB.out h1); clear h1
  go_wp2_with fail
  refine (FW.out _ HB.out).mono ?_
  rintro e w90 ⟨rfl, hw⟩
  subst hw
  go_wp2
  go_returns
  exact ⟨rfl, HB.out⟩
set_option maxHeartbeats 8000000 in
theorem bad (s h x E : Int) (a : Option Addr) (n cap : Nat) (l : List (Int × Int)) (w : World) (hz : Hid (l.length ≤ 1000)) (NV : Hid (Pts w (.slice a n cap) l)) (e1 : (E == 0) = false) (e2 : (E != 0) = true)
    (FW : Hid (∀ W, Below w.heap.size w W → Calls Try.prog 10 #[.slice a n cap] W fun e w' => e = .returned (.bool true) ∧ w' = W))
    (HU : Hid (∀ v W, Pts W v l → Calls Try.prog 26 #[v, .int .i64 s, .int .i64 h] W fun e w' => ∃ u, e = .returned (.tuple #[u, .int .i64 E]) ∧ Pts w' u [] ∧ Below W.heap.size W w')) :
    Calls Try.prog 8 #[.slice a n cap, .int .i64 s, .int .i64 h, .int .i64 x] w fun e w' => e = .returned (.bool true) ∧ Below w.heap.size w w' := by
  have HA := Lib.hid (fun W => awake_any W)
  have HB := Lib.hid (Below.refl w.heap.size w)
  go_enter Try.func8, Try.ntmps8
  go_wp2_with fail
  refine (HA.out _).mono ?_
  rintro e w5 ⟨rfl, h1⟩
  replace NV := Lib.hid (NV.out.below h1)
  replace HB := Lib.hid (bel_trans HB.out h1); clear h1
  go_wp2_with fail
  refine (FW.out _ HB.out).mono ?_
  rintro e w90 ⟨rfl, hw⟩
  subst hw
  clear FW
  go_wp2_with fail
  refine (clone_p _ l _ NV.out hz.out).mono ?_
  rintro e w6 ⟨V1, rfl, hx, h1⟩
  replace NV := Lib.hid (NV.out.below h1)
  replace HB := Lib.hid (bel_trans HB.out h1); clear h1
  have N1 := Lib.hid hx; clear hx
  go_wp2_with fail
  refine (HU.out _ _ N1.out).mono ?_
  rintro e w7 ⟨V2, rfl, hx, h1⟩
  replace NV := Lib.hid (NV.out.below h1)
  replace N1 := Lib.hid (N1.out.below h1)
  replace HB := Lib.hid (bel_trans HB.out h1); clear h1
  have N2 := Lib.hid hx; clear hx
  obtain ⟨am, cm, rfl, _, _⟩ := N2.out.shape
  go_wp2
  go_returns
  exact ⟨rfl, HB.out⟩
set_option maxHeartbeats 16000000 in
theorem good (s h x X L H L2 H2 : Int) (a : Option Addr) (n cap : Nat) (l t : List (Int × Int)) (w : World) (hz : Hid (l.length ≤ 1000)) (ht : Hid (t.length ≤ 1000)) (NV : Hid (Pts w (.slice a n cap) l)) (bX : 0 ≤ X ∧ X ≤ 100000) (bs : 0 ≤ s ∧ s ≤ 100000) (bh : 0 ≤ h ∧ h ≤ 100000)
    (hc : x < 0 ∨ (¬ x < 0 ∧ X - 2 * h < x) ∨ (¬ x < 0 ∧ ¬ X - 2 * h < x))
    (FW : Hid (∀ W, Below w.heap.size w W → Calls Try.prog 10 #[.slice a n cap] W fun e w' => e = .returned (.bool true) ∧ w' = W))
    (HU : Hid (∀ v W, Pts W v l → Calls Try.prog 26 #[v, .int .i64 s, .int .i64 h] W fun e w' => ∃ u, e = .returned (.tuple #[u, .int .i64 0]) ∧ Pts w' u t ∧ Below W.heap.size W w'))
    (HL : Hid (∀ v W, Pts W v l → Calls Try.prog 11 #[v] W fun e w' => e = .returned (.tuple #[.int .i64 X, .int .i64 0]) ∧ Below W.heap.size W w'))
    (HM : Hid (∀ v W, Pts W v t → Calls Try.prog 11 #[v] W fun e w' => e = .returned (.tuple #[.int .i64 (X - 2 * h), .int .i64 0]) ∧ Below W.heap.size W w'))
    (A0 : Hid (x < 0 ∨ X - 2 * h < x → ∀ v W, Pts W v t → Calls Try.prog 18 #[v, .int .i64 x] W fun e w' => e = .returned (.tuple #[.agg #[.int .i64 0, .int .i64 0], .int .i64 2]) ∧ Below W.heap.size W w'))
    (A1 : Hid (¬ x < 0 → ¬ X - 2 * h < x → (L ≤ L2 - s ∧ H ≤ H2 - s ∧ (0 ≤ L2 ∧ L2 ≤ 100000) ∧ (0 ≤ H2 ∧ H2 ≤ 100000)) ∧ ∀ v W, Pts W v t → Calls Try.prog 18 #[v, .int .i64 x] W fun e w' => e = .returned (.tuple #[.agg #[.int .i64 L, .int .i64 H], .int .i64 0]) ∧ Below W.heap.size W w'))
    (A2 : Hid (¬ x < 0 → ¬ X - 2 * h < x → ∀ v W, Pts W v l → Calls Try.prog 18 #[v, .int .i64 (x + h)] W fun e w' => e = .returned (.tuple #[.agg #[.int .i64 L2, .int .i64 H2], .int .i64 0]) ∧ Below W.heap.size W w')) :
    Calls Try.prog 8 #[.slice a n cap, .int .i64 s, .int .i64 h, .int .i64 x] w fun e w' => e = .returned (.bool true) ∧ Below w.heap.size w w' := by
  have HA := Lib.hid (fun W => awake_any W)
  have w2 : IntKind.i64.wrap (2 * h) = 2 * h := wrap_in _ ⟨by omega, by omega⟩
  have w3 : IntKind.i64.wrap (X - 2 * h) = X - 2 * h := wrap_in _ ⟨by omega, by omega⟩
  have HB := Lib.hid (Below.refl w.heap.size w)
  go_enter Try.func8, Try.ntmps8
  go_wp2_with fail
  refine (HA.out _).mono ?_
  rintro e w10 ⟨rfl, h1⟩
  replace NV := Lib.hid (NV.out.below h1)
  replace HB := Lib.hid (bel_trans HB.out h1); clear h1
  go_wp2_with fail
  refine (FW.out _ HB.out).mono ?_
  rintro e w90 ⟨rfl, hw⟩
  subst hw
  clear FW
  go_wp2_with fail
  refine (clone_p _ l _ NV.out hz.out).mono ?_
  rintro e w11 ⟨V1, rfl, hx, h1⟩
  replace NV := Lib.hid (NV.out.below h1)
  replace HB := Lib.hid (bel_trans HB.out h1); clear h1
  have N1 := Lib.hid hx; clear hx
  go_wp2_with fail
  refine (HU.out _ _ N1.out).mono ?_
  rintro e w12 ⟨V2, rfl, hx, h1⟩
  replace NV := Lib.hid (NV.out.below h1)
  replace N1 := Lib.hid (N1.out.below h1)
  replace HB := Lib.hid (bel_trans HB.out h1); clear h1
  have N2 := Lib.hid hx; clear hx
  clear N1
  go_wp2_with fail
  refine (clone_p _ l _ NV.out hz.out).mono ?_
  rintro e w14 ⟨V3, rfl, hx, h1⟩
  replace NV := Lib.hid (NV.out.below h1)
  replace N2 := Lib.hid (N2.out.below h1)
  replace HB := Lib.hid (bel_trans HB.out h1); clear h1
  have N3 := Lib.hid hx; clear hx
  go_wp2_with fail
  refine (HL.out _ _ N3.out).mono ?_
  rintro e w15 ⟨rfl, h1⟩
  replace NV := Lib.hid (NV.out.below h1)
  replace N2 := Lib.hid (N2.out.below h1)
  replace N3 := Lib.hid (N3.out.below h1)
  replace HB := Lib.hid (bel_trans HB.out h1); clear h1
  clear N3
  go_wp2_with fail
  refine (clone_p _ t _ N2.out ht.out).mono ?_
  rintro e w17 ⟨V4, rfl, hx, h1⟩
  replace NV := Lib.hid (NV.out.below h1)
  replace N2 := Lib.hid (N2.out.below h1)
  replace HB := Lib.hid (bel_trans HB.out h1); clear h1
  have N4 := Lib.hid hx; clear hx
  go_wp2_with fail
  refine (HM.out _ _ N4.out).mono ?_
  rintro e w18 ⟨rfl, h1⟩
  replace NV := Lib.hid (NV.out.below h1)
  replace N2 := Lib.hid (N2.out.below h1)
  replace N4 := Lib.hid (N4.out.below h1)
  replace HB := Lib.hid (bel_trans HB.out h1); clear h1
  clear N4
  go_wp2_with fail
  refine (clone_p _ t _ N2.out ht.out).mono ?_
  rintro e w20 ⟨V5, rfl, hx, h1⟩
  replace NV := Lib.hid (NV.out.below h1)
  replace N2 := Lib.hid (N2.out.below h1)
  replace HB := Lib.hid (bel_trans HB.out h1); clear h1
  have N5 := Lib.hid hx; clear hx
  rcases hc with hc | ⟨h1, h2⟩ | ⟨h1, h2⟩
  · have A0' := Lib.hid (A0.out (.inl hc))
    clear A0 A1 A2
    go_wp2_with fail
    refine (A0'.out _ _ N5.out).mono ?_
    rintro e w80 ⟨rfl, h1⟩
    replace HB := Lib.hid (bel_trans HB.out h1); clear h1
    go_wp2
    go_returns
    exact ⟨rfl, HB.out.alloc HB.out.size _⟩
  · have A0' := Lib.hid (A0.out (.inr h2))
    clear A0 A1 A2
    go_wp2_with fail
    refine (A0'.out _ _ N5.out).mono ?_
    rintro e w80 ⟨rfl, h3⟩
    replace HB := Lib.hid (bel_trans HB.out h3); clear h3
    go_wp2
    go_returns
    exact ⟨rfl, HB.out.alloc HB.out.size _⟩
  · obtain ⟨⟨m1, m2, m3, m4⟩, A1'⟩ := A1.out h1 h2
    have A1' := Lib.hid A1'
    have A2' := Lib.hid (A2.out h1 h2)
    have ws : IntKind.i64.wrap (x + h) = x + h := wrap_in _ ⟨by omega, by omega⟩
    have w4 : IntKind.i64.wrap (L2 - s) = L2 - s := wrap_in _ ⟨by omega, by omega⟩
    have w5 : IntKind.i64.wrap (H2 - s) = H2 - s := wrap_in _ ⟨by omega, by omega⟩
    clear A0 A1 A2
    go_wp2_with fail
    refine (A1'.out _ _ N5.out).mono ?_
    rintro e w82 ⟨rfl, h3⟩
    replace NV := Lib.hid ((NV.out.below h3).alloc (.cells #[.int .i64 L, .int .i64 H] 33))
    replace HB := Lib.hid ((bel_trans HB.out h3).alloc (bel_trans HB.out h3).size (.cells #[.int .i64 L, .int .i64 H] 33)); clear h3
    have T1 := Lib.hid (Two.new w82 (.int .i64 L) (.int .i64 H) 33)
    go_wp2_with fail
    refine (clone_p _ l _ NV.out hz.out).mono ?_
    rintro e w83 ⟨V7, rfl, hx, h3⟩
    replace T1 := Lib.hid (T1.out.below h3)
    replace HB := Lib.hid (bel_trans HB.out h3); clear h3
    have N7 := Lib.hid hx; clear hx
    go_wp2_with fail
    refine (A2'.out _ _ N7.out).mono ?_
    rintro e w84 ⟨rfl, h3⟩
    replace T1 := Lib.hid ((T1.out.below h3).alloc (.cells #[.int .i64 L2, .int .i64 H2] 33))
    replace HB := Lib.hid ((bel_trans HB.out h3).alloc (bel_trans HB.out h3).size (.cells #[.int .i64 L2, .int .i64 H2] 33)); clear h3
    have T2 := Lib.hid (Two.new w84 (.int .i64 L2) (.int .i64 H2) 33)
    obtain ⟨t0, t1, _, _, _⟩ := T1.out
    obtain ⟨s0, s1, _, _, _⟩ := T2.out
    go_wp2
    go_returns
    exact ⟨rfl, HB.out⟩
theorem walk (z : Value) (l : List (Int × Int)) (s h x : Int) (w : World) (hv : Pts w z l) (hs : -9223372036854775808 ≤ s ∧ s ≤ 9223372036854775807) (hh : -9223372036854775808 ≤ h ∧ h ≤ 9223372036854775807) (hx : -9223372036854775808 ≤ x ∧ x ≤ 9223372036854775807) :
    Calls Try.prog 8 #[z, .int .i64 s, .int .i64 h, .int .i64 x] w fun e w' => e = .returned (.bool true) ∧ Below w.heap.size w w' := by
  have hv2 := hv
  obtain ⟨a, cap, rfl, _, _⟩ := hv.shape
  by_cases hl : l.length ≤ 33
  · have FW : ∀ W, Below w.heap.size w W → Calls Try.prog 10 #[.slice a l.length cap] W fun e w' => e = .returned (.bool true) ∧ w' = W := fun W hW => by
      have := few_any _ l W (hv2.below hW)
      rwa [decide_eq_true hl] at this
    by_cases e : inE l s h = 0
    · obtain ⟨hR, bs, bh, he, Rw⟩ := inE_zero e
      have n0 := hR.n0
      have c1 := (ckE_iff l).2 hR
      have c2 := (ckE_iff _).2 Rw
      have n1 := Rw.n1
      have lst := in_last e
      have rE : inR l s h = inW l s h := by unfold inR; rw [if_pos e]
      refine good s h x (gX l (l.length - 1)) (rdL (inW l s h) x) (rdH (inW l s h) x) (rdL l (x + h)) (rdH l (x + h)) a l.length cap l (inW l s h) w (Lib.hid (by omega)) (Lib.hid (by omega)) hv2 (hR.bx _ (by omega)) bs bh (by omega) FW (fun v W hp => ?_) (fun v W hp => ?_) (fun v W hp => ?_) (fun g v W hp => ?_) (fun g1 g2 => ⟨?_, fun v W hp => ?_⟩) (fun g1 g2 v W hp => ?_)
      · have := in_any v l s h W hp hs hh
        rwa [e, rE] at this
      · have := len_any v l W hp
        unfold lgQ at this
        rwa [if_pos c1, c1] at this
      · have := len_any v _ W hp
        unfold lgQ at this
        rwa [if_pos c2, c2, lst] at this
      · have p : plE (inW l s h) x = 2 := by
          unfold plE
          rw [if_pos c2, lst, if_pos g]
        have q := at_none (l := inW l s h) (x := x) (by rw [p]; decide)
        have := At_any v _ x W hp
        rwa [p, q.1, q.2] at this
      · have r := in_rd e (x := x) (by omega) (by omega)
        have b := rdL_bd hR (x := x + h) (by omega) (by omega)
        refine ⟨r.1, r.2, ⟨by omega, by omega⟩, ⟨by omega, by omega⟩⟩
      · have p : plE (inW l s h) x = 0 := plE_zero.2 ⟨Rw, by omega, by rw [lst]; omega⟩
        have q := at_some p
        have := At_any v _ x W hp
        rwa [p, q.1, q.2] at this
      · have p : plE l (x + h) = 0 := plE_zero.2 ⟨hR, by omega, by omega⟩
        have q := at_some p
        have := At_any v l (x + h) W hp
        rwa [p, q.1, q.2] at this
    · refine bad s h x _ a l.length cap l w (Lib.hid (by omega)) hv2 (by simpa using e) (by simpa using e) FW (fun v W hp => ?_)
      have := in_any v l s h W hp hs hh
      unfold inR at this
      rwa [if_neg e] at this
  · refine long s h x a l.length cap w (Lib.hid fun W hW => ?_)
    have := few_any _ l W (hv2.below hW)
    rwa [decide_eq_false hl] at this

set_option maxRecDepth 100000 in
theorem lifted (os : Os) (started : os.Started) (H : Type) (enc : TypeId × Value → H) :
    ReturnsInHanded {} Try.checked os 8 .any (Rows.profileInnerSpec.pre6 enc Try.prog Try.f8 Rows.profileInnerRow.domain false) (Rows.profileInnerSpec.post enc Try.prog Try.f8 false true false false) := by
  refine returnsInHanded_of_change (C := Try.checked) own started (by kernel_rfl) Try.func8
    (ChangeSpec.witness6 (enc := enc) (C := Try.checked) false ⟨#[], #[.slice none 0 0, .int .i64 0, .int .i64 0, .int .i64 0], []⟩ 8 (by kernel_rfl) (by kernel_rfl) (by kernel_rfl) (by kernel_rfl)) ?_
  intro W base args ds gs before hval0 hW hcnd _
  have hval : ∀ (j : Nat) t v, Try.f8.params[j]? = some t → args[j]? = some v → Value.okWide Try.prog W .any base t v := hval0
  clear hval0
  have hW' := hW
  obtain ⟨p, q, hA0, hV, rfl, hfz, hnd⟩ := hW
  have hA : DataW.TrodAll enc Try.prog W 0 (fun _ => true) true Try.f8.params.toList args.toList ds p := hA0
  rw [Try.params8] at hA hval
  obtain ⟨v0, vs0, d0, ds0, p0, q0, hargs, rfl, rfl, h0, r0⟩ := trodAll_cons hA
  obtain ⟨v1, vs1, d1, ds1, p1, q1, rfl, rfl, rfl, h1, r1⟩ := trodAll_cons r0
  obtain ⟨v2, vs2, d2, ds2, p2, q2, rfl, rfl, rfl, h2, r2⟩ := trodAll_cons r1
  obtain ⟨v3, vs3, d3, ds3, p3, q3, rfl, rfl, rfl, h3, r3⟩ := trodAll_cons r2
  obtain ⟨rfl, rfl, rfl⟩ := trodAll_nil r3
  obtain rfl : args = #[v0, v1, v2, v3] := by cases args; simp_all
  obtain ⟨rfl, rfl⟩ := trodVars_none hV
  have k0 := h0
  have lt0 : ∀ x ∈ p0, x.block < W.heap.size := by obtain ⟨m, hm⟩ := k0; exact DataW.trod_lt m _ _ _ hm
  have k1 := h1
  have lt1 : ∀ x ∈ p1, x.block < W.heap.size := by obtain ⟨m, hm⟩ := k1; exact DataW.trod_lt m _ _ _ hm
  have k2 := h2
  have lt2 : ∀ x ∈ p2, x.block < W.heap.size := by obtain ⟨m, hm⟩ := k2; exact DataW.trod_lt m _ _ _ hm
  have k3 := h3
  have lt3 : ∀ x ∈ p3, x.block < W.heap.size := by obtain ⟨m, hm⟩ := k3; exact DataW.trod_lt m _ _ _ hm
  obtain ⟨z0, w0⟩ := open_pts (hval 0 22 v0 rfl rfl) h0
  obtain ⟨a1, rfl, rfl, rfl, w1⟩ := open_int Try.underlying3 (hval 1 3 v1 rfl rfl) h1
  obtain ⟨a2, rfl, rfl, rfl, w2⟩ := open_int Try.underlying3 (hval 2 3 v2 rfl rfl) h2
  obtain ⟨a3, rfl, rfl, rfl, w3⟩ := open_int Try.underlying3 (hval 3 3 v3 rfl rfl) h3
  clear hA0
  refine (walk v0 z0 a1 a2 a3 W w0 (wf_bd w1) (wf_bd w2) (wf_bd w3)).mono fun e W' ⟨he, bel⟩ => ?_
  subst he
  exact ⟨_, rfl, _, _, _, [], _, [], hW', trodAll_mk1 (shut_bool Try.underlying4 _), (trodAll_cons_mk (Below.trod laidOut (by kernel_rfl) (of_decide_eq_true (by kernel_rfl)) k0 bel lt0) (trodAll_cons_mk (Below.trod laidOut (by kernel_rfl) (of_decide_eq_true (by kernel_rfl)) k1 bel lt1) (trodAll_cons_mk (Below.trod laidOut (by kernel_rfl) (of_decide_eq_true (by kernel_rfl)) k2 bel lt2) (trodAll_cons_mk (Below.trod laidOut (by kernel_rfl) (of_decide_eq_true (by kernel_rfl)) k3 bel lt3) trodAll_mk0)))), rfl, bel.frame _, fun h => by cases h⟩

theorem over : Rows.profileInnerRow.holds Try.pinned (OpenSpec.ofChange Rows.profileInnerSpec) :=
  OpenClaim.holds_of_wide 8 Try.f8 rfl rfl rfl rfl rfl rfl rfl ⟨rfl, rfl, rfl, rfl, rfl⟩ rfl rfl rfl rfl rfl (by kernel_rfl) Try.func8 (by kernel_rfl)
    (of_decide_eq_true (by kernel_rfl)) (by unfold Func.isWrapper; first | (rw [if_pos (by decide +kernel)]; kernel_rfl) | (rw [if_neg (by decide +kernel)]; exact ⟨rfl, rfl⟩))
    (fun os started H enc _ => lifted os started H enc)

theorem proved : Rows.ProfileInnerSaid := over
#print axioms proved
end Go.Proofs.Ytlofblpfohnooab.profileInner
