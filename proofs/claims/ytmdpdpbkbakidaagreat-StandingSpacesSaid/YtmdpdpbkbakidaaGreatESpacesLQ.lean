/-
  The statement StandingSpaces of spile/spilelaw12 holds: for every input the call returns true, and each argument reads afterwards as it read before.
-/
import Derived.Test.YtmdpdpbkbakidaaGreatM2
import Derived.Test.YtmdpdpbkbakidaaGreatM4
import Derived.Below
import Derived.Carry
set_option linter.unusedVariables false
set_option linter.unusedSimpArgs false
namespace Go.Proofs.YtmdpdpbkbakidaaGreat.standingSpaces
open Go.ChangeShapes Go.WideShapes Go.ChangeAt Go.RowKit
open Go.ChangeMaps (open_string shut_string)
set_option linter.unusedVariables false

set_option maxHeartbeats 32000000 in
set_option maxRecDepth 100000 in
theorem core (L H E : Int) (a : Option Addr) (n cap : Nat) (c : Ck) (a2 : Option Addr) (n2 cap2 : Nat) (ps : List Int) (xs : List (Int × Int)) (w : World) (B1 : Bool)
    (KB : Hid (CkB w.heap.size (w.alloc (.cells #[.string c.nm, .int .i64 c.ps, .slice a n cap, .int .i64 c.dc] 24)) c)) (NP : Hid (Nums (w.alloc (.cells #[.string c.nm, .int .i64 c.ps, .slice a n cap, .int .i64 c.dc] 24)) (.slice a2 n2 cap2) ps))
    (hc : n = c.pf.length) (hpf : Hid (B1 = true → c.pf.length ≤ 1000)) (hps : Hid (B1 = true → ps.length ≤ 1000))
    (FW : Hid (∀ v u W, CkV W v c → Nums W u ps → Calls Tryz.prog 6 #[v, u] W fun e w' => e = .returned (.bool B1) ∧ Below W.heap.size W w'))
    (H1 : Hid (∀ v u W, CkV W v c → Nums W u ps → Calls Tryz.prog 7 #[v, u] W fun e w' => e = .returned (.tuple #[.agg #[.int .i64 L, .int .i64 H], .int .i64 E]) ∧ Below W.heap.size W w'))
    (R1 : Hid (∀ v u W, CkV W v c → Nums W u ps → Calls Tryz.prog 10 #[v, u] W fun e w' => e = .returned (.tuple #[.agg #[.int .i64 L, .int .i64 H], .int .i64 E]) ∧ Below W.heap.size W w'))
    (H2 : Hid (∀ v u W, CkV W v c → Nums W u ps → Calls Tryz.prog 11 #[v, u] W fun e w' => ∃ z, e = .returned (.tuple #[z, .int .i64 E]) ∧ Pts w' z xs ∧ Below W.heap.size W w'))
    (R2 : Hid (∀ v u W, CkV W v c → Nums W u ps → Calls Tryz.prog 12 #[v, u] W fun e w' => ∃ z, e = .returned (.tuple #[z, .int .i64 E]) ∧ Pts w' z xs ∧ Below W.heap.size W w'))
    (HE : Hid (∀ v u W, Pts W v xs → Pts W u xs → Calls Tryz.prog 13 #[v, u] W fun e w' => e = .returned (.bool true) ∧ Below W.heap.size W w')) :
    Calls Tryz.prog 3 #[.agg #[.string c.nm, .int .i64 c.ps, .slice a n cap, .int .i64 c.dc], .slice a2 n2 cap2] w fun e w' => e = .returned (.bool true) ∧ Below w.heap.size w w' := by
  subst hc
  have HA := Lib.hid (fun W => awake_any W)
  have Q1 : ∀ (p q : Int) W, (binOp .eql 29 (.agg #[.int .i64 p, .int .i64 q]) (.agg #[.int .i64 p, .int .i64 q])).run Tryz.prog W = .ok (.bool true) W := fun p q W => by rw [run_eql_bounds, show samB p q p q = true by simp [samB]]
  have HB := Lib.hid ((Below.refl w.heap.size w).alloc (Nat.le_refl _) (.cells #[.string c.nm, .int .i64 c.ps, .slice a c.pf.length cap, .int .i64 c.dc] 24))
  go_enter Tryz.func3, Tryz.ntmps3
  go_wp2_with fail
  refine (HA.out _).mono ?_
  rintro e w5 ⟨rfl, h1⟩
  replace HB := Lib.hid (bel_trans HB.out h1)
  replace NP := Lib.hid (NP.out.below h1)
  replace KB := Lib.hid (KB.out.below h1); clear h1
  obtain ⟨a4, cap4, c0, c1, c2, c3, kv⟩ := KB.out.val
  have FO := Lib.hid (FW.out _ _ w5 kv NP.out)
  clear kv
  generalize hL : c.pf.length = LN at *
  go_wp2_with fail
  refine FO.out.mono ?_
  rintro e w6 ⟨rfl, h1⟩
  replace HB := Lib.hid (bel_trans HB.out h1)
  replace NP := Lib.hid (NP.out.below h1)
  replace KB := Lib.hid (KB.out.below h1); clear h1
  clear FO c0 c1 c2 c3
  cases B1 with
  | false =>
    go_wp2
    go_returns
    exact ⟨rfl, HB.out⟩
  | true =>
    have OW : Hid (∀ v W, CkV W v c → Calls Tryz.prog 8 #[v] W fun e w' => ∃ u, e = .returned u ∧ CkV w' u c ∧ Below W.heap.size W w') := Lib.hid fun v W h => own_any v c W h (by rw [hL]; exact hpf.out rfl)
    have CW : Hid (∀ W, Nums W (.slice a2 n2 cap2) ps → Calls Tryz.prog 9 #[.slice a2 n2 cap2] W fun e w' => ∃ u, e = .returned u ∧ Nums w' u ps ∧ Below W.heap.size W w') := Lib.hid fun W h => clone_nums _ ps W h (hps.out rfl)
    obtain ⟨a4, cap4, c0, c1, c2, c3, kv⟩ := KB.out.val
    rw [hL] at c2 kv
    go_wp2_with fail
    refine (OW.out _ _ kv).mono ?_
    rintro e w3 ⟨V1, rfl, hx, h1⟩
    replace KB := Lib.hid (KB.out.below h1)
    replace NP := Lib.hid (NP.out.below h1)
    replace HB := Lib.hid (bel_trans HB.out h1); clear h1
    have N1 := Lib.hid hx; clear hx
    clear c0 c1 c2 c3 kv
    go_wp2_with fail
    refine (CW.out _ NP.out).mono ?_
    rintro e w4 ⟨V2, rfl, hx, h1⟩
    replace KB := Lib.hid (KB.out.below h1)
    replace NP := Lib.hid (NP.out.below h1)
    replace N1 := Lib.hid (N1.out.below h1)
    replace HB := Lib.hid (bel_trans HB.out h1); clear h1
    have N2 := Lib.hid hx; clear hx
    go_wp2_with fail
    refine (H1.out _ _ _ N1.out N2.out).mono ?_
    rintro e w5 ⟨rfl, h1⟩
    replace KB := Lib.hid ((KB.out.below h1).alloc (.cells #[.int .i64 L, .int .i64 H] 29))
    replace NP := Lib.hid ((NP.out.below h1).alloc (.cells #[.int .i64 L, .int .i64 H] 29))
    replace N1 := Lib.hid ((N1.out.below h1).alloc (.cells #[.int .i64 L, .int .i64 H] 29))
    replace N2 := Lib.hid ((N2.out.below h1).alloc (.cells #[.int .i64 L, .int .i64 H] 29))
    replace HB := Lib.hid ((bel_trans HB.out h1).alloc (bel_trans HB.out h1).size (.cells #[.int .i64 L, .int .i64 H] 29)); clear h1
    have T1 := Lib.hid (Two.new w5 (.int .i64 L) (.int .i64 H) 29)
    clear N1 N2
    obtain ⟨a5, cap5, c0, c1, c2, c3, kv⟩ := KB.out.val
    rw [hL] at c2 kv
    go_wp2_with fail
    refine (R1.out _ _ _ kv NP.out).mono ?_
    rintro e w7 ⟨rfl, h1⟩
    replace KB := Lib.hid ((KB.out.below h1).alloc (.cells #[.int .i64 L, .int .i64 H] 29))
    replace NP := Lib.hid ((NP.out.below h1).alloc (.cells #[.int .i64 L, .int .i64 H] 29))
    replace T1 := Lib.hid ((T1.out.below h1).alloc (.cells #[.int .i64 L, .int .i64 H] 29))
    replace HB := Lib.hid ((bel_trans HB.out h1).alloc (bel_trans HB.out h1).size (.cells #[.int .i64 L, .int .i64 H] 29)); clear h1
    have T2 := Lib.hid (Two.new w7 (.int .i64 L) (.int .i64 H) 29)
    clear c0 c1 c2 c3 kv
    obtain ⟨a6, cap6, c0, c1, c2, c3, kv⟩ := KB.out.val
    rw [hL] at c2 kv
    go_wp2_with fail
    refine (OW.out _ _ kv).mono ?_
    rintro e w8 ⟨V4, rfl, hx, h1⟩
    replace KB := Lib.hid (KB.out.below h1)
    replace NP := Lib.hid (NP.out.below h1)
    replace T1 := Lib.hid (T1.out.below h1)
    replace T2 := Lib.hid (T2.out.below h1)
    replace HB := Lib.hid (bel_trans HB.out h1); clear h1
    have N4 := Lib.hid hx; clear hx
    clear c0 c1 c2 c3 kv
    go_wp2_with fail
    refine (CW.out _ NP.out).mono ?_
    rintro e w9 ⟨V5, rfl, hx, h1⟩
    replace KB := Lib.hid (KB.out.below h1)
    replace NP := Lib.hid (NP.out.below h1)
    replace T1 := Lib.hid (T1.out.below h1)
    replace T2 := Lib.hid (T2.out.below h1)
    replace N4 := Lib.hid (N4.out.below h1)
    replace HB := Lib.hid (bel_trans HB.out h1); clear h1
    have N5 := Lib.hid hx; clear hx
    go_wp2_with fail
    refine (H2.out _ _ _ N4.out N5.out).mono ?_
    rintro e w10 ⟨X1, rfl, hx, h1⟩
    replace KB := Lib.hid (KB.out.below h1)
    replace NP := Lib.hid (NP.out.below h1)
    replace T1 := Lib.hid (T1.out.below h1)
    replace T2 := Lib.hid (T2.out.below h1)
    replace N4 := Lib.hid (N4.out.below h1)
    replace N5 := Lib.hid (N5.out.below h1)
    replace HB := Lib.hid (bel_trans HB.out h1); clear h1
    have NX := Lib.hid hx; clear hx
    clear N4 N5
    obtain ⟨a7, cap7, c0, c1, c2, c3, kv⟩ := KB.out.val
    rw [hL] at c2 kv
    go_wp2_with fail
    refine (R2.out _ _ _ kv NP.out).mono ?_
    rintro e w12 ⟨X2, rfl, hx, h1⟩
    replace KB := Lib.hid (KB.out.below h1)
    replace NP := Lib.hid (NP.out.below h1)
    replace T1 := Lib.hid (T1.out.below h1)
    replace T2 := Lib.hid (T2.out.below h1)
    replace NX := Lib.hid (NX.out.below h1)
    replace HB := Lib.hid (bel_trans HB.out h1); clear h1
    have NY := Lib.hid hx; clear hx
    clear c0 c1 c2 c3 kv
    have he1 : (E == E) = true := by simp
    obtain ⟨T10, T11, T12, T13, T14⟩ := T1.out
    obtain ⟨T20, T21, T22, T23, T24⟩ := T2.out
    go_wp2_with fail
    refine (HE.out _ _ _ NX.out NY.out).mono ?_
    rintro e w14 ⟨rfl, h1⟩
    replace KB := Lib.hid (KB.out.below h1)
    replace NP := Lib.hid (NP.out.below h1)
    replace T1 := Lib.hid (T1.out.below h1)
    replace T2 := Lib.hid (T2.out.below h1)
    replace NX := Lib.hid (NX.out.below h1)
    replace NY := Lib.hid (NY.out.below h1)
    replace HB := Lib.hid (bel_trans HB.out h1); clear h1
    go_wp2
    go_returns
    exact ⟨rfl, HB.out⟩
theorem walk (z : Value) (c : Ck) (u : Value) (ps : List Int) (w : World) (hv : CkV w z c) (hu : Nums w u ps) (hz : ∀ z ∈ ps, (Lit.int .i64 z).wf = true) :
    Calls Tryz.prog 3 #[z, u] w fun e w' => e = .returned (.bool true) ∧ Below w.heap.size w w' := by
  obtain ⟨a, cap, rfl, hp, hw⟩ := hv
  have KB := Lib.hid (CkB.new hp hw)
  have hu' := hu
  obtain ⟨a2, cap2, rfl, hc2, _⟩ := hu'
  have fw : (fewC c && decide (ps.length ≤ 129)) = true → c.pf.length ≤ 1000 ∧ ps.length ≤ 1000 := fun h => by
    rw [Bool.and_eq_true, decide_eq_true_eq] at h
    have h1 := fewC_pf h.1
    omega
  refine core (bwL c ps) (bwH c ps) (stE c ps) a _ cap c a2 _ cap2 ps (smL c ps) w (fewC c && decide (ps.length ≤ 129)) KB (Lib.hid (hu.below (bel_alloc (Below.refl _ _)))) rfl (Lib.hid fun h => (fw h).1) (Lib.hid fun h => (fw h).2) (Lib.hid fun v u W h1 h2 => fewE_any v u c ps W h1 h2) (Lib.hid fun v u W h1 h2 => stBw_any v u c ps W h1 h2) (Lib.hid fun v u W h1 h2 => rstBw_any v u c ps W h1 h2) (Lib.hid fun v u W h1 h2 => stSm_any v u c ps W h1 h2) (Lib.hid fun v u W h1 h2 => rstSm_any v u c ps W h1 h2) (Lib.hid fun v u W h1 h2 => ?_)
  have := eqB_any v u _ _ W h1 h2
  simpa using this

set_option maxRecDepth 100000 in
theorem lifted (os : Os) (started : os.Started) (H : Type) (enc : TypeId × Value → H) :
    ReturnsInHanded {} Tryz.checked os 3 .any (Rows.standingSpacesSpec.pre6 enc Tryz.prog Tryz.f3 Rows.standingSpacesRow.domain false) (Rows.standingSpacesSpec.post enc Tryz.prog Tryz.f3 false true false false) := by
  refine returnsInHanded_of_change (C := Tryz.checked) own started (by kernel_rfl) Tryz.func3
    (ChangeSpec.witness6 (enc := enc) (C := Tryz.checked) false ⟨#[], #[.agg #[.string ByteArray.empty, .int .i64 0, .slice none 0 0, .int .i64 0], .slice none 0 0], []⟩ 8 (by kernel_rfl) (by kernel_rfl) (by kernel_rfl) (by kernel_rfl)) ?_
  intro W base args ds gs before hval0 hW hcnd _
  have hval : ∀ (j : Nat) t v, Tryz.f3.params[j]? = some t → args[j]? = some v → Value.okWide Tryz.prog W .any base t v := hval0
  clear hval0
  have hW' := hW
  obtain ⟨p, q, hA0, hV, rfl, hfz, hnd⟩ := hW
  have hA : DataW.TrodAll enc Tryz.prog W 0 (fun _ => true) true Tryz.f3.params.toList args.toList ds p := hA0
  rw [Tryz.params3] at hA hval
  obtain ⟨v0, vs0, d0, ds0, p0, q0, hargs, rfl, rfl, h0, r0⟩ := trodAll_cons hA
  obtain ⟨v1, vs1, d1, ds1, p1, q1, rfl, rfl, rfl, h1, r1⟩ := trodAll_cons r0
  obtain ⟨rfl, rfl, rfl⟩ := trodAll_nil r1
  obtain rfl : args = #[v0, v1] := by cases args; simp_all
  obtain ⟨rfl, rfl⟩ := trodVars_none hV
  have k0 := h0
  have lt0 : ∀ x ∈ p0, x.block < W.heap.size := by obtain ⟨m, hm⟩ := k0; exact DataW.trod_lt m _ _ _ hm
  have k1 := h1
  have lt1 : ∀ x ∈ p1, x.block < W.heap.size := by obtain ⟨m, hm⟩ := k1; exact DataW.trod_lt m _ _ _ hm
  obtain ⟨z0, w0⟩ := open_ck (hval 0 24 v0 rfl rfl) h0
  obtain ⟨z1, w1, b1⟩ := open_intSlice Tryz.underlying25 Tryz.underlying3 (by kernel_rfl) (hval 1 25 v1 rfl rfl) h1
  clear hA0
  refine (walk v0 z0 v1 z1 W w0 w1 b1).mono fun e W' ⟨he, bel⟩ => ?_
  subst he
  exact ⟨_, rfl, _, _, _, [], _, [], hW', trodAll_mk1 (shut_bool Tryz.underlying4 _), (trodAll_cons_mk (Below.trod laidOut (by kernel_rfl) (of_decide_eq_true (by kernel_rfl)) k0 bel lt0) (trodAll_cons_mk (Below.trod laidOut (by kernel_rfl) (of_decide_eq_true (by kernel_rfl)) k1 bel lt1) trodAll_mk0)), rfl, bel.frame _, fun h => by cases h⟩

theorem over : Rows.standingSpacesRow.holds Tryz.pinned (OpenSpec.ofChange Rows.standingSpacesSpec) :=
  OpenClaim.holds_of_wide 3 Tryz.f3 rfl rfl rfl rfl rfl rfl rfl ⟨rfl, rfl, rfl, rfl, rfl⟩ rfl rfl rfl rfl rfl (by kernel_rfl) Tryz.func3 (by kernel_rfl)
    (of_decide_eq_true (by kernel_rfl)) (by unfold Func.isWrapper; first | (rw [if_pos (by decide +kernel)]; kernel_rfl) | (rw [if_neg (by decide +kernel)]; exact ⟨rfl, rfl⟩))
    (fun os started H enc _ => lifted os started H enc)

theorem proved : Rows.StandingSpacesSaid := over
#print axioms proved
end Go.Proofs.YtmdpdpbkbakidaaGreat.standingSpaces

