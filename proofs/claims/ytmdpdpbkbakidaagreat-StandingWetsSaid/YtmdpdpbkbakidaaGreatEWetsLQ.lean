/-
  The statement StandingWets of spile/spilelaw12 holds: for every input the call returns true, and each argument reads afterwards as it read before.
-/
import Derived.Test.YtmdpdpbkbakidaaGreatM2
import Derived.Test.YtmdpdpbkbakidaaGreatM4
import Derived.Below
import Derived.Carry
set_option linter.unusedVariables false
set_option linter.unusedSimpArgs false
namespace Go.Proofs.YtmdpdpbkbakidaaGreat.standingWets
open Go.ChangeShapes Go.WideShapes Go.ChangeAt Go.RowKit
open Go.ChangeMaps (open_string shut_string)
set_option linter.unusedVariables false

set_option maxHeartbeats 32000000 in
set_option maxRecDepth 100000 in
theorem core (dip nn L H E : Int) (a : Option Addr) (n cap : Nat) (c : Ck) (w : World) (B1 : Bool)
    (KB : Hid (CkB w.heap.size (w.alloc (.cells #[.string c.nm, .int .i64 c.ps, .slice a n cap, .int .i64 c.dc] 24)) c)) (hc : n = c.pf.length) (hpf : Hid (B1 = true → c.pf.length ≤ 1000))
    (FW : Hid (∀ v u W, CkV W v c → Nums W u [] → Calls Tryz.prog 6 #[v, u] W fun e w' => e = .returned (.bool B1) ∧ Below W.heap.size W w'))
    (H1 : Hid (∀ v W, CkV W v c → Calls Tryz.prog 14 #[v, .int .i64 dip, .int .i64 nn] W fun e w' => e = .returned (.tuple #[.agg #[.int .i64 L, .int .i64 H], .int .i64 E]) ∧ Below W.heap.size W w'))
    (R1 : Hid (∀ v W, CkV W v c → Calls Tryz.prog 15 #[v, .int .i64 dip, .int .i64 nn] W fun e w' => e = .returned (.tuple #[.agg #[.int .i64 L, .int .i64 H], .int .i64 E]) ∧ Below W.heap.size W w')) :
    Calls Tryz.prog 4 #[.agg #[.string c.nm, .int .i64 c.ps, .slice a n cap, .int .i64 c.dc], .int .i64 dip, .int .i64 nn] w fun e w' => e = .returned (.bool true) ∧ Below w.heap.size w w' := by
  subst hc
  have HA := Lib.hid (fun W => awake_any W)
  have Q1 : ∀ (p q : Int) W, (binOp .eql 29 (.agg #[.int .i64 p, .int .i64 q]) (.agg #[.int .i64 p, .int .i64 q])).run Tryz.prog W = .ok (.bool true) W := fun p q W => by rw [run_eql_bounds, show samB p q p q = true by simp [samB]]
  have HB := Lib.hid ((Below.refl w.heap.size w).alloc (Nat.le_refl _) (.cells #[.string c.nm, .int .i64 c.ps, .slice a c.pf.length cap, .int .i64 c.dc] 24))
  go_enter Tryz.func4, Tryz.ntmps4
  go_wp2_with fail
  refine (HA.out _).mono ?_
  rintro e w5 ⟨rfl, h1⟩
  replace HB := Lib.hid (bel_trans HB.out h1)
  replace KB := Lib.hid (KB.out.below h1); clear h1
  obtain ⟨a2, cap2, c0, c1, c2, c3, kv⟩ := KB.out.val
  have FO := Lib.hid (FW.out _ _ w5 kv ⟨none, 0, rfl, by simp, .inl rfl⟩)
  clear kv
  generalize hL : c.pf.length = LN at *
  go_wp2_with fail
  refine (FO.out).mono ?_
  rintro e w3 ⟨rfl, h1⟩
  replace KB := Lib.hid (KB.out.below h1)
  replace HB := Lib.hid (bel_trans HB.out h1); clear h1
  clear FO c0 c1 c2 c3
  cases B1 with
  | false =>
    go_wp2
    go_returns
    exact ⟨rfl, HB.out⟩
  | true =>
    have OW : Hid (∀ v W, CkV W v c → Calls Tryz.prog 8 #[v] W fun e w' => ∃ u, e = .returned u ∧ CkV w' u c ∧ Below W.heap.size W w') := Lib.hid fun v W h => own_any v c W h (by rw [hL]; exact hpf.out rfl)
    obtain ⟨a3, cap3, c0, c1, c2, c3, kv⟩ := KB.out.val
    rw [hL] at c2 kv
    go_wp2_with fail
    refine (OW.out _ _ kv).mono ?_
    rintro e w4 ⟨V1, rfl, hx, h1⟩
    replace KB := Lib.hid (KB.out.below h1)
    replace HB := Lib.hid (bel_trans HB.out h1); clear h1
    have N1 := Lib.hid hx; clear hx
    clear c0 c1 c2 c3 kv
    go_wp2_with fail
    refine (H1.out _ _ N1.out).mono ?_
    rintro e w5 ⟨rfl, h1⟩
    replace KB := Lib.hid ((KB.out.below h1).alloc (.cells #[.int .i64 L, .int .i64 H] 29))
    replace N1 := Lib.hid ((N1.out.below h1).alloc (.cells #[.int .i64 L, .int .i64 H] 29))
    replace HB := Lib.hid ((bel_trans HB.out h1).alloc (bel_trans HB.out h1).size (.cells #[.int .i64 L, .int .i64 H] 29)); clear h1
    have T1 := Lib.hid (Two.new w5 (.int .i64 L) (.int .i64 H) 29)
    clear N1
    obtain ⟨a4, cap4, c0, c1, c2, c3, kv⟩ := KB.out.val
    rw [hL] at c2 kv
    go_wp2_with fail
    refine (R1.out _ _ kv).mono ?_
    rintro e w7 ⟨rfl, h1⟩
    replace KB := Lib.hid ((KB.out.below h1).alloc (.cells #[.int .i64 L, .int .i64 H] 29))
    replace T1 := Lib.hid ((T1.out.below h1).alloc (.cells #[.int .i64 L, .int .i64 H] 29))
    replace HB := Lib.hid ((bel_trans HB.out h1).alloc (bel_trans HB.out h1).size (.cells #[.int .i64 L, .int .i64 H] 29)); clear h1
    have T2 := Lib.hid (Two.new w7 (.int .i64 L) (.int .i64 H) 29)
    clear c0 c1 c2 c3 kv
    obtain ⟨T10, T11, T12, T13, T14⟩ := T1.out
    obtain ⟨T20, T21, T22, T23, T24⟩ := T2.out
    have he1 : (E == E) = true := by simp
    go_wp2
    go_returns
    exact ⟨rfl, HB.out⟩
theorem walk (z : Value) (c : Ck) (dip n : Int) (w : World) (hv : CkV w z c) (hdp : -9223372036854775808 ≤ dip ∧ dip ≤ 9223372036854775807) (hn : -9223372036854775808 ≤ n ∧ n ≤ 9223372036854775807) :
    Calls Tryz.prog 4 #[z, .int .i64 dip, .int .i64 n] w fun e w' => e = .returned (.bool true) ∧ Below w.heap.size w w' := by
  obtain ⟨a, cap, rfl, hp, hw⟩ := hv
  have KB := Lib.hid (CkB.new hp hw)
  refine core dip n (swL c dip n) (swH c dip n) (swE c dip n) a _ cap c w (fewC c && decide (([] : List Int).length ≤ 129)) KB rfl (Lib.hid fun h => ?_) (Lib.hid fun v u W h1 h2 => fewE_any v u c [] W h1 h2) (Lib.hid fun v W h => stWt_any v c dip n W h) (Lib.hid fun v W h => rstWt_any v c dip n W h)
  rw [Bool.and_eq_true] at h
  have := fewC_pf h.1
  omega

set_option maxRecDepth 100000 in
theorem lifted (os : Os) (started : os.Started) (H : Type) (enc : TypeId × Value → H) :
    ReturnsInHanded {} Tryz.checked os 4 .any (Rows.standingWetsSpec.pre6 enc Tryz.prog Tryz.f4 Rows.standingWetsRow.domain false) (Rows.standingWetsSpec.post enc Tryz.prog Tryz.f4 false true false false) := by
  refine returnsInHanded_of_change (C := Tryz.checked) own started (by kernel_rfl) Tryz.func4
    (ChangeSpec.witness6 (enc := enc) (C := Tryz.checked) false ⟨#[], #[.agg #[.string ByteArray.empty, .int .i64 0, .slice none 0 0, .int .i64 0], .int .i64 0, .int .i64 0], []⟩ 8 (by kernel_rfl) (by kernel_rfl) (by kernel_rfl) (by kernel_rfl)) ?_
  intro W base args ds gs before hval0 hW hcnd _
  have hval : ∀ (j : Nat) t v, Tryz.f4.params[j]? = some t → args[j]? = some v → Value.okWide Tryz.prog W .any base t v := hval0
  clear hval0
  have hW' := hW
  obtain ⟨p, q, hA0, hV, rfl, hfz, hnd⟩ := hW
  have hA : DataW.TrodAll enc Tryz.prog W 0 (fun _ => true) true Tryz.f4.params.toList args.toList ds p := hA0
  rw [Tryz.params4] at hA hval
  obtain ⟨v0, vs0, d0, ds0, p0, q0, hargs, rfl, rfl, h0, r0⟩ := trodAll_cons hA
  obtain ⟨v1, vs1, d1, ds1, p1, q1, rfl, rfl, rfl, h1, r1⟩ := trodAll_cons r0
  obtain ⟨v2, vs2, d2, ds2, p2, q2, rfl, rfl, rfl, h2, r2⟩ := trodAll_cons r1
  obtain ⟨rfl, rfl, rfl⟩ := trodAll_nil r2
  obtain rfl : args = #[v0, v1, v2] := by cases args; simp_all
  obtain ⟨rfl, rfl⟩ := trodVars_none hV
  have k0 := h0
  have lt0 : ∀ x ∈ p0, x.block < W.heap.size := by obtain ⟨m, hm⟩ := k0; exact DataW.trod_lt m _ _ _ hm
  have k1 := h1
  have lt1 : ∀ x ∈ p1, x.block < W.heap.size := by obtain ⟨m, hm⟩ := k1; exact DataW.trod_lt m _ _ _ hm
  have k2 := h2
  have lt2 : ∀ x ∈ p2, x.block < W.heap.size := by obtain ⟨m, hm⟩ := k2; exact DataW.trod_lt m _ _ _ hm
  obtain ⟨z0, w0⟩ := open_ck (hval 0 24 v0 rfl rfl) h0
  obtain ⟨a1, rfl, rfl, rfl, w1⟩ := open_int Tryz.underlying3 (hval 1 3 v1 rfl rfl) h1
  obtain ⟨a2, rfl, rfl, rfl, w2⟩ := open_int Tryz.underlying3 (hval 2 3 v2 rfl rfl) h2
  clear hA0
  refine (walk v0 z0 a1 a2 W w0 (wf_bd w1) (wf_bd w2)).mono fun e W' ⟨he, bel⟩ => ?_
  subst he
  exact ⟨_, rfl, _, _, _, [], _, [], hW', trodAll_mk1 (shut_bool Tryz.underlying4 _), (trodAll_cons_mk (Below.trod laidOut (by kernel_rfl) (of_decide_eq_true (by kernel_rfl)) k0 bel lt0) (trodAll_cons_mk (Below.trod laidOut (by kernel_rfl) (of_decide_eq_true (by kernel_rfl)) k1 bel lt1) (trodAll_cons_mk (Below.trod laidOut (by kernel_rfl) (of_decide_eq_true (by kernel_rfl)) k2 bel lt2) trodAll_mk0))), rfl, bel.frame _, fun h => by cases h⟩

theorem over : Rows.standingWetsRow.holds Tryz.pinned (OpenSpec.ofChange Rows.standingWetsSpec) :=
  OpenClaim.holds_of_wide 4 Tryz.f4 rfl rfl rfl rfl rfl rfl rfl ⟨rfl, rfl, rfl, rfl, rfl⟩ rfl rfl rfl rfl rfl (by kernel_rfl) Tryz.func4 (by kernel_rfl)
    (of_decide_eq_true (by kernel_rfl)) (by unfold Func.isWrapper; first | (rw [if_pos (by decide +kernel)]; kernel_rfl) | (rw [if_neg (by decide +kernel)]; exact ⟨rfl, rfl⟩))
    (fun os started H enc _ => lifted os started H enc)

theorem proved : Rows.StandingWetsSaid := over
#print axioms proved
end Go.Proofs.YtmdpdpbkbakidaaGreat.standingWets

