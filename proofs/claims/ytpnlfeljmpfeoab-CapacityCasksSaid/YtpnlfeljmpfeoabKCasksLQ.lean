/-
  The statement CapacityCasks of spile/spilelaw10 holds: for every input the call returns true, and each argument reads afterwards as it read before.
-/
import Derived.Test.YtpnlfeljmpfeoabM3
import Derived.Below
import Derived.Carry
namespace Go.Proofs.Ytpnlfeljmpfeoab.capacityCasks
open Go.ChangeShapes Go.WideShapes Go.ChangeAt Go.RowKit
open Go.ChangeMaps (open_string shut_string)
set_option linter.unusedVariables false

set_option maxHeartbeats 32000000 in
set_option maxRecDepth 100000 in
theorem core (nm : ByteArray) (ps dc t y L H E A E2 R S E3 : Int) (a : Option Addr) (n cap : Nat) (c : Ck) (w : World) (B1 : Bool)
    (KB : Hid (CkB w.heap.size (w.alloc (.cells #[.string nm, .int .i64 ps, .slice a n cap, .int .i64 dc] 36)) c)) (hc : nm = c.nm ∧ ps = c.ps ∧ n = c.pf.length ∧ dc = c.dc) (hpf : Hid (B1 = true → c.pf.length ≤ 1000))
    (FW : Hid (fewB [c] = B1))
    (H1 : Hid (∀ v W, CkV W v c → Calls Try.prog 20 #[v] W fun e w' => e = .returned (.tuple #[.agg #[.int .i64 L, .int .i64 H], .int .i64 E]) ∧ Below W.heap.size W w'))
    (R1 : Hid (∀ v W, CkV W v c → Calls Try.prog 21 #[v] W fun e w' => e = .returned (.tuple #[.agg #[.int .i64 L, .int .i64 H], .int .i64 E]) ∧ Below W.heap.size W w'))
    (H2 : Hid (∀ v W, CkV W v c → Calls Try.prog 22 #[v, .int .i64 t] W fun e w' => e = .returned (.tuple #[.int .i64 A, .int .i64 E2]) ∧ Below W.heap.size W w'))
    (R2 : Hid (∀ v W, CkV W v c → Calls Try.prog 23 #[v, .int .i64 t] W fun e w' => e = .returned (.tuple #[.int .i64 A, .int .i64 E2]) ∧ Below W.heap.size W w'))
    (H3 : Hid (∀ v W, CkV W v c → Calls Try.prog 24 #[v, .int .i64 y] W fun e w' => e = .returned (.tuple #[.agg #[.int .i64 R, .int .i64 S], .int .i64 E3]) ∧ Below W.heap.size W w'))
    (R3 : Hid (∀ v W, CkV W v c → Calls Try.prog 25 #[v, .int .i64 y] W fun e w' => e = .returned (.tuple #[.agg #[.int .i64 R, .int .i64 S], .int .i64 E3]) ∧ Below W.heap.size W w')) :
    Calls Try.prog 4 #[.agg #[.string nm, .int .i64 ps, .slice a n cap, .int .i64 dc], .int .i64 t, .int .i64 y] w fun e w' => e = .returned (.bool true) ∧ Below w.heap.size w w' := by
  obtain ⟨rfl, rfl, rfl, rfl⟩ := hc
  have HA := Lib.hid (fun W => awake_any W)
  have Q1 : ∀ (p q : Int) W, (binOp .eql 32 (.agg #[.int .i64 p, .int .i64 q]) (.agg #[.int .i64 p, .int .i64 q])).run Try.prog W = .ok (.bool true) W := fun p q W => by rw [run_eql_bounds, show samB p q p q = true by simp [samB]]
  have HB := Lib.hid ((Below.refl w.heap.size w).alloc (Nat.le_refl _) (.cells #[.string c.nm, .int .i64 c.ps, .slice a c.pf.length cap, .int .i64 c.dc] 36))
  go_enter Try.func4, Try.ntmps4
  go_wp2_with fail
  refine (HA.out _).mono ?_
  rintro e w5 ⟨rfl, h1⟩
  replace HB := Lib.hid (bel_trans HB.out h1)
  replace KB := Lib.hid (KB.out.below h1); clear h1
  obtain ⟨a2, cap2, c0, c1, c2, c3, kv⟩ := KB.out.val
  obtain ⟨a3, cap3, e3, kp, kw⟩ := kv
  simp only [Value.agg.injEq, Array.mk.injEq, List.cons.injEq, Value.slice.injEq, and_true, true_and] at e3
  obtain ⟨rfl, rfl⟩ := e3
  have FO := Lib.hid (refFew_any _ [c] _ (cks_one kp kw))
  rw [FW.out] at FO
  clear kp kw
  have K2 := Lib.hid (KB.out.alloc (.cells #[.string c.nm, .int .i64 c.ps, .slice a2 c.pf.length cap2, .int .i64 c.dc] 36))
  replace HB := Lib.hid (HB.out.alloc HB.out.size (.cells #[.string c.nm, .int .i64 c.ps, .slice a2 c.pf.length cap2, .int .i64 c.dc] 36))
  clear KB
  generalize hL : c.pf.length = LN at *
  go_wp2_with fail
  refine FO.out.mono ?_
  rintro e w90 ⟨rfl, hw⟩
  subst hw
  clear FO c0 c1 c2 c3
  cases B1 with
  | false =>
    go_wp2
    go_returns
    exact ⟨rfl, HB.out⟩
  | true =>
    have OW : Hid (∀ W, CkB w.heap.size W c → Calls Try.prog 18 #[.pointer (some ⟨w.heap.size, 0, none⟩)] W fun e w' => ∃ v, e = .returned v ∧ CkV w' v c ∧ Below W.heap.size W w') := Lib.hid fun W h => own_ccs w.heap.size c W h (by rw [hL]; exact hpf.out rfl)
    go_wp2_with fail
    refine (OW.out _ K2.out).mono ?_
    rintro e w3 ⟨V1, rfl, hx, h1⟩
    replace K2 := Lib.hid (K2.out.below h1)
    replace HB := Lib.hid (bel_trans HB.out h1); clear h1
    have N1 := Lib.hid hx; clear hx
    go_wp2_with fail
    refine (H1.out _ _ N1.out).mono ?_
    rintro e w4 ⟨rfl, h1⟩
    replace K2 := Lib.hid ((K2.out.below h1).alloc (.cells #[.int .i64 L, .int .i64 H] 32))
    replace N1 := Lib.hid ((N1.out.below h1).alloc (.cells #[.int .i64 L, .int .i64 H] 32))
    replace HB := Lib.hid ((bel_trans HB.out h1).alloc (bel_trans HB.out h1).size (.cells #[.int .i64 L, .int .i64 H] 32)); clear h1
    have T1 := Lib.hid (Two.new w4 (.int .i64 L) (.int .i64 H) 32)
    clear N1
    obtain ⟨a4, cap4, c0, c1, c2, c3, kv⟩ := K2.out.val
    rw [hL] at c2 kv
    go_wp2_with fail
    refine (R1.out _ _ kv).mono ?_
    rintro e w6 ⟨rfl, h1⟩
    replace K2 := Lib.hid ((K2.out.below h1).alloc (.cells #[.int .i64 L, .int .i64 H] 32))
    replace T1 := Lib.hid ((T1.out.below h1).alloc (.cells #[.int .i64 L, .int .i64 H] 32))
    replace HB := Lib.hid ((bel_trans HB.out h1).alloc (bel_trans HB.out h1).size (.cells #[.int .i64 L, .int .i64 H] 32)); clear h1
    have T2 := Lib.hid (Two.new w6 (.int .i64 L) (.int .i64 H) 32)
    clear c0 c1 c2 c3 kv
    go_wp2_with fail
    refine (OW.out _ K2.out).mono ?_
    rintro e w7 ⟨V2, rfl, hx, h1⟩
    replace K2 := Lib.hid (K2.out.below h1)
    replace T1 := Lib.hid (T1.out.below h1)
    replace T2 := Lib.hid (T2.out.below h1)
    replace HB := Lib.hid (bel_trans HB.out h1); clear h1
    have N2 := Lib.hid hx; clear hx
    go_wp2_with fail
    refine (H2.out _ _ N2.out).mono ?_
    rintro e w8 ⟨rfl, h1⟩
    replace K2 := Lib.hid (K2.out.below h1)
    replace T1 := Lib.hid (T1.out.below h1)
    replace T2 := Lib.hid (T2.out.below h1)
    replace N2 := Lib.hid (N2.out.below h1)
    replace HB := Lib.hid (bel_trans HB.out h1); clear h1
    clear N2
    obtain ⟨a5, cap5, c0, c1, c2, c3, kv⟩ := K2.out.val
    rw [hL] at c2 kv
    go_wp2_with fail
    refine (R2.out _ _ kv).mono ?_
    rintro e w10 ⟨rfl, h1⟩
    replace K2 := Lib.hid (K2.out.below h1)
    replace T1 := Lib.hid (T1.out.below h1)
    replace T2 := Lib.hid (T2.out.below h1)
    replace HB := Lib.hid (bel_trans HB.out h1); clear h1
    clear c0 c1 c2 c3 kv
    go_wp2_with fail
    refine (OW.out _ K2.out).mono ?_
    rintro e w11 ⟨V3, rfl, hx, h1⟩
    replace K2 := Lib.hid (K2.out.below h1)
    replace T1 := Lib.hid (T1.out.below h1)
    replace T2 := Lib.hid (T2.out.below h1)
    replace HB := Lib.hid (bel_trans HB.out h1); clear h1
    have N3 := Lib.hid hx; clear hx
    go_wp2_with fail
    refine (H3.out _ _ N3.out).mono ?_
    rintro e w12 ⟨rfl, h1⟩
    replace K2 := Lib.hid ((K2.out.below h1).alloc (.cells #[.int .i64 R, .int .i64 S] 32))
    replace T1 := Lib.hid ((T1.out.below h1).alloc (.cells #[.int .i64 R, .int .i64 S] 32))
    replace T2 := Lib.hid ((T2.out.below h1).alloc (.cells #[.int .i64 R, .int .i64 S] 32))
    replace N3 := Lib.hid ((N3.out.below h1).alloc (.cells #[.int .i64 R, .int .i64 S] 32))
    replace HB := Lib.hid ((bel_trans HB.out h1).alloc (bel_trans HB.out h1).size (.cells #[.int .i64 R, .int .i64 S] 32)); clear h1
    have T3 := Lib.hid (Two.new w12 (.int .i64 R) (.int .i64 S) 32)
    clear N3
    obtain ⟨a6, cap6, c0, c1, c2, c3, kv⟩ := K2.out.val
    rw [hL] at c2 kv
    go_wp2_with fail
    refine (R3.out _ _ kv).mono ?_
    rintro e w14 ⟨rfl, h1⟩
    replace K2 := Lib.hid ((K2.out.below h1).alloc (.cells #[.int .i64 R, .int .i64 S] 32))
    replace T1 := Lib.hid ((T1.out.below h1).alloc (.cells #[.int .i64 R, .int .i64 S] 32))
    replace T2 := Lib.hid ((T2.out.below h1).alloc (.cells #[.int .i64 R, .int .i64 S] 32))
    replace T3 := Lib.hid ((T3.out.below h1).alloc (.cells #[.int .i64 R, .int .i64 S] 32))
    replace HB := Lib.hid ((bel_trans HB.out h1).alloc (bel_trans HB.out h1).size (.cells #[.int .i64 R, .int .i64 S] 32)); clear h1
    have T4 := Lib.hid (Two.new w14 (.int .i64 R) (.int .i64 S) 32)
    clear c0 c1 c2 c3 kv
    obtain ⟨T10, T11, T12, T13, T14⟩ := T1.out
    obtain ⟨T20, T21, T22, T23, T24⟩ := T2.out
    obtain ⟨T30, T31, T32, T33, T34⟩ := T3.out
    obtain ⟨T40, T41, T42, T43, T44⟩ := T4.out
    go_wp2
    go_returns
    exact ⟨rfl, HB.out⟩
theorem walk (z : Value) (c : Ck) (t y : Int) (w : World) (hv : CkV w z c) (ht : -9223372036854775808 ≤ t ∧ t ≤ 9223372036854775807) (hy : -9223372036854775808 ≤ y ∧ y ≤ 9223372036854775807) :
    Calls Try.prog 4 #[z, .int .i64 t, .int .i64 y] w fun e w' => e = .returned (.bool true) ∧ Below w.heap.size w w' := by
  obtain ⟨a, cap, rfl, hp, hw⟩ := hv
  have KB := Lib.hid (CkB.new hp hw)
  refine core c.nm c.ps c.dc t y (vlL c) (vlH c) (ccE c) (agQ c t) (agE c t) (rmL c y) (rmH c y) (rmE c y) a _ cap c w (fewC c) KB ⟨rfl, rfl, rfl, rfl⟩ (Lib.hid fun h => ?_) (Lib.hid (few_one c)) (Lib.hid fun v W h => cVol_any v c W h) (Lib.hid fun v W h => refVol_any v c W h) (Lib.hid fun v W h => cAgr_any v c t W h) (Lib.hid fun v W h => refAg_any v c t W h) (Lib.hid fun v W h => cRom_any v c y W h) (Lib.hid fun v W h => refRm_any v c y W h)
  have := fewC_pf h
  omega

set_option maxRecDepth 100000 in
theorem lifted (os : Os) (started : os.Started) (H : Type) (enc : TypeId × Value → H) :
    ReturnsInHanded {} Try.checked os 4 .any (Rows.capacityCasksSpec.pre6 enc Try.prog Try.f4 Rows.capacityCasksRow.domain false) (Rows.capacityCasksSpec.post enc Try.prog Try.f4 false true false false) := by
  refine returnsInHanded_of_change (C := Try.checked) own started (by kernel_rfl) Try.func4
    (ChangeSpec.witness6 (enc := enc) (C := Try.checked) false ⟨#[], #[.agg #[.string ByteArray.empty, .int .i64 0, .slice none 0 0, .int .i64 0], .int .i64 0, .int .i64 0], []⟩ 8 (by kernel_rfl) (by kernel_rfl) (by kernel_rfl) (by kernel_rfl)) ?_
  intro W base args ds gs before hval0 hW hcnd _
  have hval : ∀ (j : Nat) t v, Try.f4.params[j]? = some t → args[j]? = some v → Value.okWide Try.prog W .any base t v := hval0
  clear hval0
  have hW' := hW
  obtain ⟨p, q, hA0, hV, rfl, hfz, hnd⟩ := hW
  have hA : DataW.TrodAll enc Try.prog W 0 (fun _ => true) true Try.f4.params.toList args.toList ds p := hA0
  rw [Try.params4] at hA hval
  obtain ⟨v0, vs0, d0, ds0, p0, q0, hargs, rfl, rfl, h0, r0⟩ := trodAll_cons hA
  obtain ⟨v1, vs1, d1, ds1, p1, q1, rfl, rfl, rfl, h1, r1⟩ := trodAll_cons r0
  obtain ⟨v2, vs2, d2, ds2, p2, q2, rfl, rfl, rfl, h2, r2⟩ := trodAll_cons r1
  obtain ⟨rfl, rfl, rfl⟩ := trodAll_nil r2
  obtain rfl : args = #[v0, v1, v2] := by cases args; simp_all
  obtain ⟨rfl, rfl⟩ := trodVars_none hV
  have k0 := h0
  have lt0 : ∀ x ∈ p0, x.block < W.heap.size := by obtain ⟨m, hm⟩ := k0; exact DataW.trod_lt m _ _ _ hm
  have k1 := h1
  have lt1 : ∀ x ∈ p1, x.block < W.heap.size := by obtain ⟨m, hm⟩ := k1; exact DataW.trod_lt m _ _ _ hm
  have k2 := h2
  have lt2 : ∀ x ∈ p2, x.block < W.heap.size := by obtain ⟨m, hm⟩ := k2; exact DataW.trod_lt m _ _ _ hm
  obtain ⟨z0, w0⟩ := open_ck (hval 0 36 v0 rfl rfl) h0
  obtain ⟨a1, rfl, rfl, rfl, w1⟩ := open_int Try.underlying3 (hval 1 3 v1 rfl rfl) h1
  obtain ⟨a2, rfl, rfl, rfl, w2⟩ := open_int Try.underlying3 (hval 2 3 v2 rfl rfl) h2
  clear hA0
  refine (walk v0 z0 a1 a2 W w0 (wf_bd w1) (wf_bd w2)).mono fun e W' ⟨he, bel⟩ => ?_
  subst he
  exact ⟨_, rfl, _, _, _, [], _, [], hW', trodAll_mk1 (shut_bool Try.underlying4 _), (trodAll_cons_mk (Below.trod laidOut (by kernel_rfl) (of_decide_eq_true (by kernel_rfl)) k0 bel lt0) (trodAll_cons_mk (Below.trod laidOut (by kernel_rfl) (of_decide_eq_true (by kernel_rfl)) k1 bel lt1) (trodAll_cons_mk (Below.trod laidOut (by kernel_rfl) (of_decide_eq_true (by kernel_rfl)) k2 bel lt2) trodAll_mk0))), rfl, bel.frame _, fun h => by cases h⟩

theorem over : Rows.capacityCasksRow.holds Try.pinned (OpenSpec.ofChange Rows.capacityCasksSpec) :=
  OpenClaim.holds_of_wide 4 Try.f4 rfl rfl rfl rfl rfl rfl rfl ⟨rfl, rfl, rfl, rfl, rfl⟩ rfl rfl rfl rfl rfl (by kernel_rfl) Try.func4 (by kernel_rfl)
    (of_decide_eq_true (by kernel_rfl)) (by unfold Func.isWrapper; first | (rw [if_pos (by decide +kernel)]; kernel_rfl) | (rw [if_neg (by decide +kernel)]; exact ⟨rfl, rfl⟩))
    (fun os started H enc _ => lifted os started H enc)

theorem proved : Rows.CapacityCasksSaid := over
#print axioms proved
end Go.Proofs.Ytpnlfeljmpfeoab.capacityCasks
