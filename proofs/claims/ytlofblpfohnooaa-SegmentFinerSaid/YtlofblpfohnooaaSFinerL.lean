/-
  The statement SegmentFiner of spile/spilelaw07 holds: for every input the call returns true, and each argument reads afterwards as it read before.
-/
import Derived.Test.YtlofblpfohnooaaSF
import Derived.Test.YtlofblpfohnooaaSO
import Derived.Below
import Derived.Carry
namespace Go.Proofs.Ytlofblpfohnooaa.segmentFiner
open Go.ChangeShapes Go.WideShapes Go.ChangeAt Go.RowKit
open Go.ChangeMaps (open_string shut_string)
set_option linter.unusedVariables false

set_option maxHeartbeats 4000000 in
theorem long (r c : Int) (a : Option Addr) (n cap : Nat) (w : World) (h : 70 < n) (h2 : n ≤ 9223372036854775807) :
    Calls Try.prog 5 #[.int .i64 r, .int .i64 c, .slice a n cap] w fun e w' => e = .returned (.bool true) ∧ Below w.heap.size w w' := by
  have HA := Lib.hid (fun W => awake_any W)
  have HB := Lib.hid (Below.refl w.heap.size w)
  go_enter Try.func5, Try.ntmps5
  go_wp2_with fail
  refine (HA.out _).mono ?_
  rintro e w2 ⟨rfl, h1⟩
  replace HB := Lib.hid (bel_trans HB.out h1); clear h1
  go_wp2
  go_returns
  exact ⟨rfl, HB.out⟩
set_option maxHeartbeats 8000000 in
theorem bad (r c L H E F : Int) (a : Option Addr) (n cap : Nat) (zs ms : List Int) (w : World) (hn : n ≤ 70) (hz : Hid (zs.length ≤ 1000)) (NV : Hid (Nums w (.slice a n cap) zs))
    (h : ((E == 0) = false ∧ (E != 0) = true ∧ L = 0 ∧ H = 0 ∧ (((F == 0) = false ∧ (F != 0) = true ∧ ms = []) ∨ F = 0)) ∨ (E = 0 ∧ (F == 0) = false ∧ (F != 0) = true ∧ ms = []))
    (A1 : Hid (∀ v W, Nums W v zs → Calls Try.prog 20 #[.int .i64 r, .int .i64 c, v] W fun e w' => e = .returned (.tuple #[.agg #[.int .i64 L, .int .i64 H], .int .i64 E]) ∧ Below W.heap.size W w'))
    (R1 : Hid (∀ v W, Nums W v zs → Calls Try.prog 12 #[v] W fun e w' => ∃ u, e = .returned (.tuple #[u, .int .i64 F]) ∧ Nums w' u ms ∧ Below W.heap.size W w')) :
    Calls Try.prog 5 #[.int .i64 r, .int .i64 c, .slice a n cap] w fun e w' => e = .returned (.bool true) ∧ Below w.heap.size w w' := by
  have HA := Lib.hid (fun W => awake_any W)
  have Q1 : ∀ W, (binOp .eql 33 (.agg #[.int .i64 0, .int .i64 0]) (.agg #[.int .i64 0, .int .i64 0])).run Try.prog W = .ok (.bool true) W := fun W => by rw [run_eql_bounds]; rfl
  have HB := Lib.hid (Below.refl w.heap.size w)
  go_enter Try.func5, Try.ntmps5
  go_wp2_with fail
  refine (HA.out _).mono ?_
  rintro e w5 ⟨rfl, h1⟩
  replace NV := Lib.hid (NV.out.below h1)
  replace HB := Lib.hid (bel_trans HB.out h1); clear h1
  go_wp2_with fail
  refine (clone_nums _ zs _ NV.out hz.out).mono ?_
  rintro e w6 ⟨V1, rfl, hx, h1⟩
  replace NV := Lib.hid (NV.out.below h1)
  replace HB := Lib.hid (bel_trans HB.out h1); clear h1
  have N1 := Lib.hid hx; clear hx
  go_wp2_with fail
  refine (A1.out _ _ N1.out).mono ?_
  rintro e w7 ⟨rfl, h1⟩
  replace NV := Lib.hid ((NV.out.below h1).alloc (.cells #[.int .i64 L, .int .i64 H] 33))
  replace N1 := Lib.hid ((N1.out.below h1).alloc (.cells #[.int .i64 L, .int .i64 H] 33))
  replace HB := Lib.hid ((bel_trans HB.out h1).alloc (bel_trans HB.out h1).size (.cells #[.int .i64 L, .int .i64 H] 33)); clear h1
  have T1 := Lib.hid (Two.new w7 (.int .i64 L) (.int .i64 H) 33)
  go_wp2_with fail
  refine (clone_nums _ zs _ NV.out hz.out).mono ?_
  rintro e w8 ⟨V2, rfl, hx, h1⟩
  replace NV := Lib.hid (NV.out.below h1)
  replace N1 := Lib.hid (N1.out.below h1)
  replace T1 := Lib.hid (T1.out.below h1)
  replace HB := Lib.hid (bel_trans HB.out h1); clear h1
  have N2 := Lib.hid hx; clear hx
  go_wp2_with fail
  refine (R1.out _ _ N2.out).mono ?_
  rintro e w9 ⟨V3, rfl, hx, h1⟩
  replace NV := Lib.hid (NV.out.below h1)
  replace N1 := Lib.hid (N1.out.below h1)
  replace T1 := Lib.hid (T1.out.below h1)
  replace N2 := Lib.hid (N2.out.below h1)
  replace HB := Lib.hid (bel_trans HB.out h1); clear h1
  have N3 := Lib.hid hx; clear hx
  obtain ⟨am, cm, rfl, _, _⟩ := N3.out.shape
  obtain ⟨T10, T11, T12, T13, T14⟩ := T1.out
  rcases h with ⟨e1, e2, rfl, rfl, ⟨e3, e4, rfl⟩ | rfl⟩ | ⟨rfl, e3, e4, rfl⟩
  · go_wp2
    go_returns
    exact ⟨rfl, HB.out⟩
  · go_wp2
    go_returns
    exact ⟨rfl, HB.out⟩
  · go_wp2
    go_returns
    exact ⟨rfl, HB.out⟩
set_option maxHeartbeats 16000000 in
set_option maxRecDepth 100000 in
theorem good (r c L H L2 H2 : Int) (a : Option Addr) (n cap k : Nat) (zs ms : List Int) (w : World) (n0 : 2 ≤ n) (n1 : n ≤ 33) (hk : k = 2 * n - 1) (hl : Hid (ms.length = k)) (hz : Hid (zs.length ≤ 1000)) (hm : Hid (ms.length ≤ 1000)) (NV : Hid (Nums w (.slice a n cap) zs))
    (h1 : L ≤ L2) (h2 : L2 ≤ H2) (h3 : H2 ≤ H) (hE : Hid (∀ i, i < n → ms.getD (2 * i) 0 = zs.getD i 0))
    (A1 : Hid (∀ v W, Nums W v zs → Calls Try.prog 20 #[.int .i64 r, .int .i64 c, v] W fun e w' => e = .returned (.tuple #[.agg #[.int .i64 L, .int .i64 H], .int .i64 0]) ∧ Below W.heap.size W w'))
    (R1 : Hid (∀ v W, Nums W v zs → Calls Try.prog 12 #[v] W fun e w' => ∃ u, e = .returned (.tuple #[u, .int .i64 0]) ∧ Nums w' u ms ∧ Below W.heap.size W w'))
    (A2 : Hid (∀ v W, Nums W v ms → Calls Try.prog 20 #[.int .i64 r, .int .i64 c, v] W fun e w' => e = .returned (.tuple #[.agg #[.int .i64 L2, .int .i64 H2], .int .i64 0]) ∧ Below W.heap.size W w'))
    (K1 : Hid (∀ v W, Nums W v ms → Calls Try.prog 16 #[v] W fun e w' => e = .returned (.int .i64 0) ∧ Below W.heap.size W w')) :
    Calls Try.prog 5 #[.int .i64 r, .int .i64 c, .slice a n cap] w fun e w' => e = .returned (.bool true) ∧ Below w.heap.size w w' := by
  have HA := Lib.hid (fun W => awake_any W)
  have wk : IntKind.i64.wrap (2 * (n : Int)) = 2 * (n : Int) := wrap_in _ ⟨by omega, by omega⟩
  have wk2 : IntKind.i64.wrap (2 * (n : Int) - 1) = 2 * (n : Int) - 1 := wrap_in _ ⟨by omega, by omega⟩
  have wq : ((k : Int) != 2 * (n : Int) - 1) = false := by rw [bne_eq_false_iff_eq]; omega
  have KK := Lib.hid hk
  clear hk
  have HB := Lib.hid (Below.refl w.heap.size w)
  go_enter Try.func5, Try.ntmps5
  go_wp2_with fail
  refine (HA.out _).mono ?_
  rintro e w13 ⟨rfl, h1⟩
  replace NV := Lib.hid (NV.out.below h1)
  replace HB := Lib.hid (bel_trans HB.out h1); clear h1
  go_wp2_with fail
  refine (clone_nums _ zs _ NV.out hz.out).mono ?_
  rintro e w14 ⟨V1, rfl, hx, h1⟩
  replace NV := Lib.hid (NV.out.below h1)
  replace HB := Lib.hid (bel_trans HB.out h1); clear h1
  have N1 := Lib.hid hx; clear hx
  go_wp2_with fail
  refine (A1.out _ _ N1.out).mono ?_
  rintro e w15 ⟨rfl, h1⟩
  replace NV := Lib.hid ((NV.out.below h1).alloc (.cells #[.int .i64 L, .int .i64 H] 33))
  replace N1 := Lib.hid ((N1.out.below h1).alloc (.cells #[.int .i64 L, .int .i64 H] 33))
  replace HB := Lib.hid ((bel_trans HB.out h1).alloc (bel_trans HB.out h1).size (.cells #[.int .i64 L, .int .i64 H] 33)); clear h1
  have T1 := Lib.hid (Two.new w15 (.int .i64 L) (.int .i64 H) 33)
  go_wp2_with fail
  refine (clone_nums _ zs _ NV.out hz.out).mono ?_
  rintro e w16 ⟨V2, rfl, hx, h1⟩
  replace NV := Lib.hid (NV.out.below h1)
  replace N1 := Lib.hid (N1.out.below h1)
  replace T1 := Lib.hid (T1.out.below h1)
  replace HB := Lib.hid (bel_trans HB.out h1); clear h1
  have N2 := Lib.hid hx; clear hx
  go_wp2_with fail
  refine (R1.out _ _ N2.out).mono ?_
  rintro e w17 ⟨V3, rfl, hx, h1⟩
  replace NV := Lib.hid (NV.out.below h1)
  replace N1 := Lib.hid (N1.out.below h1)
  replace T1 := Lib.hid (T1.out.below h1)
  replace N2 := Lib.hid (N2.out.below h1)
  replace HB := Lib.hid (bel_trans HB.out h1); clear h1
  have N3 := Lib.hid hx; clear hx
  obtain ⟨am, cm, hV3, c1, c2⟩ := N3.out.shape
  rw [hl.out] at hV3
  subst hV3
  go_wp2_with fail
  refine (clone_nums _ ms _ N3.out hm.out).mono ?_
  rintro e w18 ⟨V4, rfl, hx, h1⟩
  replace NV := Lib.hid (NV.out.below h1)
  replace N1 := Lib.hid (N1.out.below h1)
  replace T1 := Lib.hid (T1.out.below h1)
  replace N2 := Lib.hid (N2.out.below h1)
  replace N3 := Lib.hid (N3.out.below h1)
  replace HB := Lib.hid (bel_trans HB.out h1); clear h1
  have N4 := Lib.hid hx; clear hx
  go_wp2_with fail
  refine (A2.out _ _ N4.out).mono ?_
  rintro e w19 ⟨rfl, h1⟩
  replace NV := Lib.hid ((NV.out.below h1).alloc (.cells #[.int .i64 L2, .int .i64 H2] 33))
  replace N1 := Lib.hid ((N1.out.below h1).alloc (.cells #[.int .i64 L2, .int .i64 H2] 33))
  replace T1 := Lib.hid ((T1.out.below h1).alloc (.cells #[.int .i64 L2, .int .i64 H2] 33))
  replace N2 := Lib.hid ((N2.out.below h1).alloc (.cells #[.int .i64 L2, .int .i64 H2] 33))
  replace N3 := Lib.hid ((N3.out.below h1).alloc (.cells #[.int .i64 L2, .int .i64 H2] 33))
  replace N4 := Lib.hid ((N4.out.below h1).alloc (.cells #[.int .i64 L2, .int .i64 H2] 33))
  replace HB := Lib.hid ((bel_trans HB.out h1).alloc (bel_trans HB.out h1).size (.cells #[.int .i64 L2, .int .i64 H2] 33)); clear h1
  have T2 := Lib.hid (Two.new w19 (.int .i64 L2) (.int .i64 H2) 33)
  obtain ⟨T10, T11, T12, T13, T14⟩ := T1.out
  obtain ⟨T20, T21, T22, T23, T24⟩ := T2.out
  go_wp2_with fail
  refine (clone_nums _ ms _ N3.out hm.out).mono ?_
  rintro e w21 ⟨V5, rfl, hx, h1⟩
  replace NV := Lib.hid (NV.out.below h1)
  replace N1 := Lib.hid (N1.out.below h1)
  replace T1 := Lib.hid (T1.out.below h1)
  replace N2 := Lib.hid (N2.out.below h1)
  replace N3 := Lib.hid (N3.out.below h1)
  replace N4 := Lib.hid (N4.out.below h1)
  replace T2 := Lib.hid (T2.out.below h1)
  replace HB := Lib.hid (bel_trans HB.out h1); clear h1
  have N5 := Lib.hid hx; clear hx
  clear T10 T11 T12 T13 T14 T20 T21 T22 T23 T24
  go_wp2_with fail
  refine (K1.out _ _ N5.out).mono ?_
  rintro e w22 ⟨rfl, h1⟩
  replace NV := Lib.hid (NV.out.below h1)
  replace N1 := Lib.hid (N1.out.below h1)
  replace T1 := Lib.hid (T1.out.below h1)
  replace N2 := Lib.hid (N2.out.below h1)
  replace N3 := Lib.hid (N3.out.below h1)
  replace N4 := Lib.hid (N4.out.below h1)
  replace T2 := Lib.hid (T2.out.below h1)
  replace N5 := Lib.hid (N5.out.below h1)
  replace HB := Lib.hid (bel_trans HB.out h1); clear h1
  obtain ⟨bz, oz, rfl, hbz, hcz⟩ := NV.out.at (by omega)
  obtain ⟨bm, om, rfl, hbm, hcm⟩ := N3.out.at (by have := KK.out; omega)
  clear T1 T2 N1 N2 N4 N5 N3 NV A1 R1 A2 K1 HA
  replace hcz := Lib.hid hcz
  replace hcm := Lib.hid hcm
  go_wp2_with fail
  go_loopw [13, 14, 104] (fun _ _ ii wr => ∃ q : Nat, q ≤ n ∧ ii = .int .i64 q ∧ (w22) = wr) (fun _ _ ii _ => n - (intOf ii).toNat)
  case atStart => exact ⟨0, by omega, rfl, rfl⟩
  case round =>
    obtain ⟨q, hq, rfl, rfl⟩ := hrel
    by_cases hlt : q < n
    · have d0 := hcz.out q hlt
      have d1 := hcm.out (2 * q) (by have := KK.out; omega)
      rw [hE.out q hlt] at d1
      have e1 : IntKind.i64.wrap (2 * (q : Int)) = 2 * (q : Int) := wrap_in _ ⟨by omega, by omega⟩
      have e2 : (2 * (q : Int)).toNat = 2 * q := by omega
      have e3 : 0 ≤ 2 * (q : Int) := by omega
      have e4 : 2 * (q : Int) < (k : Int) := by have := KK.out; omega
      have e5 : 2 * q < k := by have := KK.out; omega
      generalize zs.getD q 0 = x at *
      go_wp2
      go_roundw
      case rel => exact ⟨q + 1, by omega, by go_num, by first | rfl | trivial⟩
      case measure => simp [intOf]; omega
    · obtain rfl : q = n := by omega
      go_wp2
      go_returns
      exact ⟨rfl, HB.out⟩
theorem walk (r c : Int) (v : Value) (zs : List Int) (w : World) (r0 : -9223372036854775808 ≤ r ∧ r ≤ 9223372036854775807) (c0 : -9223372036854775808 ≤ c ∧ c ≤ 9223372036854775807) (hv : Nums w v zs) (hz : ∀ z ∈ zs, (Lit.int .i64 z).wf = true) :
    Calls Try.prog 5 #[.int .i64 r, .int .i64 c, v] w fun e w' => e = .returned (.bool true) ∧ Below w.heap.size w w' := by
  have hv2 := hv
  obtain ⟨a, cap, rfl, ⟨l1, l2⟩, _⟩ := hv
  by_cases h : 70 < zs.length
  · exact long r c a zs.length cap w h (by omega)
  · by_cases e : arE r c zs = 0
    · by_cases f : rfE zs = 0
      · obtain ⟨f1, f2, f3, f4, f5, ⟨f6, f7, f8⟩, f9⟩ := fin_facts e f
        refine good r c _ _ _ _ a zs.length cap (2 * zs.length - 1) zs (rfL zs) w f1 f3 rfl (Lib.hid f2) (Lib.hid (by omega)) (Lib.hid (by omega)) hv2 f6 f7 f8 (Lib.hid f9) (fun v W hn => ?_) (fun v W hn => ?_) (fun v W hn => ?_) (fun v W hn => ?_)
        · have := area_any r c v zs W hn
          rwa [e] at this
        · have := rfn_any v zs W hn
          rwa [f] at this
        · have := area_any r c v (rfL zs) W hn
          rwa [f5] at this
        · have := chk_any v (rfL zs) W hn
          rwa [f4] at this
      · exact bad r c _ _ _ _ a zs.length cap zs (rfL zs) w (by omega) (Lib.hid (by omega)) hv2 (.inr ⟨e, by simpa using f, by simpa using f, rf_none f⟩) (fun v W hn => area_any r c v zs W hn) (fun v W hn => rfn_any v zs W hn)
    · refine bad r c _ _ _ _ a zs.length cap zs (rfL zs) w (by omega) (Lib.hid (by omega)) hv2 (.inl ⟨by simpa using e, by simpa using e, (ar_none e).1, (ar_none e).2, ?_⟩) (fun v W hn => area_any r c v zs W hn) (fun v W hn => rfn_any v zs W hn)
      by_cases f : rfE zs = 0
      · exact .inr f
      · exact .inl ⟨by simpa using f, by simpa using f, rf_none f⟩

set_option maxRecDepth 100000 in
theorem lifted (os : Os) (started : os.Started) (H : Type) (enc : TypeId × Value → H) :
    ReturnsInHanded {} Try.checked os 5 .any (Rows.segmentFinerSpec.pre6 enc Try.prog Try.f5 Rows.segmentFinerRow.domain false) (Rows.segmentFinerSpec.post enc Try.prog Try.f5 false true false false) := by
  refine returnsInHanded_of_change (C := Try.checked) own started (by kernel_rfl) Try.func5
    (ChangeSpec.witness6 (enc := enc) (C := Try.checked) false ⟨#[], #[.int .i64 0, .int .i64 0, .slice none 0 0], []⟩ 8 (by kernel_rfl) (by kernel_rfl) (by kernel_rfl) (by kernel_rfl)) ?_
  intro W base args ds gs before hval0 hW hcnd _
  have hval : ∀ (j : Nat) t v, Try.f5.params[j]? = some t → args[j]? = some v → Value.okWide Try.prog W .any base t v := hval0
  clear hval0
  have hW' := hW
  obtain ⟨p, q, hA0, hV, rfl, hfz, hnd⟩ := hW
  have hA : DataW.TrodAll enc Try.prog W 0 (fun _ => true) true Try.f5.params.toList args.toList ds p := hA0
  rw [Try.params5] at hA hval
  obtain ⟨v0, vs0, d0, ds0, p0, q0, hargs, rfl, rfl, h0, r0⟩ := trodAll_cons hA
  obtain ⟨v1, vs1, d1, ds1, p1, q1, rfl, rfl, rfl, h1, r1⟩ := trodAll_cons r0
  obtain ⟨v2, vs2, d2, ds2, p2, q2, rfl, rfl, rfl, h2, r2⟩ := trodAll_cons r1
  obtain ⟨rfl, rfl, rfl⟩ := trodAll_nil r2
  obtain rfl : args = #[v0, v1, v2] := by cases args; simp_all
  obtain ⟨rfl, rfl⟩ := trodVars_none hV
  have k0 := h0
  have lt0 : ∀ x ∈ p0, x.block < W.heap.size := by obtain ⟨m, hm⟩ := k0; exact DataW.trod_lt m _ _ _ hm
  have k1 := h1
  have lt1 : ∀ x ∈ p1, x.block < W.heap.size := by obtain ⟨m, hm⟩ := k1; exact DataW.trod_lt m _ _ _ hm
  have k2 := h2
  have lt2 : ∀ x ∈ p2, x.block < W.heap.size := by obtain ⟨m, hm⟩ := k2; exact DataW.trod_lt m _ _ _ hm
  obtain ⟨a0, rfl, rfl, rfl, w0⟩ := open_int Try.underlying3 (hval 0 3 v0 rfl rfl) h0
  obtain ⟨a1, rfl, rfl, rfl, w1⟩ := open_int Try.underlying3 (hval 1 3 v1 rfl rfl) h1
  obtain ⟨z2, w2, b2⟩ := open_intSlice Try.underlying22 Try.underlying3 (by kernel_rfl) (hval 2 22 v2 rfl rfl) h2
  clear hA0
  refine (walk a0 a1 v2 z2 W (wf_bd w0) (wf_bd w1) w2 b2).mono fun e W' ⟨he, bel⟩ => ?_
  subst he
  exact ⟨_, rfl, _, _, _, [], _, [], hW', trodAll_mk1 (shut_bool Try.underlying4 _), (trodAll_cons_mk (Below.trod laidOut (by kernel_rfl) (of_decide_eq_true (by kernel_rfl)) k0 bel lt0) (trodAll_cons_mk (Below.trod laidOut (by kernel_rfl) (of_decide_eq_true (by kernel_rfl)) k1 bel lt1) (trodAll_cons_mk (Below.trod laidOut (by kernel_rfl) (of_decide_eq_true (by kernel_rfl)) k2 bel lt2) trodAll_mk0))), rfl, bel.frame _, fun h => by cases h⟩

theorem over : Rows.segmentFinerRow.holds Try.pinned (OpenSpec.ofChange Rows.segmentFinerSpec) :=
  OpenClaim.holds_of_wide 5 Try.f5 rfl rfl rfl rfl rfl rfl rfl ⟨rfl, rfl, rfl, rfl, rfl⟩ rfl rfl rfl rfl rfl (by kernel_rfl) Try.func5 (by kernel_rfl)
    (of_decide_eq_true (by kernel_rfl)) (by unfold Func.isWrapper; first | (rw [if_pos (by decide +kernel)]; kernel_rfl) | (rw [if_neg (by decide +kernel)]; exact ⟨rfl, rfl⟩))
    (fun os started H enc _ => lifted os started H enc)

theorem proved : Rows.SegmentFinerSaid := over
#print axioms proved
end Go.Proofs.Ytlofblpfohnooaa.segmentFiner
