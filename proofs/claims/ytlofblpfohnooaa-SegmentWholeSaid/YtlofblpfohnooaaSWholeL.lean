/-
  The statement SegmentWhole of spile/spilelaw07 holds: for every input the call returns true, and each argument reads afterwards as it read before.
-/
import Derived.Test.YtlofblpfohnooaaSF
import Derived.Test.YtlofblpfohnooaaSO
import Derived.Below
import Derived.Carry
namespace Go.Proofs.Ytlofblpfohnooaa.segmentWhole
open Go.ChangeShapes Go.WideShapes Go.ChangeAt Go.RowKit
open Go.ChangeMaps (open_string shut_string)
set_option linter.unusedVariables false

set_option maxHeartbeats 8000000 in
theorem bad (r c n L H E : Int) (w : World)
    (h : ((E == 0) = false ∧ (E != 0) = true ∧ L = 0 ∧ H = 0) ∨ (E = 0 ∧ (c < r ∨ (r ≤ c ∧ 100000 < c))))
    (W1 : Hid (∀ W, Calls Try.prog 22 #[.int .i64 r] W fun e w' => e = .returned (.tuple #[.agg #[.int .i64 L, .int .i64 H], .int .i64 E]) ∧ Below W.heap.size W w')) :
    Calls Try.prog 7 #[.int .i64 r, .int .i64 c, .int .i64 n] w fun e w' => e = .returned (.bool true) ∧ Below w.heap.size w w' := by
  have HA := Lib.hid (fun W => awake_any W)
  have Q1 : ∀ W, (binOp .eql 33 (.agg #[.int .i64 0, .int .i64 0]) (.agg #[.int .i64 0, .int .i64 0])).run Try.prog W = .ok (.bool true) W := fun W => by rw [run_eql_bounds]; rfl
  have HB := Lib.hid (Below.refl w.heap.size w)
  go_enter Try.func7, Try.ntmps7
  go_wp2_with fail
  refine (HA.out _).mono ?_
  rintro e w2 ⟨rfl, h1⟩
  replace HB := Lib.hid (bel_trans HB.out h1); clear h1
  go_wp2_with fail
  refine (W1.out _).mono ?_
  rintro e w3 ⟨rfl, h1⟩
  replace HB := Lib.hid ((bel_trans HB.out h1).alloc (bel_trans HB.out h1).size (.cells #[.int .i64 L, .int .i64 H] 33)); clear h1
  have T1 := Lib.hid (Two.new w3 (.int .i64 L) (.int .i64 H) 33)
  obtain ⟨T10, T11, T12, T13, T14⟩ := T1.out
  rcases h with ⟨e1, e2, rfl, rfl⟩ | ⟨rfl, h | ⟨h, h2⟩⟩
  all_goals
    go_wp2
    go_returns
    exact ⟨rfl, HB.out⟩
set_option maxHeartbeats 8000000 in
theorem few (r c n L H F : Int) (w : World) (h1 : r ≤ c) (h2 : c ≤ 100000) (hs : IntKind.i64.wrap (c + r) = c + r) (f1 : (F == 0) = false) (f2 : (F != 0) = true)
    (W1 : Hid (∀ W, Calls Try.prog 22 #[.int .i64 r] W fun e w' => e = .returned (.tuple #[.agg #[.int .i64 L, .int .i64 H], .int .i64 0]) ∧ Below W.heap.size W w'))
    (H1 : Hid (∀ W, Calls Try.prog 10 #[.int .i64 (c + r), .int .i64 n] W fun e w' => ∃ v, e = .returned (.tuple #[v, .int .i64 F]) ∧ Nums w' v [] ∧ Below W.heap.size W w')) :
    Calls Try.prog 7 #[.int .i64 r, .int .i64 c, .int .i64 n] w fun e w' => e = .returned (.bool true) ∧ Below w.heap.size w w' := by
  have HA := Lib.hid (fun W => awake_any W)
  have HB := Lib.hid (Below.refl w.heap.size w)
  go_enter Try.func7, Try.ntmps7
  go_wp2_with fail
  refine (HA.out _).mono ?_
  rintro e w6 ⟨rfl, h1⟩
  replace HB := Lib.hid (bel_trans HB.out h1); clear h1
  go_wp2_with fail
  refine (W1.out _).mono ?_
  rintro e w7 ⟨rfl, h1⟩
  replace HB := Lib.hid ((bel_trans HB.out h1).alloc (bel_trans HB.out h1).size (.cells #[.int .i64 L, .int .i64 H] 33)); clear h1
  have T1 := Lib.hid (Two.new w7 (.int .i64 L) (.int .i64 H) 33)
  go_wp2_with fail
  refine (H1.out _).mono ?_
  rintro e w8 ⟨V1, rfl, hx, h1⟩
  replace T1 := Lib.hid (T1.out.below h1)
  replace HB := Lib.hid (bel_trans HB.out h1); clear h1
  have N1 := Lib.hid hx; clear hx
  obtain ⟨am, cm, rfl, _, _⟩ := N1.out.shape
  go_wp2
  go_returns
  exact ⟨rfl, HB.out⟩
set_option maxHeartbeats 8000000 in
theorem good (r c n L H L2 H2 : Int) (ms : List Int) (w : World) (h1 : r ≤ c) (h2 : c ≤ 100000) (hs : IntKind.i64.wrap (c + r) = c + r) (g1 : L ≤ H) (g2 : L2 ≤ H2) (g3 : L2 ≤ H) (g4 : L ≤ H2)
    (W1 : Hid (∀ W, Calls Try.prog 22 #[.int .i64 r] W fun e w' => e = .returned (.tuple #[.agg #[.int .i64 L, .int .i64 H], .int .i64 0]) ∧ Below W.heap.size W w'))
    (H1 : Hid (∀ W, Calls Try.prog 10 #[.int .i64 (c + r), .int .i64 n] W fun e w' => ∃ v, e = .returned (.tuple #[v, .int .i64 0]) ∧ Nums w' v ms ∧ Below W.heap.size W w'))
    (A1 : Hid (∀ v W, Nums W v ms → Calls Try.prog 20 #[.int .i64 r, .int .i64 c, v] W fun e w' => e = .returned (.tuple #[.agg #[.int .i64 L2, .int .i64 H2], .int .i64 0]) ∧ Below W.heap.size W w')) :
    Calls Try.prog 7 #[.int .i64 r, .int .i64 c, .int .i64 n] w fun e w' => e = .returned (.bool true) ∧ Below w.heap.size w w' := by
  have HA := Lib.hid (fun W => awake_any W)
  have HB := Lib.hid (Below.refl w.heap.size w)
  go_enter Try.func7, Try.ntmps7
  go_wp2_with fail
  refine (HA.out _).mono ?_
  rintro e w10 ⟨rfl, h1⟩
  replace HB := Lib.hid (bel_trans HB.out h1); clear h1
  go_wp2_with fail
  refine (W1.out _).mono ?_
  rintro e w11 ⟨rfl, h1⟩
  replace HB := Lib.hid ((bel_trans HB.out h1).alloc (bel_trans HB.out h1).size (.cells #[.int .i64 L, .int .i64 H] 33)); clear h1
  have T1 := Lib.hid (Two.new w11 (.int .i64 L) (.int .i64 H) 33)
  go_wp2_with fail
  refine (H1.out _).mono ?_
  rintro e w12 ⟨V1, rfl, hx, h1⟩
  replace T1 := Lib.hid (T1.out.below h1)
  replace HB := Lib.hid (bel_trans HB.out h1); clear h1
  have N1 := Lib.hid hx; clear hx
  go_wp2_with fail
  refine (A1.out _ _ N1.out).mono ?_
  rintro e w13 ⟨rfl, h1⟩
  replace T1 := Lib.hid ((T1.out.below h1).alloc (.cells #[.int .i64 L2, .int .i64 H2] 33))
  replace N1 := Lib.hid ((N1.out.below h1).alloc (.cells #[.int .i64 L2, .int .i64 H2] 33))
  replace HB := Lib.hid ((bel_trans HB.out h1).alloc (bel_trans HB.out h1).size (.cells #[.int .i64 L2, .int .i64 H2] 33)); clear h1
  have T2 := Lib.hid (Two.new w13 (.int .i64 L2) (.int .i64 H2) 33)
  obtain ⟨T10, T11, T12, T13, T14⟩ := T1.out
  obtain ⟨T20, T21, T22, T23, T24⟩ := T2.out
  go_wp2
  go_returns
  exact ⟨rfl, HB.out⟩
theorem walk (r c n : Int) (w : World) (r0 : -9223372036854775808 ≤ r ∧ r ≤ 9223372036854775807) (c0 : -9223372036854775808 ≤ c ∧ c ≤ 9223372036854775807) (n0 : -9223372036854775808 ≤ n ∧ n ≤ 9223372036854775807) :
    Calls Try.prog 7 #[.int .i64 r, .int .i64 c, .int .i64 n] w fun e w' => e = .returned (.bool true) ∧ Below w.heap.size w w' := by
  by_cases e : whE r = 0
  · have hb : 0 ≤ r ∧ r ≤ 100000 := by
      refine (lenB_iff r).1 ?_
      cases h : lenB r with
      | true => rfl
      | false => unfold whE at e; rw [h] at e; simp at e
    have W1 : ∀ W, Calls Try.prog 22 #[.int .i64 r] W fun e w' => e = .returned (.tuple #[.agg #[.int .i64 (whL r), .int .i64 (whH r)], .int .i64 0]) ∧ Below W.heap.size W w' := fun W => by
      have := whole_any r W
      rwa [e] at this
    by_cases h : c < r ∨ (r ≤ c ∧ 100000 < c)
    · exact bad r c n _ _ 0 w (.inr ⟨rfl, h⟩) W1
    · have hs : IntKind.i64.wrap (c + r) = c + r := wrap_in _ ⟨by omega, by omega⟩
      by_cases f : heE (c + r) n = 0
      · obtain ⟨f1, f2, f3, f4, f5⟩ := whole_facts e (by omega) (by omega) f
        refine good r c n (whL r) (whH r) _ _ (heL (c + r) n) w (by omega) (by omega) hs f2 f3 f4 f5 W1 (fun W => ?_) (fun v W hn => ?_)
        · have := hts_any (c + r) n W
          rwa [f] at this
        · have := area_any r c v _ W hn
          rwa [f1] at this
      · refine few r c n _ _ (heE (c + r) n) w (by omega) (by omega) hs (by simpa using f) (by simpa using f) W1 (fun W => ?_)
        have := hts_any (c + r) n W
        rwa [he_none f] at this
  · exact bad r c n _ _ _ w (.inl ⟨by simpa using e, by simpa using e, (wh_none e).1, (wh_none e).2⟩) (fun W => whole_any r W)

set_option maxRecDepth 100000 in
theorem lifted (os : Os) (started : os.Started) (H : Type) (enc : TypeId × Value → H) :
    ReturnsInHanded {} Try.checked os 7 .any (Rows.segmentWholeSpec.pre6 enc Try.prog Try.f7 Rows.segmentWholeRow.domain false) (Rows.segmentWholeSpec.post enc Try.prog Try.f7 false true false false) := by
  refine returnsInHanded_of_change (C := Try.checked) own started (by kernel_rfl) Try.func7
    (ChangeSpec.witness6 (enc := enc) (C := Try.checked) false ⟨#[], #[.int .i64 0, .int .i64 0, .int .i64 0], []⟩ 8 (by kernel_rfl) (by kernel_rfl) (by kernel_rfl) (by kernel_rfl)) ?_
  intro W base args ds gs before hval0 hW hcnd _
  have hval : ∀ (j : Nat) t v, Try.f7.params[j]? = some t → args[j]? = some v → Value.okWide Try.prog W .any base t v := hval0
  clear hval0
  have hW' := hW
  obtain ⟨p, q, hA0, hV, rfl, hfz, hnd⟩ := hW
  have hA : DataW.TrodAll enc Try.prog W 0 (fun _ => true) true Try.f7.params.toList args.toList ds p := hA0
  rw [Try.params7] at hA hval
  obtain ⟨v0, vs0, d0, ds0, p0, q0, hargs, rfl, rfl, h0, r0⟩ := trodAll_cons hA
  obtain ⟨v1, vs1, d1, ds1, p1, q1, rfl, rfl, rfl, h1, r1⟩ := trodAll_cons r0
  obtain ⟨v2, vs2, d2, ds2, p2, q2, rfl, rfl, rfl, h2, r2⟩ := trodAll_cons r1
  obtain ⟨rfl, rfl, rfl⟩ := trodAll_nil r2
  obtain rfl : args = #[v0, v1, v2] := by cases args; simp_all
  obtain ⟨rfl, rfl⟩ := trodVars_none hV
  have k0 := h0
  have lt0 : ∀ x ∈ p0, x.block < W.heap.size := by obtain ⟨m, hm⟩ := k0; exact DataW.trod_lt m _ _ _ hm
  have k1 := h1
  have lt1 : ∀ x ∈ p1, x.block < W.heap.size := by obtain ⟨m, hm⟩ := k1; exact DataW.trod_lt m _ _ _ hm
  have k2 := h2
  have lt2 : ∀ x ∈ p2, x.block < W.heap.size := by obtain ⟨m, hm⟩ := k2; exact DataW.trod_lt m _ _ _ hm
  obtain ⟨a0, rfl, rfl, rfl, w0⟩ := open_int Try.underlying3 (hval 0 3 v0 rfl rfl) h0
  obtain ⟨a1, rfl, rfl, rfl, w1⟩ := open_int Try.underlying3 (hval 1 3 v1 rfl rfl) h1
  obtain ⟨a2, rfl, rfl, rfl, w2⟩ := open_int Try.underlying3 (hval 2 3 v2 rfl rfl) h2
  clear hA0
  refine (walk a0 a1 a2 W (wf_bd w0) (wf_bd w1) (wf_bd w2)).mono fun e W' ⟨he, bel⟩ => ?_
  subst he
  exact ⟨_, rfl, _, _, _, [], _, [], hW', trodAll_mk1 (shut_bool Try.underlying4 _), (trodAll_cons_mk (Below.trod laidOut (by kernel_rfl) (of_decide_eq_true (by kernel_rfl)) k0 bel lt0) (trodAll_cons_mk (Below.trod laidOut (by kernel_rfl) (of_decide_eq_true (by kernel_rfl)) k1 bel lt1) (trodAll_cons_mk (Below.trod laidOut (by kernel_rfl) (of_decide_eq_true (by kernel_rfl)) k2 bel lt2) trodAll_mk0))), rfl, bel.frame _, fun h => by cases h⟩

theorem over : Rows.segmentWholeRow.holds Try.pinned (OpenSpec.ofChange Rows.segmentWholeSpec) :=
  OpenClaim.holds_of_wide 7 Try.f7 rfl rfl rfl rfl rfl rfl rfl ⟨rfl, rfl, rfl, rfl, rfl⟩ rfl rfl rfl rfl rfl (by kernel_rfl) Try.func7 (by kernel_rfl)
    (of_decide_eq_true (by kernel_rfl)) (by unfold Func.isWrapper; first | (rw [if_pos (by decide +kernel)]; kernel_rfl) | (rw [if_neg (by decide +kernel)]; exact ⟨rfl, rfl⟩))
    (fun os started H enc _ => lifted os started H enc)

theorem proved : Rows.SegmentWholeSaid := over
#print axioms proved
end Go.Proofs.Ytlofblpfohnooaa.segmentWhole
