/-
  The statement SegmentGrows of spile/spilelaw07 holds: for every input the call returns true, and each argument reads afterwards as it read before.
-/
import Derived.Test.YtlofblpfohnooaaSF
import Derived.Test.YtlofblpfohnooaaSO
import Derived.Below
import Derived.Carry
namespace Go.Proofs.Ytlofblpfohnooaa.segmentGrows
open Go.ChangeShapes Go.WideShapes Go.ChangeAt Go.RowKit
open Go.ChangeMaps (open_string shut_string)
set_option linter.unusedVariables false

set_option maxHeartbeats 4000000 in
theorem out (r c more x : Int) (a : Option Addr) (n cap : Nat) (w : World) (hn : n ≤ 9223372036854775807)
    (h : 64 < n ∨ (n ≤ 64 ∧ more < 0) ∨ (n ≤ 64 ∧ 0 ≤ more ∧ 100000 < more) ∨ (n ≤ 64 ∧ 0 ≤ more ∧ more ≤ 100000 ∧ 100000 < r)) :
    Calls Try.prog 6 #[.int .i64 r, .int .i64 c, .int .i64 more, .slice a n cap, .int .i64 x] w fun e w' => e = .returned (.bool true) ∧ Below w.heap.size w w' := by
  have HA := Lib.hid (fun W => awake_any W)
  have HB := Lib.hid (Below.refl w.heap.size w)
  rcases h with h | ⟨h1, h2⟩ | ⟨h1, h2, h3⟩ | ⟨h1, h2, h3, h4⟩
  all_goals
    go_enter Try.func6, Try.ntmps6
    go_wp2_with fail
    refine (HA.out _).mono ?_
    rintro e w2 ⟨rfl, h1⟩
    replace HB := Lib.hid (bel_trans HB.out h1); clear h1
    go_wp2
    go_returns
    exact ⟨rfl, HB.out⟩
set_option maxHeartbeats 8000000 in
theorem bad (r c more x E : Int) (a : Option Addr) (n cap : Nat) (zs : List Int) (w : World) (hn : n ≤ 64) (hz : Hid (zs.length ≤ 1000)) (NV : Hid (Nums w (.slice a n cap) zs)) (m0 : 0 ≤ more) (m1 : more ≤ 100000) (hr : r ≤ 100000)
    (e1 : (E == 0) = false) (e2 : (E != 0) = true)
    (A1 : Hid (∀ v W, Nums W v zs → Calls Try.prog 20 #[.int .i64 r, .int .i64 c, v] W fun e w' => e = .returned (.tuple #[.agg #[.int .i64 0, .int .i64 0], .int .i64 E]) ∧ Below W.heap.size W w')) :
    Calls Try.prog 6 #[.int .i64 r, .int .i64 c, .int .i64 more, .slice a n cap, .int .i64 x] w fun e w' => e = .returned (.bool true) ∧ Below w.heap.size w w' := by
  have HA := Lib.hid (fun W => awake_any W)
  have Q1 : ∀ W, (binOp .eql 33 (.agg #[.int .i64 0, .int .i64 0]) (.agg #[.int .i64 0, .int .i64 0])).run Try.prog W = .ok (.bool true) W := fun W => by rw [run_eql_bounds]; rfl
  have HB := Lib.hid (Below.refl w.heap.size w)
  go_enter Try.func6, Try.ntmps6
  go_wp2_with fail
  refine (HA.out _).mono ?_
  rintro e w5 ⟨rfl, h1⟩
  replace NV := Lib.hid (NV.out.below h1)
  replace HB := Lib.hid (bel_trans HB.out h1); clear h1
  go_wp2_with fail
  refine (clone_nums _ zs _ NV.out hz.out).mono ?_
  rintro e w6 ⟨V1, rfl, hx, h1⟩
  replace NV := Lib.hid (NV.out.below h1)
  replace HB := Lib.hid (bel_trans HB.out h1); clear h1
  have N1 := Lib.hid hx; clear hx
  go_wp2_with fail
  refine (A1.out _ _ N1.out).mono ?_
  rintro e w7 ⟨rfl, h1⟩
  replace NV := Lib.hid ((NV.out.below h1).alloc (.cells #[.int .i64 0, .int .i64 0] 33))
  replace N1 := Lib.hid ((N1.out.below h1).alloc (.cells #[.int .i64 0, .int .i64 0] 33))
  replace HB := Lib.hid ((bel_trans HB.out h1).alloc (bel_trans HB.out h1).size (.cells #[.int .i64 0, .int .i64 0] 33)); clear h1
  have T1 := Lib.hid (Two.new w7 (.int .i64 0) (.int .i64 0) 33)
  obtain ⟨T10, T11, T12, T13, T14⟩ := T1.out
  go_wp2
  go_returns
  exact ⟨rfl, HB.out⟩
set_option maxHeartbeats 16000000 in
set_option maxRecDepth 100000 in
theorem good (r c more x L H L2 H2 E2 L3 H3 E3 : Int) (a : Option Addr) (n cap : Nat) (zs : List Int) (w : World) (hn : n ≤ 64) (hz : Hid (zs.length ≤ 1000)) (NV : Hid (Nums w (.slice a n cap) zs)) (m0 : 0 ≤ more) (m1 : more ≤ 100000) (hr : r ≤ 100000)
    (hs : IntKind.i64.wrap (r + more) = r + more)
    (g1 : (E2 == 0) = false ∨ (E2 = 0 ∧ L ≤ L2 ∧ H ≤ H2)) (g2 : (E3 != 0) = true ∨ (E3 = 0 ∧ L ≤ L3 ∧ H ≤ H3))
    (A1 : Hid (∀ v W, Nums W v zs → Calls Try.prog 20 #[.int .i64 r, .int .i64 c, v] W fun e w' => e = .returned (.tuple #[.agg #[.int .i64 L, .int .i64 H], .int .i64 0]) ∧ Below W.heap.size W w'))
    (A2 : Hid (∀ v W, Nums W v zs → Calls Try.prog 20 #[.int .i64 (r + more), .int .i64 c, v] W fun e w' => e = .returned (.tuple #[.agg #[.int .i64 L2, .int .i64 H2], .int .i64 E2]) ∧ Below W.heap.size W w'))
    (A3 : Hid (∀ v W, Nums W v (zs ++ [x]) → Calls Try.prog 20 #[.int .i64 r, .int .i64 c, v] W fun e w' => e = .returned (.tuple #[.agg #[.int .i64 L3, .int .i64 H3], .int .i64 E3]) ∧ Below W.heap.size W w')) :
    Calls Try.prog 6 #[.int .i64 r, .int .i64 c, .int .i64 more, .slice a n cap, .int .i64 x] w fun e w' => e = .returned (.bool true) ∧ Below w.heap.size w w' := by
  obtain ⟨i0, hi, hz0, hz1, hz2⟩ := info_parts info_int
  have HA := Lib.hid (fun W => awake_any W)
  have HB := Lib.hid (Below.refl w.heap.size w)
  go_enter Try.func6, Try.ntmps6
  go_wp2_with fail
  refine (HA.out _).mono ?_
  rintro e w11 ⟨rfl, h1⟩
  replace NV := Lib.hid (NV.out.below h1)
  replace HB := Lib.hid (bel_trans HB.out h1); clear h1
  go_wp2_with fail
  refine (clone_nums _ zs _ NV.out hz.out).mono ?_
  rintro e w12 ⟨V1, rfl, hx, h1⟩
  replace NV := Lib.hid (NV.out.below h1)
  replace HB := Lib.hid (bel_trans HB.out h1); clear h1
  have N1 := Lib.hid hx; clear hx
  go_wp2_with fail
  refine (A1.out _ _ N1.out).mono ?_
  rintro e w13 ⟨rfl, h1⟩
  replace NV := Lib.hid ((NV.out.below h1).alloc (.cells #[.int .i64 L, .int .i64 H] 33))
  replace N1 := Lib.hid ((N1.out.below h1).alloc (.cells #[.int .i64 L, .int .i64 H] 33))
  replace HB := Lib.hid ((bel_trans HB.out h1).alloc (bel_trans HB.out h1).size (.cells #[.int .i64 L, .int .i64 H] 33)); clear h1
  have T1 := Lib.hid (Two.new w13 (.int .i64 L) (.int .i64 H) 33)
  go_wp2_with fail
  refine (clone_nums _ zs _ NV.out hz.out).mono ?_
  rintro e w14 ⟨V2, rfl, hx, h1⟩
  replace NV := Lib.hid (NV.out.below h1)
  replace N1 := Lib.hid (N1.out.below h1)
  replace T1 := Lib.hid (T1.out.below h1)
  replace HB := Lib.hid (bel_trans HB.out h1); clear h1
  have N2 := Lib.hid hx; clear hx
  go_wp2_with fail
  refine (A2.out _ _ N2.out).mono ?_
  rintro e w15 ⟨rfl, h1⟩
  replace NV := Lib.hid ((NV.out.below h1).alloc (.cells #[.int .i64 L2, .int .i64 H2] 33))
  replace N1 := Lib.hid ((N1.out.below h1).alloc (.cells #[.int .i64 L2, .int .i64 H2] 33))
  replace T1 := Lib.hid ((T1.out.below h1).alloc (.cells #[.int .i64 L2, .int .i64 H2] 33))
  replace N2 := Lib.hid ((N2.out.below h1).alloc (.cells #[.int .i64 L2, .int .i64 H2] 33))
  replace HB := Lib.hid ((bel_trans HB.out h1).alloc (bel_trans HB.out h1).size (.cells #[.int .i64 L2, .int .i64 H2] 33)); clear h1
  have T2 := Lib.hid (Two.new w15 (.int .i64 L2) (.int .i64 H2) 33)
  obtain ⟨T10, T11, T12, T13, T14⟩ := T1.out
  obtain ⟨T20, T21, T22, T23, T24⟩ := T2.out
  rcases g1 with g1 | ⟨rfl, g3, g4⟩
  all_goals
    go_wp2_with fail
    refine (clone_own _ zs _ NV.out hz.out).mono ?_
    rintro e w90 ⟨V3, rfl, hown, h1⟩
    have hB : (w15.alloc (.cells #[.int .i64 L2, .int .i64 H2] 33)).heap.size ≤ w90.heap.size := h1.size
    clear T10 T11 T12 T13 T14 T20 T21 T22 T23 T24
    go_wp2_with (at_builtin; refine wpList_append_own _ rfl _ _ 22 rfl (w15.alloc (.cells #[.int .i64 L2, .int .i64 H2] 33)).heap.size 3 i0 (.int .i64 0) 1 8 Try.underlying22 hi hz0 hz1 hz2 rfl (by decide) _ _ _ rfl (hown.alloc _) ⟨w90.heap.size, 0, none⟩ 1 1 [.int .i64 x] rfl rfl ?c1 ?c2 ?c3 ?c4 ?c5 ?_)
    case c1 =>
      intro j u hj
      match j, hj with
      | 0, hj => simp at hj; subst hj; simp [Addr.add]
    case c2 => intro u hu; simp at hu; subst hu; rfl
    case c3 => have := hz.out; unfold maxLen; omega
    case c4 => have := hz.out; omega
    case c5 =>
      rw [World.size_alloc w90]
      exact Nat.le_succ_of_le hB
    intro v' w91 hown' hgrow _
    have hown2 : w91.ownsRow (w15.alloc (.cells #[.int .i64 L2, .int .i64 H2] 33)).heap.size 3 1 v' (zs.length + 1) (zs.map (Value.int .i64) ++ [.int .i64 x]) := by rw [World.size_alloc]; exact hown'
    have R := own_more hB h1 hown hown2 hgrow
    replace NV := Lib.hid (NV.out.below R.2)
    replace T1 := Lib.hid (T1.out.below R.2)
    replace HB := Lib.hid (bel_trans HB.out R.2)
    have N3 := Lib.hid (nums_of_own R.1)
    clear hown hown' hown2 hgrow h1 R hB
    go_wp2_with fail
    refine (A3.out _ _ N3.out).mono ?_
    rintro e w92 ⟨rfl, h1⟩
    replace T1 := Lib.hid ((T1.out.below h1).alloc (.cells #[.int .i64 L3, .int .i64 H3] 33))
    replace HB := Lib.hid ((bel_trans HB.out h1).alloc (bel_trans HB.out h1).size (.cells #[.int .i64 L3, .int .i64 H3] 33)); clear h1
    obtain ⟨T10, T11, _, _, _⟩ := T1.out
    rcases g2 with g2 | ⟨rfl, g5, g6⟩
    all_goals
      go_wp2
      go_returns
      exact ⟨rfl, HB.out⟩
theorem walk (r c more : Int) (v : Value) (zs : List Int) (x : Int) (w : World) (r0 : -9223372036854775808 ≤ r ∧ r ≤ 9223372036854775807) (c0 : -9223372036854775808 ≤ c ∧ c ≤ 9223372036854775807) (m0 : -9223372036854775808 ≤ more ∧ more ≤ 9223372036854775807) (hv : Nums w v zs) (hz : ∀ z ∈ zs, (Lit.int .i64 z).wf = true) (x0 : -9223372036854775808 ≤ x ∧ x ≤ 9223372036854775807) :
    Calls Try.prog 6 #[.int .i64 r, .int .i64 c, .int .i64 more, v, .int .i64 x] w fun e w' => e = .returned (.bool true) ∧ Below w.heap.size w w' := by
  have hv2 := hv
  obtain ⟨a, cap, rfl, ⟨l1, l2⟩, _⟩ := hv
  by_cases h : 64 < zs.length ∨ (zs.length ≤ 64 ∧ more < 0) ∨ (zs.length ≤ 64 ∧ 0 ≤ more ∧ 100000 < more) ∨ (zs.length ≤ 64 ∧ 0 ≤ more ∧ more ≤ 100000 ∧ 100000 < r)
  · exact out r c more x a zs.length cap w (by omega) h
  · by_cases e : arE r c zs = 0
    · obtain ⟨⟨⟨q0, q1⟩, _⟩, _⟩ := arE_zero.1 e
      refine good r c more x (arL r c zs) (arH r c zs) (arL (r + more) c zs) (arH (r + more) c zs) (arE (r + more) c zs) (arL r c (zs ++ [x])) (arH r c (zs ++ [x])) (arE r c (zs ++ [x])) a zs.length cap zs w (by omega) (Lib.hid (by omega)) hv2 (by omega) (by omega) (by omega) (wrap_in _ ⟨by omega, by omega⟩) ?_ ?_ (fun v W hn => ?_) (fun v W hn => area_any _ c v zs W hn) (fun v W hn => area_any r c v _ W hn)
      · by_cases f : arE (r + more) c zs = 0
        · exact .inr ⟨f, grow_more (by omega) e f⟩
        · exact .inl (by simpa using f)
      · by_cases f : arE r c (zs ++ [x]) = 0
        · exact .inr ⟨f, grow_next e f⟩
        · exact .inl (by simpa using f)
      · have := area_any r c v zs W hn
        rwa [e] at this
    · refine bad r c more x _ a zs.length cap zs w (by omega) (Lib.hid (by omega)) hv2 (by omega) (by omega) (by omega) (by simpa using e) (by simpa using e) (fun v W hn => ?_)
      have := area_any r c v zs W hn
      rwa [(ar_none e).1, (ar_none e).2] at this

set_option maxRecDepth 100000 in
theorem lifted (os : Os) (started : os.Started) (H : Type) (enc : TypeId × Value → H) :
    ReturnsInHanded {} Try.checked os 6 .any (Rows.segmentGrowsSpec.pre6 enc Try.prog Try.f6 Rows.segmentGrowsRow.domain false) (Rows.segmentGrowsSpec.post enc Try.prog Try.f6 false true false false) := by
  refine returnsInHanded_of_change (C := Try.checked) own started (by kernel_rfl) Try.func6
    (ChangeSpec.witness6 (enc := enc) (C := Try.checked) false ⟨#[], #[.int .i64 0, .int .i64 0, .int .i64 0, .slice none 0 0, .int .i64 0], []⟩ 8 (by kernel_rfl) (by kernel_rfl) (by kernel_rfl) (by kernel_rfl)) ?_
  intro W base args ds gs before hval0 hW hcnd _
  have hval : ∀ (j : Nat) t v, Try.f6.params[j]? = some t → args[j]? = some v → Value.okWide Try.prog W .any base t v := hval0
  clear hval0
  have hW' := hW
  obtain ⟨p, q, hA0, hV, rfl, hfz, hnd⟩ := hW
  have hA : DataW.TrodAll enc Try.prog W 0 (fun _ => true) true Try.f6.params.toList args.toList ds p := hA0
  rw [Try.params6] at hA hval
  obtain ⟨v0, vs0, d0, ds0, p0, q0, hargs, rfl, rfl, h0, r0⟩ := trodAll_cons hA
  obtain ⟨v1, vs1, d1, ds1, p1, q1, rfl, rfl, rfl, h1, r1⟩ := trodAll_cons r0
  obtain ⟨v2, vs2, d2, ds2, p2, q2, rfl, rfl, rfl, h2, r2⟩ := trodAll_cons r1
  obtain ⟨v3, vs3, d3, ds3, p3, q3, rfl, rfl, rfl, h3, r3⟩ := trodAll_cons r2
  obtain ⟨v4, vs4, d4, ds4, p4, q4, rfl, rfl, rfl, h4, r4⟩ := trodAll_cons r3
  obtain ⟨rfl, rfl, rfl⟩ := trodAll_nil r4
  obtain rfl : args = #[v0, v1, v2, v3, v4] := by cases args; simp_all
  obtain ⟨rfl, rfl⟩ := trodVars_none hV
  have k0 := h0
  have lt0 : ∀ x ∈ p0, x.block < W.heap.size := by obtain ⟨m, hm⟩ := k0; exact DataW.trod_lt m _ _ _ hm
  have k1 := h1
  have lt1 : ∀ x ∈ p1, x.block < W.heap.size := by obtain ⟨m, hm⟩ := k1; exact DataW.trod_lt m _ _ _ hm
  have k2 := h2
  have lt2 : ∀ x ∈ p2, x.block < W.heap.size := by obtain ⟨m, hm⟩ := k2; exact DataW.trod_lt m _ _ _ hm
  have k3 := h3
  have lt3 : ∀ x ∈ p3, x.block < W.heap.size := by obtain ⟨m, hm⟩ := k3; exact DataW.trod_lt m _ _ _ hm
  have k4 := h4
  have lt4 : ∀ x ∈ p4, x.block < W.heap.size := by obtain ⟨m, hm⟩ := k4; exact DataW.trod_lt m _ _ _ hm
  obtain ⟨a0, rfl, rfl, rfl, w0⟩ := open_int Try.underlying3 (hval 0 3 v0 rfl rfl) h0
  obtain ⟨a1, rfl, rfl, rfl, w1⟩ := open_int Try.underlying3 (hval 1 3 v1 rfl rfl) h1
  obtain ⟨a2, rfl, rfl, rfl, w2⟩ := open_int Try.underlying3 (hval 2 3 v2 rfl rfl) h2
  obtain ⟨z3, w3, b3⟩ := open_intSlice Try.underlying22 Try.underlying3 (by kernel_rfl) (hval 3 22 v3 rfl rfl) h3
  obtain ⟨a4, rfl, rfl, rfl, w4⟩ := open_int Try.underlying3 (hval 4 3 v4 rfl rfl) h4
  clear hA0
  refine (walk a0 a1 a2 v3 z3 a4 W (wf_bd w0) (wf_bd w1) (wf_bd w2) w3 b3 (wf_bd w4)).mono fun e W' ⟨he, bel⟩ => ?_
  subst he
  exact ⟨_, rfl, _, _, _, [], _, [], hW', trodAll_mk1 (shut_bool Try.underlying4 _), (trodAll_cons_mk (Below.trod laidOut (by kernel_rfl) (of_decide_eq_true (by kernel_rfl)) k0 bel lt0) (trodAll_cons_mk (Below.trod laidOut (by kernel_rfl) (of_decide_eq_true (by kernel_rfl)) k1 bel lt1) (trodAll_cons_mk (Below.trod laidOut (by kernel_rfl) (of_decide_eq_true (by kernel_rfl)) k2 bel lt2) (trodAll_cons_mk (Below.trod laidOut (by kernel_rfl) (of_decide_eq_true (by kernel_rfl)) k3 bel lt3) (trodAll_cons_mk (Below.trod laidOut (by kernel_rfl) (of_decide_eq_true (by kernel_rfl)) k4 bel lt4) trodAll_mk0))))), rfl, bel.frame _, fun h => by cases h⟩

theorem over : Rows.segmentGrowsRow.holds Try.pinned (OpenSpec.ofChange Rows.segmentGrowsSpec) :=
  OpenClaim.holds_of_wide 6 Try.f6 rfl rfl rfl rfl rfl rfl rfl ⟨rfl, rfl, rfl, rfl, rfl⟩ rfl rfl rfl rfl rfl (by kernel_rfl) Try.func6 (by kernel_rfl)
    (of_decide_eq_true (by kernel_rfl)) (by unfold Func.isWrapper; first | (rw [if_pos (by decide +kernel)]; kernel_rfl) | (rw [if_neg (by decide +kernel)]; exact ⟨rfl, rfl⟩))
    (fun os started H enc _ => lifted os started H enc)

theorem proved : Rows.SegmentGrowsSaid := over
#print axioms proved
end Go.Proofs.Ytlofblpfohnooaa.segmentGrows
