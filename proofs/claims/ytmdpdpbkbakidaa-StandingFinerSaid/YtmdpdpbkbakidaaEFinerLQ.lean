/-
  The statement StandingFiner of spile/spilelaw12 holds: for every input the call returns true, and each argument reads afterwards as it read before.
-/
import Derived.Test.YtmdpdpbkbakidaaM2
import Derived.Test.YtmdpdpbkbakidaaM4
import Derived.Below
import Derived.Carry
set_option linter.unusedVariables false
set_option linter.unusedSimpArgs false
namespace Go.Proofs.Ytmdpdpbkbakidaa.standingFiner
open Go.ChangeShapes Go.WideShapes Go.ChangeAt Go.RowKit
open Go.ChangeMaps (open_string shut_string)
set_option linter.unusedVariables false

set_option maxHeartbeats 32000000 in
set_option maxRecDepth 100000 in
theorem core (mo X Y L H E L3 H3 : Int) (at' : Nat) (is : Bool) (a : Option Addr) (n cap : Nat) (c : Ck) (a2 : Option Addr) (n2 cap2 : Nat) (ps qs : List Int) (w : World) (B1 : Bool)
    (KB : Hid (CkB w.heap.size (w.alloc (.cells #[.string c.nm, .int .i64 c.ps, .slice a n cap, .int .i64 c.dc] 24)) c)) (NP : Hid (Nums (w.alloc (.cells #[.string c.nm, .int .i64 c.ps, .slice a n cap, .int .i64 c.dc] 24)) (.slice a2 n2 cap2) ps))
    (hc : n = c.pf.length) (hl2 : Hid (ps.length = n2)) (hpf : Hid (B1 = true → c.pf.length ≤ 1000)) (hps : Hid (B1 = true → ps.length ≤ 1000))
    (hE : ((E == 0) = false ∧ (E != 0) = true ∧ L = 0 ∧ H = 0) ∨ (E = 0 ∧ 2 ≤ n2 ∧ Hid (ps.getD 0 0 = Y ∧ ps.getD (n2 - 1) 0 = X)))
    (hS : is = true ∨ (is = false ∧ decide (mo < Y) = true) ∨ (is = false ∧ decide (mo < Y) = false ∧ decide (X < mo) = true) ∨ (is = false ∧ decide (mo < Y) = false ∧ decide (X < mo) = false ∧ decide (128 ≤ (n2 : Int)) = true) ∨ (is = false ∧ decide (mo < Y) = false ∧ decide (X < mo) = false ∧ decide (128 ≤ (n2 : Int)) = false ∧ Hid (E = 0 → decide (L ≤ L3) = true ∧ decide (L3 ≤ H3) = true ∧ decide (H3 ≤ H) = true)))
    (FW : Hid (∀ v u W, CkV W v c → Nums W u ps → Calls Try.prog 9 #[v, u] W fun e w' => e = .returned (.bool B1) ∧ Below W.heap.size W w'))
    (H1 : Hid (∀ v u W, CkV W v c → Nums W u ps → Calls Try.prog 19 #[v, u] W fun e w' => e = .returned (.tuple #[.agg #[.int .i64 L, .int .i64 H], .int .i64 E]) ∧ Below W.heap.size W w'))
    (HQ : Hid (E = 0 → ∀ W, Nums W (.slice a2 n2 cap2) ps → Calls Try.prog 20 #[.slice a2 n2 cap2, .int .i64 mo] W fun e w' => e = .returned (.tuple #[.int .i64 at', .bool is]) ∧ Below W.heap.size W w'))
    (HI : Hid (E = 0 → is = false → decide (mo < Y) = false → decide (X < mo) = false → decide (128 ≤ (n2 : Int)) = false → ∀ B v W, W.ownsRow B 3 1 v ps.length (ps.map (Value.int .i64)) → B ≤ W.heap.size → Calls Try.prog 21 #[v, .int .i64 at', .slice (some ⟨W.heap.size, 0, none⟩) 1 1] (W.alloc (.cells #[.int .i64 mo] 3)) fun e w' => ∃ z, e = .returned z ∧ Nums w' z qs ∧ Below B W w'))
    (H3' : Hid (E = 0 → is = false → decide (mo < Y) = false → decide (X < mo) = false → decide (128 ≤ (n2 : Int)) = false → ∀ v u W, CkV W v c → Nums W u qs → Calls Try.prog 19 #[v, u] W fun e w' => e = .returned (.tuple #[.agg #[.int .i64 L3, .int .i64 H3], .int .i64 0]) ∧ Below W.heap.size W w')) :
    Calls Try.prog 5 #[.agg #[.string c.nm, .int .i64 c.ps, .slice a n cap, .int .i64 c.dc], .slice a2 n2 cap2, .int .i64 mo] w fun e w' => e = .returned (.bool true) ∧ Below w.heap.size w w' := by
  subst hc
  have HA := Lib.hid (fun W => awake_any W)
  have Q1 : ∀ (p q : Int) W, (binOp .eql 43 (.agg #[.int .i64 p, .int .i64 q]) (.agg #[.int .i64 p, .int .i64 q])).run Try.prog W = .ok (.bool true) W := fun p q W => by rw [run_eql_bounds, show samB p q p q = true by simp [samB]]
  have HB := Lib.hid ((Below.refl w.heap.size w).alloc (Nat.le_refl _) (.cells #[.string c.nm, .int .i64 c.ps, .slice a c.pf.length cap, .int .i64 c.dc] 24))
  go_enter Try.func5, Try.ntmps5
  go_wp2_with fail
  refine (HA.out _).mono ?_
  rintro e w5 ⟨rfl, h1⟩
  replace HB := Lib.hid (bel_trans HB.out h1)
  replace NP := Lib.hid (NP.out.below h1)
  replace KB := Lib.hid (KB.out.below h1); clear h1
  obtain ⟨a4, cap4, c0, c1, c2, c3, kv⟩ := KB.out.val
  have FO := Lib.hid (FW.out _ _ w5 kv NP.out)
  clear kv
  generalize hL : c.pf.length = LN at *
  go_wp2_with fail
  refine FO.out.mono ?_
  rintro e w6 ⟨rfl, h1⟩
  replace HB := Lib.hid (bel_trans HB.out h1)
  replace NP := Lib.hid (NP.out.below h1)
  replace KB := Lib.hid (KB.out.below h1); clear h1
  clear FO c0 c1 c2 c3
  cases B1 with
  | false =>
    go_wp2
    go_returns
    exact ⟨rfl, HB.out⟩
  | true =>
    have OW : Hid (∀ v W, CkV W v c → Calls Try.prog 15 #[v] W fun e w' => ∃ u, e = .returned u ∧ CkV w' u c ∧ Below W.heap.size W w') := Lib.hid fun v W h => own_any v c W h (by rw [hL]; exact hpf.out rfl)
    have CW : Hid (∀ W, Nums W (.slice a2 n2 cap2) ps → Calls Try.prog 16 #[.slice a2 n2 cap2] W fun e w' => ∃ u, e = .returned u ∧ Nums w' u ps ∧ Below W.heap.size W w') := Lib.hid fun W h => clone_nums _ ps W h (hps.out rfl)
    obtain ⟨a4, cap4, c0, c1, c2, c3, kv⟩ := KB.out.val
    rw [hL] at c2 kv
    go_wp2_with fail
    refine (OW.out _ _ kv).mono ?_
    rintro e w3 ⟨V1, rfl, hx, h1⟩
    replace KB := Lib.hid (KB.out.below h1)
    replace NP := Lib.hid (NP.out.below h1)
    replace HB := Lib.hid (bel_trans HB.out h1); clear h1
    have N1 := Lib.hid hx; clear hx
    clear c0 c1 c2 c3 kv
    go_wp2_with fail
    refine (CW.out _ NP.out).mono ?_
    rintro e w4 ⟨V2, rfl, hx, h1⟩
    replace KB := Lib.hid (KB.out.below h1)
    replace NP := Lib.hid (NP.out.below h1)
    replace N1 := Lib.hid (N1.out.below h1)
    replace HB := Lib.hid (bel_trans HB.out h1); clear h1
    have N2 := Lib.hid hx; clear hx
    go_wp2_with fail
    refine (H1.out _ _ _ N1.out N2.out).mono ?_
    rintro e w5 ⟨rfl, h1⟩
    replace KB := Lib.hid ((KB.out.below h1).alloc (.cells #[.int .i64 L, .int .i64 H] 43))
    replace NP := Lib.hid ((NP.out.below h1).alloc (.cells #[.int .i64 L, .int .i64 H] 43))
    replace N1 := Lib.hid ((N1.out.below h1).alloc (.cells #[.int .i64 L, .int .i64 H] 43))
    replace N2 := Lib.hid ((N2.out.below h1).alloc (.cells #[.int .i64 L, .int .i64 H] 43))
    replace HB := Lib.hid ((bel_trans HB.out h1).alloc (bel_trans HB.out h1).size (.cells #[.int .i64 L, .int .i64 H] 43)); clear h1
    have T1 := Lib.hid (Two.new w5 (.int .i64 L) (.int .i64 H) 43)
    clear N1 N2
    clear FW HA H1
    rcases hE with ⟨e1, e2, rfl, rfl⟩ | ⟨rfl, n0, hX⟩
    · skip
      obtain ⟨T10, T11, T12, T13, T14⟩ := T1.out
      go_wp2
      go_returns
      exact ⟨rfl, HB.out⟩
    · obtain ⟨k2, rfl⟩ : ∃ k2, n2 = k2 + 1 := ⟨n2 - 1, by omega⟩
      have hk : k2 ≤ 999 := by have h1 := hps.out (by trivial); have h2 := hl2.out; omega
      have d2 : decide ((k2 : Int) + 1 < 2) = false := decide_eq_false (by omega)
      go_wp2_with fail
      refine (HQ.out (by trivial) _ NP.out).mono ?_
      rintro e w8 ⟨rfl, h1⟩
      replace KB := Lib.hid (KB.out.below h1)
      replace NP := Lib.hid (NP.out.below h1)
      replace T1 := Lib.hid (T1.out.below h1)
      replace HB := Lib.hid (bel_trans HB.out h1); clear h1
      obtain ⟨b2, off2, rfl, hb', hc'⟩ := LTQ.nums_at NP.out (by omega)
      have cX : ((w8)).cell? ⟨b2, off2 + k2, none⟩ = some (.int .i64 X) := by
        rw [hc' k2 (by omega)]
        have := hX.out.2
        rw [Nat.add_sub_cancel] at this
        rw [this]
      have cY : ((w8)).cell? ⟨b2, off2, none⟩ = some (.int .i64 Y) := by
        have := hc' 0 (by omega)
        rw [hX.out.1] at this
        exact this
      have w1' : IntKind.i64.wrap ((k2 : Int) + 1 - 1) = (k2 : Int) := by rw [wrap_in _ ⟨by omega, by omega⟩]; omega
      have w2' : IntKind.i64.wrap (k2 : Int) = (k2 : Int) := wrap_in _ ⟨by omega, by omega⟩
      have l1' : (k2 : Int) < (k2 : Int) + 1 := by omega
      clear hc'
      rcases hS with rfl | ⟨rfl, g1⟩ | ⟨rfl, g1, g2⟩ | ⟨rfl, g1, g2, g3⟩ | ⟨rfl, g1, g2, g3, hin⟩
      · go_wp2
        go_returns
        exact ⟨rfl, HB.out⟩
      · go_wp2
        go_returns
        exact ⟨rfl, HB.out⟩
      · go_wp2
        go_returns
        exact ⟨rfl, HB.out⟩
      · rw [show (((k2 + 1 : Nat) : Int)) = (k2 : Int) + 1 from by omega] at g3
        go_wp2
        go_returns
        exact ⟨rfl, HB.out⟩
      · have HI2 := Lib.hid (HI.out (by trivial) (by trivial) g1 g2 g3)
        have HB2 := Lib.hid (H3'.out (by trivial) (by trivial) g1 g2 g3)
        rw [show (((k2 + 1 : Nat) : Int)) = (k2 : Int) + 1 from by omega] at g3
        clear HI H3'
        obtain ⟨a8, cap8, c0, c1, c2, c3, kv⟩ := KB.out.val
        rw [hL] at c2 kv
        go_wp2_with fail
        refine (OW.out _ _ kv).mono ?_
        rintro e w9 ⟨V12, rfl, hx, h1⟩
        replace KB := Lib.hid (KB.out.below h1)
        replace NP := Lib.hid (NP.out.below h1)
        replace T1 := Lib.hid (T1.out.below h1)
        replace HB := Lib.hid (bel_trans HB.out h1); clear h1
        have N12 := Lib.hid hx; clear hx
        clear c0 c1 c2 c3 kv cX cY
        go_wp2_with fail
        refine (clone_own _ ps _ NP.out (hps.out (by trivial))).mono ?_
        rintro e w40 ⟨uo, rfl, ho, h1⟩
        have HB40 := h1.size
        have OO := Lib.hid ho
        clear ho
        go_wp2_with fail
        refine (HI2.out _ _ _ OO.out HB40).mono ?_
        rintro e w41 ⟨zi, rfl, hq, h2⟩
        have h12 := h1.trans h2
        replace KB := Lib.hid (KB.out.below h12)
        replace T1 := Lib.hid (T1.out.below h12)
        replace N12 := Lib.hid (N12.out.below h12)
        replace HB := Lib.hid (bel_trans HB.out h12)
        have NQ := Lib.hid hq
        clear hq h1 h2 h12 OO HB40
        clear NP
        go_wp2_with fail
        refine (HB2.out _ _ _ N12.out NQ.out).mono ?_
        rintro e w13 ⟨rfl, h1⟩
        replace KB := Lib.hid ((KB.out.below h1).alloc (.cells #[.int .i64 L3, .int .i64 H3] 43))
        replace T1 := Lib.hid ((T1.out.below h1).alloc (.cells #[.int .i64 L3, .int .i64 H3] 43))
        replace N12 := Lib.hid ((N12.out.below h1).alloc (.cells #[.int .i64 L3, .int .i64 H3] 43))
        replace NQ := Lib.hid ((NQ.out.below h1).alloc (.cells #[.int .i64 L3, .int .i64 H3] 43))
        replace HB := Lib.hid ((bel_trans HB.out h1).alloc (bel_trans HB.out h1).size (.cells #[.int .i64 L3, .int .i64 H3] 43)); clear h1
        have T2 := Lib.hid (Two.new w13 (.int .i64 L3) (.int .i64 H3) 43)
        obtain ⟨g5, g6, g7⟩ := hin.out (by trivial)
        obtain ⟨T10, T11, T12, T13, T14⟩ := T1.out
        obtain ⟨T20, T21, T22, T23, T24⟩ := T2.out
        go_wp2
        go_returns
        exact ⟨rfl, HB.out⟩
theorem walk (z : Value) (c : Ck) (u : Value) (ps : List Int) (mo : Int) (w : World) (hv : CkV w z c) (hu : Nums w u ps) (hz : ∀ z ∈ ps, (Lit.int .i64 z).wf = true) (hm : -9223372036854775808 ≤ mo ∧ mo ≤ 9223372036854775807) :
    Calls Try.prog 5 #[z, u, .int .i64 mo] w fun e w' => e = .returned (.bool true) ∧ Below w.heap.size w w' := by
  obtain ⟨a, cap, rfl, hp, hw⟩ := hv
  have KB := Lib.hid (CkB.new hp hw)
  have hu' := hu
  obtain ⟨a2, cap2, rfl, hc2, _⟩ := hu'
  have fw : (fewC c && decide (ps.length ≤ 129)) = true → c.pf.length ≤ 1000 ∧ ps.length ≤ 1000 := fun h => by
    rw [Bool.and_eq_true, decide_eq_true_eq] at h
    have h1 := fewC_pf h.1
    omega
  have g1 : ∀ x y : Int, decide (x < y) = false → y ≤ x := fun x y h => by have := of_decide_eq_false h; omega
  have g3 : decide (128 ≤ (ps.length : Int)) = false → ps.length ≤ 127 := fun h => by have := of_decide_eq_false h; omega
  refine core mo (ps.getD (ps.length - 1) 0) (ps.getD 0 0) (bwL c ps) (bwH c ps) (stE c ps) (bwL c (pins ps (ps.countP (fun z => decide (z < mo))) mo)) (bwH c (pins ps (ps.countP (fun z => decide (z < mo))) mo)) (ps.countP (fun z => decide (z < mo))) (ps.contains mo) a _ cap c a2 _ cap2 ps (pins ps (ps.countP (fun z => decide (z < mo))) mo) w (fewC c && decide (ps.length ≤ 129)) KB (Lib.hid (hu.below (bel_alloc (Below.refl _ _)))) rfl (Lib.hid rfl) (Lib.hid fun h => (fw h).1) (Lib.hid fun h => (fw h).2) ?_ ?_ (Lib.hid fun v u W h1 h2 => fewE_any v u c ps W h1 h2) (Lib.hid fun v u W h1 h2 => stBw_any v u c ps W h1 h2) (Lib.hid fun h W hW => ?_) (Lib.hid fun h h2 h3 h4 h5 B v W hr hB => ?_) (Lib.hid fun h h2 h3 h4 h5 v u W hv hu => ?_)
  · by_cases e : stE c ps = 0
    · right
      obtain ⟨_, hL⟩ := stE_zero.1 e
      exact ⟨e, hL.n0, Lib.hid ⟨rfl, rfl⟩⟩
    · left
      exact ⟨by simpa using e, by simpa using e, by unfold bwL; rw [if_neg e], by unfold bwH; rw [if_neg e]⟩
  · cases hx : ps.contains mo with
    | true => exact .inl rfl
    | false =>
      right
      cases q1 : decide (mo < ps.getD 0 0) with
      | true => left; exact ⟨rfl, rfl⟩
      | false =>
        right
        cases q2 : decide (ps.getD (ps.length - 1) 0 < mo) with
        | true => left; exact ⟨rfl, rfl, rfl⟩
        | false =>
          right
          cases q3 : decide (128 ≤ (ps.length : Int)) with
          | true => left; exact ⟨rfl, rfl, rfl, rfl⟩
          | false =>
            right
            refine ⟨rfl, rfl, rfl, rfl, Lib.hid fun h => ?_⟩
            obtain ⟨_, m1, m2, m3, _⟩ := EFQ.more_in h (g3 q3) hx (g1 _ _ q1) (g1 _ _ q2)
            exact ⟨decide_eq_true m1, decide_eq_true m2, decide_eq_true m3⟩
  · obtain ⟨_, hL⟩ := stE_zero.1 h
    have n0 := hL.n0
    have n1 := hL.n1
    obtain ⟨b2, off2, rfl, _, _⟩ := LTQ.nums_at hW (by omega)
    exact EFQ.search_any b2 off2 _ cap2 ps mo W hW (by omega) (by omega) (EFQ.asc_pairwise hL.asc)
  · obtain ⟨_, _, _, _, hi⟩ := EFQ.more_in h (g3 h5) h2 (g1 _ _ h3) (g1 _ _ h4)
    exact insert_own B _ v ps mo W hr hB hi (by have := g3 h5; omega)
  · obtain ⟨e2, _⟩ := EFQ.more_in h (g3 h5) h2 (g1 _ _ h3) (g1 _ _ h4)
    have := stBw_any v u c _ W hv hu
    rwa [e2] at this

set_option maxRecDepth 100000 in
theorem lifted (os : Os) (started : os.Started) (H : Type) (enc : TypeId × Value → H) :
    ReturnsInHanded {} Try.checked os 5 .any (Rows.standingFinerSpec.pre6 enc Try.prog Try.f5 Rows.standingFinerRow.domain false) (Rows.standingFinerSpec.post enc Try.prog Try.f5 false true false false) := by
  refine returnsInHanded_of_change (C := Try.checked) own started (by kernel_rfl) Try.func5
    (ChangeSpec.witness6 (enc := enc) (C := Try.checked) false ⟨#[], #[.agg #[.string ByteArray.empty, .int .i64 0, .slice none 0 0, .int .i64 0], .slice none 0 0, .int .i64 0], []⟩ 8 (by kernel_rfl) (by kernel_rfl) (by kernel_rfl) (by kernel_rfl)) ?_
  intro W base args ds gs before hval0 hW hcnd _
  have hval : ∀ (j : Nat) t v, Try.f5.params[j]? = some t → args[j]? = some v → Value.okWide Try.prog W .any base t v := hval0
  clear hval0
  have hW' := hW
  obtain ⟨p, q, hA0, hV, rfl, hfz, hnd⟩ := hW
  have hA : DataW.TrodAll enc Try.prog W 0 (fun _ => true) true Try.f5.params.toList args.toList ds p := hA0
  rw [Try.params5] at hA hval
  obtain ⟨v0, vs0, d0, ds0, p0, q0, hargs, rfl, rfl, h0, r0⟩ := trodAll_cons hA
  obtain ⟨v1, vs1, d1, ds1, p1, q1, rfl, rfl, rfl, h1, r1⟩ := trodAll_cons r0
  obtain ⟨v2, vs2, d2, ds2, p2, q2, rfl, rfl, rfl, h2, r2⟩ := trodAll_cons r1
  obtain ⟨rfl, rfl, rfl⟩ := trodAll_nil r2
  obtain rfl : args = #[v0, v1, v2] := by cases args; simp_all
  obtain ⟨rfl, rfl⟩ := trodVars_none hV
  have k0 := h0
  have lt0 : ∀ x ∈ p0, x.block < W.heap.size := by obtain ⟨m, hm⟩ := k0; exact DataW.trod_lt m _ _ _ hm
  have k1 := h1
  have lt1 : ∀ x ∈ p1, x.block < W.heap.size := by obtain ⟨m, hm⟩ := k1; exact DataW.trod_lt m _ _ _ hm
  have k2 := h2
  have lt2 : ∀ x ∈ p2, x.block < W.heap.size := by obtain ⟨m, hm⟩ := k2; exact DataW.trod_lt m _ _ _ hm
  obtain ⟨z0, w0⟩ := open_ck (hval 0 24 v0 rfl rfl) h0
  obtain ⟨z1, w1, b1⟩ := open_intSlice Try.underlying25 Try.underlying3 (by kernel_rfl) (hval 1 25 v1 rfl rfl) h1
  obtain ⟨a2, rfl, rfl, rfl, w2⟩ := open_int Try.underlying3 (hval 2 3 v2 rfl rfl) h2
  clear hA0
  refine (walk v0 z0 v1 z1 a2 W w0 w1 b1 (wf_bd w2)).mono fun e W' ⟨he, bel⟩ => ?_
  subst he
  exact ⟨_, rfl, _, _, _, [], _, [], hW', trodAll_mk1 (shut_bool Try.underlying4 _), (trodAll_cons_mk (Below.trod laidOut (by kernel_rfl) (of_decide_eq_true (by kernel_rfl)) k0 bel lt0) (trodAll_cons_mk (Below.trod laidOut (by kernel_rfl) (of_decide_eq_true (by kernel_rfl)) k1 bel lt1) (trodAll_cons_mk (Below.trod laidOut (by kernel_rfl) (of_decide_eq_true (by kernel_rfl)) k2 bel lt2) trodAll_mk0))), rfl, bel.frame _, fun h => by cases h⟩

theorem over : Rows.standingFinerRow.holds Try.pinned (OpenSpec.ofChange Rows.standingFinerSpec) :=
  OpenClaim.holds_of_wide 5 Try.f5 rfl rfl rfl rfl rfl rfl rfl ⟨rfl, rfl, rfl, rfl, rfl⟩ rfl rfl rfl rfl rfl (by kernel_rfl) Try.func5 (by kernel_rfl)
    (of_decide_eq_true (by kernel_rfl)) (by unfold Func.isWrapper; first | (rw [if_pos (by decide +kernel)]; kernel_rfl) | (rw [if_neg (by decide +kernel)]; exact ⟨rfl, rfl⟩))
    (fun os started H enc _ => lifted os started H enc)

theorem proved : Rows.StandingFinerSaid := over
#print axioms proved
end Go.Proofs.Ytmdpdpbkbakidaa.standingFiner

