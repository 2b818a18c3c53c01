/-
  The statement LyingTogether of spile/spilelaw11 holds: for every input the call returns true, and each argument reads afterwards as it read before.
-/
import Derived.Test.YtgjdopjolokaiaaM1
import Derived.Test.YtgjdopjolokaiaaM2
import Derived.Test.YtgjdopjolokaiaaM5
import Derived.Below
import Derived.Carry
set_option linter.unusedVariables false
set_option linter.unusedSimpArgs false
namespace Go.Proofs.Ytgjdopjolokaiaa.lyingTogether
open Go.ChangeShapes Go.WideShapes Go.ChangeAt Go.RowKit
open Go.ChangeMaps (open_string shut_string)
set_option linter.unusedVariables false

set_option maxHeartbeats 32000000 in
set_option maxRecDepth 100000 in
theorem core (dip m nn L H E DL DH SL SH : Int) (a : Option Addr) (n cap : Nat) (c : Ck) (w : World) (B1 : Bool)
    (KB : Hid (CkB w.heap.size (w.alloc (.cells #[.string c.nm, .int .i64 c.ps, .slice a n cap, .int .i64 c.dc] 24)) c)) (hc : n = c.pf.length) (hpf : Hid (B1 = true → c.pf.length ≤ 1000))
    (hE : ((E == 0) = false ∧ (E != 0) = true ∧ L = 0 ∧ H = 0 ∧ DL = 0 ∧ DH = 0) ∨ (E = 0 ∧ IntKind.i64.wrap (L + DL) = L + DL ∧ IntKind.i64.wrap (H + DH) = H + DH ∧ decide (L + DL ≤ SH) = true ∧ decide (SL ≤ H + DH) = true))
    (FW : Hid (∀ v u W, CkV W v c → Lns W u [] → Calls Try.prog 9 #[v, u] W fun e w' => e = .returned (.bool B1) ∧ Below W.heap.size W w'))
    (H1 : Hid (∀ v W, CkV W v c → Calls Try.prog 24 #[v, .int .i64 dip, .int .i64 m, .int .i64 nn] W fun e w' => e = .returned (.tuple #[.agg #[.int .i64 L, .int .i64 H], .int .i64 E]) ∧ Below W.heap.size W w'))
    (H2 : Hid (∀ v W, CkV W v c → Calls Try.prog 25 #[v, .int .i64 dip, .int .i64 m, .int .i64 nn] W fun e w' => e = .returned (.tuple #[.agg #[.int .i64 DL, .int .i64 DH], .int .i64 E]) ∧ Below W.heap.size W w'))
    (H3 : Hid (E = 0 → ∀ v W, Pts W v c.pf → Calls Try.prog 26 #[v] W fun e w' => e = .returned (.tuple #[.agg #[.int .i64 SL, .int .i64 SH], .int .i64 0]) ∧ Below W.heap.size W w'))
    (H4 : Hid (E = 0 → ∀ v W, CkV W v c → Calls Try.prog 24 #[v, .int .i64 0, .int .i64 m, .int .i64 nn] W fun e w' => e = .returned (.tuple #[.agg #[.int .i64 0, .int .i64 0], .int .i64 0]) ∧ Below W.heap.size W w')) :
    Calls Try.prog 5 #[.agg #[.string c.nm, .int .i64 c.ps, .slice a n cap, .int .i64 c.dc], .int .i64 dip, .int .i64 m, .int .i64 nn] w fun e w' => e = .returned (.bool true) ∧ Below w.heap.size w w' := by
  subst hc
  have HA := Lib.hid (fun W => awake_any W)
  have Q1 : ∀ (p q : Int) W, (binOp .eql 40 (.agg #[.int .i64 p, .int .i64 q]) (.agg #[.int .i64 p, .int .i64 q])).run Try.prog W = .ok (.bool true) W := fun p q W => by rw [run_eql_bounds, show samB p q p q = true by simp [samB]]
  have HB := Lib.hid ((Below.refl w.heap.size w).alloc (Nat.le_refl _) (.cells #[.string c.nm, .int .i64 c.ps, .slice a c.pf.length cap, .int .i64 c.dc] 24))
  go_enter Try.func5, Try.ntmps5
  go_wp2_with fail
  refine (HA.out _).mono ?_
  rintro e w5 ⟨rfl, h1⟩
  replace HB := Lib.hid (bel_trans HB.out h1)
  replace KB := Lib.hid (KB.out.below h1); clear h1
  obtain ⟨a2, cap2, c0, c1, c2, c3, kv⟩ := KB.out.val
  have FO := Lib.hid (FW.out _ _ w5 kv (lns_nil _))
  clear kv
  generalize hL : c.pf.length = LN at *
  go_wp2_with fail
  refine (FO.out).mono ?_
  rintro e w3 ⟨rfl, h1⟩
  replace KB := Lib.hid (KB.out.below h1)
  replace HB := Lib.hid (bel_trans HB.out h1); clear h1
  clear FO c0 c1 c2 c3
  cases B1 with
  | false =>
    go_wp2
    go_returns
    exact ⟨rfl, HB.out⟩
  | true =>
    have OW : Hid (∀ v W, CkV W v c → Calls Try.prog 15 #[v] W fun e w' => ∃ u, e = .returned u ∧ CkV w' u c ∧ Below W.heap.size W w') := Lib.hid fun v W h => own_any v c W h (by rw [hL]; exact hpf.out rfl)
    obtain ⟨a3, cap3, c0, c1, c2, c3, kv⟩ := KB.out.val
    rw [hL] at c2 kv
    go_wp2_with fail
    refine (OW.out _ _ kv).mono ?_
    rintro e w4 ⟨V1, rfl, hx, h1⟩
    replace KB := Lib.hid (KB.out.below h1)
    replace HB := Lib.hid (bel_trans HB.out h1); clear h1
    have N1 := Lib.hid hx; clear hx
    clear c0 c1 c2 c3 kv
    go_wp2_with fail
    refine (H1.out _ _ N1.out).mono ?_
    rintro e w5 ⟨rfl, h1⟩
    replace KB := Lib.hid ((KB.out.below h1).alloc (.cells #[.int .i64 L, .int .i64 H] 40))
    replace N1 := Lib.hid ((N1.out.below h1).alloc (.cells #[.int .i64 L, .int .i64 H] 40))
    replace HB := Lib.hid ((bel_trans HB.out h1).alloc (bel_trans HB.out h1).size (.cells #[.int .i64 L, .int .i64 H] 40)); clear h1
    have T1 := Lib.hid (Two.new w5 (.int .i64 L) (.int .i64 H) 40)
    clear N1
    obtain ⟨a4, cap4, c0, c1, c2, c3, kv⟩ := KB.out.val
    rw [hL] at c2 kv
    go_wp2_with fail
    refine (OW.out _ _ kv).mono ?_
    rintro e w7 ⟨V2, rfl, hx, h1⟩
    replace KB := Lib.hid (KB.out.below h1)
    replace T1 := Lib.hid (T1.out.below h1)
    replace HB := Lib.hid (bel_trans HB.out h1); clear h1
    have N2 := Lib.hid hx; clear hx
    clear c0 c1 c2 c3 kv
    go_wp2_with fail
    refine (H2.out _ _ N2.out).mono ?_
    rintro e w8 ⟨rfl, h1⟩
    replace KB := Lib.hid ((KB.out.below h1).alloc (.cells #[.int .i64 DL, .int .i64 DH] 40))
    replace T1 := Lib.hid ((T1.out.below h1).alloc (.cells #[.int .i64 DL, .int .i64 DH] 40))
    replace N2 := Lib.hid ((N2.out.below h1).alloc (.cells #[.int .i64 DL, .int .i64 DH] 40))
    replace HB := Lib.hid ((bel_trans HB.out h1).alloc (bel_trans HB.out h1).size (.cells #[.int .i64 DL, .int .i64 DH] 40)); clear h1
    have T2 := Lib.hid (Two.new w8 (.int .i64 DL) (.int .i64 DH) 40)
    clear N2
    rcases hE with ⟨e1, e2, rfl, rfl, rfl, rfl⟩ | ⟨rfl, k1, k2, k3, k4⟩
    · skip
      obtain ⟨T10, T11, T12, T13, T14⟩ := T1.out
      obtain ⟨T20, T21, T22, T23, T24⟩ := T2.out
      go_wp2
      go_returns
      exact ⟨rfl, HB.out⟩
    · obtain ⟨a5, cap5, c0, c1, c2, c3, kv⟩ := KB.out.val
      rw [hL] at c2 kv
      obtain ⟨a9, cap9, e9, hp9, hw9⟩ := kv
      simp only [Value.agg.injEq, Array.mk.injEq, List.cons.injEq, Value.slice.injEq, and_true, true_and] at e9
      obtain ⟨⟨rfl, rfl⟩, rfl⟩ : (a5 = a9 ∧ cap5 = cap9) ∧ LN = c.pf.length := ⟨⟨by simp_all, by simp_all⟩, hL.symm⟩
      go_wp2_with fail
      refine (clone_p _ c.pf _ hp9 (hpf.out (by trivial))).mono ?_
      rintro e w11 ⟨V3, rfl, hx, h1⟩
      replace KB := Lib.hid (KB.out.below h1)
      replace T1 := Lib.hid (T1.out.below h1)
      replace T2 := Lib.hid (T2.out.below h1)
      replace HB := Lib.hid (bel_trans HB.out h1); clear h1
      have N3 := Lib.hid hx; clear hx
      clear c0 c1 c2 c3 hp9 hw9 e9
      go_wp2_with fail
      refine (H3.out (by trivial) _ _ N3.out).mono ?_
      rintro e w12 ⟨rfl, h1⟩
      replace KB := Lib.hid ((KB.out.below h1).alloc (.cells #[.int .i64 SL, .int .i64 SH] 40))
      replace T1 := Lib.hid ((T1.out.below h1).alloc (.cells #[.int .i64 SL, .int .i64 SH] 40))
      replace T2 := Lib.hid ((T2.out.below h1).alloc (.cells #[.int .i64 SL, .int .i64 SH] 40))
      replace N3 := Lib.hid ((N3.out.below h1).alloc (.cells #[.int .i64 SL, .int .i64 SH] 40))
      replace HB := Lib.hid ((bel_trans HB.out h1).alloc (bel_trans HB.out h1).size (.cells #[.int .i64 SL, .int .i64 SH] 40)); clear h1
      have T3 := Lib.hid (Two.new w12 (.int .i64 SL) (.int .i64 SH) 40)
      clear N3
      obtain ⟨a6, cap6, c0, c1, c2, c3, kv⟩ := KB.out.val
      go_wp2_with fail
      refine (OW.out _ _ kv).mono ?_
      rintro e w14 ⟨V4, rfl, hx, h1⟩
      replace KB := Lib.hid (KB.out.below h1)
      replace T1 := Lib.hid (T1.out.below h1)
      replace T2 := Lib.hid (T2.out.below h1)
      replace T3 := Lib.hid (T3.out.below h1)
      replace HB := Lib.hid (bel_trans HB.out h1); clear h1
      have N4 := Lib.hid hx; clear hx
      clear c0 c1 c2 c3 kv
      go_wp2_with fail
      refine (H4.out (by trivial) _ _ N4.out).mono ?_
      rintro e w15 ⟨rfl, h1⟩
      replace KB := Lib.hid ((KB.out.below h1).alloc (.cells #[.int .i64 0, .int .i64 0] 40))
      replace T1 := Lib.hid ((T1.out.below h1).alloc (.cells #[.int .i64 0, .int .i64 0] 40))
      replace T2 := Lib.hid ((T2.out.below h1).alloc (.cells #[.int .i64 0, .int .i64 0] 40))
      replace T3 := Lib.hid ((T3.out.below h1).alloc (.cells #[.int .i64 0, .int .i64 0] 40))
      replace N4 := Lib.hid ((N4.out.below h1).alloc (.cells #[.int .i64 0, .int .i64 0] 40))
      replace HB := Lib.hid ((bel_trans HB.out h1).alloc (bel_trans HB.out h1).size (.cells #[.int .i64 0, .int .i64 0] 40)); clear h1
      have T4 := Lib.hid (Two.new w15 (.int .i64 0) (.int .i64 0) 40)
      clear N4
      obtain ⟨T10, T11, T12, T13, T14⟩ := T1.out
      obtain ⟨T20, T21, T22, T23, T24⟩ := T2.out
      obtain ⟨T30, T31, T32, T33, T34⟩ := T3.out
      obtain ⟨T40, T41, T42, T43, T44⟩ := T4.out
      go_wp2
      go_returns
      exact ⟨rfl, HB.out⟩
theorem walk (z : Value) (c : Ck) (dip m n : Int) (w : World) (hv : CkV w z c) (hdp : -9223372036854775808 ≤ dip ∧ dip ≤ 9223372036854775807) (hm : -9223372036854775808 ≤ m ∧ m ≤ 9223372036854775807) (hn : -9223372036854775808 ≤ n ∧ n ≤ 9223372036854775807) :
    Calls Try.prog 5 #[z, .int .i64 dip, .int .i64 m, .int .i64 n] w fun e w' => e = .returned (.bool true) ∧ Below w.heap.size w w' := by
  obtain ⟨a, cap, rfl, hp, hw⟩ := hv
  have KB := Lib.hid (CkB.new hp hw)
  refine core dip m n (wtL c dip m n) (wtH c dip m n) (wtE c dip m n) (dyL c dip m n) (dyH c dip m n) (spL c.pf) (spH c.pf) a _ cap c w (fewC c && lnB []) KB rfl (Lib.hid fun h => ?_) ?_ (Lib.hid fun v u W h1 h2 => fewL_any v u c [] W h1 h2) (Lib.hid fun v W h => lyWet_any v c dip m n W h) (Lib.hid fun v W h => lyDry_any v c dip m n W h) (Lib.hid fun h => ?_) (Lib.hid fun h => ?_)
  · rw [Bool.and_eq_true] at h
    have := fewC_pf h.1
    omega
  · by_cases g : wtE c dip m n = 0
    · right
      obtain ⟨⟨h1, h2⟩, h3, h4, h5, _, h6, h7⟩ := wtE_zero g
      obtain ⟨_, _, _, hR⟩ := ccE_pf h1
      have e0 := (ckE_iff _).2 hR
      have hl : bg c.pf c.pf.length < c.pf.length := by have := bg_lt c.pf c.pf.length; have := hR.n0; omega
      have br : bgR c.pf ≤ 100000 := (hR.br _ hl).2
      have b1 : wtL c dip m n = tbL c.pf (bgR c.pf) (wtP c dip m n) (hs dip n.toNat) n.toNat ((wtP c dip m n).length - 1) := by unfold wtL; rw [if_pos g]
      have b2 : wtH c dip m n = tbH c.pf (bgR c.pf) (wtP c dip m n) (hs dip n.toNat) n.toNat ((wtP c dip m n).length - 1) := by unfold wtH; rw [if_pos g]
      have b3 : dyL c dip m n = tbL c.pf (bgR c.pf) (wtP c dip m n) (hd dip (2 * bgR c.pf) n.toNat) n.toNat ((wtP c dip m n).length - 1) := by unfold dyL; rw [if_pos g]
      have b4 : dyH c dip m n = tbH c.pf (bgR c.pf) (wtP c dip m n) (hd dip (2 * bgR c.pf) n.toNat) n.toNat ((wtP c dip m n).length - 1) := by unfold dyH; rw [if_pos g]
      have s1 : spL c.pf = cbL (frS c.pf) := by unfold spL; rw [if_pos e0]
      have s2 : spH c.pf = cbH (frS c.pf) := by unfold spH; rw [if_pos e0]
      have T2 := wet_dry (c := bgR c.pf) (p := dip) (n := n.toNat) h3.1 h3.2 (by omega) (by omega)
      have tf := tog_full hR h6 T2
      have hH1 := hs_right dip n.toNat (by omega) (by omega) h3.1 (by omega)
      have hH2 := hd_right (c := bgR c.pf) (p := dip) (n := n.toNat) h3.1 h3.2 br (by omega) (by omega)
      have p0 := h6.n0
      have x1 := tb_bd (c := bgR c.pf) hR h6 hH1 n.toNat (by rw [hs_len]; omega) ((wtP c dip m n).length - 1) (by omega)
      have x2 := tb_bd (c := bgR c.pf) hR h6 hH2 n.toNat (by rw [hd_len]; omega) ((wtP c dip m n).length - 1) (by omega)
      have bp := h6.bd (i := (wtP c dip m n).length - 1) (by omega)
      have bx := hR.bx (c.pf.length - 1) (by have := hR.n0; omega)
      rw [b1, b2, b3, b4, s1, s2]
      exact ⟨g, wrap_in _ ⟨by omega, by omega⟩, wrap_in _ ⟨by omega, by omega⟩, decide_eq_true tf.1, decide_eq_true tf.2⟩
    · left
      exact ⟨by simpa using g, by simpa using g, by unfold wtL; rw [if_neg g], by unfold wtH; rw [if_neg g], by unfold dyL; rw [if_neg g], by unfold dyH; rw [if_neg g]⟩
  · obtain ⟨⟨h1, h2⟩, _⟩ := wtE_zero h
    obtain ⟨_, _, _, hR⟩ := ccE_pf h1
    intro v W hv
    have := cSpc_any v c.pf W hv
    rwa [(ckE_iff _).2 hR] at this
  · obtain ⟨⟨h1, h2⟩, h3, h4, h5, _, h6, h7⟩ := wtE_zero h
    have e0 : wtE c 0 m n = 0 := by
      have ea : wtE c dip m n = if liSE c = 0 then (if dip < 0 ∨ 2 * brQ c < dip ∨ m < 1 ∨ 64 < m ∨ n < 1 ∨ 64 < n then 2 else slE c.pf m) else liSE c := rfl
      have eb : wtE c 0 m n = if liSE c = 0 then (if (0 : Int) < 0 ∨ 2 * brQ c < 0 ∨ m < 1 ∨ 64 < m ∨ n < 1 ∨ 64 < n then 2 else slE c.pf m) else liSE c := rfl
      have hq : brQ c = bgR c.pf := rfl
      rw [if_pos (liSE_zero.2 ⟨h1, h2⟩), if_neg (by omega)] at ea
      rw [eb, if_pos (liSE_zero.2 ⟨h1, h2⟩), if_neg (by omega), ← ea]
      exact h
    intro v W hv
    have := lyWet_any v c 0 m n W hv
    have z := tb_flat (l := c.pf) (c := bgR c.pf) (a := 0) (ps := wtP c 0 m n) (hs := hs 0 n.toNat) n.toNat (fun i hi => hs_zero _ _ hi) ((wtP c 0 m n).length - 1)
    have z1 : wtL c 0 m n = 0 := by unfold wtL; rw [if_pos e0]; exact z.1
    have z2 : wtH c 0 m n = 0 := by unfold wtH; rw [if_pos e0]; exact z.2
    rwa [z1, z2, e0] at this

set_option maxRecDepth 100000 in
theorem lifted (os : Os) (started : os.Started) (H : Type) (enc : TypeId × Value → H) :
    ReturnsInHanded {} Try.checked os 5 .any (Rows.lyingTogetherSpec.pre6 enc Try.prog Try.f5 Rows.lyingTogetherRow.domain false) (Rows.lyingTogetherSpec.post enc Try.prog Try.f5 false true false false) := by
  refine returnsInHanded_of_change (C := Try.checked) own started (by kernel_rfl) Try.func5
    (ChangeSpec.witness6 (enc := enc) (C := Try.checked) false ⟨#[], #[.agg #[.string ByteArray.empty, .int .i64 0, .slice none 0 0, .int .i64 0], .int .i64 0, .int .i64 0, .int .i64 0], []⟩ 8 (by kernel_rfl) (by kernel_rfl) (by kernel_rfl) (by kernel_rfl)) ?_
  intro W base args ds gs before hval0 hW hcnd _
  have hval : ∀ (j : Nat) t v, Try.f5.params[j]? = some t → args[j]? = some v → Value.okWide Try.prog W .any base t v := hval0
  clear hval0
  have hW' := hW
  obtain ⟨p, q, hA0, hV, rfl, hfz, hnd⟩ := hW
  have hA : DataW.TrodAll enc Try.prog W 0 (fun _ => true) true Try.f5.params.toList args.toList ds p := hA0
  rw [Try.params5] at hA hval
  obtain ⟨v0, vs0, d0, ds0, p0, q0, hargs, rfl, rfl, h0, r0⟩ := trodAll_cons hA
  obtain ⟨v1, vs1, d1, ds1, p1, q1, rfl, rfl, rfl, h1, r1⟩ := trodAll_cons r0
  obtain ⟨v2, vs2, d2, ds2, p2, q2, rfl, rfl, rfl, h2, r2⟩ := trodAll_cons r1
  obtain ⟨v3, vs3, d3, ds3, p3, q3, rfl, rfl, rfl, h3, r3⟩ := trodAll_cons r2
  obtain ⟨rfl, rfl, rfl⟩ := trodAll_nil r3
  obtain rfl : args = #[v0, v1, v2, v3] := by cases args; simp_all
  obtain ⟨rfl, rfl⟩ := trodVars_none hV
  have k0 := h0
  have lt0 : ∀ x ∈ p0, x.block < W.heap.size := by obtain ⟨m, hm⟩ := k0; exact DataW.trod_lt m _ _ _ hm
  have k1 := h1
  have lt1 : ∀ x ∈ p1, x.block < W.heap.size := by obtain ⟨m, hm⟩ := k1; exact DataW.trod_lt m _ _ _ hm
  have k2 := h2
  have lt2 : ∀ x ∈ p2, x.block < W.heap.size := by obtain ⟨m, hm⟩ := k2; exact DataW.trod_lt m _ _ _ hm
  have k3 := h3
  have lt3 : ∀ x ∈ p3, x.block < W.heap.size := by obtain ⟨m, hm⟩ := k3; exact DataW.trod_lt m _ _ _ hm
  obtain ⟨z0, w0⟩ := open_ck (hval 0 24 v0 rfl rfl) h0
  obtain ⟨a1, rfl, rfl, rfl, w1⟩ := open_int Try.underlying3 (hval 1 3 v1 rfl rfl) h1
  obtain ⟨a2, rfl, rfl, rfl, w2⟩ := open_int Try.underlying3 (hval 2 3 v2 rfl rfl) h2
  obtain ⟨a3, rfl, rfl, rfl, w3⟩ := open_int Try.underlying3 (hval 3 3 v3 rfl rfl) h3
  clear hA0
  refine (walk v0 z0 a1 a2 a3 W w0 (wf_bd w1) (wf_bd w2) (wf_bd w3)).mono fun e W' ⟨he, bel⟩ => ?_
  subst he
  exact ⟨_, rfl, _, _, _, [], _, [], hW', trodAll_mk1 (shut_bool Try.underlying4 _), (trodAll_cons_mk (Below.trod laidOut (by kernel_rfl) (of_decide_eq_true (by kernel_rfl)) k0 bel lt0) (trodAll_cons_mk (Below.trod laidOut (by kernel_rfl) (of_decide_eq_true (by kernel_rfl)) k1 bel lt1) (trodAll_cons_mk (Below.trod laidOut (by kernel_rfl) (of_decide_eq_true (by kernel_rfl)) k2 bel lt2) (trodAll_cons_mk (Below.trod laidOut (by kernel_rfl) (of_decide_eq_true (by kernel_rfl)) k3 bel lt3) trodAll_mk0)))), rfl, bel.frame _, fun h => by cases h⟩

theorem over : Rows.lyingTogetherRow.holds Try.pinned (OpenSpec.ofChange Rows.lyingTogetherSpec) :=
  OpenClaim.holds_of_wide 5 Try.f5 rfl rfl rfl rfl rfl rfl rfl ⟨rfl, rfl, rfl, rfl, rfl⟩ rfl rfl rfl rfl rfl (by kernel_rfl) Try.func5 (by kernel_rfl)
    (of_decide_eq_true (by kernel_rfl)) (by unfold Func.isWrapper; first | (rw [if_pos (by decide +kernel)]; kernel_rfl) | (rw [if_neg (by decide +kernel)]; exact ⟨rfl, rfl⟩))
    (fun os started H enc _ => lifted os started H enc)

theorem proved : Rows.LyingTogetherSaid := over
#print axioms proved
end Go.Proofs.Ytgjdopjolokaiaa.lyingTogether

