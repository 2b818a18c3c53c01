/-
  The statement LotChecks of spile/spilelaw22 holds: for every input the call returns true, and each argument reads afterwards as it read before. (The listed package variables hold what the program lays: the card ties them.)
-/
import Derived.Test.YtfpdanjhlepckaaDoorLRK2
import Derived.Test.YtfpdanjhlepckaaDoorLO
import Derived.Test.YtfpdanjhlepckaaDoorCards
import Derived.Test.YtfpdanjhlepckaaDoorTie
import Derived.Below
import Derived.Carry
import Derived.Lib.LaidTab
import Derived.Deep.DeepHandedRow
import Derived.SevenTiedPlain
import Derived.Lay
namespace Go.Proofs.YtfpdanjhlepckaaDoor.lotChecks
open Go.ChangeShapes Go.WideShapes Go.ChangeAt Go.RowKit
open Go.ChangeMaps (open_string shut_string)
set_option linter.unusedVariables false

set_option maxHeartbeats 32000000 in
set_option maxRecDepth 100000 in
theorem core (a : Option Addr) (n cap : Nat) (id fl IX E cd cA cM tA tM tE oV oE : Int) (FB : Bool) (cS : List (Int × Int)) (l : List Lt) (w : World) (HV : Hid (CV w)) (NV : Hid (Lts w (.slice a n cap) l)) (zs : Hid (cS.length ≤ 1000))
    (FW : Hid (∀ W, Lts W (.slice a n cap) l → Calls Tryd.prog 11 #[.slice a n cap] W fun e w' => (e = .returned (.bool false) ∨ (e = .returned (.bool true) ∧ Hid (fwN l.length = true ∧ ∀ j, j < l.length → fwS (gL l j).sh.length = true))) ∧ Below W.heap.size W w'))
    (C1 : Hid ((fwN l.length = true ∧ ∀ j, j < l.length → fwS (gL l j).sh.length = true) → ∀ W, Lts W (.slice a n cap) l → Calls Tryd.prog 12 #[.slice a n cap] W fun e w' => e = .returned (.tuple #[.int .i64 IX, .int .i64 E]) ∧ Below W.heap.size W w'))
    (C2 : Hid ((fwN l.length = true ∧ ∀ j, j < l.length → fwS (gL l j).sh.length = true) → ∀ W, Lts W (.slice a n cap) l → Calls Tryd.prog 13 #[.slice a n cap] W fun e w' => e = .returned (.tuple #[.int .i64 IX, .int .i64 E]) ∧ Below W.heap.size W w'))
    (C3 : Hid ((fwN l.length = true ∧ ∀ j, j < l.length → fwS (gL l j).sh.length = true) → ∀ W, Lts W (.slice a n cap) l → Calls Tryd.prog 14 #[.slice a n cap, .int .i64 id] W fun e w' => ∃ u, e = .returned (.tuple #[.agg #[.int .i64 cd, .int .i64 cA, .int .i64 cM, u], .bool FB]) ∧ RH.Sh w' W.heap.size u cS ∧ Below W.heap.size W w'))
    (C4 : Hid ((fwN l.length = true ∧ ∀ j, j < l.length → fwS (gL l j).sh.length = true) → ∀ W, Lts W (.slice a n cap) l → Calls Tryd.prog 15 #[.slice a n cap, .int .i64 id] W fun e w' => ∃ u, e = .returned (.tuple #[.agg #[.int .i64 cd, .int .i64 cA, .int .i64 cM, u], .bool FB]) ∧ RH.Sh w' W.heap.size u cS ∧ Below W.heap.size W w'))
    (C5 : Hid ((fwN l.length = true ∧ ∀ j, j < l.length → fwS (gL l j).sh.length = true) → ∀ W, Lts W (.slice a n cap) l → Calls Tryd.prog 16 #[.slice a n cap] W fun e w' => e = .returned (.tuple #[.agg #[.int .i64 tA, .int .i64 tM], .int .i64 tE]) ∧ Below W.heap.size W w'))
    (C6 : Hid ((fwN l.length = true ∧ ∀ j, j < l.length → fwS (gL l j).sh.length = true) → ∀ W, Lts W (.slice a n cap) l → Calls Tryd.prog 17 #[.slice a n cap] W fun e w' => e = .returned (.tuple #[.agg #[.int .i64 tA, .int .i64 tM], .int .i64 tE]) ∧ Below W.heap.size W w'))
    (C7 : Hid ((fwN l.length = true ∧ ∀ j, j < l.length → fwS (gL l j).sh.length = true) → ∀ W, Lts W (.slice a n cap) l → Calls Tryd.prog 18 #[.slice a n cap, .int .i64 fl] W fun e w' => e = .returned (.tuple #[.int .i64 oV, .int .i64 oE]) ∧ Below W.heap.size W w'))
    (C8 : Hid ((fwN l.length = true ∧ ∀ j, j < l.length → fwS (gL l j).sh.length = true) → ∀ W, Lts W (.slice a n cap) l → Calls Tryd.prog 19 #[.slice a n cap, .int .i64 fl] W fun e w' => e = .returned (.tuple #[.int .i64 oV, .int .i64 oE]) ∧ Below W.heap.size W w')) :
    Calls Tryd.prog 3 #[.slice a n cap, .int .i64 id, .int .i64 fl] w fun e w' => e = .returned (.bool true) ∧ Below w.heap.size w w' := by
  have HB := Lib.hid (Below.refl w.heap.size w)
  have q1 : ∀ W, (binOp .eql 29 (.agg #[.int .i64 tA, .int .i64 tM]) (.agg #[.int .i64 tA, .int .i64 tM])).run Tryd.prog W = .ok (.bool true) W := fun W => by rw [run_eql_liq]; simp [samP]
  have SL := Lib.hid (fun a a' cap cap' W h h' => rlSl_any ⟨cd, cA, cM, cS⟩ ⟨cd, cA, cM, cS⟩ a a' cap cap' W h h' zs.out)
  rw [show ltSame ⟨cd, cA, cM, cS⟩ ⟨cd, cA, cM, cS⟩ = true by simp [ltSame, samP]] at SL
  unfold ltV at SL
  simp only at SL
  go_enter Tryd.func3, Tryd.ntmps3
  go_wp2_with fail
  refine (awakeL_any w HV.out).mono ?_
  rintro e w1 ⟨rfl, h1⟩
  replace NV := Lib.hid (NV.out.below h1)
  replace HB := Lib.hid (bel_trans HB.out h1); clear h1
  go_wp2_with fail
  refine (FW.out _ NV.out).mono ?_
  rintro e w2 ⟨h0, h1⟩
  replace NV := Lib.hid (NV.out.below h1)
  replace HB := Lib.hid (bel_trans HB.out h1); clear h1
  rcases h0 with rfl | ⟨rfl, hG⟩
  · go_wp2
    go_returns
    exact ⟨rfl, HB.out⟩
  replace C1 := Lib.hid (C1.out hG.out)
  replace C2 := Lib.hid (C2.out hG.out)
  replace C3 := Lib.hid (C3.out hG.out)
  replace C4 := Lib.hid (C4.out hG.out)
  replace C5 := Lib.hid (C5.out hG.out)
  replace C6 := Lib.hid (C6.out hG.out)
  replace C7 := Lib.hid (C7.out hG.out)
  replace C8 := Lib.hid (C8.out hG.out)
  clear FW hG
  go_wp2_with fail
  refine (C1.out _ NV.out).mono ?_
  rintro e w3 ⟨rfl, h1⟩
  replace NV := Lib.hid (NV.out.below h1)
  replace HB := Lib.hid (bel_trans HB.out h1); clear h1
  go_wp2_with fail
  refine (C2.out _ NV.out).mono ?_
  rintro e w4 ⟨rfl, h1⟩
  replace NV := Lib.hid (NV.out.below h1)
  replace HB := Lib.hid (bel_trans HB.out h1); clear h1
  go_wp2_with fail
  refine (C3.out _ NV.out).mono ?_
  rintro e w5 ⟨u1, rfl, hu, h1⟩
  replace NV := Lib.hid (NV.out.below h1)
  replace HB := Lib.hid (bel_trans HB.out h1); clear h1
  obtain ⟨a1, c1, hue⟩ := hu.shape
  subst hue
  have P1 := Lib.hid hu.pts
  clear hu
  have T1 := Lib.hid (Quad.new w5 (.int .i64 cd) (.int .i64 cA) (.int .i64 cM) (.slice a1 cS.length c1) 32)
  have hx : Below w5.heap.size w5 (w5.alloc (.cells #[.int .i64 cd, .int .i64 cA, .int .i64 cM, .slice a1 cS.length c1] 32)) := bel_alloc (Below.refl _ _)
  replace NV := Lib.hid (NV.out.below hx)
  replace P1 := Lib.hid (P1.out.below hx)
  replace HB := Lib.hid (bel_trans HB.out hx); clear hx
  go_wp2_with fail
  refine (C4.out _ NV.out).mono ?_
  rintro e w6 ⟨u2, rfl, hu, h1⟩
  replace NV := Lib.hid (NV.out.below h1)
  replace P1 := Lib.hid (P1.out.below h1)
  replace T1 := Lib.hid (T1.out.below h1)
  replace HB := Lib.hid (bel_trans HB.out h1); clear h1
  obtain ⟨a2, c2, hue⟩ := hu.shape
  subst hue
  have P2 := Lib.hid hu.pts
  clear hu
  have T2 := Lib.hid (Quad.new w6 (.int .i64 cd) (.int .i64 cA) (.int .i64 cM) (.slice a2 cS.length c2) 32)
  have hx : Below w6.heap.size w6 (w6.alloc (.cells #[.int .i64 cd, .int .i64 cA, .int .i64 cM, .slice a2 cS.length c2] 32)) := bel_alloc (Below.refl _ _)
  replace NV := Lib.hid (NV.out.below hx)
  replace P1 := Lib.hid (P1.out.below hx)
  replace T1 := Lib.hid (T1.out.below hx)
  replace P2 := Lib.hid (P2.out.below hx)
  replace HB := Lib.hid (bel_trans HB.out hx); clear hx
  go_wp2_with fail
  refine (C5.out _ NV.out).mono ?_
  rintro e w7 ⟨rfl, h1⟩
  replace NV := Lib.hid (NV.out.below h1)
  replace P1 := Lib.hid (P1.out.below h1)
  replace T1 := Lib.hid (T1.out.below h1)
  replace P2 := Lib.hid (P2.out.below h1)
  replace T2 := Lib.hid (T2.out.below h1)
  replace HB := Lib.hid (bel_trans HB.out h1); clear h1
  have T3 := Lib.hid (Two.new w7 (.int .i64 tA) (.int .i64 tM) 29)
  have hx : Below w7.heap.size w7 (w7.alloc (.cells #[.int .i64 tA, .int .i64 tM] 29)) := bel_alloc (Below.refl _ _)
  replace NV := Lib.hid (NV.out.below hx)
  replace P1 := Lib.hid (P1.out.below hx)
  replace T1 := Lib.hid (T1.out.below hx)
  replace P2 := Lib.hid (P2.out.below hx)
  replace T2 := Lib.hid (T2.out.below hx)
  replace HB := Lib.hid (bel_trans HB.out hx); clear hx
  go_wp2_with fail
  refine (C6.out _ NV.out).mono ?_
  rintro e w8 ⟨rfl, h1⟩
  replace NV := Lib.hid (NV.out.below h1)
  replace P1 := Lib.hid (P1.out.below h1)
  replace T1 := Lib.hid (T1.out.below h1)
  replace P2 := Lib.hid (P2.out.below h1)
  replace T2 := Lib.hid (T2.out.below h1)
  replace T3 := Lib.hid (T3.out.below h1)
  replace HB := Lib.hid (bel_trans HB.out h1); clear h1
  have T4 := Lib.hid (Two.new w8 (.int .i64 tA) (.int .i64 tM) 29)
  have hx : Below w8.heap.size w8 (w8.alloc (.cells #[.int .i64 tA, .int .i64 tM] 29)) := bel_alloc (Below.refl _ _)
  replace NV := Lib.hid (NV.out.below hx)
  replace P1 := Lib.hid (P1.out.below hx)
  replace T1 := Lib.hid (T1.out.below hx)
  replace P2 := Lib.hid (P2.out.below hx)
  replace T2 := Lib.hid (T2.out.below hx)
  replace T3 := Lib.hid (T3.out.below hx)
  replace HB := Lib.hid (bel_trans HB.out hx); clear hx
  go_wp2_with fail
  refine (C7.out _ NV.out).mono ?_
  rintro e w9 ⟨rfl, h1⟩
  replace NV := Lib.hid (NV.out.below h1)
  replace P1 := Lib.hid (P1.out.below h1)
  replace T1 := Lib.hid (T1.out.below h1)
  replace P2 := Lib.hid (P2.out.below h1)
  replace T2 := Lib.hid (T2.out.below h1)
  replace T3 := Lib.hid (T3.out.below h1)
  replace T4 := Lib.hid (T4.out.below h1)
  replace HB := Lib.hid (bel_trans HB.out h1); clear h1
  go_wp2_with fail
  refine (C8.out _ NV.out).mono ?_
  rintro e w10 ⟨rfl, h1⟩
  replace NV := Lib.hid (NV.out.below h1)
  replace P1 := Lib.hid (P1.out.below h1)
  replace T1 := Lib.hid (T1.out.below h1)
  replace P2 := Lib.hid (P2.out.below h1)
  replace T2 := Lib.hid (T2.out.below h1)
  replace T3 := Lib.hid (T3.out.below h1)
  replace T4 := Lib.hid (T4.out.below h1)
  replace HB := Lib.hid (bel_trans HB.out h1); clear h1
  obtain ⟨x0, x1, x2, x3, _, _⟩ := T1.out
  obtain ⟨y0, y1, y2, y3, _, _⟩ := T2.out
  obtain ⟨z0, z1, _, _, _⟩ := T3.out
  obtain ⟨v0, v1, _, _, _⟩ := T4.out
  go_wp2_with fail
  refine (SL.out _ _ _ _ _ P1.out P2.out).mono ?_
  rintro e w11 ⟨rfl, h1⟩
  replace HB := Lib.hid (bel_trans HB.out h1)
  replace T3 := Lib.hid (T3.out.below h1)
  replace T4 := Lib.hid (T4.out.below h1)
  clear h1 x0 x1 x2 x3 y0 y1 y2 y3 z0 z1 v0 v1
  obtain ⟨z0, z1, _, _, _⟩ := T3.out
  obtain ⟨v0, v1, _, _, _⟩ := T4.out
  go_wp2
  go_returns
  exact ⟨rfl, HB.out⟩
theorem walk (v : Value) (l : List Lt) (id fl : Int) (w : World) (hv : Lts w v l) (_ : -9223372036854775808 ≤ id ∧ id ≤ 9223372036854775807) (_ : -9223372036854775808 ≤ fl ∧ fl ≤ 9223372036854775807) (hw : CV w) :
    Calls Tryd.prog 3 #[v, .int .i64 id, .int .i64 fl] w fun e w' => e = .returned (.bool true) ∧ Below w.heap.size w w' := by
  have hv2 := Lib.hid hv
  obtain ⟨a, cap, rfl, _, _⟩ := hv.shape
  have HL : (fwN l.length = true ∧ ∀ j, j < l.length → fwS (gL l j).sh.length = true) → l.length ≤ 1000 ∧ ∀ j, j < l.length → (gL l j).sh.length ≤ 1000 := fun ⟨h1, h2⟩ => ⟨by have := fwN_iff.1 h1; omega, fun j hj => by have := fwS_iff.1 (h2 j hj); omega⟩
  by_cases hz : (fdL l id).sh.length ≤ 1000
  · exact core a l.length cap id fl _ _ _ _ _ _ _ _ _ _ _ (fdL l id).sh l w (Lib.hid hw) hv2 (Lib.hid hz) (Lib.hid fun W h => rlFw_any _ l W h) (Lib.hid fun g W h => ltCh_any _ l W h (HL g).2) (Lib.hid fun g W h => rlCh_any _ l W h) (Lib.hid fun g W h => ltFd_any _ l id W h (HL g).1 (HL g).2) (Lib.hid fun g W h => rlFd_any _ l id W h (HL g).1 (HL g).2) (Lib.hid fun g W h => ltTo_any _ l W h (HL g).2) (Lib.hid fun g W h => rlTo_any _ l W h) (Lib.hid fun g W h => ltOf_any _ l fl W h (HL g).2) (Lib.hid fun g W h => rlOf_any _ l fl W h)
  · have ng : ¬ (fwN l.length = true ∧ ∀ j, j < l.length → fwS (gL l j).sh.length = true) := fun g => hz (by
      unfold fdL
      split
      · exact (HL g).2 _ (by assumption)
      · show ([] : List (Int × Int)).length ≤ 1000; simp)
    exact core a l.length cap id fl 0 0 0 0 0 0 0 0 0 0 false [] l w (Lib.hid hw) hv2 (Lib.hid (by simp)) (Lib.hid fun W h => rlFw_any _ l W h) (Lib.hid fun g => absurd g ng) (Lib.hid fun g => absurd g ng) (Lib.hid fun g => absurd g ng) (Lib.hid fun g => absurd g ng) (Lib.hid fun g => absurd g ng) (Lib.hid fun g => absurd g ng) (Lib.hid fun g => absurd g ng) (Lib.hid fun g => absurd g ng)

set_option maxRecDepth 100000 in
theorem contract (H : Type) (enc : TypeId × Value → H) (W : World) (base : Nat) (args : Array Value) (ds gs : List (DataW H)) (before : List MemPlace)
    (hval : ∀ (j : Nat) t v, Tryd.f3.params[j]? = some t → args[j]? = some v → Value.okWide Tryd.prog W .any base t v)
    (hW : DataW.Whole enc Tryd.prog Tryd.f3.params.toList Rows.lotChecksSpec.vars false W args.toList ds gs before) (hL : laidMetH Tryd.prog Rows.lotChecksRow.laid W) (hSh : W.ShapedOpen Tryd.prog) :
    Calls Tryd.prog 3 args W fun e W' => ∃ v, e = .returned v ∧ Rows.lotChecksSpec.post enc Tryd.prog Tryd.f3 false true false false W args v W' := by
  have hW' := hW
  obtain ⟨p, q, hA0, hV, rfl, hfz, hnd⟩ := hW
  have hA : DataW.TrodAll enc Tryd.prog W 0 (fun _ => true) true Tryd.f3.params.toList args.toList ds p := hA0
  rw [Tryd.params3] at hA hval
  obtain ⟨v0, vs0, d0, ds0, p0, q0, hargs, rfl, rfl, h0, r0⟩ := trodAll_cons hA
  obtain ⟨v1, vs1, d1, ds1, p1, q1, rfl, rfl, rfl, h1, r1⟩ := trodAll_cons r0
  obtain ⟨v2, vs2, d2, ds2, p2, q2, rfl, rfl, rfl, h2, r2⟩ := trodAll_cons r1
  obtain ⟨rfl, rfl, rfl⟩ := trodAll_nil r2
  obtain rfl : args = #[v0, v1, v2] := by cases args; simp_all
  obtain ⟨rfl, rfl⟩ := trodVars_none hV
  have k0 := h0
  have lt0 : ∀ x ∈ p0, x.block < W.heap.size := by obtain ⟨m, hm⟩ := k0; exact DataW.trod_lt m _ _ _ hm
  have k1 := h1
  have lt1 : ∀ x ∈ p1, x.block < W.heap.size := by obtain ⟨m, hm⟩ := k1; exact DataW.trod_lt m _ _ _ hm
  have k2 := h2
  have lt2 : ∀ x ∈ p2, x.block < W.heap.size := by obtain ⟨m, hm⟩ := k2; exact DataW.trod_lt m _ _ _ hm
  obtain ⟨z0, w0⟩ := open_lts (hval 0 22 v0 rfl rfl) h0
  obtain ⟨a1, rfl, rfl, rfl, w1⟩ := open_int Tryd.underlying3 (hval 1 3 v1 rfl rfl) h1
  obtain ⟨a2, rfl, rfl, rfl, w2⟩ := open_int Tryd.underlying3 (hval 2 3 v2 rfl rfl) h2
  clear hA0
  refine (walk v0 z0 a1 a2 W w0 (wf_bd w1) (wf_bd w2) (laid_of rfl hL hSh)).mono fun e W' ⟨he, bel⟩ => ?_
  subst he
  exact ⟨_, rfl, _, _, _, [], _, [], hW', trodAll_mk1 (shut_bool Tryd.underlying4 _), (trodAll_cons_mk (Below.trod laidOut (by kernel_rfl) (of_decide_eq_true (by kernel_rfl)) k0 bel lt0) (trodAll_cons_mk (Below.trod laidOut (by kernel_rfl) (of_decide_eq_true (by kernel_rfl)) k1 bel lt1) (trodAll_cons_mk (Below.trod laidOut (by kernel_rfl) (of_decide_eq_true (by kernel_rfl)) k2 bel lt2) trodAll_mk0))), rfl, bel.frame _, fun h => by cases h⟩

noncomputable def laidWorld (os : Os) : World := World.laidAll Tryd.prog os Rows.lotChecksRow.laid
theorem laid_met (os : Os) : laidMet Tryd.prog Rows.lotChecksRow.laid ((laidWorld os).forCall (fun _ _ => 0) ⟨#[], #[.slice none 0 0, .int .i64 0, .int .i64 0], []⟩).memory :=
  laidMet_laidAll _ (by kernel_rfl) (by kernel_rfl)
theorem reads (os : Os) {H : Type} (enc : TypeId × Value → H) : ∃ places, DataW.whole enc Tryd.prog ((laidWorld os).forCall (fun _ _ => 0) ⟨#[], #[.slice none 0 0, .int .i64 0, .int .i64 0], []⟩).memory Tryd.f3.params.toList Rows.lotChecksSpec.vars false (#[.slice none 0 0, .int .i64 0, .int .i64 0] : Array Value).toList 8 = some ([.nil, .lit (.int .i64 0), .lit (.int .i64 0)], [], places) :=
  ⟨[], by kernel_rfl⟩

set_option maxRecDepth 100000 in
theorem lifted (os : Os) (started : os.Started) (H : Type) (enc : TypeId × Value → H) (F : Stop.Interp) :
    ReturnsInHanded {} Tryd.checked os 3 .any ((OpenSpec.ofChange Rows.lotChecksSpec).preRow enc Tryd.prog Tryd.f3 Rows.lotChecksRow.domain false Rows.lotChecksRow.laid) (((OpenSpec.ofChange Rows.lotChecksSpec).at F).post enc Tryd.prog Tryd.f3 false true false false) := by
  obtain ⟨places, hx⟩ := reads os enc
  refine returnsInHanded_of_row (C := Tryd.checked) (s := OpenSpec.ofChange Rows.lotChecksSpec) own started (by kernel_rfl) Tryd.func3
    (witness_row_at (enc := enc) (C := Tryd.checked) false (laidWorld os) #[.slice none 0 0, .int .i64 0, .int .i64 0] (World.laidAll_os _ _ _) (by kernel_rfl) (by kernel_rfl) (by kernel_rfl)
      (OpenSpec.preRow_of_cond 8 hx (by kernel_rfl) (fun k hk => by cases hk) (by kernel_rfl) (laid_met os))) ?_
  intro W base args ds gs before hval hW _ _ _ hL hSh _
  exact contract H enc W base args ds gs before hval hW hL hSh

theorem said : Rows.LotChecksSaid :=
  OpenClaim.holds_of_cond 3 Tryd.f3 rfl rfl rfl rfl rfl rfl rfl ⟨rfl, rfl, rfl, rfl, rfl⟩ rfl rfl rfl rfl rfl (by kernel_rfl) Tryd.func3 (by kernel_rfl)
    (of_decide_eq_true (by kernel_rfl)) (by unfold Func.isWrapper; first | (rw [if_pos (by decide +kernel)]; kernel_rfl) | (rw [if_neg (by decide +kernel)]; exact ⟨rfl, rfl⟩))
    (fun os started H enc _ F => by rw [OpenClaim.pre_eq_preRow]; exact lifted os started H enc F)

theorem plain (f : FuncId) (fn : Func) (hf : Tryd.pinned.checked.prog.funcNamed "spile/spilelaw22.LotChecks" = some f) (hfn : Tryd.pinned.checked.prog.funcs[f]? = some fn) :
    true = Tryd.pinned.checked.prog.looks [] ∧ ∀ (j : Nat) t, fn.params[j]? = some t → Tryd.pinned.checked.prog.wantsStandIn t = false := by
  obtain rfl : f = 3 := Option.some.inj ((show Tryd.prog.funcNamed "spile/spilelaw22.LotChecks" = some 3 by kernel_rfl).symm.trans hf) |>.symm
  obtain rfl : fn = Tryd.f3 := (Option.some.inj (Tryd.func3.symm.trans hfn)).symm
  refine ⟨by kernel_rfl, fun j t ht => ?_⟩
  rw [Tryd.params3] at ht
  rcases j with _ | _ | _ | j
  · obtain rfl : t = 22 := by simpa using ht.symm
    exact (show Tryd.prog.wantsStandIn 22 = false by kernel_rfl)
  · obtain rfl : t = 3 := by simpa using ht.symm
    exact (show Tryd.prog.wantsStandIn 3 = false by kernel_rfl)
  · obtain rfl : t = 3 := by simpa using ht.symm
    exact (show Tryd.prog.wantsStandIn 3 = false by kernel_rfl)
  · simp at ht

theorem proved : Rows.LotChecksCardSaid :=
  Claim7.holds_tied_plain_at .later [] _ _ _ _ said (fun _ h => by cases h) (by kernel_rfl) (fun _ h => by cases h) lotChecks_row_tie rfl ⟨rfl, rfl⟩ (by kernel_rfl) rfl plain (by kernel_rfl)
#print axioms proved
end Go.Proofs.YtfpdanjhlepckaaDoor.lotChecks

