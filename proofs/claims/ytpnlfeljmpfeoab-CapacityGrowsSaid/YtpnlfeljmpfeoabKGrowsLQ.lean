/-
  The statement CapacityGrows of spile/spilelaw10 holds: for every input the call returns true, and each argument reads afterwards as it read before.
-/
import Derived.Test.YtpnlfeljmpfeoabM3
import Derived.Below
import Derived.Carry
set_option linter.unusedVariables false
set_option linter.unusedSimpArgs false
namespace Go.Proofs.Ytpnlfeljmpfeoab.capacityGrows
open Go.ChangeShapes Go.WideShapes Go.ChangeAt Go.RowKit
open Go.ChangeMaps (open_string shut_string)
set_option linter.unusedVariables false

set_option maxHeartbeats 4000000 in
set_option maxRecDepth 100000 in
theorem long (y : Int) (a : Option Addr) (n cap : Nat) (w : World) (B1 : Bool) (hq : B1 = false ∨ (B1 = true ∧ decide (y < 1) = true) ∨ (B1 = true ∧ decide (y < 1) = false ∧ decide (100000 < y) = true))
    (FW : Hid (∀ W, Below w.heap.size w W → Calls Try.prog 11 #[.slice a n cap] W fun e w' => e = .returned (.bool B1) ∧ w' = W)) :
    Calls Try.prog 7 #[.slice a n cap, .int .i64 y] w fun e w' => e = .returned (.bool true) ∧ Below w.heap.size w w' := by
  have HA := Lib.hid (fun W => awake_any W)
  rcases hq with rfl | ⟨rfl, d0⟩ | ⟨rfl, d0, d1⟩
  all_goals
    have HB := Lib.hid (Below.refl w.heap.size w)
    go_enter Try.func7, Try.ntmps7
    go_wp2_with fail
    refine (HA.out _).mono ?_
    rintro e w5 ⟨rfl, h1⟩
    replace HB := Lib.hid (bel_trans HB.out h1); clear h1
    go_wp2_with fail
    refine (FW.out _ HB.out).mono ?_
    rintro e w90 ⟨rfl, hw⟩
    subst hw
    go_wp2
    go_returns
    exact ⟨rfl, HB.out⟩
set_option maxHeartbeats 8000000 in
set_option maxRecDepth 100000 in
theorem bad (y E : Int) (a : Option Addr) (n cap : Nat) (l : List (Int × Int)) (w : World) (d0 : decide (y < 1) = false) (d1 : decide (100000 < y) = false) (hz : Hid (l.length ≤ 1000)) (NV : Hid (Pts w (.slice a n cap) l)) (e1 : (E == 0) = false) (e2 : (E != 0) = true)
    (FW : Hid (∀ W, Below w.heap.size w W → Calls Try.prog 11 #[.slice a n cap] W fun e w' => e = .returned (.bool true) ∧ w' = W))
    (H1 : Hid (∀ v W, Pts W v l → Calls Try.prog 12 #[v] W fun e w' => e = .returned (.tuple #[.int .i64 0, .int .i64 E]) ∧ Below W.heap.size W w')) :
    Calls Try.prog 7 #[.slice a n cap, .int .i64 y] w fun e w' => e = .returned (.bool true) ∧ Below w.heap.size w w' := by
  have HA := Lib.hid (fun W => awake_any W)
  have HB := Lib.hid (Below.refl w.heap.size w)
  go_enter Try.func7, Try.ntmps7
  go_wp2_with fail
  refine (HA.out _).mono ?_
  rintro e w3 ⟨rfl, h1⟩
  replace NV := Lib.hid (NV.out.below h1)
  replace HB := Lib.hid (bel_trans HB.out h1); clear h1
  go_wp2_with fail
  refine (FW.out _ HB.out).mono ?_
  rintro e w90 ⟨rfl, hw⟩
  subst hw
  clear FW
  go_wp2_with fail
  refine (clone_p _ l _ NV.out hz.out).mono ?_
  rintro e w4 ⟨V1, rfl, hx, h1⟩
  replace NV := Lib.hid (NV.out.below h1)
  replace HB := Lib.hid (bel_trans HB.out h1); clear h1
  have N1 := Lib.hid hx; clear hx
  go_wp2_with fail
  refine (H1.out _ _ N1.out).mono ?_
  rintro e w5 ⟨rfl, h1⟩
  replace NV := Lib.hid (NV.out.below h1)
  replace N1 := Lib.hid (N1.out.below h1)
  replace HB := Lib.hid (bel_trans HB.out h1); clear h1
  go_wp2
  go_returns
  exact ⟨rfl, HB.out⟩
set_option maxHeartbeats 32000000 in
set_option maxRecDepth 100000 in
theorem good (y S X mn mx C1 C2 L H W2 E2 L2 H2 : Int) (b off q cap : Nat) (l : List (Int × Int)) (w : World) (n1 : q + 1 ≤ 32) (hn : Hid (q + 1 = l.length)) (y0 : 1 ≤ y ∧ y ≤ 100000) (hcap : q + 1 ≤ cap ∧ cap ≤ 9223372036854775807)
    (hX : Hid (gX l q = X)) (hmn : Hid (mnR l (q + 1) = mn)) (hmx : Hid (mxR l (q + 1) = mx)) (br : Hid (∀ j, j < l.length → 1 ≤ gR l j ∧ gR l j ≤ 100000))
    (kX : IntKind.i64.wrap (3 * X) = 3 * X) (k2 : IntKind.i64.wrap (3 * X * mn) = 3 * X * mn) (k3 : IntKind.i64.wrap (3 * X * mn * mn) = C1)
    (g1 : decide (S < C1) = false) (g2 : decide (C2 < S) = false) (hE : ((E2 == 0) = false ∧ (E2 != 0) = true) ∨ (E2 = 0 ∧ decide (S < W2) = true ∧ decide (L ≤ L2) = true ∧ decide (H ≤ H2) = true))
    (NV : Hid (Pts w (.slice (some ⟨b, off, none⟩) (q + 1) cap) l))
    (FW : Hid (∀ W, Below w.heap.size w W → Calls Try.prog 11 #[.slice (some ⟨b, off, none⟩) (q + 1) cap] W fun e w' => e = .returned (.bool true) ∧ w' = W))
    (H1 : Hid (∀ v W, Pts W v l → Calls Try.prog 12 #[v] W fun e w' => e = .returned (.tuple #[.int .i64 S, .int .i64 0]) ∧ Below W.heap.size W w'))
    (H3 : Hid (∀ v W, Pts W v (cyl X mn) → Calls Try.prog 12 #[v] W fun e w' => e = .returned (.tuple #[.int .i64 C1, .int .i64 0]) ∧ Below W.heap.size W w'))
    (H4 : Hid (∀ v W, Pts W v (cyl X mx) → Calls Try.prog 12 #[v] W fun e w' => e = .returned (.tuple #[.int .i64 C2, .int .i64 0]) ∧ Below W.heap.size W w'))
    (H5 : Hid (∀ v W, Pts W v l → Calls Try.prog 15 #[v] W fun e w' => e = .returned (.tuple #[.agg #[.int .i64 L, .int .i64 H], .int .i64 0]) ∧ Below W.heap.size W w'))
    (H6 : Hid (∀ v W, Pts W v (wid l y) → Calls Try.prog 12 #[v] W fun e w' => e = .returned (.tuple #[.int .i64 W2, .int .i64 E2]) ∧ Below W.heap.size W w'))
    (H7 : Hid (∀ v W, Pts W v (wid l y) → Calls Try.prog 15 #[v] W fun e w' => e = .returned (.tuple #[.agg #[.int .i64 L2, .int .i64 H2], .int .i64 E2]) ∧ Below W.heap.size W w')) :
    Calls Try.prog 7 #[.slice (some ⟨b, off, none⟩) (q + 1) cap, .int .i64 y] w fun e w' => e = .returned (.bool true) ∧ Below w.heap.size w w' := by
  have HA := Lib.hid (fun W => awake_any W)
  have d0 : decide (y < 1) = false := decide_eq_false (by omega)
  have d1 : decide (100000 < y) = false := decide_eq_false (by omega)
  have n0 : (((q + 1 : Nat) : Int) == 0) = false := by rw [beq_eq_false_iff_ne]; omega
  have n0' : ((q : Int) + 1 == 0) = false := by rw [beq_eq_false_iff_ne]; omega
  have hl : Hid (l.length ≤ 1000) := Lib.hid (by have := hn.out; omega)
  have HB := Lib.hid (Below.refl w.heap.size w)
  go_enter Try.func7, Try.ntmps7
  go_wp2_with fail
  refine (HA.out _).mono ?_
  rintro e w8 ⟨rfl, h1⟩
  replace NV := Lib.hid (NV.out.below h1)
  replace HB := Lib.hid (bel_trans HB.out h1); clear h1
  go_wp2_with fail
  refine (FW.out _ HB.out).mono ?_
  rintro e w90 ⟨rfl, hw⟩
  subst hw
  clear FW
  go_wp2_with fail
  refine (clone_p _ l _ NV.out hl.out).mono ?_
  rintro e w9 ⟨V1, rfl, hx, h1⟩
  replace NV := Lib.hid (NV.out.below h1)
  replace HB := Lib.hid (bel_trans HB.out h1); clear h1
  have N1 := Lib.hid hx; clear hx
  go_wp2_with fail
  refine (H1.out _ _ N1.out).mono ?_
  rintro e w10 ⟨rfl, h1⟩
  replace NV := Lib.hid (NV.out.below h1)
  replace N1 := Lib.hid (N1.out.below h1)
  replace HB := Lib.hid (bel_trans HB.out h1); clear h1
  clear N1
  have CW : Hid (∀ W, Below (w10).heap.size (w10) W → Calls Try.prog 13 #[.slice (some ⟨b, off, none⟩) (q + 1) cap] W fun e w' => ∃ g cap, e = .returned (.slice (some ⟨g, 0, none⟩) (q + 1) cap) ∧ (q + 1 ≤ cap ∧ cap ≤ 9223372036854775807) ∧ W.heap.size ≤ g ∧ g < w'.heap.size ∧ CC w' g (q + 1) (gX l) (gR l) ∧ Below W.heap.size W w') := fun W hW => by
    have := clone_w _ l W (NV.out.below hW) (by have := hn.out; omega) hl.out
    rwa [← hn.out] at this
  have HB0 : Hid (w.heap.size ≤ (w10).heap.size) := Lib.hid HB.out.size
  obtain ⟨bb, oo, ee, hbb, _⟩ := NV.out.at (by omega)
  simp only [Option.some.injEq, Addr.mk.injEq] at ee
  obtain ⟨rfl, rfl, _⟩ := ee
  go_wp2_with fail
  refine (CW.out _ (Below.refl _ _)).mono ?_
  rintro e w20 ⟨g, cp, rfl, hcp, hgb, hgl, hC, h1⟩
  replace NV := Lib.hid (NV.out.below h1)
  replace HB := Lib.hid (bel_trans HB.out h1)
  have hbg : b ≠ g := by omega
  have hwg : Hid (w.heap.size ≤ g) := Lib.hid (Nat.le_trans HB0.out hgb)
  have C0 : Hid (CC w20 g (q + 1) (gX l) (fun j => if j < 0 then gR l j + y else gR l j)) := Lib.hid (hC.congr fun j hj => ⟨rfl, by rw [if_neg (by omega)]⟩)
  clear hC h1 CW hgb hbb
  obtain ⟨b2, o2, ee, _, hcl⟩ := NV.out.at (by omega)
  simp only [Option.some.injEq, Addr.mk.injEq] at ee
  obtain ⟨rfl, rfl, _⟩ := ee
  have r0 : w20.cell? ⟨b, off + 1, none⟩ = some (.int .i64 (gR l 0)) := by simpa using (hcl 0 (by omega)).2
  clear hcl
  go_wp2_with fail
  go_quiet (fail)
  go_wp2_with fail
  have NV2 := Lib.hid (NV.out.below (bel_drewN w20 nq))
  have HB2 := Lib.hid (bel_trans HB.out (bel_drewN w20 nq))
  have C2' := Lib.hid (C0.out.below hgl (bel_drewN w20 nq))
  have hgl2 : g < (w20.drewN nq).heap.size := hgl
  clear NV HB C0 hgl r0
  go_loopw [8, 9, 61] (fun le mo ii wr => ∃ k : Nat, k ≤ q + 1 ∧ ii = .int .i64 k ∧ le = .int .i64 (mnR l k) ∧ mo = .int .i64 (mxR l k) ∧ Hid (Below w.heap.size w wr) ∧ Hid (Pts wr (.slice (some ⟨b, off, none⟩) (q + 1) cap) l) ∧ Hid (CC wr g (q + 1) (gX l) (fun j => if j < k then gR l j + y else gR l j)) ∧ g < wr.heap.size) (fun _ _ ii _ => q + 1 - (intOf ii).toNat)
  case atStart => exact ⟨0, Nat.zero_le _, rfl, rfl, rfl, HB2, NV2, C2', hgl2⟩
  case round =>
    obtain ⟨k, hk2, rfl, rfl, rfl, hB2, hN, hT, hgr⟩ := hrel
    by_cases hlt : k < q + 1
    · obtain ⟨b', off', ee, hbw, hcx⟩ := hN.out.at (by omega)
      simp only [Option.some.injEq, Addr.mk.injEq] at ee
      obtain ⟨rfl, rfl, _⟩ := ee
      obtain ⟨c0, c1⟩ := hcx k hlt
      obtain ⟨⟨_, e1⟩, _, fw⟩ := hT.out k hlt
      replace e1 : wr.cell? ⟨g, k * 2 + 1, none⟩ = some (.int .i64 (gR l k)) := by simpa using e1
      have hs : g < (wr.setCell ⟨g, k * 2 + 1, none⟩ (.int .i64 (gR l k + y))).heap.size := by simpa [World.setCell] using hgr
      have T1 := (hT.out.setR hlt (gR l k + y)).congr (F' := gX l) (R' := fun j => if j < k + 1 then gR l j + y else gR l j) (fun j hj => by
        refine ⟨rfl, ?_⟩
        by_cases e : j = k
        · subst e; simp
        · rw [if_neg e]
          by_cases e2 : j < k
          · rw [if_pos e2, if_pos (by omega)]
          · rw [if_neg e2, if_neg (by omega)])
      have T2 := Lib.hid (T1.below hs (W' := (wr.setCell ⟨g, k * 2 + 1, none⟩ (.int .i64 (gR l k + y))).alloc (.cells #[.int .i64 (gX l k), .int .i64 (gR l k)] 30)) (bel_alloc (Below.refl _ _)))
      have N2 := Lib.hid ((hN.out.far (g := g) (i := k * 2 + 1) (z := .int .i64 (gR l k + y)) hbg).alloc (.cells #[.int .i64 (gX l k), .int .i64 (gR l k)] 30))
      have BS : Below w.heap.size w (wr.setCell ⟨g, k * 2 + 1, none⟩ (.int .i64 (gR l k + y))) := hB2.out.setCell (p := ⟨g, k * 2 + 1, none⟩) hwg.out _
      have B2 := Lib.hid (BS.alloc BS.size (.cells #[.int .i64 (gX l k), .int .i64 (gR l k)] 30))
      have eM : mnR l (k + 1) = min (mnR l k) (gR l k) := rfl
      have eX : mxR l (k + 1) = max (mxR l k) (gR l k) := rfl
      have bk := br.out k (by have := hn.out; omega)
      have l1 : (k : Int) < (q : Int) + 1 := by omega
      have l2 : g < ((wr.setCell ⟨g, k * 2 + 1, none⟩ (.int .i64 (gR l k + y))).alloc (.cells #[.int .i64 (gX l k), .int .i64 (gR l k)] 30)).heap.size := by simp [World.setCell]; omega
      clear hT hN hcx hB2 T1 BS hs
      generalize gX l k = px at *
      obtain ⟨r, hr⟩ : ∃ r, gR l k = r := ⟨_, rfl⟩
      rw [hr] at c1 e1 T2 N2 B2 eM eX bk l2
      have ws : IntKind.i64.wrap (r + y) = r + y := wrap_in _ ⟨by omega, by omega⟩
      generalize hM : mnR l (k + 1) = M2 at *
      generalize hX2 : mxR l (k + 1) = X2 at *
      generalize mnR l k = M1 at *
      generalize mxR l k = X1 at *
      subst eM eX
      go_wp2_with fail
      go_quiet (fail)
      go_wp2
      go_roundw
      case rel => exact ⟨k + 1, by omega, by go_num, by rw [hM], by rw [hX2], bel_trans B2.out (bel_drewN _ _), N2.out.below (bel_drewN _ _), T2.out.below l2 (bel_drewN _ _), l2⟩
      case measure => simp [intOf]; omega
    · obtain rfl : k = q + 1 := by omega
      rw [hmn.out, hmx.out]
      replace HB := hB2
      replace NV := hN
      have lw : (wid l y).length = q + 1 := by rw [wid_len, hn.out]
      have NT : Hid (Pts wr (.slice (some ⟨g, 0, none⟩) (q + 1) cp) (wid l y)) := Lib.hid (hT.out.pts hgr lw hcp (fun j hj => by
        have := wid_at (l := l) (m := y) (j := j) (by have := hn.out; omega)
        rw [this.1, this.2, if_pos hj]
        exact ⟨rfl, rfl⟩))
      obtain ⟨b', off', ee, hbw, hcx⟩ := hN.out.at (by omega)
      simp only [Option.some.injEq, Addr.mk.injEq] at ee
      obtain ⟨rfl, rfl, _⟩ := ee
      have cx := (hcx q (by omega)).1
      rw [hX.out] at cx
      have wk : IntKind.i64.wrap ((q : Int) + 1 - 1) = (q : Int) := by rw [wrap_in _ ⟨by omega, by omega⟩]; omega
      have wk2 : IntKind.i64.wrap (q : Int) = (q : Int) := wrap_in _ ⟨by omega, by omega⟩
      have lw2 : Hid ((wid l y).length ≤ 1000) := Lib.hid (by omega)
      clear hN hT hB2 C2' NV2 HB2 hcx
      go_wp2_with fail
      refine (H3.out _ _ (pts_lit wr (cyl X mn) _ rfl (show 2 ≤ 1000 by omega))).mono ?_
      rintro e w30 ⟨rfl, h1⟩
      replace h1 := bel_alloc h1
      replace NV := Lib.hid (NV.out.below h1)
      replace NT := Lib.hid (NT.out.below h1)
      replace HB := Lib.hid (bel_trans HB.out h1); clear h1
      go_wp2_with fail
      refine (H4.out _ _ (pts_lit w30 (cyl X mx) _ rfl (show 2 ≤ 1000 by omega))).mono ?_
      rintro e w31 ⟨rfl, h1⟩
      replace h1 := bel_alloc h1
      replace NV := Lib.hid (NV.out.below h1)
      replace NT := Lib.hid (NT.out.below h1)
      replace HB := Lib.hid (bel_trans HB.out h1); clear h1
      go_wp2_with fail
      refine (clone_p _ l _ NV.out hl.out).mono ?_
      rintro e w32 ⟨V5, rfl, hx, h1⟩
      replace NT := Lib.hid (NT.out.below h1)
      replace HB := Lib.hid (bel_trans HB.out h1); clear h1
      have N5 := Lib.hid hx; clear hx
      go_wp2_with fail
      refine (H5.out _ _ N5.out).mono ?_
      rintro e w33 ⟨rfl, h1⟩
      replace NT := Lib.hid ((NT.out.below h1).alloc (.cells #[.int .i64 L, .int .i64 H] 32))
      replace HB := Lib.hid ((bel_trans HB.out h1).alloc (bel_trans HB.out h1).size (.cells #[.int .i64 L, .int .i64 H] 32)); clear h1
      have T1 := Lib.hid (Two.new w33 (.int .i64 L) (.int .i64 H) 32)
      go_wp2_with fail
      refine (clone_p _ (wid l y) _ NT.out lw2.out).mono ?_
      rintro e w34 ⟨V6, rfl, hx, h1⟩
      replace NT := Lib.hid (NT.out.below h1)
      replace T1 := Lib.hid (T1.out.below h1)
      replace HB := Lib.hid (bel_trans HB.out h1); clear h1
      have N6 := Lib.hid hx; clear hx
      go_wp2_with fail
      refine (H6.out _ _ N6.out).mono ?_
      rintro e w35 ⟨rfl, h1⟩
      replace NT := Lib.hid (NT.out.below h1)
      replace T1 := Lib.hid (T1.out.below h1)
      replace HB := Lib.hid (bel_trans HB.out h1); clear h1
      go_wp2_with fail
      refine (H7.out _ _ NT.out).mono ?_
      rintro e w36 ⟨rfl, h1⟩
      replace T1 := Lib.hid ((T1.out.below h1).alloc (.cells #[.int .i64 L2, .int .i64 H2] 32))
      replace HB := Lib.hid ((bel_trans HB.out h1).alloc (bel_trans HB.out h1).size (.cells #[.int .i64 L2, .int .i64 H2] 32)); clear h1
      have T2 := Lib.hid (Two.new w36 (.int .i64 L2) (.int .i64 H2) 32)
      obtain ⟨t0, t1, _, _, _⟩ := T1.out
      obtain ⟨s0, s1, _, _, _⟩ := T2.out
      clear H1 H3 H4 H5 H6 H7 HA
      rcases hE with ⟨x1, x2⟩ | ⟨rfl, x1, x2, x3⟩
      · go_wp2
        go_returns
        exact ⟨rfl, HB.out⟩
      · go_wp2
        go_returns
        exact ⟨rfl, HB.out⟩
theorem walk (z : Value) (l : List (Int × Int)) (y : Int) (w : World) (hv : Pts w z l) (hy : -9223372036854775808 ≤ y ∧ y ≤ 9223372036854775807) :
    Calls Try.prog 7 #[z, .int .i64 y] w fun e w' => e = .returned (.bool true) ∧ Below w.heap.size w w' := by
  have hv2 := hv
  obtain ⟨a, cap, rfl, _, _⟩ := hv.shape
  by_cases h : l.length ≤ 33
  · have FW : ∀ W, Below w.heap.size w W → Calls Try.prog 11 #[.slice a l.length cap] W fun e w' => e = .returned (.bool true) ∧ w' = W := fun W hW => by
      have := few_any _ l W (hv2.below hW)
      rwa [decide_eq_true h] at this
    by_cases y0 : y < 1
    · exact long y a l.length cap w true (.inr (.inl ⟨rfl, decide_eq_true y0⟩)) FW
    by_cases y1 : 100000 < y
    · exact long y a l.length cap w true (.inr (.inr ⟨rfl, decide_eq_false y0, decide_eq_true y1⟩)) FW
    by_cases e : ckE l = 0
    · have hR := (ckE_iff l).1 e
      have n0 := hR.n0
      have n1 := hR.n1
      obtain ⟨q, hq⟩ : ∃ q, l.length = q + 1 := ⟨l.length - 1, by omega⟩
      obtain ⟨b, off, rfl, _, _⟩ := hv.at (by omega)
      have X0 := last_pos hR
      have ar := cyl_around hR
      have mb := mnR_bd hR l.length (Nat.le_refl _)
      rw [hq] at ar mb X0
      rw [show q + 1 - 1 = q by omega] at ar X0
      have c1 := cyl_bd X0 mb.1
      have c2 := cyl_bd X0 mb.2
      have k1 := (ckE_iff _).2 (cyl_right X0 mb.1)
      have k2 := (ckE_iff _).2 (cyl_right X0 mb.2)
      have f0 : fuQ l = frS l := by unfold fuQ; rw [if_pos e]
      have f1 : fuQ (cyl (gX l q) (mnR l (q + 1))) = 3 * gX l q * mnR l (q + 1) * mnR l (q + 1) := by unfold fuQ; rw [if_pos k1, cyl_sum]
      have f2 : fuQ (cyl (gX l q) (mxR l (q + 1))) = 3 * gX l q * mxR l (q + 1) * mxR l (q + 1) := by unfold fuQ; rw [if_pos k2, cyl_sum]
      have s1 : spL l = cbL (frS l) := by unfold spL; rw [if_pos e]
      have s2 : spH l = cbH (frS l) := by unfold spH; rw [if_pos e]
      have hcp : l.length ≤ cap ∧ cap ≤ 9223372036854775807 := by obtain ⟨_, _, e9, h9, _⟩ := hv; simp only [Value.slice.injEq] at e9; omega
      rw [hq] at hv FW hcp ⊢
      refine good y (frS l) (gX l q) (mnR l (q + 1)) (mxR l (q + 1)) _ _ (cbL (frS l)) (cbH (frS l)) (fuQ (wid l y)) (ckE (wid l y)) (spL (wid l y)) (spH (wid l y)) b off q cap l w (by omega) (Lib.hid hq.symm) (by omega) hcp (Lib.hid rfl) (Lib.hid rfl) (Lib.hid rfl) (Lib.hid hR.br) (wrap_in _ ⟨by omega, by omega⟩) (wrap_in _ ⟨by omega, by omega⟩) (wrap_in _ ⟨by omega, by omega⟩) (decide_eq_false (by omega)) (decide_eq_false (Int.not_lt.2 ar.2)) ?_ hv FW (fun v W hp => ?_) (fun v W hp => ?_) (fun v W hp => ?_) (fun v W hp => ?_) (fun v W hp => ?_) (fun v W hp => ?_)
      · by_cases g : ckE (wid l y) = 0
        · right
          have m := frS_wid hR (m := y) (by omega)
          have cm := cb_mono (show frS l ≤ frS (wid l y) by omega)
          refine ⟨g, decide_eq_true ?_, decide_eq_true ?_, decide_eq_true ?_⟩
          · unfold fuQ; rw [if_pos g]; exact m
          · unfold spL; rw [if_pos g]; exact cm.1
          · unfold spH; rw [if_pos g]; exact cm.2
        · left
          exact ⟨by simpa using g, by simpa using g⟩
      · have := cFru_any v l W hp
        rwa [f0, e] at this
      · have := cFru_any v _ W hp
        rwa [f1, k1] at this
      · have := cFru_any v _ W hp
        rwa [f2, k2] at this
      · have := cSpc_any v l W hp
        rwa [s1, s2, e] at this
      · exact cFru_any v _ W hp
      · exact cSpc_any v _ W hp
    · have e1 : fuQ l = 0 := by unfold fuQ; rw [if_neg e]
      refine bad y (ckE l) a l.length cap l w (decide_eq_false y0) (decide_eq_false y1) (Lib.hid (by omega)) hv2 (by simpa using e) (by simpa using e) FW (fun v W hp => ?_)
      have := cFru_any v l W hp
      rwa [e1] at this
  · refine long y a l.length cap w false (.inl rfl) (Lib.hid fun W hW => ?_)
    have := few_any _ l W (hv2.below hW)
    rwa [decide_eq_false h] at this

set_option maxRecDepth 100000 in
theorem lifted (os : Os) (started : os.Started) (H : Type) (enc : TypeId × Value → H) :
    ReturnsInHanded {} Try.checked os 7 .any (Rows.capacityGrowsSpec.pre6 enc Try.prog Try.f7 Rows.capacityGrowsRow.domain false) (Rows.capacityGrowsSpec.post enc Try.prog Try.f7 false true false false) := by
  refine returnsInHanded_of_change (C := Try.checked) own started (by kernel_rfl) Try.func7
    (ChangeSpec.witness6 (enc := enc) (C := Try.checked) false ⟨#[], #[.slice none 0 0, .int .i64 0], []⟩ 8 (by kernel_rfl) (by kernel_rfl) (by kernel_rfl) (by kernel_rfl)) ?_
  intro W base args ds gs before hval0 hW hcnd _
  have hval : ∀ (j : Nat) t v, Try.f7.params[j]? = some t → args[j]? = some v → Value.okWide Try.prog W .any base t v := hval0
  clear hval0
  have hW' := hW
  obtain ⟨p, q, hA0, hV, rfl, hfz, hnd⟩ := hW
  have hA : DataW.TrodAll enc Try.prog W 0 (fun _ => true) true Try.f7.params.toList args.toList ds p := hA0
  rw [Try.params7] at hA hval
  obtain ⟨v0, vs0, d0, ds0, p0, q0, hargs, rfl, rfl, h0, r0⟩ := trodAll_cons hA
  obtain ⟨v1, vs1, d1, ds1, p1, q1, rfl, rfl, rfl, h1, r1⟩ := trodAll_cons r0
  obtain ⟨rfl, rfl, rfl⟩ := trodAll_nil r1
  obtain rfl : args = #[v0, v1] := by cases args; simp_all
  obtain ⟨rfl, rfl⟩ := trodVars_none hV
  have k0 := h0
  have lt0 : ∀ x ∈ p0, x.block < W.heap.size := by obtain ⟨m, hm⟩ := k0; exact DataW.trod_lt m _ _ _ hm
  have k1 := h1
  have lt1 : ∀ x ∈ p1, x.block < W.heap.size := by obtain ⟨m, hm⟩ := k1; exact DataW.trod_lt m _ _ _ hm
  obtain ⟨z0, w0⟩ := open_pts (hval 0 22 v0 rfl rfl) h0
  obtain ⟨a1, rfl, rfl, rfl, w1⟩ := open_int Try.underlying3 (hval 1 3 v1 rfl rfl) h1
  clear hA0
  refine (walk v0 z0 a1 W w0 (wf_bd w1)).mono fun e W' ⟨he, bel⟩ => ?_
  subst he
  exact ⟨_, rfl, _, _, _, [], _, [], hW', trodAll_mk1 (shut_bool Try.underlying4 _), (trodAll_cons_mk (Below.trod laidOut (by kernel_rfl) (of_decide_eq_true (by kernel_rfl)) k0 bel lt0) (trodAll_cons_mk (Below.trod laidOut (by kernel_rfl) (of_decide_eq_true (by kernel_rfl)) k1 bel lt1) trodAll_mk0)), rfl, bel.frame _, fun h => by cases h⟩

theorem over : Rows.capacityGrowsRow.holds Try.pinned (OpenSpec.ofChange Rows.capacityGrowsSpec) :=
  OpenClaim.holds_of_wide 7 Try.f7 rfl rfl rfl rfl rfl rfl rfl ⟨rfl, rfl, rfl, rfl, rfl⟩ rfl rfl rfl rfl rfl (by kernel_rfl) Try.func7 (by kernel_rfl)
    (of_decide_eq_true (by kernel_rfl)) (by unfold Func.isWrapper; first | (rw [if_pos (by decide +kernel)]; kernel_rfl) | (rw [if_neg (by decide +kernel)]; exact ⟨rfl, rfl⟩))
    (fun os started H enc _ => lifted os started H enc)

theorem proved : Rows.CapacityGrowsSaid := over
#print axioms proved
end Go.Proofs.Ytpnlfeljmpfeoab.capacityGrows
