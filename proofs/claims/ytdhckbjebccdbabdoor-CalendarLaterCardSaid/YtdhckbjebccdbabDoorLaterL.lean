/-
  The statement CalendarLater of spile/spilelaw04 holds: for every input the call returns true, and each argument reads afterwards as it read before. (The listed package variables hold what the program lays: the card ties them.)
-/
import Derived.Test.YtdhckbjebccdbabDoorOpenC
import Derived.Test.YtdhckbjebccdbabDoorCards
import Derived.Test.YtdhckbjebccdbabDoorTie
import Derived.Below
import Derived.Carry
import Derived.Lib.LaidTab
import Derived.Deep.DeepHandedRow
import Derived.SevenTiedPlain
import Derived.Lay
namespace Go.Proofs.YtdhckbjebccdbabDoor.calendarLater
open Go.ChangeShapes Go.WideShapes Go.ChangeAt Go.RowKit
open Go.ChangeMaps (open_string shut_string)
set_option linter.unusedVariables false

theorem box_at (w W : World) (y m d : Int) (h : Below w.heap.size w W) : BoxAt w W.heap.size (W.alloc (.cells #[.int .i64 y, .int .i64 m, .int .i64 d] 23)) y m d :=
  ⟨by simp [go_sem], by simp [go_sem], by simp [go_sem], bel_trans h (bel_alloc (Below.refl _ _))⟩
theorem box_more {w W : World} {B : Nat} {y m d : Int} (h : BoxAt w B W y m d) (o : Obj) : BoxAt w B (W.alloc o) y m d := h.below (bel_alloc (Below.refl _ _))

theorem no (n q k f E : Int) (w : World) (hE : (E == 0) = false ∧ (E != 0) = true)
    (HA : Hid (Calls Tryd.prog 10 #[] w fun e w' => e = .returned (.bool true) ∧ Below w.heap.size w w'))
    (H1 : Hid (∀ W, Below w.heap.size w W → Calls Tryd.prog 19 #[.int .i64 n, .int .i64 k] W fun e w' => e = .returned (.tuple #[.int .i64 0, .int .i64 E]) ∧ Below W.heap.size W w')) :
    Calls Tryd.prog 8 #[.int .i64 n, .int .i64 q, .int .i64 k, .int .i64 f] w fun e w' => e = .returned (.bool true) ∧ Below w.heap.size w w' := by
  obtain ⟨e1, e2⟩ := hE
  go_enter Tryd.func8, Tryd.ntmps8
  go_wp2_with fail
  refine (HA.out).mono ?_
  rintro e w1 ⟨rfl, h1⟩
  have HB := Lib.hid h1; clear h1
  go_wp2_with fail
  refine (H1.out _ HB.out).mono ?_
  rintro e w2 ⟨rfl, h1⟩
  replace HB := Lib.hid (bel_trans HB.out h1); clear h1
  go_wp2
  go_ret
  exact ⟨rfl, HB.out⟩

set_option maxRecDepth 100000 in
set_option maxHeartbeats 4000000 in
theorem core (n q k f A B Be y m d Y M D S Se O Oe : Int) (w : World) (n0 : 0 ≤ n) (n1 : n ≤ 100000) (k0 : -3600 ≤ k) (k1 : k ≤ 3600) (wq : -9223372036854775808 ≤ q ∧ q ≤ 9223372036854775807) (wf : -9223372036854775808 ≤ f ∧ f ≤ 9223372036854775807)
    (y0 : 0 ≤ y) (y1 : y ≤ 3000) (Y0 : 0 ≤ Y) (Y1 : Y ≤ 3000) (m0 : 1 ≤ m) (m1 : m ≤ 12) (M0 : 1 ≤ M) (M1 : M ≤ 12) (d0 : 1 ≤ d) (d1 : d ≤ 31) (D0 : D ≤ d) (he : 12 * Y + M = 12 * y + m + k)
    (HA : Hid (Calls Tryd.prog 10 #[] w fun e w' => e = .returned (.bool true) ∧ Below w.heap.size w w'))
    (H1 : Hid (∀ W, Below w.heap.size w W → Calls Tryd.prog 19 #[.int .i64 n, .int .i64 k] W fun e w' => e = .returned (.tuple #[.int .i64 A, .int .i64 0]) ∧ Below W.heap.size W w'))
    (H2 : Hid (∀ W, Below w.heap.size w W → Calls Tryd.prog 19 #[.int .i64 (n + q), .int .i64 k] W fun e w' => e = .returned (.tuple #[.int .i64 B, .int .i64 Be]) ∧ Below W.heap.size W w'))
    (H3 : Hid (∀ W, Below w.heap.size w W → Calls Tryd.prog 11 #[.int .i64 n] W fun e w' => e = .returned (.tuple #[.agg #[.int .i64 y, .int .i64 m, .int .i64 d], .int .i64 0]) ∧ Below W.heap.size W w'))
    (H4 : Hid (∀ W, Below w.heap.size w W → Calls Tryd.prog 11 #[.int .i64 A] W fun e w' => e = .returned (.tuple #[.agg #[.int .i64 Y, .int .i64 M, .int .i64 D], .int .i64 0]) ∧ Below W.heap.size W w'))
    (H5 : Hid (∀ W, Below w.heap.size w W → Calls Tryd.prog 19 #[.int .i64 (n - d + 1), .int .i64 k] W fun e w' => e = .returned (.tuple #[.int .i64 S, .int .i64 Se]) ∧ Below W.heap.size W w'))
    (H6 : Hid (∀ W, Below w.heap.size w W → Se = 0 → -3600 ≤ f → f ≤ 3600 → Calls Tryd.prog 19 #[.int .i64 (n - d + 1), .int .i64 (k + f)] W fun e w' => e = .returned (.tuple #[.int .i64 O, .int .i64 Oe]) ∧ Below W.heap.size W w'))
    (H7 : Hid (∀ W, Below w.heap.size w W → Se = 0 → -3600 ≤ f → f ≤ 3600 → -3600 ≤ k + f → k + f ≤ 3600 → Calls Tryd.prog 19 #[.int .i64 S, .int .i64 f] W fun e w' => e = .returned (.tuple #[.int .i64 O, .int .i64 Oe]) ∧ Below W.heap.size W w'))
    (h : 0 ≤ q → q ≤ 100000 → (((Be == 0) = false ∧ (Be != 0) = true) ∨ (Be = 0 ∧ A ≤ B))) (hs : Se = 15 ∨ Se = 0) :
    Calls Tryd.prog 8 #[.int .i64 n, .int .i64 q, .int .i64 k, .int .i64 f] w fun e w' => e = .returned (.bool true) ∧ Below w.heap.size w w' := by
  have HH := Lib.hid h
  have HS := Lib.hid hs
  obtain ⟨q0, q1⟩ := wq
  obtain ⟨f0, f1⟩ := wf
  clear h hs
  by_cases gq : q < 0
  · go_enter Tryd.func8, Tryd.ntmps8
    go_wp2_with fail
    refine (HA.out).mono ?_
    rintro e w3 ⟨rfl, h1⟩
    have HB := Lib.hid h1; clear h1
    go_wp2_with fail
    refine (H1.out _ HB.out).mono ?_
    rintro e w4 ⟨rfl, h1⟩
    replace HB := Lib.hid (bel_trans HB.out h1); clear h1
    go_upto_if 40 with (fail)
    go_cut [11] (fun s11 wx => Hid (Below w.heap.size w wx))
    case first =>
      go_wp2
      go_meet
      exact HB
    case rest =>
      replace HB := hcut
      clear hcut H1 H2 HH
      go_wp2_with fail
      refine (H3.out _ HB.out).mono ?_
      rintro e w4 ⟨rfl, h1⟩
      have X1 := Lib.hid (box_at w w4 y m d (bel_trans HB.out h1)); clear h1 HB
      go_wp2_with fail
      refine (H4.out _ X1.out.2.2.2).mono ?_
      rintro e w5 ⟨rfl, h1⟩
      have X2 := Lib.hid (box_at w w5 Y M D (X1.out.below h1).2.2.2)
      replace X1 := Lib.hid (box_more (X1.out.below h1) (.cells #[.int .i64 Y, .int .i64 M, .int .i64 D] 23)); clear h1
      have c0 := X1.out.1
      have c1 := X1.out.2.1
      have c2 := X1.out.2.2.1
      have e0 := X2.out.1
      have e1 := X2.out.2.1
      have e2 := X2.out.2.2.1
      go_wp2_with fail
      refine (H5.out _ X1.out.2.2.2).mono ?_
      rintro e w6 ⟨rfl, h1⟩
      replace X1 := Lib.hid (X1.out.below h1); clear h1
      clear c0 c1 c2 e0 e1 e2 X2
      have c2 := X1.out.2.2.1
      rcases HS.out with rfl | rfl
      · go_wp2
        go_ret
        exact ⟨rfl, X1.out.2.2.2⟩
      · by_cases g0 : f < -3600
        · go_wp2
          go_ret
          exact ⟨rfl, X1.out.2.2.2⟩
        · by_cases g1 : 3600 < f
          · go_wp2
            go_ret
            exact ⟨rfl, X1.out.2.2.2⟩
          · by_cases g2 : k + f < -3600
            · go_wp2
              go_ret
              exact ⟨rfl, X1.out.2.2.2⟩
            · by_cases g3 : 3600 < k + f
              · go_wp2
                go_ret
                exact ⟨rfl, X1.out.2.2.2⟩
              · have K6 := Lib.hid (fun W hW => H6.out W hW rfl (by omega) (by omega))
                have K7 := Lib.hid (fun W hW => H7.out W hW rfl (by omega) (by omega) (by omega) (by omega))
                clear H6 H7
                go_wp2_with fail
                refine (K6.out _ X1.out.2.2.2).mono ?_
                rintro e w7 ⟨rfl, h1⟩
                replace X1 := Lib.hid (X1.out.below h1); clear h1
                go_wp2_with fail
                refine (K7.out _ X1.out.2.2.2).mono ?_
                rintro e w8 ⟨rfl, h1⟩
                replace X1 := Lib.hid (X1.out.below h1); clear h1
                go_wp2
                go_ret
                exact ⟨rfl, X1.out.2.2.2⟩
  · go_enter Tryd.func8, Tryd.ntmps8
    go_wp2_with fail
    refine (HA.out).mono ?_
    rintro e w5 ⟨rfl, h1⟩
    have HB := Lib.hid h1; clear h1
    go_wp2_with fail
    refine (H1.out _ HB.out).mono ?_
    rintro e w6 ⟨rfl, h1⟩
    replace HB := Lib.hid (bel_trans HB.out h1); clear h1
    go_upto_if 40 with (fail)
    go_cut [11] (fun s11 wx => Hid (Below w.heap.size w wx))
    case first =>
      by_cases g1 : 100000 < q
      · go_wp2
        go_meet
        exact HB
      · rcases HH.out (by omega) (by omega) with ⟨e1, e2⟩ | ⟨rfl, e1⟩
        all_goals
          go_wp2_with fail
          refine (H2.out _ HB.out).mono ?_
          rintro e w3 ⟨rfl, h1⟩
          replace HB := Lib.hid (bel_trans HB.out h1); clear h1
          go_wp2
          go_meet
          exact HB
    case rest =>
      replace HB := hcut
      clear hcut H1 H2 HH
      go_wp2_with fail
      refine (H3.out _ HB.out).mono ?_
      rintro e w4 ⟨rfl, h1⟩
      have X1 := Lib.hid (box_at w w4 y m d (bel_trans HB.out h1)); clear h1 HB
      go_wp2_with fail
      refine (H4.out _ X1.out.2.2.2).mono ?_
      rintro e w5 ⟨rfl, h1⟩
      have X2 := Lib.hid (box_at w w5 Y M D (X1.out.below h1).2.2.2)
      replace X1 := Lib.hid (box_more (X1.out.below h1) (.cells #[.int .i64 Y, .int .i64 M, .int .i64 D] 23)); clear h1
      have c0 := X1.out.1
      have c1 := X1.out.2.1
      have c2 := X1.out.2.2.1
      have e0 := X2.out.1
      have e1 := X2.out.2.1
      have e2 := X2.out.2.2.1
      go_wp2_with fail
      refine (H5.out _ X1.out.2.2.2).mono ?_
      rintro e w6 ⟨rfl, h1⟩
      replace X1 := Lib.hid (X1.out.below h1); clear h1
      clear c0 c1 c2 e0 e1 e2 X2
      have c2 := X1.out.2.2.1
      rcases HS.out with rfl | rfl
      · go_wp2
        go_ret
        exact ⟨rfl, X1.out.2.2.2⟩
      · by_cases g0 : f < -3600
        · go_wp2
          go_ret
          exact ⟨rfl, X1.out.2.2.2⟩
        · by_cases g1 : 3600 < f
          · go_wp2
            go_ret
            exact ⟨rfl, X1.out.2.2.2⟩
          · by_cases g2 : k + f < -3600
            · go_wp2
              go_ret
              exact ⟨rfl, X1.out.2.2.2⟩
            · by_cases g3 : 3600 < k + f
              · go_wp2
                go_ret
                exact ⟨rfl, X1.out.2.2.2⟩
              · have K6 := Lib.hid (fun W hW => H6.out W hW rfl (by omega) (by omega))
                have K7 := Lib.hid (fun W hW => H7.out W hW rfl (by omega) (by omega) (by omega) (by omega))
                clear H6 H7
                go_wp2_with fail
                refine (K6.out _ X1.out.2.2.2).mono ?_
                rintro e w7 ⟨rfl, h1⟩
                replace X1 := Lib.hid (X1.out.below h1); clear h1
                go_wp2_with fail
                refine (K7.out _ X1.out.2.2.2).mono ?_
                rintro e w8 ⟨rfl, h1⟩
                replace X1 := Lib.hid (X1.out.below h1); clear h1
                go_wp2
                go_ret
                exact ⟨rfl, X1.out.2.2.2⟩

theorem walk (n q k f : Int) (w : World) (wn : -9223372036854775808 ≤ n ∧ n ≤ 9223372036854775807) (wq : -9223372036854775808 ≤ q ∧ q ≤ 9223372036854775807) (wk : -9223372036854775808 ≤ k ∧ k ≤ 9223372036854775807) (wf : -9223372036854775808 ≤ f ∧ f ≤ 9223372036854775807) (hw : LaidC w) :
    Calls Tryd.prog 8 #[.int .i64 n, .int .i64 q, .int .i64 k, .int .i64 f] w fun e w' => e = .returned (.bool true) ∧ Below w.heap.size w w' := by
  have HL := fun (i j : Int) W (h : Below w.heap.size w W) => later_any i j W (hw.below h)
  by_cases hok : dayB n = true ∧ monB k = true ∧ dayB (lat n k) = true
  · obtain ⟨hn, hk, hl⟩ := hok
    obtain ⟨n0, n1⟩ := (dayB_iff n).1 hn
    obtain ⟨k0, k1⟩ := (monB_iff k).1 hk
    obtain ⟨l0, l1⟩ := (dayB_iff _).1 hl
    have eA : laN n k = lat n k := by unfold laN; rw [if_pos ⟨hn, hk, hl⟩]
    have eE : laE n k = 0 := by unfold laE; rw [if_pos ⟨hn, hk⟩, if_pos hl]
    have h1 := HL n k
    rw [eA, eE] at h1
    obtain ⟨hv, hnum⟩ := dt_spec n n0
    obtain ⟨a1, a2, a3⟩ := lat_dt n k n0 l0
    have y0 := yr_ge n n0
    have y1 := yr_le n n0 n1
    have Y0 := yr_ge _ l0
    have Y1 := yr_le _ l0 l1
    obtain ⟨hV, _⟩ := dt_spec _ l0
    have hl2 := ml_bd (yr n) (mo n)
    obtain ⟨m0, m1, d0, d1⟩ := hv
    obtain ⟨M0, M1, _, _⟩ := hV
    obtain ⟨p0, p1, p2, p3, p4⟩ := first_dt n n0
    have pd : dayB (n - da n + 1) = true := (dayB_iff _).2 (by omega)
    have h3 := fun W (h : Below w.heap.size w W) => date_any n W (hw.below h)
    have h4 := fun W (h : Below w.heap.size w W) => date_any (lat n k) W (hw.below h)
    simp only [dY, dM, dD, dE, hn, hl, if_true] at h3 h4
    have hSe : laE (n - da n + 1) k = 15 ∨ laE (n - da n + 1) k = 0 := by
      unfold laE; rw [if_pos ⟨pd, hk⟩]
      cases dayB (lat (n - da n + 1) k) with
      | true => right; rfl
      | false => left; rfl
    refine core n q k f (lat n k) (laN (n + q) k) (laE (n + q) k) (yr n) (mo n) (da n) (yr (lat n k)) (mo (lat n k)) (da (lat n k)) (laN (n - da n + 1) k) (laE (n - da n + 1) k) (laN (n - da n + 1) (k + f)) (laE (n - da n + 1) (k + f)) w n0 n1 k0 k1 wq wf
      (by omega) (by omega) (by omega) (by omega) m0 m1 M0 M1 d0 (by omega) (by rw [a3]; omega) (by rw [a1, a2]; unfold mcount; omega)
      (awake_any w hw) h1 (HL _ _) h3 h4 (HL _ _) (fun W h _ _ _ => HL _ _ W h) (fun W h hS b0 b1 b2 b3 => ?_) (fun g0 g1 => ?_) hSe
    · have hSd : dayB (lat (n - da n + 1) k) = true := by
        unfold laE at hS; rw [if_pos ⟨pd, hk⟩] at hS
        cases hx : dayB (lat (n - da n + 1) k) with
        | true => rfl
        | false => rw [hx] at hS; simp at hS
      have eS : laN (n - da n + 1) k = lat (n - da n + 1) k := by unfold laN; rw [if_pos ⟨pd, hk, hSd⟩]
      have := HL (laN (n - da n + 1) k) f W h
      have hf := lat_first n k f n0 ((dayB_iff _).1 hSd).1
      have mf : monB f = true := (monB_iff f).2 ⟨b0, b1⟩
      have mkf : monB (k + f) = true := (monB_iff _).2 ⟨b2, b3⟩
      rw [show laN (laN (n - da n + 1) k) f = laN (n - da n + 1) (k + f) by rw [eS]; unfold laN; rw [hf, hSd, mf, pd, mkf],
        show laE (laN (n - da n + 1) k) f = laE (n - da n + 1) (k + f) by rw [eS]; unfold laE; rw [hf, hSd, mf, pd, mkf]] at this
      exact this
    · unfold laE laN
      by_cases hx : dayB (n + q) = true ∧ monB k = true
      · rw [if_pos hx]
        cases hy : dayB (lat (n + q) k) with
        | true =>
          right
          simp only [hx.1, hx.2, and_self, if_true, true_and]
          exact lat_mono n (n + q) k n0 (by omega)
        | false => left; decide
      · left; rw [if_neg hx]; decide
  · have h1 := HL n k
    rw [show laN n k = 0 by unfold laN; rw [if_neg hok]] at h1
    refine no n q k f (laE n k) w ?_ (awake_any w hw) h1
    unfold laE
    by_cases hx : dayB n = true ∧ monB k = true
    · rw [if_pos hx]
      cases hy : dayB (lat n k) with
      | true => exact absurd ⟨hx.1, hx.2, hy⟩ hok
      | false => decide
    · rw [if_neg hx]; decide

set_option maxRecDepth 100000 in
theorem contract (H : Type) (enc : TypeId × Value → H) (W : World) (base : Nat) (args : Array Value) (ds gs : List (DataW H)) (before : List MemPlace)
    (hval : ∀ (j : Nat) t v, Tryd.f8.params[j]? = some t → args[j]? = some v → Value.okWide Tryd.prog W .any base t v)
    (hW : DataW.Whole enc Tryd.prog Tryd.f8.params.toList Rows.calendarLaterSpec.vars false W args.toList ds gs before) (hL : laidMetH Tryd.prog Rows.calendarLaterRow.laid W) (hSh : W.ShapedOpen Tryd.prog) :
    Calls Tryd.prog 8 args W fun e W' => ∃ v, e = .returned v ∧ Rows.calendarLaterSpec.post enc Tryd.prog Tryd.f8 false true false false W args v W' := by
  have hW' := hW
  obtain ⟨p, q, hA0, hV, rfl, hfz, hnd⟩ := hW
  have hA : DataW.TrodAll enc Tryd.prog W 0 (fun _ => true) true Tryd.f8.params.toList args.toList ds p := hA0
  rw [Tryd.params8] at hA hval
  obtain ⟨v0, vs0, d0, ds0, p0, q0, hargs, rfl, rfl, h0, r0⟩ := trodAll_cons hA
  obtain ⟨v1, vs1, d1, ds1, p1, q1, rfl, rfl, rfl, h1, r1⟩ := trodAll_cons r0
  obtain ⟨v2, vs2, d2, ds2, p2, q2, rfl, rfl, rfl, h2, r2⟩ := trodAll_cons r1
  obtain ⟨v3, vs3, d3, ds3, p3, q3, rfl, rfl, rfl, h3, r3⟩ := trodAll_cons r2
  obtain ⟨rfl, rfl, rfl⟩ := trodAll_nil r3
  obtain rfl : args = #[v0, v1, v2, v3] := by cases args; simp_all
  obtain ⟨rfl, rfl⟩ := trodVars_none hV
  have k0 := h0
  have lt0 : ∀ x ∈ p0, x.block < W.heap.size := by obtain ⟨m, hm⟩ := k0; exact DataW.trod_lt m _ _ _ hm
  have k1 := h1
  have lt1 : ∀ x ∈ p1, x.block < W.heap.size := by obtain ⟨m, hm⟩ := k1; exact DataW.trod_lt m _ _ _ hm
  have k2 := h2
  have lt2 : ∀ x ∈ p2, x.block < W.heap.size := by obtain ⟨m, hm⟩ := k2; exact DataW.trod_lt m _ _ _ hm
  have k3 := h3
  have lt3 : ∀ x ∈ p3, x.block < W.heap.size := by obtain ⟨m, hm⟩ := k3; exact DataW.trod_lt m _ _ _ hm
  obtain ⟨a0, rfl, rfl, rfl, w0⟩ := open_int Tryd.underlying3 (hval 0 3 v0 rfl rfl) h0
  obtain ⟨a1, rfl, rfl, rfl, w1⟩ := open_int Tryd.underlying3 (hval 1 3 v1 rfl rfl) h1
  obtain ⟨a2, rfl, rfl, rfl, w2⟩ := open_int Tryd.underlying3 (hval 2 3 v2 rfl rfl) h2
  obtain ⟨a3, rfl, rfl, rfl, w3⟩ := open_int Tryd.underlying3 (hval 3 3 v3 rfl rfl) h3
  clear hA0
  refine (walk a0 a1 a2 a3 W (wf_bd w0) (wf_bd w1) (wf_bd w2) (wf_bd w3) (laid_of rfl hL)).mono fun e W' ⟨he, bel⟩ => ?_
  subst he
  exact ⟨_, rfl, _, _, _, [], _, [], hW', trodAll_mk1 (shut_bool Tryd.underlying4 _), (trodAll_cons_mk (Below.trod laidOut (by kernel_rfl) (of_decide_eq_true (by kernel_rfl)) k0 bel lt0) (trodAll_cons_mk (Below.trod laidOut (by kernel_rfl) (of_decide_eq_true (by kernel_rfl)) k1 bel lt1) (trodAll_cons_mk (Below.trod laidOut (by kernel_rfl) (of_decide_eq_true (by kernel_rfl)) k2 bel lt2) (trodAll_cons_mk (Below.trod laidOut (by kernel_rfl) (of_decide_eq_true (by kernel_rfl)) k3 bel lt3) trodAll_mk0)))), rfl, bel.frame _, fun h => by cases h⟩

noncomputable def laidWorld (os : Os) : World := World.laidAll Tryd.prog os Rows.calendarLaterRow.laid
theorem laid_met (os : Os) : laidMet Tryd.prog Rows.calendarLaterRow.laid ((laidWorld os).forCall (fun _ _ => 0) ⟨#[], #[.int .i64 0, .int .i64 0, .int .i64 0, .int .i64 0], []⟩).memory :=
  laidMet_laidAll _ (by kernel_rfl) (by kernel_rfl)
theorem reads (os : Os) {H : Type} (enc : TypeId × Value → H) : ∃ places, DataW.whole enc Tryd.prog ((laidWorld os).forCall (fun _ _ => 0) ⟨#[], #[.int .i64 0, .int .i64 0, .int .i64 0, .int .i64 0], []⟩).memory Tryd.f8.params.toList Rows.calendarLaterSpec.vars false (#[.int .i64 0, .int .i64 0, .int .i64 0, .int .i64 0] : Array Value).toList 8 = some ([.lit (.int .i64 0), .lit (.int .i64 0), .lit (.int .i64 0), .lit (.int .i64 0)], [], places) :=
  ⟨[], by kernel_rfl⟩

set_option maxRecDepth 100000 in
theorem lifted (os : Os) (started : os.Started) (H : Type) (enc : TypeId × Value → H) (F : Stop.Interp) :
    ReturnsInHanded {} Tryd.checked os 8 .any ((OpenSpec.ofChange Rows.calendarLaterSpec).preRow enc Tryd.prog Tryd.f8 Rows.calendarLaterRow.domain false Rows.calendarLaterRow.laid) (((OpenSpec.ofChange Rows.calendarLaterSpec).at F).post enc Tryd.prog Tryd.f8 false true false false) := by
  obtain ⟨places, hx⟩ := reads os enc
  refine returnsInHanded_of_row (C := Tryd.checked) (s := OpenSpec.ofChange Rows.calendarLaterSpec) own started (by kernel_rfl) Tryd.func8
    (witness_row_at (enc := enc) (C := Tryd.checked) false (laidWorld os) #[.int .i64 0, .int .i64 0, .int .i64 0, .int .i64 0] (World.laidAll_os _ _ _) (by kernel_rfl) (by kernel_rfl) (by kernel_rfl)
      (OpenSpec.preRow_of_cond 8 hx (by kernel_rfl) (fun k hk => by cases hk) (by kernel_rfl) (laid_met os))) ?_
  intro W base args ds gs before hval hW _ _ _ hL hSh _
  exact contract H enc W base args ds gs before hval hW hL hSh

theorem said : Rows.CalendarLaterSaid :=
  OpenClaim.holds_of_cond 8 Tryd.f8 rfl rfl rfl rfl rfl rfl rfl ⟨rfl, rfl, rfl, rfl, rfl⟩ rfl rfl rfl rfl rfl (by kernel_rfl) Tryd.func8 (by kernel_rfl)
    (of_decide_eq_true (by kernel_rfl)) (by unfold Func.isWrapper; first | (rw [if_pos (by decide +kernel)]; kernel_rfl) | (rw [if_neg (by decide +kernel)]; exact ⟨rfl, rfl⟩))
    (fun os started H enc _ F => by rw [OpenClaim.pre_eq_preRow]; exact lifted os started H enc F)

theorem plain (f : FuncId) (fn : Func) (hf : Tryd.pinned.checked.prog.funcNamed "spile/spilelaw04.CalendarLater" = some f) (hfn : Tryd.pinned.checked.prog.funcs[f]? = some fn) :
    false = Tryd.pinned.checked.prog.looks [] ∧ ∀ (j : Nat) t, fn.params[j]? = some t → Tryd.pinned.checked.prog.wantsStandIn t = false := by
  obtain rfl : f = 8 := Option.some.inj ((show Tryd.prog.funcNamed "spile/spilelaw04.CalendarLater" = some 8 by kernel_rfl).symm.trans hf) |>.symm
  obtain rfl : fn = Tryd.f8 := (Option.some.inj (Tryd.func8.symm.trans hfn)).symm
  refine ⟨by kernel_rfl, fun j t ht => ?_⟩
  rw [Tryd.params8] at ht
  rcases j with _ | _ | _ | _ | j
  · obtain rfl : t = 3 := by simpa using ht.symm
    exact (show Tryd.prog.wantsStandIn 3 = false by kernel_rfl)
  · obtain rfl : t = 3 := by simpa using ht.symm
    exact (show Tryd.prog.wantsStandIn 3 = false by kernel_rfl)
  · obtain rfl : t = 3 := by simpa using ht.symm
    exact (show Tryd.prog.wantsStandIn 3 = false by kernel_rfl)
  · obtain rfl : t = 3 := by simpa using ht.symm
    exact (show Tryd.prog.wantsStandIn 3 = false by kernel_rfl)
  · simp at ht

theorem proved : Rows.CalendarLaterCardSaid :=
  Claim7.holds_tied_plain_at .later [] _ _ _ _ said (fun _ h => by cases h) (by kernel_rfl) (fun _ h => by cases h) calendarLater_row_tie rfl ⟨rfl, rfl⟩ (by kernel_rfl) rfl plain (by kernel_rfl)
#print axioms proved
end Go.Proofs.YtdhckbjebccdbabDoor.calendarLater
