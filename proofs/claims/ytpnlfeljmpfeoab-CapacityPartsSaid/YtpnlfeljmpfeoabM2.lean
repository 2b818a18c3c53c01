/- Texts that the proofs of this seat share, one behind the other: KRB, KPC, KRC, Num, Div, OfK, KPD, CRD, CRG, CLM, CLA, KRD, CLT, PPL, PPF, Up1. -/
import Derived.Test.YtpnlfeljmpfeoabM1
import Derived.Lib.BitFns
import Derived.Lib.ItoaNum
import Derived.Laws.Bits64
import Derived.Laws.BitsAllLaws
import Derived.Test.YtpnlfeljmpfeoabProg
import Derived.Test.YtpnlfeljmpfeoabShelf
import Derived.WalkKit
import Derived.Handy
import Derived.Lib.Hide
import Derived.Outline
import Derived.Deep.DeepCutAuto
import Derived.Deep.CutBlock
import Derived.Deep.QuietTactic
import Derived.BigQuiet
import Derived.Maps.OwnSet
import Derived.StillTailTactics

set_option linter.unusedVariables false
set_option linter.unusedSimpArgs false

/- The reference of layer 10: Volume, Agrees, Room. -/
namespace Go.Proofs.Ytpnlfeljmpfeoab
open Go.RowKit

/-- what Volume returns -/
def vlL (c : Ck) : Int := if ccE c = 0 then cvL (frS c.pf) else 0
def vlH (c : Ck) : Int := if ccE c = 0 then cvH (frS c.pf) else 0
theorem ccE_pf {c : Ck} (h : ccE c = 0) : isNm c.nm = true ∧ (c.ps = 1 ∨ c.ps = 2) ∧ (0 ≤ c.dc ∧ c.dc ≤ 1073741824) ∧ RP c.pf := by
  unfold ccE at h
  split at h
  · rename_i g
    split at h
    · omega
    · exact ⟨g, by omega, by omega, (ckE_iff _).1 h⟩
  · omega
theorem vl_bd (c : Ck) : (0 ≤ vlL c ∧ vlL c ≤ vlH c) ∧ vlH c ≤ 3200000000 := by
  unfold vlL vlH
  by_cases h : ccE c = 0
  · have := cv_bd (frS_bd (ccE_pf h).2.2.2)
    rw [if_pos h, if_pos h]; omega
  · rw [if_neg h, if_neg h]; omega
theorem refVol_bad (nm : ByteArray) (ps dc E : Int) (a : Option Addr) (n cap : Nat) (w : World) (e1 : (E == 0) = false) (e2 : (E != 0) = true)
    (H1 : Hid (∀ W, Below w.heap.size w W → Calls Try.prog 39 #[.agg #[.string nm, .int .i64 ps, .slice a n cap, .int .i64 dc]] W fun e w' => e = .returned (.int .i64 E) ∧ Below W.heap.size W w')) :
    Calls Try.prog 21 #[.agg #[.string nm, .int .i64 ps, .slice a n cap, .int .i64 dc]] w fun e w' => e = .returned (.tuple #[.agg #[.int .i64 0, .int .i64 0], .int .i64 E]) ∧ Below w.heap.size w w' := by
  have F0 := (Quad.new w (.string nm) (.int .i64 ps) (.slice a n cap) (.int .i64 dc) 36)
  have T0 := Lib.hid (Two.new (w.alloc (.cells #[.string nm, .int .i64 ps, .slice a n cap, .int .i64 dc] 36)) (.int .i64 0) (.int .i64 0) 32)
  simp only [World.size_alloc] at T0
  go_enter Try.func21, Try.ntmps21
  go_wp2_with fail
  refine (H1.out _ (bel_alloc (bel_alloc (Below.refl _ _)))).mono ?_
  rintro e w1 ⟨rfl, gg⟩
  replace T0 := Lib.hid (T0.out.below gg)
  have X1 := Lib.hid (bel_alloc (bel_alloc gg)); clear gg
  obtain ⟨z0, z1, f0, f1, hlt⟩ := T0.out
  go_wp2
  obtain ⟨t0, t1⟩ := two_read w1 (w.heap.size + 1) (.int .i64 0) (.int .i64 0) z0 z1
  refine bodyPost_ret (v := .tuple #[.agg #[.int .i64 0, .int .i64 0], .int .i64 E]) (by simp [results, Try.results21, go_sem, t0, t1]) rfl ?_
  exact ⟨rfl, (X1.out.setCell (by show _ ≤ _; simp) _).setCell (by show _ ≤ _; simp) _⟩
set_option maxHeartbeats 4000000 in
theorem refVol_ok (nm : ByteArray) (ps dc S L H L2 H2 : Int) (a : Option Addr) (n cap : Nat) (w : World)
    (H1 : Hid (∀ W, Below w.heap.size w W → Calls Try.prog 39 #[.agg #[.string nm, .int .i64 ps, .slice a n cap, .int .i64 dc]] W fun e w' => e = .returned (.int .i64 0) ∧ Below W.heap.size W w'))
    (H3 : Hid (∀ W, Below w.heap.size w W → Calls Try.prog 35 #[.slice a n cap] W fun e w' => e = .returned (.int .i64 S) ∧ Below W.heap.size W w'))
    (H4 : Hid (∀ W, Calls Try.prog 37 #[.int .i64 S] W fun e w' => e = .returned (.agg #[.int .i64 L, .int .i64 H]) ∧ Below W.heap.size W w'))
    (H5 : Hid (∀ W, Calls Try.prog 40 #[.agg #[.int .i64 L, .int .i64 H]] W fun e w' => e = .returned (.agg #[.int .i64 L2, .int .i64 H2]) ∧ Below W.heap.size W w')) :
    Calls Try.prog 21 #[.agg #[.string nm, .int .i64 ps, .slice a n cap, .int .i64 dc]] w fun e w' => e = .returned (.tuple #[.agg #[.int .i64 L2, .int .i64 H2], .int .i64 0]) ∧ Below w.heap.size w w' := by
  have F0 := Lib.hid ((Quad.new w (.string nm) (.int .i64 ps) (.slice a n cap) (.int .i64 dc) 36).alloc (.cells #[.int .i64 0, .int .i64 0] 32))
  have T0 := Lib.hid (Two.new (w.alloc (.cells #[.string nm, .int .i64 ps, .slice a n cap, .int .i64 dc] 36)) (.int .i64 0) (.int .i64 0) 32)
  simp only [World.size_alloc] at T0
  have r0 := (Quad.new w (.string nm) (.int .i64 ps) (.slice a n cap) (.int .i64 dc) 36)
  go_enter Try.func21, Try.ntmps21
  go_wp2_with fail
  refine (H1.out _ (bel_alloc (bel_alloc (Below.refl _ _)))).mono ?_
  rintro e w1 ⟨rfl, gg⟩
  replace T0 := Lib.hid (T0.out.below gg)
  replace F0 := Lib.hid (F0.out.below gg)
  have X1 := Lib.hid (bel_alloc (bel_alloc gg)); clear gg r0
  obtain ⟨_, _, u2, _, _, _⟩ := F0.out
  go_wp2_with fail
  refine (H3.out _ X1.out).mono ?_
  rintro e w2 ⟨rfl, gg⟩
  replace T0 := Lib.hid (T0.out.below gg)
  replace X1 := Lib.hid (bel_trans X1.out gg); clear gg u2
  go_wp2_with fail
  refine (H4.out _).mono ?_
  rintro e w3 ⟨rfl, gg⟩
  replace T0 := Lib.hid (T0.out.below gg)
  replace X1 := Lib.hid (bel_trans X1.out gg); clear gg
  go_wp2_with fail
  refine (H5.out _).mono ?_
  rintro e w4 ⟨rfl, gg⟩
  replace T0 := Lib.hid (T0.out.below gg)
  replace X1 := Lib.hid (bel_trans X1.out gg); clear gg
  obtain ⟨z0, z1, f0, f1, hlt⟩ := T0.out
  go_wp2
  obtain ⟨t0, t1⟩ := two_read w4 (w.heap.size + 1) (.int .i64 L2) (.int .i64 H2) z0 z1
  refine bodyPost_ret (v := .tuple #[.agg #[.int .i64 L2, .int .i64 H2], .int .i64 0]) (by simp [results, Try.results21, go_sem, t0, t1]) rfl ?_
  exact ⟨rfl, (X1.out.setCell (by show _ ≤ _; simp) _).setCell (by show _ ≤ _; simp) _⟩
theorem refVol_any (v : Value) (c : Ck) (w : World) (hv : CkV w v c) :
    Calls Try.prog 21 #[v] w fun e w' => e = .returned (.tuple #[.agg #[.int .i64 (vlL c), .int .i64 (vlH c)], .int .i64 (ccE c)]) ∧ Below w.heap.size w w' := by
  have HC : Hid (∀ W, Below w.heap.size w W → _) := Lib.hid fun W hW => refCkk_any v c W (hv.below hW)
  obtain ⟨a, cap, rfl, hp, _⟩ := hv
  unfold vlL vlH
  by_cases h : ccE c = 0
  · obtain ⟨_, _, _, hR⟩ := ccE_pf h
    have bd := frS_bd hR
    have cb := cb_bd bd
    rw [if_pos h, if_pos h, h]
    rw [h] at HC
    exact refVol_ok _ _ _ (frS c.pf) _ _ _ _ a _ cap w HC (Lib.hid fun W hW => refSum_any _ c.pf W (hp.below hW) hR) (Lib.hid fun W => refBo_any _ W bd) (Lib.hid fun W => refLi_any _ _ W (by omega) (by omega))
  · rw [if_neg h, if_neg h]
    exact refVol_bad _ _ _ _ a _ cap w (by simpa using h) (by simpa using h) HC
end Go.Proofs.Ytpnlfeljmpfeoab

/- Package capacity: Volume. -/
namespace Go.Proofs.Ytpnlfeljmpfeoab
open Go.RowKit

theorem vol_bad (nm : ByteArray) (ps dc E : Int) (a : Option Addr) (n cap : Nat) (w : World) (e1 : (E == 0) = false) (e2 : (E != 0) = true)
    (H1 : Hid (∀ W, Below w.heap.size w W → Calls Try.prog 38 #[.agg #[.string nm, .int .i64 ps, .slice a n cap, .int .i64 dc]] W fun e w' => e = .returned (.int .i64 E) ∧ Below W.heap.size W w')) :
    Calls Try.prog 20 #[.agg #[.string nm, .int .i64 ps, .slice a n cap, .int .i64 dc]] w fun e w' => e = .returned (.tuple #[.agg #[.int .i64 0, .int .i64 0], .int .i64 E]) ∧ Below w.heap.size w w' := by
  have F0 := (Quad.new w (.string nm) (.int .i64 ps) (.slice a n cap) (.int .i64 dc) 36)
  have T0 := Lib.hid (Two.new (w.alloc (.cells #[.string nm, .int .i64 ps, .slice a n cap, .int .i64 dc] 36)) (.int .i64 0) (.int .i64 0) 32)
  simp only [World.size_alloc] at T0
  go_enter Try.func20, Try.ntmps20
  go_wp2_with fail
  refine (H1.out _ (bel_alloc (bel_alloc (Below.refl _ _)))).mono ?_
  rintro e w1 ⟨rfl, gg⟩
  replace T0 := Lib.hid (T0.out.below gg)
  have X1 := Lib.hid (bel_alloc (bel_alloc gg)); clear gg
  obtain ⟨z0, z1, f0, f1, hlt⟩ := T0.out
  go_wp2
  obtain ⟨t0, t1⟩ := two_read w1 (w.heap.size + 1) (.int .i64 0) (.int .i64 0) z0 z1
  refine bodyPost_ret (v := .tuple #[.agg #[.int .i64 0, .int .i64 0], .int .i64 E]) (by simp [results, Try.results20, go_sem, t0, t1]) rfl ?_
  exact ⟨rfl, (X1.out.setCell (by show _ ≤ _; simp) _).setCell (by show _ ≤ _; simp) _⟩
set_option maxHeartbeats 4000000 in
theorem vol_ok (nm : ByteArray) (ps dc L H L2 H2 : Int) (a : Option Addr) (n cap : Nat) (w : World) (hL : 0 ≤ L ∧ L ≤ 3200000000000000) (hL2 : Hid (L / 1000000 = L2))
    (H1 : Hid (∀ W, Below w.heap.size w W → Calls Try.prog 38 #[.agg #[.string nm, .int .i64 ps, .slice a n cap, .int .i64 dc]] W fun e w' => e = .returned (.int .i64 0) ∧ Below W.heap.size W w'))
    (H3 : Hid (∀ W, Below w.heap.size w W → Calls Try.prog 15 #[.slice a n cap] W fun e w' => e = .returned (.tuple #[.agg #[.int .i64 L, .int .i64 H], .int .i64 0]) ∧ Below W.heap.size W w'))
    (H4 : Hid (∀ W, Calls Try.prog 36 #[.int .i64 H, .int .i64 1000000] W fun e w' => e = .returned (.int .i64 H2) ∧ w' = W)) :
    Calls Try.prog 20 #[.agg #[.string nm, .int .i64 ps, .slice a n cap, .int .i64 dc]] w fun e w' => e = .returned (.tuple #[.agg #[.int .i64 L2, .int .i64 H2], .int .i64 0]) ∧ Below w.heap.size w w' := by
  have F0 := Lib.hid ((Quad.new w (.string nm) (.int .i64 ps) (.slice a n cap) (.int .i64 dc) 36).alloc (.cells #[.int .i64 0, .int .i64 0] 32))
  have T0 := Lib.hid (Two.new (w.alloc (.cells #[.string nm, .int .i64 ps, .slice a n cap, .int .i64 dc] 36)) (.int .i64 0) (.int .i64 0) 32)
  simp only [World.size_alloc] at T0
  have r0 := (Quad.new w (.string nm) (.int .i64 ps) (.slice a n cap) (.int .i64 dc) 36)
  have d1 : L.tdiv 1000000 = L2 := by rw [← hL2.out]; exact Int.tdiv_eq_ediv_of_nonneg (by omega)
  have d2 := Lib.hid (show 0 ≤ L2 ∧ L2 ≤ 3200000000 by rw [← hL2.out]; omega)
  have w4 : IntKind.i64.wrap L2 = L2 := wrap_in _ ⟨by have := d2.out; omega, by have := d2.out; omega⟩
  clear hL
  go_enter Try.func20, Try.ntmps20
  go_wp2_with fail
  refine (H1.out _ (bel_alloc (bel_alloc (Below.refl _ _)))).mono ?_
  rintro e w1 ⟨rfl, gg⟩
  replace T0 := Lib.hid (T0.out.below gg)
  replace F0 := Lib.hid (F0.out.below gg)
  have X1 := Lib.hid (bel_alloc (bel_alloc gg)); clear gg r0
  obtain ⟨_, _, u2, _, _, _⟩ := F0.out
  go_wp2_with fail
  refine (H3.out _ X1.out).mono ?_
  rintro e w2 ⟨rfl, gg⟩
  replace T0 := Lib.hid (T0.out.below gg)
  replace X1 := Lib.hid (bel_trans X1.out gg); clear gg u2
  have T1 := Two.new w2 (.int .i64 L) (.int .i64 H) 32
  obtain ⟨y0, y1, _, _, _⟩ := T1
  have T2 := Lib.hid (T0.out.alloc (.cells #[.int .i64 L, .int .i64 H] 32))
  obtain ⟨z0, z1, f0, f1, hlt⟩ := T2.out
  go_wp2_with fail
  go_region_with (go_at_call 36; refine (H4.out _).mono ?_; rintro e w3 ⟨rfl, gg⟩; subst gg)
  all_goals clear H1 H3 H4 T0 F0 T2 d1 w4 hL2
  all_goals go_wp2
  all_goals
    obtain ⟨t0, t1⟩ := two_read (w2.alloc (.cells #[.int .i64 L, .int .i64 H] 32)) (w.heap.size + 1) (.int .i64 L2) (.int .i64 H2) z0 z1
    refine bodyPost_ret (v := .tuple #[.agg #[.int .i64 L2, .int .i64 H2], .int .i64 0]) (by simp [results, Try.results20, go_sem, t0, t1]) rfl ?_
    exact ⟨rfl, (((X1.out.alloc X1.out.size _).setCell (by show _ ≤ _; simp) _).setCell (by show _ ≤ _; simp) _).drew⟩
theorem cVol_any (v : Value) (c : Ck) (w : World) (hv : CkV w v c) :
    Calls Try.prog 20 #[v] w fun e w' => e = .returned (.tuple #[.agg #[.int .i64 (vlL c), .int .i64 (vlH c)], .int .i64 (ccE c)]) ∧ Below w.heap.size w w' := by
  have HC : Hid (∀ W, Below w.heap.size w W → _) := Lib.hid fun W hW => ckk_any v c W (hv.below hW)
  obtain ⟨a, cap, rfl, hp, _⟩ := hv
  unfold vlL vlH
  by_cases h : ccE c = 0
  · obtain ⟨_, _, _, hR⟩ := ccE_pf h
    have bd := frS_bd hR
    have cb := cb_bd bd
    rw [if_pos h, if_pos h, h]
    rw [h] at HC
    have HS : Hid (∀ W, Below w.heap.size w W → _) := Lib.hid fun W hW => cSpc_any _ c.pf W (hp.below hW)
    have hk := (ckE_iff _).2 hR
    unfold spL spH at HS
    rw [if_pos hk, if_pos hk, hk] at HS
    refine vol_ok _ _ _ (cbL (frS c.pf)) (cbH (frS c.pf)) _ _ a _ cap w ⟨by omega, by omega⟩ rfl HC HS (Lib.hid fun W => ?_)
    have := cup_any (cbH (frS c.pf)) 1000000 W (by omega) (by omega)
    rwa [show cbH (frS c.pf) + 1000000 - 1 = cbH (frS c.pf) + 999999 by omega] at this
  · rw [if_neg h, if_neg h]
    exact vol_bad _ _ _ _ a _ cap w (by simpa using h) (by simpa using h) HC
end Go.Proofs.Ytpnlfeljmpfeoab

/- The reference of layer 10: Agrees, Room. -/
namespace Go.Proofs.Ytpnlfeljmpfeoab
open Go.RowKit

/-- what Agrees and Room return -/
def agE (c : Ck) (t : Int) : Int := if ccE c = 0 then (if t < 0 ∨ 1000 < t then 2 else 0) else ccE c
def agQ (c : Ck) (t : Int) : Int := if agE c t = 0 then agA (vlL c) (vlH c) c.dc t else 0
def rmE (c : Ck) (v : Int) : Int := if ccE c = 0 then (if v < 0 ∨ 1073741824 < v then 2 else 0) else ccE c
def rmL (c : Ck) (v : Int) : Int := if rmE c v = 0 then max 0 (vlL c - v) else 0
def rmH (c : Ck) (v : Int) : Int := if rmE c v = 0 then max 0 (vlH c - v) else 0
theorem refAg_bad (nm : ByteArray) (ps dc t L H E : Int) (a : Option Addr) (n cap : Nat) (w : World) (e1 : (E == 0) = false) (e2 : (E != 0) = true)
    (H1 : Hid (∀ W, Below w.heap.size w W → Calls Try.prog 21 #[.agg #[.string nm, .int .i64 ps, .slice a n cap, .int .i64 dc]] W fun e w' => e = .returned (.tuple #[.agg #[.int .i64 L, .int .i64 H], .int .i64 E]) ∧ Below W.heap.size W w')) :
    Calls Try.prog 23 #[.agg #[.string nm, .int .i64 ps, .slice a n cap, .int .i64 dc], .int .i64 t] w fun e w' => e = .returned (.tuple #[.int .i64 0, .int .i64 E]) ∧ Below w.heap.size w w' := by
  go_enter Try.func23, Try.ntmps23
  go_wp2_with fail
  refine (H1.out _ (bel_alloc (Below.refl _ _))).mono ?_
  rintro e w1 ⟨rfl, gg⟩
  have X1 := Lib.hid (bel_alloc gg); clear gg
  go_wp2
  go_returns
  exact ⟨rfl, X1.out.alloc X1.out.size _⟩
theorem refAg_range (nm : ByteArray) (ps dc t L H : Int) (a : Option Addr) (n cap : Nat) (w : World) (ht : t < 0 ∨ 1000 < t)
    (H1 : Hid (∀ W, Below w.heap.size w W → Calls Try.prog 21 #[.agg #[.string nm, .int .i64 ps, .slice a n cap, .int .i64 dc]] W fun e w' => e = .returned (.tuple #[.agg #[.int .i64 L, .int .i64 H], .int .i64 0]) ∧ Below W.heap.size W w')) :
    Calls Try.prog 23 #[.agg #[.string nm, .int .i64 ps, .slice a n cap, .int .i64 dc], .int .i64 t] w fun e w' => e = .returned (.tuple #[.int .i64 0, .int .i64 2]) ∧ Below w.heap.size w w' := by
  by_cases h : t < 0
  · have d0 : decide (t < 0) = true := decide_eq_true h
    clear ht
    go_enter Try.func23, Try.ntmps23
    go_wp2_with fail
    refine (H1.out _ (bel_alloc (Below.refl _ _))).mono ?_
    rintro e w1 ⟨rfl, gg⟩
    have X1 := Lib.hid (bel_alloc gg); clear gg
    go_wp2
    go_returns
    exact ⟨rfl, X1.out.alloc X1.out.size _⟩
  · have d0 : decide (t < 0) = false := decide_eq_false h
    have d1 : decide (1000 < t) = true := decide_eq_true (by omega)
    clear ht
    go_enter Try.func23, Try.ntmps23
    go_wp2_with fail
    refine (H1.out _ (bel_alloc (Below.refl _ _))).mono ?_
    rintro e w1 ⟨rfl, gg⟩
    have X1 := Lib.hid (bel_alloc gg); clear gg
    go_wp2
    go_returns
    exact ⟨rfl, X1.out.alloc X1.out.size _⟩
theorem mul_bd0 {p q P Q : Int} (p0 : 0 ≤ p) (p1 : p ≤ P) (q0 : 0 ≤ q) (q1 : q ≤ Q) : 0 ≤ p * q ∧ p * q ≤ P * Q :=
  ⟨Int.mul_nonneg p0 q0, Int.mul_le_mul p1 q1 q0 (by omega)⟩
set_option maxHeartbeats 8000000 in
theorem refAg_0 (nm : ByteArray) (ps dc t L H u v : Int) (a : Option Addr) (n cap : Nat) (w : World) (d0 : decide (t < 0) = false) (d1 : decide (1000 < t) = false)
    (w1 : IntKind.i64.wrap (1000 - t) = 1000 - t) (w2 : IntKind.i64.wrap (1000 + t) = 1000 + t) (w3 : IntKind.i64.wrap ((1000 - t) * dc) = u) (w4 : IntKind.i64.wrap ((1000 + t) * dc) = v) (w5 : IntKind.i64.wrap (1000 * L) = 1000 * L) (w6 : IntKind.i64.wrap (1000 * H) = 1000 * H)
    (c0 : decide (u ≤ 1000 * L) = false) (c1 : decide (1000 * L ≤ v) = false) (b1 : decide (v < 1000 * L) = true)
    (H1 : Hid (∀ W, Below w.heap.size w W → Calls Try.prog 21 #[.agg #[.string nm, .int .i64 ps, .slice a n cap, .int .i64 dc]] W fun e w' => e = .returned (.tuple #[.agg #[.int .i64 L, .int .i64 H], .int .i64 0]) ∧ Below W.heap.size W w')) :
    Calls Try.prog 23 #[.agg #[.string nm, .int .i64 ps, .slice a n cap, .int .i64 dc], .int .i64 t] w fun e w' => e = .returned (.tuple #[.int .i64 2, .int .i64 0]) ∧ Below w.heap.size w w' := by
  have F0 := Lib.hid (Quad.new w (.string nm) (.int .i64 ps) (.slice a n cap) (.int .i64 dc) 36)
  go_enter Try.func23, Try.ntmps23
  go_wp2_with fail
  refine (H1.out _ (bel_alloc (Below.refl _ _))).mono ?_
  rintro e w1 ⟨rfl, gg⟩
  replace F0 := Lib.hid ((F0.out.below gg).alloc (.cells #[.int .i64 L, .int .i64 H] 32))
  have T0 := Lib.hid (Two.new w1 (.int .i64 L) (.int .i64 H) 32)
  have X1 := Lib.hid ((bel_alloc gg).alloc (bel_alloc gg).size (.cells #[.int .i64 L, .int .i64 H] 32)); clear gg
  obtain ⟨_, _, _, u3, _, _⟩ := F0.out
  obtain ⟨z0, z1, _, _, _⟩ := T0.out
  clear H1
  go_wp2_with fail
  go_quiet (fail)
  go_wp2_with fail
  go_quiet (fail)
  go_wp2
  go_returns
  exact ⟨rfl, bel_trans X1.out (bel_drewN _ _)⟩
set_option maxHeartbeats 8000000 in
theorem refAg_1 (nm : ByteArray) (ps dc t L H u v : Int) (a : Option Addr) (n cap : Nat) (w : World) (d0 : decide (t < 0) = false) (d1 : decide (1000 < t) = false)
    (w1 : IntKind.i64.wrap (1000 - t) = 1000 - t) (w2 : IntKind.i64.wrap (1000 + t) = 1000 + t) (w3 : IntKind.i64.wrap ((1000 - t) * dc) = u) (w4 : IntKind.i64.wrap ((1000 + t) * dc) = v) (w5 : IntKind.i64.wrap (1000 * L) = 1000 * L) (w6 : IntKind.i64.wrap (1000 * H) = 1000 * H)
    (c0 : decide (u ≤ 1000 * L) = false) (c1 : decide (1000 * L ≤ v) = true) (c2 : decide (u ≤ 1000 * H) = false) (b1 : decide (v < 1000 * L) = false) (b2 : decide (1000 * H < u) = true)
    (H1 : Hid (∀ W, Below w.heap.size w W → Calls Try.prog 21 #[.agg #[.string nm, .int .i64 ps, .slice a n cap, .int .i64 dc]] W fun e w' => e = .returned (.tuple #[.agg #[.int .i64 L, .int .i64 H], .int .i64 0]) ∧ Below W.heap.size W w')) :
    Calls Try.prog 23 #[.agg #[.string nm, .int .i64 ps, .slice a n cap, .int .i64 dc], .int .i64 t] w fun e w' => e = .returned (.tuple #[.int .i64 2, .int .i64 0]) ∧ Below w.heap.size w w' := by
  have F0 := Lib.hid (Quad.new w (.string nm) (.int .i64 ps) (.slice a n cap) (.int .i64 dc) 36)
  go_enter Try.func23, Try.ntmps23
  go_wp2_with fail
  refine (H1.out _ (bel_alloc (Below.refl _ _))).mono ?_
  rintro e w1 ⟨rfl, gg⟩
  replace F0 := Lib.hid ((F0.out.below gg).alloc (.cells #[.int .i64 L, .int .i64 H] 32))
  have T0 := Lib.hid (Two.new w1 (.int .i64 L) (.int .i64 H) 32)
  have X1 := Lib.hid ((bel_alloc gg).alloc (bel_alloc gg).size (.cells #[.int .i64 L, .int .i64 H] 32)); clear gg
  obtain ⟨_, _, _, u3, _, _⟩ := F0.out
  obtain ⟨z0, z1, _, _, _⟩ := T0.out
  clear H1
  go_wp2_with fail
  go_quiet (fail)
  go_wp2_with fail
  go_quiet (fail)
  go_wp2
  go_returns
  exact ⟨rfl, bel_trans X1.out (bel_drewN _ _)⟩
set_option maxHeartbeats 8000000 in
theorem refAg_2 (nm : ByteArray) (ps dc t L H u v : Int) (a : Option Addr) (n cap : Nat) (w : World) (d0 : decide (t < 0) = false) (d1 : decide (1000 < t) = false)
    (w1 : IntKind.i64.wrap (1000 - t) = 1000 - t) (w2 : IntKind.i64.wrap (1000 + t) = 1000 + t) (w3 : IntKind.i64.wrap ((1000 - t) * dc) = u) (w4 : IntKind.i64.wrap ((1000 + t) * dc) = v) (w5 : IntKind.i64.wrap (1000 * L) = 1000 * L) (w6 : IntKind.i64.wrap (1000 * H) = 1000 * H)
    (c0 : decide (u ≤ 1000 * L) = false) (c1 : decide (1000 * L ≤ v) = true) (c2 : decide (u ≤ 1000 * H) = true) (b1 : decide (v < 1000 * L) = false) (b2 : decide (1000 * H < u) = false)
    (H1 : Hid (∀ W, Below w.heap.size w W → Calls Try.prog 21 #[.agg #[.string nm, .int .i64 ps, .slice a n cap, .int .i64 dc]] W fun e w' => e = .returned (.tuple #[.agg #[.int .i64 L, .int .i64 H], .int .i64 0]) ∧ Below W.heap.size W w')) :
    Calls Try.prog 23 #[.agg #[.string nm, .int .i64 ps, .slice a n cap, .int .i64 dc], .int .i64 t] w fun e w' => e = .returned (.tuple #[.int .i64 3, .int .i64 0]) ∧ Below w.heap.size w w' := by
  have F0 := Lib.hid (Quad.new w (.string nm) (.int .i64 ps) (.slice a n cap) (.int .i64 dc) 36)
  go_enter Try.func23, Try.ntmps23
  go_wp2_with fail
  refine (H1.out _ (bel_alloc (Below.refl _ _))).mono ?_
  rintro e w1 ⟨rfl, gg⟩
  replace F0 := Lib.hid ((F0.out.below gg).alloc (.cells #[.int .i64 L, .int .i64 H] 32))
  have T0 := Lib.hid (Two.new w1 (.int .i64 L) (.int .i64 H) 32)
  have X1 := Lib.hid ((bel_alloc gg).alloc (bel_alloc gg).size (.cells #[.int .i64 L, .int .i64 H] 32)); clear gg
  obtain ⟨_, _, _, u3, _, _⟩ := F0.out
  obtain ⟨z0, z1, _, _, _⟩ := T0.out
  clear H1
  go_wp2_with fail
  go_quiet (fail)
  go_wp2_with fail
  go_quiet (fail)
  go_wp2
  go_returns
  exact ⟨rfl, bel_trans X1.out (bel_drewN _ _)⟩
set_option maxHeartbeats 8000000 in
theorem refAg_3 (nm : ByteArray) (ps dc t L H u v : Int) (a : Option Addr) (n cap : Nat) (w : World) (d0 : decide (t < 0) = false) (d1 : decide (1000 < t) = false)
    (w1 : IntKind.i64.wrap (1000 - t) = 1000 - t) (w2 : IntKind.i64.wrap (1000 + t) = 1000 + t) (w3 : IntKind.i64.wrap ((1000 - t) * dc) = u) (w4 : IntKind.i64.wrap ((1000 + t) * dc) = v) (w5 : IntKind.i64.wrap (1000 * L) = 1000 * L) (w6 : IntKind.i64.wrap (1000 * H) = 1000 * H)
    (c0 : decide (u ≤ 1000 * L) = true) (c1 : decide (1000 * L ≤ v) = false) (b1 : decide (v < 1000 * L) = true)
    (H1 : Hid (∀ W, Below w.heap.size w W → Calls Try.prog 21 #[.agg #[.string nm, .int .i64 ps, .slice a n cap, .int .i64 dc]] W fun e w' => e = .returned (.tuple #[.agg #[.int .i64 L, .int .i64 H], .int .i64 0]) ∧ Below W.heap.size W w')) :
    Calls Try.prog 23 #[.agg #[.string nm, .int .i64 ps, .slice a n cap, .int .i64 dc], .int .i64 t] w fun e w' => e = .returned (.tuple #[.int .i64 2, .int .i64 0]) ∧ Below w.heap.size w w' := by
  have F0 := Lib.hid (Quad.new w (.string nm) (.int .i64 ps) (.slice a n cap) (.int .i64 dc) 36)
  go_enter Try.func23, Try.ntmps23
  go_wp2_with fail
  refine (H1.out _ (bel_alloc (Below.refl _ _))).mono ?_
  rintro e w1 ⟨rfl, gg⟩
  replace F0 := Lib.hid ((F0.out.below gg).alloc (.cells #[.int .i64 L, .int .i64 H] 32))
  have T0 := Lib.hid (Two.new w1 (.int .i64 L) (.int .i64 H) 32)
  have X1 := Lib.hid ((bel_alloc gg).alloc (bel_alloc gg).size (.cells #[.int .i64 L, .int .i64 H] 32)); clear gg
  obtain ⟨_, _, _, u3, _, _⟩ := F0.out
  obtain ⟨z0, z1, _, _, _⟩ := T0.out
  clear H1
  go_wp2_with fail
  go_quiet (fail)
  go_wp2_with fail
  go_quiet (fail)
  go_wp2
  go_returns
  exact ⟨rfl, bel_trans X1.out (bel_drewN _ _)⟩
set_option maxHeartbeats 8000000 in
theorem refAg_4 (nm : ByteArray) (ps dc t L H u v : Int) (a : Option Addr) (n cap : Nat) (w : World) (d0 : decide (t < 0) = false) (d1 : decide (1000 < t) = false)
    (w1 : IntKind.i64.wrap (1000 - t) = 1000 - t) (w2 : IntKind.i64.wrap (1000 + t) = 1000 + t) (w3 : IntKind.i64.wrap ((1000 - t) * dc) = u) (w4 : IntKind.i64.wrap ((1000 + t) * dc) = v) (w5 : IntKind.i64.wrap (1000 * L) = 1000 * L) (w6 : IntKind.i64.wrap (1000 * H) = 1000 * H)
    (c0 : decide (u ≤ 1000 * L) = true) (c1 : decide (1000 * L ≤ v) = true) (c2 : decide (u ≤ 1000 * H) = false) (b1 : decide (v < 1000 * L) = false) (b2 : decide (1000 * H < u) = true)
    (H1 : Hid (∀ W, Below w.heap.size w W → Calls Try.prog 21 #[.agg #[.string nm, .int .i64 ps, .slice a n cap, .int .i64 dc]] W fun e w' => e = .returned (.tuple #[.agg #[.int .i64 L, .int .i64 H], .int .i64 0]) ∧ Below W.heap.size W w')) :
    Calls Try.prog 23 #[.agg #[.string nm, .int .i64 ps, .slice a n cap, .int .i64 dc], .int .i64 t] w fun e w' => e = .returned (.tuple #[.int .i64 2, .int .i64 0]) ∧ Below w.heap.size w w' := by
  have F0 := Lib.hid (Quad.new w (.string nm) (.int .i64 ps) (.slice a n cap) (.int .i64 dc) 36)
  go_enter Try.func23, Try.ntmps23
  go_wp2_with fail
  refine (H1.out _ (bel_alloc (Below.refl _ _))).mono ?_
  rintro e w1 ⟨rfl, gg⟩
  replace F0 := Lib.hid ((F0.out.below gg).alloc (.cells #[.int .i64 L, .int .i64 H] 32))
  have T0 := Lib.hid (Two.new w1 (.int .i64 L) (.int .i64 H) 32)
  have X1 := Lib.hid ((bel_alloc gg).alloc (bel_alloc gg).size (.cells #[.int .i64 L, .int .i64 H] 32)); clear gg
  obtain ⟨_, _, _, u3, _, _⟩ := F0.out
  obtain ⟨z0, z1, _, _, _⟩ := T0.out
  clear H1
  go_wp2_with fail
  go_quiet (fail)
  go_wp2_with fail
  go_quiet (fail)
  go_wp2
  go_returns
  exact ⟨rfl, bel_trans X1.out (bel_drewN _ _)⟩
set_option maxHeartbeats 8000000 in
theorem refAg_5 (nm : ByteArray) (ps dc t L H u v : Int) (a : Option Addr) (n cap : Nat) (w : World) (d0 : decide (t < 0) = false) (d1 : decide (1000 < t) = false)
    (w1 : IntKind.i64.wrap (1000 - t) = 1000 - t) (w2 : IntKind.i64.wrap (1000 + t) = 1000 + t) (w3 : IntKind.i64.wrap ((1000 - t) * dc) = u) (w4 : IntKind.i64.wrap ((1000 + t) * dc) = v) (w5 : IntKind.i64.wrap (1000 * L) = 1000 * L) (w6 : IntKind.i64.wrap (1000 * H) = 1000 * H)
    (c0 : decide (u ≤ 1000 * L) = true) (c1 : decide (1000 * L ≤ v) = true) (c2 : decide (u ≤ 1000 * H) = true) (c3 : decide (1000 * H ≤ v) = false) (b1 : decide (v < 1000 * L) = false) (b2 : decide (1000 * H < u) = false)
    (H1 : Hid (∀ W, Below w.heap.size w W → Calls Try.prog 21 #[.agg #[.string nm, .int .i64 ps, .slice a n cap, .int .i64 dc]] W fun e w' => e = .returned (.tuple #[.agg #[.int .i64 L, .int .i64 H], .int .i64 0]) ∧ Below W.heap.size W w')) :
    Calls Try.prog 23 #[.agg #[.string nm, .int .i64 ps, .slice a n cap, .int .i64 dc], .int .i64 t] w fun e w' => e = .returned (.tuple #[.int .i64 3, .int .i64 0]) ∧ Below w.heap.size w w' := by
  have F0 := Lib.hid (Quad.new w (.string nm) (.int .i64 ps) (.slice a n cap) (.int .i64 dc) 36)
  go_enter Try.func23, Try.ntmps23
  go_wp2_with fail
  refine (H1.out _ (bel_alloc (Below.refl _ _))).mono ?_
  rintro e w1 ⟨rfl, gg⟩
  replace F0 := Lib.hid ((F0.out.below gg).alloc (.cells #[.int .i64 L, .int .i64 H] 32))
  have T0 := Lib.hid (Two.new w1 (.int .i64 L) (.int .i64 H) 32)
  have X1 := Lib.hid ((bel_alloc gg).alloc (bel_alloc gg).size (.cells #[.int .i64 L, .int .i64 H] 32)); clear gg
  obtain ⟨_, _, _, u3, _, _⟩ := F0.out
  obtain ⟨z0, z1, _, _, _⟩ := T0.out
  clear H1
  go_wp2_with fail
  go_quiet (fail)
  go_wp2_with fail
  go_quiet (fail)
  go_wp2
  go_returns
  exact ⟨rfl, bel_trans X1.out (bel_drewN _ _)⟩
set_option maxHeartbeats 8000000 in
theorem refAg_6 (nm : ByteArray) (ps dc t L H u v : Int) (a : Option Addr) (n cap : Nat) (w : World) (d0 : decide (t < 0) = false) (d1 : decide (1000 < t) = false)
    (w1 : IntKind.i64.wrap (1000 - t) = 1000 - t) (w2 : IntKind.i64.wrap (1000 + t) = 1000 + t) (w3 : IntKind.i64.wrap ((1000 - t) * dc) = u) (w4 : IntKind.i64.wrap ((1000 + t) * dc) = v) (w5 : IntKind.i64.wrap (1000 * L) = 1000 * L) (w6 : IntKind.i64.wrap (1000 * H) = 1000 * H)
    (c0 : decide (u ≤ 1000 * L) = true) (c1 : decide (1000 * L ≤ v) = true) (c2 : decide (u ≤ 1000 * H) = true) (c3 : decide (1000 * H ≤ v) = true) (b1 : decide (v < 1000 * L) = false) (b2 : decide (1000 * H < u) = false)
    (H1 : Hid (∀ W, Below w.heap.size w W → Calls Try.prog 21 #[.agg #[.string nm, .int .i64 ps, .slice a n cap, .int .i64 dc]] W fun e w' => e = .returned (.tuple #[.agg #[.int .i64 L, .int .i64 H], .int .i64 0]) ∧ Below W.heap.size W w')) :
    Calls Try.prog 23 #[.agg #[.string nm, .int .i64 ps, .slice a n cap, .int .i64 dc], .int .i64 t] w fun e w' => e = .returned (.tuple #[.int .i64 1, .int .i64 0]) ∧ Below w.heap.size w w' := by
  have F0 := Lib.hid (Quad.new w (.string nm) (.int .i64 ps) (.slice a n cap) (.int .i64 dc) 36)
  go_enter Try.func23, Try.ntmps23
  go_wp2_with fail
  refine (H1.out _ (bel_alloc (Below.refl _ _))).mono ?_
  rintro e w1 ⟨rfl, gg⟩
  replace F0 := Lib.hid ((F0.out.below gg).alloc (.cells #[.int .i64 L, .int .i64 H] 32))
  have T0 := Lib.hid (Two.new w1 (.int .i64 L) (.int .i64 H) 32)
  have X1 := Lib.hid ((bel_alloc gg).alloc (bel_alloc gg).size (.cells #[.int .i64 L, .int .i64 H] 32)); clear gg
  obtain ⟨_, _, _, u3, _, _⟩ := F0.out
  obtain ⟨z0, z1, _, _, _⟩ := T0.out
  clear H1
  go_wp2_with fail
  go_quiet (fail)
  go_wp2_with fail
  go_quiet (fail)
  go_wp2
  go_returns
  exact ⟨rfl, bel_trans X1.out (bel_drewN _ _)⟩
theorem refAg_ok (nm : ByteArray) (ps dc t L H : Int) (a : Option Addr) (n cap : Nat) (w : World) (ht : 0 ≤ t ∧ t ≤ 1000) (hd : 0 ≤ dc ∧ dc ≤ 1073741824) (hL : 0 ≤ L ∧ L ≤ 3200000000) (hH : 0 ≤ H ∧ H ≤ 3200000000)
    (H1 : Hid (∀ W, Below w.heap.size w W → Calls Try.prog 21 #[.agg #[.string nm, .int .i64 ps, .slice a n cap, .int .i64 dc]] W fun e w' => e = .returned (.tuple #[.agg #[.int .i64 L, .int .i64 H], .int .i64 0]) ∧ Below W.heap.size W w')) :
    Calls Try.prog 23 #[.agg #[.string nm, .int .i64 ps, .slice a n cap, .int .i64 dc], .int .i64 t] w fun e w' => e = .returned (.tuple #[.int .i64 (agA L H dc t), .int .i64 0]) ∧ Below w.heap.size w w' := by
  have d0 : decide (t < 0) = false := decide_eq_false (by omega)
  have d1 : decide (1000 < t) = false := decide_eq_false (by omega)
  have m1 := mul_bd0 (show 0 ≤ 1000 - t by omega) (show 1000 - t ≤ 1000 by omega) hd.1 hd.2
  have m2 := mul_bd0 (show 0 ≤ 1000 + t by omega) (show 1000 + t ≤ 2000 by omega) hd.1 hd.2
  have w1 : IntKind.i64.wrap (1000 - t) = 1000 - t := wrap_in _ ⟨by omega, by omega⟩
  have w2 : IntKind.i64.wrap (1000 + t) = 1000 + t := wrap_in _ ⟨by omega, by omega⟩
  have w3 : IntKind.i64.wrap ((1000 - t) * dc) = (1000 - t) * dc := wrap_in _ ⟨by omega, by omega⟩
  have w4 : IntKind.i64.wrap ((1000 + t) * dc) = (1000 + t) * dc := wrap_in _ ⟨by omega, by omega⟩
  have w5 : IntKind.i64.wrap (1000 * L) = 1000 * L := wrap_in _ ⟨by omega, by omega⟩
  have w6 : IntKind.i64.wrap (1000 * H) = 1000 * H := wrap_in _ ⟨by omega, by omega⟩
  obtain ⟨u, hu⟩ : ∃ u, (1000 - t) * dc = u := ⟨_, rfl⟩
  obtain ⟨v, hv⟩ : ∃ v, (1000 + t) * dc = v := ⟨_, rfl⟩
  replace w3 := w3.trans hu
  replace w4 := w4.trans hv
  unfold agA
  rw [hu, hv]
  clear hu hv m1 m2
  by_cases q0 : u ≤ 1000 * L
  · by_cases q1 : 1000 * L ≤ v
    · by_cases q2 : u ≤ 1000 * H
      · by_cases q3 : 1000 * H ≤ v
        · rw [if_pos (by omega)]
          exact refAg_6 nm ps dc t L H u v a n cap w d0 d1 w1 w2 w3 w4 w5 w6 (decide_eq_true (by omega)) (decide_eq_true (by omega)) (decide_eq_true (by omega)) (decide_eq_true (by omega)) (decide_eq_false (by omega)) (decide_eq_false (by omega)) H1
        · rw [if_neg (by omega), if_neg (by omega)]
          exact refAg_5 nm ps dc t L H u v a n cap w d0 d1 w1 w2 w3 w4 w5 w6 (decide_eq_true (by omega)) (decide_eq_true (by omega)) (decide_eq_true (by omega)) (decide_eq_false (by omega)) (decide_eq_false (by omega)) (decide_eq_false (by omega)) H1
      · rw [if_neg (by omega), if_pos (by omega)]
        exact refAg_4 nm ps dc t L H u v a n cap w d0 d1 w1 w2 w3 w4 w5 w6 (decide_eq_true (by omega)) (decide_eq_true (by omega)) (decide_eq_false (by omega)) (decide_eq_false (by omega)) (decide_eq_true (by omega)) H1
    · rw [if_neg (by omega), if_pos (by omega)]
      exact refAg_3 nm ps dc t L H u v a n cap w d0 d1 w1 w2 w3 w4 w5 w6 (decide_eq_true (by omega)) (decide_eq_false (by omega)) (decide_eq_true (by omega)) H1
  · by_cases q1 : 1000 * L ≤ v
    · by_cases q2 : u ≤ 1000 * H
      · rw [if_neg (by omega), if_neg (by omega)]
        exact refAg_2 nm ps dc t L H u v a n cap w d0 d1 w1 w2 w3 w4 w5 w6 (decide_eq_false (by omega)) (decide_eq_true (by omega)) (decide_eq_true (by omega)) (decide_eq_false (by omega)) (decide_eq_false (by omega)) H1
      · rw [if_neg (by omega), if_pos (by omega)]
        exact refAg_1 nm ps dc t L H u v a n cap w d0 d1 w1 w2 w3 w4 w5 w6 (decide_eq_false (by omega)) (decide_eq_true (by omega)) (decide_eq_false (by omega)) (decide_eq_false (by omega)) (decide_eq_true (by omega)) H1
    · rw [if_neg (by omega), if_pos (by omega)]
      exact refAg_0 nm ps dc t L H u v a n cap w d0 d1 w1 w2 w3 w4 w5 w6 (decide_eq_false (by omega)) (decide_eq_false (by omega)) (decide_eq_true (by omega)) H1
theorem refAg_any (v : Value) (c : Ck) (t : Int) (w : World) (hv : CkV w v c) :
    Calls Try.prog 23 #[v, .int .i64 t] w fun e w' => e = .returned (.tuple #[.int .i64 (agQ c t), .int .i64 (agE c t)]) ∧ Below w.heap.size w w' := by
  have HC : Hid (∀ W, Below w.heap.size w W → _) := Lib.hid fun W hW => refVol_any v c W (hv.below hW)
  obtain ⟨a, cap, rfl, hp, _⟩ := hv
  by_cases h : ccE c = 0
  · rw [h] at HC
    by_cases ht : t < 0 ∨ 1000 < t
    · have e1 : agE c t = 2 := by unfold agE; rw [if_pos h, if_pos ht]
      have e2 : agQ c t = 0 := by unfold agQ; rw [e1]; rfl
      rw [e1, e2]
      exact refAg_range _ _ _ _ _ _ a _ cap w ht HC
    · have e1 : agE c t = 0 := by unfold agE; rw [if_pos h, if_neg ht]
      have e2 : agQ c t = agA (vlL c) (vlH c) c.dc t := by unfold agQ; rw [if_pos e1]
      have b := vl_bd c
      rw [e1, e2]
      exact refAg_ok _ _ _ _ _ _ a _ cap w (by omega) (ccE_pf h).2.2.1 (by omega) (by omega) HC
  · have e1 : agE c t = ccE c := by unfold agE; rw [if_neg h]
    have e2 : agQ c t = 0 := by unfold agQ; rw [e1, if_neg h]
    rw [e1, e2]
    exact refAg_bad _ _ _ _ _ _ _ a _ cap w (by simpa using h) (by simpa using h) HC

/-! ### Room -/
theorem refRm_bad (nm : ByteArray) (ps dc t L H E : Int) (a : Option Addr) (n cap : Nat) (w : World) (e1 : (E == 0) = false) (e2 : (E != 0) = true)
    (H1 : Hid (∀ W, Below w.heap.size w W → Calls Try.prog 21 #[.agg #[.string nm, .int .i64 ps, .slice a n cap, .int .i64 dc]] W fun e w' => e = .returned (.tuple #[.agg #[.int .i64 L, .int .i64 H], .int .i64 E]) ∧ Below W.heap.size W w')) :
    Calls Try.prog 25 #[.agg #[.string nm, .int .i64 ps, .slice a n cap, .int .i64 dc], .int .i64 t] w fun e w' => e = .returned (.tuple #[.agg #[.int .i64 0, .int .i64 0], .int .i64 E]) ∧ Below w.heap.size w w' := by
  have T0 := Lib.hid (Two.new (w.alloc (.cells #[.string nm, .int .i64 ps, .slice a n cap, .int .i64 dc] 36)) (.int .i64 0) (.int .i64 0) 32)
  simp only [World.size_alloc] at T0
  go_enter Try.func25, Try.ntmps25
  go_wp2_with fail
  refine (H1.out _ (bel_alloc (bel_alloc (Below.refl _ _)))).mono ?_
  rintro e w1 ⟨rfl, gg⟩
  replace T0 := Lib.hid ((T0.out.below gg).alloc (.cells #[.int .i64 L, .int .i64 H] 32))
  have X1 := Lib.hid ((bel_alloc (bel_alloc gg)).alloc (bel_alloc (bel_alloc gg)).size (.cells #[.int .i64 L, .int .i64 H] 32)); clear gg
  obtain ⟨z0, z1, f0, f1, hlt⟩ := T0.out
  go_wp2
  obtain ⟨t0, t1⟩ := two_read _ (w.heap.size + 1) (.int .i64 0) (.int .i64 0) z0 z1
  refine bodyPost_ret (v := .tuple #[.agg #[.int .i64 0, .int .i64 0], .int .i64 E]) (by simp [results, Try.results25, go_sem, t0, t1]) rfl ?_
  exact ⟨rfl, (X1.out.setCell (by show _ ≤ _; simp) _).setCell (by show _ ≤ _; simp) _⟩
set_option maxHeartbeats 4000000 in
theorem refRm_range (nm : ByteArray) (ps dc t L H : Int) (a : Option Addr) (n cap : Nat) (w : World) (ht : (t < 0 ∧ decide (t < 0) = true) ∨ (decide (t < 0) = false ∧ decide (1073741824 < t) = true))
    (H1 : Hid (∀ W, Below w.heap.size w W → Calls Try.prog 21 #[.agg #[.string nm, .int .i64 ps, .slice a n cap, .int .i64 dc]] W fun e w' => e = .returned (.tuple #[.agg #[.int .i64 L, .int .i64 H], .int .i64 0]) ∧ Below W.heap.size W w')) :
    Calls Try.prog 25 #[.agg #[.string nm, .int .i64 ps, .slice a n cap, .int .i64 dc], .int .i64 t] w fun e w' => e = .returned (.tuple #[.agg #[.int .i64 0, .int .i64 0], .int .i64 2]) ∧ Below w.heap.size w w' := by
  have T0 := Lib.hid (Two.new (w.alloc (.cells #[.string nm, .int .i64 ps, .slice a n cap, .int .i64 dc] 36)) (.int .i64 0) (.int .i64 0) 32)
  simp only [World.size_alloc] at T0
  rcases ht with ⟨_, d0⟩ | ⟨d0, d1⟩
  all_goals
    go_enter Try.func25, Try.ntmps25
    go_wp2_with fail
    refine (H1.out _ (bel_alloc (bel_alloc (Below.refl _ _)))).mono ?_
    rintro e w1 ⟨rfl, gg⟩
    replace T0 := Lib.hid ((T0.out.below gg).alloc (.cells #[.int .i64 L, .int .i64 H] 32))
    have X1 := Lib.hid ((bel_alloc (bel_alloc gg)).alloc (bel_alloc (bel_alloc gg)).size (.cells #[.int .i64 L, .int .i64 H] 32)); clear gg
    obtain ⟨z0, z1, f0, f1, hlt⟩ := T0.out
    go_wp2
    obtain ⟨t0, t1⟩ := two_read _ (w.heap.size + 1) (.int .i64 0) (.int .i64 0) z0 z1
    refine bodyPost_ret (v := .tuple #[.agg #[.int .i64 0, .int .i64 0], .int .i64 2]) (by simp [results, Try.results25, go_sem, t0, t1]) rfl ?_
    exact ⟨rfl, (X1.out.setCell (by show _ ≤ _; simp) _).setCell (by show _ ≤ _; simp) _⟩
set_option maxHeartbeats 4000000 in
theorem refRm_ok (nm : ByteArray) (ps dc t L H R S : Int) (a : Option Addr) (n cap : Nat) (w : World) (d0 : decide (t < 0) = false) (d1 : decide (1073741824 < t) = false)
    (w1 : IntKind.i64.wrap (L - t) = L - t) (w2 : IntKind.i64.wrap (H - t) = H - t) (m1 : max 0 (L - t) = R) (m2 : max 0 (H - t) = S)
    (H1 : Hid (∀ W, Below w.heap.size w W → Calls Try.prog 21 #[.agg #[.string nm, .int .i64 ps, .slice a n cap, .int .i64 dc]] W fun e w' => e = .returned (.tuple #[.agg #[.int .i64 L, .int .i64 H], .int .i64 0]) ∧ Below W.heap.size W w')) :
    Calls Try.prog 25 #[.agg #[.string nm, .int .i64 ps, .slice a n cap, .int .i64 dc], .int .i64 t] w fun e w' => e = .returned (.tuple #[.agg #[.int .i64 R, .int .i64 S], .int .i64 0]) ∧ Below w.heap.size w w' := by
  have T0 := Lib.hid (Two.new (w.alloc (.cells #[.string nm, .int .i64 ps, .slice a n cap, .int .i64 dc] 36)) (.int .i64 0) (.int .i64 0) 32)
  simp only [World.size_alloc] at T0
  go_enter Try.func25, Try.ntmps25
  go_wp2_with fail
  refine (H1.out _ (bel_alloc (bel_alloc (Below.refl _ _)))).mono ?_
  rintro e w1 ⟨rfl, gg⟩
  replace T0 := Lib.hid ((T0.out.below gg).alloc (.cells #[.int .i64 L, .int .i64 H] 32))
  have U0 := Lib.hid (Two.new w1 (.int .i64 L) (.int .i64 H) 32)
  have X1 := Lib.hid ((bel_alloc (bel_alloc gg)).alloc (bel_alloc (bel_alloc gg)).size (.cells #[.int .i64 L, .int .i64 H] 32)); clear gg
  obtain ⟨z0, z1, f0, f1, hlt⟩ := T0.out
  obtain ⟨y0, y1, _, _, _⟩ := U0.out
  go_wp2
  obtain ⟨t0, t1⟩ := two_read _ (w.heap.size + 1) (.int .i64 R) (.int .i64 S) z0 z1
  refine bodyPost_ret (v := .tuple #[.agg #[.int .i64 R, .int .i64 S], .int .i64 0]) (by simp [results, Try.results25, go_sem, t0, t1]) rfl ?_
  exact ⟨rfl, (X1.out.setCell (by show _ ≤ _; simp) _).setCell (by show _ ≤ _; simp) _⟩
theorem refRm_any (v : Value) (c : Ck) (t : Int) (w : World) (hv : CkV w v c) :
    Calls Try.prog 25 #[v, .int .i64 t] w fun e w' => e = .returned (.tuple #[.agg #[.int .i64 (rmL c t), .int .i64 (rmH c t)], .int .i64 (rmE c t)]) ∧ Below w.heap.size w w' := by
  have HC : Hid (∀ W, Below w.heap.size w W → _) := Lib.hid fun W hW => refVol_any v c W (hv.below hW)
  obtain ⟨a, cap, rfl, hp, _⟩ := hv
  by_cases h : ccE c = 0
  · rw [h] at HC
    by_cases ht : t < 0 ∨ 1073741824 < t
    · have e1 : rmE c t = 2 := by unfold rmE; rw [if_pos h, if_pos ht]
      have e2 : rmL c t = 0 := by unfold rmL; rw [e1]; rfl
      have e3 : rmH c t = 0 := by unfold rmH; rw [e1]; rfl
      rw [e1, e2, e3]
      refine refRm_range _ _ _ _ _ _ a _ cap w ?_ HC
      by_cases q : t < 0
      · exact .inl ⟨q, decide_eq_true q⟩
      · exact .inr ⟨decide_eq_false q, decide_eq_true (by omega)⟩
    · have e1 : rmE c t = 0 := by unfold rmE; rw [if_pos h, if_neg ht]
      have e2 : rmL c t = max 0 (vlL c - t) := by unfold rmL; rw [if_pos e1]
      have e3 : rmH c t = max 0 (vlH c - t) := by unfold rmH; rw [if_pos e1]
      have b := vl_bd c
      rw [e1, e2, e3]
      exact refRm_ok _ _ _ _ _ _ _ _ a _ cap w (decide_eq_false (by omega)) (decide_eq_false (by omega)) (wrap_in _ ⟨by omega, by omega⟩) (wrap_in _ ⟨by omega, by omega⟩) rfl rfl HC
  · have e1 : rmE c t = ccE c := by unfold rmE; rw [if_neg h]
    have e2 : rmL c t = 0 := by unfold rmL; rw [e1, if_neg h]
    have e3 : rmH c t = 0 := by unfold rmH; rw [e1, if_neg h]
    rw [e1, e2, e3]
    exact refRm_bad _ _ _ _ _ _ _ a _ cap w (by simpa using h) (by simpa using h) HC
end Go.Proofs.Ytpnlfeljmpfeoab

/- Plain arithmetic: amounts, and the steps of the division of two words by one. No program stands in this text. -/
namespace Go.Proofs.Ytpnlfeljmpfeoab

/-- an amount -/
def isAm (n : Int) : Bool := decide (0 ≤ n) && decide (n ≤ 128849018880000)

theorem isAm_iff (n : Int) : isAm n = true ↔ 0 ≤ n ∧ n ≤ 128849018880000 := by simp [isAm]
theorem isAm_not (n : Int) : isAm n = false ↔ n < 0 ∨ 128849018880000 < n := by
  rw [Bool.eq_false_iff, ne_eq, isAm_iff]; omega

theorem all_take_succ (zs : List Int) (k : Nat) (hk : k < zs.length) : ((zs.take (k + 1)).all isAm) = ((zs.take k).all isAm && isAm (zs.getD k 0)) := by
  rw [List.take_add_one, List.all_append]
  simp [List.getD, List.getElem?_eq_getElem hk]

theorem all_false_at (zs : List Int) (k : Nat) (hk : k < zs.length) (h : isAm (zs.getD k 0) = false) : zs.all isAm = false := by
  rw [Bool.eq_false_iff]; intro hall
  rw [List.all_eq_true] at hall
  have := hall (zs.getD k 0) (by simp [List.getD, List.getElem?_eq_getElem hk])
  rw [this] at h; cases h

/-! the division of two words by one -/

theorem norm_shift (y : Nat) (h1 : 1 ≤ y) (h2 : y < 2 ^ 47) : ∃ s : Nat, 64 - Lib.bitLen y = s ∧ 17 ≤ s ∧ s ≤ 63 ∧ Lib.bitLen y ≤ 64 ∧ 2 ^ 63 ≤ y * 2 ^ s ∧ y * 2 ^ s < 2 ^ 64 := by
  obtain ⟨a, b, c⟩ := Lib.bitLenAux_bounds 64 y (by omega) (by omega)
  have hle := Lib.bitLen_le y 47 (by omega) h2
  unfold Lib.bitLen at *
  generalize hL : Lib.bitLenAux 64 y = L at *
  refine ⟨64 - L, rfl, by omega, by omega, by omega, ?_, ?_⟩
  · have : 2 ^ (L - 1) * 2 ^ (64 - L) ≤ y * 2 ^ (64 - L) := Nat.mul_le_mul_right _ b
    rw [← Nat.pow_add, show L - 1 + (64 - L) = 63 by omega] at this
    exact this
  · have : y * 2 ^ (64 - L) < 2 ^ L * 2 ^ (64 - L) := Nat.mul_lt_mul_of_pos_right c (Nat.two_pow_pos _)
    rw [← Nat.pow_add, show L + (64 - L) = 64 by omega] at this
    exact this

theorem split_prod (q Y a c : Int) (hY : Y = a * 4294967296 + c) : q * Y = q * a * 4294967296 + q * c := by
  rw [hY, Int.mul_add, Int.mul_assoc]

/-- the first guess is not too small -/
theorem dig_start (U u Y a c : Int) (hY : Y = a * 4294967296 + c) (c0 : 0 ≤ c) (ha : 1 ≤ a) (hU : 0 ≤ U) (u0 : 0 ≤ u) (u1 : u < 4294967296) :
    (U * 4294967296 + u) / Y ≤ U / a := by
  have hYp : 0 < Y := by omega
  apply Int.le_ediv_of_mul_le (by omega)
  have h1 : (U * 4294967296 + u) / Y * Y ≤ U * 4294967296 + u := Int.ediv_mul_le _ (by omega)
  have hq : 0 ≤ (U * 4294967296 + u) / Y := Int.ediv_nonneg (by omega) (by omega)
  generalize (U * 4294967296 + u) / Y = q at *
  rw [split_prod q Y a c hY] at h1
  have := Int.mul_nonneg hq c0
  omega

/-- if the guess's test says 'too great', the next one is not too small -/
theorem dig_next (U u Y a c q1 r : Int) (hY : Y = a * 4294967296 + c) (hYp : 0 < Y) (hU : U < Y) (u1 : u < 4294967296) (hr : q1 * a + r = U)
    (ht : 4294967296 ≤ q1 ∨ 4294967296 * r + u < q1 * c) : (U * 4294967296 + u) / Y ≤ q1 - 1 := by
  have h1 : (U * 4294967296 + u) / Y < q1 := by
    apply Int.ediv_lt_of_lt_mul hYp
    rcases ht with ht | ht
    · have : 4294967296 * Y ≤ q1 * Y := Int.mul_le_mul_of_nonneg_right ht (by omega)
      omega
    · rw [split_prod q1 Y a c hY]; omega
  omega

/-- if the guess's test says 'not too great', it is right -/
theorem dig_done (U u Y a c q1 r : Int) (hY : Y = a * 4294967296 + c) (hYp : 0 < Y) (hr : q1 * a + r = U)
    (hq : (U * 4294967296 + u) / Y ≤ q1) (ht : q1 * c ≤ 4294967296 * r + u) : q1 = (U * 4294967296 + u) / Y := by
  have : q1 ≤ (U * 4294967296 + u) / Y := by
    apply Int.le_ediv_of_mul_le hYp
    rw [split_prod q1 Y a c hY]; omega
  omega

/-- where the rest has become as great as 2^32, the guess is right -/
theorem dig_stop (U u Y a c q1 r : Int) (hY : Y = a * 4294967296 + c) (c0 : 0 ≤ c) (c1 : c < 4294967296) (ha : 1 ≤ a) (hU : U < Y) (hr : q1 * a + r = U) (hq0 : 0 ≤ q1)
    (u0 : 0 ≤ u) (hrb : 4294967296 ≤ r) (hq : (U * 4294967296 + u) / Y ≤ q1) : q1 = (U * 4294967296 + u) / Y := by
  have hlt : q1 < 4294967296 := by
    apply Int.not_le.1; intro hge
    have := Int.mul_le_mul_of_nonneg_right hge (show 0 ≤ a by omega)
    omega
  apply dig_done U u Y a c q1 r hY (by omega) hr hq
  have h1 : q1 * c ≤ 4294967295 * 4294967295 := Int.mul_le_mul (by omega) (by omega) c0 (by omega)
  omega

/-- the digit fits 32 bits -/
theorem dig_lt (U u Y : Int) (hU0 : 0 ≤ U) (hU : U < Y) (u0 : 0 ≤ u) (u1 : u < 4294967296) : 0 ≤ (U * 4294967296 + u) / Y ∧ (U * 4294967296 + u) / Y < 4294967296 := by
  constructor
  · exact Int.ediv_nonneg (by omega) (by omega)
  · apply Int.ediv_lt_of_lt_mul (by omega); omega

/-- what is left behind a digit, in wrapped words -/
theorem dig_rest (U u Y q : Int) (hY : 0 < Y) (hY1 : Y ≤ 18446744073709551616) (hq : q = (U * 4294967296 + u) / Y) :
    IntKind.u64.wrap (IntKind.u64.wrap (IntKind.u64.wrap (U * 4294967296) + u) - IntKind.u64.wrap (q * Y)) = (U * 4294967296 + u) % Y := by
  have h1 := Int.emod_add_mul_ediv (U * 4294967296 + u) Y
  have h2 := Int.emod_nonneg (U * 4294967296 + u) (show Y ≠ 0 by omega)
  have h3 := Int.emod_lt_of_pos (U * 4294967296 + u) hY
  rw [← hq, Int.mul_comm Y q] at h1
  simp only [IntKind.wrap_u64]
  omega

theorem dig_quot (U u0 u1 Y : Int) (hY : 0 < Y) :
    (U * 4294967296 + u1) / Y * 4294967296 + ((U * 4294967296 + u1) % Y * 4294967296 + u0) / Y = ((U * 4294967296 + u1) * 4294967296 + u0) / Y := by
  have h1 := Int.emod_add_mul_ediv (U * 4294967296 + u1) Y
  generalize U * 4294967296 + u1 = N at *
  have : N * 4294967296 + u0 = (N % Y * 4294967296 + u0) + (N / Y * 4294967296) * Y := by
    have e : N / Y * 4294967296 * Y = Y * (N / Y) * 4294967296 := by
      rw [Int.mul_right_comm, Int.mul_comm (N / Y) Y]
    rw [e]; omega
  rw [this, Int.add_mul_ediv_right _ _ (by omega)]
  omega

theorem dig_rem (U u0 u1 Y : Int) :
    ((U * 4294967296 + u1) % Y * 4294967296 + u0) % Y = ((U * 4294967296 + u1) * 4294967296 + u0) % Y := by
  have h1 := Int.emod_add_mul_ediv (U * 4294967296 + u1) Y
  generalize U * 4294967296 + u1 = N at *
  have : N * 4294967296 + u0 = (N % Y * 4294967296 + u0) + (N / Y * 4294967296) * Y := by
    have e : N / Y * 4294967296 * Y = Y * (N / Y) * 4294967296 := by
      rw [Int.mul_right_comm, Int.mul_comm (N / Y) Y]
    rw [e]; omega
  rw [this, Int.add_mul_emod_self_right]

/-- two words as one number -/
def twoW (hi lo : Int) : Int := hi * 18446744073709551616 + lo

/-- the upper and the lower word -/
def hiW (p : Int) : Int := p / 18446744073709551616
def loW (p : Int) : Int := p % 18446744073709551616
theorem hiW_big (p c : Int) (h : 128849018880000 * c < p) (hp : p < 18446744073709551616 * c) (hc : 0 < c): hiW p < c := by unfold hiW; exact Int.ediv_lt_of_lt_mul (by omega) (by rw [Int.mul_comm]; omega)
theorem hiW_ge (p c : Int) (h : c ≤ hiW p) (hc : 0 < c) : 18446744073709551616 ≤ p / c := by
  apply Int.le_ediv_of_mul_le hc
  unfold hiW at h; rw [Int.mul_comm]; omega
theorem twoW_split (p : Int) : twoW (hiW p) (loW p) = p := by unfold twoW hiW loW; omega
theorem loW_nonneg (p : Int) : 0 ≤ loW p := by unfold loW; omega
theorem loW_le (p : Int) : loW p ≤ 18446744073709551615 := by unfold loW; omega
theorem hiW_nonneg (p : Int) (h : 0 ≤ p) : 0 ≤ hiW p := by unfold hiW; omega

theorem or_add (h g : Int) (s : Nat) (h0 : 0 ≤ h) (g0 : 0 ≤ g) (gs : g < 2 ^ s) (b : h * 2 ^ s + g < 18446744073709551616) : bits .or .u64 (h * 2 ^ s) g = h * 2 ^ s + g := by
  obtain ⟨A, rfl⟩ := Int.eq_ofNat_of_zero_le h0
  obtain ⟨B, rfl⟩ := Int.eq_ofNat_of_zero_le g0
  have e : ((A : Int) * 2 ^ s) = ((A * 2 ^ s : Nat) : Int) := by simp
  have gs' : B < 2 ^ s := by exact_mod_cast gs
  rw [e] at b ⊢
  rw [u64_or_nat _ _ (by omega) (by omega), Nat.mul_comm A, ← Nat.two_pow_add_eq_or_of_lt gs']
  omega

theorem and_low (n : Int) (h0 : 0 ≤ n) (h1 : n ≤ 18446744073709551615) : bits .and .u64 n 4294967295 = n % 4294967296 := by
  obtain ⟨A, rfl⟩ := Int.eq_ofNat_of_zero_le h0
  have := u64_and_nat A 4294967295 (by omega) (by omega)
  rw [nat_mask32] at this
  simpa using this

theorem shift_low (lo : Int) (s : Nat) (h0 : 0 ≤ lo) (hs : s ≤ 64) :
    lo * 2 ^ s = lo / 2 ^ (64 - s) * 18446744073709551616 + lo * 2 ^ s % 18446744073709551616 := by
  have hp : (2 : Int) ^ (64 - s) * 2 ^ s = 18446744073709551616 := by
    rw [← Int.pow_add, show 64 - s + s = 64 by omega]; rfl
  have hs0 : (0 : Int) < 2 ^ s := Int.pow_pos (by omega)
  have hs1 : (0 : Int) < 2 ^ (64 - s) := Int.pow_pos (by omega)
  have e1 := Int.emod_add_mul_ediv lo (2 ^ (64 - s))
  have e2 := Int.emod_nonneg lo (show (2 : Int) ^ (64 - s) ≠ 0 by omega)
  have e3 := Int.emod_lt_of_pos lo hs1
  generalize lo / 2 ^ (64 - s) = G at *
  generalize lo % 2 ^ (64 - s) = t at *
  have e4 : lo * 2 ^ s = t * 2 ^ s + G * 18446744073709551616 := by
    rw [← e1, Int.add_mul, Int.mul_right_comm, hp, Int.mul_comm G]
  have e5 : 0 ≤ t * 2 ^ s := Int.mul_nonneg e2 (by omega)
  have e6 : t * 2 ^ s < 18446744073709551616 := by
    rw [← hp]; exact Int.mul_lt_mul_of_pos_right e3 hs0
  rw [e4]; omega

/-- all that the walk of Div64 has to be told of its numbers -/
structure Shifted (hi lo y : Int) (s : Nat) (H G L U : Int) : Prop where
  G0 : 0 ≤ G
  Gs : G < 2 ^ s
  H0 : 0 ≤ H
  sum : U = H + G
  L0 : 0 ≤ L
  L1 : L < 18446744073709551616
  tot : U * 18446744073709551616 + L = twoW hi lo * 2 ^ s
  lt : U < y * 2 ^ s

theorem Shifted.mk' (hi lo y : Int) (s : Nat) (h0 : 0 ≤ hi) (h1 : hi < y) (h2 : 0 ≤ lo) (h3 : lo ≤ 18446744073709551615) (hs : s ≤ 64) :
    Shifted hi lo y s (hi * 2 ^ s) (lo / 2 ^ (64 - s)) (lo * 2 ^ s % 18446744073709551616) (hi * 2 ^ s + lo / 2 ^ (64 - s)) := by
  have hs0 : (0 : Int) < 2 ^ s := Int.pow_pos (by omega)
  have hs1 : (0 : Int) < 2 ^ (64 - s) := Int.pow_pos (by omega)
  have hp : (2 : Int) ^ s * 2 ^ (64 - s) = 18446744073709551616 := by
    rw [← Int.pow_add, show s + (64 - s) = 64 by omega]; rfl
  have tot : (hi * 2 ^ s + lo / 2 ^ (64 - s)) * 18446744073709551616 + lo * 2 ^ s % 18446744073709551616 = twoW hi lo * 2 ^ s := by
    have := shift_low lo s h2 hs
    unfold twoW
    rw [Int.add_mul, Int.add_mul, Int.mul_right_comm hi]
    omega
  have hL0 := Int.emod_nonneg (lo * 2 ^ s) (show (18446744073709551616 : Int) ≠ 0 by omega)
  have hL1 := Int.emod_lt_of_pos (lo * 2 ^ s) (show (0 : Int) < 18446744073709551616 by omega)
  refine ⟨Int.ediv_nonneg h2 (by omega), ?_, Int.mul_nonneg h0 (by omega), rfl, hL0, hL1, tot, ?_⟩
  · apply Int.ediv_lt_of_lt_mul hs1; rw [hp]; omega
  · have hlt : twoW hi lo * 2 ^ s < y * 18446744073709551616 * 2 ^ s := by
      apply Int.mul_lt_mul_of_pos_right _ hs0
      unfold twoW; omega
    rw [Int.mul_right_comm y] at hlt
    generalize hi * 2 ^ s + lo / 2 ^ (64 - s) = U at *
    generalize y * 2 ^ s = Y at *
    generalize lo * 2 ^ s % 18446744073709551616 = L at *
    omega

theorem fin_quot (U L Y N y : Int) (s : Nat) (hY : Y = y * 2 ^ s) (hYp : 0 < Y) (hU0 : 0 ≤ U) (hU : U < Y) (hY1 : Y ≤ 18446744073709551616) (L0 : 0 ≤ L) (L1 : L < 18446744073709551616)
    (tot : U * 18446744073709551616 + L = N * 2 ^ s) :
    IntKind.u64.wrap (IntKind.u64.wrap ((U * 4294967296 + L / 4294967296) / Y * 4294967296) + ((U * 4294967296 + L / 4294967296) % Y * 4294967296 + L % 4294967296) / Y) = N / y := by
  have a1 := dig_lt U (L / 4294967296) Y hU0 hU (by omega) (by omega)
  have b0 := Int.emod_nonneg (U * 4294967296 + L / 4294967296) (show Y ≠ 0 by omega)
  have b1 := Int.emod_lt_of_pos (U * 4294967296 + L / 4294967296) hYp
  have a2 := dig_lt ((U * 4294967296 + L / 4294967296) % Y) (L % 4294967296) Y b0 b1 (by omega) (by omega)
  have e := dig_quot U (L % 4294967296) (L / 4294967296) Y hYp
  have e2 : (U * 4294967296 + L / 4294967296) * 4294967296 + L % 4294967296 = N * 2 ^ s := by omega
  have hs0 : (0 : Int) < 2 ^ s := Int.pow_pos (by omega)
  rw [e2] at e
  have e3 : N * 2 ^ s / Y = N / y := by rw [hY, Int.mul_ediv_mul_of_pos_left _ _ hs0]
  rw [e3] at e
  rw [← e]
  simp only [IntKind.wrap_u64]
  omega

theorem fin_rest (U L Y N y : Int) (s : Nat) (hY : Y = y * 2 ^ s) (hYp : 0 < Y) (hY1 : Y ≤ 18446744073709551616)
    (tot : U * 18446744073709551616 + L = N * 2 ^ s) :
    IntKind.u64.wrap (IntKind.u64.wrap (IntKind.u64.wrap ((U * 4294967296 + L / 4294967296) % Y * 4294967296) + L % 4294967296) - IntKind.u64.wrap (((U * 4294967296 + L / 4294967296) % Y * 4294967296 + L % 4294967296) / Y * Y)) / 2 ^ s = N % y := by
  rw [dig_rest _ (L % 4294967296) Y _ hYp hY1 rfl, dig_rem]
  have e2 : (U * 4294967296 + L / 4294967296) * 4294967296 + L % 4294967296 = N * 2 ^ s := by omega
  have hs0 : (0 : Int) < 2 ^ s := Int.pow_pos (by omega)
  rw [e2, hY, Int.mul_comm N, Int.mul_comm y, Int.mul_emod_mul_of_pos _ _ hs0, Int.mul_ediv_cancel_left _ (by omega)]

/-- what proportion.Of returns: the error, the quotient, the remainder -/
def ofE (a b c : Int) : Int :=
  if isAm a && isAm b && isAm c then (if c = 0 then 16 else if a * b / c ≤ 128849018880000 then 0 else 15) else 2
def ofQ (a b c : Int) : Int := if ofE a b c = 0 then a * b / c else 0
def ofR (a b c : Int) : Int := if ofE a b c = 0 then a * b % c else 0

/-- what Up makes of what Of returns -/
def upE (q r e : Int) : Int := if e = 0 then (if q + (if 0 < r then 1 else 0) ≤ 128849018880000 then 0 else 15) else e
def upQ (q r e : Int) : Int := if upE q r e = 0 then q + (if 0 < r then 1 else 0) else 0
/-- what Compare returns -/
def cmpE (a b c d : Int) : Int := if isAm a && isAm b && isAm c && isAm d then (if b = 0 then 16 else if d = 0 then 16 else 0) else 2
def cmpN (x y : Int) : Int := if x < y then -1 else if y < x then 1 else 0
def cmpC (a b c d : Int) : Int := if cmpE a b c d = 0 then cmpN (a * d) (c * b) else 0

theorem ofQ_bd (a b c : Int) : 0 ≤ ofQ a b c ∧ ofQ a b c ≤ 128849018880000 := by
  unfold ofQ
  by_cases h : ofE a b c = 0
  · rw [if_pos h]
    unfold ofE at h
    split at h
    · rename_i h1
      simp only [Bool.and_eq_true, isAm_iff] at h1
      split at h
      · omega
      · split at h
        · exact ⟨Int.ediv_nonneg (Int.mul_nonneg h1.1.1.1 h1.1.2.1) h1.2.1, by assumption⟩
        · omega
    · omega
  · rw [if_neg h]; omega
theorem ofR_bd (a b c : Int) : 0 ≤ ofR a b c ∧ ofR a b c ≤ 128849018880000 := by
  unfold ofR
  by_cases h : ofE a b c = 0
  · rw [if_pos h]
    unfold ofE at h
    split at h
    · rename_i h1
      simp only [Bool.and_eq_true, isAm_iff] at h1
      split at h
      · omega
      · have := Int.emod_nonneg (a * b) (show c ≠ 0 by assumption)
        have := Int.emod_lt_of_pos (a * b) (show 0 < c by omega)
        omega
    · omega
  · rw [if_neg h]; omega

end Go.Proofs.Ytpnlfeljmpfeoab

/- math/bits.Div64: what it returns where the upper word is less than the divisor. -/
namespace Go.Proofs.Ytpnlfeljmpfeoab
open Go.RowKit

/-- what the guess's loop has to be told of a digit: 'D' is the digit -/
structure Dig (a c U u D : Int) : Prop where
  next : ∀ q r : Int, D ≤ q → q * a + r = U → (4294967296 ≤ q ∨ 4294967296 * r + u < q * c) → D ≤ q - 1
  done : ∀ q r : Int, D ≤ q → q * a + r = U → q * c ≤ 4294967296 * r + u → q = D
  stop : ∀ q r : Int, D ≤ q → q * a + r = U → 4294967296 ≤ r → q = D
  prod : ∀ q : Int, 0 ≤ q → q < 4294967296 → 0 ≤ q * c ∧ q * c ≤ 18446744073709551615
  pos : 0 ≤ D

theorem Dig.mk' (U u Y a c : Int) (hY : Y = a * 4294967296 + c) (c0 : 0 ≤ c) (c1 : c < 4294967296) (ha : 1 ≤ a) (hU0 : 0 ≤ U) (hU : U < Y) (u0 : 0 ≤ u) (u1 : u < 4294967296) :
    Dig a c U u ((U * 4294967296 + u) / Y) where
  next q r _ hr ht := dig_next U u Y a c q r hY (by omega) hU u1 hr ht
  done q r hq hr ht := dig_done U u Y a c q r hY (by omega) hr hq ht
  stop q r hq hr ht := dig_stop U u Y a c q r hY c0 c1 ha hU hr (by have := (dig_lt U u Y hU0 hU u0 u1).1; omega) u0 ht hq
  prod q h0 h1 := by
    have a1 := Int.mul_nonneg h0 c0
    have a2 : q * c ≤ 4294967295 * 4294967295 := Int.mul_le_mul (by omega) (by omega) c0 (by omega)
    omega
  pos := (dig_lt U u Y hU0 hU u0 u1).1

theorem ret_two {k l : IntKind} {a b c d : Int} (h : a = b) (g : c = d) : Ending.returned (.tuple #[.int k a, .int l c]) = .returned (.tuple #[.int k b, .int l d]) := by rw [h, g]

theorem mul_pred (q a r U : Int) (h : q * a + r = U) : (q - 1) * a + (r + a) = U := by
  rw [Int.sub_mul]; omega

set_option maxHeartbeats 1000000 in
set_option maxRecDepth 100000 in
theorem div64_core (hi lo y : Int) (s : Nat) (Y a c H G U L u1 u0 g r g2 r2 Q1 R1 Q0 Q R : Int) (w : World) (h0 : 1 ≤ hi) (h1 : hi < y) (h2 : 0 ≤ lo) (h3 : lo ≤ 18446744073709551615) (h4 : y ≤ 140737488355327)
   (hs0 : 17 ≤ s) (hs1 : s ≤ 63)
   (lz : Hid (Calls Try.prog 72 #[.int .u64 y] w fun e w' => e = .returned (.int .i64 s) ∧ w = w'))
   (yb0 : 0 ≤ y * 2 ^ s) (yb1 : y * 2 ^ s ≤ 18446744073709551615) (hb0 : 0 ≤ hi * 2 ^ s) (hb1 : hi * 2 ^ s ≤ 18446744073709551615)
   (eY : y * 2 ^ s = Y) (ea : Y / 4294967296 = a) (ec : bits .and .u64 Y 4294967295 = c) (eH : hi * 2 ^ s = H) (eG : lo / 2 ^ (64 - s) = G) (eU : bits .or .u64 H G = U)
   (eL : IntKind.u64.wrap (lo * 2 ^ s) = L) (e1 : L / 4294967296 = u1) (e0 : bits .and .u64 L 4294967295 = u0) (eg : U / a = g) (er : U - g * a = r) 
   (b1 : 2147483648 ≤ a) (b2 : 0 ≤ U) (b3 : U ≤ 18446744073709551615) (b4 : a ≤ 4294967295) (b5 : 0 ≤ c) (b6 : c ≤ 4294967295) (b7 : 0 ≤ u1) (b8 : u1 ≤ 4294967295) (b9 : 0 ≤ u0) (b10 : u0 ≤ 4294967295) (b11 : 9223372036854775808 ≤ Y) (b12 : Y ≤ 18446744073709551615) (b13 : 0 ≤ g * a) (b14 : g * a ≤ U)
   (hR1 : Hid (IntKind.u64.wrap (IntKind.u64.wrap (IntKind.u64.wrap (U * 4294967296) + u1) - IntKind.u64.wrap (Q1 * Y)) = R1)) (c1 : 0 ≤ R1) (c2 : R1 ≤ 18446744073709551615) (eg2 : Hid (R1 / a = g2)) (er2 : Hid (R1 - R1 / a * a = r2)) (b15 : 0 ≤ R1 / a * a) (b16 : R1 / a * a ≤ R1)
   (dg2 : Dig a c R1 u0 Q0) (st2 : Q0 ≤ g2 ∧ 0 ≤ g2 ∧ g2 ≤ 18446744073709551615 ∧ 0 ≤ r2 ∧ r2 < 4294967296 ∧ Hid (g2 * a + r2 = R1))
   (dg1 : Dig a c U u1 Q1) (st1 : Q1 ≤ g ∧ 0 ≤ g ∧ g ≤ 18446744073709551615 ∧ 0 ≤ r ∧ r < 4294967296 ∧ Hid (g * a + r = U))
   (hQ : Hid (IntKind.u64.wrap (IntKind.u64.wrap (Q1 * 4294967296) + Q0) = Q)) (hR : Hid (IntKind.u64.wrap (IntKind.u64.wrap (IntKind.u64.wrap (R1 * 4294967296) + u0) - IntKind.u64.wrap (Q0 * Y)) / 2 ^ s = R)) :
    Calls Try.prog 62 #[.int .u64 hi, .int .u64 lo, .int .u64 y] w fun e w' => e = .returned (.tuple #[.int .u64 Q, .int .u64 R]) ∧ w' = w := by
  go_enter Try.func62, Try.ntmps62
  go_upto_region 16 with (go_at_call 72; refine (lz.out).mono ?_; rintro e w' ⟨rfl, rfl⟩)
  go_cut [2, 8, 9, 10, 11, 13, 14, 15, 16] (fun s2 s8 s9 s10 s11 s13 s14 s15 s16 wx => s2 = .int .u64 Y ∧ s8 = .int .u64 s ∧ s9 = .int .u64 a ∧ s10 = .int .u64 c ∧ s11 = .int .u64 U ∧ s13 = .int .u64 u1 ∧ s14 = .int .u64 u0 ∧ s15 = .int .u64 g ∧ s16 = .int .u64 r ∧ w = wx)
  case first =>
    go_wp2
    go_meet
    case rel => exact ⟨rfl, rfl, rfl, rfl, rfl, rfl, rfl, by rw [eg], rfl, rfl⟩
  case rest =>
  obtain ⟨rfl, rfl, rfl, rfl, rfl, rfl, rfl, rfl, rfl, rfl⟩ := hcut
  clear eY ea ec eH eG eU eL e1 e0 eg er
  go_upto_block 0 with fail
  go_cut [15] (fun s15 wx => s15 = .int .u64 Q1 ∧ w = wx)
  case first =>
    go_wp2_with fail
    go_loop [15, 16] (fun q r => ∃ q1 r1 : Int, q = .int .u64 q1 ∧ r = .int .u64 r1 ∧ Q1 ≤ q1 ∧ 0 ≤ q1 ∧ q1 ≤ 18446744073709551615 ∧ 0 ≤ r1 ∧ r1 < 4294967296 ∧ Hid (q1 * a + r1 = U)) (fun q _ => (intOf q).toNat)
    case atStart => exact ⟨g, r, rfl, rfl, st1.1, st1.2.1, st1.2.2.1, st1.2.2.2.1, st1.2.2.2.2.1, st1.2.2.2.2.2⟩
    case round =>
      obtain ⟨q1, r1, rfl, rfl, p1, p2, p2', p3, p4, p5⟩ := hrel
      by_cases t1 : 4294967296 ≤ q1
      · have HN := Lib.hid (dg1.next q1 r1 p1 p5.out (Or.inl t1))
        have HS := Lib.hid (dg1.stop (q1 - 1) (r1 + a) HN.out (mul_pred _ _ _ _ p5.out))
        have HR := Lib.hid (mul_pred _ _ _ _ p5.out)
        go_wp2
        · have ht : 4294967296 ≤ r1 + a := by assumption
          go_meet
          case rel => exact ⟨by rw [HS.out ht], rfl⟩
        · have ht : r1 + a < 4294967296 := by assumption
          go_round
          case rel => exact ⟨q1 - 1, r1 + a, rfl, rfl, HN.out, by omega, by omega, by omega, ht, HR.out⟩
          case measure => simp [intOf]; omega
      · obtain ⟨m1, m2⟩ := dg1.prod q1 p2 (by omega)
        by_cases t2 : 4294967296 * r1 + u1 < q1 * c
        · have HN := Lib.hid (dg1.next q1 r1 p1 p5.out (Or.inr t2))
          have HS := Lib.hid (dg1.stop (q1 - 1) (r1 + a) HN.out (mul_pred _ _ _ _ p5.out))
          have HR := Lib.hid (mul_pred _ _ _ _ p5.out)
          have q1p : 1 ≤ q1 := by have := dg1.pos; have := HN.out; omega
          go_wp2
          · have ht : 4294967296 ≤ r1 + a := by assumption
            go_meet
            case rel => exact ⟨by rw [HS.out ht], rfl⟩
          · have ht : r1 + a < 4294967296 := by assumption
            go_round
            case rel => exact ⟨q1 - 1, r1 + a, rfl, rfl, HN.out, by omega, by omega, by omega, ht, HR.out⟩
            case measure => simp [intOf]; omega
        · have HD := Lib.hid (dg1.done q1 r1 p1 p5.out (by omega))
          go_wp2
          go_meet
          case rel => exact ⟨by rw [HD.out], rfl⟩
  case rest =>
  obtain ⟨rfl, rfl⟩ := hcut
  clear st1 b13 b14
  go_upto_region 21 with fail
  go_cut [17] (fun s17 wx => s17 = .int .u64 R1 ∧ w = wx)
  case first =>
    go_wp2
    go_meet
    case rel => exact ⟨by rw [← hR1.out], rfl⟩
  case rest =>
  obtain ⟨rfl, rfl⟩ := hcut
  go_upto_region 23 with fail
  go_cut [18, 16] (fun s18 s16 wx => s18 = .int .u64 g2 ∧ s16 = .int .u64 r2 ∧ w = wx)
  case first =>
    go_wp2
    go_meet
    case rel => exact ⟨by rw [← eg2.out], by rw [← er2.out], rfl⟩
  case rest =>
  obtain ⟨rfl, rfl, rfl⟩ := hcut
  clear b15 b16
  go_upto_block 2 with fail
  go_cut [18] (fun s18 wx => s18 = .int .u64 Q0 ∧ w = wx)
  case first =>
    go_wp2_with fail
    go_loop [18, 16] (fun q r => ∃ q1 r1 : Int, q = .int .u64 q1 ∧ r = .int .u64 r1 ∧ Q0 ≤ q1 ∧ 0 ≤ q1 ∧ q1 ≤ 18446744073709551615 ∧ 0 ≤ r1 ∧ r1 < 4294967296 ∧ Hid (q1 * a + r1 = R1)) (fun q _ => (intOf q).toNat)
    case atStart => exact ⟨g2, r2, rfl, rfl, st2.1, st2.2.1, st2.2.2.1, st2.2.2.2.1, st2.2.2.2.2.1, st2.2.2.2.2.2⟩
    case round =>
      obtain ⟨q1, r1, rfl, rfl, p1, p2, p2', p3, p4, p5⟩ := hrel
      by_cases t1 : 4294967296 ≤ q1
      · have HN := Lib.hid (dg2.next q1 r1 p1 p5.out (Or.inl t1))
        have HS := Lib.hid (dg2.stop (q1 - 1) (r1 + a) HN.out (mul_pred _ _ _ _ p5.out))
        have HR := Lib.hid (mul_pred _ _ _ _ p5.out)
        go_wp2
        · have ht : 4294967296 ≤ r1 + a := by assumption
          go_meet
          case rel => exact ⟨by rw [HS.out ht], rfl⟩
        · have ht : r1 + a < 4294967296 := by assumption
          go_round
          case rel => exact ⟨q1 - 1, r1 + a, rfl, rfl, HN.out, by omega, by omega, by omega, ht, HR.out⟩
          case measure => simp [intOf]; omega
      · obtain ⟨m1, m2⟩ := dg2.prod q1 p2 (by omega)
        by_cases t2 : 4294967296 * r1 + u0 < q1 * c
        · have HN := Lib.hid (dg2.next q1 r1 p1 p5.out (Or.inr t2))
          have HS := Lib.hid (dg2.stop (q1 - 1) (r1 + a) HN.out (mul_pred _ _ _ _ p5.out))
          have HR := Lib.hid (mul_pred _ _ _ _ p5.out)
          have q1p : 1 ≤ q1 := by have := dg2.pos; have := HN.out; omega
          go_wp2
          · have ht : 4294967296 ≤ r1 + a := by assumption
            go_meet
            case rel => exact ⟨by rw [HS.out ht], rfl⟩
          · have ht : r1 + a < 4294967296 := by assumption
            go_round
            case rel => exact ⟨q1 - 1, r1 + a, rfl, rfl, HN.out, by omega, by omega, by omega, ht, HR.out⟩
            case measure => simp [intOf]; omega
        · have HD := Lib.hid (dg2.done q1 r1 p1 p5.out (by omega))
          go_wp2
          go_meet
          case rel => exact ⟨by rw [HD.out], rfl⟩
  case rest =>
  obtain ⟨rfl, rfl⟩ := hcut
  clear st2
  go_wp2
  go_ret2
  exact ⟨ret_two hQ.out hR.out, rfl⟩

theorem div64_pos (hi lo y : Int) (w : World) (h0 : 1 ≤ hi) (h1 : hi < y) (h2 : 0 ≤ lo) (h3 : lo ≤ 18446744073709551615) (h4 : y ≤ 140737488355327) :
    Calls Try.prog 62 #[.int .u64 hi, .int .u64 lo, .int .u64 y] w fun e w' => e = .returned (.tuple #[.int .u64 (twoW hi lo / y), .int .u64 (twoW hi lo % y)]) ∧ w' = w := by
  obtain ⟨s, e1, s0, s1, hL, n0, n1⟩ := norm_shift y.toNat (by omega) (by omega)
  have lz := Try.bits_LeadingZeros64 y w (by omega) (by omega)
  rw [show (64 - (Lib.bitLen y.toNat : Int)) = (s : Int) by omega] at lz
  have lz' : Calls Try.prog 72 #[.int .u64 y] w fun e w' => e = .returned (.int .i64 s) ∧ w = w' := lz.mono fun _ _ h => ⟨h.1, h.2.symm⟩
  have hy : ((y.toNat * 2 ^ s : Nat) : Int) = y * 2 ^ s := by rw [Int.natCast_mul, Int.toNat_of_nonneg (by omega)]; simp
  have m0 : 9223372036854775808 ≤ y * 2 ^ s := by rw [← hy]; have : 2 ^ 63 = 9223372036854775808 := rfl; omega
  have m1 : y * 2 ^ s ≤ 18446744073709551615 := by rw [← hy]; have : 2 ^ 64 = 18446744073709551616 := rfl; omega
  have sh := Shifted.mk' hi lo y s (by omega) h1 h2 h3 (by omega)
  have or := or_add hi (lo / 2 ^ (64 - s)) s (by omega) sh.G0 sh.Gs (by have := sh.lt; omega)
  have g0 := sh.G0
  have H0 := sh.H0
  have L0 := sh.L0
  have L1 := sh.L1
  have tot := sh.tot
  have lt := sh.lt
  clear sh e1 hL n0 n1 hy lz
  generalize hY : y * 2 ^ s = Y at *
  generalize hG : lo / 2 ^ (64 - s) = G at *
  generalize hLL : lo * 2 ^ s % 18446744073709551616 = L at *
  generalize hH : hi * 2 ^ s = H at *
  generalize hU : H + G = U at *
  have lt0 := and_low Y (by omega) (by omega)
  have lt1 := and_low L (by omega) (by omega)
  have u0 : 0 ≤ U := by omega
  have a0 : 2147483648 ≤ Y / 4294967296 := by omega
  have p0 : 0 ≤ U / (Y / 4294967296) * (Y / 4294967296) := Int.mul_nonneg (Int.ediv_nonneg u0 (by omega)) (by omega)
  have p1 : U / (Y / 4294967296) * (Y / 4294967296) ≤ U := Int.ediv_mul_le _ (by omega)
  have p2 : U % (Y / 4294967296) = U - U / (Y / 4294967296) * (Y / 4294967296) := by
    have := Int.emod_add_mul_ediv U (Y / 4294967296); rw [Int.mul_comm] at this; omega
  have p3 := Int.emod_nonneg U (show Y / 4294967296 ≠ 0 by omega)
  have p4 := Int.emod_lt_of_pos U (show 0 < Y / 4294967296 by omega)
  have p5 : U / (Y / 4294967296) ≤ U := Int.ediv_le_self _ u0
  have hYs : Y = Y / 4294967296 * 4294967296 + Y % 4294967296 := by omega
  have r0 := Int.emod_nonneg (U * 4294967296 + L / 4294967296) (show Y ≠ 0 by omega)
  have r1 := Int.emod_lt_of_pos (U * 4294967296 + L / 4294967296) (show 0 < Y by omega)
  have dg1 := Dig.mk' U (L / 4294967296) Y (Y / 4294967296) (Y % 4294967296) hYs (by omega) (by omega) (by omega) u0 lt (by omega) (by omega)
  have st1 := dig_start U (L / 4294967296) Y (Y / 4294967296) (Y % 4294967296) hYs (by omega) (by omega) u0 (by omega) (by omega)
  have rest := dig_rest U (L / 4294967296) Y _ (by omega) (by omega) rfl
  have fq := fin_quot U L Y (twoW hi lo) y s hY.symm (by omega) u0 lt (by omega) L0 (by omega) tot
  have fr := fin_rest U L Y (twoW hi lo) y s hY.symm (by omega) (by omega) tot
  generalize hR1 : (U * 4294967296 + L / 4294967296) % Y = R1 at *
  have dg2 := Dig.mk' R1 (L % 4294967296) Y (Y / 4294967296) (Y % 4294967296) hYs (by omega) (by omega) (by omega) r0 r1 (by omega) (by omega)
  have st2 := dig_start R1 (L % 4294967296) Y (Y / 4294967296) (Y % 4294967296) hYs (by omega) (by omega) r0 (by omega) (by omega)
  have q0 : 0 ≤ R1 / (Y / 4294967296) * (Y / 4294967296) := Int.mul_nonneg (Int.ediv_nonneg r0 (by omega)) (by omega)
  have q1 : R1 / (Y / 4294967296) * (Y / 4294967296) ≤ R1 := Int.ediv_mul_le _ (by omega)
  have q2 : R1 % (Y / 4294967296) = R1 - R1 / (Y / 4294967296) * (Y / 4294967296) := by
    have := Int.emod_add_mul_ediv R1 (Y / 4294967296); rw [Int.mul_comm] at this; omega
  have q3 := Int.emod_nonneg R1 (show Y / 4294967296 ≠ 0 by omega)
  have q4 := Int.emod_lt_of_pos R1 (show 0 < Y / 4294967296 by omega)
  have q5 : R1 / (Y / 4294967296) ≤ R1 := Int.ediv_le_self _ r0
  exact div64_core hi lo y s Y (Y / 4294967296) (Y % 4294967296) H G U L (L / 4294967296) (L % 4294967296) (U / (Y / 4294967296)) (U - U / (Y / 4294967296) * (Y / 4294967296)) (R1 / (Y / 4294967296)) (R1 - R1 / (Y / 4294967296) * (Y / 4294967296))
    ((U * 4294967296 + L / 4294967296) / Y) R1 ((R1 * 4294967296 + L % 4294967296) / Y) _ _ w h0 h1 h2 h3 h4 s0 s1 lz' (by rw [hY]; omega) (by rw [hY]; omega) (by rw [hH]; omega) (by rw [hH]; omega)
    hY rfl lt0 hH hG (by rw [or]) (by rw [IntKind.wrap_u64]; exact hLL) rfl lt1 rfl rfl a0 u0 (by omega) (by omega) (by omega) (by omega) (by omega) (by omega) (by omega) (by omega) (by omega) (by omega) p0 p1
    rest r0 (by omega) rfl rfl q0 q1 dg2 ⟨st2, Int.ediv_nonneg r0 (by omega), by omega, by omega, by omega, by show _ = _; omega⟩
    dg1 ⟨st1, Int.ediv_nonneg u0 (by omega), by omega, by omega, by omega, by show _ = _; omega⟩ fq fr

set_option maxHeartbeats 1000000 in
set_option maxRecDepth 100000 in
theorem div64_zero (lo y : Int) (w : World) (h1 : 0 < y) (h2 : 0 ≤ lo) (h3 : lo ≤ 18446744073709551615) (h4 : y ≤ 140737488355327) :
    Calls Try.prog 62 #[.int .u64 0, .int .u64 lo, .int .u64 y] w fun e w' => e = .returned (.tuple #[.int .u64 (lo / y), .int .u64 (lo % y)]) ∧ ∃ n, w' = w.drewN n := by
  go_enter Try.func62, Try.ntmps62
  go_wp2_with fail
  go_quiet (fail)
  go_wp2
  go_ret2
  exact ⟨rfl, _, rfl⟩

theorem div64_any (hi lo y : Int) (w : World) (h0 : 0 ≤ hi) (h1 : hi < y) (h2 : 0 ≤ lo) (h3 : lo ≤ 18446744073709551615) (h4 : y ≤ 140737488355327) :
    Calls Try.prog 62 #[.int .u64 hi, .int .u64 lo, .int .u64 y] w fun e w' => e = .returned (.tuple #[.int .u64 (twoW hi lo / y), .int .u64 (twoW hi lo % y)]) ∧ ∃ n, w' = w.drewN n := by
  by_cases hz : hi = 0
  · subst hz
    rw [show twoW 0 lo = lo by unfold twoW; omega]
    exact div64_zero lo y w (by omega) h2 h3 h4
  · exact (div64_pos hi lo y w (by omega) h1 h2 h3 h4).mono fun _ _ h => ⟨h.1, 0, h.2⟩

end Go.Proofs.Ytpnlfeljmpfeoab

/- Package proportion: what Of, Up and Compare return, for every input. -/
namespace Go.Proofs.Ytpnlfeljmpfeoab
open Go.RowKit

theorem amounts_any (b off len cap : Nat) (zs : List Int) (w : World) (hz : len = zs.length) (hbig : len ≤ 9223372036854775807) (hc : ∀ j, j < zs.length → w.cell? ⟨b, off + j, none⟩ = some (.int .i64 (zs.getD j 0))) :
    Calls Try.prog 60 #[.slice (some ⟨b, off, none⟩) len cap] w fun e w' => e = .returned (.bool (zs.all isAm)) ∧ w' = w := by
  have HC := Lib.hid hc; clear hc
  have HZ := Lib.hid hz; clear hz
  go_enter Try.func60, Try.ntmps60
  go_wp2
  go_loop [7] (fun i => ∃ k : Nat, k ≤ len ∧ i = .int .i64 k ∧ (zs.take k).all isAm = true) (fun i => len - (intOf i).toNat)
  case atStart => exact ⟨0, Nat.zero_le _, rfl, by simp⟩
  case round =>
    obtain ⟨k, hk, rfl, hall⟩ := hrel
    have HA := Lib.hid hall; clear hall
    by_cases hlt : k < len
    · have hkz : k < zs.length := by rw [← HZ.out]; exact hlt
      have hcell : w.cell? ⟨b, off + k, none⟩ = some (.int .i64 (zs.getD k 0)) := HC.out k hkz
      have HS := Lib.hid (all_take_succ zs k hkz)
      have HF := Lib.hid (all_false_at zs k hkz)
      generalize zs.getD k 0 = z at *
      by_cases hb : 0 ≤ z ∧ z ≤ 128849018880000
      · have HB := Lib.hid ((isAm_iff z).2 hb)
        obtain ⟨hb1, hb2⟩ := hb
        clear hkz
        go_wp2
        go_round
        case rel => exact ⟨k + 1, by omega, by go_num, by rw [HS.out, HA.out, HB.out]; rfl⟩
        case measure => simp [intOf]; omega
      · have HB := Lib.hid (HF.out (by rw [isAm_not]; omega))
        by_cases hz0 : z < 0
        · clear hb hkz
          go_wp2
          go_ret
          rw [HB.out]; exact ⟨rfl, rfl⟩
        · have hz1 : 128849018880000 < z := by omega
          clear hb hkz
          go_wp2
          go_ret
          rw [HB.out]; exact ⟨rfl, rfl⟩
    · have HT : RowKit.Hid (zs.take k = zs) := by
        show zs.take k = zs
        exact List.take_of_length_le (by have := HZ.out; omega)
      go_wp2
      go_ret
      rw [← HA.out, HT.out]; exact ⟨rfl, rfl⟩

theorem mul64_int (x y : Int) (w : World) (hx0 : 0 ≤ x) (hx : x ≤ 9223372036854775807) (hy0 : 0 ≤ y) (hy : y ≤ 9223372036854775807) :
    Calls Try.prog 71 #[.int .u64 x, .int .u64 y] w fun e w' => e = .returned (.tuple #[.int .u64 (hiW (x * y)), .int .u64 (loW (x * y))]) ∧ w = w' := by
  obtain ⟨A, rfl⟩ := Int.eq_ofNat_of_zero_le hx0
  obtain ⟨B, rfl⟩ := Int.eq_ofNat_of_zero_le hy0
  refine (Try.bits_Mul64 A B (by omega) (by omega) w).mono fun e w' h => ⟨?_, h.2.symm⟩
  rw [h.1, hiW, loW]; simp

theorem multiply_any (a b : Int) (w : World) (ha0 : 0 ≤ a) (ha : a ≤ 9223372036854775807) (hb0 : 0 ≤ b) (hb : b ≤ 9223372036854775807) :
    Calls Try.prog 61 #[.int .i64 a, .int .i64 b] w fun e w' => e = .returned (.agg #[.int .u64 (hiW (a * b)), .int .u64 (loW (a * b))]) ∧ Below w.heap.size w w' := by
  go_enter Try.func61, Try.ntmps61
  go_wp2_with (go_at_call 71; refine (mul64_int a b _ ha0 ha hb0 hb).mono ?_; rintro e w' ⟨rfl, rfl⟩)
  go_returns
  exact ⟨rfl, by go_grown⟩

theorem amounts_row (zs : List Int) (vs : List Value) (w : World) (hv : vs = zs.map (Value.int .i64)) (hl : zs.length ≤ 1000) (r : Bool) (h : zs.all isAm = r) :
    Calls Try.prog 60 #[.slice (some ⟨w.heap.size, 0, none⟩) zs.length zs.length] (w.alloc (.cells vs.toArray 3)) fun e w' => e = .returned (.bool r) ∧ (w.alloc (.cells vs.toArray 3)) = w' := by
  refine (amounts_any _ 0 zs.length zs.length zs _ rfl (by omega) ?_).mono fun e w' g => ⟨by rw [g.1, h], g.2.symm⟩
  intro j hj
  subst hv
  rw [World.cell?_alloc_new]
  simp [List.getD, List.getElem?_eq_getElem hj]

theorem amounts1 (a : Int) (w : World) (r : Bool) (h : isAm a = r) :
    Calls Try.prog 60 #[.slice (some ⟨w.heap.size, 0, none⟩) 1 1] (w.alloc (.cells #[.int .i64 a] 3)) fun e w' => e = .returned (.bool r) ∧ (w.alloc (.cells #[.int .i64 a] 3)) = w' :=
  amounts_row [a] [.int .i64 a] w rfl (by simp) r (by simpa using h)
theorem amounts2 (a b : Int) (w : World) (r : Bool) (h : (isAm a && isAm b) = r) :
    Calls Try.prog 60 #[.slice (some ⟨w.heap.size, 0, none⟩) 2 2] (w.alloc (.cells #[.int .i64 a, .int .i64 b] 3)) fun e w' => e = .returned (.bool r) ∧ (w.alloc (.cells #[.int .i64 a, .int .i64 b] 3)) = w' :=
  amounts_row [a, b] [.int .i64 a, .int .i64 b] w rfl (by simp) r (by simpa using h)
theorem amounts3 (a b c : Int) (w : World) (r : Bool) (h : (isAm a && isAm b && isAm c) = r) :
    Calls Try.prog 60 #[.slice (some ⟨w.heap.size, 0, none⟩) 3 3] (w.alloc (.cells #[.int .i64 a, .int .i64 b, .int .i64 c] 3)) fun e w' => e = .returned (.bool r) ∧ (w.alloc (.cells #[.int .i64 a, .int .i64 b, .int .i64 c] 3)) = w' :=
  amounts_row [a, b, c] [.int .i64 a, .int .i64 b, .int .i64 c] w rfl (by simp) r (by simpa [Bool.and_assoc] using h)
theorem amounts4 (a b c d : Int) (w : World) (r : Bool) (h : (isAm a && isAm b && isAm c && isAm d) = r) :
    Calls Try.prog 60 #[.slice (some ⟨w.heap.size, 0, none⟩) 4 4] (w.alloc (.cells #[.int .i64 a, .int .i64 b, .int .i64 c, .int .i64 d] 3)) fun e w' => e = .returned (.bool r) ∧ (w.alloc (.cells #[.int .i64 a, .int .i64 b, .int .i64 c, .int .i64 d] 3)) = w' :=
  amounts_row [a, b, c, d] [.int .i64 a, .int .i64 b, .int .i64 c, .int .i64 d] w rfl (by simp) r (by simpa [Bool.and_assoc] using h)

theorem of_bad (a b c : Int) (w : World) (h : (isAm a && isAm b && isAm c) = false) :
    Calls Try.prog 41 #[.int .i64 a, .int .i64 b, .int .i64 c] w fun e w' => e = .returned (.tuple #[.int .i64 0, .int .i64 0, .int .i64 2]) ∧ Below w.heap.size w w' := by
  have H := Lib.hid h; clear h
  go_enter Try.func41, Try.ntmps41
  go_wp2_with (go_at_call 60; refine (amounts3 _ _ _ _ _ H.out).mono ?_; rintro e w' ⟨rfl, rfl⟩)
  go_returns
  exact ⟨rfl, by go_grown⟩

theorem of_zero (a b : Int) (w : World) (h : (isAm a && isAm b && isAm 0) = true) :
    Calls Try.prog 41 #[.int .i64 a, .int .i64 b, .int .i64 0] w fun e w' => e = .returned (.tuple #[.int .i64 0, .int .i64 0, .int .i64 16]) ∧ Below w.heap.size w w' := by
  have H := Lib.hid h; clear h
  go_enter Try.func41, Try.ntmps41
  go_wp2_with (go_at_call 60; refine (amounts3 _ _ _ _ _ H.out).mono ?_; rintro e w' ⟨rfl, rfl⟩)
  go_returns
  exact ⟨rfl, by go_grown⟩

theorem of_ok (a b c Q R : Int) (w : World) (h : (isAm a && isAm b && isAm c) = true) (hc : 1 ≤ c) (hQ : Hid (a * b / c = Q)) (hR : Hid (a * b % c = R)) (hq : Q ≤ 128849018880000) :
    Calls Try.prog 41 #[.int .i64 a, .int .i64 b, .int .i64 c] w fun e w' => e = .returned (.tuple #[.int .i64 Q, .int .i64 R, .int .i64 0]) ∧ Below w.heap.size w w' := by
  have h' := h
  simp only [Bool.and_eq_true, isAm_iff] at h'
  obtain ⟨⟨⟨a0, a1⟩, b0, b1⟩, c0, c1⟩ := h'
  have H := Lib.hid h; clear h
  have p0 : 0 ≤ a * b := Int.mul_nonneg a0 b0
  have q0 : 0 ≤ Q := by rw [← hQ.out]; exact Int.ediv_nonneg p0 c0
  have r0 : 0 ≤ R := by rw [← hR.out]; exact Int.emod_nonneg _ (by omega)
  have r1 : R < c := by rw [← hR.out]; exact Int.emod_lt_of_pos _ (by omega)
  have k : hiW (a * b) < c := by
    rcases Int.lt_or_le (hiW (a * b)) c with k | k
    · exact k
    · have := hiW_ge _ _ k (by omega); rw [hQ.out] at this; omega
  have k0 := hiW_nonneg _ p0
  clear p0
  go_enter Try.func41, Try.ntmps41
  go_wp2_with (go_at_call 60; refine (amounts3 _ _ _ _ _ H.out).mono ?_; rintro e w' ⟨rfl, rfl⟩)
  refine (multiply_any a b _ a0 (by omega) b0 (by omega)).mono ?_
  rintro e w1 ⟨rfl, hb1⟩
  go_wp2_with fail
  refine (div64_any (hiW (a * b)) (loW (a * b)) c _ k0 k (loW_nonneg _) (loW_le _) (by omega)).mono ?_
  rw [twoW_split, hQ.out, hR.out]
  rintro e w2 ⟨rfl, n, rfl⟩
  go_wp2
  go_returns
  exact ⟨rfl, bel_trans (bel_alloc hb1) (bel_alloc (bel_drewN _ _))⟩

theorem of_big (a b c Q R : Int) (w : World) (h : (isAm a && isAm b && isAm c) = true) (hc : 1 ≤ c) (hQ : Hid (a * b / c = Q)) (hR : Hid (a * b % c = R)) (hq : 128849018880000 < Q) :
    Calls Try.prog 41 #[.int .i64 a, .int .i64 b, .int .i64 c] w fun e w' => e = .returned (.tuple #[.int .i64 0, .int .i64 0, .int .i64 15]) ∧ Below w.heap.size w w' := by
  have h' := h
  simp only [Bool.and_eq_true, isAm_iff] at h'
  obtain ⟨⟨⟨a0, a1⟩, b0, b1⟩, c0, c1⟩ := h'
  have H := Lib.hid h; clear h
  have p0 : 0 ≤ a * b := Int.mul_nonneg a0 b0
  have k0 := hiW_nonneg _ p0
  by_cases k : hiW (a * b) < c
  · have q1 : Q ≤ 18446744073709551615 := by
      rw [← hQ.out]
      have : a * b / c < 18446744073709551616 := by
        apply Int.ediv_lt_of_lt_mul (by omega)
        unfold hiW at k; omega
      omega
    have r0 : 0 ≤ R := by rw [← hR.out]; exact Int.emod_nonneg _ (by omega)
    have r1 : R < c := by rw [← hR.out]; exact Int.emod_lt_of_pos _ (by omega)
    clear p0
    go_enter Try.func41, Try.ntmps41
    go_wp2_with (go_at_call 60; refine (amounts3 _ _ _ _ _ H.out).mono ?_; rintro e w' ⟨rfl, rfl⟩)
    refine (multiply_any a b _ a0 (by omega) b0 (by omega)).mono ?_
    rintro e w1 ⟨rfl, hb1⟩
    go_wp2_with fail
    refine (div64_any (hiW (a * b)) (loW (a * b)) c _ k0 k (loW_nonneg _) (loW_le _) (by omega)).mono ?_
    rw [twoW_split, hQ.out, hR.out]
    rintro e w2 ⟨rfl, n, rfl⟩
    go_wp2
    go_returns
    exact ⟨rfl, bel_trans (bel_alloc hb1) (bel_alloc (bel_drewN _ _))⟩
  · clear p0
    go_enter Try.func41, Try.ntmps41
    go_wp2_with (go_at_call 60; refine (amounts3 _ _ _ _ _ H.out).mono ?_; rintro e w' ⟨rfl, rfl⟩)
    refine (multiply_any a b _ a0 (by omega) b0 (by omega)).mono ?_
    rintro e w1 ⟨rfl, hb1⟩
    go_wp2
    go_returns
    exact ⟨rfl, bel_trans (bel_alloc hb1) (bel_alloc (Below.refl _ _))⟩

/-- 'Of', whatever it is handed -/
theorem of_any (a b c : Int) (w : World) :
    Calls Try.prog 41 #[.int .i64 a, .int .i64 b, .int .i64 c] w fun e w' => e = .returned (.tuple #[.int .i64 (ofQ a b c), .int .i64 (ofR a b c), .int .i64 (ofE a b c)]) ∧ Below w.heap.size w w' := by
  unfold ofQ ofR
  cases h : (isAm a && isAm b && isAm c) with
  | false =>
    have e : ofE a b c = 2 := by unfold ofE; rw [h]; rfl
    rw [e]; exact of_bad a b c w h
  | true =>
    by_cases hc : c = 0
    · subst hc
      have e : ofE a b 0 = 16 := by unfold ofE; rw [h]; rfl
      rw [e]; exact of_zero a b w h
    · have h' := h
      simp only [Bool.and_eq_true, isAm_iff] at h'
      by_cases hq : a * b / c ≤ 128849018880000
      · have e : ofE a b c = 0 := by unfold ofE; rw [h, if_pos rfl, if_neg hc, if_pos hq]
        rw [e]; exact of_ok a b c _ _ w h (by omega) rfl rfl hq
      · have e : ofE a b c = 15 := by unfold ofE; rw [h, if_pos rfl, if_neg hc, if_neg hq]
        rw [e]; exact of_big a b c _ _ w h (by omega) rfl rfl (by omega)

end Go.Proofs.Ytpnlfeljmpfeoab

/- Package capacity: Agrees, Room. -/
namespace Go.Proofs.Ytpnlfeljmpfeoab
open Go.RowKit

theorem ag_bad (nm : ByteArray) (ps dc t L H E : Int) (a : Option Addr) (n cap : Nat) (w : World) (e1 : (E == 0) = false) (e2 : (E != 0) = true)
    (H1 : Hid (∀ W, Below w.heap.size w W → Calls Try.prog 20 #[.agg #[.string nm, .int .i64 ps, .slice a n cap, .int .i64 dc]] W fun e w' => e = .returned (.tuple #[.agg #[.int .i64 L, .int .i64 H], .int .i64 E]) ∧ Below W.heap.size W w')) :
    Calls Try.prog 22 #[.agg #[.string nm, .int .i64 ps, .slice a n cap, .int .i64 dc], .int .i64 t] w fun e w' => e = .returned (.tuple #[.int .i64 0, .int .i64 E]) ∧ Below w.heap.size w w' := by
  go_enter Try.func22, Try.ntmps22
  go_wp2_with fail
  refine (H1.out _ (bel_alloc (Below.refl _ _))).mono ?_
  rintro e w1 ⟨rfl, gg⟩
  have X1 := Lib.hid (bel_alloc gg); clear gg
  go_wp2
  go_returns
  exact ⟨rfl, X1.out.alloc X1.out.size _⟩
theorem ag_range (nm : ByteArray) (ps dc t L H : Int) (a : Option Addr) (n cap : Nat) (w : World) (ht : t < 0 ∨ 1000 < t)
    (H1 : Hid (∀ W, Below w.heap.size w W → Calls Try.prog 20 #[.agg #[.string nm, .int .i64 ps, .slice a n cap, .int .i64 dc]] W fun e w' => e = .returned (.tuple #[.agg #[.int .i64 L, .int .i64 H], .int .i64 0]) ∧ Below W.heap.size W w')) :
    Calls Try.prog 22 #[.agg #[.string nm, .int .i64 ps, .slice a n cap, .int .i64 dc], .int .i64 t] w fun e w' => e = .returned (.tuple #[.int .i64 0, .int .i64 2]) ∧ Below w.heap.size w w' := by
  by_cases h : t < 0
  · have d0 : decide (t < 0) = true := decide_eq_true h
    clear ht
    go_enter Try.func22, Try.ntmps22
    go_wp2_with fail
    refine (H1.out _ (bel_alloc (Below.refl _ _))).mono ?_
    rintro e w1 ⟨rfl, gg⟩
    have X1 := Lib.hid (bel_alloc gg); clear gg
    go_wp2
    go_returns
    exact ⟨rfl, X1.out.alloc X1.out.size _⟩
  · have d0 : decide (t < 0) = false := decide_eq_false h
    have d1 : decide (1000 < t) = true := decide_eq_true (by omega)
    clear ht
    go_enter Try.func22, Try.ntmps22
    go_wp2_with fail
    refine (H1.out _ (bel_alloc (Below.refl _ _))).mono ?_
    rintro e w1 ⟨rfl, gg⟩
    have X1 := Lib.hid (bel_alloc gg); clear gg
    go_wp2
    go_returns
    exact ⟨rfl, X1.out.alloc X1.out.size _⟩

set_option maxHeartbeats 8000000 in
theorem ag_0 (nm : ByteArray) (ps dc t L H q r u v : Int) (a : Option Addr) (n cap : Nat) (w : World) (d0 : decide (t < 0) = false) (d1 : decide (1000 < t) = false)
    (w1 : IntKind.i64.wrap (dc - q) = u) (w2 : IntKind.i64.wrap (dc + q) = v)
    (c0 : decide (u ≤ L) = true) (c1 : decide (H ≤ v) = true)
    (HO : Hid (∀ W, Calls Try.prog 41 #[.int .i64 t, .int .i64 dc, .int .i64 1000] W fun e w' => e = .returned (.tuple #[.int .i64 q, .int .i64 r, .int .i64 0]) ∧ Below W.heap.size W w'))
    (H1 : Hid (∀ W, Below w.heap.size w W → Calls Try.prog 20 #[.agg #[.string nm, .int .i64 ps, .slice a n cap, .int .i64 dc]] W fun e w' => e = .returned (.tuple #[.agg #[.int .i64 L, .int .i64 H], .int .i64 0]) ∧ Below W.heap.size W w')) :
    Calls Try.prog 22 #[.agg #[.string nm, .int .i64 ps, .slice a n cap, .int .i64 dc], .int .i64 t] w fun e w' => e = .returned (.tuple #[.int .i64 1, .int .i64 0]) ∧ Below w.heap.size w w' := by
  have F0 := Lib.hid (Quad.new w (.string nm) (.int .i64 ps) (.slice a n cap) (.int .i64 dc) 36)
  go_enter Try.func22, Try.ntmps22
  go_wp2_with fail
  refine (H1.out _ (bel_alloc (Below.refl _ _))).mono ?_
  rintro e w1 ⟨rfl, gg⟩
  replace F0 := Lib.hid ((F0.out.below gg).alloc (.cells #[.int .i64 L, .int .i64 H] 32))
  have T0 := Lib.hid (Two.new w1 (.int .i64 L) (.int .i64 H) 32)
  have X1 := Lib.hid ((bel_alloc gg).alloc (bel_alloc gg).size (.cells #[.int .i64 L, .int .i64 H] 32)); clear gg
  obtain ⟨_, _, _, u3, _, _⟩ := F0.out
  clear H1
  go_wp2_with fail
  refine (HO.out _).mono ?_
  rintro e w2 ⟨rfl, gg⟩
  clear u3
  replace F0 := Lib.hid (F0.out.below gg)
  replace T0 := Lib.hid (T0.out.below gg)
  replace X1 := Lib.hid (bel_trans X1.out gg); clear gg HO
  obtain ⟨_, _, _, u3, _, _⟩ := F0.out
  obtain ⟨z0, z1, _, _, _⟩ := T0.out
  go_wp2_with fail
  go_quiet (fail)
  go_wp2
  go_returns
  exact ⟨rfl, bel_trans X1.out (bel_drewN _ _)⟩
set_option maxHeartbeats 8000000 in
theorem ag_1 (nm : ByteArray) (ps dc t L H q r u v : Int) (a : Option Addr) (n cap : Nat) (w : World) (d0 : decide (t < 0) = false) (d1 : decide (1000 < t) = false)
    (w1 : IntKind.i64.wrap (dc - q) = u) (w2 : IntKind.i64.wrap (dc + q) = v)
    (c0 : decide (u ≤ L) = true) (c1 : decide (H ≤ v) = false) (c2 : decide (v < L) = true)
    (HO : Hid (∀ W, Calls Try.prog 41 #[.int .i64 t, .int .i64 dc, .int .i64 1000] W fun e w' => e = .returned (.tuple #[.int .i64 q, .int .i64 r, .int .i64 0]) ∧ Below W.heap.size W w'))
    (H1 : Hid (∀ W, Below w.heap.size w W → Calls Try.prog 20 #[.agg #[.string nm, .int .i64 ps, .slice a n cap, .int .i64 dc]] W fun e w' => e = .returned (.tuple #[.agg #[.int .i64 L, .int .i64 H], .int .i64 0]) ∧ Below W.heap.size W w')) :
    Calls Try.prog 22 #[.agg #[.string nm, .int .i64 ps, .slice a n cap, .int .i64 dc], .int .i64 t] w fun e w' => e = .returned (.tuple #[.int .i64 2, .int .i64 0]) ∧ Below w.heap.size w w' := by
  have F0 := Lib.hid (Quad.new w (.string nm) (.int .i64 ps) (.slice a n cap) (.int .i64 dc) 36)
  go_enter Try.func22, Try.ntmps22
  go_wp2_with fail
  refine (H1.out _ (bel_alloc (Below.refl _ _))).mono ?_
  rintro e w1 ⟨rfl, gg⟩
  replace F0 := Lib.hid ((F0.out.below gg).alloc (.cells #[.int .i64 L, .int .i64 H] 32))
  have T0 := Lib.hid (Two.new w1 (.int .i64 L) (.int .i64 H) 32)
  have X1 := Lib.hid ((bel_alloc gg).alloc (bel_alloc gg).size (.cells #[.int .i64 L, .int .i64 H] 32)); clear gg
  obtain ⟨_, _, _, u3, _, _⟩ := F0.out
  clear H1
  go_wp2_with fail
  refine (HO.out _).mono ?_
  rintro e w2 ⟨rfl, gg⟩
  clear u3
  replace F0 := Lib.hid (F0.out.below gg)
  replace T0 := Lib.hid (T0.out.below gg)
  replace X1 := Lib.hid (bel_trans X1.out gg); clear gg HO
  obtain ⟨_, _, _, u3, _, _⟩ := F0.out
  obtain ⟨z0, z1, _, _, _⟩ := T0.out
  go_wp2_with fail
  go_quiet (fail)
  go_wp2
  go_returns
  exact ⟨rfl, bel_trans X1.out (bel_drewN _ _)⟩
set_option maxHeartbeats 8000000 in
theorem ag_2 (nm : ByteArray) (ps dc t L H q r u v : Int) (a : Option Addr) (n cap : Nat) (w : World) (d0 : decide (t < 0) = false) (d1 : decide (1000 < t) = false)
    (w1 : IntKind.i64.wrap (dc - q) = u) (w2 : IntKind.i64.wrap (dc + q) = v)
    (c0 : decide (u ≤ L) = true) (c1 : decide (H ≤ v) = false) (c2 : decide (v < L) = false) (c3 : decide (H < u) = true)
    (HO : Hid (∀ W, Calls Try.prog 41 #[.int .i64 t, .int .i64 dc, .int .i64 1000] W fun e w' => e = .returned (.tuple #[.int .i64 q, .int .i64 r, .int .i64 0]) ∧ Below W.heap.size W w'))
    (H1 : Hid (∀ W, Below w.heap.size w W → Calls Try.prog 20 #[.agg #[.string nm, .int .i64 ps, .slice a n cap, .int .i64 dc]] W fun e w' => e = .returned (.tuple #[.agg #[.int .i64 L, .int .i64 H], .int .i64 0]) ∧ Below W.heap.size W w')) :
    Calls Try.prog 22 #[.agg #[.string nm, .int .i64 ps, .slice a n cap, .int .i64 dc], .int .i64 t] w fun e w' => e = .returned (.tuple #[.int .i64 2, .int .i64 0]) ∧ Below w.heap.size w w' := by
  have F0 := Lib.hid (Quad.new w (.string nm) (.int .i64 ps) (.slice a n cap) (.int .i64 dc) 36)
  go_enter Try.func22, Try.ntmps22
  go_wp2_with fail
  refine (H1.out _ (bel_alloc (Below.refl _ _))).mono ?_
  rintro e w1 ⟨rfl, gg⟩
  replace F0 := Lib.hid ((F0.out.below gg).alloc (.cells #[.int .i64 L, .int .i64 H] 32))
  have T0 := Lib.hid (Two.new w1 (.int .i64 L) (.int .i64 H) 32)
  have X1 := Lib.hid ((bel_alloc gg).alloc (bel_alloc gg).size (.cells #[.int .i64 L, .int .i64 H] 32)); clear gg
  obtain ⟨_, _, _, u3, _, _⟩ := F0.out
  clear H1
  go_wp2_with fail
  refine (HO.out _).mono ?_
  rintro e w2 ⟨rfl, gg⟩
  clear u3
  replace F0 := Lib.hid (F0.out.below gg)
  replace T0 := Lib.hid (T0.out.below gg)
  replace X1 := Lib.hid (bel_trans X1.out gg); clear gg HO
  obtain ⟨_, _, _, u3, _, _⟩ := F0.out
  obtain ⟨z0, z1, _, _, _⟩ := T0.out
  go_wp2_with fail
  go_quiet (fail)
  go_wp2
  go_returns
  exact ⟨rfl, bel_trans X1.out (bel_drewN _ _)⟩
set_option maxHeartbeats 8000000 in
theorem ag_3 (nm : ByteArray) (ps dc t L H q r u v : Int) (a : Option Addr) (n cap : Nat) (w : World) (d0 : decide (t < 0) = false) (d1 : decide (1000 < t) = false)
    (w1 : IntKind.i64.wrap (dc - q) = u) (w2 : IntKind.i64.wrap (dc + q) = v)
    (c0 : decide (u ≤ L) = true) (c1 : decide (H ≤ v) = false) (c2 : decide (v < L) = false) (c3 : decide (H < u) = false)
    (HO : Hid (∀ W, Calls Try.prog 41 #[.int .i64 t, .int .i64 dc, .int .i64 1000] W fun e w' => e = .returned (.tuple #[.int .i64 q, .int .i64 r, .int .i64 0]) ∧ Below W.heap.size W w'))
    (H1 : Hid (∀ W, Below w.heap.size w W → Calls Try.prog 20 #[.agg #[.string nm, .int .i64 ps, .slice a n cap, .int .i64 dc]] W fun e w' => e = .returned (.tuple #[.agg #[.int .i64 L, .int .i64 H], .int .i64 0]) ∧ Below W.heap.size W w')) :
    Calls Try.prog 22 #[.agg #[.string nm, .int .i64 ps, .slice a n cap, .int .i64 dc], .int .i64 t] w fun e w' => e = .returned (.tuple #[.int .i64 3, .int .i64 0]) ∧ Below w.heap.size w w' := by
  have F0 := Lib.hid (Quad.new w (.string nm) (.int .i64 ps) (.slice a n cap) (.int .i64 dc) 36)
  go_enter Try.func22, Try.ntmps22
  go_wp2_with fail
  refine (H1.out _ (bel_alloc (Below.refl _ _))).mono ?_
  rintro e w1 ⟨rfl, gg⟩
  replace F0 := Lib.hid ((F0.out.below gg).alloc (.cells #[.int .i64 L, .int .i64 H] 32))
  have T0 := Lib.hid (Two.new w1 (.int .i64 L) (.int .i64 H) 32)
  have X1 := Lib.hid ((bel_alloc gg).alloc (bel_alloc gg).size (.cells #[.int .i64 L, .int .i64 H] 32)); clear gg
  obtain ⟨_, _, _, u3, _, _⟩ := F0.out
  clear H1
  go_wp2_with fail
  refine (HO.out _).mono ?_
  rintro e w2 ⟨rfl, gg⟩
  clear u3
  replace F0 := Lib.hid (F0.out.below gg)
  replace T0 := Lib.hid (T0.out.below gg)
  replace X1 := Lib.hid (bel_trans X1.out gg); clear gg HO
  obtain ⟨_, _, _, u3, _, _⟩ := F0.out
  obtain ⟨z0, z1, _, _, _⟩ := T0.out
  go_wp2_with fail
  go_quiet (fail)
  go_wp2
  go_returns
  exact ⟨rfl, bel_trans X1.out (bel_drewN _ _)⟩
set_option maxHeartbeats 8000000 in
theorem ag_4 (nm : ByteArray) (ps dc t L H q r u v : Int) (a : Option Addr) (n cap : Nat) (w : World) (d0 : decide (t < 0) = false) (d1 : decide (1000 < t) = false)
    (w1 : IntKind.i64.wrap (dc - q) = u) (w2 : IntKind.i64.wrap (dc + q) = v)
    (c0 : decide (u ≤ L) = false) (c2 : decide (v < L) = true)
    (HO : Hid (∀ W, Calls Try.prog 41 #[.int .i64 t, .int .i64 dc, .int .i64 1000] W fun e w' => e = .returned (.tuple #[.int .i64 q, .int .i64 r, .int .i64 0]) ∧ Below W.heap.size W w'))
    (H1 : Hid (∀ W, Below w.heap.size w W → Calls Try.prog 20 #[.agg #[.string nm, .int .i64 ps, .slice a n cap, .int .i64 dc]] W fun e w' => e = .returned (.tuple #[.agg #[.int .i64 L, .int .i64 H], .int .i64 0]) ∧ Below W.heap.size W w')) :
    Calls Try.prog 22 #[.agg #[.string nm, .int .i64 ps, .slice a n cap, .int .i64 dc], .int .i64 t] w fun e w' => e = .returned (.tuple #[.int .i64 2, .int .i64 0]) ∧ Below w.heap.size w w' := by
  have F0 := Lib.hid (Quad.new w (.string nm) (.int .i64 ps) (.slice a n cap) (.int .i64 dc) 36)
  go_enter Try.func22, Try.ntmps22
  go_wp2_with fail
  refine (H1.out _ (bel_alloc (Below.refl _ _))).mono ?_
  rintro e w1 ⟨rfl, gg⟩
  replace F0 := Lib.hid ((F0.out.below gg).alloc (.cells #[.int .i64 L, .int .i64 H] 32))
  have T0 := Lib.hid (Two.new w1 (.int .i64 L) (.int .i64 H) 32)
  have X1 := Lib.hid ((bel_alloc gg).alloc (bel_alloc gg).size (.cells #[.int .i64 L, .int .i64 H] 32)); clear gg
  obtain ⟨_, _, _, u3, _, _⟩ := F0.out
  clear H1
  go_wp2_with fail
  refine (HO.out _).mono ?_
  rintro e w2 ⟨rfl, gg⟩
  clear u3
  replace F0 := Lib.hid (F0.out.below gg)
  replace T0 := Lib.hid (T0.out.below gg)
  replace X1 := Lib.hid (bel_trans X1.out gg); clear gg HO
  obtain ⟨_, _, _, u3, _, _⟩ := F0.out
  obtain ⟨z0, z1, _, _, _⟩ := T0.out
  go_wp2_with fail
  go_quiet (fail)
  go_wp2
  go_returns
  exact ⟨rfl, bel_trans X1.out (bel_drewN _ _)⟩
set_option maxHeartbeats 8000000 in
theorem ag_5 (nm : ByteArray) (ps dc t L H q r u v : Int) (a : Option Addr) (n cap : Nat) (w : World) (d0 : decide (t < 0) = false) (d1 : decide (1000 < t) = false)
    (w1 : IntKind.i64.wrap (dc - q) = u) (w2 : IntKind.i64.wrap (dc + q) = v)
    (c0 : decide (u ≤ L) = false) (c2 : decide (v < L) = false) (c3 : decide (H < u) = true)
    (HO : Hid (∀ W, Calls Try.prog 41 #[.int .i64 t, .int .i64 dc, .int .i64 1000] W fun e w' => e = .returned (.tuple #[.int .i64 q, .int .i64 r, .int .i64 0]) ∧ Below W.heap.size W w'))
    (H1 : Hid (∀ W, Below w.heap.size w W → Calls Try.prog 20 #[.agg #[.string nm, .int .i64 ps, .slice a n cap, .int .i64 dc]] W fun e w' => e = .returned (.tuple #[.agg #[.int .i64 L, .int .i64 H], .int .i64 0]) ∧ Below W.heap.size W w')) :
    Calls Try.prog 22 #[.agg #[.string nm, .int .i64 ps, .slice a n cap, .int .i64 dc], .int .i64 t] w fun e w' => e = .returned (.tuple #[.int .i64 2, .int .i64 0]) ∧ Below w.heap.size w w' := by
  have F0 := Lib.hid (Quad.new w (.string nm) (.int .i64 ps) (.slice a n cap) (.int .i64 dc) 36)
  go_enter Try.func22, Try.ntmps22
  go_wp2_with fail
  refine (H1.out _ (bel_alloc (Below.refl _ _))).mono ?_
  rintro e w1 ⟨rfl, gg⟩
  replace F0 := Lib.hid ((F0.out.below gg).alloc (.cells #[.int .i64 L, .int .i64 H] 32))
  have T0 := Lib.hid (Two.new w1 (.int .i64 L) (.int .i64 H) 32)
  have X1 := Lib.hid ((bel_alloc gg).alloc (bel_alloc gg).size (.cells #[.int .i64 L, .int .i64 H] 32)); clear gg
  obtain ⟨_, _, _, u3, _, _⟩ := F0.out
  clear H1
  go_wp2_with fail
  refine (HO.out _).mono ?_
  rintro e w2 ⟨rfl, gg⟩
  clear u3
  replace F0 := Lib.hid (F0.out.below gg)
  replace T0 := Lib.hid (T0.out.below gg)
  replace X1 := Lib.hid (bel_trans X1.out gg); clear gg HO
  obtain ⟨_, _, _, u3, _, _⟩ := F0.out
  obtain ⟨z0, z1, _, _, _⟩ := T0.out
  go_wp2_with fail
  go_quiet (fail)
  go_wp2
  go_returns
  exact ⟨rfl, bel_trans X1.out (bel_drewN _ _)⟩
set_option maxHeartbeats 8000000 in
theorem ag_6 (nm : ByteArray) (ps dc t L H q r u v : Int) (a : Option Addr) (n cap : Nat) (w : World) (d0 : decide (t < 0) = false) (d1 : decide (1000 < t) = false)
    (w1 : IntKind.i64.wrap (dc - q) = u) (w2 : IntKind.i64.wrap (dc + q) = v)
    (c0 : decide (u ≤ L) = false) (c2 : decide (v < L) = false) (c3 : decide (H < u) = false)
    (HO : Hid (∀ W, Calls Try.prog 41 #[.int .i64 t, .int .i64 dc, .int .i64 1000] W fun e w' => e = .returned (.tuple #[.int .i64 q, .int .i64 r, .int .i64 0]) ∧ Below W.heap.size W w'))
    (H1 : Hid (∀ W, Below w.heap.size w W → Calls Try.prog 20 #[.agg #[.string nm, .int .i64 ps, .slice a n cap, .int .i64 dc]] W fun e w' => e = .returned (.tuple #[.agg #[.int .i64 L, .int .i64 H], .int .i64 0]) ∧ Below W.heap.size W w')) :
    Calls Try.prog 22 #[.agg #[.string nm, .int .i64 ps, .slice a n cap, .int .i64 dc], .int .i64 t] w fun e w' => e = .returned (.tuple #[.int .i64 3, .int .i64 0]) ∧ Below w.heap.size w w' := by
  have F0 := Lib.hid (Quad.new w (.string nm) (.int .i64 ps) (.slice a n cap) (.int .i64 dc) 36)
  go_enter Try.func22, Try.ntmps22
  go_wp2_with fail
  refine (H1.out _ (bel_alloc (Below.refl _ _))).mono ?_
  rintro e w1 ⟨rfl, gg⟩
  replace F0 := Lib.hid ((F0.out.below gg).alloc (.cells #[.int .i64 L, .int .i64 H] 32))
  have T0 := Lib.hid (Two.new w1 (.int .i64 L) (.int .i64 H) 32)
  have X1 := Lib.hid ((bel_alloc gg).alloc (bel_alloc gg).size (.cells #[.int .i64 L, .int .i64 H] 32)); clear gg
  obtain ⟨_, _, _, u3, _, _⟩ := F0.out
  clear H1
  go_wp2_with fail
  refine (HO.out _).mono ?_
  rintro e w2 ⟨rfl, gg⟩
  clear u3
  replace F0 := Lib.hid (F0.out.below gg)
  replace T0 := Lib.hid (T0.out.below gg)
  replace X1 := Lib.hid (bel_trans X1.out gg); clear gg HO
  obtain ⟨_, _, _, u3, _, _⟩ := F0.out
  obtain ⟨z0, z1, _, _, _⟩ := T0.out
  go_wp2_with fail
  go_quiet (fail)
  go_wp2
  go_returns
  exact ⟨rfl, bel_trans X1.out (bel_drewN _ _)⟩
/-- the answer, by the whole part of what the tolerance is -/
theorem ag_whole {L H D t : Int} (h : L ≤ H) : agA L H D t = if D - t * D / 1000 ≤ L ∧ H ≤ D + t * D / 1000 then 1 else if D + t * D / 1000 < L ∨ H < D - t * D / 1000 then 2 else 3 := by
  have e1 : (1000 - t) * D = 1000 * D - t * D := by grind
  have e2 : (1000 + t) * D = 1000 * D + t * D := by grind
  unfold agA
  rw [e1, e2]
  generalize t * D = z
  by_cases c : D - z / 1000 ≤ L ∧ H ≤ D + z / 1000
  · rw [if_pos c, if_pos (by omega)]
  · rw [if_neg c, if_neg (by omega)]
    by_cases d : D + z / 1000 < L ∨ H < D - z / 1000
    · rw [if_pos d, if_pos (by omega)]
    · rw [if_neg d, if_neg (by omega)]
theorem ag_ok (nm : ByteArray) (ps dc t L H : Int) (a : Option Addr) (n cap : Nat) (w : World) (ht : 0 ≤ t ∧ t ≤ 1000) (hd : 0 ≤ dc ∧ dc ≤ 1073741824) (hL : L ≤ H)
    (H1 : Hid (∀ W, Below w.heap.size w W → Calls Try.prog 20 #[.agg #[.string nm, .int .i64 ps, .slice a n cap, .int .i64 dc]] W fun e w' => e = .returned (.tuple #[.agg #[.int .i64 L, .int .i64 H], .int .i64 0]) ∧ Below W.heap.size W w')) :
    Calls Try.prog 22 #[.agg #[.string nm, .int .i64 ps, .slice a n cap, .int .i64 dc], .int .i64 t] w fun e w' => e = .returned (.tuple #[.int .i64 (agA L H dc t), .int .i64 0]) ∧ Below w.heap.size w w' := by
  have d0 : decide (t < 0) = false := decide_eq_false (by omega)
  have d1 : decide (1000 < t) = false := decide_eq_false (by omega)
  have m1 := mul_bd0 ht.1 ht.2 hd.1 hd.2
  have oe : ofE t dc 1000 = 0 := by
    have a1 : isAm t = true := (isAm_iff _).2 (by omega)
    have a2 : isAm dc = true := (isAm_iff _).2 (by omega)
    unfold ofE
    rw [a1, a2, show isAm 1000 = true by decide]
    simp only [Bool.and_self, if_true]
    first | rw [if_pos (by omega)] | rw [if_neg (by omega), if_pos (by omega)]
  have oq : ofQ t dc 1000 = t * dc / 1000 := by unfold ofQ; rw [if_pos oe]
  have HO : Hid (∀ W, Calls Try.prog 41 #[.int .i64 t, .int .i64 dc, .int .i64 1000] W fun e w' => e = .returned (.tuple #[.int .i64 (ofQ t dc 1000), .int .i64 (ofR t dc 1000), .int .i64 (ofE t dc 1000)]) ∧ Below W.heap.size W w') := Lib.hid fun W => of_any t dc 1000 W
  rw [oe, oq] at HO
  rw [ag_whole hL]
  generalize hqq : t * dc / 1000 = q at *
  replace hqq := Lib.hid hqq
  have hq : 0 ≤ q ∧ q ≤ 1073741824 := by rw [← hqq.out]; omega
  clear hqq oe oq m1
  have w1 : IntKind.i64.wrap (dc - q) = dc - q := wrap_in _ ⟨by omega, by omega⟩
  have w2 : IntKind.i64.wrap (dc + q) = dc + q := wrap_in _ ⟨by omega, by omega⟩
  obtain ⟨u, hu⟩ : ∃ u, dc - q = u := ⟨_, rfl⟩
  obtain ⟨v, hv⟩ : ∃ v, dc + q = v := ⟨_, rfl⟩
  replace w1 := w1.trans hu
  replace w2 := w2.trans hv
  rw [hu, hv]
  clear hu hv
  by_cases q0 : u ≤ L
  · by_cases q1 : H ≤ v
    · rw [if_pos (by omega)]
      exact ag_0 nm ps dc t L H q _ u v a n cap w d0 d1 w1 w2 (decide_eq_true (by omega)) (decide_eq_true (by omega)) HO H1
    · by_cases q2 : v < L
      · rw [if_neg (by omega), if_pos (by omega)]
        exact ag_1 nm ps dc t L H q _ u v a n cap w d0 d1 w1 w2 (decide_eq_true (by omega)) (decide_eq_false (by omega)) (decide_eq_true (by omega)) HO H1
      · by_cases q3 : H < u
        · rw [if_neg (by omega), if_pos (by omega)]
          exact ag_2 nm ps dc t L H q _ u v a n cap w d0 d1 w1 w2 (decide_eq_true (by omega)) (decide_eq_false (by omega)) (decide_eq_false (by omega)) (decide_eq_true (by omega)) HO H1
        · rw [if_neg (by omega), if_neg (by omega)]
          exact ag_3 nm ps dc t L H q _ u v a n cap w d0 d1 w1 w2 (decide_eq_true (by omega)) (decide_eq_false (by omega)) (decide_eq_false (by omega)) (decide_eq_false (by omega)) HO H1
  · by_cases q2 : v < L
    · rw [if_neg (by omega), if_pos (by omega)]
      exact ag_4 nm ps dc t L H q _ u v a n cap w d0 d1 w1 w2 (decide_eq_false (by omega)) (decide_eq_true (by omega)) HO H1
    · by_cases q3 : H < u
      · rw [if_neg (by omega), if_pos (by omega)]
        exact ag_5 nm ps dc t L H q _ u v a n cap w d0 d1 w1 w2 (decide_eq_false (by omega)) (decide_eq_false (by omega)) (decide_eq_true (by omega)) HO H1
      · rw [if_neg (by omega), if_neg (by omega)]
        exact ag_6 nm ps dc t L H q _ u v a n cap w d0 d1 w1 w2 (decide_eq_false (by omega)) (decide_eq_false (by omega)) (decide_eq_false (by omega)) HO H1
theorem cAgr_any (v : Value) (c : Ck) (t : Int) (w : World) (hv : CkV w v c) :
    Calls Try.prog 22 #[v, .int .i64 t] w fun e w' => e = .returned (.tuple #[.int .i64 (agQ c t), .int .i64 (agE c t)]) ∧ Below w.heap.size w w' := by
  have HC : Hid (∀ W, Below w.heap.size w W → _) := Lib.hid fun W hW => cVol_any v c W (hv.below hW)
  obtain ⟨a, cap, rfl, hp, _⟩ := hv
  by_cases h : ccE c = 0
  · rw [h] at HC
    by_cases ht : t < 0 ∨ 1000 < t
    · have e1 : agE c t = 2 := by unfold agE; rw [if_pos h, if_pos ht]
      have e2 : agQ c t = 0 := by unfold agQ; rw [e1]; rfl
      rw [e1, e2]
      exact ag_range _ _ _ _ _ _ a _ cap w ht HC
    · have e1 : agE c t = 0 := by unfold agE; rw [if_pos h, if_neg ht]
      have e2 : agQ c t = agA (vlL c) (vlH c) c.dc t := by unfold agQ; rw [if_pos e1]
      have b := vl_bd c
      rw [e1, e2]
      exact ag_ok _ _ _ _ _ _ a _ cap w (by omega) (ccE_pf h).2.2.1 (by omega) HC
  · have e1 : agE c t = ccE c := by unfold agE; rw [if_neg h]
    have e2 : agQ c t = 0 := by unfold agQ; rw [e1, if_neg h]
    rw [e1, e2]
    exact ag_bad _ _ _ _ _ _ _ a _ cap w (by simpa using h) (by simpa using h) HC

/-! ### Room -/
theorem rm_bad (nm : ByteArray) (ps dc t L H E : Int) (a : Option Addr) (n cap : Nat) (w : World) (e1 : (E == 0) = false) (e2 : (E != 0) = true)
    (H1 : Hid (∀ W, Below w.heap.size w W → Calls Try.prog 20 #[.agg #[.string nm, .int .i64 ps, .slice a n cap, .int .i64 dc]] W fun e w' => e = .returned (.tuple #[.agg #[.int .i64 L, .int .i64 H], .int .i64 E]) ∧ Below W.heap.size W w')) :
    Calls Try.prog 24 #[.agg #[.string nm, .int .i64 ps, .slice a n cap, .int .i64 dc], .int .i64 t] w fun e w' => e = .returned (.tuple #[.agg #[.int .i64 0, .int .i64 0], .int .i64 E]) ∧ Below w.heap.size w w' := by
  have T0 := Lib.hid (Two.new (w.alloc (.cells #[.string nm, .int .i64 ps, .slice a n cap, .int .i64 dc] 36)) (.int .i64 0) (.int .i64 0) 32)
  simp only [World.size_alloc] at T0
  go_enter Try.func24, Try.ntmps24
  go_wp2_with fail
  refine (H1.out _ (bel_alloc (bel_alloc (Below.refl _ _)))).mono ?_
  rintro e w1 ⟨rfl, gg⟩
  replace T0 := Lib.hid ((T0.out.below gg).alloc (.cells #[.int .i64 L, .int .i64 H] 32))
  have X1 := Lib.hid ((bel_alloc (bel_alloc gg)).alloc (bel_alloc (bel_alloc gg)).size (.cells #[.int .i64 L, .int .i64 H] 32)); clear gg
  obtain ⟨z0, z1, f0, f1, hlt⟩ := T0.out
  go_wp2
  obtain ⟨t0, t1⟩ := two_read _ (w.heap.size + 1) (.int .i64 0) (.int .i64 0) z0 z1
  refine bodyPost_ret (v := .tuple #[.agg #[.int .i64 0, .int .i64 0], .int .i64 E]) (by simp [results, Try.results24, go_sem, t0, t1]) rfl ?_
  exact ⟨rfl, (X1.out.setCell (by show _ ≤ _; simp) _).setCell (by show _ ≤ _; simp) _⟩
set_option maxHeartbeats 4000000 in
theorem rm_range (nm : ByteArray) (ps dc t L H : Int) (a : Option Addr) (n cap : Nat) (w : World) (ht : (t < 0 ∧ decide (t < 0) = true) ∨ (decide (t < 0) = false ∧ decide (1073741824 < t) = true))
    (H1 : Hid (∀ W, Below w.heap.size w W → Calls Try.prog 20 #[.agg #[.string nm, .int .i64 ps, .slice a n cap, .int .i64 dc]] W fun e w' => e = .returned (.tuple #[.agg #[.int .i64 L, .int .i64 H], .int .i64 0]) ∧ Below W.heap.size W w')) :
    Calls Try.prog 24 #[.agg #[.string nm, .int .i64 ps, .slice a n cap, .int .i64 dc], .int .i64 t] w fun e w' => e = .returned (.tuple #[.agg #[.int .i64 0, .int .i64 0], .int .i64 2]) ∧ Below w.heap.size w w' := by
  have T0 := Lib.hid (Two.new (w.alloc (.cells #[.string nm, .int .i64 ps, .slice a n cap, .int .i64 dc] 36)) (.int .i64 0) (.int .i64 0) 32)
  simp only [World.size_alloc] at T0
  rcases ht with ⟨_, d0⟩ | ⟨d0, d1⟩
  all_goals
    go_enter Try.func24, Try.ntmps24
    go_wp2_with fail
    refine (H1.out _ (bel_alloc (bel_alloc (Below.refl _ _)))).mono ?_
    rintro e w1 ⟨rfl, gg⟩
    replace T0 := Lib.hid ((T0.out.below gg).alloc (.cells #[.int .i64 L, .int .i64 H] 32))
    have X1 := Lib.hid ((bel_alloc (bel_alloc gg)).alloc (bel_alloc (bel_alloc gg)).size (.cells #[.int .i64 L, .int .i64 H] 32)); clear gg
    obtain ⟨z0, z1, f0, f1, hlt⟩ := T0.out
    go_wp2
    obtain ⟨t0, t1⟩ := two_read _ (w.heap.size + 1) (.int .i64 0) (.int .i64 0) z0 z1
    refine bodyPost_ret (v := .tuple #[.agg #[.int .i64 0, .int .i64 0], .int .i64 2]) (by simp [results, Try.results24, go_sem, t0, t1]) rfl ?_
    exact ⟨rfl, (X1.out.setCell (by show _ ≤ _; simp) _).setCell (by show _ ≤ _; simp) _⟩
set_option maxHeartbeats 4000000 in
theorem rm_ok (nm : ByteArray) (ps dc t L H R S : Int) (a : Option Addr) (n cap : Nat) (w : World) (d0 : decide (t < 0) = false) (d1 : decide (1073741824 < t) = false)
    (w1 : IntKind.i64.wrap (L - t) = L - t) (w2 : IntKind.i64.wrap (H - t) = H - t) (m1 : max (L - t) 0 = R) (m2 : max (H - t) 0 = S)
    (H1 : Hid (∀ W, Below w.heap.size w W → Calls Try.prog 20 #[.agg #[.string nm, .int .i64 ps, .slice a n cap, .int .i64 dc]] W fun e w' => e = .returned (.tuple #[.agg #[.int .i64 L, .int .i64 H], .int .i64 0]) ∧ Below W.heap.size W w')) :
    Calls Try.prog 24 #[.agg #[.string nm, .int .i64 ps, .slice a n cap, .int .i64 dc], .int .i64 t] w fun e w' => e = .returned (.tuple #[.agg #[.int .i64 R, .int .i64 S], .int .i64 0]) ∧ Below w.heap.size w w' := by
  have T0 := Lib.hid (Two.new (w.alloc (.cells #[.string nm, .int .i64 ps, .slice a n cap, .int .i64 dc] 36)) (.int .i64 0) (.int .i64 0) 32)
  simp only [World.size_alloc] at T0
  go_enter Try.func24, Try.ntmps24
  go_wp2_with fail
  refine (H1.out _ (bel_alloc (bel_alloc (Below.refl _ _)))).mono ?_
  rintro e w1 ⟨rfl, gg⟩
  replace T0 := Lib.hid ((T0.out.below gg).alloc (.cells #[.int .i64 L, .int .i64 H] 32))
  have U0 := Lib.hid (Two.new w1 (.int .i64 L) (.int .i64 H) 32)
  have X1 := Lib.hid ((bel_alloc (bel_alloc gg)).alloc (bel_alloc (bel_alloc gg)).size (.cells #[.int .i64 L, .int .i64 H] 32)); clear gg
  obtain ⟨z0, z1, f0, f1, hlt⟩ := T0.out
  obtain ⟨y0, y1, _, _, _⟩ := U0.out
  go_wp2
  obtain ⟨t0, t1⟩ := two_read _ (w.heap.size + 1) (.int .i64 R) (.int .i64 S) z0 z1
  refine bodyPost_ret (v := .tuple #[.agg #[.int .i64 R, .int .i64 S], .int .i64 0]) (by simp [results, Try.results24, go_sem, t0, t1]) rfl ?_
  exact ⟨rfl, (X1.out.setCell (by show _ ≤ _; simp) _).setCell (by show _ ≤ _; simp) _⟩
theorem cRom_any (v : Value) (c : Ck) (t : Int) (w : World) (hv : CkV w v c) :
    Calls Try.prog 24 #[v, .int .i64 t] w fun e w' => e = .returned (.tuple #[.agg #[.int .i64 (rmL c t), .int .i64 (rmH c t)], .int .i64 (rmE c t)]) ∧ Below w.heap.size w w' := by
  have HC : Hid (∀ W, Below w.heap.size w W → _) := Lib.hid fun W hW => cVol_any v c W (hv.below hW)
  obtain ⟨a, cap, rfl, hp, _⟩ := hv
  by_cases h : ccE c = 0
  · rw [h] at HC
    by_cases ht : t < 0 ∨ 1073741824 < t
    · have e1 : rmE c t = 2 := by unfold rmE; rw [if_pos h, if_pos ht]
      have e2 : rmL c t = 0 := by unfold rmL; rw [e1]; rfl
      have e3 : rmH c t = 0 := by unfold rmH; rw [e1]; rfl
      rw [e1, e2, e3]
      refine rm_range _ _ _ _ _ _ a _ cap w ?_ HC
      by_cases q : t < 0
      · exact .inl ⟨q, decide_eq_true q⟩
      · exact .inr ⟨decide_eq_false q, decide_eq_true (by omega)⟩
    · have e1 : rmE c t = 0 := by unfold rmE; rw [if_pos h, if_neg ht]
      have e2 : rmL c t = max 0 (vlL c - t) := by unfold rmL; rw [if_pos e1]
      have e3 : rmH c t = max 0 (vlH c - t) := by unfold rmH; rw [if_pos e1]
      have b := vl_bd c
      rw [e1, e2, e3]
      exact rm_ok _ _ _ _ _ _ _ _ a _ cap w (decide_eq_false (by omega)) (decide_eq_false (by omega)) (wrap_in _ ⟨by omega, by omega⟩) (wrap_in _ ⟨by omega, by omega⟩) (Int.max_comm _ _) (Int.max_comm _ _) HC
  · have e1 : rmE c t = ccE c := by unfold rmE; rw [if_neg h]
    have e2 : rmL c t = 0 := by unfold rmL; rw [e1, if_neg h]
    have e3 : rmH c t = 0 := by unfold rmH; rw [e1, if_neg h]
    rw [e1, e2, e3]
    exact rm_bad _ _ _ _ _ _ _ a _ cap w (by simpa using h) (by simpa using h) HC
end Go.Proofs.Ytpnlfeljmpfeoab

/- The reference of layer 9: Few. -/
namespace Go.Proofs.Ytpnlfeljmpfeoab
open Go.RowKit

def fewC (c : Ck) : Bool := decide (c.pf.length ≤ 33) && decide (c.nm.size ≤ 70)
def fewB (l : List Ck) : Bool := l.all fewC && decide (l.length ≤ 33)
set_option maxHeartbeats 8000000 in
theorem refFew_some (b off n cap : Nat) (l : List Ck) (B : Bool) (w : World) (hn : Hid (n = l.length)) (nc : n ≤ 9223372036854775807) (hb : b < w.heap.size)
    (hc : Hid (∀ j (hj : j < l.length), CkAt w b off j l[j]))
    (h1 : Hid ((∃ c ∈ l, fewC c = false) → B = false)) (h2 : Hid ((∀ c ∈ l, fewC c = true) → B = decide (n ≤ 33))) :
    Calls Try.prog 17 #[.slice (some ⟨b, off, none⟩) n cap] w fun e w' => e = .returned (.bool B) ∧ w' = w := by
  go_enter Try.func17, Try.ntmps17
  go_wp2_with fail
  go_loopw [3] (fun ii wr => ∃ k : Nat, k ≤ n ∧ ii = .int .i64 k ∧ wr = w ∧ Hid (∀ j (hj : j < l.length), j < k → fewC l[j] = true)) (fun ii _ => n - (intOf ii).toNat)
  case atStart => exact ⟨0, by omega, rfl, rfl, fun j hj h => by omega⟩
  case round =>
    obtain ⟨k, hk, rfl, rfl, ha⟩ := hrel
    by_cases hlt : k < n
    · have hkl : k < l.length := by rw [← hn.out]; exact hlt
      obtain ⟨a, cp, c0, c1, c2, c3, hP, hs, _⟩ := hc.out k hkl
      have HT : Hid (fewC l[k] = true → ∀ j (hj : j < l.length), j < k + 1 → fewC l[j] = true) := fun h j hj hj2 => by
        by_cases e : j = k
        · subst e; exact h
        · exact ha.out j hj (by omega)
      have HF : Hid (fewC l[k] = false → B = false) := fun h => h1.out ⟨_, List.getElem_mem hkl, h⟩
      have FW := Lib.hid (few_any _ _ wr hP)
      have HP := Lib.hid hP
      have l1 : (k : Int) < (n : Int) := by omega
      generalize l[k] = c at *
      unfold fewC at HT HF
      clear ha h1 h2 hc
      by_cases q1 : c.pf.length ≤ 33
      · rw [decide_eq_true q1] at FW HT HF
        have fe := FW
        clear hP
        by_cases q2 : c.nm.size ≤ 70
        · have d0 : decide ((70 : Int) < (c.nm.size : Int)) = false := decide_eq_false (by omega)
          rw [decide_eq_true q2] at HT
          have hx := Lib.hid (HT.out rfl)
          clear HT HF q1 q2
          generalize c.pf.length = L at *
          go_wp2_with fail
          refine FW.out.mono ?_
          rintro e w1 ⟨rfl, hw⟩
          subst hw
          go_wp2
          go_roundw
          case rel => exact ⟨k + 1, by omega, by go_num, by first | rfl | trivial, hx⟩
          case measure => simp [intOf]; omega
        · have d0 : decide ((70 : Int) < (c.nm.size : Int)) = true := decide_eq_true (by omega)
          rw [decide_eq_false q2] at HF
          obtain rfl := HF.out rfl
          clear HT HF q1 q2
          generalize c.pf.length = L at *
          go_wp2_with fail
          refine FW.out.mono ?_
          rintro e w1 ⟨rfl, hw⟩
          subst hw
          go_wp2
          go_returns
          exact ⟨rfl, rfl⟩
      · rw [decide_eq_false q1] at FW HF
        obtain rfl := HF.out rfl
        clear HT HF q1 hP
        generalize c.pf.length = L at *
        go_wp2_with fail
        refine FW.out.mono ?_
        rintro e w1 ⟨rfl, hw⟩
        subst hw
        go_wp2
        go_returns
        exact ⟨rfl, rfl⟩
    · obtain rfl : k = n := by omega
      have hB := h2.out (fun c hc => by
        obtain ⟨j, hj, rfl⟩ := List.getElem_of_mem hc
        exact ha.out j hj (by rw [hn.out]; exact hj))
      have hB2 : B = decide ((k : Int) ≤ 33) := by rw [hB]; exact decide_eq_decide.2 (by omega)
      clear hB h1 h2 ha hc
      subst hB2
      go_wp2
      go_returns
      exact ⟨by first | rfl | simp, rfl⟩
theorem refFew_nil (a : Option Addr) (cap : Nat) (w : World) :
    Calls Try.prog 17 #[.slice a 0 cap] w fun e w' => e = .returned (.bool true) ∧ w' = w := by
  go_enter Try.func17, Try.ntmps17
  go_wp2_with fail
  go_loopw [3] (fun ii wr => ii = .int .i64 0 ∧ wr = w) (fun _ _ => 0)
  case atStart => exact ⟨rfl, rfl⟩
  case round =>
    obtain ⟨rfl, rfl⟩ := hrel
    go_wp2
    go_returns
    exact ⟨rfl, rfl⟩
theorem refFew_any (v : Value) (l : List Ck) (w : World) (hv : Cks w v l) :
    Calls Try.prog 17 #[v] w fun e w' => e = .returned (.bool (fewB l)) ∧ w' = w := by
  by_cases h0 : 0 < l.length
  · obtain ⟨b, off, cap, rfl, hb, hl, hc⟩ := hv.cks h0
    refine refFew_some b off _ cap l _ w rfl (by omega) hb hc (fun ⟨c, hc, h⟩ => ?_) (fun h => ?_)
    · show fewB l = false
      unfold fewB
      rw [show l.all fewC = false by rw [List.all_eq_false]; exact ⟨c, hc, by rw [h]; simp⟩]; rfl
    · show fewB l = _
      unfold fewB
      rw [show l.all fewC = true by rw [List.all_eq_true]; exact h]; simp
  · obtain ⟨a, cap, rfl, _⟩ := hv.shape
    obtain rfl : l = [] := List.length_eq_zero_iff.1 (by omega)
    exact refFew_nil a cap w
end Go.Proofs.Ytpnlfeljmpfeoab

/- The reference of layer 9: List. -/
namespace Go.Proofs.Ytpnlfeljmpfeoab
open Go.RowKit

/-- the first fault of the first cask with one -/
def fE : List Ck → Int
  | [] => 0
  | c :: l => if ccE c = 0 then fE l else ccE c
theorem fE_zero (l : List Ck) : fE l = 0 ↔ ∀ c ∈ l, ccE c = 0 := by
  induction l with
  | nil => simp [fE]
  | cons c l ih =>
    unfold fE
    by_cases h : ccE c = 0
    · rw [if_pos h, ih]; simp [h]
    · rw [if_neg h]; simp [h]
theorem fE_at (l : List Ck) (k : Nat) (hk : k < l.length) (h1 : ∀ j (hj : j < l.length), j < k → ccE l[j] = 0) (h2 : ccE l[k] ≠ 0) : fE l = ccE l[k] := by
  induction l generalizing k with
  | nil => simp at hk
  | cons c l ih =>
    unfold fE
    cases k with
    | zero => exact if_neg h2
    | succ k =>
      have h0 := h1 0 (by simp) (by omega)
      simp only [List.getElem_cons_zero] at h0
      rw [if_pos h0]
      simp only [List.getElem_cons_succ] at h2 ⊢
      exact ih k (by simpa using hk) (fun j hj hjk => by
        have := h1 (j + 1) (by simpa using hj) (by omega)
        simpa using this) h2
/-- two casks have one name -/
def dupK (l : List Ck) : Prop := ∃ i k, ∃ (hi : i < l.length) (hk : k < i), (l[i].nm.toList == l[k].nm.toList) = true
open Classical in
/-- the first fault of a list of casks -/
noncomputable def liE (l : List Ck) : Int := if 32 < l.length then 8 else if fE l = 0 then (if dupK l then 6 else 0) else fE l
theorem refList_many (a : Option Addr) (n cap : Nat) (w : World) (h : 32 < n) (h2 : n ≤ 9223372036854775807) :
    Calls Try.prog 44 #[.slice a n cap] w fun e w' => e = .returned (.int .i64 8) ∧ Below w.heap.size w w' := by
  go_enter Try.func44, Try.ntmps44
  go_wp2
  go_returns
  exact ⟨rfl, Below.refl _ _⟩
theorem refList_nil (a : Option Addr) (cap : Nat) (w : World) :
    Calls Try.prog 44 #[.slice a 0 cap] w fun e w' => e = .returned (.int .i64 0) ∧ Below w.heap.size w w' := by
  go_enter Try.func44, Try.ntmps44
  go_wp2_with fail
  go_loopw [3] (fun ii wr => ii = .int .i64 0 ∧ wr = w) (fun _ _ => 0)
  case atStart => exact ⟨rfl, rfl⟩
  case round =>
    obtain ⟨rfl, rfl⟩ := hrel
    go_wp2_with fail
    go_loopw [5] (fun ii wz => ii = .int .i64 0 ∧ Hid (Below wr.heap.size wr wz)) (fun _ _ => 0)
    case atStart => exact ⟨rfl, Below.refl _ _⟩
    case round =>
      obtain ⟨rfl, hB⟩ := hrel
      go_wp2
      go_returns
      exact ⟨rfl, hB.out⟩
set_option maxHeartbeats 8000000 in
set_option maxRecDepth 100000 in
theorem refList_some (b off n cap : Nat) (l : List Ck) (E : Int) (w : World) (n1 : n ≤ 32) (hn : Hid (n = l.length)) (hb : b < w.heap.size)
    (hc : Hid (∀ j (hj : j < l.length), CkAt w b off j l[j]))
    (h1 : Hid (∀ k (hk : k < l.length), (∀ j (hj : j < l.length), j < k → ccE l[j] = 0) → ccE l[k] ≠ 0 → E = ccE l[k]))
    (h2 : Hid ((∀ j (hj : j < l.length), ccE l[j] = 0) → dupK l → E = 6))
    (h3 : Hid ((∀ j (hj : j < l.length), ccE l[j] = 0) → ¬ dupK l → E = 0)) :
    Calls Try.prog 44 #[.slice (some ⟨b, off, none⟩) n cap] w fun e w' => e = .returned (.int .i64 E) ∧ Below w.heap.size w w' := by
  go_enter Try.func44, Try.ntmps44
  go_wp2_with fail
  go_loopw [3] (fun ii wr => ∃ k : Nat, k ≤ n ∧ ii = .int .i64 k ∧ Hid (Below w.heap.size w wr) ∧ Hid (∀ j (hj : j < l.length), j < k → ccE l[j] = 0)) (fun ii _ => n - (intOf ii).toNat)
  case atStart => exact ⟨0, by omega, rfl, Below.refl _ _, fun j hj h => by omega⟩
  case round =>
    obtain ⟨k, hk, rfl, hB, ha⟩ := hrel
    by_cases hlt : k < n
    · have hkl : k < l.length := by rw [← hn.out]; exact hlt
      obtain ⟨a, cp, c0, c1, c2, c3, hP, wd⟩ := (hc.out k hkl).below hb hB.out
      have HC := Lib.hid (refCkk_any _ l[k] wr ⟨a, cp, rfl, hP, wd⟩)
      have HF : Hid (ccE l[k] ≠ 0 → E = ccE l[k]) := fun h => h1.out k hkl ha.out h
      have HT : Hid (ccE l[k] = 0 → ∀ j (hj : j < l.length), j < k + 1 → ccE l[j] = 0) := fun h j hj hjk => by
        by_cases e : j = k
        · subst e; exact h
        · exact ha.out j hj (by omega)
      have l1 : (k : Int) < (n : Int) := by omega
      clear hP wd ha h1 h2 h3 hc
      generalize l[k] = c at *
      by_cases hq : ccE c = 0
      · have hx := Lib.hid (HT.out hq)
        rw [hq] at HC
        clear HT HF hq
        go_wp2_with fail
        refine HC.out.mono ?_
        rintro e w1 ⟨rfl, gg⟩
        have X1 := Lib.hid (bel_trans hB.out gg); clear gg
        go_wp2
        go_roundw
        case rel => exact ⟨k + 1, by omega, by go_num, X1, hx⟩
        case measure => simp [intOf]; omega
      · have hE := HF.out hq
        have z1 : (ccE c == 0) = false := by simpa using hq
        have z2 : (ccE c != 0) = true := by simpa using hq
        clear HT HF hq
        generalize ccE c = E' at *
        subst hE
        go_wp2_with fail
        refine HC.out.mono ?_
        rintro e w1 ⟨rfl, gg⟩
        have X1 := Lib.hid (bel_trans hB.out gg); clear gg
        go_wp2
        go_returns
        exact ⟨rfl, X1.out⟩
    · obtain rfl : k = n := by omega
      have ha2 : ∀ j (hj : j < l.length), ccE l[j] = 0 := fun j hj => ha.out j hj (by have := hn.out; omega)
      have H2 := Lib.hid (h2.out ha2)
      have H3 := Lib.hid (h3.out ha2)
      clear ha ha2 h1 h2 h3
      go_wp2_with fail
      have hB0 := hB
      clear hB
      go_loopw [5] (fun ii wz => ∃ i : Nat, i ≤ k ∧ ii = .int .i64 i ∧ Hid (Below w.heap.size w wz) ∧ Hid (∀ p q (hp : p < l.length) (hq : q < p), p < i → (l[p].nm.toList == l[q].nm.toList) = false)) (fun ii _ => k - (intOf ii).toNat)
      case atStart => exact ⟨0, by omega, rfl, hB0, fun p q hp hq h => by omega⟩
      case round =>
        obtain ⟨i, hi, rfl, hB1, ha⟩ := hrel
        by_cases hlt : i < k
        · have hil : i < l.length := by rw [← hn.out]; exact hlt
          have l1 : (i : Int) < (k : Int) := by omega
          go_wp2_with fail
          go_loopw [6] (fun kk wz => ∃ j : Nat, j ≤ i ∧ kk = .int .i64 j ∧ Hid (Below w.heap.size w wz) ∧ Hid (∀ q (hq : q < i), q < j → (l[i].nm.toList == l[q].nm.toList) = false)) (fun kk _ => i - (intOf kk).toNat)
          case atStart => exact ⟨0, by omega, rfl, hB1, fun q hq h => by omega⟩
          case round =>
            obtain ⟨j, hj, rfl, hB, hb2⟩ := hrel
            by_cases hlt2 : j < i
            · obtain ⟨_, _, c0, _⟩ := (hc.out i hil).below hb hB.out
              obtain ⟨_, _, e0, _⟩ := (hc.out j (by omega)).below hb hB.out
              have l2 : (j : Int) < (i : Int) := by omega
              have l3 : (j : Int) < (k : Int) := by omega
              have HF : Hid ((l[i].nm.toList == l[j].nm.toList) = true → E = 6) := fun h => H2.out ⟨i, j, hil, hlt2, h⟩
              have HT : Hid ((l[i].nm.toList == l[j].nm.toList) = false → ∀ q (hq : q < i), q < j + 1 → (l[i].nm.toList == l[q].nm.toList) = false) := fun h q hq hq2 => by
                by_cases e : q = j
                · subst e; exact h
                · exact hb2.out q hq (by omega)
              clear hb2 hc ha H2 H3
              generalize l[i].nm = x at *
              generalize l[j].nm = y at *
              cases hq : (x.toList == y.toList) with
              | true =>
                obtain rfl := HF.out hq
                clear HF HT
                go_wp2_with fail
                go_quiet (fail)
                go_wp2
                go_returns
                exact ⟨rfl, bel_trans hB.out (bel_drewN _ _)⟩
              | false =>
                have hx := Lib.hid (HT.out hq)
                clear HF HT
                go_wp2_with fail
                go_quiet (fail)
                go_wp2
                go_roundw
                case rel => exact ⟨j + 1, by omega, by go_num, bel_trans hB.out (bel_drewN _ _), hx⟩
                case measure => simp [intOf]; omega
            · obtain rfl : j = i := by omega
              have hx : Hid (∀ p q (hp : p < l.length) (hq : q < p), p < j + 1 → (l[p].nm.toList == l[q].nm.toList) = false) := fun p q hp hq h => by
                by_cases e : p = j
                · subst e; exact hb2.out q hq hq
                · exact ha.out p q hp hq (by omega)
              clear hb2 ha hc H2 H3
              go_wp2
              go_roundw
              case rel => exact ⟨j + 1, by omega, by go_num, hB, hx⟩
              case measure => simp [intOf]; omega
        · obtain rfl : i = k := by omega
          obtain rfl := H3.out (fun ⟨p, q, hp, hq, h⟩ => by
            have := ha.out p q hp hq (by have := hn.out; omega)
            rw [this] at h; cases h)
          clear ha hc H2
          go_wp2
          go_returns
          exact ⟨rfl, hB1.out⟩
theorem refList_any (v : Value) (l : List Ck) (w : World) (hv : Cks w v l) :
    Calls Try.prog 44 #[v] w fun e w' => e = .returned (.int .i64 (liE l)) ∧ Below w.heap.size w w' := by
  by_cases h0 : 0 < l.length
  · obtain ⟨b, off, cap, rfl, hb, hl, hc⟩ := hv.cks h0
    by_cases h1 : 32 < l.length
    · have : liE l = 8 := by unfold liE; rw [if_pos h1]
      rw [this]
      exact refList_many _ _ cap w h1 (by omega)
    · refine refList_some b off _ cap l _ w (by omega) rfl hb hc (fun k hk a1 a2 => ?_) (fun a d => ?_) (fun a d => ?_)
      · have e := fE_at l k hk a1 a2
        show liE l = _
        unfold liE
        rw [if_neg h1, e, if_neg a2]
      · have e : fE l = 0 := (fE_zero l).2 fun c hc => by
          obtain ⟨j, hj, rfl⟩ := List.getElem_of_mem hc
          exact a j hj
        show liE l = _
        unfold liE
        rw [if_neg h1, if_pos e, if_pos d]
      · have e : fE l = 0 := (fE_zero l).2 fun c hc => by
          obtain ⟨j, hj, rfl⟩ := List.getElem_of_mem hc
          exact a j hj
        show liE l = _
        unfold liE
        rw [if_neg h1, if_pos e, if_neg d]
  · obtain ⟨a, cap, rfl, _⟩ := hv.shape
    obtain rfl : l = [] := List.length_eq_zero_iff.1 (by omega)
    have : liE [] = 0 := by
      unfold liE
      rw [if_neg (by simp), if_pos (by rfl), if_neg (fun ⟨i, _, hi, _⟩ => by simp at hi)]
    rw [this]
    exact refList_nil a cap w
end Go.Proofs.Ytpnlfeljmpfeoab

/- Names and their places: plain facts of the map that List and Find make. -/
namespace Go.Proofs.Ytpnlfeljmpfeoab
open Go.RowKit

theorem isNm_size {s : ByteArray} (h : isNm s = true) : 1 ≤ s.size ∧ s.size ≤ 64 := by
  unfold isNm at h
  simp only [Bool.and_eq_true, decide_eq_true_eq] at h
  exact ⟨h.1.2, h.2⟩
theorem ccE_nm {c : Ck} (h : ccE c = 0) : isNm c.nm = true := by
  unfold ccE at h
  split at h
  · rename_i g; exact g
  · omega
/-- the key of a name -/
def nk (s : ByteArray) : Lit := .string s.data.toList
theorem nk_key (s : ByteArray) : WideAt.IsKeyLit (nk s) := trivial
theorem nk_inj {s t : ByteArray} (h : nk s = nk t) : s = t := by
  unfold nk at h
  simp only [Lit.string.injEq] at h
  apply ByteArray.ext
  exact Array.ext' h
theorem nm_beq (s t : ByteArray) : (s.toList == t.toList) = decide (s = t) := by
  by_cases h : s = t
  · subst h; simp
  · rw [decide_eq_false h]
    rw [beq_eq_false_iff_ne]
    intro e
    rw [ByteArray.toList_eq, ByteArray.toList_eq] at e
    exact h (ByteArray.ext (Array.ext' e))
/-- the map of the first k names -/
def ix (l : List Ck) : Nat → DataW Unit
  | 0 => .map []
  | k + 1 => (ix l k).put (nk (l.getD k zCk).nm) (.lit (.int .i64 k))
theorem ix_tidy (l : List Ck) (k : Nat) : Maps.Tidy (ix l k) := by
  induction k with
  | zero => exact Maps.tidy_empty
  | succ k ih => exact ih.put (nk_key _) _
theorem ix_has (l : List Ck) (k : Nat) (s : ByteArray) : Maps.has (ix l k) (nk s) = true ↔ ∃ j, j < k ∧ (l.getD j zCk).nm = s := by
  induction k with
  | zero => exact ⟨fun h => (by cases h), fun ⟨j, hj, _⟩ => (by omega)⟩
  | succ k ih =>
    unfold ix
    by_cases e : (l.getD k zCk).nm = s
    · rw [e, Maps.has_put_same (ix_tidy l k).isMap (nk_key _)]
      exact ⟨fun _ => ⟨k, by omega, e⟩, fun _ => rfl⟩
    · rw [Maps.has_put_other (fun h => e (nk_inj h).symm), ih]
      constructor
      · rintro ⟨j, hj, h⟩; exact ⟨j, by omega, h⟩
      · rintro ⟨j, hj, h⟩
        rcases Nat.lt_succ_iff_lt_or_eq.1 hj with h1 | rfl
        · exact ⟨j, h1, h⟩
        · exact absurd h e
theorem ix_at (l : List Ck) (k : Nat) (s : ByteArray) (z : DataW Unit) (h : Maps.has (ix l k) (nk s) = true) : ∃ j, j < k ∧ (l.getD j zCk).nm = s ∧ (ix l k).atKey (nk s) z = .lit (.int .i64 j) := by
  induction k with
  | zero => cases h
  | succ k ih =>
    by_cases e : (l.getD k zCk).nm = s
    · refine ⟨k, by omega, e, ?_⟩
      unfold ix
      rw [e, Maps.atKey_put_same (ix_tidy l k).isMap (nk_key _)]
    · have h2 : Maps.has (ix l k) (nk s) = true := by
        unfold ix at h
        rwa [Maps.has_put_other (fun h => e (nk_inj h).symm)] at h
      obtain ⟨j, hj, e2, e3⟩ := ih h2
      refine ⟨j, by omega, e2, ?_⟩
      unfold ix
      rw [Maps.atKey_put_other (fun h => e (nk_inj h).symm)]
      exact e3
theorem ix_size (l : List Ck) (k : Nat) : Maps.size (ix l k) ≤ k ∧ ((∀ i, i < k → ∀ j, j < i → (l.getD i zCk).nm ≠ (l.getD j zCk).nm) → Maps.size (ix l k) = k) ∧ (∀ i j, i < k → j < i → (l.getD i zCk).nm = (l.getD j zCk).nm → Maps.size (ix l k) < k) := by
  induction k with
  | zero => exact ⟨Nat.le_refl _, fun _ => rfl, fun i j hi => (by omega)⟩
  | succ k ih =>
    obtain ⟨h1, h2, h3⟩ := ih
    have hs : Maps.size (ix l (k + 1)) = if Maps.has (ix l k) (nk (l.getD k zCk).nm) then Maps.size (ix l k) else Maps.size (ix l k) + 1 := by
      show Maps.size ((ix l k).put _ _) = _
      exact Maps.size_put (ix_tidy l k) _
    rw [hs]
    refine ⟨by split <;> omega, fun h => ?_, fun i j hi hj e => ?_⟩
    · rw [if_neg, h2 (fun i hi => h i (by omega))]
      intro hh
      obtain ⟨j, hj, e⟩ := (ix_has l k _).1 hh
      exact h k (by omega) j hj e.symm
    · rcases Nat.lt_succ_iff_lt_or_eq.1 hi with hlt | rfl
      · have := h3 i j hlt hj e
        split <;> omega
      · rw [if_pos ((ix_has l i _).2 ⟨j, hj, e.symm⟩)]
        omega
/-- two casks have one name just if the map has fewer entries -/
theorem dup_size (l : List Ck) : dupK l ↔ Maps.size (ix l l.length) < l.length := by
  have hd : ∀ j (h : j < l.length), l.getD j zCk = l[j] := fun j h => by simp [List.getD, List.getElem?_eq_getElem h]
  obtain ⟨h1, h2, h3⟩ := ix_size l l.length
  constructor
  · rintro ⟨i, k, hi, hk, e⟩
    rw [nm_beq, decide_eq_true_eq] at e
    exact h3 i k hi hk (by rw [hd i hi, hd k (by omega)]; exact e)
  · intro hlt
    refine Classical.byContradiction fun hn => ?_
    have := h2 fun i hi j hj e => hn ⟨i, j, hi, hj, by rw [nm_beq, decide_eq_true_eq, ← hd i hi, ← hd j (by omega)]; exact e⟩
    omega
end Go.Proofs.Ytpnlfeljmpfeoab

/- Package cask: the map of the names; List. -/
namespace Go.Proofs.Ytpnlfeljmpfeoab
open Go.RowKit Go.Maps Go.ChangeMaps Go.WideMaps

theorem mapLaw : Keyed Try.prog 9 := string_keyed Try.underlying9
theorem nk_of {s : ByteArray} (h : s.size ≤ 1000000) : keyOf Try.prog 9 (.string s) = some (nk s) := keyOf_string_mk Try.underlying9 (by unfold maxLen; omega)
/-- block B is the map of the first k names -/
def Ixs (w : World) (B k : Nat) (l : List Ck) : Prop := w.ownsMap Try.prog 9 (plainElem (H := Unit) Try.prog 3) B k (ix l k)
set_option maxRecDepth 100000 in
theorem idx_nil (a : Option Addr) (cap : Nat) (w : World) :
    Calls Try.prog 63 #[.slice a 0 cap] w fun e w' => e = .returned (.map (some w.heap.size)) ∧ Ixs w' w.heap.size 0 [] ∧ Below w.heap.size w w' := by
  have hmm := @run_makeMap Try.prog
  go_enter Try.func63, Try.ntmps63
  go_wp2
  refine wp_loop_rounds 1 ?_
  rw [rounds_succ]
  go_wp2
  go_ret
  exact ⟨rfl, World.ownsMap_made _ _ _ _, (Below.refl _ _).alloc (Nat.le_refl _) _⟩
set_option maxHeartbeats 4000000 in
set_option maxRecDepth 100000 in
theorem idx_some (b off n cap : Nat) (l : List Ck) (w : World) (n1 : n ≤ 1000000) (hn : Hid (n = l.length)) (hb : b < w.heap.size)
    (hc : Hid (∀ j (hj : j < l.length), CkAt w b off j l[j])) (hz : Hid (∀ c ∈ l, c.nm.size ≤ 1000000)) :
    Calls Try.prog 63 #[.slice (some ⟨b, off, none⟩) n cap] w fun e w' => e = .returned (.map (some w.heap.size)) ∧ Ixs w' w.heap.size n l ∧ Below w.heap.size w w' := by
  have hmm := @run_makeMap Try.prog
  go_enter Try.func63, Try.ntmps63
  go_wp2
  go_loopw [9] (fun ii wr => ∃ k : Nat, k ≤ n ∧ ii = .int .i64 k ∧ Hid (Ixs wr w.heap.size k l) ∧ Hid (Below w.heap.size w wr)) (fun ii _ => n - (intOf ii).toNat)
  case atStart => exact ⟨0, by omega, rfl, World.ownsMap_made _ _ _ _, (Below.refl _ _).alloc (Nat.le_refl _) _⟩
  case round =>
    obtain ⟨k, hk, rfl, hM, hB⟩ := hrel
    by_cases hlt : k < n
    · have hkl : k < l.length := by rw [← hn.out]; exact hlt
      have l1 : (k : Int) < (n : Int) := by omega
      obtain ⟨a, cp, c0, c1, c2, c3, _⟩ := (hc.out k hkl).below hb hB.out
      have hkey : keyOf Try.prog 9 (.string l[k].nm) = some (nk l[k].nm) := nk_of (hz.out _ (List.getElem_mem hkl))
      have hD : Hid ((ix l k).put (nk l[k].nm) (.lit (.int .i64 k)) = ix l (k + 1)) := Lib.hid (by
        show _ = (ix l k).put (nk (l.getD k zCk).nm) _
        rw [show l.getD k zCk = l[k] by simp [List.getD, List.getElem?_eq_getElem hkl]])
      have hkw : (Lit.int .i64 (k : Int)).wf = true := WalkArith.wf_i64 (by omega)
      generalize l[k].nm = s at *
      generalize l[k].ps = p at *
      generalize l[k].dc = d at *
      generalize l[k].pf.length = m at *
      have hown := hM.out.alloc (.cells #[.string s, .int .i64 p, .slice a m cp, .int .i64 d] 36)
      have hB2 := Lib.hid (hB.out.alloc hB.out.size (.cells #[.string s, .int .i64 p, .slice a m cp, .int .i64 d] 36))
      clear hc hz
      go_wp2_with (first
        | (at_mapUpdate; refine wpList_mapUpdate_own _ rfl _ _ _ 79 rfl 9 3 mapLaw Try.underlying79 _ w.heap.size k _ rfl hown (by unfold maxLen; omega) _ _ _ rfl rfl hkey _ [] (plainElem_int Try.underlying3 hkw) ?_; intro w1 hown1 hgrow1)
        | go_in)
      rw [hD.out] at hown1
      have hB3 := hB2.out.grown hgrow1 hB2.out.size (fun j hj => by cases hj; exact Nat.le_refl _)
      go_roundw
      case rel => exact ⟨k + 1, by omega, by go_num, hown1, hB3⟩
      case measure => simp [intOf]; omega
    · obtain rfl : k = n := by omega
      go_wp2
      go_ret
      exact ⟨rfl, hM.out, hB.out⟩
theorem list_many (a : Option Addr) (n cap : Nat) (w : World) (h : 32 < n) (h2 : n ≤ 9223372036854775807) :
    Calls Try.prog 42 #[.slice a n cap] w fun e w' => e = .returned (.int .i64 8) ∧ Below w.heap.size w w' := by
  go_enter Try.func42, Try.ntmps42
  go_wp2
  go_returns
  exact ⟨rfl, Below.refl _ _⟩
set_option maxHeartbeats 4000000 in
set_option maxRecDepth 100000 in
theorem list_nil (a : Option Addr) (cap : Nat) (w : World) :
    Calls Try.prog 42 #[.slice a 0 cap] w fun e w' => e = .returned (.int .i64 0) ∧ Below w.heap.size w w' := by
  have H := Lib.hid (fun W => idx_nil a cap W)
  go_enter Try.func42, Try.ntmps42
  go_wp2_with fail
  go_loopw [11] (fun ii wr => ii = .int .i64 0 ∧ wr = w) (fun _ _ => 0)
  case atStart => exact ⟨rfl, rfl⟩
  case round =>
    obtain ⟨rfl, rfl⟩ := hrel
    go_wp2_with fail
    refine (H.out _).mono ?_
    rintro e w1 ⟨rfl, hM, gg⟩
    go_wp2_with (first
      | (at_len; refine wpList_len_own _ rfl _ 79 rfl 9 3 Try.underlying79 (plainElem (H := Unit) Try.prog 3) wr.heap.size 0 (.map []) rfl hM ?_)
      | go_in)
    go_returns
    exact ⟨rfl, gg⟩
set_option maxHeartbeats 8000000 in
set_option maxRecDepth 100000 in
theorem list_some (b off n cap : Nat) (l : List Ck) (E : Int) (w : World) (n1 : n ≤ 32) (hn : Hid (n = l.length)) (hb : b < w.heap.size)
    (hc : Hid (∀ j (hj : j < l.length), CkAt w b off j l[j]))
    (h1 : Hid (∀ k (hk : k < l.length), (∀ j (hj : j < l.length), j < k → ccE l[j] = 0) → ccE l[k] ≠ 0 → E = ccE l[k]))
    (h2 : Hid ((∀ j (hj : j < l.length), ccE l[j] = 0) → dupK l → E = 6))
    (h3 : Hid ((∀ j (hj : j < l.length), ccE l[j] = 0) → ¬ dupK l → E = 0)) :
    Calls Try.prog 42 #[.slice (some ⟨b, off, none⟩) n cap] w fun e w' => e = .returned (.int .i64 E) ∧ Below w.heap.size w w' := by
  go_enter Try.func42, Try.ntmps42
  go_wp2_with fail
  go_loopw [11] (fun ii wr => ∃ k : Nat, k ≤ n ∧ ii = .int .i64 k ∧ Hid (Below w.heap.size w wr) ∧ Hid (∀ j (hj : j < l.length), j < k → ccE l[j] = 0)) (fun ii _ => n - (intOf ii).toNat)
  case atStart => exact ⟨0, by omega, rfl, Below.refl _ _, fun j hj h => by omega⟩
  case round =>
    obtain ⟨k, hk, rfl, hB, ha⟩ := hrel
    by_cases hlt : k < n
    · have hkl : k < l.length := by rw [← hn.out]; exact hlt
      obtain ⟨a, cp, c0, c1, c2, c3, hP, wd⟩ := (hc.out k hkl).below hb hB.out
      have HC := Lib.hid (fun W (hW : Below wr.heap.size wr W) => ckk_any _ l[k] W ⟨a, cp, rfl, hP.below hW, wd⟩)
      have HF : Hid (ccE l[k] ≠ 0 → E = ccE l[k]) := fun h => h1.out k hkl ha.out h
      have HT : Hid (ccE l[k] = 0 → ∀ j (hj : j < l.length), j < k + 1 → ccE l[j] = 0) := fun h j hj hjk => by
        by_cases e : j = k
        · subst e; exact h
        · exact ha.out j hj (by omega)
      have l1 : (k : Int) < (n : Int) := by omega
      clear hP wd ha h1 h2 h3 hc
      generalize l[k] = c at *
      by_cases hq : ccE c = 0
      · have hx := Lib.hid (HT.out hq)
        rw [hq] at HC
        clear HT HF hq
        go_wp2_with fail
        refine (HC.out _ (bel_alloc (Below.refl _ _))).mono ?_
        rintro e w1 ⟨rfl, gg⟩
        have X1 := Lib.hid (bel_trans hB.out (bel_alloc gg)); clear gg
        go_wp2
        go_roundw
        case rel => exact ⟨k + 1, by omega, by go_num, X1, hx⟩
        case measure => simp [intOf]; omega
      · have hE := HF.out hq
        have z1 : (ccE c == 0) = false := by simpa using hq
        have z2 : (ccE c != 0) = true := by simpa using hq
        clear HT HF hq
        generalize ccE c = E' at *
        subst hE
        go_wp2_with fail
        refine (HC.out _ (bel_alloc (Below.refl _ _))).mono ?_
        rintro e w1 ⟨rfl, gg⟩
        have X1 := Lib.hid (bel_trans hB.out (bel_alloc gg)); clear gg
        go_wp2
        go_returns
        exact ⟨rfl, X1.out⟩
    · obtain rfl : k = n := by omega
      have ha2 : ∀ j (hj : j < l.length), ccE l[j] = 0 := fun j hj => ha.out j hj (by have := hn.out; omega)
      have H2 := Lib.hid (h2.out ha2)
      have H3 := Lib.hid (h3.out ha2)
      have hnm : ∀ c ∈ l, c.nm.size ≤ 1000000 := fun c hcm => by
        obtain ⟨j, hj, rfl⟩ := List.getElem_of_mem hcm
        have := isNm_size (ccE_nm (ha2 j hj))
        omega
      have HI := Lib.hid (idx_some b off k cap l wr (by omega) hn (Nat.lt_of_lt_of_le hb hB.out.size) (Lib.hid fun j hj => (hc.out j hj).below hb hB.out) (Lib.hid hnm))
      have hD := dup_size l
      rw [← hn.out] at hD
      clear ha ha2 h1 h2 h3 hnm hc
      go_wp2_with fail
      refine HI.out.mono ?_
      rintro e w1 ⟨rfl, hM, gg⟩
      have hM2 := hM
      have hle := hM2.size_le
      by_cases hd : dupK l
      · obtain rfl := H2.out hd
        have hd2 := hD.1 hd
        clear H2 H3 hD
        go_wp2_with (first
          | (at_len; refine wpList_len_own _ rfl _ 79 rfl 9 3 Try.underlying79 (plainElem (H := Unit) Try.prog 3) wr.heap.size k (ix l k) rfl hM ?_)
          | go_in)
        go_returns
        exact ⟨rfl, bel_trans hB.out gg⟩
      · obtain rfl := H3.out hd
        have hd2 : ¬ Maps.size (ix l k) < k := fun h => hd (hD.2 h)
        clear H2 H3 hD
        go_wp2_with (first
          | (at_len; refine wpList_len_own _ rfl _ 79 rfl 9 3 Try.underlying79 (plainElem (H := Unit) Try.prog 3) wr.heap.size k (ix l k) rfl hM ?_)
          | go_in)
        go_returns
        exact ⟨rfl, bel_trans hB.out gg⟩
theorem cLi_any (v : Value) (l : List Ck) (w : World) (hv : Cks w v l) :
    Calls Try.prog 42 #[v] w fun e w' => e = .returned (.int .i64 (liE l)) ∧ Below w.heap.size w w' := by
  by_cases h0 : 0 < l.length
  · obtain ⟨b, off, cap, rfl, hb, hl, hc⟩ := hv.cks h0
    by_cases h1 : 32 < l.length
    · have : liE l = 8 := by unfold liE; rw [if_pos h1]
      rw [this]
      exact list_many _ _ cap w h1 (by omega)
    · refine list_some b off _ cap l _ w (by omega) rfl hb hc (fun k hk a1 a2 => ?_) (fun a d => ?_) (fun a d => ?_)
      · have e := fE_at l k hk a1 a2
        show liE l = _
        unfold liE
        rw [if_neg h1, e, if_neg a2]
      · have e : fE l = 0 := (fE_zero l).2 fun c hc => by
          obtain ⟨j, hj, rfl⟩ := List.getElem_of_mem hc
          exact a j hj
        show liE l = _
        unfold liE
        rw [if_neg h1, if_pos e, if_pos d]
      · have e : fE l = 0 := (fE_zero l).2 fun c hc => by
          obtain ⟨j, hj, rfl⟩ := List.getElem_of_mem hc
          exact a j hj
        show liE l = _
        unfold liE
        rw [if_neg h1, if_pos e, if_neg d]
  · obtain ⟨a, cap, rfl, _⟩ := hv.shape
    obtain rfl : l = [] := List.length_eq_zero_iff.1 (by omega)
    have : liE [] = 0 := by
      unfold liE
      rw [if_neg (by simp), if_pos (by rfl), if_neg (fun ⟨i, _, hi, _⟩ => by simp at hi)]
    rw [this]
    exact list_nil a cap w
end Go.Proofs.Ytpnlfeljmpfeoab

/- The reference of layer 10: Total. -/
namespace Go.Proofs.Ytpnlfeljmpfeoab
open Go.RowKit

/-- the sums of the bounds of the first k casks -/
def tsL (l : List Ck) : Nat → Int
  | 0 => 0
  | k + 1 => tsL l k + vlL (l.getD k ⟨ByteArray.empty, 0, [], 0⟩)
def tsH (l : List Ck) : Nat → Int
  | 0 => 0
  | k + 1 => tsH l k + vlH (l.getD k ⟨ByteArray.empty, 0, [], 0⟩)
theorem ts_bd (l : List Ck) (k : Nat) : 0 ≤ tsL l k ∧ tsL l k ≤ tsH l k ∧ tsH l k ≤ 3200000000 * k := by
  induction k with
  | zero => simp [tsL, tsH]
  | succ k ih =>
    have := vl_bd (l.getD k ⟨ByteArray.empty, 0, [], 0⟩)
    unfold tsL tsH
    omega
/-- what Total returns -/
noncomputable def toL (l : List Ck) : Int := if liE l = 0 then tsL l l.length else 0
noncomputable def toH (l : List Ck) : Int := if liE l = 0 then tsH l l.length else 0
theorem refTot_bad (v : Value) (E : Int) (w : World) (e1 : (E == 0) = false) (e2 : (E != 0) = true)
    (H1 : Hid (∀ W, Below w.heap.size w W → Calls Try.prog 44 #[v] W fun e w' => e = .returned (.int .i64 E) ∧ Below W.heap.size W w')) :
    Calls Try.prog 27 #[v] w fun e w' => e = .returned (.tuple #[.agg #[.int .i64 0, .int .i64 0], .int .i64 E]) ∧ Below w.heap.size w w' := by
  have T0 := Lib.hid (Two.new w (.int .i64 0) (.int .i64 0) 32)
  go_enter Try.func27, Try.ntmps27
  go_wp2_with fail
  refine (H1.out _ (bel_alloc (Below.refl _ _))).mono ?_
  rintro e w1 ⟨rfl, gg⟩
  replace T0 := Lib.hid (T0.out.below gg)
  have X1 := Lib.hid (bel_alloc gg); clear gg
  obtain ⟨z0, z1, f0, f1, hlt⟩ := T0.out
  go_wp2
  obtain ⟨t0, t1⟩ := two_read w1 w.heap.size (.int .i64 0) (.int .i64 0) z0 z1
  refine bodyPost_ret (v := .tuple #[.agg #[.int .i64 0, .int .i64 0], .int .i64 E]) (by simp [results, Try.results27, go_sem, t0, t1]) rfl ?_
  exact ⟨rfl, (X1.out.setCell (Nat.le_refl _) _).setCell (Nat.le_refl _) _⟩
set_option maxHeartbeats 16000000 in
set_option maxRecDepth 100000 in
theorem refTot_some (b off n cap : Nat) (l : List Ck) (w : World) (n1 : n ≤ 32) (hn : Hid (n = l.length)) (hb : b < w.heap.size) 
    (hc : Hid (∀ j (hj : j < l.length), CkAt w b off j l[j])) (hz : Hid (∀ c ∈ l, ccE c = 0))
    (H1 : Hid (∀ W, Below w.heap.size w W → Calls Try.prog 44 #[.slice (some ⟨b, off, none⟩) n cap] W fun e w' => e = .returned (.int .i64 0) ∧ Below W.heap.size W w')) :
    Calls Try.prog 27 #[.slice (some ⟨b, off, none⟩) n cap] w fun e w' => e = .returned (.tuple #[.agg #[.int .i64 (tsL l n), .int .i64 (tsH l n)], .int .i64 0]) ∧ Below w.heap.size w w' := by
  have T0 := Lib.hid (Two.new w (.int .i64 0) (.int .i64 0) 32)
  go_enter Try.func27, Try.ntmps27
  go_wp2_with fail
  refine (H1.out _ (bel_alloc (Below.refl _ _))).mono ?_
  rintro e w1 ⟨rfl, gg⟩
  replace T0 := Lib.hid ((T0.out.below gg).alloc (.cells #[.int .i64 0, .int .i64 0] 32))
  have U0 := Lib.hid (Two.new w1 (.int .i64 0) (.int .i64 0) 32)
  have X1 := Lib.hid ((bel_alloc gg).alloc (bel_alloc gg).size (.cells #[.int .i64 0, .int .i64 0] 32))
  have hs : Hid (w.heap.size < w1.heap.size) := Lib.hid (by have := gg.size; simp at this; omega)
  clear gg H1
  have hb1 : Hid (b < w1.heap.size) := Lib.hid (by have := hs.out; omega)
  go_wp2_with fail
  go_loopw [6] (fun ii wr => ∃ k : Nat, k ≤ n ∧ ii = .int .i64 k ∧ Hid (Two w.heap.size wr (.int .i64 0) (.int .i64 0)) ∧ Hid (Two w1.heap.size wr (.int .i64 (tsL l k)) (.int .i64 (tsH l k))) ∧ Hid (Below w.heap.size w wr)) (fun ii _ => n - (intOf ii).toNat)
  case atStart => exact ⟨0, by omega, rfl, T0, U0, X1⟩
  case round =>
    obtain ⟨k, hk, rfl, hT, hU, hB⟩ := hrel
    by_cases hlt : k < n
    · have hkl : k < l.length := by rw [← hn.out]; exact hlt
      have l1 : (k : Int) < (n : Int) := by omega
      obtain ⟨a, cp, c0, c1, c2, c3, hP, wd⟩ := (hc.out k hkl).below hb hB.out
      have HV := Lib.hid (refVol_any _ l[k] wr ⟨a, cp, rfl, hP, wd⟩)
      rw [hz.out _ (List.getElem_mem hkl)] at HV
      have bd := ts_bd l k
      have vb := vl_bd l[k]
      have eL : tsL l k + vlL l[k] = tsL l (k + 1) := by
        show _ = tsL l k + vlL (l.getD k _)
        rw [List.getD_eq_getElem?_getD, List.getElem?_eq_getElem hkl, Option.getD_some]
      have eH : tsH l k + vlH l[k] = tsH l (k + 1) := by
        show _ = tsH l k + vlH (l.getD k _)
        rw [List.getD_eq_getElem?_getD, List.getElem?_eq_getElem hkl, Option.getD_some]
      clear hP wd
      generalize l[k] = c at *
      generalize vlL c = L at *
      generalize vlH c = H at *
      generalize tsL l k = SL at *
      generalize tsH l k = SH at *
      have w1' : IntKind.i64.wrap (SL + L) = SL + L := wrap_in _ ⟨by omega, by omega⟩
      have w2' : IntKind.i64.wrap (SH + H) = SH + H := wrap_in _ ⟨by omega, by omega⟩
      clear bd vb
      go_wp2_with fail
      refine HV.out.mono ?_
      rintro e w2 ⟨rfl, gg⟩
      have hbs2 : w1.heap.size ≠ w2.heap.size := by have := hU.out.2.2.2.2; have := gg.size; omega
      replace hT := Lib.hid ((hT.out.below gg).alloc (.cells #[.int .i64 L, .int .i64 H] 32))
      replace hU := Lib.hid ((hU.out.below gg).alloc (.cells #[.int .i64 L, .int .i64 H] 32))
      have hV := Lib.hid (Two.new w2 (.int .i64 L) (.int .i64 H) 32)
      have hne : w.heap.size ≠ w1.heap.size := by have := hs.out; omega
      replace hB := Lib.hid ((bel_trans hB.out gg).alloc (bel_trans hB.out gg).size (.cells #[.int .i64 L, .int .i64 H] 32)); clear gg
      obtain ⟨x0, x1, x2, x3, _⟩ := hU.out
      obtain ⟨y0, y1, _, _, _⟩ := hV.out
      go_wp2_with fail
      generalize w2.alloc (.cells #[.int .i64 L, .int .i64 H] 32) = wq at *
      generalize w2.heap.size = bs at *
      have hle : w.heap.size ≤ w1.heap.size := by have := hs.out; omega
      have F1 := Lib.hid (((hT.out.below (bel_drew wq)).other ⟨w1.heap.size, 0, none⟩ (by simpa using Ne.symm hne) (.int .i64 (SL + L))).other ⟨w1.heap.size, 1, none⟩ (by simpa using Ne.symm hne) (.int .i64 (SH + H)))
      have F2 := Lib.hid (Two.both (.int .i64 (SL + L)) (.int .i64 (SH + H)) (hU.out.below (bel_drew wq)))
      have F3 : Hid (Below w.heap.size w ((wq.drew.setCell ⟨w1.heap.size, 0, none⟩ (.int .i64 (SL + L))).setCell ⟨w1.heap.size, 1, none⟩ (.int .i64 (SH + H)))) := Lib.hid (((bel_trans hB.out (bel_drew wq)).setCell (p := ⟨w1.heap.size, 0, none⟩) hle _).setCell (p := ⟨w1.heap.size, 1, none⟩) hle _)
      have F2' : Hid (Two w1.heap.size ((wq.drew.setCell ⟨w1.heap.size, 0, none⟩ (.int .i64 (SL + L))).setCell ⟨w1.heap.size, 1, none⟩ (.int .i64 (SH + H))) (.int .i64 (tsL l (k + 1))) (.int .i64 (tsH l (k + 1)))) := by have := F2.out; rw [eL, eH] at this; rw [eL, eH]; exact Lib.hid this
      have hbs3 : bs ≠ w1.heap.size := fun e => hbs2 e.symm
      clear hT hU hB hV hc hz eL eH hn hb1 T0 U0 X1 HV c0 c1 c2 c3 F2
      go_region
      all_goals go_wp2
      all_goals go_roundw
      all_goals first | exact ⟨k + 1, by omega, by go_num, F1, F2', F3⟩ | (simp [intOf]; omega)
    · obtain rfl : k = n := by omega
      obtain ⟨x0, x1, _, _, _⟩ := hU.out
      obtain ⟨z0, z1, f0, f1, hlt⟩ := hT.out
      go_wp2
      obtain ⟨t0, t1⟩ := two_read wr w.heap.size (.int .i64 (tsL l k)) (.int .i64 (tsH l k)) z0 z1
      refine bodyPost_ret (v := .tuple #[.agg #[.int .i64 (tsL l k), .int .i64 (tsH l k)], .int .i64 0]) (by simp [results, Try.results27, go_sem, t0, t1]) rfl ?_
      exact ⟨rfl, (hB.out.setCell (Nat.le_refl _) _).setCell (Nat.le_refl _) _⟩
theorem refTot_nil (a : Option Addr) (cap : Nat) (w : World)
    (H1 : Hid (∀ W, Below w.heap.size w W → Calls Try.prog 44 #[.slice a 0 cap] W fun e w' => e = .returned (.int .i64 0) ∧ Below W.heap.size W w')) :
    Calls Try.prog 27 #[.slice a 0 cap] w fun e w' => e = .returned (.tuple #[.agg #[.int .i64 0, .int .i64 0], .int .i64 0]) ∧ Below w.heap.size w w' := by
  have T0 := Lib.hid (Two.new w (.int .i64 0) (.int .i64 0) 32)
  go_enter Try.func27, Try.ntmps27
  go_wp2_with fail
  refine (H1.out _ (bel_alloc (Below.refl _ _))).mono ?_
  rintro e w1 ⟨rfl, gg⟩
  replace T0 := Lib.hid ((T0.out.below gg).alloc (.cells #[.int .i64 0, .int .i64 0] 32))
  have U0 := Lib.hid (Two.new w1 (.int .i64 0) (.int .i64 0) 32)
  have X1 := Lib.hid ((bel_alloc gg).alloc (bel_alloc gg).size (.cells #[.int .i64 0, .int .i64 0] 32))
  clear gg H1
  go_wp2_with fail
  go_loopw [6] (fun ii wr => ii = .int .i64 0 ∧ Hid (Two w.heap.size wr (.int .i64 0) (.int .i64 0)) ∧ Hid (Two w1.heap.size wr (.int .i64 0) (.int .i64 0)) ∧ Hid (Below w.heap.size w wr)) (fun _ _ => 0)
  case atStart => exact ⟨rfl, T0, U0, X1⟩
  case round =>
    obtain ⟨rfl, hT, hU, hB⟩ := hrel
    obtain ⟨x0, x1, _, _, _⟩ := hU.out
    obtain ⟨z0, z1, f0, f1, hlt⟩ := hT.out
    go_wp2
    obtain ⟨t0, t1⟩ := two_read wr w.heap.size (.int .i64 0) (.int .i64 0) z0 z1
    refine bodyPost_ret (v := .tuple #[.agg #[.int .i64 0, .int .i64 0], .int .i64 0]) (by simp [results, Try.results27, go_sem, t0, t1]) rfl ?_
    exact ⟨rfl, (hB.out.setCell (Nat.le_refl _) _).setCell (Nat.le_refl _) _⟩
theorem liE_small {l : List Ck} (h : liE l = 0) : l.length ≤ 32 ∧ ∀ c ∈ l, ccE c = 0 := by
  unfold liE at h
  split at h
  · omega
  · split at h
    · rename_i h1 h2
      exact ⟨by omega, (fE_zero l).1 h2⟩
    · rename_i h1 h2; exact absurd h h2
theorem refTot_any (v : Value) (l : List Ck) (w : World) (hv : Cks w v l) :
    Calls Try.prog 27 #[v] w fun e w' => e = .returned (.tuple #[.agg #[.int .i64 (toL l), .int .i64 (toH l)], .int .i64 (liE l)]) ∧ Below w.heap.size w w' := by
  have HL : Hid (∀ W, Below w.heap.size w W → _) := Lib.hid fun W hW => refList_any v l W (hv.below hW)
  unfold toL toH
  by_cases h : liE l = 0
  · obtain ⟨hl, hz⟩ := liE_small h
    rw [if_pos h, if_pos h, h]
    rw [h] at HL
    by_cases h0 : 0 < l.length
    · obtain ⟨b, off, cap, rfl, hb, _, hc⟩ := hv.cks h0
      exact refTot_some b off _ cap l w hl (Lib.hid rfl) hb (Lib.hid hc) (Lib.hid hz) HL
    · obtain ⟨a, cap, rfl, _⟩ := hv.shape
      obtain rfl : l = [] := List.length_eq_zero_iff.1 (by omega)
      exact refTot_nil a cap w HL
  · rw [if_neg h, if_neg h]
    exact refTot_bad v _ w (by simpa using h) (by simpa using h) HL
end Go.Proofs.Ytpnlfeljmpfeoab

/- Package capacity: Total. -/
namespace Go.Proofs.Ytpnlfeljmpfeoab
open Go.RowKit

theorem tot_bad (v : Value) (E : Int) (w : World) (e1 : (E == 0) = false) (e2 : (E != 0) = true)
    (H1 : Hid (∀ W, Below w.heap.size w W → Calls Try.prog 42 #[v] W fun e w' => e = .returned (.int .i64 E) ∧ Below W.heap.size W w')) :
    Calls Try.prog 26 #[v] w fun e w' => e = .returned (.tuple #[.agg #[.int .i64 0, .int .i64 0], .int .i64 E]) ∧ Below w.heap.size w w' := by
  have T0 := Lib.hid (Two.new w (.int .i64 0) (.int .i64 0) 32)
  go_enter Try.func26, Try.ntmps26
  go_wp2_with fail
  refine (H1.out _ (bel_alloc (Below.refl _ _))).mono ?_
  rintro e w1 ⟨rfl, gg⟩
  replace T0 := Lib.hid (T0.out.below gg)
  have X1 := Lib.hid (bel_alloc gg); clear gg
  obtain ⟨z0, z1, f0, f1, hlt⟩ := T0.out
  go_wp2
  obtain ⟨t0, t1⟩ := two_read w1 w.heap.size (.int .i64 0) (.int .i64 0) z0 z1
  refine bodyPost_ret (v := .tuple #[.agg #[.int .i64 0, .int .i64 0], .int .i64 E]) (by simp [results, Try.results26, go_sem, t0, t1]) rfl ?_
  exact ⟨rfl, (X1.out.setCell (Nat.le_refl _) _).setCell (Nat.le_refl _) _⟩
set_option maxHeartbeats 2000000 in
/-- the closure: bounds are added in place -/
theorem addT_any (b : Nat) (pL pH oL oH : Int) (w : World) (h : Two b w (.int .i64 pL) (.int .i64 pH)) (a0 : 0 ≤ pL) (a1 : pL ≤ 4000000000000) (b0 : 0 ≤ pH) (b1 : pH ≤ 4000000000000) (c0 : 0 ≤ oL) (c1 : oL ≤ 4000000000000) (d0 : 0 ≤ oH) (d1 : oH ≤ 4000000000000) :
    Calls Try.prog 43 #[.agg #[.int .i64 oL, .int .i64 oH], .pointer (some ⟨b, 0, none⟩)] w fun e w' => e = .returned (.tuple #[]) ∧ ∃ w2, Below w.heap.size w w2 ∧ w' = (w2.setCell ⟨b, 0, none⟩ (.int .i64 (pL + oL))).setCell ⟨b, 1, none⟩ (.int .i64 (pH + oH)) := by
  obtain ⟨z0, z1, f0, f1, hb⟩ := h
  have hne : b ≠ w.heap.size := by omega
  have hne2 : w.heap.size ≠ b := by omega
  have wl : IntKind.i64.wrap (pL + oL) = pL + oL := wrap_in _ ⟨by omega, by omega⟩
  have wh : IntKind.i64.wrap (pH + oH) = pH + oH := wrap_in _ ⟨by omega, by omega⟩
  have HW : Hid (((((w.setCell ⟨b, 0, none⟩ (.int .i64 (pL + oL))).setCell ⟨b, 1, none⟩ (.int .i64 (pH + oH))).alloc (.cells #[.int .i64 oL, .int .i64 oH] 32))) = (((w.alloc (.cells #[.int .i64 oL, .int .i64 oH] 32))).setCell ⟨b, 0, none⟩ (.int .i64 (pL + oL))).setCell ⟨b, 1, none⟩ (.int .i64 (pH + oH))) := by
    show _ = (((w.alloc _).setCell ⟨b, 0, none⟩ _).setCell ⟨b, 1, none⟩ _)
    rw [World.setCell_alloc_past _ _ _ _ hb, World.setCell_alloc_past _ _ _ _ (by simpa [World.setCell] using hb)]
  go_enter Try.func43, Try.ntmps43
  go_wp2
  go_end0
  exact ⟨rfl, _, bel_alloc (Below.refl _ _), HW.out⟩
set_option maxHeartbeats 16000000 in
set_option maxRecDepth 100000 in
theorem tot_some (b off n cap : Nat) (l : List Ck) (w : World) (n1 : n ≤ 32) (hn : Hid (n = l.length)) (hb : b < w.heap.size)
    (hc : Hid (∀ j (hj : j < l.length), CkAt w b off j l[j])) (hz : Hid (∀ c ∈ l, ccE c = 0))
    (H1 : Hid (∀ W, Below w.heap.size w W → Calls Try.prog 42 #[.slice (some ⟨b, off, none⟩) n cap] W fun e w' => e = .returned (.int .i64 0) ∧ Below W.heap.size W w')) :
    Calls Try.prog 26 #[.slice (some ⟨b, off, none⟩) n cap] w fun e w' => e = .returned (.tuple #[.agg #[.int .i64 (tsL l n), .int .i64 (tsH l n)], .int .i64 0]) ∧ Below w.heap.size w w' := by
  have T0 := Lib.hid (Two.new w (.int .i64 0) (.int .i64 0) 32)
  go_enter Try.func26, Try.ntmps26
  go_wp2_with fail
  refine (H1.out _ (bel_alloc (Below.refl _ _))).mono ?_
  rintro e w1 ⟨rfl, gg⟩
  replace T0 := Lib.hid ((T0.out.below gg).alloc (.cells #[.int .i64 0, .int .i64 0] 32))
  have U0 := Lib.hid (Two.new w1 (.int .i64 0) (.int .i64 0) 32)
  have X1 := Lib.hid ((bel_alloc gg).alloc (bel_alloc gg).size (.cells #[.int .i64 0, .int .i64 0] 32))
  have hs : Hid (w.heap.size < w1.heap.size) := Lib.hid (by have := gg.size; simp at this; omega)
  clear gg H1
  have hb1 : Hid (b < w1.heap.size) := Lib.hid (by have := hs.out; omega)
  go_wp2_with fail
  go_loopw [20] (fun ii wr => ∃ k : Nat, k ≤ n ∧ ii = .int .i64 k ∧ Hid (Two w.heap.size wr (.int .i64 0) (.int .i64 0)) ∧ Hid (Two w1.heap.size wr (.int .i64 (tsL l k)) (.int .i64 (tsH l k))) ∧ Hid (Below w.heap.size w wr)) (fun ii _ => n - (intOf ii).toNat)
  case atStart => exact ⟨0, by omega, rfl, T0, U0, X1⟩
  case round =>
    obtain ⟨k, hk, rfl, hT, hU, hB⟩ := hrel
    by_cases hlt : k < n
    · have hkl : k < l.length := by rw [← hn.out]; exact hlt
      have l1 : (k : Int) < (n : Int) := by omega
      obtain ⟨a, cp, c0, c1, c2, c3, hP, wd⟩ := (hc.out k hkl).below hb hB.out
      have HV := Lib.hid (fun W (hW : Below wr.heap.size wr W) => cVol_any _ l[k] W ⟨a, cp, rfl, hP.below hW, wd⟩)
      rw [hz.out _ (List.getElem_mem hkl)] at HV
      have bd := ts_bd l k
      have vb := vl_bd l[k]
      have eL : tsL l k + vlL l[k] = tsL l (k + 1) := by
        show _ = tsL l k + vlL (l.getD k _)
        rw [List.getD_eq_getElem?_getD, List.getElem?_eq_getElem hkl, Option.getD_some]
      have eH : tsH l k + vlH l[k] = tsH l (k + 1) := by
        show _ = tsH l k + vlH (l.getD k _)
        rw [List.getD_eq_getElem?_getD, List.getElem?_eq_getElem hkl, Option.getD_some]
      clear hP wd
      generalize l[k] = c at *
      generalize vlL c = L at *
      generalize vlH c = H at *
      have HA := Lib.hid (fun W (hW : Two w1.heap.size W (.int .i64 (tsL l k)) (.int .i64 (tsH l k))) => addT_any w1.heap.size (tsL l k) (tsH l k) L H W hW (by omega) (by omega) (by omega) (by omega) (by omega) (by omega) (by omega) (by omega))
      rw [eL, eH] at HA
      clear bd vb
      go_wp2_with fail
      refine (HV.out _ (bel_alloc (Below.refl _ _))).mono ?_
      rintro e w2 ⟨rfl, gg⟩
      replace gg := bel_alloc gg
      replace hT := Lib.hid ((hT.out.below gg).alloc (.cells #[.int .i64 L, .int .i64 H] 32))
      replace hU := Lib.hid ((hU.out.below gg).alloc (.cells #[.int .i64 L, .int .i64 H] 32))
      have hV := Lib.hid (Two.new w2 (.int .i64 L) (.int .i64 H) 32)
      have hne : w.heap.size ≠ w1.heap.size := by have := hs.out; omega
      have hle : w.heap.size ≤ w1.heap.size := by have := hs.out; omega
      replace hB := Lib.hid ((bel_trans hB.out gg).alloc (bel_trans hB.out gg).size (.cells #[.int .i64 L, .int .i64 H] 32)); clear gg
      obtain ⟨y0, y1, _, _, _⟩ := hV.out
      clear c0 c1 c2 c3
      go_wp2_with fail
      refine (HA.out _ hU.out).mono ?_
      rintro e w3 ⟨rfl, W, gW, rfl⟩
      have F1 := Lib.hid (((hT.out.below gW).other ⟨w1.heap.size, 0, none⟩ (by simpa using Ne.symm hne) (.int .i64 (tsL l (k + 1)))).other ⟨w1.heap.size, 1, none⟩ (by simpa using Ne.symm hne) (.int .i64 (tsH l (k + 1))))
      have F2 := Lib.hid (Two.both (.int .i64 (tsL l (k + 1))) (.int .i64 (tsH l (k + 1))) (hU.out.below gW))
      have F3 : Hid (Below w.heap.size w ((W.setCell ⟨w1.heap.size, 0, none⟩ (.int .i64 (tsL l (k + 1)))).setCell ⟨w1.heap.size, 1, none⟩ (.int .i64 (tsH l (k + 1))))) := Lib.hid (((bel_trans hB.out gW).setCell (p := ⟨w1.heap.size, 0, none⟩) hle _).setCell (p := ⟨w1.heap.size, 1, none⟩) hle _)
      clear hT hU hB hV hc hz eL eH hn hb1 T0 U0 X1 HV HA gW
      go_wp2
      go_roundw
      case rel => exact ⟨k + 1, by omega, by go_num, F1, F2, F3⟩
      case measure => simp [intOf]; omega
    · obtain rfl : k = n := by omega
      obtain ⟨x0, x1, _, _, _⟩ := hU.out
      obtain ⟨z0, z1, f0, f1, hlt⟩ := hT.out
      go_wp2
      obtain ⟨t0, t1⟩ := two_read wr w.heap.size (.int .i64 (tsL l k)) (.int .i64 (tsH l k)) z0 z1
      refine bodyPost_ret (v := .tuple #[.agg #[.int .i64 (tsL l k), .int .i64 (tsH l k)], .int .i64 0]) (by simp [results, Try.results26, go_sem, t0, t1]) rfl ?_
      exact ⟨rfl, (hB.out.setCell (Nat.le_refl _) _).setCell (Nat.le_refl _) _⟩
theorem tot_nil (a : Option Addr) (cap : Nat) (w : World)
    (H1 : Hid (∀ W, Below w.heap.size w W → Calls Try.prog 42 #[.slice a 0 cap] W fun e w' => e = .returned (.int .i64 0) ∧ Below W.heap.size W w')) :
    Calls Try.prog 26 #[.slice a 0 cap] w fun e w' => e = .returned (.tuple #[.agg #[.int .i64 0, .int .i64 0], .int .i64 0]) ∧ Below w.heap.size w w' := by
  have T0 := Lib.hid (Two.new w (.int .i64 0) (.int .i64 0) 32)
  go_enter Try.func26, Try.ntmps26
  go_wp2_with fail
  refine (H1.out _ (bel_alloc (Below.refl _ _))).mono ?_
  rintro e w1 ⟨rfl, gg⟩
  replace T0 := Lib.hid ((T0.out.below gg).alloc (.cells #[.int .i64 0, .int .i64 0] 32))
  have U0 := Lib.hid (Two.new w1 (.int .i64 0) (.int .i64 0) 32)
  have X1 := Lib.hid ((bel_alloc gg).alloc (bel_alloc gg).size (.cells #[.int .i64 0, .int .i64 0] 32))
  clear gg H1
  go_wp2_with fail
  go_loopw [20] (fun ii wr => ii = .int .i64 0 ∧ Hid (Two w.heap.size wr (.int .i64 0) (.int .i64 0)) ∧ Hid (Two w1.heap.size wr (.int .i64 0) (.int .i64 0)) ∧ Hid (Below w.heap.size w wr)) (fun _ _ => 0)
  case atStart => exact ⟨rfl, T0, U0, X1⟩
  case round =>
    obtain ⟨rfl, hT, hU, hB⟩ := hrel
    obtain ⟨x0, x1, _, _, _⟩ := hU.out
    obtain ⟨z0, z1, f0, f1, hlt⟩ := hT.out
    go_wp2
    obtain ⟨t0, t1⟩ := two_read wr w.heap.size (.int .i64 0) (.int .i64 0) z0 z1
    refine bodyPost_ret (v := .tuple #[.agg #[.int .i64 0, .int .i64 0], .int .i64 0]) (by simp [results, Try.results26, go_sem, t0, t1]) rfl ?_
    exact ⟨rfl, (hB.out.setCell (Nat.le_refl _) _).setCell (Nat.le_refl _) _⟩
theorem cTot_any (v : Value) (l : List Ck) (w : World) (hv : Cks w v l) :
    Calls Try.prog 26 #[v] w fun e w' => e = .returned (.tuple #[.agg #[.int .i64 (toL l), .int .i64 (toH l)], .int .i64 (liE l)]) ∧ Below w.heap.size w w' := by
  have HL : Hid (∀ W, Below w.heap.size w W → _) := Lib.hid fun W hW => cLi_any v l W (hv.below hW)
  unfold toL toH
  by_cases h : liE l = 0
  · obtain ⟨hl, hz⟩ := liE_small h
    rw [if_pos h, if_pos h, h]
    rw [h] at HL
    by_cases h0 : 0 < l.length
    · obtain ⟨b, off, cap, rfl, hb, _, hc⟩ := hv.cks h0
      exact tot_some b off _ cap l w hl (Lib.hid rfl) hb (Lib.hid hc) (Lib.hid hz) HL
    · obtain ⟨a, cap, rfl, _⟩ := hv.shape
      obtain rfl : l = [] := List.length_eq_zero_iff.1 (by omega)
      exact tot_nil a cap w HL
  · rw [if_neg h, if_neg h]
    exact tot_bad v _ w (by simpa using h) (by simpa using h) HL
end Go.Proofs.Ytpnlfeljmpfeoab

/- Slices that read as lists of points: copies. -/
namespace Go.Proofs.Ytpnlfeljmpfeoab
open Go.RowKit Go.Sort

set_option maxRecDepth 100000 in
set_option maxHeartbeats 2000000 in
theorem clone_some (ad : Addr) (n c : Nat) (news : List Value) (w : World) (hl : news.length = n * 2) (hn : n ≤ 1000)
    (hc : Hid (∀ j u, news[j]? = some u → (w.alloc (.cells #[] 30)).cell? (ad.add j) = some u)) (h1 : Hid (∀ u ∈ news, u.oneCell' = true)) :
    Calls Try.prog 13 #[.slice (some ad) n c] w fun e w' => ∃ v', e = .returned v' ∧ w'.ownsRow w.heap.size 30 2 v' n news ∧ v' ≠ .slice none 0 0 ∧ Below w.heap.size w w' := by
  obtain ⟨i0, hi0, hz0, hz1, hz2⟩ := info_parts pt_info
  have q22 : ∀ (w : World) (a : Option Addr) (n c n' c' : Nat), (binOp .eql 22 (.slice a n c) (.slice none n' c')).run Try.prog w = .ok (.bool a.isNone) w := fun w a n c n' c' => Lib.run_eql_slice_nil w _ _ a n c n' c' Try.underlying22
  go_enter Try.func13, Try.ntmps13
  go_wp2_with (at_builtin; refine wpList_append_own _ rfl _ _ 22 rfl w.heap.size 30 i0 (.agg #[.int .i64 0, .int .i64 0]) 2 16 Try.underlying22 hi0 hz0 hz1 hz2 rfl (by omega) _ _ _ rfl (World.ownsRow_made w #[] 0 (Nat.le_refl _) (Nat.zero_le _) (by simp)) ad n c news rfl ?qc1 ?qc2 ?qc3 ?qc4 ?qc5 ?qc6 ?_)
  case qc1 => exact hl
  case qc2 => exact hc.out
  case qc3 => exact h1.out
  case qc4 => rw [Nat.zero_add]; unfold maxLen; omega
  case qc5 => rw [Nat.zero_add]; omega
  case qc6 => simp
  intro v' w1 hown hgrow hnil
  have HO := Lib.hid hown
  have HG := Lib.hid hgrow
  have HN := Lib.hid hnil
  clear hown hgrow hnil hl
  go_wp2
  go_ret
  refine ⟨v', rfl, by simpa using HO.out, ?_, ?_⟩
  · exact HN.out
  · exact ((Below.refl _ w).alloc (Nat.le_refl _) _).grown HG.out (by simp) (by intro k hk; simp [Value.ownBlock] at hk; omega)
set_option maxRecDepth 100000 in
theorem clone_none (n c : Nat) (w : World) :
    Calls Try.prog 13 #[.slice none n c] w fun e w' => e = .returned (.slice none 0 0) ∧ w' = w := by
  have q22 : ∀ (w : World) (a : Option Addr) (n c n' c' : Nat), (binOp .eql 22 (.slice a n c) (.slice none n' c')).run Try.prog w = .ok (.bool a.isNone) w := fun w a n c n' c' => Lib.run_eql_slice_nil w _ _ a n c n' c' Try.underlying22
  go_enter Try.func13, Try.ntmps13
  go_wp2
  go_ret
  exact ⟨rfl, rfl⟩
/-- a copy reads as what it is copied from -/
theorem clone_p (v : Value) (l : List (Int × Int)) (w : World) (h : Pts w v l) (hn : l.length ≤ 1000) :
    Calls Try.prog 13 #[v] w fun e w' => ∃ u, e = .returned u ∧ Pts w' u l ∧ Below w.heap.size w w' := by
  obtain ⟨a, c, rfl, hl, h⟩ := h
  cases a with
  | none =>
    rcases h with h | ⟨b, off, hx, _⟩
    · obtain rfl := List.length_eq_zero_iff.1 h
      refine (clone_none _ c w).mono fun _ w' g => ⟨_, g.1, ?_, by rw [g.2]; exact Below.refl _ _⟩
      exact pts_nil w'
    · cases hx
  | some ad =>
    refine (clone_some ad l.length c (flat l) w (flat_len l) hn ?_ (flat_one l)).mono fun _ w' ⟨u, g1, g2, _, g4⟩ => ⟨u, g1, OwnP.pts (show OwnP w' w.heap.size u l from g2), g4⟩
    intro j u hj
    rcases h with h | ⟨b, off, hx, hb, hc⟩
    · obtain rfl := List.length_eq_zero_iff.1 h
      simp [flat] at hj
    · obtain rfl := Option.some.inj hx
      obtain ⟨i, hi, ⟨rfl, rfl⟩ | ⟨rfl, rfl⟩⟩ := flat_inv l j u hj
      · rw [Go.WideShapes.add_plain, World.cell?_alloc_lt w _ _ hb]
        exact (hc i hi).1
      · rw [Go.WideShapes.add_plain, World.cell?_alloc_lt w _ _ hb, ← Nat.add_assoc]
        exact (hc i hi).2
end Go.Proofs.Ytpnlfeljmpfeoab

/- Package profile: the piece that reaches to x. -/
namespace Go.Proofs.Ytpnlfeljmpfeoab
open Go.RowKit Go.Shelf
attribute [local go_sem] Oper.semAt_some

/-- a block with four cells that can be written -/
def FourF (b : Nat) (W : World) (x p y q : Value) : Prop := Four b W x p y q ∧ W.frozen? ⟨b, 0, none⟩ = false ∧ W.frozen? ⟨b, 1, none⟩ = false ∧ W.frozen? ⟨b, 2, none⟩ = false ∧ W.frozen? ⟨b, 3, none⟩ = false
theorem FourF.new (W : World) (x p y q : Value) (T : TypeId) : FourF W.heap.size (W.alloc (.cells #[x, p, y, q] T)) x p y q := ⟨Four.new W x p y q T, by simp [go_sem], by simp [go_sem], by simp [go_sem], by simp [go_sem]⟩
theorem fourF_kept {b : Nat} {A B : World} {x p y q : Value} {row : Option Nat} (h : FourF b A x p y q) (hg : A.grownBy B row) (hr : ∀ r, row = some r → ∃ o : Obj, A.heap[r]? = some o ∧ o.isCells = false) : FourF b B x p y q := by
  obtain ⟨h0, h1, h2, h3, h4⟩ := h
  have k := h0
  obtain ⟨k0, k1, k2, k3⟩ := k
  exact ⟨four_kept h0 hg hr, (frozen_kept k0 hg hr).trans h1, (frozen_kept k1 hg hr).trans h2, (frozen_kept k2 hg hr).trans h3, (frozen_kept k3 hg hr).trans h4⟩
theorem FourF.alloc {b : Nat} {W : World} {x p y q : Value} (h : FourF b W x p y q) (o : Obj) : FourF b (W.alloc o) x p y q := fourF_kept h (World.grownBy_alloc W o none) (fun r e => by cases e)
theorem Four.below {b : Nat} {W W' : World} {x p y q : Value} (h : Four b W x p y q) (hb : Below W.heap.size W W') : Four b W' x p y q := by
  obtain ⟨h0, h1, h2, h3⟩ := h
  have hl := World.block_lt_of_cell? W _ h0
  exact ⟨((bcell hb).1 _ _ hl).trans h0, ((bcell hb).1 _ _ hl).trans h1, ((bcell hb).1 _ _ hl).trans h2, ((bcell hb).1 _ _ hl).trans h3⟩
theorem Four.alloc {b : Nat} {W : World} {x p y q : Value} (h : Four b W x p y q) (o : Obj) : Four b (W.alloc o) x p y q := h.below (bel_alloc (Below.refl _ _))
theorem FourF.below {b : Nat} {W W' : World} {x p y q : Value} (h : FourF b W x p y q) (hb : Below W.heap.size W W') : FourF b W' x p y q := by
  obtain ⟨h0, h1, h2, h3, h4⟩ := h
  have hl := World.block_lt_of_cell? W _ h0.1
  exact ⟨h0.below hb, ((bcell hb).2 _ _ hl).trans h1, ((bcell hb).2 _ _ hl).trans h2, ((bcell hb).2 _ _ hl).trans h3, ((bcell hb).2 _ _ hl).trans h4⟩
/-- four stores -/
def set4 (W : World) (b : Nat) (x p y q : Value) : World := (((W.setCell ⟨b, 0, none⟩ x).setCell ⟨b, 1, none⟩ p).setCell ⟨b, 2, none⟩ y).setCell ⟨b, 3, none⟩ q
theorem four_set {b : Nat} {W : World} {x p y q : Value} (h : Four b W x p y q) (u v w z : Value) : Four b (set4 W b u v w z) u v w z := by
  obtain ⟨h0, h1, h2, h3⟩ := h
  refine ⟨?_, ?_, ?_, ?_⟩
  · unfold set4
    rw [World.cell?_setCell_other _ _ _ _ (by simp), World.cell?_setCell_other _ _ _ _ (by simp), World.cell?_setCell_other _ _ _ _ (by simp), World.cell?_setCell_same _ _ _ h0]
  · unfold set4
    rw [World.cell?_setCell_other _ _ _ _ (by simp), World.cell?_setCell_other _ _ _ _ (by simp), World.cell?_setCell_same (u := p)]
    rw [World.cell?_setCell_other _ _ _ _ (by simp)]; exact h1
  · unfold set4
    rw [World.cell?_setCell_other _ _ _ _ (by simp), World.cell?_setCell_same (u := y)]
    rw [World.cell?_setCell_other _ _ _ _ (by simp), World.cell?_setCell_other _ _ _ _ (by simp)]; exact h2
  · unfold set4
    rw [World.cell?_setCell_same (u := q)]
    rw [World.cell?_setCell_other _ _ _ _ (by simp), World.cell?_setCell_other _ _ _ _ (by simp), World.cell?_setCell_other _ _ _ _ (by simp)]; exact h3
theorem keeps_set4 (W : World) (b : Nat) (x p y q : Value) : KeepsOthers W (set4 W b x p y q) :=
  (((KeepsOthers.setCell W ⟨b, 0, none⟩ x).trans (KeepsOthers.setCell _ ⟨b, 1, none⟩ p)).trans (KeepsOthers.setCell _ ⟨b, 2, none⟩ y)).trans (KeepsOthers.setCell _ ⟨b, 3, none⟩ q)
theorem bel_set4 {n₀ : Nat} {w W : World} (h : Below n₀ w W) (b : Nat) (hb : n₀ ≤ b) (x p y q : Value) : Below n₀ w (set4 W b x p y q) :=
  (((h.setCell (p := ⟨b, 0, none⟩) hb x).setCell (p := ⟨b, 1, none⟩) hb p).setCell (p := ⟨b, 2, none⟩) hb y).setCell (p := ⟨b, 3, none⟩) hb q
theorem four_apart {b g i : Nat} {W : World} {x p y q : Value} (h : Four b W x p y q) (u : Value) (hn : b ≠ g) : Four b (W.setCell ⟨g, i, none⟩ u) x p y q := by
  obtain ⟨h0, h1, h2, h3⟩ := h
  exact ⟨cell_apart _ h0 hn, cell_apart _ h1 hn, cell_apart _ h2 hn, cell_apart _ h3 hn⟩
theorem box_apart {b g i : Nat} {W : World} {t : TypeId} {v : Value} (h : Boxed W b t v) (hn : b ≠ g) (u : Value) : Boxed (W.setCell ⟨g, i, none⟩ u) b t v := by
  show (W.heap.modify g _)[b]? = _
  rw [Array.getElem?_modify, if_neg (fun e => hn e.symm)]
  exact h
theorem box_set4 {b g : Nat} {W : World} {t : TypeId} {v : Value} (h : Boxed W b t v) (hn : b ≠ g) (x p y q : Value) : Boxed (set4 W g x p y q) b t v :=
  box_apart (box_apart (box_apart (box_apart h hn x) hn p) hn y) hn q
theorem froz_set4 {b i g : Nat} {W : World} (h : W.frozen? ⟨b, i, none⟩ = false) (x p y q : Value) : (set4 W g x p y q).frozen? ⟨b, i, none⟩ = false := by
  unfold set4; simp only [World.frozen?_setCell]; exact h

set_option maxRecDepth 100000 in
set_option maxHeartbeats 8000000 in
theorem find_some (b off n cap : Nat) (l : List (Int × Int)) (x : Int) (i : Nat) (w : World) (n0 : 2 ≤ n) (n1 : n ≤ 1000) (hn : n = l.length) (hb : b < w.heap.size)
    (hc : Hid (∀ j, j < n → w.cell? ⟨b, off + j * 2, none⟩ = some (.int .i64 (gX l j)) ∧ w.cell? ⟨b, off + j * 2 + 1, none⟩ = some (.int .i64 (gR l j))))
    (hi : Hid (IsPc l x i)) :
    Calls Try.prog 48 #[.slice (some ⟨b, off, none⟩) n cap, .int .i64 x] w fun e w' => e = .returned (.tuple #[.agg #[.int .i64 (gX l (i - 1)), .int .i64 (gR l (i - 1)), .int .i64 (gX l i), .int .i64 (gR l i)], .int .i64 i]) ∧ Below w.heap.size w w' := by
  have HN := Lib.hid hn
  clear hn
  refine (callsIn_wide (n := 10)).1 ?_
  refine callsIn_of_wp_marks Try.func48 rfl trivial ?_ rfl
  simp only [Try.ntmps48, List.size_toArray, List.length_cons, List.length_nil, Nat.reduceAdd, Nat.reduceSub, Array.replicate_succ, Array.replicate_zero, List.push_toArray, List.append_toArray, List.nil_append, List.cons_append]
  gi_wp2_with fail
  refine ⟨trivial, (callsIn_wide.2 (pieces_any _ _ _ _)).mono ?_⟩
  rintro e w3 ⟨rfl, rfl⟩
  gi_wp2_with fail
  have BA : Hid (Boxed (w.alloc (.cells #[.int .i64 x] 3)) w.heap.size 3 (.int .i64 x)) := Boxed.new w 3 (.int .i64 x)
  have BP : Hid (FourF (w.heap.size + 1) ((w.alloc (.cells #[.int .i64 x] 3)).alloc (.cells #[.int .i64 0, .int .i64 0, .int .i64 0, .int .i64 0] 65)) (.int .i64 0) (.int .i64 0) (.int .i64 0) (.int .i64 0)) := by
    have := FourF.new (w.alloc (.cells #[.int .i64 x] 3)) (.int .i64 0) (.int .i64 0) (.int .i64 0) (.int .i64 0) 65
    rwa [World.size_alloc] at this
  have BI : Hid (Boxed (((w.alloc (.cells #[.int .i64 x] 3)).alloc (.cells #[.int .i64 0, .int .i64 0, .int .i64 0, .int .i64 0] 65)).alloc (.cells #[.int .i64 0] 3)) (w.heap.size + 1 + 1) 3 (.int .i64 0)) := by
    have := Boxed.new ((w.alloc (.cells #[.int .i64 x] 3)).alloc (.cells #[.int .i64 0, .int .i64 0, .int .i64 0, .int .i64 0] 65)) 3 (.int .i64 0)
    rwa [World.size_alloc, World.size_alloc] at this
  have BX : Hid (Boxed ((((w.alloc (.cells #[.int .i64 x] 3)).alloc (.cells #[.int .i64 0, .int .i64 0, .int .i64 0, .int .i64 0] 65)).alloc (.cells #[.int .i64 0] 3)).alloc (.cells #[.slice (some ⟨b, off, none⟩) n cap] 22)) (w.heap.size + 1 + 1 + 1) 22 (.slice (some ⟨b, off, none⟩) n cap)) := by
    have := Boxed.new (((w.alloc (.cells #[.int .i64 x] 3)).alloc (.cells #[.int .i64 0, .int .i64 0, .int .i64 0, .int .i64 0] 65)).alloc (.cells #[.int .i64 0] 3)) 22 (.slice (some ⟨b, off, none⟩) n cap)
    rwa [World.size_alloc, World.size_alloc, World.size_alloc] at this
  replace BA := Lib.hid (((BA.out.alloc (.cells #[.int .i64 0, .int .i64 0, .int .i64 0, .int .i64 0] 65)).alloc (.cells #[.int .i64 0] 3)).alloc (.cells #[.slice (some ⟨b, off, none⟩) n cap] 22))
  replace BP := Lib.hid ((BP.out.alloc (.cells #[.int .i64 0] 3)).alloc (.cells #[.slice (some ⟨b, off, none⟩) n cap] 22))
  replace BI := Lib.hid (BI.out.alloc (.cells #[.slice (some ⟨b, off, none⟩) n cap] 22))
  have X1 : Hid (Below w.heap.size w ((((w.alloc (.cells #[.int .i64 x] 3)).alloc (.cells #[.int .i64 0, .int .i64 0, .int .i64 0, .int .i64 0] 65)).alloc (.cells #[.int .i64 0] 3)).alloc (.cells #[.slice (some ⟨b, off, none⟩) n cap] 22))) := bel_alloc (bel_alloc (bel_alloc (bel_alloc (Below.refl _ _))))
  obtain ⟨W0, hW0⟩ : ∃ W0, ((((w.alloc (.cells #[.int .i64 x] 3)).alloc (.cells #[.int .i64 0, .int .i64 0, .int .i64 0, .int .i64 0] 65)).alloc (.cells #[.int .i64 0] 3)).alloc (.cells #[.slice (some ⟨b, off, none⟩) n cap] 22)) = W0 := ⟨_, rfl⟩
  have hsz : W0.heap.size = w.heap.size + 1 + 1 + 1 + 1 := by rw [← hW0]; simp
  rw [hW0] at BA BP BI BX X1 ⊢
  clear hW0
  have hl1 : ∀ j, j < n → W0.cell? ⟨b, off + j * 2, none⟩ = some (.int .i64 (gX l j)) ∧ W0.cell? ⟨b, off + j * 2 + 1, none⟩ = some (.int .i64 (gR l j)) := fun j hj => by rw [(bcell X1.out).1 _ _ hb, (bcell X1.out).1 _ _ hb]; exact hc.out j hj
  refine wpIn_rangeFunc_ownH rfl (by omega) (gf := 73) (lb := #[.pointer (some ⟨w.heap.size + 1 + 1 + 1, 0, none⟩)]) rfl trivial (enters_of Try.func73 (by kernel_rfl) rfl)
    (pieces_stops 9 (w.heap.size + 1 + 1 + 1) w.heap.size b off n cap l (by omega) (by omega) hb W0 X1.out.size BX.out.cell hl1) kpB_t (kpB_b X1.out.size) (Below.refl _ _) (fun _ => rfl)
    (fun pre W => (∀ j ∈ pre, gX l (j.val + 1) < x) ∧ Boxed W w.heap.size 3 (.int .i64 x) ∧ FourF (w.heap.size + 1) W (.int .i64 0) (.int .i64 0) (.int .i64 0) (.int .i64 0) ∧ Boxed W (w.heap.size + 1 + 1) 3 (.int .i64 0) ∧ Boxed W (w.heap.size + 1 + 1 + 1) 22 (.slice (some ⟨b, off, none⟩) n cap) ∧ Below w.heap.size w W)
    (fun c pre W => c = .ret ∧ (∃ pre' j, pre = pre' ++ [j] ∧ (∀ i ∈ pre', gX l (i.val + 1) < x) ∧ x ≤ gX l (j.val + 1) ∧ Four (w.heap.size + 1) W (.int .i64 (gX l j.val)) (.int .i64 (gR l j.val)) (.int .i64 (gX l (j.val + 1))) (.int .i64 (gR l (j.val + 1))) ∧ W.cell? ⟨w.heap.size + 1 + 1, 0, none⟩ = some (.int .i64 ((j.val : Int) + 1))) ∧ Below w.heap.size w W)
    (fun s A B row ⟨i1, i2, i3, i4, i5, i6⟩ hg hr => ⟨i1, box_kept i2 hg (fun r e => (hr r e).2), fourF_kept i3 hg (fun r e => (hr r e).2), box_kept i4 hg (fun r e => (hr r e).2), box_kept i5 hg (fun r e => (hr r e).2), ownFrom_below (β := Unit) (Nat.le_refl _) X1.out.size () A B row i6 hg hr⟩)
    (fun c s A B row ⟨i1, ⟨pre', j, h1, h2, h3, h4, h5⟩, i6⟩ hg hr => ⟨i1, ⟨pre', j, h1, h2, h3, four_kept h4 hg (fun r e => (hr r e).2), cell_kept h5 hg (fun r e => (hr r e).2)⟩, ownFrom_below (β := Unit) (Nat.le_refl _) X1.out.size () A B row i6 hg hr⟩)
    ⟨(fun j hj => by cases hj), BA.out, BP.out, BI.out, BX.out, X1.out⟩
    (fun y a' W => ∃ Bx : Nat, w.heap.size + 1 + 1 + 1 < Bx ∧ Four Bx W (.int .i64 (gX l y.val)) (.int .i64 (gR l y.val)) (.int .i64 (gX l (y.val + 1))) (.int .i64 (gR l (y.val + 1))) ∧ a' = { tmps := #[.slice (some ⟨b, off, none⟩) n cap, .int .i64 x, undef, .pointer (some ⟨w.heap.size, 0, none⟩), .pointer (some ⟨w.heap.size + 1, 0, none⟩), .pointer (some ⟨w.heap.size + 1 + 1, 0, none⟩), .int .i64 ((y.val : Int) + 1), .pointer (some ⟨Bx, 0, none⟩), .slice (some ⟨b, off, none⟩) n cap, .func (.func 73) #[] #[.pointer (some ⟨w.heap.size + 1 + 1 + 1, 0, none⟩)], .int .i64 ((y.val : Int) + 1), .agg #[.int .i64 (gX l y.val), .int .i64 (gR l y.val), .int .i64 (gX l (y.val + 1)), .int .i64 (gR l (y.val + 1))], undef, undef, undef, undef, undef, undef, undef, undef], defers := [] })
    (fun y a' _ A B row ⟨Bx, h1, h2, h3⟩ hg hr => ⟨Bx, h1, four_kept h2 hg (fun r e => (hr r e).2), h3⟩) ?assign ?body ?done ?stop
  case assign =>
    rintro lp pre y W K ⟨i1, i2, i3, i4, i5, i6⟩ hK
    dsimp only [encP]
    generalize gX l y.val = u at *
    generalize gR l y.val = p at *
    generalize gX l (y.val + 1) = v at *
    generalize gR l (y.val + 1) = q at *
    gi_wp2
    exact hK _ _ ((KeepsOthers.alloc _ _).from _) ⟨(Below.refl _ W).alloc i6.size _, fun v e => (cell_al _ e)⟩ ⟨i1, i2.alloc _, i3.alloc _, i4.alloc _, i5.alloc _, bA i6 _⟩ ⟨W.heap.size, i5.lt, Four.new _ _ _ _ _ _, rfl⟩
  case body =>
    rintro lp pre y aa W hlp ⟨rr, hrr⟩ ⟨i1, i2, i3, i4, i5, i6⟩ ⟨Bx, hBx, iX, rfl⟩ hlen
    have hyl := y.isLt
    have hcx := i2.cell
    have hci := i4.cell
    have hfi := i4.frozen
    have FF := Lib.hid iX
    by_cases hq : x ≤ gX l (y.val + 1)
    · have hq2 : Hid (x ≤ gX l (y.val + 1)) := hq
      have e1 : Hid (∀ (W' : World), Four (w.heap.size + 1) W' (.int .i64 (gX l y.val)) (.int .i64 (gR l y.val)) (.int .i64 (gX l (y.val + 1))) (.int .i64 (gR l (y.val + 1))) → W'.cell? ⟨w.heap.size + 1 + 1, 0, none⟩ = some (.int .i64 ((y.val : Int) + 1)) → ∃ pre' j, pre ++ [y] = pre' ++ [j] ∧ (∀ i ∈ pre', gX l (i.val + 1) < x) ∧ x ≤ gX l (j.val + 1) ∧ Four (w.heap.size + 1) W' (.int .i64 (gX l j.val)) (.int .i64 (gR l j.val)) (.int .i64 (gX l (j.val + 1))) (.int .i64 (gR l (j.val + 1))) ∧ W'.cell? ⟨w.heap.size + 1 + 1, 0, none⟩ = some (.int .i64 ((j.val : Int) + 1))) := fun W' h4 h5 => ⟨pre, y, rfl, i1, hq2.out, h4, h5⟩
      clear hq2
      generalize gX l y.val = u at *
      generalize gR l y.val = p at *
      generalize gX l (y.val + 1) = v at *
      generalize gR l (y.val + 1) = q at *
      obtain ⟨f0, f1, f2, f3⟩ := iX
      obtain ⟨⟨z0, z1, z2, z3⟩, zf0, zf1, zf2, zf3⟩ := i3
      gi_wp2
      refine ⟨((keeps_set4 W (w.heap.size + 1) (.int .i64 u) (.int .i64 p) (.int .i64 v) (.int .i64 q)).trans (KeepsOthers.setCell _ ⟨w.heap.size + 1 + 1, 0, none⟩ (.int .i64 ((y.val : Int) + 1)))).from _, rfl, e1.out _ ?_ ?_, (bel_set4 i6 (w.heap.size + 1) (by omega) _ _ _ _).setCell (p := ⟨w.heap.size + 1 + 1, 0, none⟩) (by show w.heap.size ≤ w.heap.size + 1 + 1; omega) _⟩
      · exact four_apart (four_set ⟨z0, z1, z2, z3⟩ _ _ _ _) _ (by omega)
      · exact World.cell?_setCell_same _ _ _ (box_set4 (g := w.heap.size + 1) i4 (by omega) (.int .i64 u) (.int .i64 p) (.int .i64 v) (.int .i64 q)).cell
    · have e1 : ∀ j ∈ pre ++ [y], gX l (j.val + 1) < x := fun j hj => by
        rcases List.mem_append.1 hj with h | h
        · exact i1 j h
        · rw [List.mem_singleton.1 h]; omega
      generalize gX l y.val = u at *
      generalize gR l y.val = p at *
      generalize gX l (y.val + 1) = v at *
      generalize gR l (y.val + 1) = q at *
      obtain ⟨f0, f1, f2, f3⟩ := iX
      gi_wp2
      exact ⟨(KeepsOthers.refl _).from _, kpB_refl _ _ _, e1, i2, i3, i4, i5, i6⟩
  case done =>
    rintro D ys W hD rfl ⟨i1, _⟩ hK
    exfalso
    have hp := hi.out
    have h2 := hp.h2
    have h1 := hp.h1
    rw [← HN.out] at h2
    have := i1 ⟨i - 1, by omega⟩ (by
      have hv := ups_val (m := n - 1) (Nat.le_refl _)
      have : i - 1 ∈ (ups (n - 1) (n - 1)).map (fun j => j.val) := by rw [hv]; exact List.mem_range.2 (by omega)
      obtain ⟨y, hy, he⟩ := List.mem_map.1 this
      have : y = ⟨i - 1, by omega⟩ := Fin.ext he
      rwa [this] at hy)
    simp only [show i - 1 + 1 = i by omega] at this
    have := hp.h3
    omega
  case stop =>
    rintro D cc pre W hD ⟨k, hk, hpre⟩ ⟨rfl, ⟨pre', j, hpj, h2, h3, h4, h5⟩, i6⟩ hK
    have hji : j.val + 1 = i := by
      have hv := ups_val hk
      rw [← hpre, hpj, List.map_append] at hv
      have hlen := congrArg List.length hv
      simp only [List.length_append, List.length_map, List.length_cons, List.length_nil, List.length_range] at hlen
      obtain ⟨k', rfl⟩ : ∃ k', k = k' + 1 := ⟨k - 1, by omega⟩
      rw [List.range_succ] at hv
      have hinj := List.append_inj hv (by simp; omega)
      have hj : j.val = k' := by have := hinj.2; simpa using this
      have hm : pre'.map (fun j => j.val) = List.range k' := hinj.1
      refine (IsPc.one (x := x) (l := l) ⟨by omega, ?_, h3, fun m m1 m2 => ?_⟩ hi.out)
      · have := j.isLt; have := HN.out; omega
      · have : m - 1 ∈ pre'.map (fun j => j.val) := by rw [hm]; exact List.mem_range.2 (by omega)
        obtain ⟨y, hy, he⟩ := List.mem_map.1 this
        have h := h2 y hy
        have he' : y.val = m - 1 := he
        rwa [show y.val + 1 = m by omega] at h
    have ei : ((j.val : Int) + 1) = (i : Int) := by omega
    obtain ⟨k0, k1, k2, k3⟩ := h4
    gi_wp2
    refine ⟨by simp, .inl ⟨_, _, rfl, run_takeDeferred hK, ?_⟩⟩
    have c0 := cell_kept k0 (grownBy_putObj' _ D (.deferred none)) (fun r e => by cases e; exact ⟨_, hK, rfl⟩)
    have c1 := cell_kept k1 (grownBy_putObj' _ D (.deferred none)) (fun r e => by cases e; exact ⟨_, hK, rfl⟩)
    have c2 := cell_kept k2 (grownBy_putObj' _ D (.deferred none)) (fun r e => by cases e; exact ⟨_, hK, rfl⟩)
    have c3 := cell_kept k3 (grownBy_putObj' _ D (.deferred none)) (fun r e => by cases e; exact ⟨_, hK, rfl⟩)
    have c4 := cell_kept h5 (grownBy_putObj' _ D (.deferred none)) (fun r e => by cases e; exact ⟨_, hK, rfl⟩)
    refine ⟨.tuple #[.agg #[.int .i64 (gX l j.val), .int .i64 (gR l j.val), .int .i64 (gX l (j.val + 1)), .int .i64 (gR l (j.val + 1))], .int .i64 ((j.val : Int) + 1)], ?_, by subst hji; simp, i6.trans (belowK_b (w := w) (Nat.le_refl _) _ D _ _ (by omega) hK rfl rfl)⟩
    simp [results, Try.results48, go_sem, c0, c1, c2, c3, c4]
end Go.Proofs.Ytpnlfeljmpfeoab

/- Package proportion: Up. -/
namespace Go.Proofs.Ytpnlfeljmpfeoab
open Go.RowKit


theorem up_walk (a b c q r x : Int) (w : World) (q0 : 0 ≤ q) (q1 : q ≤ 128849018880000) (hof : Hid (∀ W, Calls Try.prog 41 #[.int .i64 a, .int .i64 b, .int .i64 c] W fun e w' => e = .returned (.tuple #[.int .i64 q, .int .i64 r, .int .i64 x]) ∧ Below W.heap.size W w')) :
    Calls Try.prog 66 #[.int .i64 a, .int .i64 b, .int .i64 c] w fun e w' => e = .returned (.tuple #[.int .i64 (upQ q r x), .int .i64 (upE q r x)]) ∧ Below w.heap.size w w' := by
  go_enter Try.func66, Try.ntmps66
  go_wp2_with fail
  refine (hof.out _).mono ?_
  rintro e w1 ⟨rfl, hb1⟩
  go_wp2
  all_goals
    go_returns
    refine ⟨ret_two ?_ ?_, hb1⟩
  all_goals (simp only [upQ, upE]; grind)

theorem up_any (a b c : Int) (w : World) :
    Calls Try.prog 66 #[.int .i64 a, .int .i64 b, .int .i64 c] w fun e w' => e = .returned (.tuple #[.int .i64 (upQ (ofQ a b c) (ofR a b c) (ofE a b c)), .int .i64 (upE (ofQ a b c) (ofR a b c) (ofE a b c))]) ∧ Below w.heap.size w w' :=
  up_walk a b c _ _ _ w (ofQ_bd a b c).1 (ofQ_bd a b c).2 (fun W => of_any a b c W)

end Go.Proofs.Ytpnlfeljmpfeoab
