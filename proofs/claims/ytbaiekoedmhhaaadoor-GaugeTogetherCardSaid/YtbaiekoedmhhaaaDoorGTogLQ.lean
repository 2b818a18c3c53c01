/-
  The statement GaugeTogether of spile/spilelaw15 holds: for every input the call returns true, and each argument reads afterwards as it read before. (The listed package variables hold what the program lays: the card ties them.)
-/
import Derived.Test.YtbaiekoedmhhaaaDoorM2
import Derived.Test.YtbaiekoedmhhaaaDoorM3
import Derived.Test.YtbaiekoedmhhaaaDoorCards
import Derived.Test.YtbaiekoedmhhaaaDoorTie
import Derived.Below
import Derived.Carry
import Derived.Lib.LaidTab
import Derived.Deep.DeepHandedRow
import Derived.SevenTiedPlain
import Derived.Lay
set_option linter.unusedVariables false
set_option linter.unusedSimpArgs false
namespace Go.Proofs.YtbaiekoedmhhaaaDoor.gaugeTogether
open Go.ChangeShapes Go.WideShapes Go.ChangeAt Go.RowKit
open Go.ChangeMaps (open_string shut_string)
set_option linter.unusedVariables false

set_option maxHeartbeats 4000000 in
theorem long (a : Option Addr) (n cap : Nat) (w : World) (hw : Hid (WordsIs w)) (h : 65 < n) :
    Calls Tryd.prog 5 #[.slice a n cap] w fun e w' => e = .returned (.bool true) ∧ Below w.heap.size w w' := by
  have HA : Hid (∀ W, Below w.heap.size w W → _) := Lib.hid fun W hW => gawake_any W (hw.out.below hW)
  have dn : decide (65 < (n : Int)) = true := decide_eq_true (by omega)
  go_enter Tryd.func5, Tryd.ntmps5
  go_wp2_with fail
  refine (HA.out _ (Below.refl _ _)).mono ?_
  rintro e w1 ⟨rfl, h1⟩
  have HB := Lib.hid h1; clear h1
  go_wp2
  go_returns
  exact ⟨rfl, HB.out⟩
set_option maxHeartbeats 64000000 in
set_option maxRecDepth 100000 in
theorem good (b off n cap : Nat) (l : List Rp) (R0 R1 R2 R3 : Int) (w : World) (hw : Hid (WordsIs w)) (h : ¬ 65 < n) (hl : Hid (l.length = n)) (NV : Hid (Rps w (.slice (some ⟨b, off, none⟩) n cap) l))
    (HBd : Hid (∀ j, j < n → (gP l j).vl ≤ R0 ∧ R1 ≤ (gP l j).vh ∧ (gP l j).al ≤ R2 ∧ R3 ≤ (gP l j).ah)) (hi1 : Hid (hitB Rp.vl l R0 n = true)) (hi2 : Hid (hitB Rp.vh l R1 n = true)) (hle : R0 ≤ R1)
    (HC : Hid (∀ W, Rps W (.slice (some ⟨b, off, none⟩) n cap) l → Calls Tryd.prog 8 #[.slice (some ⟨b, off, none⟩) n cap] W fun e w' => ∃ u, e = .returned u ∧ OwnR w' W.heap.size u l ∧ Below W.heap.size W w'))
    (HT : Hid (∀ v W, Rps W v l → Calls Tryd.prog 7 #[v] W fun e w' => e = .returned (.tuple #[.agg #[.int .i64 R0, .int .i64 R1], .agg #[.int .i64 R2, .int .i64 R3], .int .i64 0]) ∧ Below W.heap.size W w'))
    (HT2 : Hid (∀ v W, Rps W v l.reverse → Calls Tryd.prog 7 #[v] W fun e w' => e = .returned (.tuple #[.agg #[.int .i64 R0, .int .i64 R1], .agg #[.int .i64 R2, .int .i64 R3], .int .i64 0]) ∧ Below W.heap.size W w')) :
    Calls Tryd.prog 5 #[.slice (some ⟨b, off, none⟩) n cap] w fun e w' => e = .returned (.bool true) ∧ Below w.heap.size w w' := by
  have HA : Hid (∀ W, Below w.heap.size w W → _) := Lib.hid fun W hW => gawake_any W (hw.out.below hW)
  have HR := Lib.hid (fun u B w0 W h1 h2 => reverseR_any u l B w0 W h1 h2 (by rw [hl.out]; omega))
  have dn : decide (65 < (n : Int)) = false := decide_eq_false (by omega)
  have Q2 : ∀ (p q : Int) W, (binOp .neq 25 (.agg #[.int .i64 p, .int .i64 q]) (.agg #[.int .i64 p, .int .i64 q])).run Tryd.prog W = .ok (.bool false) W := fun p q W => by rw [run_neq_bounds, show samB p q p q = true by simp [samB]]; rfl
  go_enter Tryd.func5, Tryd.ntmps5
  go_wp2_with fail
  refine (HA.out _ (Below.refl _ _)).mono ?_
  rintro e w1 ⟨rfl, h1⟩
  replace NV := Lib.hid (NV.out.below h1)
  have HB := Lib.hid h1; clear h1 HA hw
  go_wp2_with fail
  refine (HC.out _ NV.out).mono ?_
  rintro e w2 ⟨v2, rfl, ho, h1⟩
  have N2 := Lib.hid ho.rps; clear ho
  replace NV := Lib.hid (NV.out.below h1)
  replace HB := Lib.hid (bel_trans HB.out h1); clear h1
  go_wp2_with fail
  refine (HT.out _ _ N2.out).mono ?_
  rintro e w3 ⟨rfl, h1⟩
  replace NV := Lib.hid (NV.out.below h1)
  replace HB := Lib.hid (bel_trans HB.out h1); clear h1 N2
  go_wp2_with fail
  have TV := Lib.hid ((Two.new w3 (.int .i64 R0) (.int .i64 R1) 25).alloc (.cells #[.int .i64 R2, .int .i64 R3] 25))
  have TA0 := Two.new (w3.alloc (.cells #[.int .i64 R0, .int .i64 R1] 25)) (.int .i64 R2) (.int .i64 R3) 25
  rw [World.size_alloc] at TA0
  have TA := Lib.hid TA0; clear TA0
  have X1 : Below w3.heap.size w3 ((w3.alloc (.cells #[.int .i64 R0, .int .i64 R1] 25)).alloc (.cells #[.int .i64 R2, .int .i64 R3] 25)) := bel_alloc (bel_alloc (Below.refl _ _))
  replace NV := Lib.hid (NV.out.below X1)
  replace HB := Lib.hid (bel_trans HB.out X1); clear X1
  generalize hv1 : w3.heap.size = p1 at *
  replace hv1 := Lib.hid hv1
  generalize hW0 : (w3.alloc (.cells #[.int .i64 R0, .int .i64 R1] 25)).alloc (.cells #[.int .i64 R2, .int .i64 R3] 25) = W0 at *
  clear hW0 hv1
  refine (HC.out _ NV.out).mono ?_
  rintro e w4 ⟨v4, rfl, ho, h1⟩
  have HO := Lib.hid ho; clear ho
  have H4 := Lib.hid h1; clear h1
  go_wp2_with fail
  refine (HR.out _ _ _ _ HO.out H4.out).mono ?_
  rintro e w5 ⟨rfl, hr, h1⟩
  have N5 := Lib.hid hr; clear hr
  replace NV := Lib.hid (NV.out.below h1)
  replace TV := Lib.hid (TV.out.below h1)
  replace TA := Lib.hid (TA.out.below h1)
  replace HB := Lib.hid (bel_trans HB.out h1); clear h1 HO H4
  go_wp2_with fail
  refine (HT2.out _ _ N5.out).mono ?_
  rintro e w6 ⟨rfl, h1⟩
  replace NV := Lib.hid (NV.out.below h1)
  replace TV := Lib.hid (TV.out.below h1)
  replace TA := Lib.hid (TA.out.below h1)
  replace HB := Lib.hid (bel_trans HB.out h1); clear h1 N5 HT HT2 HC HR
  have TW := Lib.hid ((Two.new w6 (.int .i64 R0) (.int .i64 R1) 25).alloc (.cells #[.int .i64 R2, .int .i64 R3] 25))
  have TB0 := Two.new (w6.alloc (.cells #[.int .i64 R0, .int .i64 R1] 25)) (.int .i64 R2) (.int .i64 R3) 25
  rw [World.size_alloc] at TB0
  have TB := Lib.hid TB0; clear TB0
  have X1 : Below w6.heap.size w6 ((w6.alloc (.cells #[.int .i64 R0, .int .i64 R1] 25)).alloc (.cells #[.int .i64 R2, .int .i64 R3] 25)) := bel_alloc (bel_alloc (Below.refl _ _))
  replace NV := Lib.hid (NV.out.below X1)
  replace TV := Lib.hid (TV.out.below X1)
  replace TA := Lib.hid (TA.out.below X1)
  replace HB := Lib.hid (bel_trans HB.out X1); clear X1
  obtain ⟨a0, a1, _, _, _⟩ := TV.out
  obtain ⟨b0, b1, _, _, _⟩ := TA.out
  obtain ⟨c0, c1, _, _, _⟩ := TW.out
  obtain ⟨d0, d1, _, _, _⟩ := TB.out
  go_wp2_with fail
  clear TW TB a0 a1 b0 b1 c0 c1 d0 d1
  generalize hWt : (w6.alloc (.cells #[.int .i64 R0, .int .i64 R1] 25)).alloc (.cells #[.int .i64 R2, .int .i64 R3] 25) = Wt at *
  clear hWt
  have CR : Hid (∀ W, Below Wt.heap.size Wt W → ∀ j, j < n → RpC W b (off + j * 8) (gP l j)) := Lib.hid fun W hW j hj => by
    obtain ⟨a', cap', ea, _, hh⟩ := NV.out.below hW
    simp only [Value.slice.injEq] at ea
    obtain ⟨ea1, ea2, _⟩ := ea
    rcases hh with hh | ⟨b', o', e', _, hc⟩
    · omega
    · rw [e', Option.some.injEq, Addr.mk.injEq] at ea1
      obtain ⟨rfl, rfl, _⟩ := ea1
      exact hc j (by omega)
  have BR := Lib.hid (Below.refl Wt.heap.size Wt)
  go_loopw [10, 11, 61] (fun lo hi ii wr => ∃ k : Nat, k ≤ n ∧ ii = .int .i64 (k : Int) ∧ lo = .bool (hitB Rp.vl l R0 k) ∧ hi = .bool (hitB Rp.vh l R1 k) ∧ Hid (Below Wt.heap.size Wt wr)) (fun _ _ ii _ => n - (intOf ii).toNat)
  case atStart => exact ⟨0, Nat.zero_le _, rfl, rfl, rfl, BR⟩
  case round =>
    clear BR
    obtain ⟨k, hk, rfl, rfl, rfl, hB⟩ := hrel
    by_cases hlt : k < n
    · have l0 : (k : Int) < (n : Int) := by omega
      obtain ⟨e0, e1, e2, e3, e4, e5, e6, e7⟩ := CR.out wr hB.out k hlt
      have bd := HBd.out k hlt
      have hv := Lib.hid (show hitB Rp.vl l R0 (k + 1) = (hitB Rp.vl l R0 k || (R0 == (gP l k).vl)) from rfl)
      have hw2 := Lib.hid (show hitB Rp.vh l R1 (k + 1) = (hitB Rp.vh l R1 k || (R1 == (gP l k).vh)) from rfl)
      generalize gP l k = r at *
      obtain ⟨d, p, h', s, vl, vh, al, ah⟩ := r
      dsimp only at e0 e1 e2 e3 e4 e5 e6 e7 bd hv hw2
      obtain ⟨bd0, bd1, bd2, bd3⟩ := bd
      have k0 : decide (R0 < vl) = false := decide_eq_false (by omega)
      have k1 : decide (vh < R1) = false := decide_eq_false (by omega)
      have k2 : decide (R2 < al) = false := decide_eq_false (by omega)
      have k3 : decide (ah < R3) = false := decide_eq_false (by omega)
      have T8 := Lib.hid (Eig.new wr (.int .i64 d) (.int .i64 p) (.int .i64 h') (.int .i64 s) (.int .i64 vl) (.int .i64 vh) (.int .i64 al) (.int .i64 ah) 33)
      have XA : Below wr.heap.size wr (wr.alloc (.cells #[.int .i64 d, .int .i64 p, .int .i64 h', .int .i64 s, .int .i64 vl, .int .i64 vh, .int .i64 al, .int .i64 ah] 33)) := bel_alloc (Below.refl _ _)
      have TVW := Lib.hid ((TV.out.below hB.out).below XA)
      have TAW := Lib.hid ((TA.out.below hB.out).below XA)
      have BX := Lib.hid (fun q => bel_trans (bel_trans hB.out XA) (bel_drewN _ q))
      have BX0 := Lib.hid (bel_trans hB.out XA)
      clear XA
      obtain ⟨a0, a1, _, _, _⟩ := TVW.out
      obtain ⟨b0, b1, _, _, _⟩ := TAW.out
      obtain ⟨f0, f1, f2, f3, f4, f5, f6, f7, _, _⟩ := T8.out
      cases hx : hitB Rp.vl l R0 k with
      | true =>
        have hv2 : Hid (hitB Rp.vl l R0 (k + 1) = true) := Lib.hid (by rw [hv.out, hx]; rfl)
        cases hy : hitB Rp.vh l R1 k with
        | true =>
          have hw3 : Hid (hitB Rp.vh l R1 (k + 1) = true) := Lib.hid (by rw [hw2.out, hy]; rfl)
          clear hv hw2 hx hy
          go_wp2_with fail
          go_quiet (fail)
          go_wp2
          go_roundw
          case rel => exact ⟨k + 1, by omega, by go_num, by rw [hv2.out], by rw [hw3.out], by first | exact BX.out _ | exact BX0⟩
          case measure => simp [intOf]; omega
        | false =>
          have hw3 : Hid (hitB Rp.vh l R1 (k + 1) = (R1 == vh)) := Lib.hid (by rw [hw2.out, hy]; rfl)
          clear hv hw2 hx hy
          go_wp2_with fail
          go_quiet (fail)
          go_wp2
          go_roundw
          case rel => exact ⟨k + 1, by omega, by go_num, by rw [hv2.out], by rw [hw3.out], by first | exact BX.out _ | exact BX0⟩
          case measure => simp [intOf]; omega
      | false =>
        have hv2 : Hid (hitB Rp.vl l R0 (k + 1) = (R0 == vl)) := Lib.hid (by rw [hv.out, hx]; rfl)
        cases hy : hitB Rp.vh l R1 k with
        | true =>
          have hw3 : Hid (hitB Rp.vh l R1 (k + 1) = true) := Lib.hid (by rw [hw2.out, hy]; rfl)
          clear hv hw2 hx hy
          go_wp2_with fail
          go_quiet (fail)
          go_wp2
          go_roundw
          case rel => exact ⟨k + 1, by omega, by go_num, by rw [hv2.out], by rw [hw3.out], by first | exact BX.out _ | exact BX0⟩
          case measure => simp [intOf]; omega
        | false =>
          have hw3 : Hid (hitB Rp.vh l R1 (k + 1) = (R1 == vh)) := Lib.hid (by rw [hw2.out, hy]; rfl)
          clear hv hw2 hx hy
          go_wp2_with fail
          go_quiet (fail)
          go_wp2
          go_roundw
          case rel => exact ⟨k + 1, by omega, by go_num, by rw [hv2.out], by rw [hw3.out], by first | exact BX.out _ | exact BX0⟩
          case measure => simp [intOf]; omega
    · obtain rfl : n = k := by omega
      have TVW := Lib.hid (TV.out.below hB.out)
      obtain ⟨a0, a1, _, _, _⟩ := TVW.out
      have kl : decide (R0 ≤ R1) = true := decide_eq_true hle
      have HBF := Lib.hid (bel_trans HB.out hB.out)
      rw [hi1.out, hi2.out]
      go_wp2
      go_returns
      exact ⟨rfl, HBF.out⟩
set_option maxHeartbeats 64000000 in
set_option maxRecDepth 100000 in
theorem bad (ad : Option Addr) (n cap : Nat) (l : List Rp) (E : Int) (hE : E ≠ 0) (w : World) (hw : Hid (WordsIs w)) (h : ¬ 65 < n) (hl : Hid (l.length = n)) (NV : Hid (Rps w (.slice ad n cap) l))
    (HC : Hid (∀ W, Rps W (.slice ad n cap) l → Calls Tryd.prog 8 #[.slice ad n cap] W fun e w' => ∃ u, e = .returned u ∧ OwnR w' W.heap.size u l ∧ Below W.heap.size W w'))
    (HT : Hid (∀ v W, Rps W v l → Calls Tryd.prog 7 #[v] W fun e w' => e = .returned (.tuple #[.agg #[.int .i64 0, .int .i64 0], .agg #[.int .i64 0, .int .i64 0], .int .i64 E]) ∧ Below W.heap.size W w'))
    (HT2 : Hid (∀ v W, Rps W v l.reverse → Calls Tryd.prog 7 #[v] W fun e w' => e = .returned (.tuple #[.agg #[.int .i64 0, .int .i64 0], .agg #[.int .i64 0, .int .i64 0], .int .i64 E]) ∧ Below W.heap.size W w')) :
    Calls Tryd.prog 5 #[.slice ad n cap] w fun e w' => e = .returned (.bool true) ∧ Below w.heap.size w w' := by
  have HA : Hid (∀ W, Below w.heap.size w W → _) := Lib.hid fun W hW => gawake_any W (hw.out.below hW)
  have HR := Lib.hid (fun u B w0 W h1 h2 => reverseR_any u l B w0 W h1 h2 (by rw [hl.out]; omega))
  have dn : decide (65 < (n : Int)) = false := decide_eq_false (by omega)
  have Q2 : ∀ (p q : Int) W, (binOp .neq 25 (.agg #[.int .i64 p, .int .i64 q]) (.agg #[.int .i64 p, .int .i64 q])).run Tryd.prog W = .ok (.bool false) W := fun p q W => by rw [run_neq_bounds, show samB p q p q = true by simp [samB]]; rfl
  have dE : (E != 0) = true := bne_iff_ne.2 hE
  have Q1 : ∀ (p q : Int) W, (binOp .eql 25 (.agg #[.int .i64 p, .int .i64 q]) (.agg #[.int .i64 p, .int .i64 q])).run Tryd.prog W = .ok (.bool true) W := fun p q W => by rw [run_eql_bounds, show samB p q p q = true by simp [samB]]
  have dEE : (E != E) = false := by simp
  clear hE
  go_enter Tryd.func5, Tryd.ntmps5
  go_wp2_with fail
  refine (HA.out _ (Below.refl _ _)).mono ?_
  rintro e w1 ⟨rfl, h1⟩
  replace NV := Lib.hid (NV.out.below h1)
  have HB := Lib.hid h1; clear h1 HA hw
  go_wp2_with fail
  refine (HC.out _ NV.out).mono ?_
  rintro e w2 ⟨v2, rfl, ho, h1⟩
  have N2 := Lib.hid ho.rps; clear ho
  replace NV := Lib.hid (NV.out.below h1)
  replace HB := Lib.hid (bel_trans HB.out h1); clear h1
  go_wp2_with fail
  refine (HT.out _ _ N2.out).mono ?_
  rintro e w3 ⟨rfl, h1⟩
  replace NV := Lib.hid (NV.out.below h1)
  replace HB := Lib.hid (bel_trans HB.out h1); clear h1 N2
  go_wp2_with fail
  have TV := Lib.hid ((Two.new w3 (.int .i64 0) (.int .i64 0) 25).alloc (.cells #[.int .i64 0, .int .i64 0] 25))
  have TA0 := Two.new (w3.alloc (.cells #[.int .i64 0, .int .i64 0] 25)) (.int .i64 0) (.int .i64 0) 25
  rw [World.size_alloc] at TA0
  have TA := Lib.hid TA0; clear TA0
  have X1 : Below w3.heap.size w3 ((w3.alloc (.cells #[.int .i64 0, .int .i64 0] 25)).alloc (.cells #[.int .i64 0, .int .i64 0] 25)) := bel_alloc (bel_alloc (Below.refl _ _))
  replace NV := Lib.hid (NV.out.below X1)
  replace HB := Lib.hid (bel_trans HB.out X1); clear X1
  generalize hv1 : w3.heap.size = p1 at *
  replace hv1 := Lib.hid hv1
  generalize hW0 : (w3.alloc (.cells #[.int .i64 0, .int .i64 0] 25)).alloc (.cells #[.int .i64 0, .int .i64 0] 25) = W0 at *
  clear hW0 hv1
  refine (HC.out _ NV.out).mono ?_
  rintro e w4 ⟨v4, rfl, ho, h1⟩
  have HO := Lib.hid ho; clear ho
  have H4 := Lib.hid h1; clear h1
  go_wp2_with fail
  refine (HR.out _ _ _ _ HO.out H4.out).mono ?_
  rintro e w5 ⟨rfl, hr, h1⟩
  have N5 := Lib.hid hr; clear hr
  replace NV := Lib.hid (NV.out.below h1)
  replace TV := Lib.hid (TV.out.below h1)
  replace TA := Lib.hid (TA.out.below h1)
  replace HB := Lib.hid (bel_trans HB.out h1); clear h1 HO H4
  go_wp2_with fail
  refine (HT2.out _ _ N5.out).mono ?_
  rintro e w6 ⟨rfl, h1⟩
  replace NV := Lib.hid (NV.out.below h1)
  replace TV := Lib.hid (TV.out.below h1)
  replace TA := Lib.hid (TA.out.below h1)
  replace HB := Lib.hid (bel_trans HB.out h1); clear h1 N5 HT HT2 HC HR
  have TW := Lib.hid ((Two.new w6 (.int .i64 0) (.int .i64 0) 25).alloc (.cells #[.int .i64 0, .int .i64 0] 25))
  have TB0 := Two.new (w6.alloc (.cells #[.int .i64 0, .int .i64 0] 25)) (.int .i64 0) (.int .i64 0) 25
  rw [World.size_alloc] at TB0
  have TB := Lib.hid TB0; clear TB0
  have X1 : Below w6.heap.size w6 ((w6.alloc (.cells #[.int .i64 0, .int .i64 0] 25)).alloc (.cells #[.int .i64 0, .int .i64 0] 25)) := bel_alloc (bel_alloc (Below.refl _ _))
  replace NV := Lib.hid (NV.out.below X1)
  replace TV := Lib.hid (TV.out.below X1)
  replace TA := Lib.hid (TA.out.below X1)
  replace HB := Lib.hid (bel_trans HB.out X1); clear X1
  obtain ⟨a0, a1, _, _, _⟩ := TV.out
  obtain ⟨b0, b1, _, _, _⟩ := TA.out
  obtain ⟨c0, c1, _, _, _⟩ := TW.out
  obtain ⟨d0, d1, _, _, _⟩ := TB.out
  go_wp2
  go_returns
  exact ⟨rfl, HB.out⟩
theorem walk (v : Value) (l : List Rp) (w : World) (hv : Rps w v l) (_hb : ∀ r ∈ l, RpBd r) (hw : WordsIs w) :
    Calls Tryd.prog 5 #[v] w fun e w' => e = .returned (.bool true) ∧ Below w.heap.size w w' := by
  have hv2 := hv
  obtain ⟨a, cap, rfl, _, hh⟩ := hv
  by_cases hn : 65 < l.length
  · exact long a _ cap w (Lib.hid hw) hn
  have HC : Hid (∀ W, Rps W (.slice a l.length cap) l → _) := Lib.hid fun W h => cloneR_any _ l W h (by omega)
  have HT := fun v W h => gTog_any v l W h
  have HT2 := fun v W h => gTog_any v l.reverse W h
  by_cases he : tgE l = 0
  · have h0 := tgE_ne he
    have t : ∀ x, tg x l = x := fun x => by unfold tg; rw [if_pos he]
    rcases hh with hh | ⟨b, off, rfl, _, _⟩
    · omega
    rw [he, t, t, t, t] at HT
    rw [tgE_rev, he, tg_rev, tg_rev, tg_rev, tg_rev, t, t, t, t, mxS_rev _ h0, mxS_rev _ h0, mnS_rev _ h0, mnS_rev _ h0] at HT2
    refine good b off _ cap l _ _ _ _ w (Lib.hid hw) hn (Lib.hid rfl) (Lib.hid hv2) (Lib.hid fun j hj => ⟨?_, ?_, ?_, ?_⟩) (Lib.hid (hit_mx Rp.vl h0)) (Lib.hid (hit_mn Rp.vh h0)) (tgE_lt he) HC (Lib.hid HT) (Lib.hid HT2)
    · exact (mxS_iff Rp.vl h0 _).1 (Int.le_refl _) j hj
    · exact (mnS_iff Rp.vh h0 _).1 (Int.le_refl _) j hj
    · exact (mxS_iff Rp.al h0 _).1 (Int.le_refl _) j hj
    · exact (mnS_iff Rp.ah h0 _).1 (Int.le_refl _) j hj
  · have t : ∀ x, tg x l = 0 := fun x => by unfold tg; rw [if_neg he]
    rw [t, t, t, t] at HT
    rw [tgE_rev, tg_rev, tg_rev, tg_rev, tg_rev, t, t, t, t] at HT2
    exact bad a _ cap l (tgE l) he w (Lib.hid hw) hn (Lib.hid rfl) (Lib.hid hv2) HC (Lib.hid HT) (Lib.hid HT2)

set_option maxRecDepth 100000 in
theorem contract (H : Type) (enc : TypeId × Value → H) (W : World) (base : Nat) (args : Array Value) (ds gs : List (DataW H)) (before : List MemPlace)
    (hval : ∀ (j : Nat) t v, Tryd.f5.params[j]? = some t → args[j]? = some v → Value.okWide Tryd.prog W .any base t v)
    (hW : DataW.Whole enc Tryd.prog Tryd.f5.params.toList Rows.gaugeTogetherSpec.vars false W args.toList ds gs before) (hL : laidMetH Tryd.prog Rows.gaugeTogetherRow.laid W) (hSh : W.ShapedOpen Tryd.prog) :
    Calls Tryd.prog 5 args W fun e W' => ∃ v, e = .returned v ∧ Rows.gaugeTogetherSpec.post enc Tryd.prog Tryd.f5 false true false false W args v W' := by
  have hW' := hW
  obtain ⟨p, q, hA0, hV, rfl, hfz, hnd⟩ := hW
  have hA : DataW.TrodAll enc Tryd.prog W 0 (fun _ => true) true Tryd.f5.params.toList args.toList ds p := hA0
  rw [Tryd.params5] at hA hval
  obtain ⟨v0, vs0, d0, ds0, p0, q0, hargs, rfl, rfl, h0, r0⟩ := trodAll_cons hA
  obtain ⟨rfl, rfl, rfl⟩ := trodAll_nil r0
  obtain rfl : args = #[v0] := by cases args; simp_all
  obtain ⟨rfl, rfl⟩ := trodVars_none hV
  have k0 := h0
  have lt0 : ∀ x ∈ p0, x.block < W.heap.size := by obtain ⟨m, hm⟩ := k0; exact DataW.trod_lt m _ _ _ hm
  obtain ⟨z0, w0, wb0⟩ := open_rps (hval 0 22 v0 rfl rfl) h0
  clear hA0
  refine (walk v0 z0 W w0 wb0 (laid_of rfl hL hSh)).mono fun e W' ⟨he, bel⟩ => ?_
  subst he
  exact ⟨_, rfl, _, _, _, [], _, [], hW', trodAll_mk1 (shut_bool Tryd.underlying4 _), (trodAll_cons_mk (Below.trod laidOut (by kernel_rfl) (of_decide_eq_true (by kernel_rfl)) k0 bel lt0) trodAll_mk0), rfl, bel.frame _, fun h => by cases h⟩

noncomputable def laidWorld (os : Os) : World := World.laidAll Tryd.prog os Rows.gaugeTogetherRow.laid
theorem laid_met (os : Os) : laidMet Tryd.prog Rows.gaugeTogetherRow.laid ((laidWorld os).forCall (fun _ _ => 0) ⟨#[], #[.slice none 0 0], []⟩).memory :=
  laidMet_laidAll _ (by kernel_rfl) (by kernel_rfl)
theorem reads (os : Os) {H : Type} (enc : TypeId × Value → H) : ∃ places, DataW.whole enc Tryd.prog ((laidWorld os).forCall (fun _ _ => 0) ⟨#[], #[.slice none 0 0], []⟩).memory Tryd.f5.params.toList Rows.gaugeTogetherSpec.vars false (#[.slice none 0 0] : Array Value).toList 8 = some ([.nil], [], places) :=
  ⟨[], by kernel_rfl⟩

set_option maxRecDepth 100000 in
theorem lifted (os : Os) (started : os.Started) (H : Type) (enc : TypeId × Value → H) (F : Stop.Interp) :
    ReturnsInHanded {} Tryd.checked os 5 .any ((OpenSpec.ofChange Rows.gaugeTogetherSpec).preRow enc Tryd.prog Tryd.f5 Rows.gaugeTogetherRow.domain false Rows.gaugeTogetherRow.laid) (((OpenSpec.ofChange Rows.gaugeTogetherSpec).at F).post enc Tryd.prog Tryd.f5 false true false false) := by
  obtain ⟨places, hx⟩ := reads os enc
  refine returnsInHanded_of_row (C := Tryd.checked) (s := OpenSpec.ofChange Rows.gaugeTogetherSpec) own started (by kernel_rfl) Tryd.func5
    (witness_row_at (enc := enc) (C := Tryd.checked) false (laidWorld os) #[.slice none 0 0] (World.laidAll_os _ _ _) (by kernel_rfl) (by kernel_rfl) (by kernel_rfl)
      (OpenSpec.preRow_of_cond 8 hx (by kernel_rfl) (fun k hk => by cases hk) (by kernel_rfl) (laid_met os))) ?_
  intro W base args ds gs before hval hW _ _ _ hL hSh _
  exact contract H enc W base args ds gs before hval hW hL hSh

theorem said : Rows.GaugeTogetherSaid :=
  OpenClaim.holds_of_cond 5 Tryd.f5 rfl rfl rfl rfl rfl rfl rfl ⟨rfl, rfl, rfl, rfl, rfl⟩ rfl rfl rfl rfl rfl (by kernel_rfl) Tryd.func5 (by kernel_rfl)
    (of_decide_eq_true (by kernel_rfl)) (by unfold Func.isWrapper; first | (rw [if_pos (by decide +kernel)]; kernel_rfl) | (rw [if_neg (by decide +kernel)]; exact ⟨rfl, rfl⟩))
    (fun os started H enc _ F => by rw [OpenClaim.pre_eq_preRow]; exact lifted os started H enc F)

theorem plain (f : FuncId) (fn : Func) (hf : Tryd.pinned.checked.prog.funcNamed "spile/spilelaw15.GaugeTogether" = some f) (hfn : Tryd.pinned.checked.prog.funcs[f]? = some fn) :
    false = Tryd.pinned.checked.prog.looks [] ∧ ∀ (j : Nat) t, fn.params[j]? = some t → Tryd.pinned.checked.prog.wantsStandIn t = false := by
  obtain rfl : f = 5 := Option.some.inj ((show Tryd.prog.funcNamed "spile/spilelaw15.GaugeTogether" = some 5 by kernel_rfl).symm.trans hf) |>.symm
  obtain rfl : fn = Tryd.f5 := (Option.some.inj (Tryd.func5.symm.trans hfn)).symm
  refine ⟨by kernel_rfl, fun j t ht => ?_⟩
  rw [Tryd.params5] at ht
  rcases j with _ | j
  · obtain rfl : t = 22 := by simpa using ht.symm
    exact (show Tryd.prog.wantsStandIn 22 = false by kernel_rfl)
  · simp at ht

theorem proved : Rows.GaugeTogetherCardSaid :=
  Claim7.holds_tied_plain_at .later [] _ _ _ _ said (fun _ h => by cases h) (by kernel_rfl) (fun _ h => by cases h) gaugeTogether_row_tie rfl ⟨rfl, rfl⟩ (by kernel_rfl) rfl plain (by kernel_rfl)
#print axioms proved
end Go.Proofs.YtbaiekoedmhhaaaDoor.gaugeTogether

