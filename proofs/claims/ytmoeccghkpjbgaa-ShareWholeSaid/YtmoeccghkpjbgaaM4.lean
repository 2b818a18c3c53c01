/- Texts that the proofs of this seat share, one behind the other: SHR3, SHR4, SHR5, SHQ, SHW, SHO, SHP. -/
import Derived.Test.YtmoeccghkpjbgaaM3
import Derived.Test.YtmoeccghkpjbgaaM2
import Derived.BigQuiet
import Derived.Test.YtmoeccghkpjbgaaRows
import Derived.ProofKit
import Derived.OpenShut
import Derived.ShutString
import Derived.ChangeOld
import Derived.Lib.SmallJoins
import Derived.MakeChecks
import Derived.Deep.Slices
import Derived.Deep.Fields
import Derived.Deep.Strs
import Derived.ChangeSame
import Derived.Deep.SlicePairs
import Derived.Lib.LaidTab
import Derived.OneCell
import Derived.HandedShaped

set_option linter.unusedVariables false
set_option linter.unusedSimpArgs false

/- The reference of layers 1 and 23: Draw, take, Take, Parts. -/
namespace Go.Proofs.Ytmoeccghkpjbgaa
open Go.RowKit

set_option maxHeartbeats 8000000 in
set_option maxRecDepth 100000 in
theorem rDr_err (ps : List Int) (a E X : Int) (v : Value) (w : World) (hE : (E != 0) = true)
    (HW : Hid (Calls Try.prog 71 #[.int .i64 a, v] w fun e w' => e = .returned (.tuple #[.int .i64 X, .int .i64 E]) ∧ Below w.heap.size w w')) :
    Calls Try.prog 67 #[v, .int .i64 a] w fun e w' => e = .returned (.tuple #[.slice none 0 0, .slice none 0 0, .int .i64 E]) ∧ Below w.heap.size w w' := by
  go_enter Try.func67, Try.ntmps67
  go_wp2_with fail
  refine HW.out.mono ?_
  rintro e w1 ⟨rfl, h1⟩
  have X := Lib.hid h1; clear h1
  go_wp2
  go_returns
  exact ⟨rfl, X.out⟩
set_option maxHeartbeats 8000000 in
set_option maxRecDepth 100000 in
theorem rDr_big (ps : List Int) (a X : Int) (v : Value) (w : World) (hb : X < a)
    (HW : Hid (Calls Try.prog 71 #[.int .i64 a, v] w fun e w' => e = .returned (.tuple #[.int .i64 X, .int .i64 0]) ∧ Below w.heap.size w w')) :
    Calls Try.prog 67 #[v, .int .i64 a] w fun e w' => e = .returned (.tuple #[.slice none 0 0, .slice none 0 0, .int .i64 17]) ∧ Below w.heap.size w w' := by
  have d : decide (X < a) = true := decide_eq_true hb
  go_enter Try.func67, Try.ntmps67
  go_wp2_with fail
  refine HW.out.mono ?_
  rintro e w1 ⟨rfl, h1⟩
  have X := Lib.hid h1; clear h1
  go_wp2
  go_returns
  exact ⟨rfl, X.out⟩
set_option maxHeartbeats 16000000 in
set_option maxRecDepth 100000 in
theorem rDr_ok (ps : List Int) (a : Int) (v : Value) (w : World) (hv : Ins w v ps) (hE : divE a ps = 0) (hle : a ≤ ps.sum) :
    Calls Try.prog 67 #[v, .int .i64 a] w fun e w' => ∃ v1 v2, e = .returned (.tuple #[v1, v2, .int .i64 0]) ∧ Ins w' v1 (divP a ps) ∧ Ins w' v2 (List.zipWith (· - ·) ps (divP a ps)) ∧ Below w.heap.size w w' := by
  obtain ⟨e1, e2⟩ := divE_zero hE
  obtain ⟨t1, t2, t3, t4, t5⟩ := totE_zero e2
  have lz := divP_len a ps hE
  have HBD := Lib.hid (divP_bd a ps hE)
  have HA := Lib.hid t3
  have HW := Lib.hid (rWe_any a v ps w hv)
  rw [if_pos hE, hE] at HW
  have HD := Lib.hid (fun W g => (rDv_any a v ps W g).2 hE)
  have d : decide (ps.sum < a) = false := decide_eq_false (by omega)
  have HV := Lib.hid hv
  obtain ⟨ad, cap, rfl, hlen, _⟩ := hv
  obtain ⟨n, hN⟩ : ∃ n, ps.length = n := ⟨_, rfl⟩
  have LP := Lib.hid hN
  have LZ : Hid ((List.zipWith (· - ·) ps (divP a ps)).length = n) := Lib.hid (by rw [List.length_zipWith]; omega)
  rw [hN] at HW HD HV t1 t2 ⊢
  clear hE e1 e2 t3 t4 t5 lz hlen hN hle
  generalize ps.sum = S at *
  go_enter Try.func67, Try.ntmps67
  go_wp2_with fail
  refine HW.out.mono ?_
  rintro e w1 ⟨rfl, h1⟩
  have X := Lib.hid h1; clear h1
  go_wp2_with fail
  refine (HD.out _ (HV.out.below X.out)).mono ?_
  rintro e w2 ⟨g, c, rfl, ho, h1⟩
  have O2 := Lib.hid (ho.base (B' := w.heap.size) X.out.size)
  replace X := Lib.hid (bel_trans X.out h1)
  clear h1 ho HW HD
  have S0 : Hid (OwnI w2 w2.heap.size (.slice none 0 0) ((List.zipWith (· - ·) ps (divP a ps)).take 0)) := Lib.hid (OwnI.nil _ _)
  go_wp2_with fail
  go_loopw [11, 12] (fun v ii wr => ∃ k : Nat, k ≤ n ∧ ii = .int .i64 (k : Int) ∧ Hid (SJ w2 v ((List.zipWith (· - ·) ps (divP a ps)).take k) wr)) (fun _ ii _ => n - (intOf ii).toNat)
  case atStart => exact ⟨0, Nat.zero_le _, rfl, ⟨Below.refl _ _, S0.out⟩⟩
  case round =>
    clear S0
    obtain ⟨k, hk, rfl, hS⟩ := hrel
    by_cases hlt : k < n
    · have l0 : (k : Int) < (n : Int) := by omega
      have hkz : k < ps.length := by rw [LP.out]; exact hlt
      obtain ⟨ad', cap', hveq, _, hin⟩ := HV.out.below (bel_trans X.out hS.out.1)
      have hcell : ∃ b off, ad = some ⟨b, off, none⟩ ∧ wr.cell? ⟨b, off + k, none⟩ = some (.int .i64 (ps.getD k 0)) := by
        simp only [Value.slice.injEq] at hveq
        rcases hin with hin | ⟨b, off, e, _, hc⟩
        · omega
        · exact ⟨b, off, by rw [hveq.1, e], hc k hkz⟩
      clear hveq hin ad' cap'
      obtain ⟨b, off, rfl, c0⟩ := hcell
      have c1 := (O2.out.below hS.out.1).cell k hlt
      obtain ⟨x0, x1⟩ := (isAm_iff _).1 (all_get ps HA.out k hkz)
      obtain ⟨y0, y1⟩ := HBD.out k
      have PK := Lib.hid (take_snoc (List.zipWith (· - ·) ps (divP a ps)) k (by rw [LZ.out]; exact hlt))
      rw [zipSub_get ps (divP a ps) k hkz (by have := LZ.out; rw [List.length_zipWith] at this; omega)] at PK
      obtain ⟨av, cv, ev⟩ := hS.out.shape
      have hq : ((List.zipWith (· - ·) ps (divP a ps)).take k).length = k := by rw [List.length_take, LZ.out]; omega
      rw [hq] at ev
      subst ev
      generalize (List.zipWith (· - ·) ps (divP a ps)).take k = T at *
      replace hq := Lib.hid hq
      generalize ps.getD k 0 = x at *
      generalize (divP a ps).getD k 0 = y at *
      have ws : IntKind.i64.wrap (x - y) = x - y := wrap_in _ ⟨by omega, by omega⟩
      have OA : Hid (∀ o, (wr.drew.alloc o).ownsRow w2.heap.size 3 1 (.slice av k cv) k (T.map (Value.int .i64))) := Lib.hid (fun o => by
        have := (show OwnI wr.drew w2.heap.size (.slice av k cv) T from hS.out.2).alloc o
        unfold OwnI at this
        rwa [hq.out] at this)
      have hsz : Hid (w2.heap.size ≤ wr.heap.size) := Lib.hid hS.out.1.size
      go_wp2_with fail
      go_region_law (refine step_oneI rfl (.tmp 37) (.tmp 47) rfl w2.heap.size k wr.heap.size 1 _ T (x - y) (by simp [Act.eval, Act.put]) (by simp [Act.eval, Act.put]) (OA.out _) (by omega) (by have := hsz.out; simp; omega) (by simp [go_sem, ws]) ?_; intro v' w9 hown' hgrow)
      all_goals
        have SN : Hid (SJ w2 v' ((List.zipWith (· - ·) ps (divP a ps)).take (k + 1)) w9) := Lib.hid (by
          have lt := fun r hr => (World.ownsRow.lt (OA.out (.cells #[] 3)) r hr).1
          exact ⟨(bel_trans hS.out.1 (bel_trans (bel_drew wr) (bel_alloc (Below.refl _ _)))).grown hgrow (by have := hsz.out; simp; omega) lt, by rw [PK.out]; exact OwnI.push hq.out.symm hown'⟩)
        clear hown' hgrow OA
        go_wp2
        go_roundw
        case rel => exact ⟨k + 1, by omega, by go_num, SN⟩
        case measure => simp [intOf]; omega
    · obtain rfl : n = k := by omega
      have e : (List.zipWith (· - ·) ps (divP a ps)).take n = List.zipWith (· - ·) ps (divP a ps) := List.take_of_length_le (by rw [LZ.out]; omega)
      rw [e] at hS
      have PF := Lib.hid (hS.out.2.ins (by rw [LZ.out]; omega))
      have PG := Lib.hid ((O2.out.below hS.out.1).ins (by omega))
      have XF := Lib.hid (bel_trans X.out hS.out.1)
      clear hS e
      go_wp2
      go_returns
      exact ⟨_, _, rfl, PG.out, PF.out, XF.out⟩
theorem rDr_any (ps : List Int) (a : Int) (v : Value) (w : World) (hv : Ins w v ps) :
    Calls Try.prog 67 #[v, .int .i64 a] w fun e w' => ∃ v1 v2, e = .returned (.tuple #[v1, v2, .int .i64 (drawE ps a)]) ∧ Ins w' v1 (drawD ps a) ∧ Ins w' v2 (drawS ps a) ∧ Below w.heap.size w w' := by
  unfold drawD drawS
  have HW := rWe_any a v ps w hv
  by_cases h0 : divE a ps = 0
  · by_cases hle : a ≤ ps.sum
    · have e : drawE ps a = 0 := by unfold drawE; rw [if_pos h0, if_pos hle]
      rw [e, if_pos rfl, if_pos rfl]
      exact rDr_ok ps a v w hv h0 hle
    · have e : drawE ps a = 17 := by unfold drawE; rw [if_pos h0, if_neg hle]
      rw [e, if_neg (by omega), if_neg (by omega)]
      rw [if_pos h0, h0] at HW
      exact (rDr_big ps a _ v w (by omega) HW).mono fun _ w' g => ⟨_, _, g.1, ins_nil w', ins_nil w', g.2⟩
  · have e : drawE ps a = divE a ps := by unfold drawE; rw [if_neg h0]
    rw [e, if_neg h0, if_neg h0]
    rw [if_neg h0] at HW
    exact (rDr_err ps a _ _ v w (bneq h0) HW).mono fun _ w' g => ⟨_, _, g.1, ins_nil w', ins_nil w', g.2⟩
set_option maxHeartbeats 8000000 in
set_option maxRecDepth 100000 in
theorem rsTa_nil (a : Int) (ad : Option Addr) (cap : Nat) (w : World) :
    Calls Try.prog 42 #[.slice ad 0 cap, .int .i64 a] w fun e w' => ∃ u1 u2, e = .returned (.tuple #[u1, u2]) ∧ RH.Sh w' w.heap.size u1 [] ∧ RH.Sh w' w.heap.size u2 [] ∧ Below w.heap.size w w' := by
  go_enter Try.func42, Try.ntmps42
  go_wp2
  go_returns
  refine ⟨_, _, rfl, (show RH.Sh _ _ _ [] from RH.no_row w w.heap.size 2 52 (Nat.le_refl _)).below (bel_alloc (Below.refl _ _)), ?_, bel_alloc (bel_alloc (Below.refl _ _))⟩
  have := RH.no_row (w.alloc (.cells #[] 52)) w.heap.size 2 52 (by simp)
  simp only [World.size_alloc] at this
  exact this
set_option maxHeartbeats 8000000 in
set_option maxRecDepth 100000 in
theorem rsTa_ok (v : Value) (s : List (Int × Int)) (a : Int) (w : World) (HV : Hid (Pts w v s)) (hR : SR s) (h0 : 0 < s.length) (a0 : 0 ≤ a) (a1 : a ≤ sm fM s) :
    Calls Try.prog 42 #[v, .int .i64 a] w fun e w' => ∃ u1 u2, e = .returned (.tuple #[u1, u2]) ∧ RH.Sh w' w.heap.size u1 (wiS s (drawD (amS s) a) s.length) ∧ RH.Sh w' w.heap.size u2 (wiS s (drawS (amS s) a) s.length) ∧ Below w.heap.size w w' := by
  have HM := Lib.hid (fun W g => rsAm_any v s W g (by have := hR.len; omega))
  have HW1 := Lib.hid (fun z W g h => rsWi_any v z s (drawD (amS s) a) W g h (by have := hR.len; omega) (hR.lens a0 a1).1)
  have HW2 := Lib.hid (fun z W g h => rsWi_any v z s (drawS (amS s) a) W g h (by have := hR.len; omega) (hR.lens a0 a1).2)
  have HD := Lib.hid (fun z W h => rDr_any (amS s) a z W h)
  obtain ⟨ad, cap, rfl, _, _⟩ := HV.out.shape
  have hlen := hR.len
  clear hR a0 a1
  generalize hD : drawD (amS s) a = D at *
  generalize hS : drawS (amS s) a = S at *
  generalize hEE : drawE (amS s) a = EE at *
  have d0 : ((s.length : Int) == 0) = false := by rw [beq_eq_false_iff_ne]; omega
  go_enter Try.func42, Try.ntmps42
  go_wp2_with fail
  refine (HM.out _ HV.out).mono ?_
  rintro e w2 ⟨ua, rfl, hi, h1⟩
  have X := Lib.hid h1
  have I2 := Lib.hid hi
  clear h1 hi
  go_wp2_with fail
  refine (HD.out _ _ I2.out).mono ?_
  rintro e w3 ⟨z1, z2, rfl, g1, g2, h1⟩
  replace X := Lib.hid (bel_trans X.out h1)
  have J1 := Lib.hid g1
  have J2 := Lib.hid g2
  clear h1 g1 g2
  go_wp2_with fail
  refine (HW1.out _ _ (HV.out.below X.out) J1.out).mono ?_
  rintro e w4 ⟨u1, rfl, g1, h1⟩
  have U1 := Lib.hid (g1.base (B' := w.heap.size) X.out.size)
  replace J2 := Lib.hid (J2.out.below h1)
  replace X := Lib.hid (bel_trans X.out h1)
  clear h1 g1
  go_wp2_with fail
  refine (HW2.out _ _ (HV.out.below X.out) J2.out).mono ?_
  rintro e w5 ⟨u2, rfl, g1, h1⟩
  have U2 := Lib.hid (g1.base (B' := w.heap.size) X.out.size)
  replace U1 := Lib.hid (U1.out.below h1)
  replace X := Lib.hid (bel_trans X.out h1)
  clear h1 g1
  go_wp2
  go_returns
  exact ⟨_, _, rfl, by first | exact U1.out | (rw [hD]; exact U1.out), by first | exact U2.out | (rw [hS]; exact U2.out), X.out⟩
theorem rsTa_any (v : Value) (s : List (Int × Int)) (a : Int) (w : World) (hv : Pts w v s) (hR : SR s) (a0 : 0 ≤ a) (a1 : a ≤ sm fM s) :
    Calls Try.prog 42 #[v, .int .i64 a] w fun e w' => ∃ u1 u2, e = .returned (.tuple #[u1, u2]) ∧ RH.Sh w' w.heap.size u1 (wiS s (drawD (amS s) a) s.length) ∧ RH.Sh w' w.heap.size u2 (wiS s (drawS (amS s) a) s.length) ∧ Below w.heap.size w w' := by
  by_cases h0 : 0 < s.length
  · exact rsTa_ok v s a w (Lib.hid hv) hR h0 a0 a1
  · obtain ⟨ad, cap, rfl, _, _⟩ := hv.shape
    have e : s.length = 0 := by omega
    rw [e]
    exact rsTa_nil a ad cap w

set_option maxHeartbeats 8000000 in
set_option maxRecDepth 100000 in
theorem rsTk_bad (v : Value) (s : List (Int × Int)) (a : Int) (w : World) (HV : Hid (Pts w v s)) (hE : scE s ≠ 0) :
    Calls Try.prog 15 #[v, .int .i64 a] w fun e w' => ∃ u1 u2, e = .returned (.tuple #[u1, u2, .int .i64 1]) ∧ RH.Sh w' w.heap.size u1 [] ∧ RH.Sh w' w.heap.size u2 [] ∧ Below w.heap.size w w' := by
  have HC := Lib.hid (rsCh_any v s w HV.out)
  have d : (scE s != 0) = true := by simpa using hE
  clear hE
  generalize scE s = E at *
  go_enter Try.func15, Try.ntmps15
  go_wp2_with fail
  refine HC.out.mono ?_
  rintro e w1 ⟨rfl, h1⟩
  have X := Lib.hid h1; clear h1
  go_wp2
  go_returns
  exact ⟨_, _, rfl, RH.Sh.nil _ _, RH.Sh.nil _ _, X.out⟩
set_option maxHeartbeats 8000000 in
set_option maxRecDepth 100000 in
theorem rsTk_neg (v : Value) (s : List (Int × Int)) (a : Int) (w : World) (HV : Hid (Pts w v s)) (hE : scE s = 0) (ha : a < 0) :
    Calls Try.prog 15 #[v, .int .i64 a] w fun e w' => ∃ u1 u2, e = .returned (.tuple #[u1, u2, .int .i64 2]) ∧ RH.Sh w' w.heap.size u1 [] ∧ RH.Sh w' w.heap.size u2 [] ∧ Below w.heap.size w w' := by
  have HC := Lib.hid (rsCh_any v s w HV.out)
  rw [hE] at HC
  have d0 : decide (a < 0) = true := decide_eq_true ha
  go_enter Try.func15, Try.ntmps15
  go_wp2_with fail
  refine HC.out.mono ?_
  rintro e w1 ⟨rfl, h1⟩
  have X := Lib.hid h1; clear h1
  go_wp2
  go_returns
  exact ⟨_, _, rfl, RH.Sh.nil _ _, RH.Sh.nil _ _, X.out⟩
set_option maxHeartbeats 8000000 in
set_option maxRecDepth 100000 in
theorem rsTk_big (v : Value) (s : List (Int × Int)) (a : Int) (w : World) (HV : Hid (Pts w v s)) (hR : SR s) (hE : scE s = 0) (ha : ¬ a < 0) (hb : sm fM s < a) :
    Calls Try.prog 15 #[v, .int .i64 a] w fun e w' => ∃ u1 u2, e = .returned (.tuple #[u1, u2, .int .i64 17]) ∧ RH.Sh w' w.heap.size u1 [] ∧ RH.Sh w' w.heap.size u2 [] ∧ Below w.heap.size w w' := by
  have HC := Lib.hid (rsCh_any v s w HV.out)
  rw [hE] at HC
  have HA := Lib.hid (fun W g => rlAl_any v s W g hR.len hR.sh)
  have d0 : decide (a < 0) = false := decide_eq_false ha
  have d1 : decide (sm fM s < a) = true := decide_eq_true hb
  clear hR
  generalize sm fM s = T at *
  go_enter Try.func15, Try.ntmps15
  go_wp2_with fail
  refine HC.out.mono ?_
  rintro e w1 ⟨rfl, h1⟩
  have X := Lib.hid h1; clear h1
  go_wp2_with fail
  refine (HA.out _ (HV.out.below X.out)).mono ?_
  rintro e w2 ⟨rfl, h1⟩
  replace X := Lib.hid (bel_trans X.out h1)
  clear h1
  go_wp2
  go_returns
  exact ⟨_, _, rfl, RH.Sh.nil _ _, RH.Sh.nil _ _, X.out⟩
set_option maxHeartbeats 8000000 in
set_option maxRecDepth 100000 in
theorem rsTk_ok (v : Value) (s : List (Int × Int)) (a : Int) (w : World) (HV : Hid (Pts w v s)) (hR : SR s) (hE : scE s = 0) (a0 : 0 ≤ a) (a1 : a ≤ sm fM s) :
    Calls Try.prog 15 #[v, .int .i64 a] w fun e w' => ∃ u1 u2, e = .returned (.tuple #[u1, u2, .int .i64 0]) ∧ RH.Sh w' w.heap.size u1 (wiS s (drawD (amS s) a) s.length) ∧ RH.Sh w' w.heap.size u2 (wiS s (drawS (amS s) a) s.length) ∧ Below w.heap.size w w' := by
  have HC := Lib.hid (rsCh_any v s w HV.out)
  rw [hE] at HC
  have HA := Lib.hid (fun W g => rlAl_any v s W g hR.len hR.sh)
  have HT := Lib.hid (fun W g => rsTa_any v s a W g hR a0 a1)
  have d0 : decide (a < 0) = false := decide_eq_false (by omega)
  have d1 : decide (sm fM s < a) = false := decide_eq_false (by omega)
  clear hR
  generalize sm fM s = T at *
  generalize hD : wiS s (drawD (amS s) a) s.length = D at *
  generalize hS : wiS s (drawS (amS s) a) s.length = S at *
  go_enter Try.func15, Try.ntmps15
  go_wp2_with fail
  refine HC.out.mono ?_
  rintro e w1 ⟨rfl, h1⟩
  have X := Lib.hid h1; clear h1
  go_wp2_with fail
  refine (HA.out _ (HV.out.below X.out)).mono ?_
  rintro e w2 ⟨rfl, h1⟩
  replace X := Lib.hid (bel_trans X.out h1)
  clear h1
  go_wp2_with fail
  refine (HT.out _ (HV.out.below X.out)).mono ?_
  rintro e w3 ⟨u1, u2, rfl, g1, g2, h1⟩
  have U1 := Lib.hid (g1.base (B' := w.heap.size) X.out.size)
  have U2 := Lib.hid (g2.base (B' := w.heap.size) X.out.size)
  replace X := Lib.hid (bel_trans X.out h1)
  clear h1 g1 g2
  go_wp2
  go_returns
  exact ⟨_, _, rfl, by first | exact U1.out | (rw [hD]; exact U1.out), by first | exact U2.out | (rw [hS]; exact U2.out), X.out⟩
theorem rsTk_any (v : Value) (s : List (Int × Int)) (a : Int) (w : World) (hv : Pts w v s) :
    Calls Try.prog 15 #[v, .int .i64 a] w fun e w' => ∃ u1 u2, e = .returned (.tuple #[u1, u2, .int .i64 (tkE s a)]) ∧ (RH.Sh w' w.heap.size u1 (tkA s a) ∧ RH.Sh w' w.heap.size u2 (tkB s a)) ∧ Below w.heap.size w w' := by
  have fin : ∀ {E : Int} {A B : List (Int × Int)}, tkE s a = E → tkA s a = A → tkB s a = B → (Calls Try.prog 15 #[v, .int .i64 a] w fun e w' => ∃ u1 u2, e = .returned (.tuple #[u1, u2, .int .i64 E]) ∧ (RH.Sh w' w.heap.size u1 A ∧ RH.Sh w' w.heap.size u2 B) ∧ Below w.heap.size w w') → Calls Try.prog 15 #[v, .int .i64 a] w fun e w' => ∃ u1 u2, e = .returned (.tuple #[u1, u2, .int .i64 (tkE s a)]) ∧ (RH.Sh w' w.heap.size u1 (tkA s a) ∧ RH.Sh w' w.heap.size u2 (tkB s a)) ∧ Below w.heap.size w w' := by
    rintro E A B rfl rfl rfl h; exact h
  by_cases h : scE s = 0
  · have hR := scE_zero.1 h
    have hE : (scE s == 0) = true := by simpa using h
    by_cases h1 : a < 0
    · have e : tkE s a = 2 := by unfold tkE; rw [if_neg (by omega), if_pos h1]
      exact fin e (by unfold tkA; rw [if_neg (by omega)]) (by unfold tkB; rw [if_neg (by omega)]) (by simpa only [and_assoc] using rsTk_neg v s a w (Lib.hid hv) h h1)
    · by_cases h2 : sm fM s < a
      · have e : tkE s a = 17 := by unfold tkE; rw [if_neg (by omega), if_neg h1, if_pos h2]
        exact fin e (by unfold tkA; rw [if_neg (by omega)]) (by unfold tkB; rw [if_neg (by omega)]) (by simpa only [and_assoc] using rsTk_big v s a w (Lib.hid hv) hR h h1 h2)
      · have e : tkE s a = 0 := by unfold tkE; rw [if_neg (by omega), if_neg h1, if_neg h2]
        exact fin e (by unfold tkA; rw [if_pos e]) (by unfold tkB; rw [if_pos e]) (by simpa only [and_assoc] using rsTk_ok v s a w (Lib.hid hv) hR h (by omega) (by omega))
  · have e : tkE s a = 1 := by unfold tkE; rw [if_pos h]
    exact fin e (by unfold tkA; rw [if_neg (by omega)]) (by unfold tkB; rw [if_neg (by omega)]) (by simpa only [and_assoc] using rsTk_bad v s a w (Lib.hid hv) h)

set_option maxHeartbeats 8000000 in
set_option maxRecDepth 100000 in
theorem rsPa_bad (v : Value) (s : List (Int × Int)) (a E : Int) (w : World) (HV : Hid (Pts w v s)) (hE : (E != 0) = true) (HC : Hid (Calls Try.prog 19 #[v] w fun e w' => e = .returned (.int .i64 E) ∧ Below w.heap.size w w')) :
    Calls Try.prog 17 #[v, .int .i64 a] w fun e w' => ∃ u, e = .returned (.tuple #[u, .int .i64 1]) ∧ Ins w' u [] ∧ Below w.heap.size w w' := by
  go_enter Try.func17, Try.ntmps17
  go_wp2_with fail
  refine HC.out.mono ?_
  rintro e w1 ⟨rfl, h1⟩
  have X := Lib.hid h1; clear h1
  go_wp2
  go_returns
  exact ⟨_, rfl, ins_nil _, X.out⟩
set_option maxHeartbeats 8000000 in
set_option maxRecDepth 100000 in
theorem rsPa_rng (v : Value) (s : List (Int × Int)) (a : Int) (w : World) (ha : isAm a = false) (HC : Hid (Calls Try.prog 19 #[v] w fun e w' => e = .returned (.int .i64 0) ∧ Below w.heap.size w w')) :
    Calls Try.prog 17 #[v, .int .i64 a] w fun e w' => ∃ u, e = .returned (.tuple #[u, .int .i64 2]) ∧ Ins w' u [] ∧ Below w.heap.size w w' := by
  rcases (isAm_not a).1 ha with h | h
  · have d : decide (a < 0) = true := decide_eq_true h
    clear ha
    go_enter Try.func17, Try.ntmps17
    go_wp2_with fail
    refine HC.out.mono ?_
    rintro e w1 ⟨rfl, h1⟩
    have X := Lib.hid h1; clear h1
    go_wp2
    go_returns
    exact ⟨_, rfl, ins_nil _, X.out⟩
  · have d : decide (a < 0) = false := decide_eq_false (by omega)
    have d2 : decide (128849018880000 < a) = true := decide_eq_true h
    clear ha
    go_enter Try.func17, Try.ntmps17
    go_wp2_with fail
    refine HC.out.mono ?_
    rintro e w1 ⟨rfl, h1⟩
    have X := Lib.hid h1; clear h1
    go_wp2
    go_returns
    exact ⟨_, rfl, ins_nil _, X.out⟩
set_option maxHeartbeats 8000000 in
set_option maxRecDepth 100000 in
theorem rsPa_nil (ad : Option Addr) (cap : Nat) (a : Int) (w : World) (ha : isAm a = true) (HC : Hid (Calls Try.prog 19 #[.slice ad 0 cap] w fun e w' => e = .returned (.int .i64 0) ∧ Below w.heap.size w w')) :
    Calls Try.prog 17 #[.slice ad 0 cap, .int .i64 a] w fun e w' => ∃ u, e = .returned (.tuple #[u, .int .i64 9]) ∧ Ins w' u [] ∧ Below w.heap.size w w' := by
  have g := (isAm_iff a).1 ha
  have d : decide (a < 0) = false := decide_eq_false (by omega)
  have d2 : decide (128849018880000 < a) = false := decide_eq_false (by omega)
  go_enter Try.func17, Try.ntmps17
  go_wp2_with fail
  refine HC.out.mono ?_
  rintro e w1 ⟨rfl, h1⟩
  have X := Lib.hid h1; clear h1
  go_wp2
  go_returns
  exact ⟨_, rfl, ins_nil _, X.out⟩
set_option maxHeartbeats 8000000 in
set_option maxRecDepth 100000 in
theorem rsPa_ok (v : Value) (s : List (Int × Int)) (a : Int) (w : World) (HV : Hid (Pts w v s)) (hR : SR s) (h0 : 0 < s.length) (ha : isAm a = true) (HC : Hid (Calls Try.prog 19 #[v] w fun e w' => e = .returned (.int .i64 0) ∧ Below w.heap.size w w')) :
    Calls Try.prog 17 #[v, .int .i64 a] w fun e w' => ∃ u, e = .returned (.tuple #[u, .int .i64 0]) ∧ Ins w' u (divP a (amS s)) ∧ Below w.heap.size w w' := by
  have g := (isAm_iff a).1 ha
  have d : decide (a < 0) = false := decide_eq_false (by omega)
  have d2 : decide (128849018880000 < a) = false := decide_eq_false (by omega)
  have HM := Lib.hid (fun W g => rsAm_any v s W g (by have := hR.len; omega))
  have HD := Lib.hid (fun z W g => (rDv_any a z (amS s) W g).2 (hR.div h0 ha))
  rw [amS_len] at HD
  have hlen := hR.len
  have d0 : ((s.length : Int) == 0) = false := by rw [beq_eq_false_iff_ne]; omega
  obtain ⟨ad, cap, rfl, _, _⟩ := HV.out.shape
  clear hR ha g
  generalize hP : divP a (amS s) = P at *
  go_enter Try.func17, Try.ntmps17
  go_wp2_with fail
  refine HC.out.mono ?_
  rintro e w1 ⟨rfl, h1⟩
  have X := Lib.hid h1; clear h1
  go_wp2_with fail
  refine (HM.out _ (HV.out.below X.out)).mono ?_
  rintro e w2 ⟨u, rfl, hi, h1⟩
  replace X := Lib.hid (bel_trans X.out h1)
  have I2 := Lib.hid hi
  clear h1 hi
  go_wp2_with fail
  refine (HD.out _ _ I2.out).mono ?_
  rintro e w3 ⟨z, c, rfl, hi, h1⟩
  replace X := Lib.hid (bel_trans X.out h1)
  have I3 := Lib.hid (hi.ins (by omega))
  clear h1 hi
  go_wp2
  go_returns
  exact ⟨_, rfl, by first | exact I3.out | (rw [hP]; exact I3.out), X.out⟩
theorem rsPa_any (v : Value) (s : List (Int × Int)) (a : Int) (w : World) (hv : Pts w v s) :
    Calls Try.prog 17 #[v, .int .i64 a] w fun e w' => ∃ u, e = .returned (.tuple #[u, .int .i64 (spE s a)]) ∧ Ins w' u (spP s a) ∧ Below w.heap.size w w' := by
  have HC := Lib.hid (rsCh_any v s w hv)
  unfold spE spP
  by_cases h : scE s = 0
  · have hR := scE_zero.1 h
    rw [if_pos h, if_pos h]
    rw [h] at HC
    cases ha : isAm a with
    | false =>
      have e : divE a (amS s) = 2 := by unfold divE; rw [ha]; rfl
      have e2 : divP a (amS s) = [] := by unfold divP; rw [if_neg (by omega)]
      rw [e, e2]
      exact rsPa_rng v s a w ha HC
    | true =>
      by_cases h0 : 0 < s.length
      · rw [hR.div h0 ha]
        exact rsPa_ok v s a w (Lib.hid hv) hR h0 ha HC
      · have e : divE a (amS s) = 9 := by unfold divE; rw [if_pos ha, SR.tot0 (by omega)]
        have e2 : divP a (amS s) = [] := by unfold divP; rw [if_neg (by omega)]
        rw [e, e2]
        obtain ⟨ad, cap, rfl, _, _⟩ := hv.shape
        have e0 : s.length = 0 := by omega
        rw [e0] at HC ⊢
        exact rsPa_nil ad cap a w ha HC
  · rw [if_neg h, if_neg h]
    exact rsPa_bad v s a _ w (Lib.hid hv) (by simpa using h) HC
end Go.Proofs.Ytmoeccghkpjbgaa

/- The reference of layer 23: join, fits, Join. -/
namespace Go.Proofs.Ytmoeccghkpjbgaa
open Go.RowKit

set_option maxHeartbeats 32000000 in
set_option maxRecDepth 100000 in
theorem rsJo_ok (a1 a2 : Option Addr) (c1 c2 : Nat) (s z : List (Int × Int)) (w : World) (HV1 : Hid (Pts w (.slice a1 s.length c1) s)) (HV2 : Hid (Pts w (.slice a2 z.length c2) z)) (hR1 : SR s) (hR2 : SR z) :
    Calls Try.prog 48 #[.slice a1 s.length c1, .slice a2 z.length c2] w fun e w' => ∃ u, e = .returned u ∧ RH.Sh w' w.heap.size u (jn s z) ∧ Below w.heap.size w w' := by
  obtain ⟨i0, hi, hz0, hz1, hz2⟩ := RH.info_parts RH.sh_info
  replace hi := Lib.hid hi
  replace hz0 := Lib.hid hz0
  replace hz1 := Lib.hid hz1
  replace hz2 := Lib.hid hz2
  have HS := Lib.hid (fun j hj => (shB_false.1 (hR1.ok j hj)).2.2)
  have HZ := Lib.hid (fun j hj => (shB_false.1 (hR2.ok j hj)).2.2)
  have h1 := hR1.len
  have h2 := hR2.len
  clear hR1 hR2
  have S0 : Hid (RH.SI w (.slice (some ⟨w.heap.size, 0, none⟩) 0 0) [] (w.alloc (.cells #[] 52))) := Lib.hid ⟨bel_alloc (Below.refl _ _), RH.no_row w w.heap.size 2 52 (Nat.le_refl _)⟩
  go_enter Try.func48, Try.ntmps48
  go_wp2_with fail
  go_loopw [5, 6, 7] (fun v i k wr => ∃ (t p q : Nat) (o : List (Int × Int)), i = .int .i64 (p : Nat) ∧ k = .int .i64 (q : Nat) ∧ JS s z t p q o ∧ Hid (RH.SI w v o wr))
    (fun _ i k _ => (s.length - (intOf i).toNat) + (z.length - (intOf k).toNat))
  case atStart => exact ⟨0, 0, 0, [], rfl, rfl, JS.zero s z, S0⟩
  case round =>
    clear S0
    obtain ⟨t, p, q, o, rfl, rfl, hT, hS⟩ := hrel
    by_cases hact : p < s.length ∨ q < z.length
    · have HN := Lib.hid (hT.next hact)
      have HO := hT.lt hact
      have hbd := jstep_bd hT.il hT.kl hact
      have P1 := Lib.hid (HV1.out.below hS.out.1)
      have P2 := Lib.hid (HV2.out.below hS.out.1)
      have hil := hT.il
      have hkl := hT.kl
      obtain ⟨av, cv, ev⟩ := hS.out.2.shape
      obtain ⟨d, hd⟩ : ∃ d, o.length = d := ⟨_, rfl⟩
      rw [hd] at ev HO
      subst ev
      have wp : IntKind.i64.wrap ((p : Int) + 1) = ((p + 1 : Nat) : Int) := by rw [wrap_in _ ⟨by omega, by omega⟩]; omega
      have wq : IntKind.i64.wrap ((q : Int) + 1) = ((q + 1 : Nat) : Int) := by rw [wrap_in _ ⟨by omega, by omega⟩]; omega
      have OA : Hid (∀ n o', ((wr.drewN n).alloc o').ownsRow w.heap.size 52 2 (.slice av d cv) d (flat o)) := Lib.hid (fun n o' => by
        have := (hS.out.2.below (bel_drewN wr n)).below (bel_alloc (o := o') (Below.refl _ _))
        unfold RH.Sh at this
        rwa [hd] at this)
      have OB : Hid (∀ o', (wr.alloc o').ownsRow w.heap.size 52 2 (.slice av d cv) d (flat o)) := Lib.hid (fun o' => by
        have := hS.out.2.below (bel_alloc (o := o') (Below.refl _ _))
        unfold RH.Sh at this
        rwa [hd] at this)
      have hsz : Hid (w.heap.size ≤ wr.heap.size) := Lib.hid hS.out.1.size
      have M1 : Hid (d + 1 ≤ maxLen) := Lib.hid (by unfold maxLen; omega)
      have M2 : Hid ((d + 1) * 16 ≤ 140737488355328) := Lib.hid (by omega)
      have hlt := fun r hr => (World.ownsRow.lt (OB.out (.cells #[] 3)) r hr).1
      have SX : Hid (∀ n x y v2 w5, jstep s z p q = ((x, y), (jstep s z p q).2) → w5.ownsRow w.heap.size 52 2 v2 (d + 1) (flat o ++ [.int .i64 x, .int .i64 y]) → ((wr.drewN n).alloc (.cells #[.int .i64 x, .int .i64 y] 52)).grownBy w5 (Value.slice av d cv).ownBlock → RH.SI w v2 (o ++ [(jstep s z p q).1]) w5) := Lib.hid (fun n x y v2 w5 e hown hgrow =>
        ⟨(bel_trans hS.out.1 (bel_trans (bel_drewN wr n) (bel_alloc (Below.refl _ _)))).grown hgrow (by have := hsz.out; have := (bel_drewN wr n).size; simp; omega) hlt, by rw [e]; exact RH.push rfl hd hown⟩)
      clear hlt
      replace hbd := Lib.hid hbd
      by_cases hp : p < s.length
      · have l0 : (p : Int) < (s.length : Int) := by omega
        have d0 : decide ((p : Int) < (s.length : Int)) = true := decide_eq_true l0
        obtain ⟨bs, os, rfl, hbs, hcs⟩ := P1.out.at (by omega)
        obtain ⟨x0, x1⟩ := hcs p hp
        clear hcs
        have e3 : ((p : Int) == (s.length : Int)) = false := by rw [beq_eq_false_iff_ne]; omega
        by_cases hA : q = z.length
        · have E : jstep s z p q = ((gX s p, gR s p), p + 1, q) := by unfold jstep; rw [if_pos (.inl hA)]
          have dA : ((q : Int) == (z.length : Int)) = true := by rw [beq_iff_eq]; omega
          generalize gX s p = x at *
          generalize gR s p = y at *
          go_wp2_with fail
          go_quiet (fail)
          rename_i nq
          go_wp2_with (at_builtin; refine wpList_append_own_at _ rfl _ _ 22 rfl w.heap.size 52 i0 (.agg #[.int .i64 0, .int .i64 0]) 2 16 Try.underlying22 hi.out hz0.out hz1.out hz2.out rfl (by omega) _ _ _ rfl (OA.out _ _) ⟨wr.heap.size, 0, none⟩ 1 1 [.int .i64 x, .int .i64 y] rfl rfl (RH.pair_new _ x y 52) (RH.pair_one x y) M1.out M2.out (by have := hsz.out; simp; omega) ?_)
          intro v2 w5 hown hgrow _ _
          have SN : Hid (RH.SI w v2 (o ++ [(jstep s z p q).1]) w5) := Lib.hid (SX.out _ x y v2 w5 (by rw [E]) hown hgrow)
          clear hown hgrow OA OB SX hS
          rw [E] at HN SN hbd
          go_wp2
          go_roundw
          case rel => exact ⟨t + 1, _, _, _, by first | rfl | go_num, by first | rfl | go_num, HN.out, SN⟩
          case measure =>
            have := hbd.out
            simp [intOf]; omega
        · have dA : ((q : Int) == (z.length : Int)) = false := by rw [beq_eq_false_iff_ne]; omega
          have hqz : q < z.length := by omega
          have l1 : (q : Int) < (z.length : Int) := by omega
          obtain ⟨bz, oz, rfl, hbz, hcz⟩ := P2.out.at (by omega)
          obtain ⟨y0, y1⟩ := hcz q hqz
          clear hcz
          by_cases hB : gX s p < gX z q
          · have E : jstep s z p q = ((gX s p, gR s p), p + 1, q) := by unfold jstep; rw [if_pos (.inr ⟨hp, hB⟩)]
            have dB : decide (gX s p < gX z q) = true := decide_eq_true hB
            generalize gX s p = x at *
            generalize gR s p = y at *
            generalize gX z q = u at *
            generalize gR z q = v at *
            go_wp2_with fail
            go_quiet (fail)
            rename_i nq
            go_wp2_with (at_builtin; refine wpList_append_own_at _ rfl _ _ 22 rfl w.heap.size 52 i0 (.agg #[.int .i64 0, .int .i64 0]) 2 16 Try.underlying22 hi.out hz0.out hz1.out hz2.out rfl (by omega) _ _ _ rfl (OA.out _ _) ⟨wr.heap.size, 0, none⟩ 1 1 [.int .i64 x, .int .i64 y] rfl rfl (RH.pair_new _ x y 52) (RH.pair_one x y) M1.out M2.out (by have := hsz.out; simp; omega) ?_)
            intro v2 w5 hown hgrow _ _
            have SN : Hid (RH.SI w v2 (o ++ [(jstep s z p q).1]) w5) := Lib.hid (SX.out _ x y v2 w5 (by rw [E]) hown hgrow)
            clear hown hgrow OA OB SX hS
            rw [E] at HN SN hbd
            go_wp2
            go_roundw
            case rel => exact ⟨t + 1, _, _, _, by first | rfl | go_num, by first | rfl | go_num, HN.out, SN⟩
            case measure =>
              have := hbd.out
              simp [intOf]; omega
          · have dB : decide (gX s p < gX z q) = false := decide_eq_false hB
            by_cases hD : gX z q < gX s p
            · have E : jstep s z p q = ((gX z q, gR z q), p, q + 1) := by
                unfold jstep; rw [if_neg (by rintro (h | ⟨_, h⟩) <;> omega), if_pos (.inr hD)]
              have dD : decide (gX z q < gX s p) = true := decide_eq_true hD
              generalize gX s p = x at *
              generalize gR s p = y at *
              generalize gX z q = u at *
              generalize gR z q = v at *
              go_wp2_with fail
              go_quiet (fail)
              rename_i nq1
              go_wp2_with fail
              go_quiet (fail)
              rename_i nq
              go_wp2_with (at_builtin; refine wpList_append_own_at _ rfl _ _ 22 rfl w.heap.size 52 i0 (.agg #[.int .i64 0, .int .i64 0]) 2 16 Try.underlying22 hi.out hz0.out hz1.out hz2.out rfl (by omega) _ _ _ rfl (OA.out _ _) ⟨wr.heap.size, 0, none⟩ 1 1 [.int .i64 u, .int .i64 v] rfl rfl (RH.pair_new _ u v 52) (RH.pair_one u v) M1.out M2.out (by have := hsz.out; simp; omega) ?_)
              intro v2 w5 hown hgrow _ _
              have SN : Hid (RH.SI w v2 (o ++ [(jstep s z p q).1]) w5) := Lib.hid (SX.out _ u v v2 w5 (by rw [E]) hown hgrow)
              clear hown hgrow OA OB SX hS
              rw [E] at HN SN hbd
              go_wp2
              go_roundw
              case rel => exact ⟨t + 1, _, _, _, by first | rfl | go_num, by first | rfl | go_num, HN.out, SN⟩
              case measure =>
                have := hbd.out
                simp [intOf]; omega
            · have E : jstep s z p q = ((gX s p, gR s p + gR z q), p + 1, q + 1) := by
                unfold jstep; rw [if_neg (by rintro (h | ⟨_, h⟩) <;> omega), if_neg (by rintro (h | h) <;> omega)]
              have dD : decide (gX z q < gX s p) = false := decide_eq_false hD
              have bx := HS.out p hp
              have by' := HZ.out q hqz
              generalize gX s p = x at *
              generalize gR s p = y at *
              generalize gX z q = u at *
              generalize gR z q = v at *
              have ws : IntKind.i64.wrap (y + v) = y + v := wrap_in _ ⟨by omega, by omega⟩
              have PN : ∀ n, Two wr.heap.size ((wr.drewN n).alloc (.cells #[.int .i64 x, .int .i64 (y + v)] 52)) (.int .i64 x) (.int .i64 (y + v)) := fun n => Two.new (wr.drewN n) _ _ _
              go_wp2_with fail
              go_quiet (fail)
              rename_i nq1
              go_wp2_with fail
              go_quiet (fail)
              rename_i nq
              go_wp2_with fail
              go_region_law (refine RH.step_one rfl (.tmp 77) (.tmp 95) rfl w.heap.size d wr.heap.size 1 (.slice av d cv) o x (y + v) (by simp [Act.eval, Act.put]) (by simp [Act.eval, Act.put]) (OA.out _ _) (by omega) (by have := hsz.out; simp; omega) (by first | exact (PN _).1 | (rw [ws]; exact (PN _).1) | (trace_state; fail)) (by first | exact (PN _).2.1 | (rw [ws]; exact (PN _).2.1) | (trace_state; fail)) ?_; intro v2 w5 hown hgrow)
              all_goals
                have SN : Hid (RH.SI w v2 (o ++ [(jstep s z p q).1]) w5) := Lib.hid (SX.out _ x (y + v) v2 w5 (by rw [E]) hown hgrow)
                clear hown hgrow OA OB SX hS
                rw [E] at HN SN hbd
                go_wp2
                go_roundw
                case rel => exact ⟨t + 1, _, _, _, by first | rfl | go_num, by first | rfl | go_num, HN.out, SN⟩
                case measure =>
                  have := hbd.out
                  simp [intOf]; omega
      · have hq : q < z.length := by omega
        have l0 : ¬ (p : Int) < (s.length : Int) := by omega
        have d0 : decide ((p : Int) < (s.length : Int)) = false := decide_eq_false l0
        have l1 : (q : Int) < (z.length : Int) := by omega
        have d1 : decide ((q : Int) < (z.length : Int)) = true := decide_eq_true l1
        have e3 : ((p : Int) == (s.length : Int)) = true := by rw [beq_iff_eq]; omega
        have dA : ((q : Int) == (z.length : Int)) = false := by rw [beq_eq_false_iff_ne]; omega
        obtain ⟨bz, oz, rfl, hbz, hcz⟩ := P2.out.at (by omega)
        obtain ⟨y0, y1⟩ := hcz q hq
        clear hcz
        have E : jstep s z p q = ((gX z q, gR z q), p, q + 1) := by
          unfold jstep; rw [if_neg (by rintro (h | ⟨h, _⟩) <;> omega), if_pos (.inl (by omega))]
        generalize gX z q = u at *
        generalize gR z q = v at *
        go_wp2_with fail
        go_quiet (fail)
        rename_i nq1
        go_wp2_with fail
        go_quiet (fail)
        rename_i nq
        go_wp2_with (at_builtin; refine wpList_append_own_at _ rfl _ _ 22 rfl w.heap.size 52 i0 (.agg #[.int .i64 0, .int .i64 0]) 2 16 Try.underlying22 hi.out hz0.out hz1.out hz2.out rfl (by omega) _ _ _ rfl (OA.out _ _) ⟨wr.heap.size, 0, none⟩ 1 1 [.int .i64 u, .int .i64 v] rfl rfl (RH.pair_new _ u v 52) (RH.pair_one u v) M1.out M2.out (by have := hsz.out; simp; omega) ?_)
        intro v2 w5 hown hgrow _ _
        have SN : Hid (RH.SI w v2 (o ++ [(jstep s z p q).1]) w5) := Lib.hid (SX.out _ u v v2 w5 (by rw [E]) hown hgrow)
        clear hown hgrow OA OB SX hS
        rw [E] at HN SN hbd
        go_wp2
        go_roundw
        case rel => exact ⟨t + 1, _, _, _, by first | rfl | go_num, by first | rfl | go_num, HN.out, SN⟩
        case measure =>
          have := hbd.out
          simp [intOf]; omega
    · have d1 : decide ((p : Int) < (s.length : Int)) = false := decide_eq_false (by omega)
      have d2 : decide ((q : Int) < (z.length : Int)) = false := decide_eq_false (by omega)
      have ho := hT.done hact
      subst ho
      have U := Lib.hid hS.out.2
      have X := Lib.hid hS.out.1
      clear hS
      go_wp2
      go_returns
      exact ⟨_, rfl, U.out, X.out⟩
end Go.Proofs.Ytmoeccghkpjbgaa

/- The reference of layer 23: fits, Join. -/
namespace Go.Proofs.Ytmoeccghkpjbgaa
open Go.RowKit

set_option maxHeartbeats 16000000 in
set_option maxRecDepth 100000 in
theorem rlAlW_any (v : Value) (s : List (Int × Int)) (w : World) (hv : Pts w v s) (hn : s.length ≤ 64) (hA : ∀ k, k < s.length → 0 ≤ gR s k ∧ gR s k ≤ 21474836480000) :
    Calls Try.prog 39 #[v] w fun e w' => e = .returned (.int .i64 (sm fM s)) ∧ Below w.heap.size w w' := by
  obtain ⟨a, cap, rfl, hcap, hh⟩ := hv
  have NV0 : Hid (Pts w (.slice a s.length cap) s) := ⟨a, cap, rfl, hcap, hh⟩
  clear hh hcap
  have HS := Lib.hid (sm_step fM s)
  have FS := Lib.hid (sm_full fM s)
  have HY : Hid (∀ k, k ≤ s.length → 0 ≤ sm fM (s.take k) ∧ sm fM (s.take k) ≤ 21474836480000 * k) := Lib.hid fun k hk => by
    induction k with
    | zero => simp [sm]
    | succ k ih =>
      have ih := ih (by omega)
      have s1 : sm fM (s.take (k + 1)) = sm fM (s.take k) + gR s k := HS.out k (by omega)
      have := hA k (by omega)
      omega
  have HX := Lib.hid hA
  clear hA
  generalize sm fM s = T at *
  generalize hN : s.length = n at *
  go_enter Try.func39, Try.ntmps39
  go_wp2_with fail
  go_loopw [3, 4] (fun t i wr => ∃ k : Nat, k ≤ n ∧ i = .int .i64 k ∧ t = .int .i64 (sm fM (s.take k)) ∧ Hid (Below w.heap.size w wr)) (fun _ i _ => n - (intOf i).toNat)
  case atStart => exact ⟨0, Nat.zero_le _, rfl, rfl, Lib.hid (Below.refl _ _)⟩
  case round =>
    obtain ⟨k, hk, rfl, rfl, X⟩ := hrel
    have NV := Lib.hid (NV0.out.below X.out)
    by_cases hlt : k < n
    · have s1 := Lib.hid (HS.out k hlt)
      change Hid (sm fM (s.take (k + 1)) = sm fM (s.take k) + gR s k) at s1
      have y := HY.out k (by omega)
      have x := HX.out k hlt
      have l9 : (k : Int) < (n : Int) := by omega
      obtain ⟨b, off, rfl, hb, hc⟩ := NV.out.at (by omega)
      obtain ⟨c0, c1⟩ := hc k (by omega)
      clear hc
      generalize gX s k = p at *
      generalize gR s k = r at *
      generalize sm fM (s.take k) = S at *
      have w1 : IntKind.i64.wrap (S + r) = S + r := wrap_in _ ⟨by omega, by omega⟩
      go_wp2
      go_roundw
      case rel => exact ⟨k + 1, by omega, by go_num, by rw [s1.out], X⟩
      case measure => simp [intOf]; omega
    · obtain rfl : k = n := by omega
      rw [FS.out]
      go_wp2
      go_returns
      exact ⟨rfl, X.out⟩
def fiE (J : List (Int × Int)) : Int := if 32 < J.length then 12 else if 10737418240000 < sm fM J then 15 else 0
set_option maxHeartbeats 8000000 in
set_option maxRecDepth 100000 in
theorem rsFi_any (v : Value) (J : List (Int × Int)) (w : World) (hv : Pts w v J) (hn : J.length ≤ 64) (hA : ∀ k, k < J.length → 0 ≤ gR J k ∧ gR J k ≤ 21474836480000) :
    Calls Try.prog 49 #[v] w fun e w' => e = .returned (.int .i64 (fiE J)) ∧ Below w.heap.size w w' := by
  have HA := Lib.hid (rlAlW_any v J w hv hn hA)
  obtain ⟨a, c, rfl, _, _⟩ := hv.shape
  clear hA
  obtain ⟨n, hN⟩ : ∃ n, J.length = n := ⟨_, rfl⟩
  unfold fiE
  rw [hN] at HA hn ⊢
  generalize sm fM J = T at *
  by_cases h : 32 < n
  · have d : decide (32 < (n : Int)) = true := decide_eq_true (by omega)
    rw [if_pos h]
    go_enter Try.func49, Try.ntmps49
    go_wp2
    go_returns
    exact ⟨rfl, Below.refl _ _⟩
  · have d : decide (32 < (n : Int)) = false := decide_eq_false (by omega)
    rw [if_neg h]
    by_cases g : 10737418240000 < T
    · have d1 : decide (10737418240000 < T) = true := decide_eq_true g
      rw [if_pos g]
      go_enter Try.func49, Try.ntmps49
      go_wp2_with fail
      refine HA.out.mono ?_
      rintro e w1 ⟨rfl, h1⟩
      have X := Lib.hid h1; clear h1
      go_wp2
      go_returns
      exact ⟨rfl, X.out⟩
    · have d1 : decide (10737418240000 < T) = false := decide_eq_false g
      rw [if_neg g]
      go_enter Try.func49, Try.ntmps49
      go_wp2_with fail
      refine HA.out.mono ?_
      rintro e w1 ⟨rfl, h1⟩
      have X := Lib.hid h1; clear h1
      go_wp2
      go_returns
      exact ⟨rfl, X.out⟩
set_option maxHeartbeats 8000000 in
set_option maxRecDepth 100000 in
theorem rsJn_bad1 (v1 v2 : Value) (E : Int) (w : World) (hE : (E != 0) = true) (HC : Hid (Calls Try.prog 19 #[v1] w fun e w' => e = .returned (.int .i64 E) ∧ Below w.heap.size w w')) :
    Calls Try.prog 23 #[v1, v2] w fun e w' => ∃ u, e = .returned (.tuple #[u, .int .i64 1]) ∧ RH.Sh w' w.heap.size u [] ∧ Below w.heap.size w w' := by
  go_enter Try.func23, Try.ntmps23
  go_wp2_with fail
  refine HC.out.mono ?_
  rintro e w1 ⟨rfl, g1⟩
  have X := Lib.hid g1
  clear g1
  go_wp2
  go_returns
  exact ⟨_, rfl, RH.Sh.nil _ _, X.out⟩
set_option maxHeartbeats 8000000 in
set_option maxRecDepth 100000 in
theorem rsJn_bad2 (v1 v2 : Value) (z : List (Int × Int)) (E : Int) (w : World) (HV2 : Hid (Pts w v2 z)) (hE : (E != 0) = true) (HC : Hid (Calls Try.prog 19 #[v1] w fun e w' => e = .returned (.int .i64 0) ∧ Below w.heap.size w w')) (HC2 : Hid (∀ W, Pts W v2 z → Calls Try.prog 19 #[v2] W fun e w' => e = .returned (.int .i64 E) ∧ Below W.heap.size W w')) :
    Calls Try.prog 23 #[v1, v2] w fun e w' => ∃ u, e = .returned (.tuple #[u, .int .i64 1]) ∧ RH.Sh w' w.heap.size u [] ∧ Below w.heap.size w w' := by
  go_enter Try.func23, Try.ntmps23
  go_wp2_with fail
  refine HC.out.mono ?_
  rintro e w1 ⟨rfl, g1⟩
  have X := Lib.hid g1
  clear g1
  go_wp2_with fail
  refine (HC2.out _ (HV2.out.below X.out)).mono ?_
  rintro e w2 ⟨rfl, g1⟩
  replace X := Lib.hid (bel_trans X.out g1)
  clear g1
  go_wp2
  go_returns
  exact ⟨_, rfl, RH.Sh.nil _ _, X.out⟩
set_option maxHeartbeats 8000000 in
set_option maxRecDepth 100000 in
theorem rsJn_ok (v1 v2 : Value) (s z J L : List (Int × Int)) (E : Int) (w : World) (HV1 : Hid (Pts w v1 s)) (HV2 : Hid (Pts w v2 z))
    (HC : Hid (Calls Try.prog 19 #[v1] w fun e w' => e = .returned (.int .i64 0) ∧ Below w.heap.size w w')) (HC2 : Hid (∀ W, Pts W v2 z → Calls Try.prog 19 #[v2] W fun e w' => e = .returned (.int .i64 0) ∧ Below W.heap.size W w'))
    (HJ : Hid (∀ W, Pts W v1 s → Pts W v2 z → Calls Try.prog 48 #[v1, v2] W fun e w' => ∃ u, e = .returned u ∧ RH.Sh w' W.heap.size u J ∧ Below W.heap.size W w'))
    (HF : Hid (∀ u W, Pts W u J → Calls Try.prog 49 #[u] W fun e w' => e = .returned (.int .i64 E) ∧ Below W.heap.size W w')) (hL : Hid (L = if E = 0 then J else [])) :
    Calls Try.prog 23 #[v1, v2] w fun e w' => ∃ u, e = .returned (.tuple #[u, .int .i64 E]) ∧ RH.Sh w' w.heap.size u L ∧ Below w.heap.size w w' := by
  go_enter Try.func23, Try.ntmps23
  go_wp2_with fail
  refine HC.out.mono ?_
  rintro e w1 ⟨rfl, g1⟩
  have X := Lib.hid g1
  clear g1
  go_wp2_with fail
  refine (HC2.out _ (HV2.out.below X.out)).mono ?_
  rintro e w2 ⟨rfl, g1⟩
  replace X := Lib.hid (bel_trans X.out g1)
  clear g1
  go_wp2_with fail
  refine (HJ.out _ (HV1.out.below X.out) (HV2.out.below X.out)).mono ?_
  rintro e w3 ⟨u, rfl, hu, g1⟩
  have U := Lib.hid (hu.base (B' := w.heap.size) X.out.size)
  have N := Lib.hid hu.pts
  replace X := Lib.hid (bel_trans X.out g1)
  clear g1 hu
  go_wp2_with fail
  refine (HF.out _ _ N.out).mono ?_
  rintro e w4 ⟨rfl, g1⟩
  replace U := Lib.hid (U.out.below g1)
  replace X := Lib.hid (bel_trans X.out g1)
  clear g1 HC HC2 HJ HF N
  by_cases h : E = 0
  · have hL2 := hL.out
    rw [if_pos h] at hL2
    subst h hL2
    go_wp2
    go_returns
    exact ⟨_, rfl, U.out, X.out⟩
  · have hL2 := hL.out
    rw [if_neg h] at hL2
    subst hL2
    have d : (E != 0) = true := by simpa using h
    go_wp2
    go_returns
    exact ⟨_, rfl, RH.Sh.nil _ _, X.out⟩
theorem rsJn_any (v1 v2 : Value) (s z : List (Int × Int)) (w : World) (hv1 : Pts w v1 s) (hv2 : Pts w v2 z) :
    Calls Try.prog 23 #[v1, v2] w fun e w' => ∃ u, e = .returned (.tuple #[u, .int .i64 (jnE s z)]) ∧ RH.Sh w' w.heap.size u (jnL s z) ∧ Below w.heap.size w w' := by
  have HC := Lib.hid (rsCh_any v1 s w hv1)
  have HC2 := Lib.hid (fun W h => rsCh_any v2 z W h)
  by_cases h1 : scE s = 0
  · rw [h1] at HC
    by_cases h2 : scE z = 0
    · rw [h2] at HC2
      have hR1 := scE_zero.1 h1
      have hR2 := scE_zero.1 h2
      have e : jnE s z = fiE (jn s z) := by unfold jnE fiE; rw [if_neg (by rw [h1, h2]; simp)]
      refine rsJn_ok v1 v2 s z (jn s z) (jnL s z) (jnE s z) w (Lib.hid hv1) (Lib.hid hv2) HC HC2 (Lib.hid fun W g1 g2 => ?_) (Lib.hid fun u W g => by rw [e]; exact rsFi_any u (jn s z) W g (jn_len hR1 hR2) (jn_bd hR1 hR2)) (Lib.hid rfl)
      obtain ⟨a1, c1, e1, _, _⟩ := id hv1
      obtain ⟨a2, c2, e2, _, _⟩ := id hv2
      subst e1 e2
      exact rsJo_ok a1 a2 c1 c2 s z W (Lib.hid g1) (Lib.hid g2) hR1 hR2
    · have e : jnE s z = 1 := by unfold jnE; rw [if_pos (.inr h2)]
      have e2 : jnL s z = [] := by unfold jnL; rw [e, if_neg (by decide)]
      rw [e, e2]
      exact rsJn_bad2 v1 v2 z _ w (Lib.hid hv2) (by simpa using h2) HC HC2
  · have e : jnE s z = 1 := by unfold jnE; rw [if_pos (.inl h1)]
    have e2 : jnL s z = [] := by unfold jnL; rw [e, if_neg (by decide)]
    rw [e, e2]
    exact rsJn_bad1 v1 v2 _ w (by simpa using h1) HC
end Go.Proofs.Ytmoeccghkpjbgaa

/- slices.Equal at shares. -/
namespace Go.Proofs.Ytmoeccghkpjbgaa
open Go.RowKit

set_option maxHeartbeats 8000000 in
theorem eqS_some (b o n c b2 o2 d : Nat) (xs ys : List (Int × Int)) (B : Bool) (w : World) (hn : n ≤ 9223372036854775807) (hb : b < w.heap.size) (hb2 : b2 < w.heap.size)
    (h1 : Hid (∀ j, j < n → w.cell? ⟨b, o + j * 2, none⟩ = some (.int .i64 (gX xs j)) ∧ w.cell? ⟨b, o + j * 2 + 1, none⟩ = some (.int .i64 (gR xs j))))
    (h2 : Hid (∀ j, j < n → w.cell? ⟨b2, o2 + j * 2, none⟩ = some (.int .i64 (gX ys j)) ∧ w.cell? ⟨b2, o2 + j * 2 + 1, none⟩ = some (.int .i64 (gR ys j))))
    (k1 : Hid ((∃ j, j < n ∧ samP (gX xs j) (gR xs j) (gX ys j) (gR ys j) = false) → B = false)) (k2 : Hid ((∀ j, j < n → samP (gX xs j) (gR xs j) (gX ys j) (gR ys j) = true) → B = true)) :
    Calls Try.prog 36 #[.slice (some ⟨b, o, none⟩) n c, .slice (some ⟨b2, o2, none⟩) n d] w fun e w' => e = .returned (.bool B) ∧ Below w.heap.size w w' := by
  go_enter Try.func36, Try.ntmps36
  go_wp2_with fail
  go_loopw [13] (fun i wr => ∃ k : Nat, k ≤ n ∧ i = .int .i64 k ∧ Hid (Below w.heap.size w wr) ∧ Hid (∀ j, j < k → samP (gX xs j) (gR xs j) (gX ys j) (gR ys j) = true)) (fun i _ => n - (intOf i).toNat)
  case atStart => exact ⟨0, Nat.zero_le _, rfl, Below.refl _ _, fun j hj => by omega⟩
  case round =>
    obtain ⟨k, hk, rfl, hB, ha⟩ := hrel
    by_cases hlt : k < n
    · have c0 : wr.cell? ⟨b, o + k * 2, none⟩ = some (.int .i64 (gX xs k)) := by rw [(bcell hB.out).1 _ _ hb]; exact (h1.out k hlt).1
      have c1 : wr.cell? ⟨b, o + k * 2 + 1, none⟩ = some (.int .i64 (gR xs k)) := by rw [(bcell hB.out).1 _ _ hb]; exact (h1.out k hlt).2
      have c2 : wr.cell? ⟨b2, o2 + k * 2, none⟩ = some (.int .i64 (gX ys k)) := by rw [(bcell hB.out).1 _ _ hb2]; exact (h2.out k hlt).1
      have c3 : wr.cell? ⟨b2, o2 + k * 2 + 1, none⟩ = some (.int .i64 (gR ys k)) := by rw [(bcell hB.out).1 _ _ hb2]; exact (h2.out k hlt).2
      have l1 : (k : Int) < (n : Int) := by omega
      cases hq : samP (gX xs k) (gR xs k) (gX ys k) (gR ys k) with
      | false =>
        have hBf := k1.out ⟨k, hlt, hq⟩
        generalize gX xs k = p at *
        generalize gR xs k = q at *
        generalize gX ys k = x at *
        generalize gR ys k = y at *
        have Q : ∀ W, (binOp .neq 52 (.agg #[.int .i64 p, .int .i64 q]) (.agg #[.int .i64 x, .int .i64 y])).run Try.prog W = .ok (.bool true) W := fun W => by rw [run_neq_shr, hq]; rfl
        clear hq
        subst hBf
        go_wp2_with fail
        go_quiet (fail)
        go_wp2
        go_returns
        exact ⟨rfl, bel_trans hB.out (bel_drewN _ _)⟩
      | true =>
        have ha2 : Hid (∀ j, j < k + 1 → samP (gX xs j) (gR xs j) (gX ys j) (gR ys j) = true) := fun j hj => by
          by_cases e : j = k
          · rw [e]; exact hq
          · exact ha.out j (by omega)
        clear ha
        generalize gX xs k = p at c0 hq
        generalize gR xs k = q at c1 hq
        generalize gX ys k = x at c2 hq
        generalize gR ys k = y at c3 hq
        have Q : ∀ W, (binOp .neq 52 (.agg #[.int .i64 p, .int .i64 q]) (.agg #[.int .i64 x, .int .i64 y])).run Try.prog W = .ok (.bool false) W := fun W => by rw [run_neq_shr, hq]; rfl
        clear hq
        go_wp2_with fail
        go_quiet (fail)
        go_wp2
        go_roundw
        case rel => exact ⟨k + 1, by omega, by go_num, bel_trans hB.out (bel_drewN _ _), ha2⟩
        case measure => simp [intOf]; omega
    · obtain rfl : k = n := by omega
      obtain rfl := k2.out ha.out
      go_wp2
      go_returns
      exact ⟨rfl, hB.out⟩
theorem eqS_zero (a : Option Addr) (c : Nat) (a2 : Option Addr) (d : Nat) (w : World) :
    Calls Try.prog 36 #[.slice a 0 c, .slice a2 0 d] w fun e w' => e = .returned (.bool true) ∧ Below w.heap.size w w' := by
  go_enter Try.func36, Try.ntmps36
  go_wp2_with fail
  go_loopw [13] (fun i wr => i = .int .i64 0 ∧ w = wr) (fun _ _ => 0)
  case atStart => exact ⟨rfl, rfl⟩
  case round =>
    obtain ⟨rfl, rfl⟩ := hrel
    go_wp2
    go_returns
    exact ⟨rfl, Below.refl _ _⟩
theorem eqS_lens (a : Option Addr) (n c : Nat) (a2 : Option Addr) (m d : Nat) (w : World) (h : n ≠ m) (hn : n ≤ 9223372036854775807) (hm : m ≤ 9223372036854775807) :
    Calls Try.prog 36 #[.slice a n c, .slice a2 m d] w fun e w' => e = .returned (.bool false) ∧ Below w.heap.size w w' := by
  have g : ((n : Int) != (m : Int)) = true := by rw [bne_iff_ne]; omega
  go_enter Try.func36, Try.ntmps36
  go_wp2
  go_returns
  exact ⟨rfl, Below.refl _ _⟩
theorem eqS_any (v u : Value) (xs ys : List (Int × Int)) (w : World) (hv : Pts w v xs) (hu : Pts w u ys) :
    Calls Try.prog 36 #[v, u] w fun e w' => e = .returned (.bool (decide (xs = ys))) ∧ Below w.heap.size w w' := by
  obtain ⟨a, c, rfl, hl, hh⟩ := hv
  obtain ⟨a2, d, rfl, hl2, hh2⟩ := hu
  have ext : ∀ j, (xs.getD j (0, 0) = ys.getD j (0, 0)) ↔ samP (gX xs j) (gR xs j) (gX ys j) (gR ys j) = true := fun j => by
    unfold samP gX gR
    rw [Bool.and_eq_true, beq_iff_eq, beq_iff_eq]
    exact ⟨fun h => by rw [h]; exact ⟨rfl, rfl⟩, fun h => Prod.ext h.1 h.2⟩
  by_cases hn : xs.length = ys.length
  · rcases hh with h0 | ⟨b, o, rfl, hb, hc⟩
    · have e1 := List.length_eq_zero_iff.1 h0
      have e2 : ys = [] := List.length_eq_zero_iff.1 (by omega)
      subst e1 e2
      exact eqS_zero a c a2 d w
    · rcases hh2 with h0 | ⟨b2, o2, rfl, hb2, hc2⟩
      · have e1 := List.length_eq_zero_iff.1 h0
        have e2 : xs = [] := List.length_eq_zero_iff.1 (by omega)
        subst e1 e2
        exact eqS_zero _ c a2 d w
      · rw [← hn]
        refine eqS_some b o _ c b2 o2 d xs ys _ w (by omega) hb hb2 (Lib.hid hc) (Lib.hid fun j hj => hc2 j (by omega)) (Lib.hid ?_) (Lib.hid ?_)
        · rintro ⟨j, hj, h⟩
          rw [decide_eq_false_iff_not]
          intro e
          have := (ext j).1 (by rw [e])
          rw [h] at this
          cases this
        · intro h
          rw [decide_eq_true_iff]
          apply List.ext_getElem hn
          intro j h1 h2
          have := (ext j).2 (h j h1)
          rw [List.getD_eq_getElem?_getD, List.getD_eq_getElem?_getD, List.getElem?_eq_getElem h1, List.getElem?_eq_getElem h2] at this
          exact this
  · rw [decide_eq_false (fun e => hn (by rw [e]))]
    exact eqS_lens a _ c a2 _ d w hn (by omega) (by omega)
theorem equal_any (v u : Value) (xs ys : List Int) (w : World) (hv : Ins w v xs) (hu : Ins w u ys) :
    Calls Try.prog 21 #[v, u] w fun e w' => e = .returned (.bool (xs == ys)) ∧ Below w.heap.size w w' := by
  obtain ⟨a, c, rfl, hl, hv⟩ := hv
  obtain ⟨b, d, rfl, hm, hu⟩ := hu
  by_cases hlen : xs.length = ys.length
  · by_cases h0 : xs.length = 0
    · have h1 : ys.length = 0 := by omega
      refine (show Calls Try.prog 21 #[.slice a xs.length c, .slice b ys.length d] w _ by rw [h0]; exact Try.slices_Equal_int_empty a b c ys.length d w (by omega)).mono fun _ w' g => ⟨?_, by rw [g.2]; exact Below.refl _ _⟩
      rw [g.1, List.length_eq_zero_iff.1 h0, List.length_eq_zero_iff.1 h1]; rfl
    · rcases hv with hv | ⟨b1, o1, rfl, _, hc1⟩
      · omega
      rcases hu with hu | ⟨b2, o2, rfl, _, hc2⟩
      · omega
      refine (Try.slices_Equal_int b1 o1 xs.length c b2 o2 ys.length d xs ys w (Nat.le_refl _) (Nat.le_refl _) (by omega) (by omega) hc1 hc2).mono fun _ w' g => ⟨?_, ?_⟩
      · rw [g.1, List.take_length, List.take_length]
      · obtain ⟨q, hq⟩ := g.2; rw [hq]; exact bel_drewN _ _
  · refine (Try.slices_Equal_int_lens a b xs.length c ys.length d w hlen).mono fun _ w' g => ⟨?_, by rw [g.2]; exact Below.refl _ _⟩
    rw [g.1]
    congr 2
    symm
    rw [beq_eq_false_iff_ne]
    intro h; exact hlen (by rw [h])
end Go.Proofs.Ytmoeccghkpjbgaa

/- The statements about layer 23: the examples of the chapter hold. -/
namespace Go.Proofs.Ytmoeccghkpjbgaa
open Go.RowKit

theorem aw_tk : tkE [(2, 10), (5, 21)] 10 = 0 ∧ tkA [(2, 10), (5, 21)] 10 = [(2, 3), (5, 7)] ∧ tkB [(2, 10), (5, 21)] 10 = [(2, 7), (5, 14)] := by decide +kernel
theorem aw_jn : jnE [(2, 10), (5, 21)] [(1, 4), (5, 1)] = 0 ∧ jnL [(2, 10), (5, 21)] [(1, 4), (5, 1)] = [(1, 4), (2, 10), (5, 22)] := by decide +kernel
theorem aw_sp : spE [(2, 10), (5, 20)] 100 = 0 ∧ spP [(2, 10), (5, 20)] 100 = [33, 67] := by decide +kernel
theorem eqS_yes (v u : Value) (xs : List (Int × Int)) (w : World) (hv : Pts w v xs) (hu : Pts w u xs) :
    Calls Try.prog 36 #[v, u] w fun e w' => e = .returned (.bool true) ∧ Below w.heap.size w w' := by
  have := eqS_any v u xs xs w hv hu
  rwa [show decide (xs = xs) = true by simp] at this
theorem eqI_yes (v u : Value) (xs : List Int) (w : World) (hv : Ins w v xs) (hu : Ins w u xs) :
    Calls Try.prog 21 #[v, u] w fun e w' => e = .returned (.bool true) ∧ Below w.heap.size w w' := by
  have := equal_any v u xs xs w hv hu
  rwa [show (xs == xs) = true by simp] at this
theorem ins_litW (w : World) (zs : List Int) (cs : List Value) (h : cs = zs.map (Value.int .i64)) (hn : zs.length ≤ 1000) :
    Ins (w.alloc (.cells cs.toArray 3)) (.slice (some ⟨w.heap.size, 0, none⟩) zs.length zs.length) zs := by
  refine ⟨_, _, rfl, by omega, .inr ⟨w.heap.size, 0, rfl, by simp, fun j hj => ?_⟩⟩
  subst h
  rw [World.cell?_alloc_new]
  simp [List.getD_eq_getElem?_getD, List.getElem?_eq_getElem hj]
set_option maxHeartbeats 16000000 in
set_option maxRecDepth 100000 in
theorem awakeS_any (w : World) : Calls Try.prog 10 #[] w fun e w' => e = .returned (.bool true) ∧ Below w.heap.size w w' := by
  obtain ⟨t1, t2, t3⟩ := aw_tk
  obtain ⟨j1, j2⟩ := aw_jn
  obtain ⟨s1, s2⟩ := aw_sp
  have HT := Lib.hid (fun v W h => shTk_any v [(2, 10), (5, 21)] 10 W h)
  rw [t1, t2, t3] at HT
  have HJ := Lib.hid (fun v u W h h' => shJn_any v u [(2, 10), (5, 21)] [(1, 4), (5, 1)] W h h')
  rw [j1, j2] at HJ
  have HP := Lib.hid (fun v W h => shPa_any v [(2, 10), (5, 20)] 100 W h)
  rw [s1, s2] at HP
  have L0 := Lib.hid (pts_litT 52 w [(2, 10), (5, 21)] [.int .i64 2, .int .i64 10, .int .i64 5, .int .i64 21] rfl (by simp))
  have X : Hid (Below w.heap.size w (w.alloc (.cells #[.int .i64 2, .int .i64 10, .int .i64 5, .int .i64 21] 52))) := Lib.hid (bel_alloc (Below.refl _ _))
  clear t1 t2 t3 j1 j2 s1 s2
  go_enter Try.func10, Try.ntmps10
  go_wp2_with fail
  refine (HT.out _ _ L0.out).mono ?_
  rintro e w1 ⟨u1, u2, rfl, ⟨g1, g2⟩, h1⟩
  have U1 := Lib.hid g1.pts
  have U2 := Lib.hid g2.pts
  replace L0 := Lib.hid (L0.out.below h1)
  replace X := Lib.hid (bel_trans X.out h1)
  clear h1 g1 g2 HT
  have L1 := Lib.hid (pts_litT 52 w1 [(1, 4), (5, 1)] [.int .i64 1, .int .i64 4, .int .i64 5, .int .i64 1] rfl (by simp))
  have hx : Below w1.heap.size w1 (w1.alloc (.cells #[.int .i64 1, .int .i64 4, .int .i64 5, .int .i64 1] 52)) := bel_alloc (Below.refl _ _)
  replace L0 := Lib.hid (L0.out.below hx)
  replace U1 := Lib.hid (U1.out.below hx)
  replace U2 := Lib.hid (U2.out.below hx)
  replace X := Lib.hid (bel_trans X.out hx)
  clear hx
  go_wp2_with fail
  refine (HJ.out _ _ _ L0.out L1.out).mono ?_
  rintro e w2 ⟨u3, rfl, g1, h1⟩
  have U3 := Lib.hid g1.pts
  replace U1 := Lib.hid (U1.out.below h1)
  replace U2 := Lib.hid (U2.out.below h1)
  replace X := Lib.hid (bel_trans X.out h1)
  clear h1 g1 HJ L0 L1
  have L2 := Lib.hid (pts_litT 52 w2 [(2, 10), (5, 20)] [.int .i64 2, .int .i64 10, .int .i64 5, .int .i64 20] rfl (by simp))
  have hx : Below w2.heap.size w2 (w2.alloc (.cells #[.int .i64 2, .int .i64 10, .int .i64 5, .int .i64 20] 52)) := bel_alloc (Below.refl _ _)
  replace U1 := Lib.hid (U1.out.below hx)
  replace U2 := Lib.hid (U2.out.below hx)
  replace U3 := Lib.hid (U3.out.below hx)
  replace X := Lib.hid (bel_trans X.out hx)
  clear hx
  go_wp2_with fail
  refine (HP.out _ _ L2.out).mono ?_
  rintro e w3 ⟨u4, rfl, g1, h1⟩
  have U4 := Lib.hid g1
  replace U1 := Lib.hid (U1.out.below h1)
  replace U2 := Lib.hid (U2.out.below h1)
  replace U3 := Lib.hid (U3.out.below h1)
  replace X := Lib.hid (bel_trans X.out h1)
  clear h1 g1 HP L2
  have L := Lib.hid (pts_litT 52 w3 [(2, 3), (5, 7)] [.int .i64 2, .int .i64 3, .int .i64 5, .int .i64 7] rfl (by simp))
  have hx : Below w3.heap.size w3 (w3.alloc (.cells #[.int .i64 2, .int .i64 3, .int .i64 5, .int .i64 7] 52)) := bel_alloc (Below.refl _ _)
  replace U1 := Lib.hid (U1.out.below hx)
  replace U2 := Lib.hid (U2.out.below hx)
  replace U3 := Lib.hid (U3.out.below hx)
  replace U4 := Lib.hid (U4.out.below hx)
  replace X := Lib.hid (bel_trans X.out hx)
  clear hx
  go_wp2_with fail
  refine (eqS_yes _ _ [(2, 3), (5, 7)] _ U1.out L.out).mono ?_
  rintro e w4 ⟨rfl, h1⟩
  replace U2 := Lib.hid (U2.out.below h1)
  replace U3 := Lib.hid (U3.out.below h1)
  replace U4 := Lib.hid (U4.out.below h1)
  replace X := Lib.hid (bel_trans X.out h1)
  clear h1 L U1
  have L := Lib.hid (pts_litT 52 w4 [(2, 7), (5, 14)] [.int .i64 2, .int .i64 7, .int .i64 5, .int .i64 14] rfl (by simp))
  have hx : Below w4.heap.size w4 (w4.alloc (.cells #[.int .i64 2, .int .i64 7, .int .i64 5, .int .i64 14] 52)) := bel_alloc (Below.refl _ _)
  replace U2 := Lib.hid (U2.out.below hx)
  replace U3 := Lib.hid (U3.out.below hx)
  replace U4 := Lib.hid (U4.out.below hx)
  replace X := Lib.hid (bel_trans X.out hx)
  clear hx
  go_wp2_with fail
  refine (eqS_yes _ _ [(2, 7), (5, 14)] _ U2.out L.out).mono ?_
  rintro e w5 ⟨rfl, h1⟩
  replace U3 := Lib.hid (U3.out.below h1)
  replace U4 := Lib.hid (U4.out.below h1)
  replace X := Lib.hid (bel_trans X.out h1)
  clear h1 L U2
  have L := Lib.hid (pts_litT 52 w5 [(1, 4), (2, 10), (5, 22)] [.int .i64 1, .int .i64 4, .int .i64 2, .int .i64 10, .int .i64 5, .int .i64 22] rfl (by simp))
  have hx : Below w5.heap.size w5 (w5.alloc (.cells #[.int .i64 1, .int .i64 4, .int .i64 2, .int .i64 10, .int .i64 5, .int .i64 22] 52)) := bel_alloc (Below.refl _ _)
  replace U3 := Lib.hid (U3.out.below hx)
  replace U4 := Lib.hid (U4.out.below hx)
  replace X := Lib.hid (bel_trans X.out hx)
  clear hx
  go_wp2_with fail
  refine (eqS_yes _ _ [(1, 4), (2, 10), (5, 22)] _ U3.out L.out).mono ?_
  rintro e w6 ⟨rfl, h1⟩
  replace U4 := Lib.hid (U4.out.below h1)
  replace X := Lib.hid (bel_trans X.out h1)
  clear h1 L U3
  have L := Lib.hid (ins_litW w6 [33, 67] [.int .i64 33, .int .i64 67] rfl (by simp))
  have hx : Below w6.heap.size w6 (w6.alloc (.cells #[.int .i64 33, .int .i64 67] 3)) := bel_alloc (Below.refl _ _)
  replace U4 := Lib.hid (U4.out.below hx)
  replace X := Lib.hid (bel_trans X.out hx)
  clear hx
  go_wp2_with fail
  refine (eqI_yes _ _ [33, 67] _ U4.out L.out).mono ?_
  rintro e w7 ⟨rfl, h1⟩
  replace X := Lib.hid (bel_trans X.out h1)
  clear h1 L U4
  go_wp2
  go_returns
  exact ⟨rfl, X.out⟩
end Go.Proofs.Ytmoeccghkpjbgaa

/- How the arguments of the statements about layer 23 are opened. -/
namespace Go.Proofs.Ytmoeccghkpjbgaa
open Go.ChangeShapes Go.WideShapes Go.ChangeAt Go.RowKit Go.Joins

theorem own : ownKnob Try.prog.godebug = none := by kernel_rfl
theorem laidOut : laidOutB Try.prog = true := by kernel_rfl
theorem wf_bd {n : Int} (h : (Lit.int .i64 n).wf = true) : -9223372036854775808 ≤ n ∧ n ≤ 9223372036854775807 := by
  have := bounds_i64 h
  omega
set_option maxRecDepth 100000 in
theorem open_shs_at {H : Type} {enc : TypeId × Value → H} {w : World} {base fuel : Nat} {spare : Nat → Bool} {held : Bool} {v : Value} {y : DataW H × List MemPlace} (hs : ∀ k, spare k = true)
    (hf : DataW.trod enc Try.prog w base spare held fuel 22 [v] = some y) :
    ∃ l : List (Int × Int), Pts w v l := by
  rcases Deep.open_slice_pairs Try.underlying22 Try.underlying52 (by kernel_rfl) rfl rfl (by kernel_rfl) (by kernel_rfl) hf with ⟨hcs, _⟩ | ⟨x, len0, cap0, m, n, V0, V1, D0, D1, P0, P1, hcs, _, hl, hm, hmm, _, hi⟩
  · simp only [List.cons.injEq, and_true] at hcs
    subst hcs
    exact ⟨[], none, 0, rfl, ⟨by simp, by omega⟩, .inl rfl⟩
  · simp only [List.cons.injEq, and_true] at hcs
    subst hcs
    unfold maxLen at hm
    rw [hs] at hmm
    simp only [if_true] at hmm
    subst hmm
    have hint : ∀ i, i < len0 → ∃ q : Int × Int, w.cell? (x.add (i * 2)) = some (.int .i64 q.1) ∧ w.cell? (x.add (i * 2 + 1)) = some (.int .i64 q.2) := by
      intro i hlt
      obtain ⟨h0, h1, h2, h3⟩ := hi i (by omega)
      obtain ⟨a, ea, _, _⟩ := DataW.trod_int (k := .i64) Try.underlying3 h2
      obtain ⟨b, eb, _, _⟩ := DataW.trod_int (k := .i64) Try.underlying3 h3
      simp only [List.cons.injEq, and_true] at ea eb
      exact ⟨(a, b), by rw [h0, ea], by rw [h1, eb]⟩
    let f : Nat → Int × Int := fun i => if hlt : i < len0 then (hint i hlt).choose else (0, 0)
    have hf2 : ∀ i, i < len0 → w.cell? (x.add (i * 2)) = some (.int .i64 (f i).1) ∧ w.cell? (x.add (i * 2 + 1)) = some (.int .i64 (f i).2) := by
      intro i hlt
      have := (hint i hlt).choose_spec
      simp only [f, dif_pos hlt]
      exact this
    have hlen : ((List.range len0).map f).length = len0 := by simp
    refine ⟨(List.range len0).map f, some x, m, by rw [hlen], by rw [hlen]; omega, ?_⟩
    rw [hlen]
    by_cases h0 : len0 = 0
    · exact .inl h0
    · right
      obtain ⟨b, off, spot⟩ := x
      have hspot : spot = none := by simpa [Addr.add] using World.cell?_spot (hf2 0 (by omega)).1
      subst hspot
      have hb := World.block_lt_of_cell? w _ (hf2 0 (by omega)).1
      refine ⟨b, off, rfl, by simpa [Addr.add] using hb, fun j hj => ?_⟩
      obtain ⟨g0, g1⟩ := hf2 j hj
      rw [Go.WideShapes.add_plain] at g0 g1
      unfold gX gR
      rw [List.getD_eq_getElem?_getD, List.getElem?_map, List.getElem?_range hj]
      exact ⟨g0, by rw [Nat.add_assoc]; exact g1⟩
set_option maxRecDepth 100000 in
theorem open_shs {H : Type} {enc : TypeId × Value → H} {w : World} {r : Reach} {b0 : Nat} {v : Value} {d : DataW H} {p : List MemPlace}
    (hv : Value.okWide Try.prog w r b0 22 v) (h : DataW.Trod enc Try.prog w 0 (fun _ => true) true 22 v d p) :
    ∃ l : List (Int × Int), Pts w v l := by
  obtain ⟨a0, len0, cap0, rfl⟩ := okWide_slice Try.underlying22 hv
  obtain ⟨fuel, hf⟩ := h
  exact open_shs_at (fun _ => rfl) hf
theorem wf_u8 {n : Int} (h : (Lit.int .u8 n).wf = true) : 0 ≤ n ∧ n ≤ 255 := by
  have := bounds_u8 h
  omega
set_option maxRecDepth 100000 in
/-- the four cells of a lot -/
theorem cells_lot {H : Type} {enc : TypeId × Value → H} {w : World} {base fuel : Nat} {spare : Nat → Bool} {held : Bool} {c0 c1 c2 c3 : Value} {y : DataW H × List MemPlace} (hs : ∀ k, spare k = true)
    (hf : DataW.trod enc Try.prog w base spare held fuel 43 [c0, c1, c2, c3] = some y) :
    ∃ c : Lt, ∃ a cap, (c0 = .int .i64 c.id ∧ c1 = .int .i64 c.al ∧ c2 = .int .i64 c.ms ∧ c3 = .slice a c.sh.length cap) ∧ Pts w (.slice a c.sh.length cap) c.sh := by
  obtain ⟨y0, y1, y2, n, _, _, h0, h1, h2⟩ := Deep.trod_struct3 Try.underlying43 hf
  have k0 : DataW.trod enc Try.prog w base spare held n 3 [c0] = some y0 := by
    have := h0
    simpa [show Try.prog.cellsOf 3 = 1 by kernel_rfl] using this
  have k1 : DataW.trod enc Try.prog w base spare held n 41 [c1, c2] = some y1 := by
    have := h1
    simpa [show Try.prog.cellsOf 41 = 2 by kernel_rfl] using this
  have k2 : DataW.trod enc Try.prog w base spare held n 22 [c3] = some y2 := by
    have := h2
    simpa [show Try.prog.cellsOf 22 = 1 by kernel_rfl] using this
  obtain ⟨z0, z1, n', _, _, g0, g1⟩ := trod_struct2 Try.underlying41 k1
  obtain ⟨d, e0, _, w0⟩ := DataW.trod_int (k := .i64) Try.underlying3 k0
  obtain ⟨A, e1, _, w1⟩ := DataW.trod_int (k := .i64) Try.underlying3 g0
  obtain ⟨M, e2, _, w2⟩ := DataW.trod_int (k := .i64) Try.underlying3 g1
  obtain ⟨l, hl⟩ := open_shs_at hs k2
  rw [show Try.prog.cellsOf 3 = 1 by kernel_rfl] at e1 e2
  obtain ⟨a, cap, rfl, _, _⟩ := hl.shape
  exact ⟨⟨d, A, M, l⟩, a, cap, ⟨by simpa using e0, by simpa using e1, by simpa using e2, rfl⟩, hl⟩
set_option maxRecDepth 100000 in
/-- a lot by value -/
theorem open_lot {H : Type} {enc : TypeId × Value → H} {w : World} {r : Reach} {b0 : Nat} {v : Value} {d : DataW H} {p : List MemPlace}
    (hv : Value.okWide Try.prog w r b0 43 v) (h : DataW.Trod enc Try.prog w 0 (fun _ => true) true 43 v d p) : ∃ c : Lt, ∃ a cap, v = ltV c a cap ∧ Pts w (.slice a c.sh.length cap) c.sh := by
  obtain ⟨cs, rfl, hsz⟩ := okWide_struct Try.underlying43 hv
  obtain ⟨c0, c1, c2, c3, rfl⟩ : ∃ c0 c1 c2 c3, cs = #[c0, c1, c2, c3] := by
    have h4 : cs.size = 4 := hsz.trans (by kernel_rfl)
    obtain ⟨l⟩ := cs
    match l, h4 with
    | [c0, c1, c2, c3], _ => exact ⟨c0, c1, c2, c3, rfl⟩
  obtain ⟨fuel, hf⟩ := h
  obtain ⟨c, a, cap, ⟨rfl, rfl, rfl, rfl⟩, hp⟩ := cells_lot (fun _ => rfl) hf
  exact ⟨c, a, cap, rfl, hp⟩
set_option maxRecDepth 100000 in
/-- a slice of lots -/
theorem open_lts {H : Type} {enc : TypeId × Value → H} {w : World} {r : Reach} {b0 : Nat} {v : Value} {d : DataW H} {p : List MemPlace}
    (hv : Value.okWide Try.prog w r b0 39 v) (h : DataW.Trod enc Try.prog w 0 (fun _ => true) true 39 v d p) : ∃ l : List Lt, Lts w v l := by
  obtain ⟨a0, len0, cap0, rfl⟩ := okWide_slice Try.underlying39 hv
  obtain ⟨fuel, hf⟩ := h
  rcases Deep.open_slice Try.underlying39 hf with ⟨hcs, _⟩ | ⟨x, l, c, m, n, D, Pl, hcs, _, hl, hm, hmm, _, hi⟩
  · simp [Value.cells] at hcs
    obtain ⟨rfl, rfl, rfl⟩ := hcs
    exact ⟨[], none, 0, rfl, ⟨by simp, by omega⟩, .inl rfl⟩
  · simp [Value.cells] at hcs
    obtain ⟨rfl, rfl, rfl⟩ := hcs
    unfold maxLen at hm
    simp only [if_true] at hmm
    subst hmm
    have ce : Try.prog.cellsOf 43 = 4 := by kernel_rfl
    rw [ce] at hi
    have hint : ∀ i, i < len0 → ∃ c : Lt, ∃ a cap, w.cell? (x.add (i * 4)) = some (.int .i64 c.id) ∧ w.cell? (x.add (i * 4 + 1)) = some (.int .i64 c.al) ∧ w.cell? (x.add (i * 4 + 2)) = some (.int .i64 c.ms) ∧ w.cell? (x.add (i * 4 + 3)) = some (.slice a c.sh.length cap) ∧ Pts w (.slice a c.sh.length cap) c.sh := by
      intro i hlt
      obtain ⟨cs', h1, h2⟩ := hi i (by omega)
      obtain ⟨_, hlen, hcell⟩ := World.cells?_some h1
      match cs', hlen with
      | [v0, v1, v2, v3], _ =>
        have e0 := hcell 0 (by omega)
        have e1 := hcell 1 (by omega)
        have e2 := hcell 2 (by omega)
        have e3 := hcell 3 (by omega)
        rw [Deep.add_add] at e0 e1 e2 e3
        obtain ⟨c, a, cap, ⟨rfl, rfl, rfl, rfl⟩, hp⟩ := cells_lot (fun _ => rfl) h2
        exact ⟨c, a, cap, by simpa using e0, by simpa using e1, by simpa using e2, by simpa using e3, hp⟩
    let f : Nat → Lt := fun i => if hlt : i < len0 then (hint i hlt).choose else zL
    have hf2 : ∀ i, i < len0 → ∃ a cap, w.cell? (x.add (i * 4)) = some (.int .i64 (f i).id) ∧ w.cell? (x.add (i * 4 + 1)) = some (.int .i64 (f i).al) ∧ w.cell? (x.add (i * 4 + 2)) = some (.int .i64 (f i).ms) ∧ w.cell? (x.add (i * 4 + 3)) = some (.slice a (f i).sh.length cap) ∧ Pts w (.slice a (f i).sh.length cap) (f i).sh := by
      intro i hlt
      have := (hint i hlt).choose_spec
      simp only [f, dif_pos hlt]
      exact this
    have hlen : ((List.range len0).map f).length = len0 := by simp
    refine ⟨(List.range len0).map f, some x, m, by rw [hlen], by rw [hlen]; omega, ?_⟩
    rw [hlen]
    by_cases h0 : len0 = 0
    · exact .inl h0
    · right
      obtain ⟨b, off, spot⟩ := x
      obtain ⟨_, _, q0, _⟩ := hf2 0 (by omega)
      have hspot : spot = none := by simpa [Addr.add] using World.cell?_spot q0
      subst hspot
      have hb := World.block_lt_of_cell? w _ q0
      refine ⟨b, off, rfl, by simpa [Addr.add] using hb, fun j hj => ?_⟩
      obtain ⟨a, cap, g0, g1, g2, g3, g⟩ := hf2 j hj
      rw [Go.WideShapes.add_plain] at g0 g1 g2 g3
      have e : gL ((List.range len0).map f) j = f j := by
        unfold gL
        rw [List.getD_eq_getElem?_getD, List.getElem?_map, List.getElem?_range hj]
        rfl
      rw [e]
      exact ⟨a, cap, g0, by rw [Nat.add_assoc]; exact g1, by rw [Nat.add_assoc]; exact g2, by rw [Nat.add_assoc]; exact g3, g⟩
end Go.Proofs.Ytmoeccghkpjbgaa

/- Parts of a sum: a greater share never has a lesser part; joining with nothing. -/
namespace Go.Proofs.Ytmoeccghkpjbgaa
open Go.RowKit

/-- what was given was greatest -/
structure Inv2 (qs rs ps ts : List Int) : Prop where
  l1 : ps.length = qs.length
  l2 : ts.length = rs.length
  each : ∀ i, i < rs.length → (ts.getD i 0 = rs.getD i 0 ∧ ps.getD i 0 = qs.getD i 0) ∨ (ts.getD i 0 = 0 ∧ 0 < rs.getD i 0 ∧ ps.getD i 0 = qs.getD i 0 + 1)
  gr : ∀ i j, i < rs.length → j < rs.length → ps.getD i 0 = qs.getD i 0 + 1 → ps.getD j 0 = qs.getD j 0 → rs.getD j 0 ≤ rs.getD i 0
theorem inv2_give (qs rs : List Int) (hl : qs.length = rs.length) : ∀ k, k ≤ posN rs → Inv2 qs rs (give k (qs, rs)).1 (give k (qs, rs)).2
  | 0, _ => ⟨rfl, rfl, fun _ _ => .inl ⟨rfl, rfl⟩, fun i j _ _ h _ => by
      have : qs.getD i 0 = qs.getD i 0 + 1 := h
      omega⟩
  | k + 1, hk => by
    have I := inv2_give qs rs hl k (by omega)
    have I0 := inv_give qs rs hl k (by omega)
    simp only [give, giveStep]
    generalize (give k (qs, rs)).1 = ps at *
    generalize (give k (qs, rs)).2 = ts at *
    have hp : 0 < posN ts := by have := I0.cnt; omega
    obtain ⟨x, hx, hx0⟩ := posN_pos ts hp
    obtain ⟨_, p1, p2, p3⟩ := pick_spec ts (by intro h; rw [h] at hx; cases hx)
    have hm : 0 < ts.getD (pick ts) 0 := by have := p3 x hx; omega
    generalize pick ts = g at *
    have l1 := I.l1
    have l2 := I.l2
    have ge : ∀ j, j < rs.length → ts.getD j 0 ≤ ts.getD g 0 := fun j hj => by
      apply p3
      rw [List.getD_eq_getElem?_getD, List.getElem?_eq_getElem (by omega)]
      exact List.getElem_mem _
    refine ⟨by simp [l1], by simp [l2], fun i hi => ?_, fun i j hi hj => ?_⟩
    · rw [get_set ts g i 0 p1, get_set ps g i _ (by omega)]
      by_cases h : g = i
      · subst h
        rw [if_pos rfl, if_pos rfl]
        right
        rcases I.each g hi with ⟨e1, e2⟩ | ⟨e1, _, _⟩
        · exact ⟨rfl, by omega, by omega⟩
        · omega
      · rw [if_neg h, if_neg h]; exact I.each i hi
    · rw [get_set ps g i _ (by omega), get_set ps g j _ (by omega)]
      have gj := ge j hj
      by_cases h : g = i
      · subst h
        rw [if_pos rfl]
        by_cases h2 : g = j
        · subst h2; intro _ _; exact Int.le_refl _
        · rw [if_neg h2]
          intro _ e2
          have a1 : ts.getD g 0 = rs.getD g 0 := by rcases I.each g hi with ⟨e, _⟩ | ⟨e, _, _⟩ <;> omega
          have a2 : ts.getD j 0 = rs.getD j 0 := by rcases I.each j hj with ⟨e, _⟩ | ⟨_, _, e⟩ <;> omega
          omega
      · rw [if_neg h]
        by_cases h2 : g = j
        · subst h2
          rw [if_pos rfl]
          intro e1 e2
          exfalso
          rcases I.each g hj with ⟨e, e3⟩ | ⟨e, _, _⟩
          · omega
          · omega
        · rw [if_neg h2]; exact I.gr i j hi hj
theorem divP_mono (a : Int) (ws : List Int) (h : divE a ws = 0) {i k : Nat} (hi : i < ws.length) (hk : k < ws.length) (hw : ws.getD k 0 < ws.getD i 0) : (divP a ws).getD k 0 ≤ (divP a ws).getD i 0 := by
  obtain ⟨h1, h2⟩ := divE_zero h
  obtain ⟨t1, t2, t3, t4, t5⟩ := totE_zero h2
  have I := inv2_give (divQ a ws) (divR a ws) (by simp [divQ, divR]) (divL a ws) (divL_pos a ws h)
  have e : (give (divL a ws) (divQ a ws, divR a ws)).1 = divP a ws := by unfold divP; rw [if_pos h]
  rw [e] at I
  have lr : (divR a ws).length = ws.length := by simp [divR]
  have Ei := I.each i (by omega)
  have Ek := I.each k (by omega)
  have G := I.gr k i (by omega) (by omega)
  rw [divQ_get a ws i hi, divR_get a ws i hi] at Ei
  rw [divQ_get a ws k hk, divR_get a ws k hk] at Ek
  rw [divQ_get a ws i hi, divR_get a ws i hi, divQ_get a ws k hk, divR_get a ws k hk] at G
  have a0 := ((isAm_iff a).1 h1).1
  generalize (divP a ws).getD i 0 = pi at *
  generalize (divP a ws).getD k 0 = pk at *
  generalize ws.getD i 0 = wi at *
  generalize ws.getD k 0 = wk at *
  generalize ws.sum = S at *
  have hm : a * wk ≤ a * wi := Int.mul_le_mul_of_nonneg_left (by omega) a0
  have hq : a * wk / S ≤ a * wi / S := Int.ediv_le_ediv t5 hm
  have di := Int.emod_add_mul_ediv (a * wi) S
  have dk := Int.emod_add_mul_ediv (a * wk) S
  by_cases hlt : pi < pk
  · exfalso
    have e1 : pk = a * wk / S + 1 := by omega
    have e2 : pi = a * wi / S := by omega
    have e3 : a * wi / S = a * wk / S := by omega
    have g := G e1 e2
    have rk : 0 < a * wk % S := by omega
    rw [e3] at di
    have : a * wi ≤ a * wk := by omega
    have a1 : a = 0 := by
      rcases Int.lt_or_le 0 a with h0 | h0
      · have := Int.mul_lt_mul_of_pos_left hw h0
        omega
      · omega
    subst a1
    simp at rk
  · omega
theorem getD_drop' (l : List (Int × Int)) (n : Nat) (h : n < l.length) : l.take (n + 1) = l.take n ++ [(gX l n, gR l n)] := by
  rw [show (gX l n, gR l n) = l[n] from by simp [gX, gR, List.getD_eq_getElem?_getD, List.getElem?_eq_getElem h]]
  exact List.take_succ_eq_append_getElem h
theorem jst_nil (s : List (Int × Int)) : ∀ t, t ≤ s.length → jst s [] t = (t, 0, s.take t)
  | 0, _ => by simp [jst]
  | t + 1, h => by
    have ih := jst_nil s t (by omega)
    unfold jst
    rw [ih]
    have e : jstep s [] t 0 = ((gX s t, gR s t), t + 1, 0) := by unfold jstep; rw [if_pos (.inl rfl)]
    rw [if_pos (.inl (by show t < s.length; omega)), e, getD_drop' s t (by omega)]
theorem jn_nil (s : List (Int × Int)) : jn s [] = s := by
  unfold jn
  rw [jst_nil s _ (by simp)]
  simp
theorem scE_nil : scE [] = 0 := by decide +kernel
theorem jnE_nil (s : List (Int × Int)) : jnE s [] = if scE s = 0 then 0 else 1 := by
  unfold jnE
  by_cases h : scE s = 0
  · have hR := scE_zero.1 h
    rw [if_neg (by rw [h, scE_nil]; simp), jn_nil, if_neg (by have := hR.len; omega), if_neg (by have := hR.sum; omega), if_pos h]
  · rw [if_pos (.inl h), if_neg h]
theorem jnL_nil (s : List (Int × Int)) (h : scE s = 0) : jnL s [] = s := by
  unfold jnL
  rw [jnE_nil, if_pos h, if_pos rfl, jn_nil]
end Go.Proofs.Ytmoeccghkpjbgaa
