/- The reference of layer 3: Parse. -/
import Derived.Test.YtdhckbjebccdbaaDoorURP
namespace Go.Proofs.YtdhckbjebccdbaaDoor
open Go.RowKit

theorem refParse_long (s : ByteArray) (w : World) (h : 64 < s.size) (hs : s.size ≤ 9223372036854775807) :
    Calls Tryd.prog 20 #[.string s] w fun e w' => e = .returned (.tuple #[.agg #[.int .i64 0, .int .i64 0], .int .i64 8]) ∧ Below w.heap.size w w' := by
  go_enter Tryd.func20, Tryd.ntmps20
  go_wp2
  refine bodyPost_ret (v := .tuple #[.agg #[.int .i64 0, .int .i64 0], .int .i64 8]) (by simp [results, Tryd.results20, go_sem]) rfl ?_
  exact ⟨rfl, bel_alloc (Below.refl _ _)⟩

theorem refParse_none (s : ByteArray) (w : World) (h : s.size ≤ 64)
    (HX : Hid (∀ W, Calls Tryd.prog 37 #[.string s, .int .u8 32] W fun e w' => e = .returned (.int .i64 (-1)) ∧ W = w')) :
    Calls Tryd.prog 20 #[.string s] w fun e w' => e = .returned (.tuple #[.agg #[.int .i64 0, .int .i64 0], .int .i64 3]) ∧ Below w.heap.size w w' := by
  go_enter Tryd.func20, Tryd.ntmps20
  go_wp2_with fail
  refine (HX.out _).mono ?_
  rintro e w1 ⟨rfl, rfl⟩
  go_wp2
  refine bodyPost_ret (v := .tuple #[.agg #[.int .i64 0, .int .i64 0], .int .i64 3]) (by simp [results, Tryd.results20, go_sem]) rfl ?_
  exact ⟨rfl, bel_alloc (Below.refl _ _)⟩

set_option maxRecDepth 100000 in
set_option maxHeartbeats 8000000 in
theorem refParse_core (s Ub Nb Wb Pb : ByteArray) (i : Nat) (ok neg : Bool) (K F E V A RK RA RE : Int) (w : World) (h : s.size ≤ 64) (hi : i + 1 ≤ s.size) (hU : Hid (Ub = s.extract (i + 1) s.size)) (hN : Hid (Nb = s.extract 0 i))
    (HX : Hid (∀ W, Calls Tryd.prog 37 #[.string s, .int .u8 32] W fun e w' => e = .returned (.int .i64 i) ∧ W = w'))
    (HU : Hid (∀ W, Calls Tryd.prog 12 #[.string Ub] W fun e w' => e = .returned (.tuple #[.int .i64 K, .int .i64 F, .int .i64 E]) ∧ Below W.heap.size W w'))
    (HS : Hid (∀ W, Calls Tryd.prog 38 #[.string Nb] W fun e w' => (∃ g X Y, e = .returned (.tuple #[.bool g, .string X, .string Y, .bool ok]) ∧ (ok = true → g = neg ∧ X = Wb ∧ Y = Pb)) ∧ Below W.heap.size W w'))
    (HV : Hid (E = 0 → ok = true → ∀ W, Calls Tryd.prog 39 #[.string Wb, .string Pb, .int .i64 F, .int .i64 1125899906842624] W fun e w' => e = .returned (.int .i64 V) ∧ Below W.heap.size W w'))
    (HI : Hid (E = 0 → ok = true → 0 ≤ V → ∀ W, Calls Tryd.prog 32 #[.agg #[.int .i64 K, .int .i64 A]] W fun e w' => e = .returned (.bool (qE K A == 0)) ∧ Below W.heap.size W w'))
    (hA : neg = true ∧ A = -V ∨ neg = false ∧ A = V) (hV : V ≤ 1125899906842624)
    (hr : ((E == 0) = false ∧ RK = 0 ∧ RA = 0 ∧ RE = 3) ∨ (E = 0 ∧ ok = false ∧ RK = 0 ∧ RA = 0 ∧ RE = 3) ∨ (E = 0 ∧ ok = true ∧ V < 0 ∧ RK = 0 ∧ RA = 0 ∧ RE = 2) ∨ (E = 0 ∧ ok = true ∧ 0 ≤ V ∧ qE K A ≠ 0 ∧ RK = 0 ∧ RA = 0 ∧ RE = 2) ∨ (E = 0 ∧ ok = true ∧ 0 ≤ V ∧ qE K A = 0 ∧ RK = K ∧ RA = A ∧ RE = 0)) :
    Calls Tryd.prog 20 #[.string s] w fun e w' => e = .returned (.tuple #[.agg #[.int .i64 RK, .int .i64 RA], .int .i64 RE]) ∧ Below w.heap.size w w' := by
  have hwi : IntKind.i64.wrap ((i : Int) + 1) = (i : Int) + 1 := wrap_in _ (by omega)
  have hni : ((i : Int) + 1).toNat = i + 1 := by omega
  have hi0 : (0 : Int) ≤ (i : Int) + 1 := by omega
  have hi1 : (i : Int) + 1 ≤ s.size := by omega
  have T0 := Lib.hid (Two.new w (.int .i64 0) (.int .i64 0) 23)
  have X1 := Lib.hid (bel_alloc (Below.refl (w.alloc (.cells #[.int .i64 0, .int .i64 0] 23)).heap.size (w.alloc (.cells #[.int .i64 0, .int .i64 0] 23))))
  go_enter Tryd.func20, Tryd.ntmps20
  go_wp2_with fail
  refine (HX.out _).mono ?_
  rintro e w0 ⟨rfl, hw0⟩
  subst hw0
  go_wp2_with fail
  rw [← hU.out]
  refine (HU.out _).mono ?_
  rintro e w1 ⟨rfl, gg⟩
  replace T0 := Lib.hid (T0.out.below gg)
  replace X1 := Lib.hid (bel_trans X1.out gg); clear gg
  go_wp2_with fail
  rw [← hN.out]
  refine (HS.out _).mono ?_
  rintro e w2 ⟨⟨g, X, Y, rfl, hok⟩, gg⟩
  replace T0 := Lib.hid (T0.out.below gg)
  replace X1 := Lib.hid (bel_trans X1.out gg); clear gg
  have HOK := Lib.hid hok
  clear hok hwi hni hi0 hi1 HX HU HS
  rcases hr with ⟨e1, rfl, rfl, rfl⟩ | ⟨rfl, rfl, rfl, rfl, rfl⟩ | ⟨rfl, rfl, hv, rfl, rfl, rfl⟩ | ⟨rfl, rfl, hv, hq, rfl, rfl, rfl⟩ | ⟨rfl, rfl, hv, hq, rfl, rfl, rfl⟩
  · have e2 : (E != 0) = true := by simp only [bne, e1]; rfl
    clear HOK HV HI hA
    obtain ⟨r0, r1, f0, f1, _⟩ := T0.out
    go_wp2
    obtain ⟨t0, t1⟩ := two_read _ w.heap.size (.int .i64 0) (.int .i64 0) r0 r1
    refine bodyPost_ret (v := .tuple #[.agg #[.int .i64 0, .int .i64 0], .int .i64 3]) (by simp [results, Tryd.results20, go_sem, t0, t1]) rfl ?_
    exact ⟨rfl, (X1.out.setCell (Nat.le_refl _) _).setCell (Nat.le_refl _) _⟩
  · clear HOK HV HI hA
    obtain ⟨r0, r1, f0, f1, _⟩ := T0.out
    go_wp2
    obtain ⟨t0, t1⟩ := two_read _ w.heap.size (.int .i64 0) (.int .i64 0) r0 r1
    refine bodyPost_ret (v := .tuple #[.agg #[.int .i64 0, .int .i64 0], .int .i64 3]) (by simp [results, Tryd.results20, go_sem, t0, t1]) rfl ?_
    exact ⟨rfl, (X1.out.setCell (Nat.le_refl _) _).setCell (Nat.le_refl _) _⟩
  · clear HI hA
    obtain ⟨rfl, rfl, rfl⟩ := HOK.out rfl
    replace HV := Lib.hid (HV.out rfl rfl)
    clear HOK
    go_wp2_with fail
    refine (HV.out _).mono ?_
    rintro e w3 ⟨rfl, gg⟩
    replace T0 := Lib.hid (T0.out.below gg)
    replace X1 := Lib.hid (bel_trans X1.out gg); clear gg HV
    obtain ⟨r0, r1, f0, f1, _⟩ := T0.out
    go_wp2
    obtain ⟨t0, t1⟩ := two_read _ w.heap.size (.int .i64 0) (.int .i64 0) r0 r1
    refine bodyPost_ret (v := .tuple #[.agg #[.int .i64 0, .int .i64 0], .int .i64 2]) (by simp [results, Tryd.results20, go_sem, t0, t1]) rfl ?_
    exact ⟨rfl, (X1.out.setCell (Nat.le_refl _) _).setCell (Nat.le_refl _) _⟩
  · replace HI := Lib.hid (HI.out rfl rfl hv)
    obtain ⟨rfl, rfl, rfl⟩ := HOK.out rfl
    replace HV := Lib.hid (HV.out rfl rfl)
    clear HOK
    go_wp2_with fail
    refine (HV.out _).mono ?_
    rintro e w3 ⟨rfl, gg⟩
    replace T0 := Lib.hid (T0.out.below gg)
    replace X1 := Lib.hid (bel_trans X1.out gg); clear gg HV
    have hq1 : (qE K A == 0) = false := by simpa using hq
    rw [hq1] at HI
    clear hq hq1
    rcases hA with ⟨rfl, rfl⟩ | ⟨rfl, rfl⟩
    all_goals
      go_wp2_with fail
      refine (HI.out _).mono ?_
      rintro e w4 ⟨rfl, gg⟩
      replace T0 := Lib.hid ((T0.out.alloc _).below gg)
      replace X1 := Lib.hid (bel_trans X1.out (bel_alloc gg)); clear gg
      obtain ⟨r0, r1, f0, f1, _⟩ := T0.out
      go_wp2
      obtain ⟨t0, t1⟩ := two_read _ w.heap.size (.int .i64 0) (.int .i64 0) r0 r1
      refine bodyPost_ret (v := .tuple #[.agg #[.int .i64 0, .int .i64 0], .int .i64 2]) (by simp [results, Tryd.results20, go_sem, t0, t1]) rfl ?_
      exact ⟨rfl, (X1.out.setCell (Nat.le_refl _) _).setCell (Nat.le_refl _) _⟩
  · replace HI := Lib.hid (HI.out rfl rfl hv)
    obtain ⟨rfl, rfl, rfl⟩ := HOK.out rfl
    replace HV := Lib.hid (HV.out rfl rfl)
    clear HOK
    go_wp2_with fail
    refine (HV.out _).mono ?_
    rintro e w3 ⟨rfl, gg⟩
    replace T0 := Lib.hid (T0.out.below gg)
    replace X1 := Lib.hid (bel_trans X1.out gg); clear gg HV
    have hq1 : (qE RK RA == 0) = true := by simpa using hq
    rw [hq1] at HI
    clear hq hq1
    rcases hA with ⟨rfl, rfl⟩ | ⟨rfl, rfl⟩
    · go_wp2_with fail
      refine (HI.out _).mono ?_
      rintro e w4 ⟨rfl, gg⟩
      have T1 := Lib.hid ((Two.new w3 _ _ _).below gg)
      replace T0 := Lib.hid ((T0.out.alloc _).below gg)
      replace X1 := Lib.hid (bel_trans X1.out (bel_alloc gg)); clear gg
      obtain ⟨s0, s1, _, _, _⟩ := T1.out
      obtain ⟨r0, r1, f0, f1, _⟩ := T0.out
      go_wp2
      obtain ⟨t0, t1⟩ := two_read _ w.heap.size (.int .i64 RK) (.int .i64 (-V)) r0 r1
      refine bodyPost_ret (v := .tuple #[.agg #[.int .i64 RK, .int .i64 (-V)], .int .i64 0]) (by simp [results, Tryd.results20, go_sem, t0, t1]) rfl ?_
      exact ⟨rfl, (X1.out.setCell (Nat.le_refl _) _).setCell (Nat.le_refl _) _⟩
    · go_wp2_with fail
      refine (HI.out _).mono ?_
      rintro e w4 ⟨rfl, gg⟩
      have T1 := Lib.hid ((Two.new w3 _ _ _).below gg)
      replace T0 := Lib.hid ((T0.out.alloc _).below gg)
      replace X1 := Lib.hid (bel_trans X1.out (bel_alloc gg)); clear gg
      obtain ⟨s0, s1, _, _, _⟩ := T1.out
      obtain ⟨r0, r1, f0, f1, _⟩ := T0.out
      go_wp2
      obtain ⟨t0, t1⟩ := two_read _ w.heap.size (.int .i64 RK) (.int .i64 RA) r0 r1
      refine bodyPost_ret (v := .tuple #[.agg #[.int .i64 RK, .int .i64 RA], .int .i64 0]) (by simp [results, Tryd.results20, go_sem, t0, t1]) rfl ?_
      exact ⟨rfl, (X1.out.setCell (Nat.le_refl _) _).setCell (Nat.le_refl _) _⟩
end Go.Proofs.YtdhckbjebccdbaaDoor
