/- The statements about layer 7: the examples of the chapter hold. -/
import Derived.Test.YtlofblpfohnooaaSAx
namespace Go.Proofs.Ytlofblpfohnooaa
open Go.RowKit

set_option maxRecDepth 100000 in
set_option maxHeartbeats 4000000 in
theorem awake_any (w : World) : Calls Try.prog 9 #[] w fun e w' => e = .returned (.bool true) ∧ Below w.heap.size w w' := by
  have HA := Lib.hid (fun v W (h : Nums W v [0, 5, 10]) => area_any 5 5 v [0, 5, 10] W h)
  have HC := Lib.hid (fun v W (h : Nums W v [0, 2, 5, 8, 10]) => area_any 5 5 v [0, 2, 5, 8, 10] W h)
  have HW := Lib.hid (fun W => whole_any 5 W)
  have HH := Lib.hid (fun W => hts_any 10 4 W)
  have HR := Lib.hid (fun v W (h : Nums W v [0, 5, 10]) => rfn_any v [0, 5, 10] W h)
  have HS := Lib.hid (fun W => strip_any 5 5 2 5 W)
  have HK := Lib.hid (fun v W (h : Nums W v [0, 2, 5, 7, 10]) => chk_any v [0, 2, 5, 7, 10] W h)
  rw [ex_a.1, ex_a.2.1, ex_a.2.2] at HA
  rw [ex_b.1, ex_b.2.1, ex_b.2.2] at HC
  rw [ex_s.1, ex_s.2.1, ex_s.2.2] at HS
  rw [ex_w.1, ex_w.2.1, ex_w.2.2] at HW
  rw [ex_h.1, ex_h.2] at HH
  rw [ex_r.1, ex_r.2] at HR
  rw [ex_k] at HK
  have Q1 : ∀ W, (binOp .eql 33 (.agg #[.int .i64 0, .int .i64 100]) (.agg #[.int .i64 0, .int .i64 100])).run Try.prog W = .ok (.bool true) W := fun W => by rw [run_eql_bounds]; rfl
  have Q2 : ∀ W, (binOp .eql 33 (.agg #[.int .i64 48, .int .i64 92]) (.agg #[.int .i64 48, .int .i64 92])).run Try.prog W = .ok (.bool true) W := fun W => by rw [run_eql_bounds]; rfl
  have Q3 : ∀ W, (binOp .eql 33 (.agg #[.int .i64 78, .int .i64 79]) (.agg #[.int .i64 78, .int .i64 79])).run Try.prog W = .ok (.bool true) W := fun W => by rw [run_eql_bounds]; rfl
  have Q4 : ∀ W, (binOp .eql 33 (.agg #[.int .i64 24, .int .i64 30]) (.agg #[.int .i64 24, .int .i64 30])).run Try.prog W = .ok (.bool true) W := fun W => by rw [run_eql_bounds]; rfl
  have HB := Lib.hid (Below.refl w.heap.size w)
  go_enter Try.func9, Try.ntmps9
  have L1 := lit3 (w)
  go_wp2_with fail
  refine (HA.out _ _ L1).mono ?_
  rintro e w3 ⟨rfl, h1⟩
  replace h1 := bel_alloc h1
  replace HB := Lib.hid ((bel_trans HB.out h1).alloc (bel_trans HB.out h1).size (.cells #[.int .i64 0, .int .i64 100] 33)); clear h1
  have T1 := Lib.hid (Two.new w3 (.int .i64 0) (.int .i64 100) 33)
  have L2 := lit5 (w3.alloc (.cells #[.int .i64 0, .int .i64 100] 33))
  simp only [World.size_alloc] at L2
  go_wp2_with fail
  refine (HC.out _ _ L2).mono ?_
  rintro e w5 ⟨rfl, h1⟩
  replace h1 := bel_alloc h1
  replace T1 := Lib.hid ((T1.out.below h1).alloc (.cells #[.int .i64 48, .int .i64 92] 33))
  replace HB := Lib.hid ((bel_trans HB.out h1).alloc (bel_trans HB.out h1).size (.cells #[.int .i64 48, .int .i64 92] 33)); clear h1
  have T2 := Lib.hid (Two.new w5 (.int .i64 48) (.int .i64 92) 33)
  go_wp2_with fail
  refine (HW.out _).mono ?_
  rintro e w6 ⟨rfl, h1⟩
  replace T1 := Lib.hid ((T1.out.below h1).alloc (.cells #[.int .i64 78, .int .i64 79] 33))
  replace T2 := Lib.hid ((T2.out.below h1).alloc (.cells #[.int .i64 78, .int .i64 79] 33))
  replace HB := Lib.hid ((bel_trans HB.out h1).alloc (bel_trans HB.out h1).size (.cells #[.int .i64 78, .int .i64 79] 33)); clear h1
  have T3 := Lib.hid (Two.new w6 (.int .i64 78) (.int .i64 79) 33)
  go_wp2_with fail
  refine (HH.out _).mono ?_
  rintro e w7 ⟨V1, rfl, hx, h1⟩
  replace T1 := Lib.hid (T1.out.below h1)
  replace T2 := Lib.hid (T2.out.below h1)
  replace T3 := Lib.hid (T3.out.below h1)
  replace HB := Lib.hid (bel_trans HB.out h1); clear h1
  have N1 := Lib.hid hx; clear hx
  have L3 := lit3 (w7)
  go_wp2_with fail
  refine (HR.out _ _ L3).mono ?_
  rintro e w9 ⟨V2, rfl, hx, h1⟩
  replace h1 := bel_alloc h1
  replace T1 := Lib.hid (T1.out.below h1)
  replace T2 := Lib.hid (T2.out.below h1)
  replace T3 := Lib.hid (T3.out.below h1)
  replace N1 := Lib.hid (N1.out.below h1)
  replace HB := Lib.hid (bel_trans HB.out h1); clear h1
  have N2 := Lib.hid hx; clear hx
  go_wp2_with fail
  refine (HS.out _).mono ?_
  rintro e w10 ⟨rfl, h1⟩
  replace T1 := Lib.hid ((T1.out.below h1).alloc (.cells #[.int .i64 24, .int .i64 30] 33))
  replace T2 := Lib.hid ((T2.out.below h1).alloc (.cells #[.int .i64 24, .int .i64 30] 33))
  replace T3 := Lib.hid ((T3.out.below h1).alloc (.cells #[.int .i64 24, .int .i64 30] 33))
  replace N1 := Lib.hid ((N1.out.below h1).alloc (.cells #[.int .i64 24, .int .i64 30] 33))
  replace N2 := Lib.hid ((N2.out.below h1).alloc (.cells #[.int .i64 24, .int .i64 30] 33))
  replace HB := Lib.hid ((bel_trans HB.out h1).alloc (bel_trans HB.out h1).size (.cells #[.int .i64 24, .int .i64 30] 33)); clear h1
  have T4 := Lib.hid (Two.new w10 (.int .i64 24) (.int .i64 30) 33)
  clear HA HC HW HH HR HS
  obtain ⟨T10, T11, T12, T13, T14⟩ := T1.out
  obtain ⟨T20, T21, T22, T23, T24⟩ := T2.out
  obtain ⟨T30, T31, T32, T33, T34⟩ := T3.out
  obtain ⟨T40, T41, T42, T43, T44⟩ := T4.out
  have L4 := lit5' (w10.alloc (.cells #[.int .i64 24, .int .i64 30] 33))
  simp only [World.size_alloc] at L4
  go_wp2_with fail
  refine (equal_same _ _ _ _ (N1.out.alloc _) L4).mono ?_
  rintro e w13 ⟨rfl, h1⟩
  replace h1 := bel_alloc h1
  replace T1 := Lib.hid (T1.out.below h1)
  replace T2 := Lib.hid (T2.out.below h1)
  replace T3 := Lib.hid (T3.out.below h1)
  replace N1 := Lib.hid (N1.out.below h1)
  replace N2 := Lib.hid (N2.out.below h1)
  replace T4 := Lib.hid (T4.out.below h1)
  replace HB := Lib.hid (bel_trans HB.out h1); clear h1
  obtain ⟨T10, T11, T12, T13, T14⟩ := T1.out
  obtain ⟨T20, T21, T22, T23, T24⟩ := T2.out
  obtain ⟨T30, T31, T32, T33, T34⟩ := T3.out
  obtain ⟨T40, T41, T42, T43, T44⟩ := T4.out
  have L5 := lit5' (w13)
  go_wp2_with fail
  refine (equal_same _ _ _ _ (N2.out.alloc _) L5).mono ?_
  rintro e w16 ⟨rfl, h1⟩
  replace h1 := bel_alloc h1
  replace T1 := Lib.hid (T1.out.below h1)
  replace T2 := Lib.hid (T2.out.below h1)
  replace T3 := Lib.hid (T3.out.below h1)
  replace N1 := Lib.hid (N1.out.below h1)
  replace N2 := Lib.hid (N2.out.below h1)
  replace T4 := Lib.hid (T4.out.below h1)
  replace HB := Lib.hid (bel_trans HB.out h1); clear h1
  obtain ⟨T10, T11, T12, T13, T14⟩ := T1.out
  obtain ⟨T20, T21, T22, T23, T24⟩ := T2.out
  obtain ⟨T30, T31, T32, T33, T34⟩ := T3.out
  obtain ⟨T40, T41, T42, T43, T44⟩ := T4.out
  go_wp2_with fail
  refine (HK.out _ _ N1.out).mono ?_
  rintro e w18 ⟨rfl, h1⟩
  replace T1 := Lib.hid (T1.out.below h1)
  replace T2 := Lib.hid (T2.out.below h1)
  replace T3 := Lib.hid (T3.out.below h1)
  replace N1 := Lib.hid (N1.out.below h1)
  replace N2 := Lib.hid (N2.out.below h1)
  replace T4 := Lib.hid (T4.out.below h1)
  replace HB := Lib.hid (bel_trans HB.out h1); clear h1
  go_wp2
  go_returns
  exact ⟨rfl, HB.out⟩
end Go.Proofs.Ytlofblpfohnooaa

