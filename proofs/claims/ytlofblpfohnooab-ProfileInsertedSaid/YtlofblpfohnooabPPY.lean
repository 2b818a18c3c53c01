/- The statements about layer 8: the examples of the chapter hold. -/
import Derived.Test.YtlofblpfohnooabPPX
namespace Go.Proofs.Ytlofblpfohnooab
open Go.RowKit

set_option maxRecDepth 100000 in
set_option maxHeartbeats 8000000 in
theorem awake_any (w : World) : Calls Try.prog 9 #[] w fun e w' => e = .returned (.bool true) ∧ Below w.heap.size w w' := by
  have BA := Lib.hid (fun W => barrel_any W)
  have HL := Lib.hid (fun v W (h : Pts W v l0) => len_any v l0 W h)
  have HG := Lib.hid (fun v W (h : Pts W v l0) => bung_any v l0 W h)
  have HT := Lib.hid (fun v W (h : Pts W v l0) => At_any v l0 3 W h)
  have HI := Lib.hid (fun v W (h : Pts W v l0) => in_any v l0 20 10 W h (by omega) (by omega))
  have HU := Lib.hid (fun v W (h : Pts W v l0) => turn_any v l0 W h)
  have HN := Lib.hid (fun v W (h : Pts W v l0) => ins_any v l0 5 W h)
  have HK := Lib.hid (fun v W (h : Pts W v l0) => ck_any v l0 W h)
  rw [l0_ck.1, l0_ck.2.1] at HL
  rw [l0_ck.1, l0_ck.2.2] at HG
  rw [l0_at.1, l0_at.2.1, l0_at.2.2] at HT
  rw [l0_in.1, l0_in.2] at HI
  rw [l0_ck.1, l0_tu] at HU
  rw [l0_ix.1, l0_ix.2] at HN
  rw [l0_ck.1] at HK
  have S1 := Lib.hid (fun v u W (hv : Pts W v [(0, 282), (490, 380), (980, 282)]) (hu : Pts W u [(0, 282), (490, 380), (980, 282)]) => same_any v u _ _ W hv hu (by decide))
  have S2 := Lib.hid (fun v u W (hv : Pts W v l0) (hu : Pts W u l0) => same_any v u _ _ W hv hu (by decide))
  rw [beq_self_eq_true] at S1 S2
  have Q1 : ∀ W, (binOp .eql 33 (.agg #[.int .i64 300, .int .i64 301]) (.agg #[.int .i64 300, .int .i64 301])).run Try.prog W = .ok (.bool true) W := fun W => by rw [run_eql_bounds]; rfl
  have Q2 : ∀ W, (binOp .eql 30 (.agg #[.int .i64 5, .int .i64 301]) (.agg #[.int .i64 5, .int .i64 301])).run Try.prog W = .ok (.bool true) W := fun W => by rw [run_eql_point]; rfl
  have HB := Lib.hid (Below.refl w.heap.size w)
  go_enter Try.func9, Try.ntmps9
  go_wp2_with fail
  refine (BA.out _).mono ?_
  rintro e w2 ⟨V1, rfl, hx, h1⟩
  replace HB := Lib.hid (bel_trans HB.out h1); clear h1
  have N1 := Lib.hid hx; clear hx
  go_wp2_with fail
  refine (HL.out _ _ N1.out).mono ?_
  rintro e w3 ⟨rfl, h1⟩
  replace N1 := Lib.hid (N1.out.below h1)
  replace HB := Lib.hid (bel_trans HB.out h1); clear h1
  clear N1
  go_wp2_with fail
  refine (BA.out _).mono ?_
  rintro e w5 ⟨V2, rfl, hx, h1⟩
  replace HB := Lib.hid (bel_trans HB.out h1); clear h1
  have N2 := Lib.hid hx; clear hx
  go_wp2_with fail
  refine (HG.out _ _ N2.out).mono ?_
  rintro e w6 ⟨rfl, h1⟩
  replace N2 := Lib.hid (N2.out.below h1)
  replace HB := Lib.hid (bel_trans HB.out h1); clear h1
  clear N2
  go_wp2_with fail
  refine (BA.out _).mono ?_
  rintro e w8 ⟨V3, rfl, hx, h1⟩
  replace HB := Lib.hid (bel_trans HB.out h1); clear h1
  have N3 := Lib.hid hx; clear hx
  go_wp2_with fail
  refine (HT.out _ _ N3.out).mono ?_
  rintro e w9 ⟨rfl, h1⟩
  replace N3 := Lib.hid ((N3.out.below h1).alloc (.cells #[.int .i64 300, .int .i64 301] 33))
  replace HB := Lib.hid ((bel_trans HB.out h1).alloc (bel_trans HB.out h1).size (.cells #[.int .i64 300, .int .i64 301] 33)); clear h1
  have T1 := Lib.hid (Two.new w9 (.int .i64 300) (.int .i64 301) 33)
  clear N3
  go_wp2_with fail
  refine (BA.out _).mono ?_
  rintro e w11 ⟨V4, rfl, hx, h1⟩
  replace T1 := Lib.hid (T1.out.below h1)
  replace HB := Lib.hid (bel_trans HB.out h1); clear h1
  have N4 := Lib.hid hx; clear hx
  go_wp2_with fail
  refine (HI.out _ _ N4.out).mono ?_
  rintro e w12 ⟨V5, rfl, hx, h1⟩
  replace T1 := Lib.hid (T1.out.below h1)
  replace N4 := Lib.hid (N4.out.below h1)
  replace HB := Lib.hid (bel_trans HB.out h1); clear h1
  have N5 := Lib.hid hx; clear hx
  clear N4
  go_wp2_with fail
  refine (BA.out _).mono ?_
  rintro e w14 ⟨V6, rfl, hx, h1⟩
  replace T1 := Lib.hid (T1.out.below h1)
  replace N5 := Lib.hid (N5.out.below h1)
  replace HB := Lib.hid (bel_trans HB.out h1); clear h1
  have N6 := Lib.hid hx; clear hx
  go_wp2_with fail
  refine (HU.out _ _ N6.out).mono ?_
  rintro e w15 ⟨V7, rfl, hx, h1⟩
  replace T1 := Lib.hid (T1.out.below h1)
  replace N5 := Lib.hid (N5.out.below h1)
  replace N6 := Lib.hid (N6.out.below h1)
  replace HB := Lib.hid (bel_trans HB.out h1); clear h1
  have N7 := Lib.hid hx; clear hx
  clear N6
  go_wp2_with fail
  refine (BA.out _).mono ?_
  rintro e w17 ⟨V8, rfl, hx, h1⟩
  replace T1 := Lib.hid (T1.out.below h1)
  replace N5 := Lib.hid (N5.out.below h1)
  replace N7 := Lib.hid (N7.out.below h1)
  replace HB := Lib.hid (bel_trans HB.out h1); clear h1
  have N8 := Lib.hid hx; clear hx
  go_wp2_with fail
  refine (HN.out _ _ N8.out).mono ?_
  rintro e w18 ⟨V9, rfl, hx, h1⟩
  replace T1 := Lib.hid (T1.out.below h1)
  replace N5 := Lib.hid (N5.out.below h1)
  replace N7 := Lib.hid (N7.out.below h1)
  replace N8 := Lib.hid (N8.out.below h1)
  replace HB := Lib.hid (bel_trans HB.out h1); clear h1
  have N9 := Lib.hid hx; clear hx
  clear N8
  obtain ⟨am, cm, hV9, _, _⟩ := N9.out.shape
  have hV9' : V9 = .slice am 4 cm := hV9
  subst hV9'
  obtain ⟨T10, T11, T12, T13, T14⟩ := T1.out
  have L1 := in_lit (w18)
  go_wp2_with fail
  refine (S1.out _ _ _ (N5.out.alloc _) L1).mono ?_
  rintro e w22 ⟨rfl, h1⟩
  replace h1 := bel_alloc h1
  replace T1 := Lib.hid (T1.out.below h1)
  replace N5 := Lib.hid (N5.out.below h1)
  replace N7 := Lib.hid (N7.out.below h1)
  replace N9 := Lib.hid (N9.out.below h1)
  replace HB := Lib.hid (bel_trans HB.out h1); clear h1
  go_wp2_with fail
  refine (BA.out _).mono ?_
  rintro e w23 ⟨V10, rfl, hx, h1⟩
  replace T1 := Lib.hid (T1.out.below h1)
  replace N5 := Lib.hid (N5.out.below h1)
  replace N7 := Lib.hid (N7.out.below h1)
  replace N9 := Lib.hid (N9.out.below h1)
  replace HB := Lib.hid (bel_trans HB.out h1); clear h1
  have N10 := Lib.hid hx; clear hx
  go_wp2_with fail
  refine (S2.out _ _ _ N7.out N10.out).mono ?_
  rintro e w24 ⟨rfl, h1⟩
  replace T1 := Lib.hid (T1.out.below h1)
  replace N5 := Lib.hid (N5.out.below h1)
  replace N7 := Lib.hid (N7.out.below h1)
  replace N9 := Lib.hid (N9.out.below h1)
  replace N10 := Lib.hid (N10.out.below h1)
  replace HB := Lib.hid (bel_trans HB.out h1); clear h1
  obtain ⟨bm, om, rfl, hbm, hcm⟩ := N9.out.at (by omega)
  have m0 : (w24).cell? ⟨bm, om + 2, none⟩ = some (.int .i64 5) := (hcm 1 (by omega)).1
  have m1 : (w24).cell? ⟨bm, om + 3, none⟩ = some (.int .i64 301) := (hcm 1 (by omega)).2
  clear hcm
  clear N5 N7 N10
  go_wp2_with fail
  refine (BA.out _).mono ?_
  rintro e w26 ⟨V11, rfl, hx, h1⟩
  replace T1 := Lib.hid (T1.out.below h1)
  replace N9 := Lib.hid (N9.out.below h1)
  replace HB := Lib.hid (bel_trans HB.out h1); clear h1
  have N11 := Lib.hid hx; clear hx
  go_wp2_with fail
  refine (HK.out _ _ N11.out).mono ?_
  rintro e w27 ⟨rfl, h1⟩
  replace T1 := Lib.hid (T1.out.below h1)
  replace N9 := Lib.hid (N9.out.below h1)
  replace N11 := Lib.hid (N11.out.below h1)
  replace HB := Lib.hid (bel_trans HB.out h1); clear h1
  go_wp2
  go_returns
  exact ⟨rfl, HB.out⟩
end Go.Proofs.Ytlofblpfohnooab

