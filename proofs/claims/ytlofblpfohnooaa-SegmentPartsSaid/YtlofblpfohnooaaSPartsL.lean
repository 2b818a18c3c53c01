/-
  The statement SegmentParts of spile/spilelaw07 holds: for every input the call returns true, and each argument reads afterwards as it read before.
-/
import Derived.Test.YtlofblpfohnooaaSF
import Derived.Test.YtlofblpfohnooaaSF2
import Derived.Test.YtlofblpfohnooaaSO
import Derived.Below
import Derived.Carry
namespace Go.Proofs.Ytlofblpfohnooaa.segmentParts
open Go.ChangeShapes Go.WideShapes Go.ChangeAt Go.RowKit
open Go.ChangeMaps (open_string shut_string)
set_option linter.unusedVariables false

set_option maxHeartbeats 8000000 in
theorem bad (r c E cut : Int) (a : Option Addr) (n cap : Nat) (zs : List Int) (w : World) (hz : Hid (zs.length * 8 ≤ 140737488355328)) (NV : Hid (Nums w (.slice a n cap) zs)) (e1 : (E == 0) = false) (e2 : (E != 0) = true)
    (A1 : Hid (∀ v W, Nums W v zs → Calls Try.prog 20 #[.int .i64 r, .int .i64 c, v] W fun e w' => e = .returned (.tuple #[.agg #[.int .i64 0, .int .i64 0], .int .i64 E]) ∧ Below W.heap.size W w')) :
    Calls Try.prog 8 #[.int .i64 r, .int .i64 c, .slice a n cap, .int .u8 cut] w fun e w' => e = .returned (.bool true) ∧ Below w.heap.size w w' := by
  have HA := Lib.hid (fun W => awake_any W)
  have Q1 : ∀ W, (binOp .eql 33 (.agg #[.int .i64 0, .int .i64 0]) (.agg #[.int .i64 0, .int .i64 0])).run Try.prog W = .ok (.bool true) W := fun W => by rw [run_eql_bounds]; rfl
  have HB := Lib.hid (Below.refl w.heap.size w)
  go_enter Try.func8, Try.ntmps8
  go_wp2_with fail
  refine (HA.out _).mono ?_
  rintro e w3 ⟨rfl, h1⟩
  replace NV := Lib.hid (NV.out.below h1)
  replace HB := Lib.hid (bel_trans HB.out h1); clear h1
  go_wp2_with fail
  refine (clone_big _ zs _ NV.out hz.out).mono ?_
  rintro e w4 ⟨V1, rfl, hx, h1⟩
  replace NV := Lib.hid (NV.out.below h1)
  replace HB := Lib.hid (bel_trans HB.out h1); clear h1
  have N1 := Lib.hid hx; clear hx
  go_wp2_with fail
  refine (A1.out _ _ N1.out).mono ?_
  rintro e w5 ⟨rfl, h1⟩
  replace NV := Lib.hid ((NV.out.below h1).alloc (.cells #[.int .i64 0, .int .i64 0] 33))
  replace N1 := Lib.hid ((N1.out.below h1).alloc (.cells #[.int .i64 0, .int .i64 0] 33))
  replace HB := Lib.hid ((bel_trans HB.out h1).alloc (bel_trans HB.out h1).size (.cells #[.int .i64 0, .int .i64 0] 33)); clear h1
  have T1 := Lib.hid (Two.new w5 (.int .i64 0) (.int .i64 0) 33)
  obtain ⟨T10, T11, T12, T13, T14⟩ := T1.out
  go_wp2
  go_returns
  exact ⟨rfl, HB.out⟩
set_option maxHeartbeats 16000000 in
set_option maxRecDepth 100000 in
theorem good (r c cut : Int) (b off n cap : Nat) (l : List Int) (w : World) (hz : Hid (l.length ≤ 1000)) (NV : Hid (Nums w (.slice (some ⟨b, off, none⟩) n cap) l)) (e0 : Hid (arE r c l = 0)) (cu0 : 0 ≤ cut) (cu1 : cut ≤ 255)
    (hb : b < w.heap.size) (n0 : 2 ≤ n) (n1 : n ≤ 65) (HL : Hid (n = l.length)) (hcap : n ≤ cap) (hcap2 : cap ≤ 9223372036854775807) (hc : Hid (∀ j, j < n → w.cell? ⟨b, off + j, none⟩ = some (.int .i64 (l.getD j 0)))) :
    Calls Try.prog 8 #[.int .i64 r, .int .i64 c, .slice (some ⟨b, off, none⟩) n cap, .int .u8 cut] w fun e w' => e = .returned (.bool true) ∧ Below w.heap.size w w' := by
  have HA := Lib.hid (fun W => awake_any W)
  have A1 : Hid (∀ v W, Nums W v l → Calls Try.prog 20 #[.int .i64 r, .int .i64 c, v] W fun e w' => e = .returned (.tuple #[.agg #[.int .i64 (arL r c l), .int .i64 (arH r c l)], .int .i64 0]) ∧ Below W.heap.size W w') := fun v W hn => by
    have := area_any r c v l W hn
    rwa [e0.out] at this
  obtain ⟨⟨⟨r0, r1⟩, _⟩, hR⟩ := arE_zero.1 e0.out
  replace hR := Lib.hid hR
  have hx0 : Hid (arL r c l = prL r c l (n - 1) ∧ arH r c l = prH r c l (n - 1)) := by rw [HL.out]; exact ar_some e0.out
  have HB := Lib.hid (Below.refl w.heap.size w)
  have NV0 := NV
  go_enter Try.func8, Try.ntmps8
  go_wp2_with fail
  refine (HA.out _).mono ?_
  rintro e w9 ⟨rfl, h1⟩
  replace NV := Lib.hid (NV.out.below h1)
  replace HB := Lib.hid (bel_trans HB.out h1); clear h1
  go_wp2_with fail
  refine (clone_nums _ l _ NV.out hz.out).mono ?_
  rintro e w10 ⟨V1, rfl, hx, h1⟩
  replace NV := Lib.hid (NV.out.below h1)
  replace HB := Lib.hid (bel_trans HB.out h1); clear h1
  have N1 := Lib.hid hx; clear hx
  obtain ⟨aL, haL⟩ : ∃ aL, arL r c l = aL := ⟨_, rfl⟩
  obtain ⟨aH, haH⟩ : ∃ aH, arH r c l = aH := ⟨_, rfl⟩
  rw [haL, haH] at A1
  rw [haL, haH] at hx0
  go_wp2_with fail
  refine (A1.out _ _ N1.out).mono ?_
  rintro e w11 ⟨rfl, h1⟩
  have hwb : w.heap.size ≤ w11.heap.size := (bel_trans HB.out h1).size
  replace HB := Lib.hid ((bel_trans HB.out h1).alloc (bel_trans HB.out h1).size (.cells #[.int .i64 aL, .int .i64 aH] 33)); clear h1
  have T1 := Lib.hid (Two.new w11 (.int .i64 aL) (.int .i64 aH) 33)
  clear N1 NV
  have TS := Lib.hid (Two.new (w11.alloc (.cells #[.int .i64 aL, .int .i64 aH] 33)) (.int .i64 0) (.int .i64 0) 33)
  simp only [World.size_alloc] at TS
  replace T1 := Lib.hid (T1.out.alloc (.cells #[.int .i64 0, .int .i64 0] 33))
  replace HB := Lib.hid (HB.out.alloc HB.out.size (.cells #[.int .i64 0, .int .i64 0] 33))
  clear A1
  go_wp2_with fail
  go_loopw [12, 13, 14] (fun ii _ _ wr => ∃ (j : Nat), j + 1 ≤ n ∧ ii = .int .i64 ((j : Int) + 1) ∧ Hid (Below w.heap.size w wr) ∧ Hid (Two w11.heap.size wr (.int .i64 aL) (.int .i64 aH)) ∧ Hid (Two (w11.heap.size + 1) wr (.int .i64 (prL r c l j)) (.int .i64 (prH r c l j)))) (fun ii _ _ _ => n - (intOf ii).toNat)
  case atStart => exact ⟨0, by omega, rfl, HB, T1, TS⟩
  case round =>
    obtain ⟨j, hj, rfl, hB, hT, hS⟩ := hrel
    by_cases hlt : j + 1 < n
    · have d0 : wr.cell? ⟨b, off + j, none⟩ = some (.int .i64 (l.getD j 0)) := by rw [(bcell hB.out).1 _ _ hb]; exact hc.out j (by omega)
      have d1 : wr.cell? ⟨b, off + (j + 1), none⟩ = some (.int .i64 (l.getD (j + 1) 0)) := by rw [(bcell hB.out).1 _ _ hb]; exact hc.out (j + 1) hlt
      have hR2 := hR.out
      have lb0 := hR2.bd j (by rw [← HL.out]; omega)
      have lb1 := hR2.bd (j + 1) (by rw [← HL.out]; omega)
      have las := hR2.asc j (by rw [← HL.out]; exact hlt)
      have HO := Lib.hid (fun W => strip_any r c (l.getD j 0) (l.getD (j + 1) 0) W)
      have sf := strip_facts e0.out j (by rw [← HL.out]; exact hlt)
      rw [sf.1, sf.2.1, sf.2.2] at HO
      clear sf
      have hbr : b < wr.heap.size := Nat.lt_of_lt_of_le hb hB.out.size
      have e1 : ∀ o, (wr.alloc o).cell? ⟨b, off + j, none⟩ = some (.int .i64 (l.getD j 0)) := fun o => by rw [World.cell?_alloc_lt wr o _ hbr]; exact d0
      have e2 : ∀ o, (wr.alloc o).cell? ⟨b, off + (j + 1), none⟩ = some (.int .i64 (l.getD (j + 1) 0)) := fun o => by rw [World.cell?_alloc_lt wr o _ hbr]; exact d1
      have PL : Hid (prL r c l j + ofL r c (l.getD j 0) (l.getD (j + 1) 0) = prL r c l (j + 1)) := rfl
      have PH : Hid (prH r c l j + ofH r c (l.getD j 0) (l.getD (j + 1) 0) = prH r c l (j + 1)) := rfl
      have B1 := pr_le (c := c) r0 r1 hR2 j (by rw [← HL.out]; omega)
      have B2 := pr_le (c := c) r0 r1 hR2 (j + 1) (by rw [← HL.out]; omega)
      have B3 := of_bd r c _ _ r0 las
      clear hR2 lb0 lb1 las
      generalize ofL r c (l.getD j 0) (l.getD (j + 1) 0) = oL at *
      generalize ofH r c (l.getD j 0) (l.getD (j + 1) 0) = oH at *
      generalize l.getD j 0 = x at *
      generalize l.getD (j + 1) 0 = y at *
      rw [← PL.out, ← PH.out] at B2
      generalize prL r c l j = pL at *
      generalize prH r c l j = pH at *
      have wj : IntKind.i64.wrap ((j : Int) + 1 - 1) = (j : Int) := by rw [wrap_in _ ⟨by omega, by omega⟩]; omega
      have wk : IntKind.i64.wrap (j : Int) = (j : Int) := wrap_in _ ⟨by omega, by omega⟩
      have l0 : (j : Int) < (n : Int) := by omega
      have l1 : (j : Int) + 1 < (n : Int) := by omega
      have l2 : j < n := by omega
      have l3 : 0 ≤ (j : Int) + 1 := by omega
      have l4 : ((j : Int) + 1).toNat = j + 1 := by omega
      go_upto_region 10 with fail
      go_cut [13, 14] from 50 to 85 (fun s f wz => f = .int .i64 0 ∧ ∃ wx, wx = wz ∧ Meets3 w w11.heap.size (w11.heap.size + 1) (.int .i64 aL) (.int .i64 aH) (.int .i64 oL) (.int .i64 oH) (.int .i64 pL) (.int .i64 pH) s wx)
      case first =>
        go_region_with (go_at_call 18; refine (HO.out _).mono ?_; rintro e w2 ⟨rfl, gg⟩; have hq := fun h : Two wr.heap.size _ (.int .i64 0) (.int .i64 0) => h.below gg; simp [Two, go_sem] at hq; have X2 := Lib.hid gg; clear gg)
        all_goals go_wp2_with fail
        all_goals go_meet
        all_goals first | exact ⟨rfl, _, rfl, meets3_behind hB.out X2.out hT.out hS.out⟩ | exact ⟨rfl, _, rfl, meets3_ahead hB.out X2.out hT.out hS.out⟩
      case rest =>
        obtain ⟨rfl, wx, hwx, bs, rfl, hbs, hO, hB1, hT1, hS1⟩ := hcut
        subst hwx
        obtain ⟨o0, o1, _, _, _⟩ := hO.out
        obtain ⟨s0, s1, sf0, sf1, slt⟩ := hS1.out
        clear HO e1 e2 d0 d1 hB hT hS
        obtain ⟨q0, q1, q2⟩ := B1
        obtain ⟨q3, q4, q5⟩ := B2
        obtain ⟨q6, q7, _⟩ := B3
        go_wp2_with fail
        have wl : IntKind.i64.wrap (pL + oL) = pL + oL := wrap_in _ ⟨by omega, by omega⟩
        have wh : IntKind.i64.wrap (pH + oH) = pH + oH := wrap_in _ ⟨by omega, by omega⟩
        have hbs2 : w11.heap.size + 1 ≠ bs := fun e => hbs e.symm
        have hne : w11.heap.size ≠ w11.heap.size + 1 := by omega
        have HF : Hid (Below w.heap.size w (((wx.drew).setCell ⟨w11.heap.size + 1, 0, none⟩ (.int .i64 (pL + oL))).setCell ⟨w11.heap.size + 1, 1, none⟩ (.int .i64 (pH + oH))) ∧ Two w11.heap.size (((wx.drew).setCell ⟨w11.heap.size + 1, 0, none⟩ (.int .i64 (pL + oL))).setCell ⟨w11.heap.size + 1, 1, none⟩ (.int .i64 (pH + oH))) (.int .i64 aL) (.int .i64 aH) ∧ Two (w11.heap.size + 1) (((wx.drew).setCell ⟨w11.heap.size + 1, 0, none⟩ (.int .i64 (pL + oL))).setCell ⟨w11.heap.size + 1, 1, none⟩ (.int .i64 (pH + oH))) (.int .i64 (prL r c l (j + 1))) (.int .i64 (prH r c l (j + 1)))) :=
          ⟨((bel_trans hB1.out (bel_drew wx)).setCell (p := ⟨w11.heap.size + 1, 0, none⟩) (Nat.le_succ_of_le hwb) _).setCell (p := ⟨w11.heap.size + 1, 1, none⟩) (Nat.le_succ_of_le hwb) _, ((hT1.out.below (bel_drew wx)).other ⟨w11.heap.size + 1, 0, none⟩ hne.symm _).other ⟨w11.heap.size + 1, 1, none⟩ hne.symm _, by rw [← PL.out, ← PH.out]; exact ((hS1.out.below (bel_drew wx)).put0 _).set1 _⟩
        go_wp2_with fail
        go_region
        all_goals go_wp2
        all_goals go_roundw
        all_goals first | exact ⟨j + 1, by omega, by go_num, HF.out.1, HF.out.2.1, HF.out.2.2⟩ | (simp [intOf]; omega)
    · have hjn : (j : Int) + 1 = (n : Int) := by omega
      have hj2 : j = n - 1 := by omega
      rw [hj2, ← hx0.out.1, ← hx0.out.2] at hS
      rw [hjn]
      clear hjn hj2 hlt hj hx0 TS
      replace T1 := hT
      replace HB := hB
      have NV := Lib.hid (NV0.out.below hB.out)
      clear hT hB NV0
      have Q1 : ∀ W, (binOp .eql 33 (.agg #[.int .i64 aL, .int .i64 aH]) (.agg #[.int .i64 aL, .int .i64 aH])).run Try.prog W = .ok (.bool true) W := fun W => by rw [run_eql_bounds, show samB aL aH aL aH = true by simp [samB]]
      have Q2 : ∀ W, (binOp .neq 33 (.agg #[.int .i64 aL, .int .i64 aH]) (.agg #[.int .i64 aL, .int .i64 aH])).run Try.prog W = .ok (.bool false) W := fun W => by rw [run_neq_bounds, show samB aL aH aL aH = true by simp [samB]]; rfl
      obtain ⟨s0, s1, _, _, _⟩ := hS.out
      obtain ⟨t0, t1, _, _, _⟩ := T1.out
      by_cases h3 : n < 3
      · go_wp2
        go_returns
        exact ⟨rfl, HB.out⟩
      · have m0 : 0 ≤ cut % ((n : Int) - 2) := Int.emod_nonneg _ (by omega)
        have m1 : cut % ((n : Int) - 2) < (n : Int) - 2 := Int.emod_lt_of_pos _ (by omega)
        obtain ⟨k, hk⟩ : ∃ k : Nat, 1 + cut % ((n : Int) - 2) = (k : Int) := ⟨(1 + cut % ((n : Int) - 2)).toNat, by omega⟩
        have k0 : 1 ≤ k := by omega
        have k1 : k + 2 ≤ n := by omega
        have wc : IntKind.i64.wrap cut = cut := wrap_in _ ⟨by omega, by omega⟩
        have ws : IntKind.i64.wrap ((n : Int) - 2) = (n : Int) - 2 := wrap_in _ ⟨by omega, by omega⟩
        have wq : IntKind.i64.wrap (cut % ((n : Int) - 2)) = cut % ((n : Int) - 2) := wrap_in _ ⟨by omega, by omega⟩
        have wk : IntKind.i64.wrap (k : Int) = (k : Int) := wrap_in _ ⟨by omega, by omega⟩
        have wk1 : IntKind.i64.wrap ((k : Int) + 1) = (k : Int) + 1 := wrap_in _ ⟨by omega, by omega⟩
        have hz1 : ((n : Int) - 2 == 0) = false := by rw [beq_eq_false_iff_ne]; omega
        have hz2 : (n : Int) - 2 ≠ 0 := by omega
        have k2 : (k : Int) + 1 ≤ (n : Int) := by omega
        have k3 : (k : Int) + 1 ≤ (cap : Int) := by omega
        have k4 : ((k : Int) + 1).toNat = k + 1 := by omega
        have k5 : (k : Int).toNat = k := by omega
        have k6 : k ≠ cap := by omega
        have k7 : ¬ (cap = k) := by omega
        have k8 : k + 1 ≤ cap := by omega
        have k9 : k ≤ n := by omega
        obtain ⟨p1, p2, p3, p4⟩ := part_facts e0.out k k0 (by rw [← HL.out]; exact k1)
        have b1 := ar_bd p1
        have b2 := ar_bd p2
        have A1 : Hid (∀ v W, Nums W v (l.take (k + 1)) → Calls Try.prog 20 #[.int .i64 r, .int .i64 c, v] W fun e w' => e = .returned (.tuple #[.agg #[.int .i64 (arL r c (l.take (k + 1))), .int .i64 (arH r c (l.take (k + 1)))], .int .i64 0]) ∧ Below W.heap.size W w') := fun v W hn => by
          have := area_any r c v (l.take (k + 1)) W hn
          rwa [p1] at this
        have A2 : Hid (∀ v W, Nums W v (l.drop k) → Calls Try.prog 20 #[.int .i64 r, .int .i64 c, v] W fun e w' => e = .returned (.tuple #[.agg #[.int .i64 (arL r c (l.drop k)), .int .i64 (arH r c (l.drop k))], .int .i64 0]) ∧ Below W.heap.size W w') := fun v W hn => by
          have := area_any r c v (l.drop k) W hn
          rwa [p2] at this
        rw [haL] at p3
        rw [haH] at p4
        generalize arL r c (l.take (k + 1)) = L1 at *
        generalize arH r c (l.take (k + 1)) = H1 at *
        generalize arL r c (l.drop k) = L2 at *
        generalize arH r c (l.drop k) = H2 at *
        have wl : IntKind.i64.wrap (L1 + L2) = aL := by rw [wrap_in _ ⟨by omega, by omega⟩]; omega
        have wh : IntKind.i64.wrap (H1 + H2) = aH := by rw [wrap_in _ ⟨by omega, by omega⟩]; omega
        have NF : Hid (∀ W, Nums W (.slice (some ⟨b, off, none⟩) n cap) l → Nums W (.slice (some ⟨b, off, none⟩) (k + 1) cap) (l.take (k + 1))) := fun W hn => hn.first (k + 1) (by omega)
        have NL : Hid (∀ W, Nums W (.slice (some ⟨b, off, none⟩) n cap) l → Nums W (.slice (some ⟨b, off + k, none⟩) (n - k) (cap - k)) (l.drop k)) := fun W hn => hn.last k (by omega)
        have z1 : Hid ((l.take (k + 1)).length ≤ 1000) := by have := hz.out; show _ ≤ _; rw [List.length_take]; omega
        have z2 : Hid ((l.drop k).length ≤ 1000) := by have := hz.out; show _ ≤ _; rw [List.length_drop]; omega
        clear p1 p2 p3 p4 b1 b2 HA hwb haL haH
        go_wp2_with fail
        refine (clone_nums _ _ _ (NF.out _ NV.out) z1.out).mono ?_
        rintro e wa ⟨V5, rfl, hx, h1⟩
        replace T1 := Lib.hid (T1.out.below h1)
        replace NV := Lib.hid (NV.out.below h1)
        replace HB := Lib.hid (bel_trans HB.out h1); clear h1
        have N5 := Lib.hid hx; clear hx
        go_wp2_with fail
        refine (A1.out _ _ N5.out).mono ?_
        rintro e wb ⟨rfl, h1⟩
        replace T1 := Lib.hid ((T1.out.below h1).alloc (.cells #[.int .i64 L1, .int .i64 H1] 33))
        replace NV := Lib.hid ((NV.out.below h1).alloc (.cells #[.int .i64 L1, .int .i64 H1] 33))
        replace HB := Lib.hid ((bel_trans HB.out h1).alloc (bel_trans HB.out h1).size (.cells #[.int .i64 L1, .int .i64 H1] 33)); clear h1
        have T2 := Lib.hid (Two.new wb (.int .i64 L1) (.int .i64 H1) 33)
        go_wp2_with fail
        refine (clone_nums _ _ _ (NL.out _ NV.out) z2.out).mono ?_
        rintro e wc ⟨V6, rfl, hx, h1⟩
        replace T1 := Lib.hid (T1.out.below h1)
        replace T2 := Lib.hid (T2.out.below h1)
        replace HB := Lib.hid (bel_trans HB.out h1); clear h1
        have N6 := Lib.hid hx; clear hx
        go_wp2_with fail
        refine (A2.out _ _ N6.out).mono ?_
        rintro e wd ⟨rfl, h1⟩
        replace T1 := Lib.hid ((T1.out.below h1).alloc (.cells #[.int .i64 L2, .int .i64 H2] 33))
        replace T2 := Lib.hid ((T2.out.below h1).alloc (.cells #[.int .i64 L2, .int .i64 H2] 33))
        replace HB := Lib.hid ((bel_trans HB.out h1).alloc (bel_trans HB.out h1).size (.cells #[.int .i64 L2, .int .i64 H2] 33)); clear h1
        obtain ⟨x0, x1, _, _, _⟩ := T1.out
        obtain ⟨y0, y1, _, _, _⟩ := T2.out
        clear s0 s1 t0 t1
        go_wp2
        go_returns
        exact ⟨rfl, HB.out⟩
theorem walk (r c : Int) (v : Value) (zs : List Int) (cut : Int) (w : World) (r0 : -9223372036854775808 ≤ r ∧ r ≤ 9223372036854775807) (c0 : -9223372036854775808 ≤ c ∧ c ≤ 9223372036854775807) (hv : Nums w v zs) (hs : zs.length * 8 ≤ 140737488355328) (u0 : 0 ≤ cut ∧ cut ≤ 255) :
    Calls Try.prog 8 #[.int .i64 r, .int .i64 c, v, .int .u8 cut] w fun e w' => e = .returned (.bool true) ∧ Below w.heap.size w w' := by
  have hv2 := hv
  obtain ⟨a, cap, rfl, ⟨l1, l2⟩, hh⟩ := hv
  by_cases e : arE r c zs = 0
  · have hR := (arE_zero.1 e).2
    have n0 := hR.n0
    have n1 := hR.n1
    rcases hh with hh | ⟨b, off, rfl, hb, hc⟩
    · omega
    · exact good r c cut b off zs.length cap zs w (Lib.hid (by omega)) hv2 (Lib.hid e) u0.1 u0.2 hb n0 n1 (Lib.hid rfl) l1 l2 hc
  · refine bad r c _ cut a zs.length cap zs w (Lib.hid hs) hv2 (by simpa using e) (by simpa using e) (fun v W hn => ?_)
    have := area_any r c v zs W hn
    rwa [(ar_none e).1, (ar_none e).2] at this

set_option maxRecDepth 100000 in
theorem lifted (os : Os) (started : os.Started) (H : Type) (enc : TypeId × Value → H) :
    ReturnsInHanded {} Try.checked os 8 .any (Rows.segmentPartsSpec.pre6 enc Try.prog Try.f8 Rows.segmentPartsRow.domain false) (Rows.segmentPartsSpec.post enc Try.prog Try.f8 false true false false) := by
  refine returnsInHanded_of_change_sized (C := Try.checked) own started (by kernel_rfl) Try.func8
    (ChangeSpec.witness6 (enc := enc) (C := Try.checked) false ⟨#[], #[.int .i64 0, .int .i64 0, .slice none 0 0, .int .u8 0], []⟩ 8 (by kernel_rfl) (by kernel_rfl) (by kernel_rfl) (by kernel_rfl)) ?_
  intro W base args ds gs before hval0 hW hcnd hsz _
  have hval : ∀ (j : Nat) t v, Try.f8.params[j]? = some t → args[j]? = some v → Value.okWide Try.prog W .any base t v := hval0
  clear hval0
  have hW' := hW
  obtain ⟨p, q, hA0, hV, rfl, hfz, hnd⟩ := hW
  have hA : DataW.TrodAll enc Try.prog W 0 (fun _ => true) true Try.f8.params.toList args.toList ds p := hA0
  rw [Try.params8] at hA hval
  obtain ⟨v0, vs0, d0, ds0, p0, q0, hargs, rfl, rfl, h0, r0⟩ := trodAll_cons hA
  obtain ⟨v1, vs1, d1, ds1, p1, q1, rfl, rfl, rfl, h1, r1⟩ := trodAll_cons r0
  obtain ⟨v2, vs2, d2, ds2, p2, q2, rfl, rfl, rfl, h2, r2⟩ := trodAll_cons r1
  obtain ⟨v3, vs3, d3, ds3, p3, q3, rfl, rfl, rfl, h3, r3⟩ := trodAll_cons r2
  obtain ⟨rfl, rfl, rfl⟩ := trodAll_nil r3
  obtain rfl : args = #[v0, v1, v2, v3] := by cases args; simp_all
  obtain ⟨rfl, rfl⟩ := trodVars_none hV
  have k0 := h0
  have lt0 : ∀ x ∈ p0, x.block < W.heap.size := by obtain ⟨m, hm⟩ := k0; exact DataW.trod_lt m _ _ _ hm
  have k1 := h1
  have lt1 : ∀ x ∈ p1, x.block < W.heap.size := by obtain ⟨m, hm⟩ := k1; exact DataW.trod_lt m _ _ _ hm
  have k2 := h2
  have lt2 : ∀ x ∈ p2, x.block < W.heap.size := by obtain ⟨m, hm⟩ := k2; exact DataW.trod_lt m _ _ _ hm
  have k3 := h3
  have lt3 : ∀ x ∈ p3, x.block < W.heap.size := by obtain ⟨m, hm⟩ := k3; exact DataW.trod_lt m _ _ _ hm
  obtain ⟨a0, rfl, rfl, rfl, w0⟩ := open_int Try.underlying3 (hval 0 3 v0 rfl rfl) h0
  obtain ⟨a1, rfl, rfl, rfl, w1⟩ := open_int Try.underlying3 (hval 1 3 v1 rfl rfl) h1
  obtain ⟨z2, w2, b2, dd2⟩ := open_intSliceW Try.underlying22 Try.underlying3 (by kernel_rfl) (hval 2 22 v2 rfl rfl) h2
  have sz2 := sized_ints hsz (j := 2) (by kernel_rfl) rfl Try.underlying22 (by kernel_rfl) dd2
  obtain ⟨a3, rfl, rfl, rfl, w3⟩ := open_int Try.underlying5 (hval 3 5 v3 rfl rfl) h3
  clear hA0
  refine (walk a0 a1 v2 z2 a3 W (wf_bd w0) (wf_bd w1) w2 sz2 (wf_u8 w3)).mono fun e W' ⟨he, bel⟩ => ?_
  subst he
  exact ⟨_, rfl, _, _, _, [], _, [], hW', trodAll_mk1 (shut_bool Try.underlying4 _), (trodAll_cons_mk (Below.trod laidOut (by kernel_rfl) (of_decide_eq_true (by kernel_rfl)) k0 bel lt0) (trodAll_cons_mk (Below.trod laidOut (by kernel_rfl) (of_decide_eq_true (by kernel_rfl)) k1 bel lt1) (trodAll_cons_mk (Below.trod laidOut (by kernel_rfl) (of_decide_eq_true (by kernel_rfl)) k2 bel lt2) (trodAll_cons_mk (Below.trod laidOut (by kernel_rfl) (of_decide_eq_true (by kernel_rfl)) k3 bel lt3) trodAll_mk0)))), rfl, bel.frame _, fun h => by cases h⟩

theorem over : Rows.segmentPartsRow.holds Try.pinned (OpenSpec.ofChange Rows.segmentPartsSpec) :=
  OpenClaim.holds_of_wide 8 Try.f8 rfl rfl rfl rfl rfl rfl rfl ⟨rfl, rfl, rfl, rfl, rfl⟩ rfl rfl rfl rfl rfl (by kernel_rfl) Try.func8 (by kernel_rfl)
    (of_decide_eq_true (by kernel_rfl)) (by unfold Func.isWrapper; first | (rw [if_pos (by decide +kernel)]; kernel_rfl) | (rw [if_neg (by decide +kernel)]; exact ⟨rfl, rfl⟩))
    (fun os started H enc _ => lifted os started H enc)

theorem proved : Rows.SegmentPartsSaid := over
#print axioms proved
end Go.Proofs.Ytlofblpfohnooaa.segmentParts
