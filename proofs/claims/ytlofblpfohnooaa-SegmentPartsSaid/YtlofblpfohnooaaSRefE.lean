/- The reference of layer 7: areas between right heights. -/
import Derived.Test.YtlofblpfohnooaaSRefD
namespace Go.Proofs.Ytlofblpfohnooaa
open Go.RowKit

set_option maxRecDepth 100000 in
set_option maxHeartbeats 8000000 in
theorem refArea_ok (b off n cap : Nat) (l : List Int) (r c : Int) (w : World) (hl : n = l.length) (hR : Hid (HR l)) (h : lenB r = true) (h2 : lenB c = true) (hb : b < w.heap.size)
    (hc : Hid (∀ j, j < n → w.cell? ⟨b, off + j, none⟩ = some (.int .i64 (l.getD j 0))))
    (H3 : Hid (∀ W, Below w.heap.size w W → Calls Try.prog 17 #[.slice (some ⟨b, off, none⟩) n cap] W fun e w' => e = .returned (.int .i64 0) ∧ Below W.heap.size W w')) :
    Calls Try.prog 21 #[.int .i64 r, .int .i64 c, .slice (some ⟨b, off, none⟩) n cap] w fun e w' => e = .returned (.tuple #[.agg #[.int .i64 (prL r c l (n - 1)), .int .i64 (prH r c l (n - 1))], .int .i64 0]) ∧ Below w.heap.size w w' := by
  have H1 := Lib.hid (fun W => refLen_any r W)
  have H2 := Lib.hid (fun W => refLen_any c W)
  obtain ⟨r0, r1⟩ := (lenB_iff r).1 h
  obtain ⟨c0, c1⟩ := (lenB_iff c).1 h2
  rw [h] at H1
  rw [h2] at H2
  have n0 : 2 ≤ n := by have := hR.out.n0; omega
  have n1 : n ≤ 65 := by have := hR.out.n1; omega
  have HL := Lib.hid hl
  clear h h2 hl
  have T0 := Lib.hid (Two.new w (.int .i64 0) (.int .i64 0) 33)
  go_enter Try.func21, Try.ntmps21
  go_wp2_with fail
  refine (H1.out _).mono ?_
  rintro e w1 ⟨rfl, hw⟩
  subst hw
  go_wp2_with fail
  refine (H2.out _).mono ?_
  rintro e w1 ⟨rfl, hw⟩
  subst hw
  go_wp2_with fail
  refine (H3.out _ (bel_alloc (Below.refl _ _))).mono ?_
  rintro e w1 ⟨rfl, gg⟩
  replace T0 := Lib.hid ((T0.out.below gg).alloc (.cells #[.int .i64 0, .int .i64 0] 33))
  have TS := Lib.hid (Two.new w1 (.int .i64 0) (.int .i64 0) 33)
  have hw1 : w.heap.size < w1.heap.size := by have := gg.size; simp at this; omega
  have X1 := Lib.hid (bel_trans (bel_alloc gg) (bel_alloc (Below.refl (w1.alloc (.cells #[.int .i64 0, .int .i64 0] 33)).heap.size _))); clear gg
  clear H1 H2 H3
  go_wp2_with fail
  go_loopw [10, 11] (fun ii _ wr => ∃ (j : Nat), j + 1 ≤ n ∧ ii = .int .i64 ((j : Int) + 1) ∧ Hid (Below w.heap.size w wr) ∧ Hid (Two w.heap.size wr (.int .i64 0) (.int .i64 0)) ∧ Hid (Two w1.heap.size wr (.int .i64 (prL r c l j)) (.int .i64 (prH r c l j)))) (fun ii _ _ => n - (intOf ii).toNat)
  case atStart => exact ⟨0, by omega, rfl, X1, T0, TS⟩
  case round =>
    obtain ⟨j, hj, rfl, hB, hT, hS⟩ := hrel
    by_cases hlt : j + 1 < n
    · have d0 : wr.cell? ⟨b, off + j, none⟩ = some (.int .i64 (l.getD j 0)) := by rw [(bcell hB.out).1 _ _ hb]; exact hc.out j (by omega)
      have d1 : wr.cell? ⟨b, off + (j + 1), none⟩ = some (.int .i64 (l.getD (j + 1) 0)) := by rw [(bcell hB.out).1 _ _ hb]; exact hc.out (j + 1) hlt
      have hR2 := hR.out
      have lb0 := hR2.bd j (by rw [← HL.out]; omega)
      have lb1 := hR2.bd (j + 1) (by rw [← HL.out]; omega)
      have las := hR2.asc j (by rw [← HL.out]; exact hlt)
      have HO := Lib.hid (fun W => refOf_any r c (l.getD j 0) (l.getD (j + 1) 0) W r0 r1 c0 c1 lb0.1 las lb1.2)
      have hbr : b < wr.heap.size := Nat.lt_of_lt_of_le hb hB.out.size
      have e0 : ∀ o, (wr.alloc o).cell? ⟨b, off + j, none⟩ = some (.int .i64 (l.getD j 0)) := fun o => by rw [World.cell?_alloc_lt wr o _ hbr]; exact d0
      have e1 : ∀ o, (wr.alloc o).cell? ⟨b, off + (j + 1), none⟩ = some (.int .i64 (l.getD (j + 1) 0)) := fun o => by rw [World.cell?_alloc_lt wr o _ hbr]; exact d1
      have PL : Hid (prL r c l j + ofL r c (l.getD j 0) (l.getD (j + 1) 0) = prL r c l (j + 1)) := rfl
      have PH : Hid (prH r c l j + ofH r c (l.getD j 0) (l.getD (j + 1) 0) = prH r c l (j + 1)) := rfl
      have B1 := pr_le (c := c) r0 r1 hR2 j (by rw [← HL.out]; omega)
      have B2 := pr_le (c := c) r0 r1 hR2 (j + 1) (by rw [← HL.out]; omega)
      have B3 := of_bd r c _ _ r0 las
      clear hR2 lb0 lb1 las
      generalize ofL r c (l.getD j 0) (l.getD (j + 1) 0) = oL at *
      generalize ofH r c (l.getD j 0) (l.getD (j + 1) 0) = oH at *
      generalize l.getD j 0 = x at *
      generalize l.getD (j + 1) 0 = y at *
      rw [← PL.out, ← PH.out] at B2
      generalize prL r c l j = pL at *
      generalize prH r c l j = pH at *
      have wj : IntKind.i64.wrap ((j : Int) + 1 - 1) = (j : Int) := by rw [wrap_in _ ⟨by omega, by omega⟩]; omega
      have wk : IntKind.i64.wrap (j : Int) = (j : Int) := wrap_in _ ⟨by omega, by omega⟩
      have l0 : (j : Int) < (n : Int) := by omega
      have l1 : (j : Int) + 1 < (n : Int) := by omega
      have l2 : j < n := by omega
      have l3 : 0 ≤ (j : Int) + 1 := by omega
      have l4 : ((j : Int) + 1).toNat = j + 1 := by omega
      go_upto_region 10 with fail
      go_cut [11] from 34 to 46 (fun s wz => ∃ wx, wx = wz ∧ Meets w w1.heap.size (.int .i64 oL) (.int .i64 oH) (.int .i64 pL) (.int .i64 pH) s wx)
      case first =>
        go_region_with (go_at_call 31; refine (HO.out _).mono ?_; rintro e w2 ⟨rfl, gg⟩; have hq := fun h : Two wr.heap.size _ (.int .i64 0) (.int .i64 0) => h.below gg; simp [Two, go_sem] at hq; have X2 := Lib.hid gg; clear gg)
        all_goals go_wp2_with fail
        all_goals go_meet
        all_goals first | exact ⟨_, rfl, meets_behind hB.out X2.out hT.out hS.out⟩ | exact ⟨_, rfl, meets_ahead hB.out X2.out hT.out hS.out⟩
      case rest =>
        obtain ⟨wx, hwx, bs, rfl, hbs, hO, hB1, hT1, hS1⟩ := hcut
        subst hwx
        obtain ⟨o0, o1, _, _, _⟩ := hO.out
        obtain ⟨s0, s1, sf0, sf1, slt⟩ := hS1.out
        clear HO e0 e1 d0 d1 hB hT hS
        obtain ⟨q0, q1, q2⟩ := B1
        obtain ⟨q3, q4, q5⟩ := B2
        obtain ⟨q6, q7, _⟩ := B3
        go_wp2_with fail
        have wl : IntKind.i64.wrap (pL + oL) = pL + oL := wrap_in _ ⟨by omega, by omega⟩
        have wh : IntKind.i64.wrap (pH + oH) = pH + oH := wrap_in _ ⟨by omega, by omega⟩
        have hbs2 : w1.heap.size ≠ bs := fun e => hbs e.symm
        have hne : w.heap.size ≠ w1.heap.size := Nat.ne_of_lt hw1
        have HF : Hid (Below w.heap.size w (((wx.drew).setCell ⟨w1.heap.size, 0, none⟩ (.int .i64 (pL + oL))).setCell ⟨w1.heap.size, 1, none⟩ (.int .i64 (pH + oH))) ∧ Two w.heap.size (((wx.drew).setCell ⟨w1.heap.size, 0, none⟩ (.int .i64 (pL + oL))).setCell ⟨w1.heap.size, 1, none⟩ (.int .i64 (pH + oH))) (.int .i64 0) (.int .i64 0) ∧ Two w1.heap.size (((wx.drew).setCell ⟨w1.heap.size, 0, none⟩ (.int .i64 (pL + oL))).setCell ⟨w1.heap.size, 1, none⟩ (.int .i64 (pH + oH))) (.int .i64 (prL r c l (j + 1))) (.int .i64 (prH r c l (j + 1)))) :=
          ⟨((bel_trans hB1.out (bel_drew wx)).setCell (p := ⟨w1.heap.size, 0, none⟩) (Nat.le_of_lt hw1) _).setCell (p := ⟨w1.heap.size, 1, none⟩) (Nat.le_of_lt hw1) _, ((hT1.out.below (bel_drew wx)).other ⟨w1.heap.size, 0, none⟩ hne.symm _).other ⟨w1.heap.size, 1, none⟩ hne.symm _, by rw [← PL.out, ← PH.out]; exact ((hS1.out.below (bel_drew wx)).put0 _).set1 _⟩
        go_wp2_with fail
        go_region
        all_goals go_wp2
        all_goals go_roundw
        all_goals first | exact ⟨j + 1, by omega, by go_num, HF.out.1, HF.out.2.1, HF.out.2.2⟩ | (simp [intOf]; omega)
    · obtain rfl : n = j + 1 := by omega
      obtain ⟨s0, s1, sf0, sf1, slt⟩ := hS.out
      obtain ⟨r0, r1, rf0, rf1, rlt⟩ := hT.out
      go_wp2
      obtain ⟨t0, t1⟩ := two_read wr w.heap.size (.int .i64 (prL r c l j)) (.int .i64 (prH r c l j)) r0 r1
      refine bodyPost_ret (v := .tuple #[.agg #[.int .i64 (prL r c l j), .int .i64 (prH r c l j)], .int .i64 0]) (by simp [results, Try.results21, go_sem, t0, t1]) rfl ?_
      exact ⟨rfl, (hB.out.setCell (Nat.le_refl _) _).setCell (Nat.le_refl _) _⟩
end Go.Proofs.Ytlofblpfohnooaa
