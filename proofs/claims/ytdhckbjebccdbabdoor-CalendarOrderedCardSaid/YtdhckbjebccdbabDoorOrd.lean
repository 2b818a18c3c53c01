/- Texts of days: read again, and in order. -/
import Derived.Test.YtdhckbjebccdbabDoorParse
namespace Go.Proofs.YtdhckbjebccdbabDoor
open Go.RowKit

theorem u8_eq {a b : UInt8} (h : a.toNat = b.toNat) : a = b := UInt8.toNat_inj.1 h
theorem dg_lt (a b : Int) : decide (dg a < dg b) = decide (a % 10 < b % 10) := by
  have := dg_nat a
  have := dg_nat b
  rw [decide_eq_decide, UInt8.lt_iff_toNat_lt]; omega
theorem dg_eq (a b : Int) : (dg a == dg b) = decide (a % 10 = b % 10) := by
  have ha := dg_nat a
  have hb := dg_nat b
  rw [Bool.eq_iff_iff, beq_iff_eq, decide_eq_true_iff]
  constructor
  · intro h; rw [h] at ha; omega
  · intro h; exact u8_eq (by omega)
theorem bl_two (a b : Int) (x y : List UInt8) (ha : 0 ≤ a ∧ a ≤ 99) (hb : 0 ≤ b ∧ b ≤ 99) : Op.bytesLess (two a ++ x) (two b ++ y) = (decide (a < b) || (decide (a = b) && Op.bytesLess x y)) := by
  simp only [two, List.cons_append, List.nil_append, Op.bytesLess, dg_lt, dg_eq]
  generalize Op.bytesLess x y = c
  rw [Bool.eq_iff_iff]
  cases c <;> simp <;> omega
theorem four_digits (a : Int) (ha : 0 ≤ a ∧ a ≤ 9999) : a = 1000 * (a / 1000 % 10) + 100 * (a / 100 % 10) + 10 * (a / 10 % 10) + a % 10 ∧ (0 ≤ a / 1000 % 10 ∧ a / 1000 % 10 ≤ 9) ∧ (0 ≤ a / 100 % 10 ∧ a / 100 % 10 ≤ 9) ∧ (0 ≤ a / 10 % 10 ∧ a / 10 % 10 ≤ 9) ∧ (0 ≤ a % 10 ∧ a % 10 ≤ 9) := by omega
theorem bl_four (a b : Int) (x y : List UInt8) (ha : 0 ≤ a ∧ a ≤ 9999) (hb : 0 ≤ b ∧ b ≤ 9999) : Op.bytesLess (four a ++ x) (four b ++ y) = (decide (a < b) || (decide (a = b) && Op.bytesLess x y)) := by
  simp only [four, List.cons_append, List.nil_append, Op.bytesLess, dg_lt, dg_eq]
  generalize Op.bytesLess x y = c
  obtain ⟨e, a1, a2, a3, a4⟩ := four_digits a ha
  obtain ⟨f, b1, b2, b3, b4⟩ := four_digits b hb
  generalize a / 1000 % 10 = A at *
  generalize a / 100 % 10 = B at *
  generalize a / 10 % 10 = C at *
  generalize a % 10 = D at *
  generalize b / 1000 % 10 = E at *
  generalize b / 100 % 10 = F at *
  generalize b / 10 % 10 = G at *
  generalize b % 10 = H at *
  subst e f
  rw [Bool.eq_iff_iff]
  cases c <;> simp <;> omega
theorem bl_one (c : UInt8) (x y : List UInt8) : Op.bytesLess ([c] ++ x) ([c] ++ y) = Op.bytesLess x y := by
  simp [Op.bytesLess]

theorem txt_lt (a b : Int) (ha : dayB a = true) (hb : dayB b = true) : Op.bytesLess (txt a) (txt b) = decide (a < b) := by
  obtain ⟨a0, a1⟩ := (dayB_iff a).1 ha
  obtain ⟨b0, b1⟩ := (dayB_iff b).1 hb
  obtain ⟨va, na⟩ := dt_spec a a0
  obtain ⟨vb, nb⟩ := dt_spec b b0
  have k := num_lt _ _ _ _ _ _ va vb
  rw [na, nb] at k
  have ya := yr_ge a a0
  have yb := yr_ge b b0
  have ya2 := yr_le a a0 a1
  have yb2 := yr_le b b0 b1
  have la := ml_bd (yr a) (mo a)
  have lb := ml_bd (yr b) (mo b)
  obtain ⟨m1, m2, d1, d2⟩ := va
  obtain ⟨p1, p2, e1, e2⟩ := vb
  unfold txt
  simp only [List.append_assoc]
  rw [bl_four _ _ _ _ (by omega) (by omega), bl_one, bl_two _ _ _ _ (by omega) (by omega), bl_one]
  have z : Op.bytesLess (two (da a)) (two (da b)) = decide (da a < da b) := by
    have := bl_two (da a) (da b) [] [] (by omega) (by omega)
    rw [List.append_nil, List.append_nil] at this
    rw [this]; simp [Op.bytesLess]
  rw [z, Bool.eq_iff_iff]
  simp only [Bool.or_eq_true, Bool.and_eq_true, decide_eq_true_iff]
  rw [k]

theorem two_val (a b : UInt8) (ha : isDg a = true) (hb : isDg b = true) : two (val [a, b]) = [a, b] := by
  rw [isDg_iff] at ha hb
  have h1 := dg_nat (val [a, b] / 10)
  have h2 := dg_nat (val [a, b])
  simp only [val, List.foldl_cons, List.foldl_nil] at *
  unfold two
  rw [List.cons.injEq, List.cons.injEq]
  exact ⟨u8_eq (by omega), u8_eq (by omega), rfl⟩
theorem four_val (a b c d : UInt8) (ha : isDg a = true) (hb : isDg b = true) (hc : isDg c = true) (hd : isDg d = true) : four (val [a, b, c, d]) = [a, b, c, d] := by
  rw [isDg_iff] at ha hb hc hd
  have h1 := dg_nat (val [a, b, c, d] / 1000)
  have h2 := dg_nat (val [a, b, c, d] / 100)
  have h3 := dg_nat (val [a, b, c, d] / 10)
  have h4 := dg_nat (val [a, b, c, d])
  simp only [val, List.foldl_cons, List.foldl_nil] at *
  unfold four
  rw [List.cons.injEq, List.cons.injEq, List.cons.injEq, List.cons.injEq]
  exact ⟨u8_eq (by omega), u8_eq (by omega), u8_eq (by omega), u8_eq (by omega), rfl⟩

/-- what is read is printed as it was -/
theorem read_print (l : List UInt8) (h : paE l = 0) : dayB (paN l) = true ∧ txt (paN l) = l := by
  unfold paE at h
  unfold paN
  cases hf : formB l with
  | false => rw [hf] at h; simp at h
  | true =>
    rw [hf, if_pos rfl] at h
    rw [if_pos rfl]
    unfold formB at hf
    simp only [Bool.and_eq_true, decide_eq_true_iff, beq_iff_eq] at hf
    obtain ⟨⟨⟨hl, h4⟩, h7⟩, ⟨f1, f2⟩, f3⟩ := hf
    obtain ⟨c0, c1, c2, c3, c4, c5, c6, c7, c8, c9, rfl⟩ : ∃ c0 c1 c2 c3 c4 c5 c6 c7 c8 c9, l = [c0, c1, c2, c3, c4, c5, c6, c7, c8, c9] := by
      match l, hl with
      | [c0, c1, c2, c3, c4, c5, c6, c7, c8, c9], _ => exact ⟨_, _, _, _, _, _, _, _, _, _, rfl⟩
    simp only [List.take_succ_cons, List.take_zero, List.drop_succ_cons, List.drop_zero, dgs, List.all_cons, List.all_nil, Bool.and_eq_true, Bool.and_true] at f1 f2 f3 h ⊢
    simp only [List.getD_cons_succ, List.getD_cons_zero] at h4 h7
    obtain ⟨g0, g1, g2, g3⟩ := f1
    obtain ⟨g5, g6⟩ := f2
    obtain ⟨g8, g9⟩ := f3
    obtain rfl : c4 = 45 := u8_eq h4
    obtain rfl : c7 = 45 := u8_eq h7
    unfold dayEr at h
    cases hk : okD (val [c0, c1, c2, c3]) (val [c5, c6]) (val [c8, c9]) with
    | false => rw [hk] at h; simp at h
    | true =>
      obtain ⟨hv, n0, n1⟩ := (okD_iff _ _ _).1 hk
      obtain ⟨e1, e2, e3⟩ := dt_of _ _ _ hv n0
      unfold dayN
      rw [hk, if_pos rfl]
      refine ⟨(dayB_iff _).2 ⟨n0, n1⟩, ?_⟩
      unfold txt
      rw [e1, e2, e3, four_val _ _ _ _ g0 g1 g2 g3, two_val _ _ g5 g6, two_val _ _ g8 g9]
      rfl

/-- what is printed is read as it was -/
theorem print_read (n : Int) (h : dayB n = true) : paN (txt n) = n ∧ paE (txt n) = 0 ∧ (txt n).length = 10 := by
  obtain ⟨n0, n1⟩ := (dayB_iff n).1 h
  obtain ⟨hv, hn⟩ := dt_spec n n0
  have y0 := yr_ge n n0
  have y1 := yr_le n n0 n1
  have hl := ml_bd (yr n) (mo n)
  have hok : okD (yr n) (mo n) (da n) = true := (okD_iff _ _ _).2 ⟨hv, by omega, by omega⟩
  obtain ⟨m1, m2, d1, d2⟩ := hv
  have t1 : (txt n).take 4 = four (yr n) := rfl
  have t2 : ((txt n).drop 5).take 2 = two (mo n) := rfl
  have t3 : ((txt n).drop 8).take 2 = two (da n) := rfl
  have hf : formB (txt n) = true := by
    unfold formB
    rw [t1, t2, t3, dgs_four, dgs_two, dgs_two]
    rfl
  refine ⟨?_, ?_, rfl⟩
  · unfold paN
    rw [hf, if_pos rfl, t1, t2, t3, val_four _ (by omega) (by omega), val_two _ (by omega) (by omega), val_two _ (by omega) (by omega)]
    unfold dayN
    rw [hok, if_pos rfl, hn]
  · unfold paE
    rw [hf, if_pos rfl, t1, t2, t3, val_four _ (by omega) (by omega), val_two _ (by omega) (by omega), val_two _ (by omega) (by omega)]
    unfold dayEr
    rw [hok, if_pos rfl]
end Go.Proofs.YtdhckbjebccdbabDoor
