/- The reference of layer 3: split. -/
import Derived.Test.YtdhckbjebccdbaaDoorURSpF
namespace Go.Proofs.YtdhckbjebccdbaaDoor
open Go.RowKit

set_option maxRecDepth 100000 in
set_option maxHeartbeats 16000000 in
theorem refSplit_TA (s U W P : ByteArray) (i : Nat) (w : World) (hs : s.size ≤ 100) (hU : U = s.extract 1 s.size) (hh : 0 < s.size) (h45 : s[0].toNat = 45) (hi : i + 1 ≤ U.size) (hWe : W = U.extract 0 i) (hPe : P = U.extract (i + 1) U.size)
    (HX : Hid (∀ W, Calls Tryd.prog 37 #[.string U, .int .u8 46] W fun e w' => e = .returned (.int .i64 i) ∧ W = w'))
    (HD : Hid (∀ (t : ByteArray) W, t.size ≤ 100 → Calls Tryd.prog 48 #[.string t] W fun e w' => e = .returned (.bool (rdB t.data.toList)) ∧ W = w')) :
    Calls Tryd.prog 38 #[.string s] w fun e w' => SpIs true W P e ∧ Below w.heap.size w w' := by
  have zW : (U.extract 0 i).size ≤ 100 := by rw [ByteArray.size_extract]; have : U.size ≤ 100 := (by rw [hU]; rw [ByteArray.size_extract]; omega); omega
  have zP : (U.extract (i + 1) U.size).size ≤ 100 := by rw [ByteArray.size_extract]; have : U.size ≤ 100 := (by rw [hU]; rw [ByteArray.size_extract]; omega); omega
  have e0 : s.toList ≠ [] := by rw [ByteArray.toList_eq]; intro h; have h2 := congrArg List.length h; simp at h2; simp [h2] at hh
  have e1 : (s.toList == []) = false := by simpa using e0
  have e2 : (s.toList != []) = true := by simpa using e0
  have e3 : ((s[0].toNat : Int) == 45) = true := by rw [h45]; rfl
  have zU : U.size ≤ 100 := by rw [hU, ByteArray.size_extract]; omega
  clear e0
  have hwi : IntKind.i64.wrap ((i : Int) + 1) = (i : Int) + 1 := wrap_in _ (by omega)
  have hni : ((i : Int) + 1).toNat = i + 1 := by omega
  have hi0 : (0 : Int) ≤ (i : Int) + 1 := by omega
  have hi1 : (i : Int) + 1 ≤ U.size := by omega
  go_enter Tryd.func38, Tryd.ntmps38
  go_wp2_with fail
  generalize s.extract 1 s.size = U2 at *
  subst hU
  refine (HX.out _).mono ?_
  rintro e w1 ⟨rfl, rfl⟩
  clear HX
  go_wp2_with fail
  go_quiet (fail)
  clear hwi hni hi0 hi1
  go_wp2_with fail
  generalize U.extract 0 i = W2 at *
  generalize U.extract (i + 1) U.size = P2 at *
  subst hWe hPe
  refine (HD.out P _ zP).mono ?_
  rintro e w2 ⟨rfl, rfl⟩
  cases hbp : rdB P.data.toList with
  | false =>
    go_wp2
    go_returns
    have hb : spB true true W.data.toList P.data.toList = false := by simp only [spB, hbp] <;> rfl
    exact ⟨spIs_no hb, bel_drewN _ _⟩
  | true =>
    have hp0 : 0 < P.size := rdB_pos P hbp
    have hlst := last_of P hp0
    have hpe2 : ¬ P.data.toList = [] := fun h => by rw [h] at hlst; simp at hlst
    have hpe : (P.toList == []) = false := by rw [ByteArray.toList_eq]; simpa using hpe2
    have gpe : (P.data.toList == []) = false := by simpa using hpe2
    have hpi0 : (0 : Int) ≤ (P.size : Int) - 1 := by omega
    have hpn : ((P.size : Int) - 1).toNat = P.size - 1 := by omega
    by_cases hp48 : P[P.size - 1].toNat = 48
    · have gl : (P.data.toList.getLast? == some 48) = true := by rw [hlst, show P[P.size - 1] = 48 from UInt8.toNat_inj.1 hp48]; rfl
      have hb : spB true true W.data.toList P.data.toList = false := by simp only [spB, hbp, gl] <;> rfl
      go_wp2
      go_returns
      exact ⟨spIs_no hb, bel_drewN _ _⟩
    · have hlp : (P.data.toList.getLast? == some 48) = false := by
        rw [hlst, beq_eq_false_iff_ne]
        intro hc
        exact hp48 (by rw [Option.some.inj hc]; rfl)
      have hp2 : ((P[P.size - 1].toNat : Int) == 48) = false := by rw [beq_eq_false_iff_ne]; omega
      go_wp2_with fail
      refine (HD.out W _ zW).mono ?_
      rintro e w2 ⟨rfl, rfl⟩
      cases hbw : rdB W.data.toList with
      | false =>
        go_wp2
        go_returns
        have hb : spB true true W.data.toList P.data.toList = false := by simp only [spB, hbw, hbp, hlp] <;> rfl
        exact ⟨spIs_no hb, bel_drewN _ _⟩
      | true =>
        have hw0 : 0 < W.size := rdB_pos W hbw
        have hhd := head_of W hw0
        by_cases h48 : W.data.toList = [48]
        · have q1 : (W.toList == [48]) = true := by rw [ByteArray.toList_eq, h48]; rfl
          have g1 : (W.data.toList == [48]) = true := by rw [h48]; rfl
          have hl1 : W.size = 1 := by have := congrArg List.length h48; simpa using this
          by_cases hz : W.size + P.size ≤ 20
          · have gz : decide (W.data.toList.length + P.data.toList.length ≤ 20) = true := decide_eq_true (by simpa using hz)
            go_wp2
            go_returns
            have hb : spB true true W.data.toList P.data.toList = true := by simp only [spB, hbw, g1, gz, hbp, hlp, gpe] <;> rfl
            exact ⟨spIs_yes hb, bel_drewN _ _⟩
          · have hz1 : 20 < W.size + P.size := by omega
            have gz : decide (W.data.toList.length + P.data.toList.length ≤ 20) = false := decide_eq_false (by simpa using hz)
            go_wp2
            go_returns
            have hb : spB true true W.data.toList P.data.toList = false := by simp only [spB, hbw, g1, gz, hbp, hlp] <;> rfl
            exact ⟨spIs_no hb, bel_drewN _ _⟩
        · have q1 : (W.toList == [48]) = false := by rw [ByteArray.toList_eq]; simpa using h48
          have g1 : (W.data.toList == [48]) = false := by simpa using h48
          by_cases hh : W[0].toNat = 48
          · have gh : (W.data.toList.head? == some 48) = true := by rw [hhd, show W[0] = 48 from UInt8.toNat_inj.1 hh]; rfl
            go_wp2
            go_returns
            have hb : spB true true W.data.toList P.data.toList = false := by simp only [spB, hbw, g1, gh, hbp, hlp] <;> rfl
            exact ⟨spIs_no hb, bel_drewN _ _⟩
          · have gh : (W.data.toList.head? == some 48) = false := by
              rw [hhd, beq_eq_false_iff_ne]
              intro hc
              exact hh (by rw [Option.some.inj hc]; rfl)
            have hh2 : ((W[0].toNat : Int) == 48) = false := by rw [beq_eq_false_iff_ne]; omega
            have hh3 : ((W[0].toNat : Int) != 48) = true := by simp only [bne, hh2]; rfl
            by_cases hz : W.size + P.size ≤ 20
            · have gz : decide (W.data.toList.length + P.data.toList.length ≤ 20) = true := decide_eq_true (by simpa using hz)
              go_wp2
              go_returns
              have hb : spB true true W.data.toList P.data.toList = true := by simp only [spB, hbw, g1, gh, gz, hbp, hlp] <;> rfl
              exact ⟨spIs_yes hb, bel_drewN _ _⟩
            · have hz1 : 20 < W.size + P.size := by omega
              have gz : decide (W.data.toList.length + P.data.toList.length ≤ 20) = false := decide_eq_false (by simpa using hz)
              go_wp2
              go_returns
              have hb : spB true true W.data.toList P.data.toList = false := by simp only [spB, hbw, g1, gh, gz, hbp, hlp] <;> rfl
              exact ⟨spIs_no hb, bel_drewN _ _⟩
end Go.Proofs.YtdhckbjebccdbaaDoor
