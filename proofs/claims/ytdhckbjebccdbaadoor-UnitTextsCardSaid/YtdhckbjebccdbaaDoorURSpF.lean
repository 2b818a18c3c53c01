/- The reference of layer 3: split. -/
import Derived.Test.YtdhckbjebccdbaaDoorURTw
namespace Go.Proofs.YtdhckbjebccdbaaDoor
open Go.RowKit

/-- what split returns, as far as it matters -/
def SpIs (neg : Bool) (W P : ByteArray) (e : Ending) : Prop := ∃ g W' P', e = .returned (.tuple #[.bool g, .string W', .string P', .bool (spB neg true W.data.toList P.data.toList)]) ∧ (spB neg true W.data.toList P.data.toList = true → g = neg ∧ W' = W ∧ P' = P)
theorem spIs_no {neg g : Bool} {W P W' P' : ByteArray} (hb : spB neg true W.data.toList P.data.toList = false) : SpIs neg W P (.returned (.tuple #[.bool g, .string W', .string P', .bool false])) := ⟨g, W', P', by rw [hb], fun h => by rw [hb] at h; cases h⟩
theorem spIs_yes {neg : Bool} {W P : ByteArray} (hb : spB neg true W.data.toList P.data.toList = true) : SpIs neg W P (.returned (.tuple #[.bool neg, .string W, .string P, .bool true])) := ⟨neg, W, P, by rw [hb], fun _ => ⟨rfl, rfl, rfl⟩⟩
theorem rdB_pos (W : ByteArray) (h : rdB W.data.toList = true) : 0 < W.size := by
  apply Classical.byContradiction
  intro hn
  have : W.data.toList = [] := List.eq_nil_of_length_eq_zero (by rw [Array.length_toList]; show W.size = 0; omega)
  rw [this] at h
  simp [rdB] at h
theorem head_of (W : ByteArray) (h : 0 < W.size) : W.data.toList.head? = some W[0] := by
  rw [List.head?_eq_getElem?, List.getElem?_eq_getElem (by simpa using h)]
  rfl
theorem last_of (P : ByteArray) (h : 0 < P.size) : P.data.toList.getLast? = some (P[P.size - 1]'(by omega)) := by
  rw [List.getLast?_eq_getElem?, List.getElem?_eq_getElem (by simp; omega)]
  simp
  rfl
set_option maxRecDepth 100000 in
set_option maxHeartbeats 8000000 in
theorem refSplit_FA (s U : ByteArray) (w : World) (hs : s.size ≤ 100) (hU : U = s.extract 1 s.size) (hh : 0 < s.size) (h45 : s[0].toNat = 45)
    (HX : Hid (∀ W, Calls Tryd.prog 37 #[.string U, .int .u8 46] W fun e w' => e = .returned (.int .i64 (-1)) ∧ W = w'))
    (HD : Hid (∀ (t : ByteArray) W, t.size ≤ 100 → Calls Tryd.prog 48 #[.string t] W fun e w' => e = .returned (.bool (rdB t.data.toList)) ∧ W = w')) :
    Calls Tryd.prog 38 #[.string s] w fun e w' => e = .returned (.tuple #[.bool true, .string U, .string ⟨#[]⟩, .bool (spB true false U.data.toList [])]) ∧ Below w.heap.size w w' := by
  have e0 : s.toList ≠ [] := by rw [ByteArray.toList_eq]; intro h; have h2 := congrArg List.length h; simp at h2; simp [h2] at hh
  have e1 : (s.toList == []) = false := by simpa using e0
  have e2 : (s.toList != []) = true := by simpa using e0
  have e3 : ((s[0].toNat : Int) == 45) = true := by rw [h45]; rfl
  have zU : U.size ≤ 100 := by rw [hU, ByteArray.size_extract]; omega
  clear e0
  go_enter Tryd.func38, Tryd.ntmps38
  go_wp2_with fail
  generalize s.extract 1 s.size = U2 at *
  subst hU
  refine (HX.out _).mono ?_
  rintro e w1 ⟨rfl, rfl⟩
  clear HX
  have hP0 : (⟨#[]⟩ : ByteArray).size = 0 := rfl
  have hpe : ((⟨#[]⟩ : ByteArray).toList == []) = true := by kernel_rfl
  go_wp2_with fail
  refine (HD.out U _ zU).mono ?_
  rintro e w2 ⟨rfl, rfl⟩
  cases hbw : rdB U.data.toList with
  | false =>
    go_wp2
    go_returns
    have hb : spB true false U.data.toList [] = false := by simp only [spB, hbw] <;> rfl
    rw [hb]
    exact ⟨rfl, Below.refl _ _⟩
  | true =>
    have hw0 : 0 < U.size := rdB_pos U hbw
    have hhd := head_of U hw0
    by_cases h48 : U.data.toList = [48]
    · have q1 : (U.toList == [48]) = true := by rw [ByteArray.toList_eq, h48]; rfl
      have g1 : (U.data.toList == [48]) = true := by rw [h48]; rfl
      have hl1 : U.size = 1 := by have := congrArg List.length h48; simpa using this
      have gz : decide (U.data.toList.length + ([] : List UInt8).length ≤ 20) = true := decide_eq_true (by simp; omega)
      go_wp2
      go_returns
      have hb : spB true false U.data.toList [] = false := by simp only [spB, hbw, g1, gz] <;> rfl
      rw [hb]
      exact ⟨rfl, Below.refl _ _⟩
    · have q1 : (U.toList == [48]) = false := by rw [ByteArray.toList_eq]; simpa using h48
      have g1 : (U.data.toList == [48]) = false := by simpa using h48
      by_cases hh : U[0].toNat = 48
      · have gh : (U.data.toList.head? == some 48) = true := by rw [hhd, show U[0] = 48 from UInt8.toNat_inj.1 hh]; rfl
        go_wp2
        go_returns
        have hb : spB true false U.data.toList [] = false := by simp only [spB, hbw, g1, gh] <;> rfl
        rw [hb]
        exact ⟨rfl, Below.refl _ _⟩
      · have gh : (U.data.toList.head? == some 48) = false := by
          rw [hhd, beq_eq_false_iff_ne]
          intro hc
          exact hh (by rw [Option.some.inj hc]; rfl)
        have hh2 : ((U[0].toNat : Int) == 48) = false := by rw [beq_eq_false_iff_ne]; omega
        have hh3 : ((U[0].toNat : Int) != 48) = true := by simp only [bne, hh2]; rfl
        by_cases hz : U.size + (⟨#[]⟩ : ByteArray).size ≤ 20
        · have gz : decide (U.data.toList.length + ([] : List UInt8).length ≤ 20) = true := decide_eq_true (by simp; omega)
          go_wp2
          go_returns
          have hb : spB true false U.data.toList [] = true := by simp only [spB, hbw, g1, gh, gz] <;> rfl
          rw [hb]
          exact ⟨rfl, Below.refl _ _⟩
        · have hz1 : 20 < U.size + (⟨#[]⟩ : ByteArray).size := by omega
          have gz : decide (U.data.toList.length + ([] : List UInt8).length ≤ 20) = false := decide_eq_false (by simp; omega)
          go_wp2
          go_returns
          have hb : spB true false U.data.toList [] = false := by simp only [spB, hbw, g1, gh, gz] <;> rfl
          rw [hb]
          exact ⟨rfl, Below.refl _ _⟩
set_option maxRecDepth 100000 in
set_option maxHeartbeats 8000000 in
theorem refSplit_FB (s U : ByteArray) (w : World) (hs : s.size ≤ 100) (hU : U = s) (h0 : s.size = 0)
    (HX : Hid (∀ W, Calls Tryd.prog 37 #[.string U, .int .u8 46] W fun e w' => e = .returned (.int .i64 (-1)) ∧ W = w'))
    (HD : Hid (∀ (t : ByteArray) W, t.size ≤ 100 → Calls Tryd.prog 48 #[.string t] W fun e w' => e = .returned (.bool (rdB t.data.toList)) ∧ W = w')) :
    Calls Tryd.prog 38 #[.string s] w fun e w' => e = .returned (.tuple #[.bool false, .string U, .string ⟨#[]⟩, .bool (spB false false U.data.toList [])]) ∧ Below w.heap.size w w' := by
  subst hU
  have e0 : U.toList = [] := by rw [ByteArray.toList_eq]; exact List.eq_nil_of_length_eq_zero (by simpa using h0)
  have e1 : (U.toList == []) = true := by rw [e0]; rfl
  have e2 : (U.toList != []) = false := by simp only [bne, e1]; rfl
  have zU : U.size ≤ 100 := hs
  go_enter Tryd.func38, Tryd.ntmps38
  go_wp2_with fail
  refine (HX.out _).mono ?_
  rintro e w1 ⟨rfl, rfl⟩
  clear HX
  have hP0 : (⟨#[]⟩ : ByteArray).size = 0 := rfl
  have hpe : ((⟨#[]⟩ : ByteArray).toList == []) = true := by kernel_rfl
  go_wp2_with fail
  refine (HD.out U _ zU).mono ?_
  rintro e w2 ⟨rfl, rfl⟩
  cases hbw : rdB U.data.toList with
  | false =>
    go_wp2
    go_returns
    have hb : spB false false U.data.toList [] = false := by simp only [spB, hbw] <;> rfl
    rw [hb]
    exact ⟨rfl, Below.refl _ _⟩
  | true => exact absurd (rdB_pos U hbw) (by omega)
set_option maxRecDepth 100000 in
set_option maxHeartbeats 8000000 in
theorem refSplit_FC (s U : ByteArray) (w : World) (hs : s.size ≤ 100) (hU : U = s) (hh : 0 < s.size) (h45 : s[0].toNat ≠ 45)
    (HX : Hid (∀ W, Calls Tryd.prog 37 #[.string U, .int .u8 46] W fun e w' => e = .returned (.int .i64 (-1)) ∧ W = w'))
    (HD : Hid (∀ (t : ByteArray) W, t.size ≤ 100 → Calls Tryd.prog 48 #[.string t] W fun e w' => e = .returned (.bool (rdB t.data.toList)) ∧ W = w')) :
    Calls Tryd.prog 38 #[.string s] w fun e w' => e = .returned (.tuple #[.bool false, .string U, .string ⟨#[]⟩, .bool (spB false false U.data.toList [])]) ∧ Below w.heap.size w w' := by
  subst hU
  have e0 : U.toList ≠ [] := by rw [ByteArray.toList_eq]; intro h; have h2 := congrArg List.length h; simp at h2; simp [h2] at hh
  have e1 : (U.toList == []) = false := by simpa using e0
  have e2 : (U.toList != []) = true := by simpa using e0
  have e3 : ((U[0].toNat : Int) == 45) = false := by rw [beq_eq_false_iff_ne]; omega
  have zU : U.size ≤ 100 := hs
  clear e0
  go_enter Tryd.func38, Tryd.ntmps38
  go_wp2_with fail
  refine (HX.out _).mono ?_
  rintro e w1 ⟨rfl, rfl⟩
  clear HX
  have hP0 : (⟨#[]⟩ : ByteArray).size = 0 := rfl
  have hpe : ((⟨#[]⟩ : ByteArray).toList == []) = true := by kernel_rfl
  go_wp2_with fail
  refine (HD.out U _ zU).mono ?_
  rintro e w2 ⟨rfl, rfl⟩
  cases hbw : rdB U.data.toList with
  | false =>
    go_wp2
    go_returns
    have hb : spB false false U.data.toList [] = false := by simp only [spB, hbw] <;> rfl
    rw [hb]
    exact ⟨rfl, Below.refl _ _⟩
  | true =>
    have hw0 : 0 < U.size := rdB_pos U hbw
    have hhd := head_of U hw0
    by_cases h48 : U.data.toList = [48]
    · have q1 : (U.toList == [48]) = true := by rw [ByteArray.toList_eq, h48]; rfl
      have g1 : (U.data.toList == [48]) = true := by rw [h48]; rfl
      have hl1 : U.size = 1 := by have := congrArg List.length h48; simpa using this
      have hz : U.size + (⟨#[]⟩ : ByteArray).size ≤ 20 := by omega
      have gz : decide (U.data.toList.length + ([] : List UInt8).length ≤ 20) = true := decide_eq_true (by simp; omega)
      go_wp2
      go_returns
      have hb : spB false false U.data.toList [] = true := by simp only [spB, hbw, g1, gz] <;> rfl
      rw [hb]
      exact ⟨rfl, Below.refl _ _⟩
    · have q1 : (U.toList == [48]) = false := by rw [ByteArray.toList_eq]; simpa using h48
      have g1 : (U.data.toList == [48]) = false := by simpa using h48
      by_cases hh : U[0].toNat = 48
      · have gh : (U.data.toList.head? == some 48) = true := by rw [hhd, show U[0] = 48 from UInt8.toNat_inj.1 hh]; rfl
        go_wp2
        go_returns
        have hb : spB false false U.data.toList [] = false := by simp only [spB, hbw, g1, gh] <;> rfl
        rw [hb]
        exact ⟨rfl, Below.refl _ _⟩
      · have gh : (U.data.toList.head? == some 48) = false := by
          rw [hhd, beq_eq_false_iff_ne]
          intro hc
          exact hh (by rw [Option.some.inj hc]; rfl)
        have hh2 : ((U[0].toNat : Int) == 48) = false := by rw [beq_eq_false_iff_ne]; omega
        have hh3 : ((U[0].toNat : Int) != 48) = true := by simp only [bne, hh2]; rfl
        by_cases hz : U.size + (⟨#[]⟩ : ByteArray).size ≤ 20
        · have gz : decide (U.data.toList.length + ([] : List UInt8).length ≤ 20) = true := decide_eq_true (by simp; omega)
          go_wp2
          go_returns
          have hb : spB false false U.data.toList [] = true := by simp only [spB, hbw, g1, gh, gz] <;> rfl
          rw [hb]
          exact ⟨rfl, Below.refl _ _⟩
        · have hz1 : 20 < U.size + (⟨#[]⟩ : ByteArray).size := by omega
          have gz : decide (U.data.toList.length + ([] : List UInt8).length ≤ 20) = false := decide_eq_false (by simp; omega)
          go_wp2
          go_returns
          have hb : spB false false U.data.toList [] = false := by simp only [spB, hbw, g1, gh, gz] <;> rfl
          rw [hb]
          exact ⟨rfl, Below.refl _ _⟩
end Go.Proofs.YtdhckbjebccdbaaDoor
