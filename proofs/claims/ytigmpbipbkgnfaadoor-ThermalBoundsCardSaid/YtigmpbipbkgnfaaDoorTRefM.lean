/- The reference of layer 5: Mean. -/
import Derived.Test.YtigmpbipbkgnfaaDoorTRef
import Derived.Test.YtigmpbipbkgnfaaDoorNums
namespace Go.Proofs.YtigmpbipbkgnfaaDoor
open Go.RowKit

theorem refMean_rule (v : Value) (rule : Int) (w : World) (HR : Hid (∀ W, Calls Tryd.prog 35 #[.int .i64 rule] W fun e w' => e = .returned (.bool false) ∧ W = w')) :
    Calls Tryd.prog 20 #[v, .int .i64 rule] w fun e w' => e = .returned (.tuple #[.int .i64 0, .int .i64 1]) ∧ Below w.heap.size w w' := by
  go_enter Tryd.func20, Tryd.ntmps20
  go_wp2_with fail
  refine (HR.out _).mono ?_
  rintro e w1 ⟨rfl, rfl⟩
  go_wp2
  go_returns
  exact ⟨rfl, Below.refl _ _⟩
theorem refMean_none (a : Option Addr) (cap : Nat) (rule : Int) (w : World) (HR : Hid (∀ W, Calls Tryd.prog 35 #[.int .i64 rule] W fun e w' => e = .returned (.bool true) ∧ W = w')) :
    Calls Tryd.prog 20 #[.slice a 0 cap, .int .i64 rule] w fun e w' => e = .returned (.tuple #[.int .i64 0, .int .i64 9]) ∧ Below w.heap.size w w' := by
  go_enter Tryd.func20, Tryd.ntmps20
  go_wp2_with fail
  refine (HR.out _).mono ?_
  rintro e w1 ⟨rfl, rfl⟩
  go_wp2
  go_returns
  exact ⟨rfl, Below.refl _ _⟩
theorem refMean_many (a : Option Addr) (n cap : Nat) (rule : Int) (w : World) (h : 64 < n) (h2 : n ≤ 9223372036854775807) (HR : Hid (∀ W, Calls Tryd.prog 35 #[.int .i64 rule] W fun e w' => e = .returned (.bool true) ∧ W = w')) :
    Calls Tryd.prog 20 #[.slice a n cap, .int .i64 rule] w fun e w' => e = .returned (.tuple #[.int .i64 0, .int .i64 8]) ∧ Below w.heap.size w w' := by
  have hn0 : ((n : Int) == 0) = false := by rw [beq_eq_false_iff_ne]; omega
  go_enter Tryd.func20, Tryd.ntmps20
  go_wp2_with fail
  refine (HR.out _).mono ?_
  rintro e w1 ⟨rfl, rfl⟩
  go_wp2
  go_returns
  exact ⟨rfl, Below.refl _ _⟩
set_option maxHeartbeats 2000000 in
theorem refMean_some (b off n cap : Nat) (l : List Int) (rule M X Y E : Int) (w : World) (n0 : 0 < n) (n1 : n ≤ 64) (hl : n = l.length) (hb : b < w.heap.size)
    (hc : Hid (∀ j, j < n → w.cell? ⟨b, off + j, none⟩ = some (.int .i64 (l.getD j 0))))
    (HR : Hid (∀ W, Calls Tryd.prog 35 #[.int .i64 rule] W fun e w' => e = .returned (.bool true) ∧ W = w'))
    (HQ : Hid (l.all heatB = true → ∀ W, Calls Tryd.prog 36 #[.int .i64 l.sum, .int .i64 n, .int .i64 rule] W fun e w' => e = .returned (.tuple #[.int .i64 M, .int .i64 X, .int .i64 Y]) ∧ Below W.heap.size W w'))
    (h1 : Hid (l.all heatB = false → E = 2 ∧ M = 0)) (h2 : Hid (l.all heatB = true → E = 0)) :
    Calls Tryd.prog 20 #[.slice (some ⟨b, off, none⟩) n cap, .int .i64 rule] w fun e w' => e = .returned (.tuple #[.int .i64 M, .int .i64 E]) ∧ Below w.heap.size w w' := by
  have hn0 : ((n : Int) == 0) = false := by rw [beq_eq_false_iff_ne]; omega
  have HL := Lib.hid hl
  clear hl
  go_enter Tryd.func20, Tryd.ntmps20
  go_wp2_with fail
  refine (HR.out _).mono ?_
  rintro e w0 ⟨rfl, rfl⟩
  go_wp2_with fail
  go_loopw [6, 7] (fun ss ii wr => ∃ (k : Nat) (s : Int), k ≤ n ∧ ss = .int .i64 s ∧ ii = .int .i64 k ∧ w = wr ∧ -400 * k ≤ s ∧ s ≤ 600 * k ∧ Hid (s = (l.take k).sum) ∧ Hid ((l.take k).all heatB = true)) (fun _ ii _ => n - (intOf ii).toNat)
  case atStart => exact ⟨0, 0, by omega, rfl, rfl, rfl, by omega, by omega, by show _ = _; simp, by show _ = _; simp⟩
  case round =>
    obtain ⟨k, s, hk, rfl, rfl, rfl, s0, s1, hs, ha⟩ := hrel
    by_cases hlt : k < n
    · have c0 := hc.out k hlt
      have hkl : k < l.length := by rw [← HL.out]; exact hlt
      have HS := Lib.hid (sum_next l k hkl)
      have HA := Lib.hid (all_next heatB l k hkl)
      have HN : Hid (heatB (l.getD k 0) = false → E = 2 ∧ M = 0) := fun h => h1.out (all_not heatB l k hkl h)
      clear hkl
      generalize l.getD k 0 = x at *
      have HH := Lib.hid (fun W => refHeat_any x W)
      cases hx : heatB x with
      | true =>
        have hx2 : -400 ≤ x ∧ x ≤ 600 := by simpa [heatB] using hx
        rw [hx] at HH
        have HA2 : Hid ((l.take (k + 1)).all heatB = true) := by show _ = _; rw [HA.out, ha.out, hx]; rfl
        clear HN HA hx
        go_wp2_with fail
        refine (HH.out _).mono ?_
        rintro e w1 ⟨rfl, rfl⟩
        go_wp2
        go_roundw
        case rel => exact ⟨k + 1, s + x, by omega, rfl, by go_num, by first | rfl | trivial, by omega, by omega, by show _ = _; rw [HS.out, ← hs.out], HA2⟩
        case measure => simp [intOf]; omega
      | false =>
        rw [hx] at HH
        obtain ⟨rfl, rfl⟩ := HN.out hx
        clear HN HA hx
        go_wp2_with fail
        refine (HH.out _).mono ?_
        rintro e w1 ⟨rfl, rfl⟩
        go_wp2
        go_returns
        exact ⟨rfl, Below.refl _ _⟩
    · obtain rfl : k = n := by omega
      have hsum : s = l.sum := by rw [hs.out, List.take_of_length_le (by rw [← HL.out]; exact Nat.le_refl _)]
      have hall : l.all heatB = true := by
        have := ha.out
        rw [List.take_of_length_le (by rw [← HL.out]; exact Nat.le_refl _)] at this
        exact this
      obtain rfl := h2.out hall
      replace HQ := Lib.hid (HQ.out hall)
      rw [← hsum] at HQ
      clear hsum hall h1 h2
      go_wp2_with fail
      refine (HQ.out _).mono ?_
      rintro e w1 ⟨rfl, gg⟩
      have X1 := Lib.hid gg; clear gg
      go_wp2
      go_returns
      exact ⟨rfl, X1.out⟩
theorem refMean_any (v : Value) (l : List Int) (rule : Int) (w : World) (hv : Nums w v l) :
    Calls Tryd.prog 20 #[v, .int .i64 rule] w fun e w' => e = .returned (.tuple #[.int .i64 (meQ l rule), .int .i64 (meE l rule)]) ∧ Below w.heap.size w w' := by
  have hno : ∀ E, meE l rule = E → E ≠ 0 → meQ l rule = 0 := fun E h1 h2 => by unfold meQ; rw [h1, if_neg h2]
  have HR := fun W => refIs_any rule W
  cases hr : isRuleB rule with
  | false =>
    have e : meE l rule = 1 := by unfold meE; rw [hr]; rfl
    rw [hno 1 e (by omega), e]
    rw [hr] at HR
    exact refMean_rule v rule w HR
  | true =>
    rw [hr] at HR
    obtain ⟨a, cap, rfl, hl, h⟩ := hv
    by_cases g1 : l.length = 0
    · have e : meE l rule = 9 := by unfold meE; rw [hr, if_pos rfl, if_pos g1]
      rw [hno 9 e (by omega), e, g1]
      exact refMean_none a cap rule w HR
    · by_cases g2 : 64 < l.length
      · have e : meE l rule = 8 := by unfold meE; rw [hr, if_pos rfl, if_neg g1, if_pos g2]
        rw [hno 8 e (by omega), e]
        exact refMean_many a l.length cap rule w g2 (by omega) HR
      · rcases h with h | ⟨b, off, rfl, hb, hc⟩
        · exact absurd h g1
        · have e : meE l rule = if l.all heatB = true then 0 else 2 := by unfold meE; rw [hr, if_pos rfl, if_neg g1, if_neg g2]
          refine refMean_some b off l.length cap l rule _ (quoR l.sum l.length rule) (quoE l.sum l.length rule) _ w (by omega) (by omega) rfl hb hc HR (fun ha W => ?_) (fun ha => ?_) (fun ha => ?_)
          · have e0 : meE l rule = 0 := by rw [e, if_pos ha]
            have eq : meQ l rule = quoQ l.sum l.length rule := by unfold meQ; rw [if_pos e0]
            rw [eq]
            exact refQuotient_any l.sum l.length rule W
          · have e2 : meE l rule = 2 := by rw [e, ha]; rfl
            exact ⟨e2, hno 2 e2 (by omega)⟩
          · rw [e, if_pos ha]
end Go.Proofs.YtigmpbipbkgnfaaDoor
