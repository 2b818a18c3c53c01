/- Package thermal: Mean. -/
import Derived.Test.YtigmpbipbkgnfaaDoorTC
import Derived.Test.YtigmpbipbkgnfaaDoorNums
namespace Go.Proofs.YtigmpbipbkgnfaaDoor
open Go.RowKit

theorem tsum_any (b off n cap : Nat) (l : List Int) (w : World) (n1 : n ≤ 64) (hl : n = l.length) (hc : Hid (∀ j, j < n → w.cell? ⟨b, off + j, none⟩ = some (.int .i64 (l.getD j 0)))) (ha : Hid (l.all heatB = true)) :
    Calls Tryd.prog 34 #[.slice (some ⟨b, off, none⟩) n cap] w fun e w' => e = .returned (.int .i64 l.sum) ∧ w = w' := by
  have HL := Lib.hid hl
  clear hl
  go_enter Tryd.func34, Tryd.ntmps34
  go_wp2_with fail
  go_loopw [3, 8] (fun ss ii wr => ∃ (k : Nat) (s : Int), k ≤ n ∧ ss = .int .i64 s ∧ ii = .int .i64 k ∧ w = wr ∧ -400 * k ≤ s ∧ s ≤ 600 * k ∧ Hid (s = (l.take k).sum)) (fun _ ii _ => n - (intOf ii).toNat)
  case atStart => exact ⟨0, 0, by omega, rfl, rfl, rfl, by omega, by omega, by show _ = _; simp⟩
  case round =>
    obtain ⟨k, s, hk, rfl, rfl, rfl, s0, s1, hs⟩ := hrel
    by_cases hlt : k < n
    · have c0 := hc.out k hlt
      have hkl : k < l.length := by rw [← HL.out]; exact hlt
      have HS := Lib.hid (sum_next l k hkl)
      have hx : heatB (l.getD k 0) = true := by
        cases hx : heatB (l.getD k 0) with
        | true => rfl
        | false => have := all_not heatB l k hkl hx; rw [ha.out] at this; cases this
      have hx2 : -400 ≤ l.getD k 0 ∧ l.getD k 0 ≤ 600 := by simpa [heatB] using hx
      obtain ⟨x0, x1⟩ := hx2
      clear hkl hx
      generalize l.getD k 0 = x at *
      go_wp2
      go_roundw
      case rel => exact ⟨k + 1, s + x, by omega, rfl, by go_num, by first | rfl | trivial, by omega, by omega, by show _ = _; rw [HS.out, ← hs.out]⟩
      case measure => simp [intOf]; omega
    · obtain rfl : k = n := by omega
      have hsum : s = l.sum := by rw [hs.out, List.take_of_length_le (by rw [← HL.out]; exact Nat.le_refl _)]
      subst hsum
      go_wp2
      go_returns
      exact ⟨rfl, rfl⟩

theorem mean_rule (v : Value) (rule : Int) (w : World) (HR : Hid (Calls Tryd.prog 32 #[.int .i64 rule] w fun e w' => e = .returned (.bool false) ∧ Below w.heap.size w w')) :
    Calls Tryd.prog 18 #[v, .int .i64 rule] w fun e w' => e = .returned (.tuple #[.int .i64 0, .int .i64 1]) ∧ Below w.heap.size w w' := by
  go_enter Tryd.func18, Tryd.ntmps18
  go_wp2_with fail
  refine HR.out.mono ?_
  rintro e w1 ⟨rfl, gg⟩
  have X1 := Lib.hid gg; clear gg
  go_wp2
  go_returns
  exact ⟨rfl, X1.out⟩
theorem mean_none (a : Option Addr) (cap : Nat) (rule : Int) (w : World) (HR : Hid (Calls Tryd.prog 32 #[.int .i64 rule] w fun e w' => e = .returned (.bool true) ∧ Below w.heap.size w w')) :
    Calls Tryd.prog 18 #[.slice a 0 cap, .int .i64 rule] w fun e w' => e = .returned (.tuple #[.int .i64 0, .int .i64 9]) ∧ Below w.heap.size w w' := by
  go_enter Tryd.func18, Tryd.ntmps18
  go_wp2_with fail
  refine HR.out.mono ?_
  rintro e w1 ⟨rfl, gg⟩
  have X1 := Lib.hid gg; clear gg
  go_wp2
  go_returns
  exact ⟨rfl, X1.out⟩
theorem mean_many (a : Option Addr) (n cap : Nat) (rule : Int) (w : World) (h : 64 < n) (h2 : n ≤ 9223372036854775807) (HR : Hid (Calls Tryd.prog 32 #[.int .i64 rule] w fun e w' => e = .returned (.bool true) ∧ Below w.heap.size w w')) :
    Calls Tryd.prog 18 #[.slice a n cap, .int .i64 rule] w fun e w' => e = .returned (.tuple #[.int .i64 0, .int .i64 8]) ∧ Below w.heap.size w w' := by
  have hn0 : ((n : Int) == 0) = false := by rw [beq_eq_false_iff_ne]; omega
  go_enter Tryd.func18, Tryd.ntmps18
  go_wp2_with fail
  refine HR.out.mono ?_
  rintro e w1 ⟨rfl, gg⟩
  have X1 := Lib.hid gg; clear gg
  go_wp2
  go_returns
  exact ⟨rfl, X1.out⟩
set_option maxHeartbeats 2000000 in
theorem mean_some (b off n cap : Nat) (l : List Int) (rule M X E : Int) (w : World) (n0 : 0 < n) (n1 : n ≤ 64) (hl : n = l.length) (hb : b < w.heap.size)
    (hc : Hid (∀ j, j < n → w.cell? ⟨b, off + j, none⟩ = some (.int .i64 (l.getD j 0))))
    (HR : Hid (Calls Tryd.prog 32 #[.int .i64 rule] w fun e w' => e = .returned (.bool true) ∧ Below w.heap.size w w'))
    (HQ : Hid (l.all heatB = true → ∀ W, Calls Tryd.prog 33 #[.int .i64 l.sum, .int .i64 n, .int .i64 rule] W fun e w' => e = .returned (.tuple #[.int .i64 M, .int .i64 X, .int .i64 E]) ∧ Below W.heap.size W w'))
    (h1 : Hid (l.all heatB = false → E = 2 ∧ M = 0)) :
    Calls Tryd.prog 18 #[.slice (some ⟨b, off, none⟩) n cap, .int .i64 rule] w fun e w' => e = .returned (.tuple #[.int .i64 M, .int .i64 E]) ∧ Below w.heap.size w w' := by
  have hn0 : ((n : Int) == 0) = false := by rw [beq_eq_false_iff_ne]; omega
  have HL := Lib.hid hl
  clear hl
  go_enter Tryd.func18, Tryd.ntmps18
  go_wp2_with fail
  refine HR.out.mono ?_
  rintro e w0 ⟨rfl, gg⟩
  have hd : Hid (∀ j, j < n → w0.cell? ⟨b, off + j, none⟩ = some (.int .i64 (l.getD j 0))) := fun j hj => by rw [(bcell gg).1 _ _ hb]; exact hc.out j hj
  have X1 := Lib.hid gg; clear gg
  clear hc
  go_wp2_with fail
  go_loopw [7, 22] (fun _ ii wr => ∃ (k : Nat), k ≤ n ∧ ii = .int .i64 k ∧ w0 = wr ∧ Hid ((l.take k).all heatB = true)) (fun _ ii _ => n - (intOf ii).toNat)
  case atStart => exact ⟨0, by omega, rfl, rfl, by show _ = _; simp⟩
  case round =>
    obtain ⟨k, hk, rfl, rfl, ha⟩ := hrel
    by_cases hlt : k < n
    · have c0 := hd.out k hlt
      have hkl : k < l.length := by rw [← HL.out]; exact hlt
      have HA := Lib.hid (all_next heatB l k hkl)
      have HN : Hid (heatB (l.getD k 0) = false → E = 2 ∧ M = 0) := fun h => h1.out (all_not heatB l k hkl h)
      clear hkl
      generalize l.getD k 0 = x at *
      have HH := Lib.hid (fun W => thHeat_any x W)
      cases hx : heatB x with
      | true =>
        rw [hx] at HH
        have HA2 : Hid ((l.take (k + 1)).all heatB = true) := by show _ = _; rw [HA.out, ha.out, hx]; rfl
        clear HN HA hx
        go_wp2_with fail
        refine (HH.out _).mono ?_
        rintro e w1 ⟨rfl, rfl⟩
        go_wp2
        go_roundw
        case rel => exact ⟨k + 1, by omega, by go_num, by first | rfl | trivial, HA2⟩
        case measure => simp [intOf]; omega
      | false =>
        rw [hx] at HH
        obtain ⟨rfl, rfl⟩ := HN.out hx
        clear HN HA hx
        go_wp2_with fail
        refine (HH.out _).mono ?_
        rintro e w1 ⟨rfl, rfl⟩
        go_wp2
        go_returns
        exact ⟨rfl, X1.out⟩
    · obtain rfl : k = n := by omega
      have hall : l.all heatB = true := by
        have := ha.out
        rw [List.take_of_length_le (by rw [← HL.out]; exact Nat.le_refl _)] at this
        exact this
      replace HQ := Lib.hid (HQ.out hall)
      have HS := Lib.hid (tsum_any b off k cap l w0 n1 HL.out hd hall)
      clear hall h1
      generalize l.sum = s at *
      go_wp2_with fail
      refine HS.out.mono ?_
      rintro e w1 ⟨rfl, rfl⟩
      go_wp2_with fail
      refine (HQ.out _).mono ?_
      rintro e w2 ⟨rfl, gg⟩
      replace X1 := Lib.hid (bel_trans X1.out gg); clear gg
      go_wp2
      go_returns
      exact ⟨rfl, X1.out⟩
theorem thMean_any (v : Value) (l : List Int) (rule : Int) (w : World) (hw : WordsIs w) (hv : Nums w v l) :
    Calls Tryd.prog 18 #[v, .int .i64 rule] w fun e w' => e = .returned (.tuple #[.int .i64 (meQ l rule), .int .i64 (meE l rule)]) ∧ Below w.heap.size w w' := by
  have hno : ∀ E, meE l rule = E → E ≠ 0 → meQ l rule = 0 := fun E h1 h2 => by unfold meQ; rw [h1, if_neg h2]
  have HR := thRule_any rule w hw
  cases hr : isRuleB rule with
  | false =>
    have e : meE l rule = 1 := by unfold meE; rw [hr]; rfl
    rw [hno 1 e (by omega), e]
    rw [hr] at HR
    exact mean_rule v rule w HR
  | true =>
    rw [hr] at HR
    obtain ⟨a, cap, rfl, hl, h⟩ := hv
    by_cases g1 : l.length = 0
    · have e : meE l rule = 9 := by unfold meE; rw [hr, if_pos rfl, if_pos g1]
      rw [hno 9 e (by omega), e, g1]
      exact mean_none a cap rule w HR
    · by_cases g2 : 64 < l.length
      · have e : meE l rule = 8 := by unfold meE; rw [hr, if_pos rfl, if_neg g1, if_pos g2]
        rw [hno 8 e (by omega), e]
        exact mean_many a l.length cap rule w g2 (by omega) HR
      · rcases h with h | ⟨b, off, rfl, hb, hc⟩
        · exact absurd h g1
        · have e : meE l rule = if l.all heatB = true then 0 else 2 := by unfold meE; rw [hr, if_pos rfl, if_neg g1, if_neg g2]
          refine mean_some b off l.length cap l rule _ (quoR l.sum l.length rule) _ w (by omega) (by omega) rfl hb hc HR (fun ha W => ?_) (fun ha => ?_)
          · have e0 : meE l rule = 0 := by rw [e, if_pos ha]
            have eq : meQ l rule = quoQ l.sum l.length rule := by unfold meQ; rw [if_pos e0]
            have hz := (me_is e0).1
            have := quotient_any l.sum l.length rule W
            rw [hz, ← eq] at this
            rw [e0]
            exact this
          · have e2 : meE l rule = 2 := by rw [e, ha]; rfl
            exact ⟨e2, hno 2 e2 (by omega)⟩
end Go.Proofs.YtigmpbipbkgnfaaDoor
