/- Package unit: decimal.times. -/
import Derived.Test.YtdhckbjebccdbaaDoorUDig
namespace Go.Proofs.YtdhckbjebccdbaaDoor
open Go.RowKit

/-- a factor with so many zeros less: 0 if it has fewer -/
def shr : Nat → Int → Int
  | 0, f => f
  | p + 1, f => if f % 10 = 0 then shr p (f / 10) else 0
/-- a number, and the zeros of a factor behind it -/
def up : Nat → Int → Int → Int
  | 0, n, _ => n
  | k + 1, n, f => if 1 < f then up k (ap n 0) (f / 10) else n
theorem up_bd (k : Nat) (n f : Int) (h0 : 0 ≤ n) (h1 : n ≤ 1125899906842625) : 0 ≤ up k n f ∧ up k n f ≤ 1125899906842625 := by
  induction k generalizing n f with
  | zero => exact ⟨h0, h1⟩
  | succ k ih =>
    unfold up
    split
    · have := ap_bd n 0 h0 (by omega); exact ih _ _ this.1 this.2
    · exact ⟨h0, h1⟩
theorem shr_bd (p : Nat) (f : Int) (h0 : 0 ≤ f) : 0 ≤ shr p f ∧ shr p f ≤ f := by
  induction p generalizing f with
  | zero => exact ⟨h0, Int.le_refl _⟩
  | succ p ih =>
    unfold shr
    split
    · have := ih (f / 10) (by omega); omega
    · omega
theorem up_done (k j : Nat) (n f : Int) (hk : f < 10 ^ k) (hkj : k ≤ j) : up k n f = up j n f := by
  induction k generalizing n f j with
  | zero =>
    cases j with
    | zero => rfl
    | succ j => unfold up; rw [if_neg (by simp at hk; omega)]
  | succ k ih =>
    obtain ⟨i, rfl⟩ : ∃ i, j = i + 1 := ⟨j - 1, by omega⟩
    unfold up
    split
    · exact ih i _ _ (by rw [Int.pow_succ] at hk; omega) (by omega)
    · rfl

theorem times_no (neg : Bool) (n p f : Int) (w : World) (hp : 0 ≤ p) (hp1 : p ≤ 1000) (f0 : 1 ≤ f) (f1 : f ≤ 1000000000) (h : shr p.toNat f = 0) :
    Calls Tryd.prog 36 #[.agg #[.bool neg, .int .i64 n, .int .i64 p], .int .i64 f] w fun e w' => e = .returned (.tuple #[.int .i64 0, .bool false]) ∧ Below w.heap.size w w' := by
  obtain ⟨P, rfl⟩ := Int.eq_ofNat_of_zero_le hp
  have HF := Lib.hid h
  clear h
  go_enter Tryd.func36, Tryd.ntmps36
  go_wp2
  go_loop [1, 9] (fun g i => ∃ (k : Nat) (G : Int), k ≤ P ∧ i = .int .i64 k ∧ g = .int .i64 G ∧ 1 ≤ G ∧ G ≤ 1000000000 ∧ Hid (shr (P - k) G = 0)) (fun _ i => P - (intOf i).toNat)
  case atStart => exact ⟨0, f, by omega, rfl, rfl, f0, f1, HF⟩
  case round =>
    obtain ⟨k, G, hk, rfl, rfl, g0, g1, HG⟩ := hrel
    by_cases hlt : k < P
    · have hs := HG.out
      rw [show P - k = (P - (k + 1)) + 1 by omega] at hs
      unfold shr at hs
      by_cases hz : G % 10 = 0
      · rw [if_pos hz] at hs
        have HS := Lib.hid hs
        clear hs
        have hg : 1 ≤ G / 10 := by omega
        go_wp2
        go_round
        case rel => exact ⟨k + 1, G / 10, by omega, by go_num, rfl, by omega, by omega, HS⟩
        case measure => simp [intOf]; omega
      · have hz1 : (G % 10 == 0) = false := by simpa using hz
        have hz2 : (G % 10 != 0) = true := by simpa using hz
        clear hs hz
        go_wp2
        go_returns
        exact ⟨rfl, bel_alloc (Below.refl _ _)⟩
    · exfalso
      have := HG.out
      rw [show P - k = 0 by omega] at this
      unfold shr at this
      omega

theorem times_yes (neg : Bool) (n p f F V : Int) (w : World) (hp : 0 ≤ p) (hp1 : p ≤ 1000) (f0 : 1 ≤ f) (f1 : f ≤ 100000000) (n0 : 0 ≤ n) (n1 : n ≤ 1125899906842625) (h : shr p.toNat f = F) (hF : 1 ≤ F) (hV : up 9 n F = V) :
    Calls Tryd.prog 36 #[.agg #[.bool neg, .int .i64 n, .int .i64 p], .int .i64 f] w fun e w' => e = .returned (.tuple #[.int .i64 (if neg then -V else V), .bool true]) ∧ Below w.heap.size w w' := by
  obtain ⟨P, rfl⟩ := Int.eq_ofNat_of_zero_le hp
  have hFb := (shr_bd P f (by omega)).2
  rw [show ((P : Int)).toNat = P from rfl] at h
  have HF := Lib.hid h
  have HV := Lib.hid hV
  rw [h] at hFb
  clear h hV
  go_enter Tryd.func36, Tryd.ntmps36
  go_wp2
  go_loop [1, 9] (fun g i => ∃ (k : Nat) (G : Int), k ≤ P ∧ i = .int .i64 k ∧ g = .int .i64 G ∧ 1 ≤ G ∧ G ≤ 1000000000 ∧ Hid (shr (P - k) G = F)) (fun _ i => P - (intOf i).toNat)
  case atStart => exact ⟨0, f, by omega, rfl, rfl, f0, by omega, HF⟩
  case round =>
    obtain ⟨k, G, hk, rfl, rfl, g0, g1, HG⟩ := hrel
    by_cases hlt : k < P
    · have hs := HG.out
      rw [show P - k = (P - (k + 1)) + 1 by omega] at hs
      unfold shr at hs
      have hz : G % 10 = 0 := by
        apply Classical.byContradiction; intro hz
        rw [if_neg hz] at hs; omega
      rw [if_pos hz] at hs
      have HS := Lib.hid hs
      clear hs
      have hg : 1 ≤ G / 10 := by omega
      go_wp2
      go_round
      case rel => exact ⟨k + 1, G / 10, by omega, by go_num, rfl, by omega, by omega, HS⟩
      case measure => simp [intOf]; omega
    · obtain rfl : k = P := by omega
      have hg := HG.out
      rw [show k - k = 0 by omega] at hg
      unfold shr at hg
      subst hg
      clear HG HF
      go_wp2_with fail
      go_loop [1, 6] (fun g m => ∃ (j : Nat) (G' m' : Int), g = .int .i64 G' ∧ m = .int .i64 m' ∧ 0 ≤ G' ∧ G' ≤ 1000000000 ∧ 0 ≤ m' ∧ m' ≤ 1125899906842625 ∧ Hid (G' < 10 ^ j ∧ up j m' G' = V)) (fun g _ => (intOf g).toNat)
      case atStart => exact ⟨9, G, n, rfl, rfl, by omega, by omega, n0, n1, by omega, HV.out⟩
      case round =>
        obtain ⟨j, G', m', rfl, rfl, a0, a1, b0, b1, hj⟩ := hrel
        obtain ⟨hj1, hj2⟩ := hj.out
        by_cases hlt : 1 < G'
        · obtain ⟨i, rfl⟩ : ∃ i, j = i + 1 := by
            cases j with
            | zero => simp at hj1; omega
            | succ i => exact ⟨i, rfl⟩
          rw [Int.pow_succ] at hj1
          unfold up at hj2
          rw [if_pos hlt] at hj2
          have HJ : Hid (G' / 10 < 10 ^ i ∧ up i (ap m' 0) (G' / 10) = V) := ⟨by omega, hj2⟩
          obtain ⟨c0, c1⟩ := ap_bd m' 0 b0 (by omega)
          have HA := Lib.hid (fun W => append_any m' 0 W b0 b1 (by omega) (by omega))
          clear hj hj1 hj2
          generalize ap m' 0 = m2 at *
          go_wp2_with (go_at_call 47; refine (HA.out _).mono ?_; rintro e w' ⟨rfl, hw⟩; subst hw)
          go_round
          case rel => exact ⟨i, G' / 10, m2, rfl, rfl, by omega, by omega, c0, c1, HJ⟩
          case measure => simp [intOf]; omega
        · have hv : m' = V := by
            cases j with
            | zero => exact hj2
            | succ i => unfold up at hj2; rw [if_neg hlt] at hj2; exact hj2
          subst hv
          clear hj hj1 hj2 HV
          cases neg with
          | true =>
            go_wp2
            go_returns
            exact ⟨rfl, bel_alloc (Below.refl _ _)⟩
          | false =>
            go_wp2
            go_returns
            exact ⟨rfl, bel_alloc (Below.refl _ _)⟩

/-- what times returns -/
def tiB (p f : Int) : Bool := decide (1 ≤ shr p.toNat f)
def tiV (neg : Bool) (n p f : Int) : Int := if tiB p f = true then (if neg then -(up 9 n (shr p.toNat f)) else up 9 n (shr p.toNat f)) else 0
theorem times_any (neg : Bool) (n p f : Int) (w : World) (hp : 0 ≤ p) (hp1 : p ≤ 1000) (f0 : 1 ≤ f) (f1 : f ≤ 100000000) (n0 : 0 ≤ n) (n1 : n ≤ 1125899906842625) :
    Calls Tryd.prog 36 #[.agg #[.bool neg, .int .i64 n, .int .i64 p], .int .i64 f] w fun e w' => e = .returned (.tuple #[.int .i64 (tiV neg n p f), .bool (tiB p f)]) ∧ Below w.heap.size w w' := by
  have hb := shr_bd p.toNat f (by omega)
  unfold tiV
  cases h : tiB p f with
  | true =>
    rw [if_pos rfl]
    exact times_yes neg n p f _ _ w hp hp1 f0 f1 n0 n1 rfl (by unfold tiB at h; exact of_decide_eq_true h) rfl
  | false =>
    simp only [Bool.false_eq_true, if_false]
    exact times_no neg n p f w hp hp1 f0 (by omega) (by unfold tiB at h; have := of_decide_eq_false h; omega)
end Go.Proofs.YtdhckbjebccdbaaDoor
