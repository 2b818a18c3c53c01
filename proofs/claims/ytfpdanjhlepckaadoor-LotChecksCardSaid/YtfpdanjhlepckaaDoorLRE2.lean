/- The reference of layer 22: Right, Few. -/
import Derived.Test.YtfpdanjhlepckaaDoorLRD2
namespace Go.Proofs.YtfpdanjhlepckaaDoor
open Go.RowKit

set_option maxHeartbeats 4000000 in
theorem rlRi_any (v : Value) (l : List Lt) (w : World) (hv : Lts w v l) :
    Calls Tryd.prog 42 #[v] w fun e w' => e = .returned (.bool (ltE l == 0)) ∧ Below w.heap.size w w' := by
  have HC := Lib.hid (rlCh_any v l w hv)
  generalize ltE l = E at *
  generalize ltI l = I at *
  go_enter Tryd.func42, Tryd.ntmps42
  go_wp2_with fail
  refine HC.out.mono ?_
  rintro e w1 ⟨rfl, h1⟩
  have X := Lib.hid h1; clear h1
  go_wp2
  go_returns
  exact ⟨rfl, X.out⟩

def fwS (n : Nat) : Bool := decide (n ≤ 12) || (decide (32 < n) && decide (n ≤ 37))
theorem fwS_iff {n : Nat} : fwS n = true ↔ n ≤ 12 ∨ (32 < n ∧ n ≤ 37) := by simp [fwS]
set_option maxHeartbeats 4000000 in
theorem rlFs_any (a : Option Addr) (n cap : Nat) (w : World) :
    Calls Tryd.prog 21 #[.slice a n cap] w fun e w' => e = .returned (.bool (fwS n)) ∧ Below w.heap.size w w' := by
  by_cases h0 : n ≤ 12
  · have q0 : decide ((n : Int) ≤ 12) = true := decide_eq_true (by omega)
    have e : fwS n = true := fwS_iff.2 (.inl h0)
    rw [e]; clear e h0
    go_enter Tryd.func21, Tryd.ntmps21
    go_wp2
    go_returns
    exact ⟨rfl, Below.refl _ _⟩
  · have q0 : decide ((n : Int) ≤ 12) = false := decide_eq_false (by omega)
    by_cases h1 : 32 < n
    · have q1 : decide (32 < (n : Int)) = true := decide_eq_true (by omega)
      have e : fwS n = decide ((n : Int) ≤ 37) := by
        rw [Bool.eq_iff_iff, fwS_iff, decide_eq_true_eq]; omega
      rw [e]; clear e h0 h1
      go_enter Tryd.func21, Tryd.ntmps21
      go_wp2
      go_returns
      exact ⟨rfl, Below.refl _ _⟩
    · have q1 : decide (32 < (n : Int)) = false := decide_eq_false (by omega)
      have e : fwS n = false := by
        cases h : fwS n with
        | false => rfl
        | true => have := fwS_iff.1 h; omega
      rw [e]; clear e h0 h1
      go_enter Tryd.func21, Tryd.ntmps21
      go_wp2
      go_returns
      exact ⟨rfl, Below.refl _ _⟩
def fwN (n : Nat) : Bool := decide (n ≤ 8) || (decide (32 < n) && decide (n ≤ 37))
theorem fwN_iff {n : Nat} : fwN n = true ↔ n ≤ 8 ∨ (32 < n ∧ n ≤ 37) := by simp [fwN]
set_option maxHeartbeats 4000000 in
theorem rlFw_long (a : Option Addr) (n cap : Nat) (w : World) (h : fwN n = false) :
    Calls Tryd.prog 11 #[.slice a n cap] w fun e w' => e = .returned (.bool false) ∧ Below w.heap.size w w' := by
  have h' : ¬ (n ≤ 8 ∨ (32 < n ∧ n ≤ 37)) := fun g => by rw [fwN_iff.2 g] at h; cases h
  have q0 : decide (8 < (n : Int)) = true := decide_eq_true (by omega)
  by_cases h1 : n ≤ 32
  · have q1 : decide ((n : Int) ≤ 32) = true := decide_eq_true (by omega)
    clear h h' h1
    go_enter Tryd.func11, Tryd.ntmps11
    go_wp2
    go_returns
    exact ⟨rfl, Below.refl _ _⟩
  · have q1 : decide ((n : Int) ≤ 32) = false := decide_eq_false (by omega)
    have q2 : decide (37 < (n : Int)) = true := decide_eq_true (by omega)
    clear h h' h1
    go_enter Tryd.func11, Tryd.ntmps11
    go_wp2
    go_returns
    exact ⟨rfl, Below.refl _ _⟩
set_option maxHeartbeats 16000000 in
set_option maxRecDepth 100000 in
theorem rlFw_loop0 (a : Option Addr) (n cap : Nat) (l : List Lt) (w : World) (NV0 : Hid (Lts w (.slice a n cap) l)) (h : n ≤ 8) :
    Calls Tryd.prog 11 #[.slice a n cap] w fun e w' => (e = .returned (.bool false) ∨ (e = .returned (.bool true) ∧ Hid (∀ j, j < n → fwS (gL l j).sh.length = true))) ∧ Below w.heap.size w w' := by
  have q0 : decide (8 < (n : Int)) = false := decide_eq_false (by omega)
  have q2 : decide (37 < (n : Int)) = false := decide_eq_false (by omega)
  have hn : n ≤ 37 := by omega
  clear h
  go_enter Tryd.func11, Tryd.ntmps11
  go_wp2_with fail
  go_loopw [3] (fun i wr => ∃ k : Nat, k ≤ n ∧ i = .int .i64 k ∧ Hid (∀ j, j < k → fwS (gL l j).sh.length = true) ∧ Hid (Below w.heap.size w wr)) (fun i _ => n - (intOf i).toNat)
  case atStart => exact ⟨0, Nat.zero_le _, rfl, Lib.hid (fun j h => absurd h (by omega)), Lib.hid (Below.refl _ _)⟩
  case round =>
    obtain ⟨k, hk, rfl, P, X⟩ := hrel
    have NV := Lib.hid (NV0.out.below X.out)
    by_cases hlt : k < n
    · have l9 : (k : Int) < (n : Int) := by omega
      obtain ⟨b, off, rfl, hb, hnl, hc⟩ := NV.out.at (by omega)
      clear hnl
      obtain ⟨sa, sc, c0, c1, c2, c3, hP⟩ := hc k (by omega)
      clear hc hP c0 c1 c2
      have HW := Lib.hid (fun W => rlFs_any sa (gL l k).sh.length sc W)
      have hB : Hid (fwS (gL l k).sh.length = fwS (gL l k).sh.length) := Lib.hid rfl
      generalize hb2 : fwS (gL l k).sh.length = B at HW
      clear hB
      replace hb2 := Lib.hid hb2
      generalize (gL l k).sh.length = sn at c3 HW
      cases B with
      | true =>
        go_wp2_with fail
        refine (HW.out _).mono ?_
        rintro e w1 ⟨rfl, h1⟩
        replace X := Lib.hid (bel_trans X.out h1)
        clear h1 c3
        go_wp2
        go_roundw
        case rel => exact ⟨k + 1, by omega, by go_num, Lib.hid (fun j hj => by
          by_cases e : j = k
          · subst e; exact hb2.out
          · exact P.out j (by omega)), X⟩
        case measure => simp [intOf]; omega
      | false =>
        go_wp2_with fail
        refine (HW.out _).mono ?_
        rintro e w1 ⟨rfl, h1⟩
        replace X := Lib.hid (bel_trans X.out h1)
        clear h1 c3
        go_wp2
        go_returns
        exact ⟨.inl rfl, X.out⟩
    · obtain rfl : k = n := by omega
      go_wp2
      go_returns
      exact ⟨.inr ⟨rfl, P⟩, X.out⟩
set_option maxHeartbeats 16000000 in
set_option maxRecDepth 100000 in
theorem rlFw_loop1 (a : Option Addr) (n cap : Nat) (l : List Lt) (w : World) (NV0 : Hid (Lts w (.slice a n cap) l)) (h : 32 < n ∧ n ≤ 37) :
    Calls Tryd.prog 11 #[.slice a n cap] w fun e w' => (e = .returned (.bool false) ∨ (e = .returned (.bool true) ∧ Hid (∀ j, j < n → fwS (gL l j).sh.length = true))) ∧ Below w.heap.size w w' := by
  have q0 : decide (8 < (n : Int)) = true := decide_eq_true (by omega)
  have q1 : decide ((n : Int) ≤ 32) = false := decide_eq_false (by omega)
  have q2 : decide (37 < (n : Int)) = false := decide_eq_false (by omega)
  have hn : n ≤ 37 := by omega
  clear h
  go_enter Tryd.func11, Tryd.ntmps11
  go_wp2_with fail
  go_loopw [3] (fun i wr => ∃ k : Nat, k ≤ n ∧ i = .int .i64 k ∧ Hid (∀ j, j < k → fwS (gL l j).sh.length = true) ∧ Hid (Below w.heap.size w wr)) (fun i _ => n - (intOf i).toNat)
  case atStart => exact ⟨0, Nat.zero_le _, rfl, Lib.hid (fun j h => absurd h (by omega)), Lib.hid (Below.refl _ _)⟩
  case round =>
    obtain ⟨k, hk, rfl, P, X⟩ := hrel
    have NV := Lib.hid (NV0.out.below X.out)
    by_cases hlt : k < n
    · have l9 : (k : Int) < (n : Int) := by omega
      obtain ⟨b, off, rfl, hb, hnl, hc⟩ := NV.out.at (by omega)
      clear hnl
      obtain ⟨sa, sc, c0, c1, c2, c3, hP⟩ := hc k (by omega)
      clear hc hP c0 c1 c2
      have HW := Lib.hid (fun W => rlFs_any sa (gL l k).sh.length sc W)
      have hB : Hid (fwS (gL l k).sh.length = fwS (gL l k).sh.length) := Lib.hid rfl
      generalize hb2 : fwS (gL l k).sh.length = B at HW
      clear hB
      replace hb2 := Lib.hid hb2
      generalize (gL l k).sh.length = sn at c3 HW
      cases B with
      | true =>
        go_wp2_with fail
        refine (HW.out _).mono ?_
        rintro e w1 ⟨rfl, h1⟩
        replace X := Lib.hid (bel_trans X.out h1)
        clear h1 c3
        go_wp2
        go_roundw
        case rel => exact ⟨k + 1, by omega, by go_num, Lib.hid (fun j hj => by
          by_cases e : j = k
          · subst e; exact hb2.out
          · exact P.out j (by omega)), X⟩
        case measure => simp [intOf]; omega
      | false =>
        go_wp2_with fail
        refine (HW.out _).mono ?_
        rintro e w1 ⟨rfl, h1⟩
        replace X := Lib.hid (bel_trans X.out h1)
        clear h1 c3
        go_wp2
        go_returns
        exact ⟨.inl rfl, X.out⟩
    · obtain rfl : k = n := by omega
      go_wp2
      go_returns
      exact ⟨.inr ⟨rfl, P⟩, X.out⟩
theorem rlFw_any (v : Value) (l : List Lt) (w : World) (hv : Lts w v l) :
    Calls Tryd.prog 11 #[v] w fun e w' => (e = .returned (.bool false) ∨ (e = .returned (.bool true) ∧ Hid (fwN l.length = true ∧ ∀ j, j < l.length → fwS (gL l j).sh.length = true))) ∧ Below w.heap.size w w' := by
  obtain ⟨a, cap, rfl, hcap, _⟩ := id hv
  cases hN : fwN l.length with
  | false => exact (rlFw_long a _ cap w hN).mono (by rintro e w1 ⟨rfl, h⟩; exact ⟨.inl rfl, h⟩)
  | true =>
    rcases fwN_iff.1 hN with h | h
    · exact (rlFw_loop0 a _ cap l w (Lib.hid hv) h).mono (by
        rintro e w1 ⟨h1 | ⟨h1, h2⟩, h⟩
        · exact ⟨.inl h1, h⟩
        · exact ⟨.inr ⟨h1, Lib.hid ⟨rfl, h2.out⟩⟩, h⟩)
    · exact (rlFw_loop1 a _ cap l w (Lib.hid hv) h).mono (by
        rintro e w1 ⟨h1 | ⟨h1, h2⟩, h⟩
        · exact ⟨.inl h1, h⟩
        · exact ⟨.inr ⟨h1, Lib.hid ⟨rfl, h2.out⟩⟩, h⟩)
end Go.Proofs.YtfpdanjhlepckaaDoor

