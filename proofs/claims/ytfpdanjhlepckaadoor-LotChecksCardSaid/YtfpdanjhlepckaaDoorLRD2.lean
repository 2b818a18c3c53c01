/- The reference of layer 22: Check, Right. -/
import Derived.Test.YtfpdanjhlepckaaDoorLRC2
import Derived.Test.YtfpdanjhlepckaaDoorLTD
namespace Go.Proofs.YtfpdanjhlepckaaDoor
open Go.RowKit

theorem roF_zero {c : Lt} {p : Int} (h : ltF c p = 0) : idB c.id = true ∧ p < c.id ∧ roF c = 0 := by
  rw [ltF_roF] at h
  cases h0 : idB c.id with
  | false => rw [h0, if_pos rfl] at h; cases h
  | true =>
    rw [h0, if_neg (by simp)] at h
    by_cases h1 : c.id ≤ p
    · rw [if_pos h1] at h; cases h
    · rw [if_neg h1] at h; exact ⟨rfl, by omega, h⟩
theorem roF_some {c : Lt} {p F : Int} (h : ltF c p = F) : (idB c.id = false ∧ F = 2) ∨ (idB c.id = true ∧ c.id ≤ p ∧ F = 5) ∨ (idB c.id = true ∧ p < c.id ∧ roF c = F) := by
  rw [ltF_roF] at h
  cases h0 : idB c.id with
  | false => rw [h0, if_pos rfl] at h; exact .inl ⟨rfl, h.symm⟩
  | true =>
    rw [h0, if_neg (by simp)] at h
    by_cases h1 : c.id ≤ p
    · rw [if_pos h1] at h; exact .inr (.inl ⟨rfl, h1, h.symm⟩)
    · rw [if_neg h1] at h; exact .inr (.inr ⟨rfl, by omega, h⟩)
set_option maxHeartbeats 4000000 in
theorem rlCh_long (a : Option Addr) (n cap : Nat) (w : World) (h : 32 < n) (hn : n ≤ 9223372036854775807) :
    Calls Tryd.prog 13 #[.slice a n cap] w fun e w' => e = .returned (.tuple #[.int .i64 (-1), .int .i64 8]) ∧ Below w.heap.size w w' := by
  have q : decide (32 < (n : Int)) = true := decide_eq_true (by omega)
  go_enter Tryd.func13, Tryd.ntmps13
  go_wp2
  go_returns
  exact ⟨rfl, Below.refl _ _⟩
set_option maxHeartbeats 32000000 in
set_option maxRecDepth 100000 in
theorem rlCh_ok (a : Option Addr) (n cap : Nat) (l : List Lt) (w : World) (NV0 : Hid (Lts w (.slice a n cap) l)) (hn : n ≤ 32) (hp : Hid (∀ j, j < n → ltF (gL l j) (pvI l j) = 0)) :
    Calls Tryd.prog 13 #[.slice a n cap] w fun e w' => e = .returned (.tuple #[.int .i64 (-1), .int .i64 0]) ∧ Below w.heap.size w w' := by
  have q : decide (32 < (n : Int)) = false := decide_eq_false (by omega)
  go_enter Tryd.func13, Tryd.ntmps13
  go_wp2_with fail
  go_loopw [4] (fun i wr => ∃ k : Nat, k ≤ n ∧ i = .int .i64 k ∧ Hid (Below w.heap.size w wr)) (fun i _ => n - (intOf i).toNat)
  case atStart => exact ⟨0, Nat.zero_le _, rfl, Lib.hid (Below.refl _ _)⟩
  case round =>
    obtain ⟨k, hk, rfl, X⟩ := hrel
    have NV := Lib.hid (NV0.out.below X.out)
    by_cases hlt : k < n
    · by_cases hz : k = 0
      · subst hz
        obtain ⟨b, off, rfl, hb, hnl, hc⟩ := NV.out.at (by omega)
        clear hnl
        obtain ⟨sa, sc, c0, c1, c2, c3, hP⟩ := hc (0) (by omega)
        clear hc
        have PS := Lib.hid hP
        clear hP
        have HO := Lib.hid (fun a c W h => rlOne_any (gL l (0)) a c W h)
        have HI := Lib.hid (fun W => rlId_any (gL l (0)).id W)
        have hq := roF_zero (hp.out (0) (by omega))
        unfold ltV at HO
        rw [show pvI l 0 = 0 from rfl] at hq
        simp only [Nat.zero_mul, Nat.add_zero] at c0 c1 c2 c3
        generalize roF (gL l (0)) = E at *
        generalize gL l (0) = c at *
        obtain ⟨cd, cA, cM, cS⟩ := c
        simp only at c0 c1 c2 c3 hq HI
        replace PS : Hid (Pts wr (.slice sa cS.length sc) cS) := PS
        replace HO : Hid (∀ a cap W, Pts W (.slice a cS.length cap) cS → Calls Tryd.prog 36 #[.agg #[.int .i64 cd, .int .i64 cA, .int .i64 cM, .slice a cS.length cap]] W fun e w' => e = .returned (.int .i64 E) ∧ Below W.heap.size W w') := HO
        generalize cS.length = cn at *
        obtain ⟨q1, q2, q3⟩ := hq
        rw [q1] at HI
        have l8 : (0 : Int) < (n : Int) := by omega
        have l7 : (0 : Nat) < n := by omega
        go_wp2_with fail
        refine (HI.out _).mono ?_
        rintro e w1 ⟨rfl, hw⟩
        subst hw
        go_wp2_with fail
        go_quiet (fail)
        rename_i nq
        go_wp2_with fail
        refine (HO.out _ _ _ (PS.out.below (bel_drewN _ _))).mono ?_
        rintro e w3 ⟨rfl, h1⟩
        have X3 := Lib.hid (bel_trans (bel_trans X.out (bel_drewN _ _)) h1)
        clear h1 c0 c1 c2 c3
        have d : (E != 0) = false := by rw [q3]; rfl
        go_wp2
        go_roundw
        case rel => exact ⟨1, by omega, by go_num, X3⟩
        case measure => simp [intOf]; omega
      · obtain ⟨j, rfl⟩ : ∃ j, k = j + 1 := ⟨k - 1, by omega⟩
        clear hz
        obtain ⟨b, off, rfl, hb, hnl, hc⟩ := NV.out.at (by omega)
        clear hnl
        obtain ⟨sa, sc, c0, c1, c2, c3, hP⟩ := hc (j + 1) (by omega)
        obtain ⟨_, _, e0, _, _, _, _⟩ := hc j (by omega)
        clear hc
        have PS := Lib.hid hP
        clear hP
        have HO := Lib.hid (fun a c W h => rlOne_any (gL l (j + 1)) a c W h)
        have HI := Lib.hid (fun W => rlId_any (gL l (j + 1)).id W)
        have hq := roF_zero (hp.out (j + 1) (by omega))
        unfold ltV at HO
        rw [pvI_next] at hq
        generalize (gL l j).id = p at *
        generalize roF (gL l (j + 1)) = E at *
        generalize gL l (j + 1) = c at *
        obtain ⟨cd, cA, cM, cS⟩ := c
        simp only at c0 c1 c2 c3 hq HI
        replace PS : Hid (Pts wr (.slice sa cS.length sc) cS) := PS
        replace HO : Hid (∀ a cap W, Pts W (.slice a cS.length cap) cS → Calls Tryd.prog 36 #[.agg #[.int .i64 cd, .int .i64 cA, .int .i64 cM, .slice a cS.length cap]] W fun e w' => e = .returned (.int .i64 E) ∧ Below W.heap.size W w') := HO
        generalize cS.length = cn at *
        obtain ⟨q1, q2, q3⟩ := hq
        rw [q1] at HI
        have l9 : (j : Int) + 1 < (n : Int) := by omega
        have l8 : (j : Int) < (n : Int) := by omega
        have d5 : decide (0 < (j : Int) + 1) = true := decide_eq_true (by omega)
        have d6 : decide (cd ≤ p) = false := decide_eq_false (by omega)
        have wj : IntKind.i64.wrap (j : Int) = (j : Int) := wrap_in _ ⟨by omega, by omega⟩
        go_wp2_with fail
        refine (HI.out _).mono ?_
        rintro e w1 ⟨rfl, hw⟩
        subst hw
        go_wp2_with fail
        go_quiet (fail)
        rename_i nq
        go_wp2_with fail
        refine (HO.out _ _ _ (PS.out.below (bel_drewN _ _))).mono ?_
        rintro e w3 ⟨rfl, h1⟩
        have X3 := Lib.hid (bel_trans (bel_trans X.out (bel_drewN _ _)) h1)
        clear h1 c0 c1 c2 c3
        have d : (E != 0) = false := by rw [q3]; rfl
        go_wp2
        go_roundw
        case rel => exact ⟨j + 1 + 1, by omega, by go_num, X3⟩
        case measure => simp [intOf]; omega
    · obtain rfl : k = n := by omega
      go_wp2
      go_returns
      exact ⟨rfl, X.out⟩
set_option maxHeartbeats 32000000 in
set_option maxRecDepth 100000 in
theorem rlCh_bad (a : Option Addr) (n cap : Nat) (l : List Lt) (w : World) (NV0 : Hid (Lts w (.slice a n cap) l)) (hn : n ≤ 32) (m : Nat) (hm : m < n) (F : Int) (hF : (F != 0) = true) (hE : ltF (gL l m) (pvI l m) = F) (hp : Hid (∀ j, j < m → ltF (gL l j) (pvI l j) = 0)) :
    Calls Tryd.prog 13 #[.slice a n cap] w fun e w' => e = .returned (.tuple #[.int .i64 (m : Nat), .int .i64 F]) ∧ Below w.heap.size w w' := by
  have q : decide (32 < (n : Int)) = false := decide_eq_false (by omega)
  go_enter Tryd.func13, Tryd.ntmps13
  go_wp2_with fail
  go_loopw [4] (fun i wr => ∃ k : Nat, k ≤ m ∧ i = .int .i64 k ∧ Hid (Below w.heap.size w wr)) (fun i _ => n - (intOf i).toNat)
  case atStart => exact ⟨0, Nat.zero_le _, rfl, Lib.hid (Below.refl _ _)⟩
  case round =>
    obtain ⟨k, hk, rfl, X⟩ := hrel
    have NV := Lib.hid (NV0.out.below X.out)
    by_cases hlt : k < m
    · by_cases hz : k = 0
      · subst hz
        obtain ⟨b, off, rfl, hb, hnl, hc⟩ := NV.out.at (by omega)
        clear hnl
        obtain ⟨sa, sc, c0, c1, c2, c3, hP⟩ := hc (0) (by omega)
        clear hc
        have PS := Lib.hid hP
        clear hP
        have HO := Lib.hid (fun a c W h => rlOne_any (gL l (0)) a c W h)
        have HI := Lib.hid (fun W => rlId_any (gL l (0)).id W)
        have hq := roF_zero (hp.out (0) (by omega))
        unfold ltV at HO
        rw [show pvI l 0 = 0 from rfl] at hq
        simp only [Nat.zero_mul, Nat.add_zero] at c0 c1 c2 c3
        generalize roF (gL l (0)) = E at *
        generalize gL l (0) = c at *
        obtain ⟨cd, cA, cM, cS⟩ := c
        simp only at c0 c1 c2 c3 hq HI
        replace PS : Hid (Pts wr (.slice sa cS.length sc) cS) := PS
        replace HO : Hid (∀ a cap W, Pts W (.slice a cS.length cap) cS → Calls Tryd.prog 36 #[.agg #[.int .i64 cd, .int .i64 cA, .int .i64 cM, .slice a cS.length cap]] W fun e w' => e = .returned (.int .i64 E) ∧ Below W.heap.size W w') := HO
        generalize cS.length = cn at *
        obtain ⟨q1, q2, q3⟩ := hq
        rw [q1] at HI
        have l8 : (0 : Int) < (n : Int) := by omega
        have l7 : (0 : Nat) < n := by omega
        go_wp2_with fail
        refine (HI.out _).mono ?_
        rintro e w1 ⟨rfl, hw⟩
        subst hw
        go_wp2_with fail
        go_quiet (fail)
        rename_i nq
        go_wp2_with fail
        refine (HO.out _ _ _ (PS.out.below (bel_drewN _ _))).mono ?_
        rintro e w3 ⟨rfl, h1⟩
        have X3 := Lib.hid (bel_trans (bel_trans X.out (bel_drewN _ _)) h1)
        clear h1 c0 c1 c2 c3
        have d : (E != 0) = false := by rw [q3]; rfl
        go_wp2
        go_roundw
        case rel => exact ⟨1, by omega, by go_num, X3⟩
        case measure => simp [intOf]; omega
      · obtain ⟨j, rfl⟩ : ∃ j, k = j + 1 := ⟨k - 1, by omega⟩
        clear hz
        obtain ⟨b, off, rfl, hb, hnl, hc⟩ := NV.out.at (by omega)
        clear hnl
        obtain ⟨sa, sc, c0, c1, c2, c3, hP⟩ := hc (j + 1) (by omega)
        obtain ⟨_, _, e0, _, _, _, _⟩ := hc j (by omega)
        clear hc
        have PS := Lib.hid hP
        clear hP
        have HO := Lib.hid (fun a c W h => rlOne_any (gL l (j + 1)) a c W h)
        have HI := Lib.hid (fun W => rlId_any (gL l (j + 1)).id W)
        have hq := roF_zero (hp.out (j + 1) (by omega))
        unfold ltV at HO
        rw [pvI_next] at hq
        generalize (gL l j).id = p at *
        generalize roF (gL l (j + 1)) = E at *
        generalize gL l (j + 1) = c at *
        obtain ⟨cd, cA, cM, cS⟩ := c
        simp only at c0 c1 c2 c3 hq HI
        replace PS : Hid (Pts wr (.slice sa cS.length sc) cS) := PS
        replace HO : Hid (∀ a cap W, Pts W (.slice a cS.length cap) cS → Calls Tryd.prog 36 #[.agg #[.int .i64 cd, .int .i64 cA, .int .i64 cM, .slice a cS.length cap]] W fun e w' => e = .returned (.int .i64 E) ∧ Below W.heap.size W w') := HO
        generalize cS.length = cn at *
        obtain ⟨q1, q2, q3⟩ := hq
        rw [q1] at HI
        have l9 : (j : Int) + 1 < (n : Int) := by omega
        have l8 : (j : Int) < (n : Int) := by omega
        have d5 : decide (0 < (j : Int) + 1) = true := decide_eq_true (by omega)
        have d6 : decide (cd ≤ p) = false := decide_eq_false (by omega)
        have wj : IntKind.i64.wrap (j : Int) = (j : Int) := wrap_in _ ⟨by omega, by omega⟩
        go_wp2_with fail
        refine (HI.out _).mono ?_
        rintro e w1 ⟨rfl, hw⟩
        subst hw
        go_wp2_with fail
        go_quiet (fail)
        rename_i nq
        go_wp2_with fail
        refine (HO.out _ _ _ (PS.out.below (bel_drewN _ _))).mono ?_
        rintro e w3 ⟨rfl, h1⟩
        have X3 := Lib.hid (bel_trans (bel_trans X.out (bel_drewN _ _)) h1)
        clear h1 c0 c1 c2 c3
        have d : (E != 0) = false := by rw [q3]; rfl
        go_wp2
        go_roundw
        case rel => exact ⟨j + 1 + 1, by omega, by go_num, X3⟩
        case measure => simp [intOf]; omega
    · obtain rfl : k = m := by omega
      clear hp
      by_cases hz : k = 0
      · subst hz
        obtain ⟨b, off, rfl, hb, hnl, hc⟩ := NV.out.at (by omega)
        clear hnl
        obtain ⟨sa, sc, c0, c1, c2, c3, hP⟩ := hc (0) (by omega)
        clear hc
        have PS := Lib.hid hP
        clear hP
        have HO := Lib.hid (fun a c W h => rlOne_any (gL l (0)) a c W h)
        have HI := Lib.hid (fun W => rlId_any (gL l (0)).id W)
        have hq := roF_some hE
        unfold ltV at HO
        rw [show pvI l 0 = 0 from rfl] at hq
        simp only [Nat.zero_mul, Nat.add_zero] at c0 c1 c2 c3
        generalize roF (gL l (0)) = E at *
        generalize gL l (0) = c at *
        obtain ⟨cd, cA, cM, cS⟩ := c
        simp only at c0 c1 c2 c3 hq HI
        replace PS : Hid (Pts wr (.slice sa cS.length sc) cS) := PS
        replace HO : Hid (∀ a cap W, Pts W (.slice a cS.length cap) cS → Calls Tryd.prog 36 #[.agg #[.int .i64 cd, .int .i64 cA, .int .i64 cM, .slice a cS.length cap]] W fun e w' => e = .returned (.int .i64 E) ∧ Below W.heap.size W w') := HO
        generalize cS.length = cn at *
        clear hE
        rcases hq with ⟨q1, rfl⟩ | ⟨q1, q2, q3⟩ | ⟨q1, q2, q3⟩
        · rw [q1] at HI
          have l8 : (0 : Int) < (n : Int) := by omega
          have l7 : (0 : Nat) < n := by omega
          go_wp2_with fail
          refine (HI.out _).mono ?_
          rintro e w1 ⟨rfl, hw⟩
          subst hw
          go_wp2
          go_returns
          exact ⟨rfl, X.out⟩
        · exfalso; have := (idB_iff.1 q1).1; omega
        · rw [q1] at HI
          have l8 : (0 : Int) < (n : Int) := by omega
          have l7 : (0 : Nat) < n := by omega
          go_wp2_with fail
          refine (HI.out _).mono ?_
          rintro e w1 ⟨rfl, hw⟩
          subst hw
          go_wp2_with fail
          go_quiet (fail)
          rename_i nq
          go_wp2_with fail
          refine (HO.out _ _ _ (PS.out.below (bel_drewN _ _))).mono ?_
          rintro e w3 ⟨rfl, h1⟩
          have X3 := Lib.hid (bel_trans (bel_trans X.out (bel_drewN _ _)) h1)
          clear h1 c0 c1 c2 c3
          have d : (E != 0) = true := by rw [q3]; exact hF
          go_wp2
          go_returns
          exact ⟨rfl, X3.out⟩
      · obtain ⟨j, rfl⟩ : ∃ j, k = j + 1 := ⟨k - 1, by omega⟩
        clear hz
        obtain ⟨b, off, rfl, hb, hnl, hc⟩ := NV.out.at (by omega)
        clear hnl
        obtain ⟨sa, sc, c0, c1, c2, c3, hP⟩ := hc (j + 1) (by omega)
        obtain ⟨_, _, e0, _, _, _, _⟩ := hc j (by omega)
        clear hc
        have PS := Lib.hid hP
        clear hP
        have HO := Lib.hid (fun a c W h => rlOne_any (gL l (j + 1)) a c W h)
        have HI := Lib.hid (fun W => rlId_any (gL l (j + 1)).id W)
        have hq := roF_some hE
        unfold ltV at HO
        rw [pvI_next] at hq
        generalize (gL l j).id = p at *
        generalize roF (gL l (j + 1)) = E at *
        generalize gL l (j + 1) = c at *
        obtain ⟨cd, cA, cM, cS⟩ := c
        simp only at c0 c1 c2 c3 hq HI
        replace PS : Hid (Pts wr (.slice sa cS.length sc) cS) := PS
        replace HO : Hid (∀ a cap W, Pts W (.slice a cS.length cap) cS → Calls Tryd.prog 36 #[.agg #[.int .i64 cd, .int .i64 cA, .int .i64 cM, .slice a cS.length cap]] W fun e w' => e = .returned (.int .i64 E) ∧ Below W.heap.size W w') := HO
        generalize cS.length = cn at *
        clear hE
        rcases hq with ⟨q1, rfl⟩ | ⟨q1, q2, q3⟩ | ⟨q1, q2, q3⟩
        · rw [q1] at HI
          have l9 : (j : Int) + 1 < (n : Int) := by omega
          have l8 : (j : Int) < (n : Int) := by omega
          have d5 : decide (0 < (j : Int) + 1) = true := decide_eq_true (by omega)
          go_wp2_with fail
          refine (HI.out _).mono ?_
          rintro e w1 ⟨rfl, hw⟩
          subst hw
          go_wp2
          go_returns
          exact ⟨rfl, X.out⟩
        · subst q3
          rw [q1] at HI
          have l9 : (j : Int) + 1 < (n : Int) := by omega
          have l8 : (j : Int) < (n : Int) := by omega
          have d5 : decide (0 < (j : Int) + 1) = true := decide_eq_true (by omega)
          have d6 : decide (cd ≤ p) = true := decide_eq_true (by omega)
          have wj : IntKind.i64.wrap (j : Int) = (j : Int) := wrap_in _ ⟨by omega, by omega⟩
          go_wp2_with fail
          refine (HI.out _).mono ?_
          rintro e w1 ⟨rfl, hw⟩
          subst hw
          go_wp2_with fail
          go_quiet (fail)
          rename_i nq
          go_wp2
          go_returns
          exact ⟨rfl, bel_trans X.out (bel_drewN _ _)⟩
        · rw [q1] at HI
          have l9 : (j : Int) + 1 < (n : Int) := by omega
          have l8 : (j : Int) < (n : Int) := by omega
          have d5 : decide (0 < (j : Int) + 1) = true := decide_eq_true (by omega)
          have d6 : decide (cd ≤ p) = false := decide_eq_false (by omega)
          have wj : IntKind.i64.wrap (j : Int) = (j : Int) := wrap_in _ ⟨by omega, by omega⟩
          go_wp2_with fail
          refine (HI.out _).mono ?_
          rintro e w1 ⟨rfl, hw⟩
          subst hw
          go_wp2_with fail
          go_quiet (fail)
          rename_i nq
          go_wp2_with fail
          refine (HO.out _ _ _ (PS.out.below (bel_drewN _ _))).mono ?_
          rintro e w3 ⟨rfl, h1⟩
          have X3 := Lib.hid (bel_trans (bel_trans X.out (bel_drewN _ _)) h1)
          clear h1 c0 c1 c2 c3
          have d : (E != 0) = true := by rw [q3]; exact hF
          go_wp2
          go_returns
          exact ⟨rfl, X3.out⟩
theorem rlCh_any (v : Value) (l : List Lt) (w : World) (hv : Lts w v l) :
    Calls Tryd.prog 13 #[v] w fun e w' => e = .returned (.tuple #[.int .i64 (ltI l), .int .i64 (ltE l)]) ∧ Below w.heap.size w w' := by
  obtain ⟨a, cap, rfl, hcap, _⟩ := id hv
  unfold ltE ltI
  by_cases h : 32 < l.length
  · rw [if_pos h, if_pos h]; exact rlCh_long a _ cap w h (by omega)
  · rw [if_neg h, if_neg h]
    obtain ⟨s1, s2⟩ := fst_spec (fun k => ltF (gL l k) (pvI l k) != 0) l.length
    have le := fst_le (fun k => ltF (gL l k) (pvI l k) != 0) l.length
    change ltK l ≤ l.length at le
    by_cases g : ltK l < l.length
    · rw [if_pos g, if_pos g]
      exact rlCh_bad a _ cap l w hv (by omega) (ltK l) g _ (s2 g) rfl (Lib.hid fun j hj => by simpa using s1 j hj)
    · rw [if_neg g, if_neg g]
      exact rlCh_ok a _ cap l w hv (by omega) (Lib.hid fun j hj => by
        have : ltK l = l.length := by omega
        have := s1 j (by show j < ltK l; omega)
        simpa using this)
end Go.Proofs.YtfpdanjhlepckaaDoor

