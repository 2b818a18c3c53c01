/- The reference of layer 22: Total. -/
import Derived.Test.YtfpdanjhlepckaaDoorLRE2
import Derived.Test.YtfpdanjhlepckaaDoorLTE
import Derived.StillTailTactics
namespace Go.Proofs.YtfpdanjhlepckaaDoor
open Go.RowKit

theorem la_bd {l : List Lt} (h : LS l) : ∀ k, k ≤ l.length → 0 ≤ laS l k ∧ laS l k ≤ 10737418240000 * k ∧ 0 ≤ lmS l k ∧ lmS l k ≤ 128849018880000 * k
  | 0, _ => by simp [laS, lmS]
  | k + 1, hk => by
    obtain ⟨p1, p2, p3, p4, p5⟩ := plB_iff.1 (h.one (j := k) (by omega)).pl
    have e1 : laS l (k + 1) = laS l k + (gL l k).al := rfl
    have e2 : lmS l (k + 1) = lmS l k + (gL l k).ms := rfl
    have i := la_bd h k (by omega)
    omega
set_option maxHeartbeats 16000000 in
set_option maxRecDepth 100000 in
theorem rlTo_bad (a : Option Addr) (n cap : Nat) (l : List Lt) (w : World) (NV0 : Hid (Lts w (.slice a n cap) l)) (B : Bool) (HC : Hid (∀ W, Lts W (.slice a n cap) l → Calls Tryd.prog 42 #[.slice a n cap] W fun e w' => e = .returned (.bool B) ∧ Below W.heap.size W w')) (hB : B = false) :
    Calls Tryd.prog 17 #[.slice a n cap] w fun e w' => e = .returned (.tuple #[.agg #[.int .i64 0, .int .i64 0], .int .i64 1]) ∧ Below w.heap.size w w' := by
  subst hB
  have T0 := Lib.hid (Two.new w (.int .i64 0) (.int .i64 0) 29)
  have X := Lib.hid (bel_alloc (w := w) (o := .cells #[.int .i64 0, .int .i64 0] 29) (Below.refl _ _))
  go_enter Tryd.func17, Tryd.ntmps17
  go_wp2_with fail
  refine (HC.out _ (NV0.out.alloc _)).mono ?_
  rintro e w1 ⟨rfl, h1⟩
  replace T0 := Lib.hid (T0.out.below h1)
  replace X := Lib.hid (bel_trans X.out h1)
  have n1 : w.heap.size < w1.heap.size := by have := h1.size; rw [World.size_alloc] at this; omega
  clear h1 HC
  obtain ⟨z0, z1, z2, z3, z4⟩ := T0.out
  go_wp2
  obtain ⟨r0, r1⟩ := two_read w1 w.heap.size (.int .i64 0) (.int .i64 0) z0 z1
  refine bodyPost_ret (v := .tuple #[.agg #[.int .i64 0, .int .i64 0], .int .i64 1]) (by simp [results, Tryd.results17, go_sem, r0, r1]) rfl ?_
  exact ⟨rfl, (X.out.setCell (Nat.le_refl _) _).setCell (Nat.le_refl _) _⟩
set_option maxHeartbeats 16000000 in
set_option maxRecDepth 100000 in
theorem rlTo_ok (a : Option Addr) (n cap : Nat) (l : List Lt) (w : World) (NV0 : Hid (Lts w (.slice a n cap) l)) (B : Bool) (HC : Hid (∀ W, Lts W (.slice a n cap) l → Calls Tryd.prog 42 #[.slice a n cap] W fun e w' => e = .returned (.bool B) ∧ Below W.heap.size W w')) (hB : B = true) (hn : n ≤ 32) (hl : Hid (∀ j, j < n → plB (gL l j).al (gL l j).ms = true)) (hp : Hid (∀ k, k ≤ n → 0 ≤ laS l k ∧ laS l k ≤ 10737418240000 * k ∧ 0 ≤ lmS l k ∧ lmS l k ≤ 128849018880000 * k)) (SA SM : Int) (hA : Hid (laS l n = SA)) (hM : Hid (lmS l n = SM)) (hP : plB SA SM = true) :
    Calls Tryd.prog 17 #[.slice a n cap] w fun e w' => e = .returned (.tuple #[.agg #[.int .i64 SA, .int .i64 SM], .int .i64 0]) ∧ Below w.heap.size w w' := by
  subst hB
  have T0 := Lib.hid (Two.new w (.int .i64 0) (.int .i64 0) 29)
  have X := Lib.hid (bel_alloc (w := w) (o := .cells #[.int .i64 0, .int .i64 0] 29) (Below.refl _ _))
  go_enter Tryd.func17, Tryd.ntmps17
  go_wp2_with fail
  refine (HC.out _ (NV0.out.alloc _)).mono ?_
  rintro e w1 ⟨rfl, h1⟩
  replace T0 := Lib.hid (T0.out.below h1)
  replace X := Lib.hid (bel_trans X.out h1)
  have n1 : w.heap.size < w1.heap.size := by have := h1.size; rw [World.size_alloc] at this; omega
  clear h1 HC
  have T4 := Lib.hid (Two.new w1 (.int .i64 0) (.int .i64 0) 29)
  replace T0 := Lib.hid (T0.out.alloc (.cells #[.int .i64 0, .int .i64 0] 29))
  replace X := Lib.hid (bel_trans X.out (bel_alloc (o := .cells #[.int .i64 0, .int .i64 0] 29) (Below.refl _ _)))
  have HQ := Lib.hid (fun W => rxPl_any SA SM W)
  rw [hP] at HQ
  clear hP
  go_wp2_with fail
  generalize w1.heap.size = g at *
  go_loopw [5] (fun i wr => ∃ k : Nat, k ≤ n ∧ i = .int .i64 k ∧ Hid (Below w.heap.size w wr) ∧ Hid (Two w.heap.size wr (.int .i64 0) (.int .i64 0)) ∧ Hid (Two g wr (.int .i64 (laS l k)) (.int .i64 (lmS l k)))) (fun i _ => n - (intOf i).toNat)
  case atStart => exact ⟨0, Nat.zero_le _, rfl, X, T0, T4⟩
  case round =>
    clear X T0 T4
    obtain ⟨k, hk, rfl, X, T0, T4⟩ := hrel
    have NV := Lib.hid (NV0.out.below X.out)
    by_cases hlt : k < n
    · have l9 : (k : Int) < (n : Int) := by omega
      have hpk := hp.out k (by omega)
      have hpl := plB_iff.1 (hl.out k (by omega))
      have s1 : laS l (k + 1) = laS l k + (gL l k).al := rfl
      have s2 : lmS l (k + 1) = lmS l k + (gL l k).ms := rfl
      obtain ⟨b, off, rfl, hb, hnl, hc⟩ := NV.out.at (by omega)
      clear hnl
      obtain ⟨sa, sc, c0, c1, c2, c3, hP⟩ := hc k (by omega)
      clear hc hP
      generalize gL l k = c at *
      obtain ⟨cd, cA, cM, cS⟩ := c
      simp only at c0 c1 c2 c3 s1 s2 hpl
      generalize cS.length = cn at *
      generalize laS l k = S at *
      generalize lmS l k = R at *
      have HP := Lib.hid (fun W => rxPlus_any S R cA cM W (wrap_in _ ⟨by omega, by omega⟩) (wrap_in _ ⟨by omega, by omega⟩))
      clear hpl hpk
      have m1 : g ≠ w.heap.size := by omega
      have m2 : w.heap.size ≤ g := by omega
      obtain ⟨t0, t1, t2, t3, t4⟩ := T4.out
      go_upto_region 7 with fail
      go_still_tail 6, (by kernel_rfl)
      change wpList _ _ _ _ _ wr.drew
      replace X := Lib.hid (bel_trans X.out (bel_drew wr))
      replace T0 := Lib.hid (T0.out.below (bel_drew wr))
      replace T4 := Lib.hid (T4.out.below (bel_drew wr))
      clear t0 t1 t2 t3 t4 c0 c1 c2 c3 NV
      generalize wr.drew = wq at *
      go_wp2_with fail
      refine (HP.out _).mono ?_
      rintro e w2 ⟨rfl, gg⟩
      replace X := Lib.hid (bel_trans X.out gg)
      replace T0 := Lib.hid (T0.out.below gg)
      replace T4 := Lib.hid (T4.out.below gg)
      clear gg
      have N0 := Lib.hid ((T0.out.other ⟨g, 0, none⟩ m1 (.int .i64 (S + cA))).other ⟨g, 1, none⟩ m1 (.int .i64 (R + cM)))
      have N4 := Lib.hid ((T4.out.set0 (.int .i64 (S + cA))).set1 (.int .i64 (R + cM)))
      have NX := Lib.hid ((X.out.setCell (p := ⟨g, 0, none⟩) m2 (.int .i64 (S + cA))).setCell (p := ⟨g, 1, none⟩) m2 (.int .i64 (R + cM)))
      obtain ⟨t0, t1, t2, t3, t4⟩ := T4.out
      go_wp2
      go_roundw
      case rel => exact ⟨k + 1, by omega, by go_num, NX, N0, by rw [s1, s2]; exact N4⟩
      case measure => simp [intOf]; omega
    · obtain rfl : k = n := by omega
      rw [hA.out, hM.out] at T4
      obtain ⟨t0, t1, _, _, _⟩ := T4.out
      go_wp2_with fail
      refine (HQ.out _).mono ?_
      rintro e w5 ⟨rfl, h1⟩
      replace X := Lib.hid (bel_trans X.out h1)
      replace T0 := Lib.hid (T0.out.below h1)
      replace T4 := Lib.hid (T4.out.below h1)
      clear h1 t0 t1
      obtain ⟨z0, z1, z2, z3, z4⟩ := T0.out
      obtain ⟨t0, t1, _, _, _⟩ := T4.out
      go_wp2
      obtain ⟨r0, r1⟩ := two_read w5 w.heap.size (.int .i64 SA) (.int .i64 SM) z0 z1
      refine bodyPost_ret (v := .tuple #[.agg #[.int .i64 SA, .int .i64 SM], .int .i64 0]) (by simp [results, Tryd.results17, go_sem, r0, r1]) rfl ?_
      exact ⟨rfl, (X.out.setCell (Nat.le_refl _) _).setCell (Nat.le_refl _) _⟩
set_option maxHeartbeats 16000000 in
set_option maxRecDepth 100000 in
theorem rlTo_over (a : Option Addr) (n cap : Nat) (l : List Lt) (w : World) (NV0 : Hid (Lts w (.slice a n cap) l)) (B : Bool) (HC : Hid (∀ W, Lts W (.slice a n cap) l → Calls Tryd.prog 42 #[.slice a n cap] W fun e w' => e = .returned (.bool B) ∧ Below W.heap.size W w')) (hB : B = true) (hn : n ≤ 32) (hl : Hid (∀ j, j < n → plB (gL l j).al (gL l j).ms = true)) (hp : Hid (∀ k, k ≤ n → 0 ≤ laS l k ∧ laS l k ≤ 10737418240000 * k ∧ 0 ≤ lmS l k ∧ lmS l k ≤ 128849018880000 * k)) (SA SM : Int) (hA : Hid (laS l n = SA)) (hM : Hid (lmS l n = SM)) (hP : plB SA SM = false) :
    Calls Tryd.prog 17 #[.slice a n cap] w fun e w' => e = .returned (.tuple #[.agg #[.int .i64 0, .int .i64 0], .int .i64 15]) ∧ Below w.heap.size w w' := by
  subst hB
  have T0 := Lib.hid (Two.new w (.int .i64 0) (.int .i64 0) 29)
  have X := Lib.hid (bel_alloc (w := w) (o := .cells #[.int .i64 0, .int .i64 0] 29) (Below.refl _ _))
  go_enter Tryd.func17, Tryd.ntmps17
  go_wp2_with fail
  refine (HC.out _ (NV0.out.alloc _)).mono ?_
  rintro e w1 ⟨rfl, h1⟩
  replace T0 := Lib.hid (T0.out.below h1)
  replace X := Lib.hid (bel_trans X.out h1)
  have n1 : w.heap.size < w1.heap.size := by have := h1.size; rw [World.size_alloc] at this; omega
  clear h1 HC
  have T4 := Lib.hid (Two.new w1 (.int .i64 0) (.int .i64 0) 29)
  replace T0 := Lib.hid (T0.out.alloc (.cells #[.int .i64 0, .int .i64 0] 29))
  replace X := Lib.hid (bel_trans X.out (bel_alloc (o := .cells #[.int .i64 0, .int .i64 0] 29) (Below.refl _ _)))
  have HQ := Lib.hid (fun W => rxPl_any SA SM W)
  rw [hP] at HQ
  clear hP
  go_wp2_with fail
  generalize w1.heap.size = g at *
  go_loopw [5] (fun i wr => ∃ k : Nat, k ≤ n ∧ i = .int .i64 k ∧ Hid (Below w.heap.size w wr) ∧ Hid (Two w.heap.size wr (.int .i64 0) (.int .i64 0)) ∧ Hid (Two g wr (.int .i64 (laS l k)) (.int .i64 (lmS l k)))) (fun i _ => n - (intOf i).toNat)
  case atStart => exact ⟨0, Nat.zero_le _, rfl, X, T0, T4⟩
  case round =>
    clear X T0 T4
    obtain ⟨k, hk, rfl, X, T0, T4⟩ := hrel
    have NV := Lib.hid (NV0.out.below X.out)
    by_cases hlt : k < n
    · have l9 : (k : Int) < (n : Int) := by omega
      have hpk := hp.out k (by omega)
      have hpl := plB_iff.1 (hl.out k (by omega))
      have s1 : laS l (k + 1) = laS l k + (gL l k).al := rfl
      have s2 : lmS l (k + 1) = lmS l k + (gL l k).ms := rfl
      obtain ⟨b, off, rfl, hb, hnl, hc⟩ := NV.out.at (by omega)
      clear hnl
      obtain ⟨sa, sc, c0, c1, c2, c3, hP⟩ := hc k (by omega)
      clear hc hP
      generalize gL l k = c at *
      obtain ⟨cd, cA, cM, cS⟩ := c
      simp only at c0 c1 c2 c3 s1 s2 hpl
      generalize cS.length = cn at *
      generalize laS l k = S at *
      generalize lmS l k = R at *
      have HP := Lib.hid (fun W => rxPlus_any S R cA cM W (wrap_in _ ⟨by omega, by omega⟩) (wrap_in _ ⟨by omega, by omega⟩))
      clear hpl hpk
      have m1 : g ≠ w.heap.size := by omega
      have m2 : w.heap.size ≤ g := by omega
      obtain ⟨t0, t1, t2, t3, t4⟩ := T4.out
      go_upto_region 7 with fail
      go_still_tail 6, (by kernel_rfl)
      change wpList _ _ _ _ _ wr.drew
      replace X := Lib.hid (bel_trans X.out (bel_drew wr))
      replace T0 := Lib.hid (T0.out.below (bel_drew wr))
      replace T4 := Lib.hid (T4.out.below (bel_drew wr))
      clear t0 t1 t2 t3 t4 c0 c1 c2 c3 NV
      generalize wr.drew = wq at *
      go_wp2_with fail
      refine (HP.out _).mono ?_
      rintro e w2 ⟨rfl, gg⟩
      replace X := Lib.hid (bel_trans X.out gg)
      replace T0 := Lib.hid (T0.out.below gg)
      replace T4 := Lib.hid (T4.out.below gg)
      clear gg
      have N0 := Lib.hid ((T0.out.other ⟨g, 0, none⟩ m1 (.int .i64 (S + cA))).other ⟨g, 1, none⟩ m1 (.int .i64 (R + cM)))
      have N4 := Lib.hid ((T4.out.set0 (.int .i64 (S + cA))).set1 (.int .i64 (R + cM)))
      have NX := Lib.hid ((X.out.setCell (p := ⟨g, 0, none⟩) m2 (.int .i64 (S + cA))).setCell (p := ⟨g, 1, none⟩) m2 (.int .i64 (R + cM)))
      obtain ⟨t0, t1, t2, t3, t4⟩ := T4.out
      go_wp2
      go_roundw
      case rel => exact ⟨k + 1, by omega, by go_num, NX, N0, by rw [s1, s2]; exact N4⟩
      case measure => simp [intOf]; omega
    · obtain rfl : k = n := by omega
      rw [hA.out, hM.out] at T4
      obtain ⟨t0, t1, _, _, _⟩ := T4.out
      go_wp2_with fail
      refine (HQ.out _).mono ?_
      rintro e w5 ⟨rfl, h1⟩
      replace X := Lib.hid (bel_trans X.out h1)
      replace T0 := Lib.hid (T0.out.below h1)
      replace T4 := Lib.hid (T4.out.below h1)
      clear h1 t0 t1
      obtain ⟨z0, z1, z2, z3, z4⟩ := T0.out
      obtain ⟨t0, t1, _, _, _⟩ := T4.out
      go_wp2
      obtain ⟨r0, r1⟩ := two_read w5 w.heap.size (.int .i64 0) (.int .i64 0) z0 z1
      refine bodyPost_ret (v := .tuple #[.agg #[.int .i64 0, .int .i64 0], .int .i64 15]) (by simp [results, Tryd.results17, go_sem, r0, r1]) rfl ?_
      exact ⟨rfl, (X.out.setCell (Nat.le_refl _) _).setCell (Nat.le_refl _) _⟩
theorem rlTo_any (v : Value) (l : List Lt) (w : World) (hv : Lts w v l) :
    Calls Tryd.prog 17 #[v] w fun e w' => e = .returned (.tuple #[.agg #[.int .i64 (toA l), .int .i64 (toM l)], .int .i64 (toE l)]) ∧ Below w.heap.size w w' := by
  obtain ⟨a, cap, rfl, hcap, _⟩ := id hv
  have HC := Lib.hid (fun W h => rlRi_any (.slice a l.length cap) l W h)
  unfold toA toM
  by_cases h : ltE l = 0
  · have L := ltE_zero.1 h
    have hB : (ltE l == 0) = true := by simpa using h
    cases hp : plB (laS l l.length) (lmS l l.length) with
    | true =>
      have e : toE l = 0 := by unfold toE; rw [if_neg (by omega), if_pos hp]
      rw [e]
      exact rlTo_ok a _ cap l w hv _ HC hB L.len (Lib.hid fun j hj => (L.one hj).pl) (Lib.hid fun k hk => la_bd L k hk) _ _ rfl rfl hp
    | false =>
      have e : toE l = 15 := by unfold toE; rw [if_neg (by omega), if_neg (by rw [hp]; simp)]
      rw [e]
      exact rlTo_over a _ cap l w hv _ HC hB L.len (Lib.hid fun j hj => (L.one hj).pl) (Lib.hid fun k hk => la_bd L k hk) _ _ rfl rfl hp
  · have e : toE l = 1 := by unfold toE; rw [if_pos h]
    rw [e]
    exact rlTo_bad a _ cap l w hv _ HC (by simpa using h)
end Go.Proofs.YtfpdanjhlepckaaDoor

