/- Package lot: Total. -/
import Derived.Test.YtfpdanjhlepckaaDoorLTD
namespace Go.Proofs.YtfpdanjhlepckaaDoor
open Go.RowKit

/-- the alcohol and the mass of the first lots -/
def laS (l : List Lt) : Nat → Int
  | 0 => 0
  | k + 1 => laS l k + (gL l k).al
def lmS (l : List Lt) : Nat → Int
  | 0 => 0
  | k + 1 => lmS l k + (gL l k).ms
def toE (l : List Lt) : Int := if ltE l ≠ 0 then 1 else if plB (laS l l.length) (lmS l l.length) = true then 0 else 15
def toA (l : List Lt) : Int := if toE l = 0 then laS l l.length else 0
def toM (l : List Lt) : Int := if toE l = 0 then lmS l l.length else 0
/-- lots without a fault -/
structure LS (l : List Lt) : Prop where
  len : l.length ≤ 32
  ok : ∀ j, j < l.length → ltF (gL l j) (pvI l j) = 0
theorem ltE_zero {l : List Lt} : ltE l = 0 ↔ LS l := by
  unfold ltE
  obtain ⟨s1, s2⟩ := fst_spec (fun k => ltF (gL l k) (pvI l k) != 0) l.length
  have le := fst_le (fun k => ltF (gL l k) (pvI l k) != 0) l.length
  change ltK l ≤ l.length at le
  by_cases h : 32 < l.length
  · rw [if_pos h]; exact ⟨fun e => (by cases e), fun e => by have := e.len; omega⟩
  · rw [if_neg h]
    by_cases g : ltK l < l.length
    · rw [if_pos g]
      have g2 : (ltF (gL l (ltK l)) (pvI l (ltK l)) != 0) = true := s2 g
      exact ⟨fun e => (by rw [e] at g2; cases g2), fun e => e.ok _ g⟩
    · rw [if_neg g]
      exact ⟨fun _ => ⟨by omega, fun j hj => by
        have : ltK l = l.length := by omega
        have := s1 j (by show j < ltK l; omega)
        simpa using this⟩, fun _ => rfl⟩
/-- a lot without a fault -/
structure L1 (c : Lt) (bef : Int) : Prop where
  idb : 1 ≤ c.id ∧ c.id ≤ 1073741824
  ord : bef < c.id
  pl : plB c.al c.ms = true
  ms : 0 < c.ms
  len : c.sh.length ≤ 32
  sh : shO c.sh = true
  sum : sm fM c.sh = c.al
theorem ltF_zero {c : Lt} {bef : Int} : ltF c bef = 0 ↔ L1 c bef := by
  unfold ltF
  cases h0 : idB c.id with
  | false => rw [if_pos rfl]; exact ⟨fun e => (by cases e), fun e => by rw [idB_iff.2 e.idb] at h0; cases h0⟩
  | true =>
    rw [if_neg (by simp)]
    by_cases h1 : c.id ≤ bef
    · rw [if_pos h1]; exact ⟨fun e => (by cases e), fun e => by have := e.ord; omega⟩
    · rw [if_neg h1]
      cases h2 : fiB c.al c.ms with
      | false =>
        rw [if_pos rfl]
        refine ⟨fun e => (by cases e), fun e => ?_⟩
        unfold fiB at h2
        rw [e.pl, decide_eq_true e.ms] at h2; cases h2
      | true =>
        unfold fiB at h2
        rw [Bool.and_eq_true, decide_eq_true_eq] at h2
        rw [if_neg (by simp)]
        by_cases h3 : 32 < c.sh.length
        · rw [if_pos h3]; exact ⟨fun e => (by cases e), fun e => by have := e.len; omega⟩
        · rw [if_neg h3]
          cases h4 : shO c.sh with
          | false => rw [if_pos rfl]; exact ⟨fun e => (by cases e), fun e => by rw [e.sh] at h4; cases h4⟩
          | true =>
            rw [if_neg (by simp)]
            by_cases h5 : sm fM c.sh ≠ c.al
            · rw [if_pos h5]; exact ⟨fun e => (by cases e), fun e => absurd e.sum h5⟩
            · rw [if_neg h5]
              exact ⟨fun _ => ⟨idB_iff.1 h0, by omega, h2.1, h2.2, by omega, h4, by omega⟩, fun _ => rfl⟩
theorem LS.one {l : List Lt} (h : LS l) {j : Nat} (hj : j < l.length) : L1 (gL l j) (pvI l j) := ltF_zero.1 (h.ok j hj)
/-- sums of lots never become less -/
theorem la_mono {l : List Lt} (h : LS l) : ∀ n, n ≤ l.length → ∀ k, k ≤ n → 0 ≤ laS l k ∧ laS l k ≤ laS l n ∧ 0 ≤ lmS l k ∧ lmS l k ≤ lmS l n ∧ (0 < k → 0 < lmS l k)
  | 0, _, k, hk => by obtain rfl : k = 0 := by omega
                      simp [laS, lmS]
  | n + 1, hn, k, hk => by
    have o := h.one (j := n) (by omega)
    obtain ⟨p1, p2, p3, p4, p5⟩ := plB_iff.1 o.pl
    have ms := o.ms
    have e1 : laS l (n + 1) = laS l n + (gL l n).al := rfl
    have e2 : lmS l (n + 1) = lmS l n + (gL l n).ms := rfl
    by_cases e : k = n + 1
    · subst e
      have i := la_mono h n (by omega) n (Nat.le_refl _)
      omega
    · have i := la_mono h n (by omega) k (by omega)
      omega
theorem pl_dn {l : List Lt} (h : LS l) {k n : Nat} (hn : n ≤ l.length) (hk : k ≤ n) (hp : plB (laS l k) (lmS l k) = false) : plB (laS l n) (lmS l n) = false := by
  obtain ⟨i1, i2, i3, i4, i5⟩ := la_mono h n hn k hk
  cases e : plB (laS l n) (lmS l n) with
  | false => rfl
  | true =>
    obtain ⟨p1, p2, p3, p4, p5⟩ := plB_iff.1 e
    have : plB (laS l k) (lmS l k) = true := plB_iff.2 ⟨i1, by omega, i3, by omega, fun z => by
      by_cases k0 : 0 < k
      · have := i5 k0; omega
      · obtain rfl : k = 0 := by omega
        rfl⟩
    rw [this] at hp; cases hp
theorem suE_two {A M B K : Int} (h1 : plB A M = true) (h2 : plB B K = true) : suE [(A, M), (B, K)] = (if plB (A + B) (M + K) = true then 0 else 15) ∧ (plB (A + B) (M + K) = true → suA [(A, M), (B, K)] = A + B ∧ suM [(A, M), (B, K)] = M + K) ∧ (plB (A + B) (M + K) = false → suA [(A, M), (B, K)] = 0 ∧ suM [(A, M), (B, K)] = 0) := by
  have e1 : sm fA [(A, M), (B, K)] = A + B := by simp [sm, fA]
  have e2 : sm fM [(A, M), (B, K)] = M + K := by simp [sm, fM]
  have ha : allP [(A, M), (B, K)] = true := by simp [allP, h1, h2]
  have e : suE [(A, M), (B, K)] = (if plB (A + B) (M + K) = true then 0 else 15) := by
    unfold suE
    rw [e1, e2, ha]
    cases plB (A + B) (M + K) <;> simp
  refine ⟨e, fun h => ?_, fun h => ?_⟩
  · unfold suA suM; rw [e, h, e1, e2]; simp
  · unfold suA suM; rw [e, h]; simp
set_option maxHeartbeats 16000000 in
set_option maxRecDepth 100000 in
theorem ltTo_bad (a : Option Addr) (n cap : Nat) (l : List Lt) (w : World) (NV0 : Hid (Lts w (.slice a n cap) l)) (B : Bool) (HC : Hid (∀ W, Lts W (.slice a n cap) l → Calls Tryd.prog 40 #[.slice a n cap] W fun e w' => e = .returned (.bool B) ∧ Below W.heap.size W w')) (hB : B = false) :
    Calls Tryd.prog 16 #[.slice a n cap] w fun e w' => e = .returned (.tuple #[.agg #[.int .i64 0, .int .i64 0], .int .i64 1]) ∧ Below w.heap.size w w' := by
  subst hB
  have T0 := Lib.hid (Two.new w (.int .i64 0) (.int .i64 0) 29)
  have X := Lib.hid (bel_alloc (w := w) (o := .cells #[.int .i64 0, .int .i64 0] 29) (Below.refl _ _))
  go_enter Tryd.func16, Tryd.ntmps16
  go_wp2_with fail
  refine (HC.out _ (NV0.out.alloc _)).mono ?_
  rintro e w1 ⟨rfl, h1⟩
  replace T0 := Lib.hid (T0.out.below h1)
  replace X := Lib.hid (bel_trans X.out h1)
  have n1 : w.heap.size < w1.heap.size := by have := h1.size; rw [World.size_alloc] at this; omega
  clear h1 HC
  obtain ⟨z0, z1, z2, z3, z4⟩ := T0.out
  go_wp2
  obtain ⟨r0, r1⟩ := two_read w1 w.heap.size (.int .i64 0) (.int .i64 0) z0 z1
  refine bodyPost_ret (v := .tuple #[.agg #[.int .i64 0, .int .i64 0], .int .i64 1]) (by simp [results, Tryd.results16, go_sem, r0, r1]) rfl ?_
  exact ⟨rfl, (X.out.setCell (Nat.le_refl _) _).setCell (Nat.le_refl _) _⟩
set_option maxHeartbeats 16000000 in
set_option maxRecDepth 100000 in
theorem ltTo_ok (a : Option Addr) (n cap : Nat) (l : List Lt) (w : World) (NV0 : Hid (Lts w (.slice a n cap) l)) (B : Bool) (HC : Hid (∀ W, Lts W (.slice a n cap) l → Calls Tryd.prog 40 #[.slice a n cap] W fun e w' => e = .returned (.bool B) ∧ Below W.heap.size W w')) (hB : B = true) (hn : n ≤ 32) (hl : Hid (∀ j, j < n → plB (gL l j).al (gL l j).ms = true)) (hp : Hid (∀ k, k ≤ n → plB (laS l k) (lmS l k) = true)) (SA SM : Int) (hA : Hid (laS l n = SA)) (hM : Hid (lmS l n = SM)) :
    Calls Tryd.prog 16 #[.slice a n cap] w fun e w' => e = .returned (.tuple #[.agg #[.int .i64 SA, .int .i64 SM], .int .i64 0]) ∧ Below w.heap.size w w' := by
  subst hB
  have T0 := Lib.hid (Two.new w (.int .i64 0) (.int .i64 0) 29)
  have X := Lib.hid (bel_alloc (w := w) (o := .cells #[.int .i64 0, .int .i64 0] 29) (Below.refl _ _))
  go_enter Tryd.func16, Tryd.ntmps16
  go_wp2_with fail
  refine (HC.out _ (NV0.out.alloc _)).mono ?_
  rintro e w1 ⟨rfl, h1⟩
  replace T0 := Lib.hid (T0.out.below h1)
  replace X := Lib.hid (bel_trans X.out h1)
  have n1 : w.heap.size < w1.heap.size := by have := h1.size; rw [World.size_alloc] at this; omega
  clear h1 HC
  have T4 := Lib.hid (Two.new w1 (.int .i64 0) (.int .i64 0) 29)
  replace T0 := Lib.hid (T0.out.alloc (.cells #[.int .i64 0, .int .i64 0] 29))
  replace X := Lib.hid (bel_trans X.out (bel_alloc (o := .cells #[.int .i64 0, .int .i64 0] 29) (Below.refl _ _)))
  go_wp2_with fail
  generalize w1.heap.size = g at *
  go_loopw [14] (fun i wr => ∃ k : Nat, k ≤ n ∧ i = .int .i64 k ∧ Hid (Below w.heap.size w wr) ∧ Hid (Two w.heap.size wr (.int .i64 0) (.int .i64 0)) ∧ Hid (Two g wr (.int .i64 (laS l k)) (.int .i64 (lmS l k)))) (fun i _ => n - (intOf i).toNat)
  case atStart => exact ⟨0, Nat.zero_le _, rfl, X, T0, T4⟩
  case round =>
    clear X T0 T4
    obtain ⟨k, hk, rfl, X, T0, T4⟩ := hrel
    have NV := Lib.hid (NV0.out.below X.out)
    by_cases hlt : k < n
    · have l9 : (k : Int) < (n : Int) := by omega
      have hpk := hp.out k (by omega)
      have hpl := hl.out k (by omega)
      have s1 : laS l (k + 1) = laS l k + (gL l k).al := rfl
      have s2 : lmS l (k + 1) = lmS l k + (gL l k).ms := rfl
      have hpn := hp.out (k + 1) (by omega)
      obtain ⟨b, off, rfl, hb, hnl, hc⟩ := NV.out.at (by omega)
      clear hnl
      obtain ⟨sa, sc, c0, c1, c2, c3, hP⟩ := hc k (by omega)
      clear hc hP
      rw [s1, s2] at hpn
      generalize gL l k = c at *
      obtain ⟨cd, cA, cM, cS⟩ := c
      simp only at c0 c1 c2 c3 s1 s2 hpl hpn
      generalize cS.length = cn at *
      generalize laS l k = S at *
      generalize lmS l k = R at *
      obtain ⟨u1, u2, u3⟩ := suE_two hpk hpl
      have HS := Lib.hid (fun v W h => mxSu_any v [(S, R), (cA, cM)] W h)
      rw [u1, (u2 hpn).1, (u2 hpn).2] at HS
      clear u1 u2 u3
      have Q0 := Lib.hid (Quad.new wr (.int .i64 cd) (.int .i64 cA) (.int .i64 cM) (.slice sa cn sc) 32)
      replace X := Lib.hid (bel_trans X.out (bel_alloc (o := .cells #[.int .i64 cd, .int .i64 cA, .int .i64 cM, .slice sa cn sc] 32) (Below.refl _ _)))
      replace T0 := Lib.hid (T0.out.alloc (.cells #[.int .i64 cd, .int .i64 cA, .int .i64 cM, .slice sa cn sc] 32))
      replace T4 := Lib.hid (T4.out.alloc (.cells #[.int .i64 cd, .int .i64 cA, .int .i64 cM, .slice sa cn sc] 32))
      obtain ⟨t0, t1, t2, t3, t4⟩ := T4.out
      obtain ⟨_, b1, b2, _, _, _⟩ := Q0.out
      have L5 := Lib.hid (pts_litT 29 (wr.alloc (.cells #[.int .i64 cd, .int .i64 cA, .int .i64 cM, .slice sa cn sc] 32)) [(S, R), (cA, cM)] [.int .i64 S, .int .i64 R, .int .i64 cA, .int .i64 cM] rfl (by simp))
      simp only [World.size_alloc] at L5
      replace X := Lib.hid (bel_trans X.out (bel_alloc (o := .cells #[.int .i64 S, .int .i64 R, .int .i64 cA, .int .i64 cM] 29) (Below.refl _ _)))
      replace T0 := Lib.hid (T0.out.alloc (.cells #[.int .i64 S, .int .i64 R, .int .i64 cA, .int .i64 cM] 29))
      replace T4 := Lib.hid (T4.out.alloc (.cells #[.int .i64 S, .int .i64 R, .int .i64 cA, .int .i64 cM] 29))
      rw [if_pos hpn] at HS
      go_wp2_with fail
      refine (HS.out _ _ L5.out).mono ?_
      rintro e w3 ⟨rfl, h1⟩
      replace X := Lib.hid (bel_trans X.out h1)
      replace T0 := Lib.hid (T0.out.below h1)
      replace T4 := Lib.hid (T4.out.below h1)
      clear h1 t0 t1 t2 t3 t4 b1 b2 L5
      have m1 : g ≠ w.heap.size := by omega
      have m2 : w.heap.size ≤ g := by omega
      have N0 := Lib.hid ((T0.out.other ⟨g, 0, none⟩ m1 (.int .i64 (S + cA))).other ⟨g, 1, none⟩ m1 (.int .i64 (R + cM)))
      have N4 := Lib.hid ((T4.out.set0 (.int .i64 (S + cA))).set1 (.int .i64 (R + cM)))
      have NX := Lib.hid ((X.out.setCell (p := ⟨g, 0, none⟩) m2 (.int .i64 (S + cA))).setCell (p := ⟨g, 1, none⟩) m2 (.int .i64 (R + cM)))
      obtain ⟨t0, t1, t2, t3, t4⟩ := T4.out
      go_wp2
      go_roundw
      case rel => exact ⟨k + 1, by omega, by go_num, NX, N0, by rw [s1, s2]; exact N4⟩
      case measure => simp [intOf]; omega
    · obtain rfl : k = n := by omega
      rw [hA.out, hM.out] at T4
      obtain ⟨z0, z1, z2, z3, z4⟩ := T0.out
      obtain ⟨t0, t1, _, _, _⟩ := T4.out
      go_wp2
      obtain ⟨r0, r1⟩ := two_read wr w.heap.size (.int .i64 SA) (.int .i64 SM) z0 z1
      refine bodyPost_ret (v := .tuple #[.agg #[.int .i64 SA, .int .i64 SM], .int .i64 0]) (by simp [results, Tryd.results16, go_sem, r0, r1]) rfl ?_
      exact ⟨rfl, (X.out.setCell (Nat.le_refl _) _).setCell (Nat.le_refl _) _⟩
set_option maxHeartbeats 16000000 in
set_option maxRecDepth 100000 in
theorem ltTo_over (a : Option Addr) (n cap : Nat) (l : List Lt) (w : World) (NV0 : Hid (Lts w (.slice a n cap) l)) (B : Bool) (HC : Hid (∀ W, Lts W (.slice a n cap) l → Calls Tryd.prog 40 #[.slice a n cap] W fun e w' => e = .returned (.bool B) ∧ Below W.heap.size W w')) (hB : B = true) (hn : n ≤ 32) (hl : Hid (∀ j, j < n → plB (gL l j).al (gL l j).ms = true)) (m : Nat) (hm : m < n) (hp : Hid (∀ k, k ≤ m → plB (laS l k) (lmS l k) = true)) (hq : plB (laS l (m + 1)) (lmS l (m + 1)) = false) :
    Calls Tryd.prog 16 #[.slice a n cap] w fun e w' => e = .returned (.tuple #[.agg #[.int .i64 0, .int .i64 0], .int .i64 15]) ∧ Below w.heap.size w w' := by
  subst hB
  have T0 := Lib.hid (Two.new w (.int .i64 0) (.int .i64 0) 29)
  have X := Lib.hid (bel_alloc (w := w) (o := .cells #[.int .i64 0, .int .i64 0] 29) (Below.refl _ _))
  go_enter Tryd.func16, Tryd.ntmps16
  go_wp2_with fail
  refine (HC.out _ (NV0.out.alloc _)).mono ?_
  rintro e w1 ⟨rfl, h1⟩
  replace T0 := Lib.hid (T0.out.below h1)
  replace X := Lib.hid (bel_trans X.out h1)
  have n1 : w.heap.size < w1.heap.size := by have := h1.size; rw [World.size_alloc] at this; omega
  clear h1 HC
  have T4 := Lib.hid (Two.new w1 (.int .i64 0) (.int .i64 0) 29)
  replace T0 := Lib.hid (T0.out.alloc (.cells #[.int .i64 0, .int .i64 0] 29))
  replace X := Lib.hid (bel_trans X.out (bel_alloc (o := .cells #[.int .i64 0, .int .i64 0] 29) (Below.refl _ _)))
  go_wp2_with fail
  generalize w1.heap.size = g at *
  go_loopw [14] (fun i wr => ∃ k : Nat, k ≤ m ∧ i = .int .i64 k ∧ Hid (Below w.heap.size w wr) ∧ Hid (Two w.heap.size wr (.int .i64 0) (.int .i64 0)) ∧ Hid (Two g wr (.int .i64 (laS l k)) (.int .i64 (lmS l k)))) (fun i _ => n - (intOf i).toNat)
  case atStart => exact ⟨0, Nat.zero_le _, rfl, X, T0, T4⟩
  case round =>
    clear X T0 T4
    obtain ⟨k, hk, rfl, X, T0, T4⟩ := hrel
    have NV := Lib.hid (NV0.out.below X.out)
    by_cases hlt : k < m
    · have l9 : (k : Int) < (n : Int) := by omega
      have hpk := hp.out k (by omega)
      have hpl := hl.out k (by omega)
      have s1 : laS l (k + 1) = laS l k + (gL l k).al := rfl
      have s2 : lmS l (k + 1) = lmS l k + (gL l k).ms := rfl
      have hpn := hp.out (k + 1) (by omega)
      obtain ⟨b, off, rfl, hb, hnl, hc⟩ := NV.out.at (by omega)
      clear hnl
      obtain ⟨sa, sc, c0, c1, c2, c3, hP⟩ := hc k (by omega)
      clear hc hP
      rw [s1, s2] at hpn
      generalize gL l k = c at *
      obtain ⟨cd, cA, cM, cS⟩ := c
      simp only at c0 c1 c2 c3 s1 s2 hpl hpn
      generalize cS.length = cn at *
      generalize laS l k = S at *
      generalize lmS l k = R at *
      obtain ⟨u1, u2, u3⟩ := suE_two hpk hpl
      have HS := Lib.hid (fun v W h => mxSu_any v [(S, R), (cA, cM)] W h)
      rw [u1, (u2 hpn).1, (u2 hpn).2] at HS
      clear u1 u2 u3
      have Q0 := Lib.hid (Quad.new wr (.int .i64 cd) (.int .i64 cA) (.int .i64 cM) (.slice sa cn sc) 32)
      replace X := Lib.hid (bel_trans X.out (bel_alloc (o := .cells #[.int .i64 cd, .int .i64 cA, .int .i64 cM, .slice sa cn sc] 32) (Below.refl _ _)))
      replace T0 := Lib.hid (T0.out.alloc (.cells #[.int .i64 cd, .int .i64 cA, .int .i64 cM, .slice sa cn sc] 32))
      replace T4 := Lib.hid (T4.out.alloc (.cells #[.int .i64 cd, .int .i64 cA, .int .i64 cM, .slice sa cn sc] 32))
      obtain ⟨t0, t1, t2, t3, t4⟩ := T4.out
      obtain ⟨_, b1, b2, _, _, _⟩ := Q0.out
      have L5 := Lib.hid (pts_litT 29 (wr.alloc (.cells #[.int .i64 cd, .int .i64 cA, .int .i64 cM, .slice sa cn sc] 32)) [(S, R), (cA, cM)] [.int .i64 S, .int .i64 R, .int .i64 cA, .int .i64 cM] rfl (by simp))
      simp only [World.size_alloc] at L5
      replace X := Lib.hid (bel_trans X.out (bel_alloc (o := .cells #[.int .i64 S, .int .i64 R, .int .i64 cA, .int .i64 cM] 29) (Below.refl _ _)))
      replace T0 := Lib.hid (T0.out.alloc (.cells #[.int .i64 S, .int .i64 R, .int .i64 cA, .int .i64 cM] 29))
      replace T4 := Lib.hid (T4.out.alloc (.cells #[.int .i64 S, .int .i64 R, .int .i64 cA, .int .i64 cM] 29))
      rw [if_pos hpn] at HS
      go_wp2_with fail
      refine (HS.out _ _ L5.out).mono ?_
      rintro e w3 ⟨rfl, h1⟩
      replace X := Lib.hid (bel_trans X.out h1)
      replace T0 := Lib.hid (T0.out.below h1)
      replace T4 := Lib.hid (T4.out.below h1)
      clear h1 t0 t1 t2 t3 t4 b1 b2 L5
      have m1 : g ≠ w.heap.size := by omega
      have m2 : w.heap.size ≤ g := by omega
      have N0 := Lib.hid ((T0.out.other ⟨g, 0, none⟩ m1 (.int .i64 (S + cA))).other ⟨g, 1, none⟩ m1 (.int .i64 (R + cM)))
      have N4 := Lib.hid ((T4.out.set0 (.int .i64 (S + cA))).set1 (.int .i64 (R + cM)))
      have NX := Lib.hid ((X.out.setCell (p := ⟨g, 0, none⟩) m2 (.int .i64 (S + cA))).setCell (p := ⟨g, 1, none⟩) m2 (.int .i64 (R + cM)))
      obtain ⟨t0, t1, t2, t3, t4⟩ := T4.out
      go_wp2
      go_roundw
      case rel => exact ⟨k + 1, by omega, by go_num, NX, N0, by rw [s1, s2]; exact N4⟩
      case measure => simp [intOf]; omega
    · obtain rfl : k = m := by omega
      have l9 : (k : Int) < (n : Int) := by omega
      have hpk := hp.out k (Nat.le_refl _)
      have hpl := hl.out k (by omega)
      have s1 : laS l (k + 1) = laS l k + (gL l k).al := rfl
      have s2 : lmS l (k + 1) = lmS l k + (gL l k).ms := rfl
      have hpn := hq
      clear hq
      obtain ⟨b, off, rfl, hb, hnl, hc⟩ := NV.out.at (by omega)
      clear hnl
      obtain ⟨sa, sc, c0, c1, c2, c3, hP⟩ := hc k (by omega)
      clear hc hP
      rw [s1, s2] at hpn
      generalize gL l k = c at *
      obtain ⟨cd, cA, cM, cS⟩ := c
      simp only at c0 c1 c2 c3 s1 s2 hpl hpn
      generalize cS.length = cn at *
      generalize laS l k = S at *
      generalize lmS l k = R at *
      obtain ⟨u1, u2, u3⟩ := suE_two hpk hpl
      have HS := Lib.hid (fun v W h => mxSu_any v [(S, R), (cA, cM)] W h)
      rw [u1, (u3 hpn).1, (u3 hpn).2] at HS
      clear u1 u2 u3
      have Q0 := Lib.hid (Quad.new wr (.int .i64 cd) (.int .i64 cA) (.int .i64 cM) (.slice sa cn sc) 32)
      replace X := Lib.hid (bel_trans X.out (bel_alloc (o := .cells #[.int .i64 cd, .int .i64 cA, .int .i64 cM, .slice sa cn sc] 32) (Below.refl _ _)))
      replace T0 := Lib.hid (T0.out.alloc (.cells #[.int .i64 cd, .int .i64 cA, .int .i64 cM, .slice sa cn sc] 32))
      replace T4 := Lib.hid (T4.out.alloc (.cells #[.int .i64 cd, .int .i64 cA, .int .i64 cM, .slice sa cn sc] 32))
      obtain ⟨t0, t1, t2, t3, t4⟩ := T4.out
      obtain ⟨_, b1, b2, _, _, _⟩ := Q0.out
      have L5 := Lib.hid (pts_litT 29 (wr.alloc (.cells #[.int .i64 cd, .int .i64 cA, .int .i64 cM, .slice sa cn sc] 32)) [(S, R), (cA, cM)] [.int .i64 S, .int .i64 R, .int .i64 cA, .int .i64 cM] rfl (by simp))
      simp only [World.size_alloc] at L5
      replace X := Lib.hid (bel_trans X.out (bel_alloc (o := .cells #[.int .i64 S, .int .i64 R, .int .i64 cA, .int .i64 cM] 29) (Below.refl _ _)))
      replace T0 := Lib.hid (T0.out.alloc (.cells #[.int .i64 S, .int .i64 R, .int .i64 cA, .int .i64 cM] 29))
      replace T4 := Lib.hid (T4.out.alloc (.cells #[.int .i64 S, .int .i64 R, .int .i64 cA, .int .i64 cM] 29))
      rw [if_neg (by rw [hpn]; simp)] at HS
      go_wp2_with fail
      refine (HS.out _ _ L5.out).mono ?_
      rintro e w3 ⟨rfl, h1⟩
      replace X := Lib.hid (bel_trans X.out h1)
      replace T0 := Lib.hid (T0.out.below h1)
      replace T4 := Lib.hid (T4.out.below h1)
      clear h1 t0 t1 t2 t3 t4 b1 b2 L5
      have m1 : g ≠ w.heap.size := by omega
      have m2 : w.heap.size ≤ g := by omega
      have N0 := Lib.hid ((T0.out.other ⟨g, 0, none⟩ m1 (.int .i64 0)).other ⟨g, 1, none⟩ m1 (.int .i64 0))
      have NX := Lib.hid ((X.out.setCell (p := ⟨g, 0, none⟩) m2 (.int .i64 0)).setCell (p := ⟨g, 1, none⟩) m2 (.int .i64 0))
      obtain ⟨t0, t1, t2, t3, t4⟩ := T4.out
      go_upto_region 9 with fail
      generalize (w3.setCell ⟨g, 0, none⟩ (.int .i64 0)).setCell ⟨g, 1, none⟩ (.int .i64 0) = W9 at *
      clear t0 t1 t2 t3 t4 T0 X
      have X := Lib.hid NX.out
      obtain ⟨z0, z1, z2, z3, z4⟩ := N0.out
      go_wp2
      obtain ⟨r0, r1⟩ := two_read W9 w.heap.size (.int .i64 0) (.int .i64 0) z0 z1
      refine bodyPost_ret (v := .tuple #[.agg #[.int .i64 0, .int .i64 0], .int .i64 15]) (by simp [results, Tryd.results16, go_sem, r0, r1]) rfl ?_
      exact ⟨rfl, (X.out.setCell (Nat.le_refl _) _).setCell (Nat.le_refl _) _⟩
theorem ltTo_any (v : Value) (l : List Lt) (w : World) (hv : Lts w v l) (hs : ∀ j, j < l.length → (gL l j).sh.length ≤ 1000) :
    Calls Tryd.prog 16 #[v] w fun e w' => e = .returned (.tuple #[.agg #[.int .i64 (toA l), .int .i64 (toM l)], .int .i64 (toE l)]) ∧ Below w.heap.size w w' := by
  obtain ⟨a, cap, rfl, hcap, _⟩ := id hv
  have HC := Lib.hid (fun W h => ltSo_any (.slice a l.length cap) l W h hs)
  unfold toA toM
  by_cases h : ltE l = 0
  · have L := ltE_zero.1 h
    have hB : (ltE l == 0) = true := by simpa using h
    cases hp : plB (laS l l.length) (lmS l l.length) with
    | true =>
      have e : toE l = 0 := by unfold toE; rw [if_neg (by omega), if_pos hp]
      rw [e]
      exact ltTo_ok a _ cap l w hv _ HC hB L.len (Lib.hid fun j hj => (L.one hj).pl) (Lib.hid fun k hk => by
        cases g : plB (laS l k) (lmS l k) with
        | true => rfl
        | false => have := pl_dn L (Nat.le_refl _) hk g; rw [this] at hp; cases hp) _ _ rfl rfl
    | false =>
      have e : toE l = 15 := by unfold toE; rw [if_neg (by omega), if_neg (by rw [hp]; simp)]
      rw [e]
      obtain ⟨s1, s2⟩ := fst_spec (fun k => !plB (laS l (k + 1)) (lmS l (k + 1))) l.length
      have le := fst_le (fun k => !plB (laS l (k + 1)) (lmS l (k + 1))) l.length
      generalize fst (fun k => !plB (laS l (k + 1)) (lmS l (k + 1))) l.length = m at *
      have z0 : plB (laS l 0) (lmS l 0) = true := plB_zero
      have hm : m < l.length := by
        rcases Nat.lt_or_ge m l.length with g | g
        · exact g
        · exfalso
          cases hl : l.length with
          | zero => rw [hl] at hp; rw [z0] at hp; cases hp
          | succ q =>
            have := s1 q (by omega)
            rw [hl] at hp
            rw [hp] at this; cases this
      exact ltTo_over a _ cap l w hv _ HC hB L.len (Lib.hid fun j hj => (L.one hj).pl) m hm (Lib.hid fun k hk => by
        cases k with
        | zero => exact z0
        | succ k => simpa using s1 k (by omega)) (by simpa using s2 hm)
  · have e : toE l = 1 := by unfold toE; rw [if_pos h]
    rw [e]
    exact ltTo_bad a _ cap l w hv _ HC (by simpa using h)
end Go.Proofs.YtfpdanjhlepckaaDoor

