/- Package lot: Check, areSound. -/
import Derived.Test.YtfpdanjhlepckaaDoorLTC
namespace Go.Proofs.YtfpdanjhlepckaaDoor
open Go.RowKit

theorem pvI_next (l : List Lt) (k : Nat) : pvI l (k + 1) = (gL l k).id := rfl
set_option maxHeartbeats 4000000 in
theorem ltCh_long (a : Option Addr) (n cap : Nat) (w : World) (h : 32 < n) (hn : n ≤ 9223372036854775807) :
    Calls Tryd.prog 12 #[.slice a n cap] w fun e w' => e = .returned (.tuple #[.int .i64 (-1), .int .i64 8]) ∧ Below w.heap.size w w' := by
  have q : decide (32 < (n : Int)) = true := decide_eq_true (by omega)
  go_enter Tryd.func12, Tryd.ntmps12
  go_wp2
  go_returns
  exact ⟨rfl, Below.refl _ _⟩
set_option maxHeartbeats 16000000 in
set_option maxRecDepth 100000 in
theorem ltCh_ok (a : Option Addr) (n cap : Nat) (l : List Lt) (w : World) (NV0 : Hid (Lts w (.slice a n cap) l)) (hn : n ≤ 32) (hs : Hid (∀ j, j < n → (gL l j).sh.length ≤ 1000)) (hp : Hid (∀ j, j < n → ltF (gL l j) (pvI l j) = 0)) :
    Calls Tryd.prog 12 #[.slice a n cap] w fun e w' => e = .returned (.tuple #[.int .i64 (-1), .int .i64 0]) ∧ Below w.heap.size w w' := by
  have q : decide (32 < (n : Int)) = false := decide_eq_false (by omega)
  go_enter Tryd.func12, Tryd.ntmps12
  go_wp2_with fail
  go_loopw [4, 13] (fun bf i wr => ∃ k : Nat, k ≤ n ∧ i = .int .i64 k ∧ bf = .int .i64 (pvI l k) ∧ Hid (Below w.heap.size w wr)) (fun _ i _ => n - (intOf i).toNat)
  case atStart => exact ⟨0, Nat.zero_le _, rfl, rfl, Lib.hid (Below.refl _ _)⟩
  case round =>
    obtain ⟨k, hk, rfl, rfl, X⟩ := hrel
    have NV := Lib.hid (NV0.out.below X.out)
    by_cases hlt : k < n
    · have l9 : (k : Int) < (n : Int) := by omega
      have HFa := Lib.hid (fun a c W h => ltFa_any (gL l k) (pvI l k) a c W h (hs.out k (by omega)))
      obtain ⟨b, off, rfl, hb, hnl, hc⟩ := NV.out.at (by omega)
      clear hnl
      obtain ⟨sa, sc, c0, c1, c2, c3, hP⟩ := hc k (by omega)
      clear hc
      have PS := Lib.hid hP
      clear hP
      have hq := hp.out k hlt
      have hnx := pvI_next l k
      unfold ltV at HFa
      generalize ltF (gL l k) (pvI l k) = E at *
      generalize pvI l k = p at *
      generalize gL l k = c at *
      obtain ⟨cd, cA, cM, cS⟩ := c
      simp only at c0 c1 c2 c3 hnx
      replace PS : Hid (Pts wr (.slice sa cS.length sc) cS) := PS
      replace HFa : Hid (∀ a cap W, Pts W (.slice a cS.length cap) cS → Calls Tryd.prog 34 #[.agg #[.int .i64 cd, .int .i64 cA, .int .i64 cM, .slice a cS.length cap], .int .i64 p] W fun e w' => e = .returned (.int .i64 E) ∧ Below W.heap.size W w') := HFa
      generalize cS.length = cn at *
      have T0 := Lib.hid (Quad.new wr (.int .i64 cd) (.int .i64 cA) (.int .i64 cM) (.slice sa cn sc) 32)
      replace X := Lib.hid (bel_trans X.out (bel_alloc (o := .cells #[.int .i64 cd, .int .i64 cA, .int .i64 cM, .slice sa cn sc] 32) (Below.refl _ _)))
      replace PS := Lib.hid (PS.out.alloc (.cells #[.int .i64 cd, .int .i64 cA, .int .i64 cM, .slice sa cn sc] 32))
      obtain ⟨b0, b1, b2, b3, _, _⟩ := T0.out
      go_wp2_with fail
      refine (HFa.out _ _ _ PS.out).mono ?_
      rintro e w3 ⟨rfl, h1⟩
      replace T0 := Lib.hid (T0.out.below h1)
      replace X := Lib.hid (bel_trans X.out h1)
      clear h1 b0 b1 b2 b3 c0 c1 c2 c3
      obtain ⟨b0, b1, b2, b3, _, _⟩ := T0.out
      have d : (E != 0) = false := by rw [hq]; rfl
      go_wp2
      go_roundw
      case rel => exact ⟨k + 1, by omega, by go_num, by rw [hnx], X⟩
      case measure => simp [intOf]; omega
    · obtain rfl : k = n := by omega
      go_wp2
      go_returns
      exact ⟨rfl, X.out⟩
set_option maxHeartbeats 16000000 in
set_option maxRecDepth 100000 in
theorem ltCh_bad (a : Option Addr) (n cap : Nat) (l : List Lt) (w : World) (NV0 : Hid (Lts w (.slice a n cap) l)) (hn : n ≤ 32) (hs : Hid (∀ j, j < n → (gL l j).sh.length ≤ 1000)) (m : Nat) (hm : m < n) (F : Int) (hF : (F != 0) = true) (hE : ltF (gL l m) (pvI l m) = F) (hp : Hid (∀ j, j < m → ltF (gL l j) (pvI l j) = 0)) :
    Calls Tryd.prog 12 #[.slice a n cap] w fun e w' => e = .returned (.tuple #[.int .i64 (m : Nat), .int .i64 F]) ∧ Below w.heap.size w w' := by
  have q : decide (32 < (n : Int)) = false := decide_eq_false (by omega)
  go_enter Tryd.func12, Tryd.ntmps12
  go_wp2_with fail
  go_loopw [4, 13] (fun bf i wr => ∃ k : Nat, k ≤ m ∧ i = .int .i64 k ∧ bf = .int .i64 (pvI l k) ∧ Hid (Below w.heap.size w wr)) (fun _ i _ => n - (intOf i).toNat)
  case atStart => exact ⟨0, Nat.zero_le _, rfl, rfl, Lib.hid (Below.refl _ _)⟩
  case round =>
    obtain ⟨k, hk, rfl, rfl, X⟩ := hrel
    have NV := Lib.hid (NV0.out.below X.out)
    by_cases hlt : k < m
    · have l9 : (k : Int) < (n : Int) := by omega
      have HFa := Lib.hid (fun a c W h => ltFa_any (gL l k) (pvI l k) a c W h (hs.out k (by omega)))
      obtain ⟨b, off, rfl, hb, hnl, hc⟩ := NV.out.at (by omega)
      clear hnl
      obtain ⟨sa, sc, c0, c1, c2, c3, hP⟩ := hc k (by omega)
      clear hc
      have PS := Lib.hid hP
      clear hP
      have hq := hp.out k hlt
      have hnx := pvI_next l k
      unfold ltV at HFa
      generalize ltF (gL l k) (pvI l k) = E at *
      generalize pvI l k = p at *
      generalize gL l k = c at *
      obtain ⟨cd, cA, cM, cS⟩ := c
      simp only at c0 c1 c2 c3 hnx
      replace PS : Hid (Pts wr (.slice sa cS.length sc) cS) := PS
      replace HFa : Hid (∀ a cap W, Pts W (.slice a cS.length cap) cS → Calls Tryd.prog 34 #[.agg #[.int .i64 cd, .int .i64 cA, .int .i64 cM, .slice a cS.length cap], .int .i64 p] W fun e w' => e = .returned (.int .i64 E) ∧ Below W.heap.size W w') := HFa
      generalize cS.length = cn at *
      have T0 := Lib.hid (Quad.new wr (.int .i64 cd) (.int .i64 cA) (.int .i64 cM) (.slice sa cn sc) 32)
      replace X := Lib.hid (bel_trans X.out (bel_alloc (o := .cells #[.int .i64 cd, .int .i64 cA, .int .i64 cM, .slice sa cn sc] 32) (Below.refl _ _)))
      replace PS := Lib.hid (PS.out.alloc (.cells #[.int .i64 cd, .int .i64 cA, .int .i64 cM, .slice sa cn sc] 32))
      obtain ⟨b0, b1, b2, b3, _, _⟩ := T0.out
      go_wp2_with fail
      refine (HFa.out _ _ _ PS.out).mono ?_
      rintro e w3 ⟨rfl, h1⟩
      replace T0 := Lib.hid (T0.out.below h1)
      replace X := Lib.hid (bel_trans X.out h1)
      clear h1 b0 b1 b2 b3 c0 c1 c2 c3
      obtain ⟨b0, b1, b2, b3, _, _⟩ := T0.out
      have d : (E != 0) = false := by rw [hq]; rfl
      go_wp2
      go_roundw
      case rel => exact ⟨k + 1, by omega, by go_num, by rw [hnx], X⟩
      case measure => simp [intOf]; omega
    · obtain rfl : k = m := by omega
      have l9 : (k : Int) < (n : Int) := by omega
      have HFa := Lib.hid (fun a c W h => ltFa_any (gL l k) (pvI l k) a c W h (hs.out k (by omega)))
      obtain ⟨b, off, rfl, hb, hnl, hc⟩ := NV.out.at (by omega)
      clear hnl
      obtain ⟨sa, sc, c0, c1, c2, c3, hP⟩ := hc k (by omega)
      clear hc
      have PS := Lib.hid hP
      clear hP
      have hq := hE
      have hnx := pvI_next l k
      unfold ltV at HFa
      generalize ltF (gL l k) (pvI l k) = E at *
      generalize pvI l k = p at *
      generalize gL l k = c at *
      obtain ⟨cd, cA, cM, cS⟩ := c
      simp only at c0 c1 c2 c3 hnx
      replace PS : Hid (Pts wr (.slice sa cS.length sc) cS) := PS
      replace HFa : Hid (∀ a cap W, Pts W (.slice a cS.length cap) cS → Calls Tryd.prog 34 #[.agg #[.int .i64 cd, .int .i64 cA, .int .i64 cM, .slice a cS.length cap], .int .i64 p] W fun e w' => e = .returned (.int .i64 E) ∧ Below W.heap.size W w') := HFa
      generalize cS.length = cn at *
      have T0 := Lib.hid (Quad.new wr (.int .i64 cd) (.int .i64 cA) (.int .i64 cM) (.slice sa cn sc) 32)
      replace X := Lib.hid (bel_trans X.out (bel_alloc (o := .cells #[.int .i64 cd, .int .i64 cA, .int .i64 cM, .slice sa cn sc] 32) (Below.refl _ _)))
      replace PS := Lib.hid (PS.out.alloc (.cells #[.int .i64 cd, .int .i64 cA, .int .i64 cM, .slice sa cn sc] 32))
      obtain ⟨b0, b1, b2, b3, _, _⟩ := T0.out
      go_wp2_with fail
      refine (HFa.out _ _ _ PS.out).mono ?_
      rintro e w3 ⟨rfl, h1⟩
      replace T0 := Lib.hid (T0.out.below h1)
      replace X := Lib.hid (bel_trans X.out h1)
      clear h1 b0 b1 b2 b3 c0 c1 c2 c3
      obtain ⟨b0, b1, b2, b3, _, _⟩ := T0.out
      subst hq
      go_wp2
      go_returns
      exact ⟨rfl, X.out⟩
theorem ltCh_any (v : Value) (l : List Lt) (w : World) (hv : Lts w v l) (hs : ∀ j, j < l.length → (gL l j).sh.length ≤ 1000) :
    Calls Tryd.prog 12 #[v] w fun e w' => e = .returned (.tuple #[.int .i64 (ltI l), .int .i64 (ltE l)]) ∧ Below w.heap.size w w' := by
  obtain ⟨a, cap, rfl, hcap, _⟩ := id hv
  unfold ltE ltI
  by_cases h : 32 < l.length
  · rw [if_pos h, if_pos h]; exact ltCh_long a _ cap w h (by omega)
  · rw [if_neg h, if_neg h]
    obtain ⟨s1, s2⟩ := fst_spec (fun k => ltF (gL l k) (pvI l k) != 0) l.length
    have le := fst_le (fun k => ltF (gL l k) (pvI l k) != 0) l.length
    change ltK l ≤ l.length at le
    by_cases g : ltK l < l.length
    · rw [if_pos g, if_pos g]
      exact ltCh_bad a _ cap l w hv (by omega) (Lib.hid hs) (ltK l) g _ (s2 g) rfl (Lib.hid fun j hj => by simpa using s1 j hj)
    · rw [if_neg g, if_neg g]
      exact ltCh_ok a _ cap l w hv (by omega) (Lib.hid hs) (Lib.hid fun j hj => by
        have : ltK l = l.length := by omega
        have := s1 j (by show j < ltK l; omega)
        simpa using this)
theorem ltSo_any (v : Value) (l : List Lt) (w : World) (hv : Lts w v l) (hs : ∀ j, j < l.length → (gL l j).sh.length ≤ 1000) :
    Calls Tryd.prog 40 #[v] w fun e w' => e = .returned (.bool (ltE l == 0)) ∧ Below w.heap.size w w' := by
  have HC := Lib.hid (ltCh_any v l w hv hs)
  generalize ltE l = E at *
  generalize ltI l = I at *
  go_enter Tryd.func40, Tryd.ntmps40
  go_wp2_with fail
  refine HC.out.mono ?_
  rintro e w1 ⟨rfl, h1⟩
  have X := Lib.hid h1; clear h1
  go_wp2
  go_returns
  exact ⟨rfl, X.out⟩
end Go.Proofs.YtfpdanjhlepckaaDoor

