/-
  The statement MixParts of spile/spilelaw21 holds: for every input the call returns true, and each argument reads afterwards as it read before.
-/
import Derived.Test.YtfkcgdnpfngdkaaM2
import Derived.Below
import Derived.Carry

set_option linter.unusedVariables false
set_option linter.unusedSimpArgs false

namespace Go.Proofs.Ytfkcgdnpfngdkaa.mixParts
open Go.ChangeShapes Go.WideShapes Go.ChangeAt Go.RowKit
open Go.ChangeMaps (open_string shut_string)
set_option linter.unusedVariables false

theorem divP_zero {a : Int} {ws : List Int} (h : divE a ws = 0) {k : Nat} (hk : k < ws.length) (hz : ws.getD k 0 = 0) : (divP a ws).getD k 0 = 0 := by
  have I := (div_inv a ws h).each k (by simpa [divR] using hk)
  rw [divQ_get a ws k hk, divR_get a ws k hk, hz, Int.mul_zero, Int.zero_ediv, Int.zero_emod] at I
  rcases I with ⟨_, e⟩ | ⟨_, e, _⟩
  · exact e
  · omega
theorem at_mem {l : List Int} {k : Nat} (hk : k < l.length) : l.getD k 0 ∈ l := by simp [List.getD_eq_getElem?_getD, List.getElem?_eq_getElem hk]
theorem sm_zip : ∀ (a b : List Int), a.length = b.length → sm fA (a.zip b) = a.sum ∧ sm fM (a.zip b) = b.sum
  | [], [], _ => ⟨rfl, rfl⟩
  | x :: a, y :: b, h => by
    have i := sm_zip a b (by simpa using h)
    unfold sm at *
    simp only [List.zip_cons_cons, List.map_cons, List.sum_cons]
    exact ⟨by rw [i.1]; rfl, by rw [i.2]; rfl⟩
  | [], y :: b, h => by simp at h
  | x :: a, [], h => by simp at h
theorem sm_rep (f : Int → Int → Int) (h : f 0 0 = 0) : ∀ n, sm f (List.replicate n (0, 0)) = 0
  | 0 => rfl
  | n + 1 => by
    have := sm_rep f h n
    unfold sm at *
    rw [List.replicate_succ, List.map_cons, List.sum_cons, this, h]; rfl
/-- what the parts of a liquid are -/
structure PF (A M : Int) (ws : List Int) (L : List (Int × Int)) : Prop where
  len : L.length = ws.length
  nn : ∀ k, k < L.length → (0 ≤ gX L k ∧ gX L k ≤ 128849018880000) ∧ (0 ≤ gR L k ∧ gR L k ≤ 128849018880000)
  dry : ∀ k, k < L.length → gR L k = 0 → gX L k = 0
  off : ∀ k, k < L.length → ws.getD k 0 = 0 → gR L k = 0
  sA : sm fA L = A
  sM : sm fM L = M
theorem parts_of {A M : Int} {ws : List Int} (h : dvE A M ws = 0) : PF A M ws (dvL A M ws) ∧ ws.length ≤ 64 := by
  have hP : plB A M = true := by
    cases e : plB A M with
    | true => rfl
    | false => unfold dvE at h; rw [if_pos e] at h; cases h
  have hd : divE M ws = 0 := by unfold dvE at h; rwa [hP, if_neg (by simp)] at h
  obtain ⟨t1, t2, t3, t4, t5⟩ := totE_zero (divE_zero hd).2
  obtain ⟨p1, p2, p3, p4, p5⟩ := plB_iff.1 hP
  refine ⟨?_, t2⟩
  unfold dvL
  rw [h, if_neg (by simp)]
  by_cases hM : M = 0
  · rw [if_pos hM]
    have g0 : ∀ k, k < (List.replicate ws.length ((0, 0) : Int × Int)).length → gX (List.replicate ws.length ((0, 0) : Int × Int)) k = 0 ∧ gR (List.replicate ws.length ((0, 0) : Int × Int)) k = 0 := fun k hk => by
      rw [List.length_replicate] at hk
      simp [gX, gR, List.getD_eq_getElem?_getD, List.getElem?_replicate, hk]
    refine ⟨by simp, fun k hk => ?_, fun k hk _ => (g0 k hk).1, fun k hk _ => (g0 k hk).2, ?_, ?_⟩
    · rw [(g0 k hk).1, (g0 k hk).2]; omega
    · rw [sm_rep _ rfl, p5 hM]
    · rw [sm_rep _ rfl, hM]
  · rw [if_neg hM]
    have ha := div_again hP hM hd
    have l1 := divP_len _ _ hd
    have l2 := divP_len _ _ ha
    have n1 := divP_nn hd
    have n2 := divP_nn ha
    have hz : ∀ k, k < ((divP A (divP M ws)).zip (divP M ws)).length → k < ws.length := fun k hk => by rw [List.length_zip] at hk; omega
    have za : ∀ k, k < ws.length → gX ((divP A (divP M ws)).zip (divP M ws)) k = (divP A (divP M ws)).getD k 0 ∧ gR ((divP A (divP M ws)).zip (divP M ws)) k = (divP M ws).getD k 0 := fun k hk => zip_at _ _ k (by omega) (by omega)
    have sz := sm_zip (divP A (divP M ws)) (divP M ws) l2
    refine ⟨by rw [List.length_zip]; omega, fun k hk => ?_, fun k hk e => ?_, fun k hk e => ?_, ?_, ?_⟩
    · rw [(za k (hz k hk)).1, (za k (hz k hk)).2]
      have m1 := n1 _ (at_mem (l := divP M ws) (k := k) (by have := hz k hk; omega))
      have m2 := n2 _ (at_mem (l := divP A (divP M ws)) (k := k) (by have := hz k hk; omega))
      omega
    · rw [(za k (hz k hk)).2] at e
      rw [(za k (hz k hk)).1]
      exact divP_zero ha (by have := hz k hk; omega) e
    · rw [(za k (hz k hk)).2]
      exact divP_zero hd (hz k hk) e
    · rw [sz.1]; exact divP_sum _ _ ha
    · rw [sz.2]; exact divP_sum _ _ hd
set_option maxHeartbeats 16000000 in
set_option maxRecDepth 100000 in
theorem long (a : Option Addr) (n cap : Nat) (A M : Int) (ws : List Int) (w : World) (WV : Hid (Ins w (.slice a n cap) ws)) (d : decide (70 < (n : Int)) = true) :
    Calls Try.prog 6 #[.agg #[.int .i64 A, .int .i64 M], .slice a n cap] w fun e w' => e = .returned (.bool true) ∧ Below w.heap.size w w' := by
  have HA := Lib.hid (fun W => awakeM_any W)
  have HB := Lib.hid (Below.refl w.heap.size w)
  have T0 := Lib.hid (Two.new w (.int .i64 A) (.int .i64 M) 24)
  replace HB := Lib.hid (bel_alloc (w := w) (o := .cells #[.int .i64 A, .int .i64 M] 24) (Below.refl _ _))
  replace WV := Lib.hid (WV.out.alloc (.cells #[.int .i64 A, .int .i64 M] 24))
  obtain ⟨T00, T01, T02, T03, T04⟩ := T0.out
  go_enter Try.func6, Try.ntmps6
  go_wp2_with fail
  refine (HA.out _).mono ?_
  rintro e w4 ⟨rfl, h1⟩
  replace WV := Lib.hid (WV.out.below h1)
  replace T0 := Lib.hid (T0.out.below h1)
  replace HB := Lib.hid (bel_trans HB.out h1); clear h1
  obtain ⟨T00, T01, T02, T03, T04⟩ := T0.out
  go_wp2
  go_returns
  exact ⟨rfl, HB.out⟩
set_option maxHeartbeats 16000000 in
set_option maxRecDepth 100000 in
theorem bad (a : Option Addr) (n cap : Nat) (A M E : Int) (ws : List Int) (w : World) (WV : Hid (Ins w (.slice a n cap) ws)) (d : decide (70 < (n : Int)) = false) (hE : (E != 0) = true) (C1 : Hid (∀ W, Ins W (.slice a n cap) ws → Calls Try.prog 15 #[.agg #[.int .i64 A, .int .i64 M], .slice a n cap] W fun e w' => ∃ u, e = .returned (.tuple #[u, .int .i64 E]) ∧ Pts w' u [] ∧ Below W.heap.size W w')) :
    Calls Try.prog 6 #[.agg #[.int .i64 A, .int .i64 M], .slice a n cap] w fun e w' => e = .returned (.bool true) ∧ Below w.heap.size w w' := by
  have HA := Lib.hid (fun W => awakeM_any W)
  have HB := Lib.hid (Below.refl w.heap.size w)
  have T0 := Lib.hid (Two.new w (.int .i64 A) (.int .i64 M) 24)
  replace HB := Lib.hid (bel_alloc (w := w) (o := .cells #[.int .i64 A, .int .i64 M] 24) (Below.refl _ _))
  replace WV := Lib.hid (WV.out.alloc (.cells #[.int .i64 A, .int .i64 M] 24))
  obtain ⟨T00, T01, T02, T03, T04⟩ := T0.out
  go_enter Try.func6, Try.ntmps6
  go_wp2_with fail
  refine (HA.out _).mono ?_
  rintro e w9 ⟨rfl, h1⟩
  replace WV := Lib.hid (WV.out.below h1)
  replace T0 := Lib.hid (T0.out.below h1)
  replace HB := Lib.hid (bel_trans HB.out h1); clear h1
  obtain ⟨T00, T01, T02, T03, T04⟩ := T0.out
  go_wp2_with fail
  refine (C1.out _ WV.out).mono ?_
  rintro e w11 ⟨u, rfl, hx, h1⟩
  replace WV := Lib.hid (WV.out.below h1)
  replace T0 := Lib.hid (T0.out.below h1)
  replace HB := Lib.hid (bel_trans HB.out h1); clear h1
  have U := Lib.hid hx; clear hx
  obtain ⟨ua, uc, rfl, _⟩ := U.out.shape
  go_wp2
  go_returns
  exact ⟨rfl, HB.out⟩
set_option maxHeartbeats 16000000 in
set_option maxRecDepth 100000 in
theorem good (a : Option Addr) (n cap : Nat) (A M : Int) (ws : List Int) (L : List (Int × Int)) (w : World) (WV : Hid (Ins w (.slice a n cap) ws)) (d : decide (70 < (n : Int)) = false) (hn : Hid (ws.length = n)) (hL : Hid (PF A M ws L)) (n64 : n ≤ 64) (C1 : Hid (∀ W, Ins W (.slice a n cap) ws → Calls Try.prog 15 #[.agg #[.int .i64 A, .int .i64 M], .slice a n cap] W fun e w' => ∃ u, e = .returned (.tuple #[u, .int .i64 0]) ∧ Pts w' u L ∧ Below W.heap.size W w')) :
    Calls Try.prog 6 #[.agg #[.int .i64 A, .int .i64 M], .slice a n cap] w fun e w' => e = .returned (.bool true) ∧ Below w.heap.size w w' := by
  have hl : Hid (L.length = n) := Lib.hid (hL.out.len.trans hn.out)
  have WV0 := Lib.hid WV.out
  have qe : ∀ W, (binOp .eql 24 (.agg #[.int .i64 A, .int .i64 M]) (.agg #[.int .i64 A, .int .i64 M])).run Try.prog W = .ok (.bool true) W := fun W => by rw [run_eql_liq]; simp [samP]
  have qz : ∀ W, (binOp .neq 24 (.agg #[.int .i64 0, .int .i64 0]) (.agg #[.int .i64 0, .int .i64 0])).run Try.prog W = .ok (.bool false) W := fun W => by rw [run_neq_liq]; simp [samP, samB]
  have HA := Lib.hid (fun W => awakeM_any W)
  have HB := Lib.hid (Below.refl w.heap.size w)
  have T0 := Lib.hid (Two.new w (.int .i64 A) (.int .i64 M) 24)
  replace HB := Lib.hid (bel_alloc (w := w) (o := .cells #[.int .i64 A, .int .i64 M] 24) (Below.refl _ _))
  replace WV := Lib.hid (WV.out.alloc (.cells #[.int .i64 A, .int .i64 M] 24))
  obtain ⟨T00, T01, T02, T03, T04⟩ := T0.out
  go_enter Try.func6, Try.ntmps6
  go_wp2_with fail
  refine (HA.out _).mono ?_
  rintro e w15 ⟨rfl, h1⟩
  replace WV := Lib.hid (WV.out.below h1)
  replace T0 := Lib.hid (T0.out.below h1)
  replace HB := Lib.hid (bel_trans HB.out h1); clear h1
  obtain ⟨T00, T01, T02, T03, T04⟩ := T0.out
  go_wp2_with fail
  refine (C1.out _ WV.out).mono ?_
  rintro e w17 ⟨u, rfl, hx, h1⟩
  replace WV := Lib.hid (WV.out.below h1)
  replace T0 := Lib.hid (T0.out.below h1)
  replace HB := Lib.hid (bel_trans HB.out h1); clear h1
  have U := Lib.hid hx; clear hx
  have HBL : Hid (∀ b off n' c, u = .slice (some ⟨b, off, none⟩) n' c → L.length = 0 ∨ b < ((w17)).heap.size) := Lib.hid (by
    intro b off n' c e
    obtain ⟨ua, uc, rfl, _, hh⟩ := U.out
    simp only [Value.slice.injEq] at e
    rcases hh with h0 | ⟨b', off', e', hb, _⟩
    · exact .inl h0
    · rw [e.1] at e'; simp only [Option.some.injEq, Addr.mk.injEq] at e'; rw [e'.1]; exact .inr hb)
  obtain ⟨ua, uc, e0, _⟩ := U.out.shape
  rw [hl.out] at e0
  subst e0
  have nT := T0.out.2.2.2.2
  have T7 := Lib.hid (Two.new (w17) (.int .i64 0) (.int .i64 0) 24)
  replace T0 := Lib.hid (T0.out.alloc (.cells #[.int .i64 0, .int .i64 0] 24))
  replace U := Lib.hid (U.out.alloc (.cells #[.int .i64 0, .int .i64 0] 24))
  replace WV := Lib.hid (WV.out.alloc (.cells #[.int .i64 0, .int .i64 0] 24))
  replace HB := Lib.hid (bel_trans HB.out (bel_alloc (Below.refl _ ((w17).alloc (.cells #[.int .i64 0, .int .i64 0] 24)))))
  go_wp2_with fail
  clear T00 T01 T02 T03 T04
  generalize w17.heap.size = g at *
  go_loopw [34] (fun i wr => ∃ k : Nat, k ≤ n ∧ i = .int .i64 k ∧ Hid (Below w.heap.size w wr) ∧ Hid (Pts wr (.slice ua n uc) L) ∧ Hid (Two w.heap.size wr (.int .i64 A) (.int .i64 M)) ∧ Hid (Two g wr (.int .i64 (sm fA (L.take k))) (.int .i64 (sm fM (L.take k))))) (fun i _ => n - (intOf i).toNat)
  case atStart => exact ⟨0, Nat.zero_le _, rfl, HB, U, T0, T7⟩
  case round =>
    clear HB U T0 T7 WV C1
    obtain ⟨k, hk, rfl, X, U, T0, T7⟩ := hrel
    have WV := Lib.hid (WV0.out.below X.out)
    by_cases hlt : k < n
    · have l9 : (k : Int) < (n : Int) := by omega
      have p := hL.out.nn k (by rw [hl.out]; exact hlt)
      have p1 := hL.out.dry k (by rw [hl.out]; exact hlt)
      have p2 := hL.out.off k (by rw [hl.out]; exact hlt)
      have s1 := Lib.hid (sm_step fA L k (by rw [hl.out]; exact hlt))
      have s2 := Lib.hid (sm_step fM L k (by rw [hl.out]; exact hlt))
      change Hid (sm fA (L.take (k + 1)) = sm fA (L.take k) + gX L k) at s1
      change Hid (sm fM (L.take (k + 1)) = sm fM (L.take k) + gR L k) at s2
      have hm : ∀ q ∈ L.take k, (0 ≤ q.1 ∧ q.1 ≤ 128849018880000) ∧ (0 ≤ q.2 ∧ q.2 ≤ 128849018880000) := fun q hq => by
        obtain ⟨i, hi, e⟩ := List.getElem_of_mem (List.mem_of_mem_take hq)
        have := hL.out.nn i hi
        simpa [gX, gR, List.getD_eq_getElem?_getD, List.getElem?_eq_getElem hi, e] using this
      have b1 := sm_bd (f := fA) (c := 128849018880000) (L.take k) fun q hq => (hm q hq).1
      have b2 := sm_bd (f := fM) (c := 128849018880000) (L.take k) fun q hq => (hm q hq).2
      have b3 := List.length_take_le k L
      clear hm
      obtain ⟨b, off, rfl, hb, hc⟩ := U.out.at (by omega)
      obtain ⟨c0, c1⟩ := hc k hlt
      clear hc
      have nb : b ≠ g := by rcases HBL.out b off n uc rfl with h0 | h0; (have := hl.out; omega); omega
      have hg := T7.out.2.2.2.2
      generalize gX L k = x at *
      generalize gR L k = y at *
      generalize sm fA (L.take k) = S at *
      generalize sm fM (L.take k) = R at *
      have e1 : IntKind.i64.wrap (S + x) = S + x := wrap_in _ ⟨by omega, by omega⟩
      have e2 : IntKind.i64.wrap (R + y) = R + y := wrap_in _ ⟨by omega, by omega⟩
      have Q0 := Lib.hid (Two.new wr (.int .i64 x) (.int .i64 y) 24)
      have nh : wr.heap.size ≠ g := by omega
      replace X := Lib.hid (bel_trans X.out (bel_alloc (o := .cells #[.int .i64 x, .int .i64 y] 24) (Below.refl _ _)))
      replace U := Lib.hid (U.out.alloc (.cells #[.int .i64 x, .int .i64 y] 24))
      replace T0 := Lib.hid (T0.out.alloc (.cells #[.int .i64 x, .int .i64 y] 24))
      replace T7 := Lib.hid (T7.out.alloc (.cells #[.int .i64 x, .int .i64 y] 24))
      replace WV := Lib.hid (WV.out.alloc (.cells #[.int .i64 x, .int .i64 y] 24))
      go_upto_region 14 with fail
      generalize wr.alloc (.cells #[.int .i64 x, .int .i64 y] 24) = W at *
      generalize wr.heap.size = h at *
      have ng : w.heap.size ≤ g := by omega
      have ng2 : g ≠ w.heap.size := by omega
      have nbU : ∀ j : Nat, ∀ a' n' c', Value.slice (some ⟨b, off, none⟩) n uc = .slice (some a') n' c' → L.length = 0 ∨ a'.block ≠ (⟨g, j, none⟩ : Addr).block := fun j a' n' c' e => by simp only [Value.slice.injEq, Option.some.injEq] at e; rw [← e.1]; exact .inr nb
      have NX := Lib.hid ((X.out.setCell (p := ⟨g, 0, none⟩) ng (.int .i64 (S + x))).setCell (p := ⟨g, 1, none⟩) ng (.int .i64 (R + y)))
      have NU := Lib.hid ((U.out.other ⟨g, 0, none⟩ (nbU 0) (.int .i64 (S + x))).other ⟨g, 1, none⟩ (nbU 1) (.int .i64 (R + y)))
      have N0 := Lib.hid ((T0.out.other ⟨g, 0, none⟩ ng2 (.int .i64 (S + x))).other ⟨g, 1, none⟩ ng2 (.int .i64 (R + y)))
      have N7 := Lib.hid ((T7.out.set0 (.int .i64 (S + x))).set1 (.int .i64 (R + y)))
      obtain ⟨vb, vo, rfl, v0⟩ : ∃ vb vo, a = some ⟨vb, vo, none⟩ ∧ W.cell? ⟨vb, vo + k, none⟩ = some (.int .i64 (ws.getD k 0)) := by
        obtain ⟨a', c', e, _, hh⟩ := WV.out
        simp only [Value.slice.injEq] at e
        rcases hh with h0 | ⟨vb, vo, e', _, hcc⟩
        · have := hn.out; omega
        · exact ⟨vb, vo, by rw [e.1, e'], hcc k (by rw [hn.out]; exact hlt)⟩
      generalize ws.getD k 0 = z at *
      obtain ⟨q0, q1, _, _, _⟩ := Q0.out
      obtain ⟨t0, t1, t2, t3, _⟩ := T7.out
      have d1 : decide (x < 0) = false := decide_eq_false (by omega)
      have d2 : decide (y < 0) = false := decide_eq_false (by omega)
      clear c0 c1
      by_cases hz : z = 0
      · obtain rfl := p2 hz
        obtain rfl := p1 rfl
        have d3 : (z == 0) = true := by simpa using hz
        simp only [Int.add_zero] at NX NU N0 N7 s1 s2
        go_wp2
        go_roundw
        case rel => exact ⟨k + 1, by omega, by go_num, NX, NU, N0, by rw [s1.out, s2.out]; exact N7⟩
        case measure => simp [intOf]; omega
      · have d3 : (z == 0) = false := by simpa using hz
        by_cases hy : y = 0
        · obtain rfl := hy
          obtain rfl := p1 rfl
          simp only [Int.add_zero] at NX NU N0 N7 s1 s2
          go_wp2
          go_roundw
          case rel => exact ⟨k + 1, by omega, by go_num, NX, NU, N0, by rw [s1.out, s2.out]; exact N7⟩
          case measure => simp [intOf]; omega
        · have d4 : (y == 0) = false := by simpa using hy
          go_wp2
          go_roundw
          case rel => exact ⟨k + 1, by omega, by go_num, NX, NU, N0, by rw [s1.out, s2.out]; exact N7⟩
          case measure => simp [intOf]; omega
    · obtain rfl : k = n := by omega
      have f1 := sm_full fA L
      have f2 := sm_full fM L
      rw [hl.out] at f1 f2
      rw [f1, f2, hL.out.sA, hL.out.sM] at T7
      obtain ⟨t0, t1, t2, t3, _⟩ := T7.out
      obtain ⟨r0, r1, _, _, _⟩ := T0.out
      go_wp2
      go_returns
      exact ⟨rfl, X.out⟩
theorem walk (A M : Int) (v : Value) (ws : List Int) (w : World) (_ : -9223372036854775808 ≤ A ∧ A ≤ 9223372036854775807) (_ : -9223372036854775808 ≤ M ∧ M ≤ 9223372036854775807) (hv : Ins w v ws) (_ : ∀ z ∈ ws, (Lit.int .i64 z).wf = true) :
    Calls Try.prog 6 #[.agg #[.int .i64 A, .int .i64 M], v] w fun e w' => e = .returned (.bool true) ∧ Below w.heap.size w w' := by
  obtain ⟨a, cap, rfl, hln, hh⟩ := id hv
  by_cases h70 : 70 < ws.length
  · exact long a _ cap A M ws w hv (decide_eq_true (by omega))
  · have C1 := fun W h => mxDv_any A M (.slice a ws.length cap) ws W h
    by_cases he : dvE A M ws = 0
    · rw [he] at C1
      exact good a _ cap A M ws _ w hv (decide_eq_false (by omega)) rfl (parts_of he).1 (parts_of he).2 (Lib.hid C1)
    · rw [show dvL A M ws = [] by unfold dvL; rw [if_pos he]] at C1
      exact bad a _ cap A M _ ws w hv (decide_eq_false (by omega)) (by rw [bne_iff_ne]; exact he) (Lib.hid C1)

set_option maxRecDepth 100000 in
theorem lifted (os : Os) (started : os.Started) (H : Type) (enc : TypeId × Value → H) :
    ReturnsInHanded {} Try.checked os 6 .any (Rows.mixPartsSpec.pre6 enc Try.prog Try.f6 Rows.mixPartsRow.domain false) (Rows.mixPartsSpec.post enc Try.prog Try.f6 false true false false) := by
  refine returnsInHanded_of_change (C := Try.checked) own started (by kernel_rfl) Try.func6
    (ChangeSpec.witness6 (enc := enc) (C := Try.checked) false ⟨#[], #[.agg #[.int .i64 0, .int .i64 0], .slice none 0 0], []⟩ 8 (by kernel_rfl) (by kernel_rfl) (by kernel_rfl) (by kernel_rfl)) ?_
  intro W base args ds gs before hval0 hW hcnd _
  have hval : ∀ (j : Nat) t v, Try.f6.params[j]? = some t → args[j]? = some v → Value.okWide Try.prog W .any base t v := hval0
  clear hval0
  have hW' := hW
  obtain ⟨p, q, hA0, hV, rfl, hfz, hnd⟩ := hW
  have hA : DataW.TrodAll enc Try.prog W 0 (fun _ => true) true Try.f6.params.toList args.toList ds p := hA0
  rw [Try.params6] at hA hval
  obtain ⟨v0, vs0, d0, ds0, p0, q0, hargs, rfl, rfl, h0, r0⟩ := trodAll_cons hA
  obtain ⟨v1, vs1, d1, ds1, p1, q1, rfl, rfl, rfl, h1, r1⟩ := trodAll_cons r0
  obtain ⟨rfl, rfl, rfl⟩ := trodAll_nil r1
  obtain rfl : args = #[v0, v1] := by cases args; simp_all
  obtain ⟨rfl, rfl⟩ := trodVars_none hV
  have k0 := h0
  have lt0 : ∀ x ∈ p0, x.block < W.heap.size := by obtain ⟨m, hm⟩ := k0; exact DataW.trod_lt m _ _ _ hm
  have k1 := h1
  have lt1 : ∀ x ∈ p1, x.block < W.heap.size := by obtain ⟨m, hm⟩ := k1; exact DataW.trod_lt m _ _ _ hm
  obtain ⟨y0, m0, rfl, wy0, wm0⟩ := open_liq (hval 0 24 v0 rfl rfl) h0
  obtain ⟨z1, w1, b1⟩ := open_intSlice Try.underlying25 Try.underlying3 (by kernel_rfl) (hval 1 25 v1 rfl rfl) h1
  clear hA0
  refine (walk y0 m0 v1 z1 W wy0 wm0 w1 b1).mono fun e W' ⟨he, bel⟩ => ?_
  subst he
  exact ⟨_, rfl, _, _, _, [], _, [], hW', trodAll_mk1 (shut_bool Try.underlying4 _), (trodAll_cons_mk (Below.trod laidOut (by kernel_rfl) (of_decide_eq_true (by kernel_rfl)) k0 bel lt0) (trodAll_cons_mk (Below.trod laidOut (by kernel_rfl) (of_decide_eq_true (by kernel_rfl)) k1 bel lt1) trodAll_mk0)), rfl, bel.frame _, fun h => by cases h⟩

theorem over : Rows.mixPartsRow.holds Try.pinned (OpenSpec.ofChange Rows.mixPartsSpec) :=
  OpenClaim.holds_of_wide 6 Try.f6 rfl rfl rfl rfl rfl rfl rfl ⟨rfl, rfl, rfl, rfl, rfl⟩ rfl rfl rfl rfl rfl (by kernel_rfl) Try.func6 (by kernel_rfl)
    (of_decide_eq_true (by kernel_rfl)) (by unfold Func.isWrapper; first | (rw [if_pos (by decide +kernel)]; kernel_rfl) | (rw [if_neg (by decide +kernel)]; exact ⟨rfl, rfl⟩))
    (fun os started H enc _ => lifted os started H enc)

theorem proved : Rows.MixPartsSaid := over
#print axioms proved
end Go.Proofs.Ytfkcgdnpfngdkaa.mixParts
