/- Texts that the proofs of this seat share, one behind the other: MC, Quad, LTA, LTB, LTC, LTD, LTE, LTF, LTG, LTH, LTI, LTJ, LTK, LRA2, LRB2, LRC2, LRD2, LRE2, LRF2, LRG2, LRH2, LRI2, LRJ2, LRK2. -/
import Derived.Test.YtmoeccghkpjbgaaM1
import Derived.BigQuiet
import Derived.Deep.RegionWith
import Derived.Maps.AppendAt
import Derived.Deep.Heap
import Derived.FnLit
import Derived.RangeFuncBox
import Derived.StillTailTactics
import Derived.Deep.QuietTactic

set_option linter.unusedVariables false
set_option linter.unusedSimpArgs false

/- Package mix: the mixture of plain liquids; Sum. -/
namespace Go.Proofs.Ytmoeccghkpjbgaa
open Go.RowKit

theorem Pts.other {W : World} {v : Value} {l : List (Int × Int)} (h : Pts W v l) (p : Addr) (hp : ∀ a n c, v = .slice (some a) n c → l.length = 0 ∨ a.block ≠ p.block) (z : Value) : Pts (W.setCell p z) v l := by
  obtain ⟨a, cap, rfl, hl, hh⟩ := h
  refine ⟨a, cap, rfl, hl, ?_⟩
  rcases hh with hh | ⟨b, off, rfl, hlt, hc⟩
  · exact .inl hh
  · rcases hp _ _ _ rfl with h0 | hn
    · exact .inl h0
    · refine .inr ⟨b, off, rfl, by simpa [World.setCell] using hlt, fun j hj => ?_⟩
      rw [World.cell?_setCell_other _ _ _ _ (by intro e; exact hn (by rw [e])), World.cell?_setCell_other _ _ _ _ (by intro e; exact hn (by rw [e]))]
      exact hc j hj
set_option maxHeartbeats 8000000 in
set_option maxRecDepth 100000 in
theorem mxMix_any (v : Value) (l : List (Int × Int)) (w : World) (hv : Pts w v l) (hn : l.length ≤ 8) (hp : allP l = true) :
    Calls Try.prog 85 #[v] w fun e w' => e = .returned (.agg #[.int .i64 (sm fA l), .int .i64 (sm fM l)]) ∧ Below w.heap.size w w' := by
  obtain ⟨a, cap, rfl, hcap, hh⟩ := hv
  have NV : Hid (Pts w (.slice a l.length cap) l) := ⟨a, cap, rfl, hcap, hh⟩
  have HBL : Hid (∀ b off n c, Value.slice a l.length cap = .slice (some ⟨b, off, none⟩) n c → l.length = 0 ∨ b < w.heap.size) := Lib.hid (by
    intro b off n c e
    simp only [Value.slice.injEq] at e
    rcases hh with h0 | ⟨b', off', e', hb, _⟩
    · exact .inl h0
    · rw [e.1] at e'; simp only [Option.some.injEq, Addr.mk.injEq] at e'; rw [e'.1]; exact .inr hb)
  clear hh hcap
  have HS := Lib.hid (sm_step fA l)
  have HT := Lib.hid (sm_step fM l)
  have FS := Lib.hid (sm_full fA l)
  have FT := Lib.hid (sm_full fM l)
  have HX := Lib.hid (fun k (hk : k < l.length) => plB_iff.1 (allP_at hp hk))
  have HY := Lib.hid (fun k => mix_bd (allP_take hp k))
  have HL := Lib.hid (fun k => List.length_take_le k l)
  generalize sm fA l = SA at *
  generalize sm fM l = SM at *
  generalize hN : l.length = n at *
  have HB : Hid (Below w.heap.size w ((w.alloc (.cells #[.int .i64 0, .int .i64 0] 41)).alloc (.cells #[.int .i64 0, .int .i64 0] 124))) := Lib.hid (bel_alloc (bel_alloc (Below.refl _ _)))
  have T0 : Hid (Two w.heap.size ((w.alloc (.cells #[.int .i64 0, .int .i64 0] 41)).alloc (.cells #[.int .i64 0, .int .i64 0] 124)) (.int .i64 0) (.int .i64 0)) := Lib.hid ((Two.new w _ _ _).alloc _)
  have T1 : Hid (Two (w.heap.size + 1) ((w.alloc (.cells #[.int .i64 0, .int .i64 0] 41)).alloc (.cells #[.int .i64 0, .int .i64 0] 124)) (.int .i64 0) (.int .i64 0)) := by
    have := Two.new (w.alloc (.cells #[.int .i64 0, .int .i64 0] 41)) (.int .i64 0) (.int .i64 0) 124
    rw [World.size_alloc] at this
    exact this
  replace NV : Hid (Pts ((w.alloc (.cells #[.int .i64 0, .int .i64 0] 41)).alloc (.cells #[.int .i64 0, .int .i64 0] 124)) (.slice a n cap) l) := Lib.hid ((NV.out.alloc _).alloc _)
  have qi0 : ∀ (u v : Value) (W : World), (Instr.index 124 (.agg #[u, v]) (.int .i64 0)).run Try.prog W = .ok u W := fun _ _ _ => by kernel_rfl
  have qi1 : ∀ (u v : Value) (W : World), (Instr.index 124 (.agg #[u, v]) (.int .i64 1)).run Try.prog W = .ok v W := fun _ _ _ => by kernel_rfl
  go_enter Try.func85, Try.ntmps85
  go_wp2_with fail
  go_loopw [10] (fun i wr => ∃ k : Nat, k ≤ n ∧ i = .int .i64 k ∧ Hid (Below w.heap.size w wr) ∧ Hid (Pts wr (.slice a n cap) l) ∧ Hid (Two w.heap.size wr (.int .i64 0) (.int .i64 0)) ∧ Hid (Two (w.heap.size + 1) wr (.int .i64 (sm fA (l.take k))) (.int .i64 (sm fM (l.take k))))) (fun i _ => n - (intOf i).toNat)
  case atStart => exact ⟨0, Nat.zero_le _, rfl, HB, NV, T0, T1⟩
  case round =>
    clear HB NV T0 T1
    obtain ⟨k, hk, rfl, HB, NV, T0, T1⟩ := hrel
    by_cases hlt : k < n
    · obtain ⟨b, off, rfl, hb, hc⟩ := NV.out.at (by omega)
      obtain ⟨c0, c1⟩ := hc k hlt
      clear hc
      have hbw : b < w.heap.size := by rcases HBL.out b off n cap rfl with h0 | h0 <;> omega
      have nb : ∀ j : Nat, ∀ a' n' c', Value.slice (some ⟨b, off, none⟩) n cap = .slice (some a') n' c' → l.length = 0 ∨ a'.block ≠ (⟨w.heap.size + 1, j, none⟩ : Addr).block := fun j a' n' c' e => by simp only [Value.slice.injEq, Option.some.injEq] at e; rw [← e.1]; exact .inr (by show b ≠ w.heap.size + 1; omega)
      clear HBL
      have x := HX.out k hlt
      have y := HY.out k
      have yl := HL.out k
      have S1 := Lib.hid (HS.out k hlt)
      have S2 := Lib.hid (HT.out k hlt)
      unfold fA at S1
      unfold fM at S2
      change Hid (sm fA (l.take (k + 1)) = sm fA (l.take k) + gX l k) at S1
      change Hid (sm fM (l.take (k + 1)) = sm fM (l.take k) + gR l k) at S2
      have bd : 0 ≤ sm fA (l.take k) ∧ sm fA (l.take k) ≤ 85899345920000 ∧ 0 ≤ sm fM (l.take k) ∧ sm fM (l.take k) ≤ 1030792151040000 := by omega
      clear y yl
      generalize gX l k = X at *
      generalize gR l k = Y at *
      generalize sm fA (l.take k) = S at *
      generalize sm fM (l.take k) = R at *
      have e1 : IntKind.i64.wrap (S + X) = S + X := wrap_in _ ⟨by omega, by omega⟩
      have e2 : IntKind.i64.wrap (R + Y) = R + Y := wrap_in _ ⟨by omega, by omega⟩
      have l9 : (k : Int) < (n : Int) := by omega
      have X1 : Hid (Below w.heap.size w (wr.alloc (.cells #[.int .i64 X, .int .i64 Y] 41))) := Lib.hid (bel_trans HB.out (bel_alloc (Below.refl _ _)))
      replace NV := Lib.hid (NV.out.alloc (.cells #[.int .i64 X, .int .i64 Y] 41))
      replace T0 := Lib.hid (T0.out.alloc (.cells #[.int .i64 X, .int .i64 Y] 41))
      replace T1 := Lib.hid (T1.out.alloc (.cells #[.int .i64 X, .int .i64 Y] 41))
      clear HB
      go_wp2_with fail
      go_loopw [19] (fun i wi => ((i = .int .i64 0 ∧ Hid (Two (w.heap.size + 1) wi (.int .i64 S) (.int .i64 R))) ∨ (i = .int .i64 1 ∧ Hid (Two (w.heap.size + 1) wi (.int .i64 (S + X)) (.int .i64 R))) ∨ (i = .int .i64 2 ∧ Hid (Two (w.heap.size + 1) wi (.int .i64 (S + X)) (.int .i64 (R + Y))))) ∧ Hid (Below w.heap.size w wi) ∧ Hid (Pts wi (.slice (some ⟨b, off, none⟩) n cap) l) ∧ Hid (Two w.heap.size wi (.int .i64 0) (.int .i64 0))) (fun i _ => 2 - (intOf i).toNat)
      case atStart => exact ⟨.inl ⟨rfl, T1⟩, X1, NV, T0⟩
      case round =>
        clear X1 NV T0 T1 c0 c1
        obtain ⟨hi, X1, NV, T0⟩ := hrel
        have ne1 : w.heap.size + 1 ≠ w.heap.size := by omega
        rcases hi with ⟨rfl, T1⟩ | ⟨rfl, T1⟩ | ⟨rfl, T1⟩
        · obtain ⟨t0, t1, t2, t3, t4⟩ := T1.out
          have N1 := Lib.hid (T1.out.set0 (.int .i64 (S + X)))
          have N0 := Lib.hid (T0.out.other ⟨w.heap.size + 1, 0, none⟩ ne1 (.int .i64 (S + X)))
          go_wp2
          go_roundw
          case rel => exact ⟨.inr (.inl ⟨by go_num, N1⟩), Lib.hid (X1.out.setCell (by show _ ≤ w.heap.size + 1; omega) _), Lib.hid (NV.out.other ⟨w.heap.size + 1, 0, none⟩ (nb 0) _), N0⟩
          case measure => simp [intOf]
        · obtain ⟨t0, t1, t2, t3, t4⟩ := T1.out
          have N1 := Lib.hid (T1.out.set1 (.int .i64 (R + Y)))
          have N0 := Lib.hid (T0.out.other ⟨w.heap.size + 1, 1, none⟩ ne1 (.int .i64 (R + Y)))
          go_wp2
          go_roundw
          case rel => exact ⟨.inr (.inr ⟨by go_num, N1⟩), Lib.hid (X1.out.setCell (by show _ ≤ w.heap.size + 1; omega) _), Lib.hid (NV.out.other ⟨w.heap.size + 1, 1, none⟩ (nb 1) _), N0⟩
          case measure => simp [intOf]
        · go_wp2
          go_roundw
          case rel => exact ⟨k + 1, by omega, by go_num, X1, NV, T0, by rw [S1.out, S2.out]; exact T1⟩
          case measure => simp [intOf]; omega
    · obtain rfl : k = n := by omega
      rw [FS.out, FT.out] at T1
      obtain ⟨t0, t1, t2, t3, t4⟩ := T1.out
      obtain ⟨z0, z1, z2, z3, z4⟩ := T0.out
      go_wp2
      obtain ⟨r0, r1⟩ := two_read wr w.heap.size (.int .i64 SA) (.int .i64 SM) z0 z1
      refine bodyPost_ret (v := .agg #[.int .i64 SA, .int .i64 SM]) (by simp [results, Try.results85, go_sem, r0, r1]) rfl ?_
      exact ⟨rfl, (HB.out.setCell (Nat.le_refl _) _).setCell (Nat.le_refl _) _⟩
set_option maxHeartbeats 8000000 in
set_option maxRecDepth 100000 in
theorem mxSu_long (a : Option Addr) (n cap : Nat) (w : World) (h : 8 < n) (hn : n ≤ 9223372036854775807) :
    Calls Try.prog 65 #[.slice a n cap] w fun e w' => e = .returned (.tuple #[.agg #[.int .i64 0, .int .i64 0], .int .i64 8]) ∧ Below w.heap.size w w' := by
  have q : decide (8 < (n : Int)) = true := decide_eq_true (by omega)
  have X := Lib.hid (bel_alloc (w := w) (o := .cells #[.int .i64 0, .int .i64 0] 41) (Below.refl _ _))
  go_enter Try.func65, Try.ntmps65
  go_wp2
  go_returns
  exact ⟨rfl, by go_grown⟩
set_option maxHeartbeats 16000000 in
set_option maxRecDepth 100000 in
theorem mxSu_bad (a : Option Addr) (n cap m : Nat) (l : List (Int × Int)) (w : World) (NV : Hid (Pts w (.slice a n cap) l)) (hn : n ≤ 8) (hm : m < n) (hp : Hid (∀ j, j < m → plB (gX l j) (gR l j) = true)) (hq : plB (gX l m) (gR l m) = false) :
    Calls Try.prog 65 #[.slice a n cap] w fun e w' => e = .returned (.tuple #[.agg #[.int .i64 0, .int .i64 0], .int .i64 1]) ∧ Below w.heap.size w w' := by
  have q : decide (8 < (n : Int)) = false := decide_eq_false (by omega)
  have X := Lib.hid (bel_alloc (w := w) (o := .cells #[.int .i64 0, .int .i64 0] 41) (Below.refl _ _))
  have T0 := Lib.hid (Two.new w (.int .i64 0) (.int .i64 0) 41)
  replace NV := Lib.hid (NV.out.alloc (.cells #[.int .i64 0, .int .i64 0] 41))
  go_enter Try.func65, Try.ntmps65
  go_wp2_with fail
  go_loopw [13] (fun i wr => ∃ k : Nat, k ≤ m ∧ i = .int .i64 k ∧ Hid (Below w.heap.size w wr) ∧ Hid (Pts wr (.slice a n cap) l) ∧ Hid (Two w.heap.size wr (.int .i64 0) (.int .i64 0))) (fun i _ => n - (intOf i).toNat)
  case atStart => exact ⟨0, Nat.zero_le _, rfl, X, NV, T0⟩
  case round =>
    clear X NV T0
    obtain ⟨k, hk, rfl, X, NV, T0⟩ := hrel
    by_cases hlt : k < m
    · have HP := Lib.hid (fun W => mxPl_any (gX l k) (gR l k) W)
      rw [hp.out k hlt] at HP
      have l9 : (k : Int) < (n : Int) := by omega
      obtain ⟨b, off, rfl, hb, hc⟩ := NV.out.at (by omega)
      obtain ⟨c0, c1⟩ := hc k (by omega)
      clear hc
      generalize gX l k = x at *
      generalize gR l k = y at *
      have P0 := Lib.hid (Two.new wr (.int .i64 x) (.int .i64 y) 41)
      replace X := Lib.hid (bel_trans X.out (bel_alloc (o := .cells #[.int .i64 x, .int .i64 y] 41) (Below.refl _ _)))
      replace NV := Lib.hid (NV.out.alloc (.cells #[.int .i64 x, .int .i64 y] 41))
      replace T0 := Lib.hid (T0.out.alloc (.cells #[.int .i64 x, .int .i64 y] 41))
      obtain ⟨p0, p1, _, _, _⟩ := P0.out
      go_wp2_with fail
      refine (HP.out _).mono ?_
      rintro e w3 ⟨rfl, hb⟩
      replace X := Lib.hid (bel_trans X.out hb)
      replace NV := Lib.hid (NV.out.below hb)
      replace T0 := Lib.hid (T0.out.below hb)
      clear hb
      go_wp2
      go_roundw
      case rel => exact ⟨k + 1, by omega, by go_num, X, NV, T0⟩
      case measure => simp [intOf]; omega
    · obtain rfl : k = m := by omega
      have HP := Lib.hid (fun W => mxPl_any (gX l k) (gR l k) W)
      rw [hq] at HP
      clear hp hq
      have l9 : (k : Int) < (n : Int) := by omega
      obtain ⟨b, off, rfl, hb, hc⟩ := NV.out.at (by omega)
      obtain ⟨c0, c1⟩ := hc k (by omega)
      clear hc
      generalize gX l k = x at *
      generalize gR l k = y at *
      have P0 := Lib.hid (Two.new wr (.int .i64 x) (.int .i64 y) 41)
      replace X := Lib.hid (bel_trans X.out (bel_alloc (o := .cells #[.int .i64 x, .int .i64 y] 41) (Below.refl _ _)))
      replace T0 := Lib.hid (T0.out.alloc (.cells #[.int .i64 x, .int .i64 y] 41))
      obtain ⟨p0, p1, _, _, _⟩ := P0.out
      go_wp2_with fail
      refine (HP.out _).mono ?_
      rintro e w3 ⟨rfl, hb⟩
      replace X := Lib.hid (bel_trans X.out hb)
      replace T0 := Lib.hid (T0.out.below hb)
      clear hb
      obtain ⟨z0, z1, z2, z3, z4⟩ := T0.out
      go_wp2
      obtain ⟨r0, r1⟩ := two_read w3 w.heap.size (.int .i64 0) (.int .i64 0) z0 z1
      refine bodyPost_ret (v := .tuple #[.agg #[.int .i64 0, .int .i64 0], .int .i64 1]) (by simp [results, Try.results65, go_sem, r0, r1]) rfl ?_
      exact ⟨rfl, (X.out.setCell (Nat.le_refl _) _).setCell (Nat.le_refl _) _⟩
set_option maxHeartbeats 16000000 in
set_option maxRecDepth 100000 in
theorem mxSu_over (a : Option Addr) (n cap : Nat) (l : List (Int × Int)) (w : World) (NV : Hid (Pts w (.slice a n cap) l)) (hn : n ≤ 8) (hl : Hid (l.length = n)) (ha : allP l = true) (hp : Hid (∀ j, j < n → plB (gX l j) (gR l j) = true)) (hB : plB (sm fA l) (sm fM l) = false) :
    Calls Try.prog 65 #[.slice a n cap] w fun e w' => e = .returned (.tuple #[.agg #[.int .i64 0, .int .i64 0], .int .i64 15]) ∧ Below w.heap.size w w' := by
  have q : decide (8 < (n : Int)) = false := decide_eq_false (by omega)
  have X := Lib.hid (bel_alloc (w := w) (o := .cells #[.int .i64 0, .int .i64 0] 41) (Below.refl _ _))
  have T0 := Lib.hid (Two.new w (.int .i64 0) (.int .i64 0) 41)
  replace NV := Lib.hid (NV.out.alloc (.cells #[.int .i64 0, .int .i64 0] 41))
  go_enter Try.func65, Try.ntmps65
  go_wp2_with fail
  go_loopw [13] (fun i wr => ∃ k : Nat, k ≤ n ∧ i = .int .i64 k ∧ Hid (Below w.heap.size w wr) ∧ Hid (Pts wr (.slice a n cap) l) ∧ Hid (Two w.heap.size wr (.int .i64 0) (.int .i64 0))) (fun i _ => n - (intOf i).toNat)
  case atStart => exact ⟨0, Nat.zero_le _, rfl, X, NV, T0⟩
  case round =>
    clear X NV T0
    obtain ⟨k, hk, rfl, X, NV, T0⟩ := hrel
    by_cases hlt : k < n
    · have HP := Lib.hid (fun W => mxPl_any (gX l k) (gR l k) W)
      rw [hp.out k hlt] at HP
      have l9 : (k : Int) < (n : Int) := by omega
      obtain ⟨b, off, rfl, hb, hc⟩ := NV.out.at (by omega)
      obtain ⟨c0, c1⟩ := hc k (by omega)
      clear hc
      generalize gX l k = x at *
      generalize gR l k = y at *
      have P0 := Lib.hid (Two.new wr (.int .i64 x) (.int .i64 y) 41)
      replace X := Lib.hid (bel_trans X.out (bel_alloc (o := .cells #[.int .i64 x, .int .i64 y] 41) (Below.refl _ _)))
      replace NV := Lib.hid (NV.out.alloc (.cells #[.int .i64 x, .int .i64 y] 41))
      replace T0 := Lib.hid (T0.out.alloc (.cells #[.int .i64 x, .int .i64 y] 41))
      obtain ⟨p0, p1, _, _, _⟩ := P0.out
      go_wp2_with fail
      refine (HP.out _).mono ?_
      rintro e w3 ⟨rfl, hb⟩
      replace X := Lib.hid (bel_trans X.out hb)
      replace NV := Lib.hid (NV.out.below hb)
      replace T0 := Lib.hid (T0.out.below hb)
      clear hb
      go_wp2
      go_roundw
      case rel => exact ⟨k + 1, by omega, by go_num, X, NV, T0⟩
      case measure => simp [intOf]; omega
    · obtain rfl : k = n := by omega
      have HM := Lib.hid (fun W h => mxMix_any (.slice a k cap) l W h (by rw [hl.out]; exact hn) ha)
      have HP := Lib.hid (fun W => mxPl_any (sm fA l) (sm fM l) W)
      rw [hB] at HP
      generalize sm fA l = x at *
      generalize sm fM l = y at *
      go_wp2_with fail
      refine (HM.out _ NV.out).mono ?_
      rintro e w3 ⟨rfl, hb⟩
      have P0 := Lib.hid (Two.new w3 (.int .i64 x) (.int .i64 y) 41)
      replace X := Lib.hid (bel_trans (bel_trans X.out hb) (bel_alloc (o := .cells #[.int .i64 x, .int .i64 y] 41) (Below.refl _ _)))
      replace T0 := Lib.hid ((T0.out.below hb).alloc (.cells #[.int .i64 x, .int .i64 y] 41))
      clear hb
      obtain ⟨p0, p1, _, _, _⟩ := P0.out
      go_wp2_with fail
      refine (HP.out _).mono ?_
      rintro e w4 ⟨rfl, hb⟩
      replace P0 := Lib.hid (P0.out.below hb)
      replace X := Lib.hid (bel_trans X.out hb)
      replace T0 := Lib.hid (T0.out.below hb)
      clear hb p0 p1
      obtain ⟨p0, p1, _, _, _⟩ := P0.out
      obtain ⟨z0, z1, z2, z3, z4⟩ := T0.out
      go_wp2
      obtain ⟨r0, r1⟩ := two_read w4 w.heap.size (.int .i64 0) (.int .i64 0) z0 z1
      refine bodyPost_ret (v := .tuple #[.agg #[.int .i64 0, .int .i64 0], .int .i64 15]) (by simp [results, Try.results65, go_sem, r0, r1]) rfl ?_
      exact ⟨rfl, (X.out.setCell (Nat.le_refl _) _).setCell (Nat.le_refl _) _⟩
set_option maxHeartbeats 16000000 in
set_option maxRecDepth 100000 in
theorem mxSu_ok (a : Option Addr) (n cap : Nat) (l : List (Int × Int)) (w : World) (NV : Hid (Pts w (.slice a n cap) l)) (hn : n ≤ 8) (hl : Hid (l.length = n)) (ha : allP l = true) (hp : Hid (∀ j, j < n → plB (gX l j) (gR l j) = true)) (hB : plB (sm fA l) (sm fM l) = true) :
    Calls Try.prog 65 #[.slice a n cap] w fun e w' => e = .returned (.tuple #[.agg #[.int .i64 (sm fA l), .int .i64 (sm fM l)], .int .i64 0]) ∧ Below w.heap.size w w' := by
  have q : decide (8 < (n : Int)) = false := decide_eq_false (by omega)
  have X := Lib.hid (bel_alloc (w := w) (o := .cells #[.int .i64 0, .int .i64 0] 41) (Below.refl _ _))
  have T0 := Lib.hid (Two.new w (.int .i64 0) (.int .i64 0) 41)
  replace NV := Lib.hid (NV.out.alloc (.cells #[.int .i64 0, .int .i64 0] 41))
  go_enter Try.func65, Try.ntmps65
  go_wp2_with fail
  go_loopw [13] (fun i wr => ∃ k : Nat, k ≤ n ∧ i = .int .i64 k ∧ Hid (Below w.heap.size w wr) ∧ Hid (Pts wr (.slice a n cap) l) ∧ Hid (Two w.heap.size wr (.int .i64 0) (.int .i64 0))) (fun i _ => n - (intOf i).toNat)
  case atStart => exact ⟨0, Nat.zero_le _, rfl, X, NV, T0⟩
  case round =>
    clear X NV T0
    obtain ⟨k, hk, rfl, X, NV, T0⟩ := hrel
    by_cases hlt : k < n
    · have HP := Lib.hid (fun W => mxPl_any (gX l k) (gR l k) W)
      rw [hp.out k hlt] at HP
      have l9 : (k : Int) < (n : Int) := by omega
      obtain ⟨b, off, rfl, hb, hc⟩ := NV.out.at (by omega)
      obtain ⟨c0, c1⟩ := hc k (by omega)
      clear hc
      generalize gX l k = x at *
      generalize gR l k = y at *
      have P0 := Lib.hid (Two.new wr (.int .i64 x) (.int .i64 y) 41)
      replace X := Lib.hid (bel_trans X.out (bel_alloc (o := .cells #[.int .i64 x, .int .i64 y] 41) (Below.refl _ _)))
      replace NV := Lib.hid (NV.out.alloc (.cells #[.int .i64 x, .int .i64 y] 41))
      replace T0 := Lib.hid (T0.out.alloc (.cells #[.int .i64 x, .int .i64 y] 41))
      obtain ⟨p0, p1, _, _, _⟩ := P0.out
      go_wp2_with fail
      refine (HP.out _).mono ?_
      rintro e w3 ⟨rfl, hb⟩
      replace X := Lib.hid (bel_trans X.out hb)
      replace NV := Lib.hid (NV.out.below hb)
      replace T0 := Lib.hid (T0.out.below hb)
      clear hb
      go_wp2
      go_roundw
      case rel => exact ⟨k + 1, by omega, by go_num, X, NV, T0⟩
      case measure => simp [intOf]; omega
    · obtain rfl : k = n := by omega
      have HM := Lib.hid (fun W h => mxMix_any (.slice a k cap) l W h (by rw [hl.out]; exact hn) ha)
      have HP := Lib.hid (fun W => mxPl_any (sm fA l) (sm fM l) W)
      rw [hB] at HP
      generalize hx : sm fA l = x at *
      generalize hy : sm fM l = y at *
      replace hx := Lib.hid hx
      replace hy := Lib.hid hy
      go_wp2_with fail
      refine (HM.out _ NV.out).mono ?_
      rintro e w3 ⟨rfl, hb⟩
      have P0 := Lib.hid (Two.new w3 (.int .i64 x) (.int .i64 y) 41)
      replace X := Lib.hid (bel_trans (bel_trans X.out hb) (bel_alloc (o := .cells #[.int .i64 x, .int .i64 y] 41) (Below.refl _ _)))
      replace T0 := Lib.hid ((T0.out.below hb).alloc (.cells #[.int .i64 x, .int .i64 y] 41))
      clear hb
      obtain ⟨p0, p1, _, _, _⟩ := P0.out
      go_wp2_with fail
      refine (HP.out _).mono ?_
      rintro e w4 ⟨rfl, hb⟩
      replace P0 := Lib.hid (P0.out.below hb)
      replace X := Lib.hid (bel_trans X.out hb)
      replace T0 := Lib.hid (T0.out.below hb)
      clear hb p0 p1
      obtain ⟨p0, p1, _, _, _⟩ := P0.out
      obtain ⟨z0, z1, z2, z3, z4⟩ := T0.out
      go_wp2
      obtain ⟨r0, r1⟩ := two_read w4 w.heap.size (.int .i64 x) (.int .i64 y) z0 z1
      refine bodyPost_ret (v := .tuple #[.agg #[.int .i64 x, .int .i64 y], .int .i64 0]) (by simp [results, Try.results65, go_sem, r0, r1]) rfl ?_
      exact ⟨by rw [hx.out, hy.out], (X.out.setCell (Nat.le_refl _) _).setCell (Nat.le_refl _) _⟩
theorem mxSu_any (v : Value) (l : List (Int × Int)) (w : World) (hv : Pts w v l) :
    Calls Try.prog 65 #[v] w fun e w' => e = .returned (.tuple #[.agg #[.int .i64 (suA l), .int .i64 (suM l)], .int .i64 (suE l)]) ∧ Below w.heap.size w w' := by
  obtain ⟨a, cap, rfl, hcap, hh⟩ := id hv
  unfold suA suM
  by_cases h : 8 < l.length
  · have e : suE l = 8 := by unfold suE; rw [if_pos h]
    rw [e]; exact mxSu_long a _ cap w h (by omega)
  · cases ha : allP l with
    | false =>
      have e : suE l = 1 := by unfold suE; rw [if_neg h, if_pos ha]
      obtain ⟨k, hk, h1, h2⟩ := allP_bad ha
      rw [e]; exact mxSu_bad a _ cap k l w hv (by omega) hk h2 h1
    | true =>
      cases hB : plB (sm fA l) (sm fM l) with
      | false =>
        have e : suE l = 15 := by unfold suE; rw [if_neg h, if_neg (by simp [ha]), if_pos hB]
        rw [e]; exact mxSu_over a _ cap l w hv (by omega) rfl ha (fun j hj => allP_at ha hj) hB
      | true =>
        have e : suE l = 0 := suE_zero.2 ⟨by omega, ha, hB⟩
        rw [e]; exact mxSu_ok a _ cap l w hv (by omega) rfl ha (fun j hj => allP_at ha hj) hB
end Go.Proofs.Ytmoeccghkpjbgaa

/- A block with four cells. -/
namespace Go.Proofs.Ytmoeccghkpjbgaa
open Go.RowKit

def Quad (b : Nat) (W : World) (x y z u : Value) : Prop := W.cell? ⟨b, 0, none⟩ = some x ∧ W.cell? ⟨b, 1, none⟩ = some y ∧ W.cell? ⟨b, 2, none⟩ = some z ∧ W.cell? ⟨b, 3, none⟩ = some u ∧ (∀ k, k < 4 → W.frozen? ⟨b, k, none⟩ = false) ∧ b < W.heap.size
theorem Quad.below {b : Nat} {W W' : World} {x y z u : Value} (h : Quad b W x y z u) (hb : Below W.heap.size W W') : Quad b W' x y z u := by
  obtain ⟨h0, h1, h2, h3, h4, h5⟩ := h
  exact ⟨by rw [(bcell hb).1 _ _ h5]; exact h0, by rw [(bcell hb).1 _ _ h5]; exact h1, by rw [(bcell hb).1 _ _ h5]; exact h2, by rw [(bcell hb).1 _ _ h5]; exact h3, fun k hk => by rw [(bcell hb).2 _ _ h5]; exact h4 k hk, Nat.lt_of_lt_of_le h5 hb.size⟩
theorem Quad.alloc {b : Nat} {W : World} {x y z u : Value} (h : Quad b W x y z u) (o : Obj) : Quad b (W.alloc o) x y z u := h.below (bel_alloc (Below.refl _ _))
theorem Quad.new (W : World) (x y z u : Value) (T : TypeId) : Quad W.heap.size (W.alloc (.cells #[x, y, z, u] T)) x y z u :=
  ⟨by simp [go_sem], by simp [go_sem], by simp [go_sem], by simp [go_sem], fun k _ => by simp [go_sem], by simp⟩
theorem quad_read (w : World) (b : Nat) (x y z u : Value) {a0 a1 a2 a3 : Value} (h0 : w.cell? ⟨b, 0, none⟩ = some a0) (h1 : w.cell? ⟨b, 1, none⟩ = some a1) (h2 : w.cell? ⟨b, 2, none⟩ = some a2) (h3 : w.cell? ⟨b, 3, none⟩ = some a3) :
    ((((w.setCell ⟨b, 0, none⟩ x).setCell ⟨b, 1, none⟩ y).setCell ⟨b, 2, none⟩ z).setCell ⟨b, 3, none⟩ u).cell? ⟨b, 0, none⟩ = some x ∧ ((((w.setCell ⟨b, 0, none⟩ x).setCell ⟨b, 1, none⟩ y).setCell ⟨b, 2, none⟩ z).setCell ⟨b, 3, none⟩ u).cell? ⟨b, 1, none⟩ = some y ∧ ((((w.setCell ⟨b, 0, none⟩ x).setCell ⟨b, 1, none⟩ y).setCell ⟨b, 2, none⟩ z).setCell ⟨b, 3, none⟩ u).cell? ⟨b, 2, none⟩ = some z ∧ ((((w.setCell ⟨b, 0, none⟩ x).setCell ⟨b, 1, none⟩ y).setCell ⟨b, 2, none⟩ z).setCell ⟨b, 3, none⟩ u).cell? ⟨b, 3, none⟩ = some u := by
  have o : ∀ (W : World) (i j : Nat) (v : Value), i ≠ j → (W.setCell ⟨b, j, none⟩ v).cell? ⟨b, i, none⟩ = W.cell? ⟨b, i, none⟩ := fun W i j v h => World.cell?_setCell_other _ _ _ _ (by simp)
  refine ⟨?_, ?_, ?_, ?_⟩
  · rw [o _ 0 3 _ (by decide), o _ 0 2 _ (by decide), o _ 0 1 _ (by decide)]; exact World.cell?_setCell_same _ _ _ h0
  · rw [o _ 1 3 _ (by decide), o _ 1 2 _ (by decide)]; exact World.cell?_setCell_same (u := a1) _ _ _ (by rw [o _ 1 0 _ (by decide)]; exact h1)
  · rw [o _ 2 3 _ (by decide)]; exact World.cell?_setCell_same (u := a2) _ _ _ (by rw [o _ 2 1 _ (by decide), o _ 2 0 _ (by decide)]; exact h2)
  · exact World.cell?_setCell_same (u := a3) _ _ _ (by rw [o _ 3 2 _ (by decide), o _ 3 1 _ (by decide), o _ 3 0 _ (by decide)]; exact h3)
end Go.Proofs.Ytmoeccghkpjbgaa

/- Lots: values that read as lots; the first fault of lots. -/
namespace Go.Proofs.Ytmoeccghkpjbgaa
open Go.RowKit

structure Lt where
  id : Int
  al : Int
  ms : Int
  sh : List (Int × Int)
def zL : Lt := ⟨0, 0, 0, []⟩
def gL (l : List Lt) (j : Nat) : Lt := l.getD j zL
/-- the cells of a lot -/
def LtAt (w : World) (b off : Nat) (c : Lt) : Prop :=
  ∃ a cap, w.cell? ⟨b, off, none⟩ = some (.int .i64 c.id) ∧ w.cell? ⟨b, off + 1, none⟩ = some (.int .i64 c.al) ∧ w.cell? ⟨b, off + 2, none⟩ = some (.int .i64 c.ms) ∧ w.cell? ⟨b, off + 3, none⟩ = some (.slice a c.sh.length cap) ∧ Pts w (.slice a c.sh.length cap) c.sh
theorem LtAt.below {w w' : World} {b off : Nat} {c : Lt} (h : LtAt w b off c) (hlt : b < w.heap.size) (hb : Below w.heap.size w w') : LtAt w' b off c := by
  obtain ⟨a, cap, g0, g1, g2, g3, hp⟩ := h
  exact ⟨a, cap, by rw [(bcell hb).1 _ _ hlt]; exact g0, by rw [(bcell hb).1 _ _ hlt]; exact g1, by rw [(bcell hb).1 _ _ hlt]; exact g2, by rw [(bcell hb).1 _ _ hlt]; exact g3, hp.below hb⟩
/-- a slice reads as a list of lots -/
def Lts (w : World) (v : Value) (l : List Lt) : Prop :=
  ∃ a cap, v = .slice a l.length cap ∧ (l.length ≤ cap ∧ cap ≤ 9223372036854775807) ∧
    (l.length = 0 ∨ ∃ b off, a = some ⟨b, off, none⟩ ∧ b < w.heap.size ∧ ∀ j, j < l.length → LtAt w b (off + j * 4) (gL l j))
theorem Lts.below {w w' : World} {v : Value} {l : List Lt} (h : Lts w v l) (hb : Below w.heap.size w w') : Lts w' v l := by
  obtain ⟨a, cap, rfl, hl, h | ⟨b, off, rfl, hlt, hc⟩⟩ := h
  · exact ⟨a, cap, rfl, hl, .inl h⟩
  · exact ⟨_, cap, rfl, hl, .inr ⟨b, off, rfl, Nat.lt_of_lt_of_le hlt hb.size, fun j hj => (hc j hj).below hlt hb⟩⟩
theorem Lts.alloc {w : World} {v : Value} {l : List Lt} (h : Lts w v l) (o : Obj) : Lts (w.alloc o) v l := h.below (bel_alloc (Below.refl _ _))
theorem Lts.shape {W : World} {v : Value} {l : List Lt} (h : Lts W v l) : ∃ a cap, v = .slice a l.length cap ∧ l.length ≤ cap ∧ cap ≤ 9223372036854775807 := by
  obtain ⟨a, cap, e, ⟨h1, h2⟩, _⟩ := h
  exact ⟨a, cap, e, h1, h2⟩
theorem Lts.at {W : World} {a : Option Addr} {n cap : Nat} {l : List Lt} (h : Lts W (.slice a n cap) l) (h0 : 0 < n) : ∃ b off, a = some ⟨b, off, none⟩ ∧ b < W.heap.size ∧ n = l.length ∧ ∀ j, j < n → LtAt W b (off + j * 4) (gL l j) := by
  obtain ⟨a', cap', e, hl, hh⟩ := h
  simp only [Value.slice.injEq] at e
  obtain ⟨rfl, rfl, rfl⟩ := e
  rcases hh with hh | ⟨b, off, e, hb, hc⟩
  · omega
  · exact ⟨b, off, e, hb, rfl, hc⟩
theorem lts_nil (w : World) : Lts w (.slice none 0 0) [] := ⟨none, 0, rfl, by simp, .inl rfl⟩
/-! ### faults -/
def idB (n : Int) : Bool := decide (1 ≤ n) && decide (n ≤ 1073741824)
theorem idB_iff {n : Int} : idB n = true ↔ 1 ≤ n ∧ n ≤ 1073741824 := by simp [idB]
/-- the fill before a share -/
def pvF (s : List (Int × Int)) (k : Nat) : Int := if k = 0 then 0 else gX s (k - 1)
/-- a share is wrong -/
def shB (s : List (Int × Int)) (k : Nat) : Bool := !idB (gX s k) || decide (gX s k ≤ pvF s k) || decide (gR s k < 1) || decide (10737418240000 < gR s k)
theorem shB_false {s : List (Int × Int)} {k : Nat} : shB s k = false ↔ (1 ≤ gX s k ∧ gX s k ≤ 1073741824) ∧ pvF s k < gX s k ∧ 1 ≤ gR s k ∧ gR s k ≤ 10737418240000 := by
  simp only [shB, Bool.or_eq_false_iff, Bool.not_eq_false', idB_iff, decide_eq_false_iff_not]
  omega
/-- all shares are right, whatever there are -/
def shO (s : List (Int × Int)) : Bool := decide (fst (shB s) s.length = s.length)
theorem shO_iff {s : List (Int × Int)} : shO s = true ↔ ∀ k, k < s.length → shB s k = false := by
  unfold shO
  rw [decide_eq_true_eq]
  obtain ⟨s1, s2⟩ := fst_spec (shB s) s.length
  have le := fst_le (shB s) s.length
  constructor
  · intro e k hk; exact s1 k (by omega)
  · intro h
    rcases Nat.lt_or_ge (fst (shB s) s.length) s.length with g | g
    · have := s2 g; rw [h _ g] at this; cases this
    · omega
theorem shO_false {s : List (Int × Int)} (h : shO s = false) : ∃ k, k < s.length ∧ shB s k = true ∧ ∀ j, j < k → shB s j = false := by
  obtain ⟨s1, s2⟩ := fst_spec (shB s) s.length
  have le := fst_le (shB s) s.length
  have : fst (shB s) s.length ≠ s.length := by unfold shO at h; exact of_decide_eq_false h
  exact ⟨_, by omega, s2 (by omega), s1⟩
theorem shO_bd {s : List (Int × Int)} (h : shO s = true) (k : Nat) : 0 ≤ sm fM (s.take k) ∧ sm fM (s.take k) ≤ 10737418240000 * k := by
  have := sm_bd (f := fM) (c := 10737418240000) (s.take k) (fun q hq => by
    obtain ⟨i, hi, e⟩ := List.getElem_of_mem (List.mem_of_mem_take hq)
    have := (shB_false.1 (shO_iff.1 h i hi)).2.2
    unfold fM
    simp [gR, List.getD_eq_getElem?_getD, List.getElem?_eq_getElem hi, e] at this
    omega)
  have hl := List.length_take_le k s
  omega
/-- a liquid is plain and has a mass -/
def fiB (A M : Int) : Bool := plB A M && decide (0 < M)
def ltF (x : Lt) (bef : Int) : Int := if idB x.id = false then 2 else if x.id ≤ bef then 5 else if fiB x.al x.ms = false then 1 else if 32 < x.sh.length then 12 else if shO x.sh = false then 10 else if sm fM x.sh ≠ x.al then 14 else 0
/-- the ID before a lot -/
def pvI (l : List Lt) (k : Nat) : Int := if k = 0 then 0 else (gL l (k - 1)).id
def ltK (l : List Lt) : Nat := fst (fun k => ltF (gL l k) (pvI l k) != 0) l.length
def ltE (l : List Lt) : Int := if 32 < l.length then 8 else if ltK l < l.length then ltF (gL l (ltK l)) (pvI l (ltK l)) else 0
def ltI (l : List Lt) : Int := if 32 < l.length then -1 else if ltK l < l.length then (ltK l : Int) else -1
end Go.Proofs.Ytmoeccghkpjbgaa

/- Package lot: IDs, filled liquids, shares. -/
namespace Go.Proofs.Ytmoeccghkpjbgaa
open Go.RowKit

theorem ltId_any (n : Int) (w : World) :
    Calls Try.prog 64 #[.int .i64 n] w fun e w' => e = .returned (.bool (idB n)) ∧ w' = w := by
  unfold idB
  by_cases h : 1 ≤ n
  · have d : decide (1 ≤ n) = true := decide_eq_true h
    rw [d, Bool.true_and]
    clear h
    generalize hB : decide (n ≤ 1073741824) = B
    go_enter Try.func64, Try.ntmps64
    go_wp2
    go_returns
    exact ⟨rfl, rfl⟩
  · have d : decide (1 ≤ n) = false := decide_eq_false h
    rw [d, Bool.false_and]
    clear h
    go_enter Try.func64, Try.ntmps64
    go_wp2
    go_returns
    exact ⟨rfl, rfl⟩
theorem pts_litT (T : TypeId) (w : World) (l : List (Int × Int)) (cs : List Value) (h : cs = flat l) (hn : l.length ≤ 1000) :
    Pts (w.alloc (.cells cs.toArray T)) (.slice (some ⟨w.heap.size, 0, none⟩) l.length l.length) l := by
  refine ⟨_, _, rfl, by omega, .inr ⟨w.heap.size, 0, rfl, by simp, fun j hj => ?_⟩⟩
  subst h
  have hf := flat_at l j hj
  have hl := flat_len l
  rw [World.cell?_alloc_new, World.cell?_alloc_new]
  simp only [Nat.zero_add]
  exact ⟨by simpa using hf.1, by simpa using hf.2⟩
theorem suE_one (A M : Int) : suE [(A, M)] = if plB A M = true then 0 else 1 := by
  unfold suE
  have e1 : sm fA [(A, M)] = A := by simp [sm, fA]
  have e2 : sm fM [(A, M)] = M := by simp [sm, fM]
  rw [e1, e2]
  cases h : plB A M with
  | true => simp [allP, h]
  | false => simp [allP, h]
set_option maxHeartbeats 8000000 in
set_option maxRecDepth 100000 in
theorem ltFi_any (A M : Int) (w : World) :
    Calls Try.prog 82 #[.agg #[.int .i64 A, .int .i64 M]] w fun e w' => e = .returned (.bool (fiB A M)) ∧ Below w.heap.size w w' := by
  have T0 := Lib.hid ((Two.new w (.int .i64 A) (.int .i64 M) 41).alloc (.cells #[.int .i64 A, .int .i64 M] 41))
  have L0 := Lib.hid (pts_litT 41 (w.alloc (.cells #[.int .i64 A, .int .i64 M] 41)) [(A, M)] [.int .i64 A, .int .i64 M] rfl (by simp))
  simp only [World.size_alloc] at L0
  have X : Hid (Below w.heap.size w ((w.alloc (.cells #[.int .i64 A, .int .i64 M] 41)).alloc (.cells #[.int .i64 A, .int .i64 M] 41))) := Lib.hid (bel_alloc (bel_alloc (Below.refl _ _)))
  have HS := Lib.hid (fun v W h => mxSu_any v [(A, M)] W h)
  rw [suE_one] at HS
  generalize suA [(A, M)] = p at *
  generalize suM [(A, M)] = q at *
  unfold fiB
  cases hp : plB A M with
  | true =>
    rw [hp, if_pos rfl] at HS
    rw [Bool.true_and]
    clear hp
    generalize hB : decide (0 < M) = B
    go_enter Try.func82, Try.ntmps82
    go_wp2_with fail
    refine (HS.out _ _ L0.out).mono ?_
    rintro e w1 ⟨rfl, h1⟩
    replace T0 := Lib.hid ((T0.out.below h1).alloc (.cells #[.int .i64 p, .int .i64 q] 41))
    replace X := Lib.hid (bel_trans (bel_trans X.out h1) (bel_alloc (o := .cells #[.int .i64 p, .int .i64 q] 41) (Below.refl _ _)))
    clear h1 L0
    obtain ⟨t0, t1, _, _, _⟩ := T0.out
    go_wp2
    go_returns
    exact ⟨rfl, X.out⟩
  | false =>
    rw [hp, if_neg (by simp)] at HS
    rw [Bool.false_and]
    clear hp
    go_enter Try.func82, Try.ntmps82
    go_wp2_with fail
    refine (HS.out _ _ L0.out).mono ?_
    rintro e w1 ⟨rfl, h1⟩
    replace X := Lib.hid (bel_trans (bel_trans X.out h1) (bel_alloc (o := .cells #[.int .i64 p, .int .i64 q] 41) (Below.refl _ _)))
    clear h1 L0
    go_wp2
    go_returns
    exact ⟨rfl, X.out⟩
set_option maxHeartbeats 16000000 in
set_option maxRecDepth 100000 in
theorem ltRi_bad (a : Option Addr) (n cap : Nat) (s : List (Int × Int)) (m : Nat) (w : World) (NV0 : Hid (Pts w (.slice a n cap) s)) (hp : Hid (∀ j, j < m → shB s j = false)) (hm : m < n) (hq : shB s m = true)(hn : n ≤ 1000) :
    Calls Try.prog 83 #[.slice a n cap] w fun e w' => e = .returned (.bool false) ∧ Below w.heap.size w w' := by
  have HI := Lib.hid (fun k W => ltId_any k W)
  go_enter Try.func83, Try.ntmps83
  go_wp2_with fail
  go_loopw [3, 8] (fun bf i wr => ∃ k : Nat, k ≤ m ∧ i = .int .i64 k ∧ bf = .int .i64 (pvF s k) ∧ Hid (Below w.heap.size w wr)) (fun _ i _ => n - (intOf i).toNat)
  case atStart => exact ⟨0, Nat.zero_le _, rfl, rfl, Lib.hid (Below.refl _ _)⟩
  case round =>
    obtain ⟨k, hk, rfl, rfl, X⟩ := hrel
    have NV := Lib.hid (NV0.out.below X.out)
    by_cases hlt : k < m
    · have h0 := shB_false.1 (hp.out k hlt)
      have HIk := Lib.hid (HI.out (gX s k))
      rw [idB_iff.2 h0.1] at HIk
      have hv : pvF s (k + 1) = gX s k := rfl
      have l9 : (k : Int) < (n : Int) := by omega
      obtain ⟨b, off, rfl, hb, hc⟩ := NV.out.at (by omega)
      obtain ⟨c0, c1⟩ := hc k (by omega)
      clear hc
      generalize pvF s k = p at *
      generalize gX s k = x at *
      generalize gR s k = y at *
      have d1 : decide (x ≤ p) = false := decide_eq_false (by omega)
      have d2 : decide (y < 1) = false := decide_eq_false (by omega)
      have d3 : decide (10737418240000 < y) = false := decide_eq_false (by omega)
      have P0 := Two.new wr (.int .i64 x) (.int .i64 y) 52
      have X1 := Lib.hid (bel_trans X.out (bel_alloc (o := .cells #[.int .i64 x, .int .i64 y] 52) (Below.refl _ _)))
      obtain ⟨p0, p1, _, _, _⟩ := P0
      go_wp2_with fail
      refine (HIk.out _).mono ?_
      rintro e w3 ⟨rfl, hw⟩
      subst hw
      go_wp2
      go_roundw
      case rel => exact ⟨k + 1, by omega, by go_num, by rw [hv], X1⟩
      case measure => simp [intOf]; omega
    · obtain rfl : k = m := by omega
      have HIk := Lib.hid (HI.out (gX s k))
      have l9 : (k : Int) < (n : Int) := by omega
      obtain ⟨b, off, rfl, hb, hc⟩ := NV.out.at (by omega)
      obtain ⟨c0, c1⟩ := hc k (by omega)
      clear hc hp
      unfold shB at hq
      generalize pvF s k = p at *
      generalize gX s k = x at *
      generalize gR s k = y at *
      have P0 := Two.new wr (.int .i64 x) (.int .i64 y) 52
      have X1 := Lib.hid (bel_trans X.out (bel_alloc (o := .cells #[.int .i64 x, .int .i64 y] 52) (Below.refl _ _)))
      obtain ⟨p0, p1, _, _, _⟩ := P0
      cases e0 : idB x with
      | false =>
        rw [e0] at HIk
        clear hq
        go_wp2_with fail
        refine (HIk.out _).mono ?_
        rintro e w3 ⟨rfl, hw⟩
        subst hw
        go_wp2
        go_returns
        exact ⟨rfl, X1.out⟩
      | true =>
        rw [e0] at HIk
        rw [e0, Bool.not_true, Bool.false_or] at hq
        cases d1 : decide (x ≤ p) with
        | true =>
          clear hq
          go_wp2_with fail
          refine (HIk.out _).mono ?_
          rintro e w3 ⟨rfl, hw⟩
          subst hw
          go_wp2
          go_returns
          exact ⟨rfl, X1.out⟩
        | false =>
          rw [d1, Bool.false_or] at hq
          cases d2 : decide (y < 1) with
          | true =>
            clear hq
            go_wp2_with fail
            refine (HIk.out _).mono ?_
            rintro e w3 ⟨rfl, hw⟩
            subst hw
            go_wp2
            go_returns
            exact ⟨rfl, X1.out⟩
          | false =>
            rw [d2, Bool.false_or] at hq
            go_wp2_with fail
            refine (HIk.out _).mono ?_
            rintro e w3 ⟨rfl, hw⟩
            subst hw
            go_wp2
            go_returns
            exact ⟨rfl, X1.out⟩
set_option maxHeartbeats 16000000 in
set_option maxRecDepth 100000 in
theorem ltRi_ok (a : Option Addr) (n cap : Nat) (s : List (Int × Int)) (w : World) (NV0 : Hid (Pts w (.slice a n cap) s)) (hp : Hid (∀ j, j < n → shB s j = false)) (hn : n ≤ 1000) :
    Calls Try.prog 83 #[.slice a n cap] w fun e w' => e = .returned (.bool true) ∧ Below w.heap.size w w' := by
  have HI := Lib.hid (fun k W => ltId_any k W)
  go_enter Try.func83, Try.ntmps83
  go_wp2_with fail
  go_loopw [3, 8] (fun bf i wr => ∃ k : Nat, k ≤ n ∧ i = .int .i64 k ∧ bf = .int .i64 (pvF s k) ∧ Hid (Below w.heap.size w wr)) (fun _ i _ => n - (intOf i).toNat)
  case atStart => exact ⟨0, Nat.zero_le _, rfl, rfl, Lib.hid (Below.refl _ _)⟩
  case round =>
    obtain ⟨k, hk, rfl, rfl, X⟩ := hrel
    have NV := Lib.hid (NV0.out.below X.out)
    by_cases hlt : k < n
    · have h0 := shB_false.1 (hp.out k hlt)
      have HIk := Lib.hid (HI.out (gX s k))
      rw [idB_iff.2 h0.1] at HIk
      have hv : pvF s (k + 1) = gX s k := rfl
      have l9 : (k : Int) < (n : Int) := by omega
      obtain ⟨b, off, rfl, hb, hc⟩ := NV.out.at (by omega)
      obtain ⟨c0, c1⟩ := hc k (by omega)
      clear hc
      generalize pvF s k = p at *
      generalize gX s k = x at *
      generalize gR s k = y at *
      have d1 : decide (x ≤ p) = false := decide_eq_false (by omega)
      have d2 : decide (y < 1) = false := decide_eq_false (by omega)
      have d3 : decide (10737418240000 < y) = false := decide_eq_false (by omega)
      have P0 := Two.new wr (.int .i64 x) (.int .i64 y) 52
      have X1 := Lib.hid (bel_trans X.out (bel_alloc (o := .cells #[.int .i64 x, .int .i64 y] 52) (Below.refl _ _)))
      obtain ⟨p0, p1, _, _, _⟩ := P0
      go_wp2_with fail
      refine (HIk.out _).mono ?_
      rintro e w3 ⟨rfl, hw⟩
      subst hw
      go_wp2
      go_roundw
      case rel => exact ⟨k + 1, by omega, by go_num, by rw [hv], X1⟩
      case measure => simp [intOf]; omega
    · obtain rfl : k = n := by omega
      go_wp2
      go_returns
      exact ⟨rfl, X.out⟩
theorem ltRi_any (v : Value) (s : List (Int × Int)) (w : World) (hv : Pts w v s) (hn : s.length ≤ 1000) :
    Calls Try.prog 83 #[v] w fun e w' => e = .returned (.bool (shO s)) ∧ Below w.heap.size w w' := by
  obtain ⟨a, cap, rfl, _, _⟩ := id hv
  cases h : shO s with
  | true => exact ltRi_ok a _ cap s w hv (Lib.hid (shO_iff.1 h)) hn
  | false =>
    obtain ⟨k, hk, h1, h2⟩ := shO_false h
    exact ltRi_bad a _ cap s k w hv h2 hk h1 hn
set_option maxHeartbeats 16000000 in
set_option maxRecDepth 100000 in
theorem ltSm_any (v : Value) (s : List (Int × Int)) (w : World) (hv : Pts w v s) (hn : s.length ≤ 32) (h : shO s = true) :
    Calls Try.prog 84 #[v] w fun e w' => e = .returned (.int .i64 (sm fM s)) ∧ Below w.heap.size w w' := by
  obtain ⟨a, cap, rfl, hcap, hh⟩ := hv
  have NV0 : Hid (Pts w (.slice a s.length cap) s) := ⟨a, cap, rfl, hcap, hh⟩
  clear hh hcap
  have HS := Lib.hid (sm_step fM s)
  have FS := Lib.hid (sm_full fM s)
  have HY := Lib.hid (shO_bd h)
  have HX := Lib.hid (fun k hk => (shB_false.1 (shO_iff.1 h k hk)).2.2)
  clear h
  generalize sm fM s = T at *
  generalize hN : s.length = n at *
  go_enter Try.func84, Try.ntmps84
  go_wp2_with fail
  go_loopw [3, 8] (fun t i wr => ∃ k : Nat, k ≤ n ∧ i = .int .i64 k ∧ t = .int .i64 (sm fM (s.take k)) ∧ Hid (Below w.heap.size w wr)) (fun _ i _ => n - (intOf i).toNat)
  case atStart => exact ⟨0, Nat.zero_le _, rfl, rfl, Lib.hid (Below.refl _ _)⟩
  case round =>
    obtain ⟨k, hk, rfl, rfl, X⟩ := hrel
    have NV := Lib.hid (NV0.out.below X.out)
    by_cases hlt : k < n
    · have s1 := Lib.hid (HS.out k hlt)
      change Hid (sm fM (s.take (k + 1)) = sm fM (s.take k) + gR s k) at s1
      have y := HY.out k
      have x := HX.out k hlt
      have l9 : (k : Int) < (n : Int) := by omega
      obtain ⟨b, off, rfl, hb, hc⟩ := NV.out.at (by omega)
      obtain ⟨c0, c1⟩ := hc k (by omega)
      clear hc
      generalize gX s k = p at *
      generalize gR s k = r at *
      generalize sm fM (s.take k) = S at *
      have w1 : IntKind.i64.wrap (S + r) = S + r := wrap_in _ ⟨by omega, by omega⟩
      have P0 := Two.new wr (.int .i64 p) (.int .i64 r) 52
      have X1 := Lib.hid (bel_trans X.out (bel_alloc (o := .cells #[.int .i64 p, .int .i64 r] 52) (Below.refl _ _)))
      obtain ⟨p0, p1, _, _, _⟩ := P0
      go_wp2
      go_roundw
      case rel => exact ⟨k + 1, by omega, by go_num, by rw [s1.out], X1⟩
      case measure => simp [intOf]; omega
    · obtain rfl : k = n := by omega
      rw [FS.out]
      go_wp2
      go_returns
      exact ⟨rfl, X.out⟩
end Go.Proofs.Ytmoeccghkpjbgaa

/- Package lot: the fault of a lot. -/
namespace Go.Proofs.Ytmoeccghkpjbgaa
open Go.RowKit

/-- the value of a lot -/
def ltV (c : Lt) (a : Option Addr) (cap : Nat) : Value := .agg #[.int .i64 c.id, .int .i64 c.al, .int .i64 c.ms, .slice a c.sh.length cap]
set_option maxHeartbeats 8000000 in
set_option maxRecDepth 100000 in
theorem ltFa_id (d A M bef : Int) (a : Option Addr) (n cap : Nat) (s : List (Int × Int)) (w : World) (NV : Hid (Pts w (.slice a n cap) s)) (hn : Hid (s.length = n)) (hbig : n ≤ 1000) (h0 : idB d = false) :
    Calls Try.prog 61 #[.agg #[.int .i64 d, .int .i64 A, .int .i64 M, .slice a n cap], .int .i64 bef] w fun e w' => e = .returned (.int .i64 2) ∧ Below w.heap.size w w' := by
  have HI := Lib.hid (fun W => ltId_any d W)
  have HF := Lib.hid (fun W => ltFi_any A M W)
  have HR := Lib.hid (fun W h => ltRi_any (.slice a n cap) s W h (by rw [hn.out]; exact hbig))
  have T0 := Lib.hid (Quad.new w (.int .i64 d) (.int .i64 A) (.int .i64 M) (.slice a n cap) 43)
  have X := Lib.hid (bel_alloc (w := w) (o := (.cells #[.int .i64 d, .int .i64 A, .int .i64 M, .slice a n cap] 43)) (Below.refl _ _))
  replace NV := Lib.hid (NV.out.alloc (.cells #[.int .i64 d, .int .i64 A, .int .i64 M, .slice a n cap] 43))
  obtain ⟨b0, b1, b2, b3, _, _⟩ := T0.out
  rw [h0] at HI
  go_enter Try.func61, Try.ntmps61
  go_wp2_with fail
  refine (HI.out _).mono ?_
  rintro e w1 ⟨rfl, hw⟩
  subst hw
  go_wp2
  go_returns
  exact ⟨rfl, X.out⟩
set_option maxHeartbeats 8000000 in
set_option maxRecDepth 100000 in
theorem ltFa_ord (d A M bef : Int) (a : Option Addr) (n cap : Nat) (s : List (Int × Int)) (w : World) (NV : Hid (Pts w (.slice a n cap) s)) (hn : Hid (s.length = n)) (hbig : n ≤ 1000) (h0 : idB d = true) (h1 : decide (d ≤ bef) = true) :
    Calls Try.prog 61 #[.agg #[.int .i64 d, .int .i64 A, .int .i64 M, .slice a n cap], .int .i64 bef] w fun e w' => e = .returned (.int .i64 5) ∧ Below w.heap.size w w' := by
  have HI := Lib.hid (fun W => ltId_any d W)
  have HF := Lib.hid (fun W => ltFi_any A M W)
  have HR := Lib.hid (fun W h => ltRi_any (.slice a n cap) s W h (by rw [hn.out]; exact hbig))
  have T0 := Lib.hid (Quad.new w (.int .i64 d) (.int .i64 A) (.int .i64 M) (.slice a n cap) 43)
  have X := Lib.hid (bel_alloc (w := w) (o := (.cells #[.int .i64 d, .int .i64 A, .int .i64 M, .slice a n cap] 43)) (Below.refl _ _))
  replace NV := Lib.hid (NV.out.alloc (.cells #[.int .i64 d, .int .i64 A, .int .i64 M, .slice a n cap] 43))
  obtain ⟨b0, b1, b2, b3, _, _⟩ := T0.out
  rw [h0] at HI
  go_enter Try.func61, Try.ntmps61
  go_wp2_with fail
  refine (HI.out _).mono ?_
  rintro e w1 ⟨rfl, hw⟩
  subst hw
  go_wp2
  go_returns
  exact ⟨rfl, X.out⟩
set_option maxHeartbeats 8000000 in
set_option maxRecDepth 100000 in
theorem ltFa_fil (d A M bef : Int) (a : Option Addr) (n cap : Nat) (s : List (Int × Int)) (w : World) (NV : Hid (Pts w (.slice a n cap) s)) (hn : Hid (s.length = n)) (hbig : n ≤ 1000) (h0 : idB d = true) (h1 : decide (d ≤ bef) = false) (h2 : fiB A M = false) :
    Calls Try.prog 61 #[.agg #[.int .i64 d, .int .i64 A, .int .i64 M, .slice a n cap], .int .i64 bef] w fun e w' => e = .returned (.int .i64 1) ∧ Below w.heap.size w w' := by
  have HI := Lib.hid (fun W => ltId_any d W)
  have HF := Lib.hid (fun W => ltFi_any A M W)
  have HR := Lib.hid (fun W h => ltRi_any (.slice a n cap) s W h (by rw [hn.out]; exact hbig))
  have T0 := Lib.hid (Quad.new w (.int .i64 d) (.int .i64 A) (.int .i64 M) (.slice a n cap) 43)
  have X := Lib.hid (bel_alloc (w := w) (o := (.cells #[.int .i64 d, .int .i64 A, .int .i64 M, .slice a n cap] 43)) (Below.refl _ _))
  replace NV := Lib.hid (NV.out.alloc (.cells #[.int .i64 d, .int .i64 A, .int .i64 M, .slice a n cap] 43))
  obtain ⟨b0, b1, b2, b3, _, _⟩ := T0.out
  rw [h0] at HI
  rw [h2] at HF
  go_enter Try.func61, Try.ntmps61
  go_wp2_with fail
  refine (HI.out _).mono ?_
  rintro e w1 ⟨rfl, hw⟩
  subst hw
  go_wp2_with fail
  refine (HF.out _).mono ?_
  rintro e w2 ⟨rfl, h1⟩
  replace T0 := Lib.hid (T0.out.below h1)
  replace X := Lib.hid (bel_trans X.out h1)
  replace NV := Lib.hid (NV.out.below h1)
  clear h1 b0 b1 b2 b3
  obtain ⟨b0, b1, b2, b3, _, _⟩ := T0.out
  go_wp2
  go_returns
  exact ⟨rfl, X.out⟩
set_option maxHeartbeats 8000000 in
set_option maxRecDepth 100000 in
theorem ltFa_full (d A M bef : Int) (a : Option Addr) (n cap : Nat) (s : List (Int × Int)) (w : World) (NV : Hid (Pts w (.slice a n cap) s)) (hn : Hid (s.length = n)) (hbig : n ≤ 1000) (h0 : idB d = true) (h1 : decide (d ≤ bef) = false) (h2 : fiB A M = true) (h3 : decide (32 < (n : Int)) = true) :
    Calls Try.prog 61 #[.agg #[.int .i64 d, .int .i64 A, .int .i64 M, .slice a n cap], .int .i64 bef] w fun e w' => e = .returned (.int .i64 12) ∧ Below w.heap.size w w' := by
  have HI := Lib.hid (fun W => ltId_any d W)
  have HF := Lib.hid (fun W => ltFi_any A M W)
  have HR := Lib.hid (fun W h => ltRi_any (.slice a n cap) s W h (by rw [hn.out]; exact hbig))
  have T0 := Lib.hid (Quad.new w (.int .i64 d) (.int .i64 A) (.int .i64 M) (.slice a n cap) 43)
  have X := Lib.hid (bel_alloc (w := w) (o := (.cells #[.int .i64 d, .int .i64 A, .int .i64 M, .slice a n cap] 43)) (Below.refl _ _))
  replace NV := Lib.hid (NV.out.alloc (.cells #[.int .i64 d, .int .i64 A, .int .i64 M, .slice a n cap] 43))
  obtain ⟨b0, b1, b2, b3, _, _⟩ := T0.out
  rw [h0] at HI
  rw [h2] at HF
  go_enter Try.func61, Try.ntmps61
  go_wp2_with fail
  refine (HI.out _).mono ?_
  rintro e w1 ⟨rfl, hw⟩
  subst hw
  go_wp2_with fail
  refine (HF.out _).mono ?_
  rintro e w2 ⟨rfl, h1⟩
  replace T0 := Lib.hid (T0.out.below h1)
  replace X := Lib.hid (bel_trans X.out h1)
  replace NV := Lib.hid (NV.out.below h1)
  clear h1 b0 b1 b2 b3
  obtain ⟨b0, b1, b2, b3, _, _⟩ := T0.out
  go_wp2
  go_returns
  exact ⟨rfl, X.out⟩
set_option maxHeartbeats 8000000 in
set_option maxRecDepth 100000 in
theorem ltFa_sh (d A M bef : Int) (a : Option Addr) (n cap : Nat) (s : List (Int × Int)) (w : World) (NV : Hid (Pts w (.slice a n cap) s)) (hn : Hid (s.length = n)) (hbig : n ≤ 1000) (h0 : idB d = true) (h1 : decide (d ≤ bef) = false) (h2 : fiB A M = true) (h3 : decide (32 < (n : Int)) = false) (h4 : shO s = false) :
    Calls Try.prog 61 #[.agg #[.int .i64 d, .int .i64 A, .int .i64 M, .slice a n cap], .int .i64 bef] w fun e w' => e = .returned (.int .i64 10) ∧ Below w.heap.size w w' := by
  have HI := Lib.hid (fun W => ltId_any d W)
  have HF := Lib.hid (fun W => ltFi_any A M W)
  have HR := Lib.hid (fun W h => ltRi_any (.slice a n cap) s W h (by rw [hn.out]; exact hbig))
  have T0 := Lib.hid (Quad.new w (.int .i64 d) (.int .i64 A) (.int .i64 M) (.slice a n cap) 43)
  have X := Lib.hid (bel_alloc (w := w) (o := (.cells #[.int .i64 d, .int .i64 A, .int .i64 M, .slice a n cap] 43)) (Below.refl _ _))
  replace NV := Lib.hid (NV.out.alloc (.cells #[.int .i64 d, .int .i64 A, .int .i64 M, .slice a n cap] 43))
  obtain ⟨b0, b1, b2, b3, _, _⟩ := T0.out
  rw [h0] at HI
  rw [h2] at HF
  rw [h4] at HR
  go_enter Try.func61, Try.ntmps61
  go_wp2_with fail
  refine (HI.out _).mono ?_
  rintro e w1 ⟨rfl, hw⟩
  subst hw
  go_wp2_with fail
  refine (HF.out _).mono ?_
  rintro e w2 ⟨rfl, h1⟩
  replace T0 := Lib.hid (T0.out.below h1)
  replace X := Lib.hid (bel_trans X.out h1)
  replace NV := Lib.hid (NV.out.below h1)
  clear h1 b0 b1 b2 b3
  obtain ⟨b0, b1, b2, b3, _, _⟩ := T0.out
  go_wp2_with fail
  refine (HR.out _ NV.out).mono ?_
  rintro e w3 ⟨rfl, h1⟩
  replace T0 := Lib.hid (T0.out.below h1)
  replace X := Lib.hid (bel_trans X.out h1)
  replace NV := Lib.hid (NV.out.below h1)
  clear h1 b0 b1 b2 b3
  obtain ⟨b0, b1, b2, b3, _, _⟩ := T0.out
  go_wp2
  go_returns
  exact ⟨rfl, X.out⟩
set_option maxHeartbeats 8000000 in
set_option maxRecDepth 100000 in
theorem ltFa_sum (d A M bef : Int) (a : Option Addr) (n cap : Nat) (s : List (Int × Int)) (w : World) (NV : Hid (Pts w (.slice a n cap) s)) (hn : Hid (s.length = n)) (hbig : n ≤ 1000) (h0 : idB d = true) (h1 : decide (d ≤ bef) = false) (h2 : fiB A M = true) (h3 : decide (32 < (n : Int)) = false) (h4 : shO s = true) (S : Int) (hS : Hid (sm fM s = S)) (h5 : (S != A) = true) :
    Calls Try.prog 61 #[.agg #[.int .i64 d, .int .i64 A, .int .i64 M, .slice a n cap], .int .i64 bef] w fun e w' => e = .returned (.int .i64 14) ∧ Below w.heap.size w w' := by
  have HI := Lib.hid (fun W => ltId_any d W)
  have HF := Lib.hid (fun W => ltFi_any A M W)
  have HR := Lib.hid (fun W h => ltRi_any (.slice a n cap) s W h (by rw [hn.out]; exact hbig))
  have T0 := Lib.hid (Quad.new w (.int .i64 d) (.int .i64 A) (.int .i64 M) (.slice a n cap) 43)
  have X := Lib.hid (bel_alloc (w := w) (o := (.cells #[.int .i64 d, .int .i64 A, .int .i64 M, .slice a n cap] 43)) (Below.refl _ _))
  replace NV := Lib.hid (NV.out.alloc (.cells #[.int .i64 d, .int .i64 A, .int .i64 M, .slice a n cap] 43))
  obtain ⟨b0, b1, b2, b3, _, _⟩ := T0.out
  have HM := Lib.hid (fun W h => ltSm_any (.slice a n cap) s W h (by rw [hn.out]; have := of_decide_eq_false h3; omega) h4)
  rw [hS.out] at HM
  rw [h0] at HI
  rw [h2] at HF
  rw [h4] at HR
  go_enter Try.func61, Try.ntmps61
  go_wp2_with fail
  refine (HI.out _).mono ?_
  rintro e w1 ⟨rfl, hw⟩
  subst hw
  go_wp2_with fail
  refine (HF.out _).mono ?_
  rintro e w2 ⟨rfl, h1⟩
  replace T0 := Lib.hid (T0.out.below h1)
  replace X := Lib.hid (bel_trans X.out h1)
  replace NV := Lib.hid (NV.out.below h1)
  clear h1 b0 b1 b2 b3
  obtain ⟨b0, b1, b2, b3, _, _⟩ := T0.out
  go_wp2_with fail
  refine (HR.out _ NV.out).mono ?_
  rintro e w3 ⟨rfl, h1⟩
  replace T0 := Lib.hid (T0.out.below h1)
  replace X := Lib.hid (bel_trans X.out h1)
  replace NV := Lib.hid (NV.out.below h1)
  clear h1 b0 b1 b2 b3
  obtain ⟨b0, b1, b2, b3, _, _⟩ := T0.out
  go_upto_region 11 with fail
  have NVd := Lib.hid (NV.out.below (bel_drew w3))
  have Td := Lib.hid (T0.out.below (bel_drew w3))
  have Xd := Lib.hid (bel_trans X.out (bel_drew w3))
  go_region_with (go_at_call 84; refine (HM.out _ NVd.out).mono ?_; rintro e w4 ⟨rfl, h1⟩; obtain ⟨e0, e1, e2, e3, _, _⟩ := Td.out.below h1; have X4 := Lib.hid (bel_trans Xd.out h1); clear h1)
  all_goals go_wp2
  all_goals go_returns
  all_goals exact ⟨rfl, X4.out⟩
set_option maxHeartbeats 8000000 in
set_option maxRecDepth 100000 in
theorem ltFa_ok (d A M bef : Int) (a : Option Addr) (n cap : Nat) (s : List (Int × Int)) (w : World) (NV : Hid (Pts w (.slice a n cap) s)) (hn : Hid (s.length = n)) (hbig : n ≤ 1000) (h0 : idB d = true) (h1 : decide (d ≤ bef) = false) (h2 : fiB A M = true) (h3 : decide (32 < (n : Int)) = false) (h4 : shO s = true) (S : Int) (hS : Hid (sm fM s = S)) (h5 : (S != A) = false) :
    Calls Try.prog 61 #[.agg #[.int .i64 d, .int .i64 A, .int .i64 M, .slice a n cap], .int .i64 bef] w fun e w' => e = .returned (.int .i64 0) ∧ Below w.heap.size w w' := by
  have HI := Lib.hid (fun W => ltId_any d W)
  have HF := Lib.hid (fun W => ltFi_any A M W)
  have HR := Lib.hid (fun W h => ltRi_any (.slice a n cap) s W h (by rw [hn.out]; exact hbig))
  have T0 := Lib.hid (Quad.new w (.int .i64 d) (.int .i64 A) (.int .i64 M) (.slice a n cap) 43)
  have X := Lib.hid (bel_alloc (w := w) (o := (.cells #[.int .i64 d, .int .i64 A, .int .i64 M, .slice a n cap] 43)) (Below.refl _ _))
  replace NV := Lib.hid (NV.out.alloc (.cells #[.int .i64 d, .int .i64 A, .int .i64 M, .slice a n cap] 43))
  obtain ⟨b0, b1, b2, b3, _, _⟩ := T0.out
  have HM := Lib.hid (fun W h => ltSm_any (.slice a n cap) s W h (by rw [hn.out]; have := of_decide_eq_false h3; omega) h4)
  rw [hS.out] at HM
  rw [h0] at HI
  rw [h2] at HF
  rw [h4] at HR
  go_enter Try.func61, Try.ntmps61
  go_wp2_with fail
  refine (HI.out _).mono ?_
  rintro e w1 ⟨rfl, hw⟩
  subst hw
  go_wp2_with fail
  refine (HF.out _).mono ?_
  rintro e w2 ⟨rfl, h1⟩
  replace T0 := Lib.hid (T0.out.below h1)
  replace X := Lib.hid (bel_trans X.out h1)
  replace NV := Lib.hid (NV.out.below h1)
  clear h1 b0 b1 b2 b3
  obtain ⟨b0, b1, b2, b3, _, _⟩ := T0.out
  go_wp2_with fail
  refine (HR.out _ NV.out).mono ?_
  rintro e w3 ⟨rfl, h1⟩
  replace T0 := Lib.hid (T0.out.below h1)
  replace X := Lib.hid (bel_trans X.out h1)
  replace NV := Lib.hid (NV.out.below h1)
  clear h1 b0 b1 b2 b3
  obtain ⟨b0, b1, b2, b3, _, _⟩ := T0.out
  go_upto_region 11 with fail
  have NVd := Lib.hid (NV.out.below (bel_drew w3))
  have Td := Lib.hid (T0.out.below (bel_drew w3))
  have Xd := Lib.hid (bel_trans X.out (bel_drew w3))
  go_region_with (go_at_call 84; refine (HM.out _ NVd.out).mono ?_; rintro e w4 ⟨rfl, h1⟩; obtain ⟨e0, e1, e2, e3, _, _⟩ := Td.out.below h1; have X4 := Lib.hid (bel_trans Xd.out h1); clear h1)
  all_goals go_wp2
  all_goals go_returns
  all_goals exact ⟨rfl, X4.out⟩
theorem ltFa_any (c : Lt) (bef : Int) (a : Option Addr) (cap : Nat) (w : World) (hv : Pts w (.slice a c.sh.length cap) c.sh) (hn : c.sh.length ≤ 1000) :
    Calls Try.prog 61 #[ltV c a cap, .int .i64 bef] w fun e w' => e = .returned (.int .i64 (ltF c bef)) ∧ Below w.heap.size w w' := by
  unfold ltF ltV
  cases h0 : idB c.id with
  | false => rw [if_pos rfl]; exact ltFa_id _ _ _ _ a _ cap c.sh w hv rfl hn h0
  | true =>
    rw [if_neg (by simp)]
    by_cases h1 : c.id ≤ bef
    · rw [if_pos h1]; exact ltFa_ord _ _ _ _ a _ cap c.sh w hv rfl hn h0 (decide_eq_true h1)
    · rw [if_neg h1]
      cases h2 : fiB c.al c.ms with
      | false => rw [if_pos rfl]; exact ltFa_fil _ _ _ _ a _ cap c.sh w hv rfl hn h0 (decide_eq_false h1) h2
      | true =>
        rw [if_neg (by simp)]
        by_cases h3 : 32 < c.sh.length
        · rw [if_pos h3]; exact ltFa_full _ _ _ _ a _ cap c.sh w hv rfl hn h0 (decide_eq_false h1) h2 (decide_eq_true (by omega))
        · rw [if_neg h3]
          cases h4 : shO c.sh with
          | false => rw [if_pos rfl]; exact ltFa_sh _ _ _ _ a _ cap c.sh w hv rfl hn h0 (decide_eq_false h1) h2 (decide_eq_false (by omega)) h4
          | true =>
            rw [if_neg (by simp)]
            by_cases h5 : sm fM c.sh ≠ c.al
            · rw [if_pos h5]; exact ltFa_sum _ _ _ _ a _ cap c.sh w hv rfl hn h0 (decide_eq_false h1) h2 (decide_eq_false (by omega)) h4 _ rfl (by simpa using h5)
            · rw [if_neg h5]; exact ltFa_ok _ _ _ _ a _ cap c.sh w hv rfl hn h0 (decide_eq_false h1) h2 (decide_eq_false (by omega)) h4 _ rfl (by simpa using h5)
end Go.Proofs.Ytmoeccghkpjbgaa

/- Package lot: Check, areSound. -/
namespace Go.Proofs.Ytmoeccghkpjbgaa
open Go.RowKit

theorem pvI_next (l : List Lt) (k : Nat) : pvI l (k + 1) = (gL l k).id := rfl
set_option maxHeartbeats 4000000 in
theorem ltCh_long (a : Option Addr) (n cap : Nat) (w : World) (h : 32 < n) (hn : n ≤ 9223372036854775807) :
    Calls Try.prog 31 #[.slice a n cap] w fun e w' => e = .returned (.tuple #[.int .i64 (-1), .int .i64 8]) ∧ Below w.heap.size w w' := by
  have q : decide (32 < (n : Int)) = true := decide_eq_true (by omega)
  go_enter Try.func31, Try.ntmps31
  go_wp2
  go_returns
  exact ⟨rfl, Below.refl _ _⟩
set_option maxHeartbeats 16000000 in
set_option maxRecDepth 100000 in
theorem ltCh_ok (a : Option Addr) (n cap : Nat) (l : List Lt) (w : World) (NV0 : Hid (Lts w (.slice a n cap) l)) (hn : n ≤ 32) (hs : Hid (∀ j, j < n → (gL l j).sh.length ≤ 1000)) (hp : Hid (∀ j, j < n → ltF (gL l j) (pvI l j) = 0)) :
    Calls Try.prog 31 #[.slice a n cap] w fun e w' => e = .returned (.tuple #[.int .i64 (-1), .int .i64 0]) ∧ Below w.heap.size w w' := by
  have q : decide (32 < (n : Int)) = false := decide_eq_false (by omega)
  go_enter Try.func31, Try.ntmps31
  go_wp2_with fail
  go_loopw [4, 13] (fun bf i wr => ∃ k : Nat, k ≤ n ∧ i = .int .i64 k ∧ bf = .int .i64 (pvI l k) ∧ Hid (Below w.heap.size w wr)) (fun _ i _ => n - (intOf i).toNat)
  case atStart => exact ⟨0, Nat.zero_le _, rfl, rfl, Lib.hid (Below.refl _ _)⟩
  case round =>
    obtain ⟨k, hk, rfl, rfl, X⟩ := hrel
    have NV := Lib.hid (NV0.out.below X.out)
    by_cases hlt : k < n
    · have l9 : (k : Int) < (n : Int) := by omega
      have HFa := Lib.hid (fun a c W h => ltFa_any (gL l k) (pvI l k) a c W h (hs.out k (by omega)))
      obtain ⟨b, off, rfl, hb, hnl, hc⟩ := NV.out.at (by omega)
      clear hnl
      obtain ⟨sa, sc, c0, c1, c2, c3, hP⟩ := hc k (by omega)
      clear hc
      have PS := Lib.hid hP
      clear hP
      have hq := hp.out k hlt
      have hnx := pvI_next l k
      unfold ltV at HFa
      generalize ltF (gL l k) (pvI l k) = E at *
      generalize pvI l k = p at *
      generalize gL l k = c at *
      obtain ⟨cd, cA, cM, cS⟩ := c
      simp only at c0 c1 c2 c3 hnx
      replace PS : Hid (Pts wr (.slice sa cS.length sc) cS) := PS
      replace HFa : Hid (∀ a cap W, Pts W (.slice a cS.length cap) cS → Calls Try.prog 61 #[.agg #[.int .i64 cd, .int .i64 cA, .int .i64 cM, .slice a cS.length cap], .int .i64 p] W fun e w' => e = .returned (.int .i64 E) ∧ Below W.heap.size W w') := HFa
      generalize cS.length = cn at *
      have T0 := Lib.hid (Quad.new wr (.int .i64 cd) (.int .i64 cA) (.int .i64 cM) (.slice sa cn sc) 43)
      replace X := Lib.hid (bel_trans X.out (bel_alloc (o := .cells #[.int .i64 cd, .int .i64 cA, .int .i64 cM, .slice sa cn sc] 43) (Below.refl _ _)))
      replace PS := Lib.hid (PS.out.alloc (.cells #[.int .i64 cd, .int .i64 cA, .int .i64 cM, .slice sa cn sc] 43))
      obtain ⟨b0, b1, b2, b3, _, _⟩ := T0.out
      go_wp2_with fail
      refine (HFa.out _ _ _ PS.out).mono ?_
      rintro e w3 ⟨rfl, h1⟩
      replace T0 := Lib.hid (T0.out.below h1)
      replace X := Lib.hid (bel_trans X.out h1)
      clear h1 b0 b1 b2 b3 c0 c1 c2 c3
      obtain ⟨b0, b1, b2, b3, _, _⟩ := T0.out
      have d : (E != 0) = false := by rw [hq]; rfl
      go_wp2
      go_roundw
      case rel => exact ⟨k + 1, by omega, by go_num, by rw [hnx], X⟩
      case measure => simp [intOf]; omega
    · obtain rfl : k = n := by omega
      go_wp2
      go_returns
      exact ⟨rfl, X.out⟩
set_option maxHeartbeats 16000000 in
set_option maxRecDepth 100000 in
theorem ltCh_bad (a : Option Addr) (n cap : Nat) (l : List Lt) (w : World) (NV0 : Hid (Lts w (.slice a n cap) l)) (hn : n ≤ 32) (hs : Hid (∀ j, j < n → (gL l j).sh.length ≤ 1000)) (m : Nat) (hm : m < n) (F : Int) (hF : (F != 0) = true) (hE : ltF (gL l m) (pvI l m) = F) (hp : Hid (∀ j, j < m → ltF (gL l j) (pvI l j) = 0)) :
    Calls Try.prog 31 #[.slice a n cap] w fun e w' => e = .returned (.tuple #[.int .i64 (m : Nat), .int .i64 F]) ∧ Below w.heap.size w w' := by
  have q : decide (32 < (n : Int)) = false := decide_eq_false (by omega)
  go_enter Try.func31, Try.ntmps31
  go_wp2_with fail
  go_loopw [4, 13] (fun bf i wr => ∃ k : Nat, k ≤ m ∧ i = .int .i64 k ∧ bf = .int .i64 (pvI l k) ∧ Hid (Below w.heap.size w wr)) (fun _ i _ => n - (intOf i).toNat)
  case atStart => exact ⟨0, Nat.zero_le _, rfl, rfl, Lib.hid (Below.refl _ _)⟩
  case round =>
    obtain ⟨k, hk, rfl, rfl, X⟩ := hrel
    have NV := Lib.hid (NV0.out.below X.out)
    by_cases hlt : k < m
    · have l9 : (k : Int) < (n : Int) := by omega
      have HFa := Lib.hid (fun a c W h => ltFa_any (gL l k) (pvI l k) a c W h (hs.out k (by omega)))
      obtain ⟨b, off, rfl, hb, hnl, hc⟩ := NV.out.at (by omega)
      clear hnl
      obtain ⟨sa, sc, c0, c1, c2, c3, hP⟩ := hc k (by omega)
      clear hc
      have PS := Lib.hid hP
      clear hP
      have hq := hp.out k hlt
      have hnx := pvI_next l k
      unfold ltV at HFa
      generalize ltF (gL l k) (pvI l k) = E at *
      generalize pvI l k = p at *
      generalize gL l k = c at *
      obtain ⟨cd, cA, cM, cS⟩ := c
      simp only at c0 c1 c2 c3 hnx
      replace PS : Hid (Pts wr (.slice sa cS.length sc) cS) := PS
      replace HFa : Hid (∀ a cap W, Pts W (.slice a cS.length cap) cS → Calls Try.prog 61 #[.agg #[.int .i64 cd, .int .i64 cA, .int .i64 cM, .slice a cS.length cap], .int .i64 p] W fun e w' => e = .returned (.int .i64 E) ∧ Below W.heap.size W w') := HFa
      generalize cS.length = cn at *
      have T0 := Lib.hid (Quad.new wr (.int .i64 cd) (.int .i64 cA) (.int .i64 cM) (.slice sa cn sc) 43)
      replace X := Lib.hid (bel_trans X.out (bel_alloc (o := .cells #[.int .i64 cd, .int .i64 cA, .int .i64 cM, .slice sa cn sc] 43) (Below.refl _ _)))
      replace PS := Lib.hid (PS.out.alloc (.cells #[.int .i64 cd, .int .i64 cA, .int .i64 cM, .slice sa cn sc] 43))
      obtain ⟨b0, b1, b2, b3, _, _⟩ := T0.out
      go_wp2_with fail
      refine (HFa.out _ _ _ PS.out).mono ?_
      rintro e w3 ⟨rfl, h1⟩
      replace T0 := Lib.hid (T0.out.below h1)
      replace X := Lib.hid (bel_trans X.out h1)
      clear h1 b0 b1 b2 b3 c0 c1 c2 c3
      obtain ⟨b0, b1, b2, b3, _, _⟩ := T0.out
      have d : (E != 0) = false := by rw [hq]; rfl
      go_wp2
      go_roundw
      case rel => exact ⟨k + 1, by omega, by go_num, by rw [hnx], X⟩
      case measure => simp [intOf]; omega
    · obtain rfl : k = m := by omega
      have l9 : (k : Int) < (n : Int) := by omega
      have HFa := Lib.hid (fun a c W h => ltFa_any (gL l k) (pvI l k) a c W h (hs.out k (by omega)))
      obtain ⟨b, off, rfl, hb, hnl, hc⟩ := NV.out.at (by omega)
      clear hnl
      obtain ⟨sa, sc, c0, c1, c2, c3, hP⟩ := hc k (by omega)
      clear hc
      have PS := Lib.hid hP
      clear hP
      have hq := hE
      have hnx := pvI_next l k
      unfold ltV at HFa
      generalize ltF (gL l k) (pvI l k) = E at *
      generalize pvI l k = p at *
      generalize gL l k = c at *
      obtain ⟨cd, cA, cM, cS⟩ := c
      simp only at c0 c1 c2 c3 hnx
      replace PS : Hid (Pts wr (.slice sa cS.length sc) cS) := PS
      replace HFa : Hid (∀ a cap W, Pts W (.slice a cS.length cap) cS → Calls Try.prog 61 #[.agg #[.int .i64 cd, .int .i64 cA, .int .i64 cM, .slice a cS.length cap], .int .i64 p] W fun e w' => e = .returned (.int .i64 E) ∧ Below W.heap.size W w') := HFa
      generalize cS.length = cn at *
      have T0 := Lib.hid (Quad.new wr (.int .i64 cd) (.int .i64 cA) (.int .i64 cM) (.slice sa cn sc) 43)
      replace X := Lib.hid (bel_trans X.out (bel_alloc (o := .cells #[.int .i64 cd, .int .i64 cA, .int .i64 cM, .slice sa cn sc] 43) (Below.refl _ _)))
      replace PS := Lib.hid (PS.out.alloc (.cells #[.int .i64 cd, .int .i64 cA, .int .i64 cM, .slice sa cn sc] 43))
      obtain ⟨b0, b1, b2, b3, _, _⟩ := T0.out
      go_wp2_with fail
      refine (HFa.out _ _ _ PS.out).mono ?_
      rintro e w3 ⟨rfl, h1⟩
      replace T0 := Lib.hid (T0.out.below h1)
      replace X := Lib.hid (bel_trans X.out h1)
      clear h1 b0 b1 b2 b3 c0 c1 c2 c3
      obtain ⟨b0, b1, b2, b3, _, _⟩ := T0.out
      subst hq
      go_wp2
      go_returns
      exact ⟨rfl, X.out⟩
theorem ltCh_any (v : Value) (l : List Lt) (w : World) (hv : Lts w v l) (hs : ∀ j, j < l.length → (gL l j).sh.length ≤ 1000) :
    Calls Try.prog 31 #[v] w fun e w' => e = .returned (.tuple #[.int .i64 (ltI l), .int .i64 (ltE l)]) ∧ Below w.heap.size w w' := by
  obtain ⟨a, cap, rfl, hcap, _⟩ := id hv
  unfold ltE ltI
  by_cases h : 32 < l.length
  · rw [if_pos h, if_pos h]; exact ltCh_long a _ cap w h (by omega)
  · rw [if_neg h, if_neg h]
    obtain ⟨s1, s2⟩ := fst_spec (fun k => ltF (gL l k) (pvI l k) != 0) l.length
    have le := fst_le (fun k => ltF (gL l k) (pvI l k) != 0) l.length
    change ltK l ≤ l.length at le
    by_cases g : ltK l < l.length
    · rw [if_pos g, if_pos g]
      exact ltCh_bad a _ cap l w hv (by omega) (Lib.hid hs) (ltK l) g _ (s2 g) rfl (Lib.hid fun j hj => by simpa using s1 j hj)
    · rw [if_neg g, if_neg g]
      exact ltCh_ok a _ cap l w hv (by omega) (Lib.hid hs) (Lib.hid fun j hj => by
        have : ltK l = l.length := by omega
        have := s1 j (by show j < ltK l; omega)
        simpa using this)
theorem ltSo_any (v : Value) (l : List Lt) (w : World) (hv : Lts w v l) (hs : ∀ j, j < l.length → (gL l j).sh.length ≤ 1000) :
    Calls Try.prog 63 #[v] w fun e w' => e = .returned (.bool (ltE l == 0)) ∧ Below w.heap.size w w' := by
  have HC := Lib.hid (ltCh_any v l w hv hs)
  generalize ltE l = E at *
  generalize ltI l = I at *
  go_enter Try.func63, Try.ntmps63
  go_wp2_with fail
  refine HC.out.mono ?_
  rintro e w1 ⟨rfl, h1⟩
  have X := Lib.hid h1; clear h1
  go_wp2
  go_returns
  exact ⟨rfl, X.out⟩
end Go.Proofs.Ytmoeccghkpjbgaa

/- Package lot: Total. -/
namespace Go.Proofs.Ytmoeccghkpjbgaa
open Go.RowKit

/-- the alcohol and the mass of the first lots -/
def laS (l : List Lt) : Nat → Int
  | 0 => 0
  | k + 1 => laS l k + (gL l k).al
def lmS (l : List Lt) : Nat → Int
  | 0 => 0
  | k + 1 => lmS l k + (gL l k).ms
def toE (l : List Lt) : Int := if ltE l ≠ 0 then 1 else if plB (laS l l.length) (lmS l l.length) = true then 0 else 15
def toA (l : List Lt) : Int := if toE l = 0 then laS l l.length else 0
def toM (l : List Lt) : Int := if toE l = 0 then lmS l l.length else 0
/-- lots without a fault -/
structure LS (l : List Lt) : Prop where
  len : l.length ≤ 32
  ok : ∀ j, j < l.length → ltF (gL l j) (pvI l j) = 0
theorem ltE_zero {l : List Lt} : ltE l = 0 ↔ LS l := by
  unfold ltE
  obtain ⟨s1, s2⟩ := fst_spec (fun k => ltF (gL l k) (pvI l k) != 0) l.length
  have le := fst_le (fun k => ltF (gL l k) (pvI l k) != 0) l.length
  change ltK l ≤ l.length at le
  by_cases h : 32 < l.length
  · rw [if_pos h]; exact ⟨fun e => (by cases e), fun e => by have := e.len; omega⟩
  · rw [if_neg h]
    by_cases g : ltK l < l.length
    · rw [if_pos g]
      have g2 : (ltF (gL l (ltK l)) (pvI l (ltK l)) != 0) = true := s2 g
      exact ⟨fun e => (by rw [e] at g2; cases g2), fun e => e.ok _ g⟩
    · rw [if_neg g]
      exact ⟨fun _ => ⟨by omega, fun j hj => by
        have : ltK l = l.length := by omega
        have := s1 j (by show j < ltK l; omega)
        simpa using this⟩, fun _ => rfl⟩
/-- a lot without a fault -/
structure L1 (c : Lt) (bef : Int) : Prop where
  idb : 1 ≤ c.id ∧ c.id ≤ 1073741824
  ord : bef < c.id
  pl : plB c.al c.ms = true
  ms : 0 < c.ms
  len : c.sh.length ≤ 32
  sh : shO c.sh = true
  sum : sm fM c.sh = c.al
theorem ltF_zero {c : Lt} {bef : Int} : ltF c bef = 0 ↔ L1 c bef := by
  unfold ltF
  cases h0 : idB c.id with
  | false => rw [if_pos rfl]; exact ⟨fun e => (by cases e), fun e => by rw [idB_iff.2 e.idb] at h0; cases h0⟩
  | true =>
    rw [if_neg (by simp)]
    by_cases h1 : c.id ≤ bef
    · rw [if_pos h1]; exact ⟨fun e => (by cases e), fun e => by have := e.ord; omega⟩
    · rw [if_neg h1]
      cases h2 : fiB c.al c.ms with
      | false =>
        rw [if_pos rfl]
        refine ⟨fun e => (by cases e), fun e => ?_⟩
        unfold fiB at h2
        rw [e.pl, decide_eq_true e.ms] at h2; cases h2
      | true =>
        unfold fiB at h2
        rw [Bool.and_eq_true, decide_eq_true_eq] at h2
        rw [if_neg (by simp)]
        by_cases h3 : 32 < c.sh.length
        · rw [if_pos h3]; exact ⟨fun e => (by cases e), fun e => by have := e.len; omega⟩
        · rw [if_neg h3]
          cases h4 : shO c.sh with
          | false => rw [if_pos rfl]; exact ⟨fun e => (by cases e), fun e => by rw [e.sh] at h4; cases h4⟩
          | true =>
            rw [if_neg (by simp)]
            by_cases h5 : sm fM c.sh ≠ c.al
            · rw [if_pos h5]; exact ⟨fun e => (by cases e), fun e => absurd e.sum h5⟩
            · rw [if_neg h5]
              exact ⟨fun _ => ⟨idB_iff.1 h0, by omega, h2.1, h2.2, by omega, h4, by omega⟩, fun _ => rfl⟩
theorem LS.one {l : List Lt} (h : LS l) {j : Nat} (hj : j < l.length) : L1 (gL l j) (pvI l j) := ltF_zero.1 (h.ok j hj)
/-- sums of lots never become less -/
theorem la_mono {l : List Lt} (h : LS l) : ∀ n, n ≤ l.length → ∀ k, k ≤ n → 0 ≤ laS l k ∧ laS l k ≤ laS l n ∧ 0 ≤ lmS l k ∧ lmS l k ≤ lmS l n ∧ (0 < k → 0 < lmS l k)
  | 0, _, k, hk => by obtain rfl : k = 0 := by omega
                      simp [laS, lmS]
  | n + 1, hn, k, hk => by
    have o := h.one (j := n) (by omega)
    obtain ⟨p1, p2, p3, p4, p5⟩ := plB_iff.1 o.pl
    have ms := o.ms
    have e1 : laS l (n + 1) = laS l n + (gL l n).al := rfl
    have e2 : lmS l (n + 1) = lmS l n + (gL l n).ms := rfl
    by_cases e : k = n + 1
    · subst e
      have i := la_mono h n (by omega) n (Nat.le_refl _)
      omega
    · have i := la_mono h n (by omega) k (by omega)
      omega
theorem pl_dn {l : List Lt} (h : LS l) {k n : Nat} (hn : n ≤ l.length) (hk : k ≤ n) (hp : plB (laS l k) (lmS l k) = false) : plB (laS l n) (lmS l n) = false := by
  obtain ⟨i1, i2, i3, i4, i5⟩ := la_mono h n hn k hk
  cases e : plB (laS l n) (lmS l n) with
  | false => rfl
  | true =>
    obtain ⟨p1, p2, p3, p4, p5⟩ := plB_iff.1 e
    have : plB (laS l k) (lmS l k) = true := plB_iff.2 ⟨i1, by omega, i3, by omega, fun z => by
      by_cases k0 : 0 < k
      · have := i5 k0; omega
      · obtain rfl : k = 0 := by omega
        rfl⟩
    rw [this] at hp; cases hp
theorem suE_two {A M B K : Int} (h1 : plB A M = true) (h2 : plB B K = true) : suE [(A, M), (B, K)] = (if plB (A + B) (M + K) = true then 0 else 15) ∧ (plB (A + B) (M + K) = true → suA [(A, M), (B, K)] = A + B ∧ suM [(A, M), (B, K)] = M + K) ∧ (plB (A + B) (M + K) = false → suA [(A, M), (B, K)] = 0 ∧ suM [(A, M), (B, K)] = 0) := by
  have e1 : sm fA [(A, M), (B, K)] = A + B := by simp [sm, fA]
  have e2 : sm fM [(A, M), (B, K)] = M + K := by simp [sm, fM]
  have ha : allP [(A, M), (B, K)] = true := by simp [allP, h1, h2]
  have e : suE [(A, M), (B, K)] = (if plB (A + B) (M + K) = true then 0 else 15) := by
    unfold suE
    rw [e1, e2, ha]
    cases plB (A + B) (M + K) <;> simp
  refine ⟨e, fun h => ?_, fun h => ?_⟩
  · unfold suA suM; rw [e, h, e1, e2]; simp
  · unfold suA suM; rw [e, h]; simp
set_option maxHeartbeats 16000000 in
set_option maxRecDepth 100000 in
theorem ltTo_bad (a : Option Addr) (n cap : Nat) (l : List Lt) (w : World) (NV0 : Hid (Lts w (.slice a n cap) l)) (B : Bool) (HC : Hid (∀ W, Lts W (.slice a n cap) l → Calls Try.prog 63 #[.slice a n cap] W fun e w' => e = .returned (.bool B) ∧ Below W.heap.size W w')) (hB : B = false) :
    Calls Try.prog 35 #[.slice a n cap] w fun e w' => e = .returned (.tuple #[.agg #[.int .i64 0, .int .i64 0], .int .i64 1]) ∧ Below w.heap.size w w' := by
  subst hB
  have T0 := Lib.hid (Two.new w (.int .i64 0) (.int .i64 0) 41)
  have X := Lib.hid (bel_alloc (w := w) (o := .cells #[.int .i64 0, .int .i64 0] 41) (Below.refl _ _))
  go_enter Try.func35, Try.ntmps35
  go_wp2_with fail
  refine (HC.out _ (NV0.out.alloc _)).mono ?_
  rintro e w1 ⟨rfl, h1⟩
  replace T0 := Lib.hid (T0.out.below h1)
  replace X := Lib.hid (bel_trans X.out h1)
  have n1 : w.heap.size < w1.heap.size := by have := h1.size; rw [World.size_alloc] at this; omega
  clear h1 HC
  obtain ⟨z0, z1, z2, z3, z4⟩ := T0.out
  go_wp2
  obtain ⟨r0, r1⟩ := two_read w1 w.heap.size (.int .i64 0) (.int .i64 0) z0 z1
  refine bodyPost_ret (v := .tuple #[.agg #[.int .i64 0, .int .i64 0], .int .i64 1]) (by simp [results, Try.results35, go_sem, r0, r1]) rfl ?_
  exact ⟨rfl, (X.out.setCell (Nat.le_refl _) _).setCell (Nat.le_refl _) _⟩
set_option maxHeartbeats 16000000 in
set_option maxRecDepth 100000 in
theorem ltTo_ok (a : Option Addr) (n cap : Nat) (l : List Lt) (w : World) (NV0 : Hid (Lts w (.slice a n cap) l)) (B : Bool) (HC : Hid (∀ W, Lts W (.slice a n cap) l → Calls Try.prog 63 #[.slice a n cap] W fun e w' => e = .returned (.bool B) ∧ Below W.heap.size W w')) (hB : B = true) (hn : n ≤ 32) (hl : Hid (∀ j, j < n → plB (gL l j).al (gL l j).ms = true)) (hp : Hid (∀ k, k ≤ n → plB (laS l k) (lmS l k) = true)) (SA SM : Int) (hA : Hid (laS l n = SA)) (hM : Hid (lmS l n = SM)) :
    Calls Try.prog 35 #[.slice a n cap] w fun e w' => e = .returned (.tuple #[.agg #[.int .i64 SA, .int .i64 SM], .int .i64 0]) ∧ Below w.heap.size w w' := by
  subst hB
  have T0 := Lib.hid (Two.new w (.int .i64 0) (.int .i64 0) 41)
  have X := Lib.hid (bel_alloc (w := w) (o := .cells #[.int .i64 0, .int .i64 0] 41) (Below.refl _ _))
  go_enter Try.func35, Try.ntmps35
  go_wp2_with fail
  refine (HC.out _ (NV0.out.alloc _)).mono ?_
  rintro e w1 ⟨rfl, h1⟩
  replace T0 := Lib.hid (T0.out.below h1)
  replace X := Lib.hid (bel_trans X.out h1)
  have n1 : w.heap.size < w1.heap.size := by have := h1.size; rw [World.size_alloc] at this; omega
  clear h1 HC
  have T4 := Lib.hid (Two.new w1 (.int .i64 0) (.int .i64 0) 41)
  replace T0 := Lib.hid (T0.out.alloc (.cells #[.int .i64 0, .int .i64 0] 41))
  replace X := Lib.hid (bel_trans X.out (bel_alloc (o := .cells #[.int .i64 0, .int .i64 0] 41) (Below.refl _ _)))
  go_wp2_with fail
  generalize w1.heap.size = g at *
  go_loopw [14] (fun i wr => ∃ k : Nat, k ≤ n ∧ i = .int .i64 k ∧ Hid (Below w.heap.size w wr) ∧ Hid (Two w.heap.size wr (.int .i64 0) (.int .i64 0)) ∧ Hid (Two g wr (.int .i64 (laS l k)) (.int .i64 (lmS l k)))) (fun i _ => n - (intOf i).toNat)
  case atStart => exact ⟨0, Nat.zero_le _, rfl, X, T0, T4⟩
  case round =>
    clear X T0 T4
    obtain ⟨k, hk, rfl, X, T0, T4⟩ := hrel
    have NV := Lib.hid (NV0.out.below X.out)
    by_cases hlt : k < n
    · have l9 : (k : Int) < (n : Int) := by omega
      have hpk := hp.out k (by omega)
      have hpl := hl.out k (by omega)
      have s1 : laS l (k + 1) = laS l k + (gL l k).al := rfl
      have s2 : lmS l (k + 1) = lmS l k + (gL l k).ms := rfl
      have hpn := hp.out (k + 1) (by omega)
      obtain ⟨b, off, rfl, hb, hnl, hc⟩ := NV.out.at (by omega)
      clear hnl
      obtain ⟨sa, sc, c0, c1, c2, c3, hP⟩ := hc k (by omega)
      clear hc hP
      rw [s1, s2] at hpn
      generalize gL l k = c at *
      obtain ⟨cd, cA, cM, cS⟩ := c
      simp only at c0 c1 c2 c3 s1 s2 hpl hpn
      generalize cS.length = cn at *
      generalize laS l k = S at *
      generalize lmS l k = R at *
      obtain ⟨u1, u2, u3⟩ := suE_two hpk hpl
      have HS := Lib.hid (fun v W h => mxSu_any v [(S, R), (cA, cM)] W h)
      rw [u1, (u2 hpn).1, (u2 hpn).2] at HS
      clear u1 u2 u3
      have Q0 := Lib.hid (Quad.new wr (.int .i64 cd) (.int .i64 cA) (.int .i64 cM) (.slice sa cn sc) 43)
      replace X := Lib.hid (bel_trans X.out (bel_alloc (o := .cells #[.int .i64 cd, .int .i64 cA, .int .i64 cM, .slice sa cn sc] 43) (Below.refl _ _)))
      replace T0 := Lib.hid (T0.out.alloc (.cells #[.int .i64 cd, .int .i64 cA, .int .i64 cM, .slice sa cn sc] 43))
      replace T4 := Lib.hid (T4.out.alloc (.cells #[.int .i64 cd, .int .i64 cA, .int .i64 cM, .slice sa cn sc] 43))
      obtain ⟨t0, t1, t2, t3, t4⟩ := T4.out
      obtain ⟨_, b1, b2, _, _, _⟩ := Q0.out
      have L5 := Lib.hid (pts_litT 41 (wr.alloc (.cells #[.int .i64 cd, .int .i64 cA, .int .i64 cM, .slice sa cn sc] 43)) [(S, R), (cA, cM)] [.int .i64 S, .int .i64 R, .int .i64 cA, .int .i64 cM] rfl (by simp))
      simp only [World.size_alloc] at L5
      replace X := Lib.hid (bel_trans X.out (bel_alloc (o := .cells #[.int .i64 S, .int .i64 R, .int .i64 cA, .int .i64 cM] 41) (Below.refl _ _)))
      replace T0 := Lib.hid (T0.out.alloc (.cells #[.int .i64 S, .int .i64 R, .int .i64 cA, .int .i64 cM] 41))
      replace T4 := Lib.hid (T4.out.alloc (.cells #[.int .i64 S, .int .i64 R, .int .i64 cA, .int .i64 cM] 41))
      rw [if_pos hpn] at HS
      go_wp2_with fail
      refine (HS.out _ _ L5.out).mono ?_
      rintro e w3 ⟨rfl, h1⟩
      replace X := Lib.hid (bel_trans X.out h1)
      replace T0 := Lib.hid (T0.out.below h1)
      replace T4 := Lib.hid (T4.out.below h1)
      clear h1 t0 t1 t2 t3 t4 b1 b2 L5
      have m1 : g ≠ w.heap.size := by omega
      have m2 : w.heap.size ≤ g := by omega
      have N0 := Lib.hid ((T0.out.other ⟨g, 0, none⟩ m1 (.int .i64 (S + cA))).other ⟨g, 1, none⟩ m1 (.int .i64 (R + cM)))
      have N4 := Lib.hid ((T4.out.set0 (.int .i64 (S + cA))).set1 (.int .i64 (R + cM)))
      have NX := Lib.hid ((X.out.setCell (p := ⟨g, 0, none⟩) m2 (.int .i64 (S + cA))).setCell (p := ⟨g, 1, none⟩) m2 (.int .i64 (R + cM)))
      obtain ⟨t0, t1, t2, t3, t4⟩ := T4.out
      go_wp2
      go_roundw
      case rel => exact ⟨k + 1, by omega, by go_num, NX, N0, by rw [s1, s2]; exact N4⟩
      case measure => simp [intOf]; omega
    · obtain rfl : k = n := by omega
      rw [hA.out, hM.out] at T4
      obtain ⟨z0, z1, z2, z3, z4⟩ := T0.out
      obtain ⟨t0, t1, _, _, _⟩ := T4.out
      go_wp2
      obtain ⟨r0, r1⟩ := two_read wr w.heap.size (.int .i64 SA) (.int .i64 SM) z0 z1
      refine bodyPost_ret (v := .tuple #[.agg #[.int .i64 SA, .int .i64 SM], .int .i64 0]) (by simp [results, Try.results35, go_sem, r0, r1]) rfl ?_
      exact ⟨rfl, (X.out.setCell (Nat.le_refl _) _).setCell (Nat.le_refl _) _⟩
set_option maxHeartbeats 16000000 in
set_option maxRecDepth 100000 in
theorem ltTo_over (a : Option Addr) (n cap : Nat) (l : List Lt) (w : World) (NV0 : Hid (Lts w (.slice a n cap) l)) (B : Bool) (HC : Hid (∀ W, Lts W (.slice a n cap) l → Calls Try.prog 63 #[.slice a n cap] W fun e w' => e = .returned (.bool B) ∧ Below W.heap.size W w')) (hB : B = true) (hn : n ≤ 32) (hl : Hid (∀ j, j < n → plB (gL l j).al (gL l j).ms = true)) (m : Nat) (hm : m < n) (hp : Hid (∀ k, k ≤ m → plB (laS l k) (lmS l k) = true)) (hq : plB (laS l (m + 1)) (lmS l (m + 1)) = false) :
    Calls Try.prog 35 #[.slice a n cap] w fun e w' => e = .returned (.tuple #[.agg #[.int .i64 0, .int .i64 0], .int .i64 15]) ∧ Below w.heap.size w w' := by
  subst hB
  have T0 := Lib.hid (Two.new w (.int .i64 0) (.int .i64 0) 41)
  have X := Lib.hid (bel_alloc (w := w) (o := .cells #[.int .i64 0, .int .i64 0] 41) (Below.refl _ _))
  go_enter Try.func35, Try.ntmps35
  go_wp2_with fail
  refine (HC.out _ (NV0.out.alloc _)).mono ?_
  rintro e w1 ⟨rfl, h1⟩
  replace T0 := Lib.hid (T0.out.below h1)
  replace X := Lib.hid (bel_trans X.out h1)
  have n1 : w.heap.size < w1.heap.size := by have := h1.size; rw [World.size_alloc] at this; omega
  clear h1 HC
  have T4 := Lib.hid (Two.new w1 (.int .i64 0) (.int .i64 0) 41)
  replace T0 := Lib.hid (T0.out.alloc (.cells #[.int .i64 0, .int .i64 0] 41))
  replace X := Lib.hid (bel_trans X.out (bel_alloc (o := .cells #[.int .i64 0, .int .i64 0] 41) (Below.refl _ _)))
  go_wp2_with fail
  generalize w1.heap.size = g at *
  go_loopw [14] (fun i wr => ∃ k : Nat, k ≤ m ∧ i = .int .i64 k ∧ Hid (Below w.heap.size w wr) ∧ Hid (Two w.heap.size wr (.int .i64 0) (.int .i64 0)) ∧ Hid (Two g wr (.int .i64 (laS l k)) (.int .i64 (lmS l k)))) (fun i _ => n - (intOf i).toNat)
  case atStart => exact ⟨0, Nat.zero_le _, rfl, X, T0, T4⟩
  case round =>
    clear X T0 T4
    obtain ⟨k, hk, rfl, X, T0, T4⟩ := hrel
    have NV := Lib.hid (NV0.out.below X.out)
    by_cases hlt : k < m
    · have l9 : (k : Int) < (n : Int) := by omega
      have hpk := hp.out k (by omega)
      have hpl := hl.out k (by omega)
      have s1 : laS l (k + 1) = laS l k + (gL l k).al := rfl
      have s2 : lmS l (k + 1) = lmS l k + (gL l k).ms := rfl
      have hpn := hp.out (k + 1) (by omega)
      obtain ⟨b, off, rfl, hb, hnl, hc⟩ := NV.out.at (by omega)
      clear hnl
      obtain ⟨sa, sc, c0, c1, c2, c3, hP⟩ := hc k (by omega)
      clear hc hP
      rw [s1, s2] at hpn
      generalize gL l k = c at *
      obtain ⟨cd, cA, cM, cS⟩ := c
      simp only at c0 c1 c2 c3 s1 s2 hpl hpn
      generalize cS.length = cn at *
      generalize laS l k = S at *
      generalize lmS l k = R at *
      obtain ⟨u1, u2, u3⟩ := suE_two hpk hpl
      have HS := Lib.hid (fun v W h => mxSu_any v [(S, R), (cA, cM)] W h)
      rw [u1, (u2 hpn).1, (u2 hpn).2] at HS
      clear u1 u2 u3
      have Q0 := Lib.hid (Quad.new wr (.int .i64 cd) (.int .i64 cA) (.int .i64 cM) (.slice sa cn sc) 43)
      replace X := Lib.hid (bel_trans X.out (bel_alloc (o := .cells #[.int .i64 cd, .int .i64 cA, .int .i64 cM, .slice sa cn sc] 43) (Below.refl _ _)))
      replace T0 := Lib.hid (T0.out.alloc (.cells #[.int .i64 cd, .int .i64 cA, .int .i64 cM, .slice sa cn sc] 43))
      replace T4 := Lib.hid (T4.out.alloc (.cells #[.int .i64 cd, .int .i64 cA, .int .i64 cM, .slice sa cn sc] 43))
      obtain ⟨t0, t1, t2, t3, t4⟩ := T4.out
      obtain ⟨_, b1, b2, _, _, _⟩ := Q0.out
      have L5 := Lib.hid (pts_litT 41 (wr.alloc (.cells #[.int .i64 cd, .int .i64 cA, .int .i64 cM, .slice sa cn sc] 43)) [(S, R), (cA, cM)] [.int .i64 S, .int .i64 R, .int .i64 cA, .int .i64 cM] rfl (by simp))
      simp only [World.size_alloc] at L5
      replace X := Lib.hid (bel_trans X.out (bel_alloc (o := .cells #[.int .i64 S, .int .i64 R, .int .i64 cA, .int .i64 cM] 41) (Below.refl _ _)))
      replace T0 := Lib.hid (T0.out.alloc (.cells #[.int .i64 S, .int .i64 R, .int .i64 cA, .int .i64 cM] 41))
      replace T4 := Lib.hid (T4.out.alloc (.cells #[.int .i64 S, .int .i64 R, .int .i64 cA, .int .i64 cM] 41))
      rw [if_pos hpn] at HS
      go_wp2_with fail
      refine (HS.out _ _ L5.out).mono ?_
      rintro e w3 ⟨rfl, h1⟩
      replace X := Lib.hid (bel_trans X.out h1)
      replace T0 := Lib.hid (T0.out.below h1)
      replace T4 := Lib.hid (T4.out.below h1)
      clear h1 t0 t1 t2 t3 t4 b1 b2 L5
      have m1 : g ≠ w.heap.size := by omega
      have m2 : w.heap.size ≤ g := by omega
      have N0 := Lib.hid ((T0.out.other ⟨g, 0, none⟩ m1 (.int .i64 (S + cA))).other ⟨g, 1, none⟩ m1 (.int .i64 (R + cM)))
      have N4 := Lib.hid ((T4.out.set0 (.int .i64 (S + cA))).set1 (.int .i64 (R + cM)))
      have NX := Lib.hid ((X.out.setCell (p := ⟨g, 0, none⟩) m2 (.int .i64 (S + cA))).setCell (p := ⟨g, 1, none⟩) m2 (.int .i64 (R + cM)))
      obtain ⟨t0, t1, t2, t3, t4⟩ := T4.out
      go_wp2
      go_roundw
      case rel => exact ⟨k + 1, by omega, by go_num, NX, N0, by rw [s1, s2]; exact N4⟩
      case measure => simp [intOf]; omega
    · obtain rfl : k = m := by omega
      have l9 : (k : Int) < (n : Int) := by omega
      have hpk := hp.out k (Nat.le_refl _)
      have hpl := hl.out k (by omega)
      have s1 : laS l (k + 1) = laS l k + (gL l k).al := rfl
      have s2 : lmS l (k + 1) = lmS l k + (gL l k).ms := rfl
      have hpn := hq
      clear hq
      obtain ⟨b, off, rfl, hb, hnl, hc⟩ := NV.out.at (by omega)
      clear hnl
      obtain ⟨sa, sc, c0, c1, c2, c3, hP⟩ := hc k (by omega)
      clear hc hP
      rw [s1, s2] at hpn
      generalize gL l k = c at *
      obtain ⟨cd, cA, cM, cS⟩ := c
      simp only at c0 c1 c2 c3 s1 s2 hpl hpn
      generalize cS.length = cn at *
      generalize laS l k = S at *
      generalize lmS l k = R at *
      obtain ⟨u1, u2, u3⟩ := suE_two hpk hpl
      have HS := Lib.hid (fun v W h => mxSu_any v [(S, R), (cA, cM)] W h)
      rw [u1, (u3 hpn).1, (u3 hpn).2] at HS
      clear u1 u2 u3
      have Q0 := Lib.hid (Quad.new wr (.int .i64 cd) (.int .i64 cA) (.int .i64 cM) (.slice sa cn sc) 43)
      replace X := Lib.hid (bel_trans X.out (bel_alloc (o := .cells #[.int .i64 cd, .int .i64 cA, .int .i64 cM, .slice sa cn sc] 43) (Below.refl _ _)))
      replace T0 := Lib.hid (T0.out.alloc (.cells #[.int .i64 cd, .int .i64 cA, .int .i64 cM, .slice sa cn sc] 43))
      replace T4 := Lib.hid (T4.out.alloc (.cells #[.int .i64 cd, .int .i64 cA, .int .i64 cM, .slice sa cn sc] 43))
      obtain ⟨t0, t1, t2, t3, t4⟩ := T4.out
      obtain ⟨_, b1, b2, _, _, _⟩ := Q0.out
      have L5 := Lib.hid (pts_litT 41 (wr.alloc (.cells #[.int .i64 cd, .int .i64 cA, .int .i64 cM, .slice sa cn sc] 43)) [(S, R), (cA, cM)] [.int .i64 S, .int .i64 R, .int .i64 cA, .int .i64 cM] rfl (by simp))
      simp only [World.size_alloc] at L5
      replace X := Lib.hid (bel_trans X.out (bel_alloc (o := .cells #[.int .i64 S, .int .i64 R, .int .i64 cA, .int .i64 cM] 41) (Below.refl _ _)))
      replace T0 := Lib.hid (T0.out.alloc (.cells #[.int .i64 S, .int .i64 R, .int .i64 cA, .int .i64 cM] 41))
      replace T4 := Lib.hid (T4.out.alloc (.cells #[.int .i64 S, .int .i64 R, .int .i64 cA, .int .i64 cM] 41))
      rw [if_neg (by rw [hpn]; simp)] at HS
      go_wp2_with fail
      refine (HS.out _ _ L5.out).mono ?_
      rintro e w3 ⟨rfl, h1⟩
      replace X := Lib.hid (bel_trans X.out h1)
      replace T0 := Lib.hid (T0.out.below h1)
      replace T4 := Lib.hid (T4.out.below h1)
      clear h1 t0 t1 t2 t3 t4 b1 b2 L5
      have m1 : g ≠ w.heap.size := by omega
      have m2 : w.heap.size ≤ g := by omega
      have N0 := Lib.hid ((T0.out.other ⟨g, 0, none⟩ m1 (.int .i64 0)).other ⟨g, 1, none⟩ m1 (.int .i64 0))
      have NX := Lib.hid ((X.out.setCell (p := ⟨g, 0, none⟩) m2 (.int .i64 0)).setCell (p := ⟨g, 1, none⟩) m2 (.int .i64 0))
      obtain ⟨t0, t1, t2, t3, t4⟩ := T4.out
      go_upto_region 9 with fail
      generalize (w3.setCell ⟨g, 0, none⟩ (.int .i64 0)).setCell ⟨g, 1, none⟩ (.int .i64 0) = W9 at *
      clear t0 t1 t2 t3 t4 T0 X
      have X := Lib.hid NX.out
      obtain ⟨z0, z1, z2, z3, z4⟩ := N0.out
      go_wp2
      obtain ⟨r0, r1⟩ := two_read W9 w.heap.size (.int .i64 0) (.int .i64 0) z0 z1
      refine bodyPost_ret (v := .tuple #[.agg #[.int .i64 0, .int .i64 0], .int .i64 15]) (by simp [results, Try.results35, go_sem, r0, r1]) rfl ?_
      exact ⟨rfl, (X.out.setCell (Nat.le_refl _) _).setCell (Nat.le_refl _) _⟩
theorem ltTo_any (v : Value) (l : List Lt) (w : World) (hv : Lts w v l) (hs : ∀ j, j < l.length → (gL l j).sh.length ≤ 1000) :
    Calls Try.prog 35 #[v] w fun e w' => e = .returned (.tuple #[.agg #[.int .i64 (toA l), .int .i64 (toM l)], .int .i64 (toE l)]) ∧ Below w.heap.size w w' := by
  obtain ⟨a, cap, rfl, hcap, _⟩ := id hv
  have HC := Lib.hid (fun W h => ltSo_any (.slice a l.length cap) l W h hs)
  unfold toA toM
  by_cases h : ltE l = 0
  · have L := ltE_zero.1 h
    have hB : (ltE l == 0) = true := by simpa using h
    cases hp : plB (laS l l.length) (lmS l l.length) with
    | true =>
      have e : toE l = 0 := by unfold toE; rw [if_neg (by omega), if_pos hp]
      rw [e]
      exact ltTo_ok a _ cap l w hv _ HC hB L.len (Lib.hid fun j hj => (L.one hj).pl) (Lib.hid fun k hk => by
        cases g : plB (laS l k) (lmS l k) with
        | true => rfl
        | false => have := pl_dn L (Nat.le_refl _) hk g; rw [this] at hp; cases hp) _ _ rfl rfl
    | false =>
      have e : toE l = 15 := by unfold toE; rw [if_neg (by omega), if_neg (by rw [hp]; simp)]
      rw [e]
      obtain ⟨s1, s2⟩ := fst_spec (fun k => !plB (laS l (k + 1)) (lmS l (k + 1))) l.length
      have le := fst_le (fun k => !plB (laS l (k + 1)) (lmS l (k + 1))) l.length
      generalize fst (fun k => !plB (laS l (k + 1)) (lmS l (k + 1))) l.length = m at *
      have z0 : plB (laS l 0) (lmS l 0) = true := plB_zero
      have hm : m < l.length := by
        rcases Nat.lt_or_ge m l.length with g | g
        · exact g
        · exfalso
          cases hl : l.length with
          | zero => rw [hl] at hp; rw [z0] at hp; cases hp
          | succ q =>
            have := s1 q (by omega)
            rw [hl] at hp
            rw [hp] at this; cases this
      exact ltTo_over a _ cap l w hv _ HC hB L.len (Lib.hid fun j hj => (L.one hj).pl) m hm (Lib.hid fun k hk => by
        cases k with
        | zero => exact z0
        | succ k => simpa using s1 k (by omega)) (by simpa using s2 hm)
  · have e : toE l = 1 := by unfold toE; rw [if_pos h]
    rw [e]
    exact ltTo_bad a _ cap l w hv _ HC (by simpa using h)
end Go.Proofs.Ytmoeccghkpjbgaa

/- Package lot: Of. -/
namespace Go.Proofs.Ytmoeccghkpjbgaa
open Go.RowKit

/-- the alcohol of a fill in the first shares -/
def shF (s : List (Int × Int)) (f : Int) : Nat → Int
  | 0 => 0
  | k + 1 => if gX s k = f then shF s f k + gR s k else shF s f k
/-- the alcohol of a fill in the first lots -/
def ofS (l : List Lt) (f : Int) : Nat → Int
  | 0 => 0
  | k + 1 => ofS l f k + shF (gL l k).sh f (gL l k).sh.length
def lofE (l : List Lt) (f : Int) : Int := if ltE l ≠ 0 then 1 else if idB f = true then 0 else 2
def ofV (l : List Lt) (f : Int) : Int := if lofE l f = 0 then ofS l f l.length else 0
theorem shF_bd {s : List (Int × Int)} (h : shO s = true) (f : Int) : ∀ k, k ≤ s.length → 0 ≤ shF s f k ∧ shF s f k ≤ 10737418240000 * k
  | 0, _ => by simp [shF]
  | k + 1, hk => by
    have i := shF_bd h f k (by omega)
    have x := (shB_false.1 (shO_iff.1 h k (by omega))).2.2
    unfold shF
    split <;> omega
theorem ofS_bd {l : List Lt} (h : LS l) (f : Int) : ∀ k, k ≤ l.length → 0 ≤ ofS l f k ∧ ofS l f k ≤ 343597383680000 * k
  | 0, _ => by simp [ofS]
  | k + 1, hk => by
    have i := ofS_bd h f k (by omega)
    have o := h.one (j := k) (by omega)
    have x := shF_bd o.sh f (gL l k).sh.length (Nat.le_refl _)
    have ln := o.len
    unfold ofS
    omega
set_option maxHeartbeats 16000000 in
set_option maxRecDepth 100000 in
theorem ltOf_bad (a : Option Addr) (n cap : Nat) (l : List Lt) (f : Int) (w : World) (NV0 : Hid (Lts w (.slice a n cap) l)) (B : Bool) (HC : Hid (∀ W, Lts W (.slice a n cap) l → Calls Try.prog 63 #[.slice a n cap] W fun e w' => e = .returned (.bool B) ∧ Below W.heap.size W w')) (hB : B = false) :
    Calls Try.prog 34 #[.slice a n cap, .int .i64 f] w fun e w' => e = .returned (.tuple #[.int .i64 0, .int .i64 1]) ∧ Below w.heap.size w w' := by
  subst hB
  have HI := Lib.hid (fun W => ltId_any f W)
  go_enter Try.func34, Try.ntmps34
  go_wp2_with fail
  refine (HC.out _ NV0.out).mono ?_
  rintro e w1 ⟨rfl, h1⟩
  have X := Lib.hid h1
  clear h1 HC
  go_wp2
  go_returns
  exact ⟨rfl, X.out⟩
set_option maxHeartbeats 16000000 in
set_option maxRecDepth 100000 in
theorem ltOf_id (a : Option Addr) (n cap : Nat) (l : List Lt) (f : Int) (w : World) (NV0 : Hid (Lts w (.slice a n cap) l)) (B : Bool) (HC : Hid (∀ W, Lts W (.slice a n cap) l → Calls Try.prog 63 #[.slice a n cap] W fun e w' => e = .returned (.bool B) ∧ Below W.heap.size W w')) (hB : B = true) (hi : idB f = false) :
    Calls Try.prog 34 #[.slice a n cap, .int .i64 f] w fun e w' => e = .returned (.tuple #[.int .i64 0, .int .i64 2]) ∧ Below w.heap.size w w' := by
  subst hB
  have HI := Lib.hid (fun W => ltId_any f W)
  go_enter Try.func34, Try.ntmps34
  go_wp2_with fail
  refine (HC.out _ NV0.out).mono ?_
  rintro e w1 ⟨rfl, h1⟩
  have X := Lib.hid h1
  clear h1 HC
  rw [hi] at HI
  go_wp2_with fail
  refine (HI.out _).mono ?_
  rintro e w2 ⟨rfl, hw⟩
  subst hw
  go_wp2
  go_returns
  exact ⟨rfl, X.out⟩
set_option maxHeartbeats 16000000 in
set_option maxRecDepth 100000 in
theorem ltOf_ok (a : Option Addr) (n cap : Nat) (l : List Lt) (f : Int) (w : World) (NV0 : Hid (Lts w (.slice a n cap) l)) (B : Bool) (HC : Hid (∀ W, Lts W (.slice a n cap) l → Calls Try.prog 63 #[.slice a n cap] W fun e w' => e = .returned (.bool B) ∧ Below W.heap.size W w')) (hB : B = true) (hi : idB f = true) (hn : n ≤ 32) (HO : Hid (∀ k, k < n → shO (gL l k).sh = true ∧ (gL l k).sh.length ≤ 32)) (HS : Hid (∀ k, k ≤ n → 0 ≤ ofS l f k ∧ ofS l f k ≤ 343597383680000 * k)) (T : Int) (hT : Hid (ofS l f n = T)) :
    Calls Try.prog 34 #[.slice a n cap, .int .i64 f] w fun e w' => e = .returned (.tuple #[.int .i64 T, .int .i64 0]) ∧ Below w.heap.size w w' := by
  subst hB
  have HI := Lib.hid (fun W => ltId_any f W)
  go_enter Try.func34, Try.ntmps34
  go_wp2_with fail
  refine (HC.out _ NV0.out).mono ?_
  rintro e w1 ⟨rfl, h1⟩
  have X := Lib.hid h1
  clear h1 HC
  rw [hi] at HI
  go_wp2_with fail
  refine (HI.out _).mono ?_
  rintro e w2 ⟨rfl, hw⟩
  subst hw
  clear HI
  go_wp2_with fail
  go_loopw [6, 19] (fun t i wr => ∃ k : Nat, k ≤ n ∧ i = .int .i64 k ∧ t = .int .i64 (ofS l f k) ∧ Hid (Below w.heap.size w wr)) (fun _ i _ => n - (intOf i).toNat)
  case atStart => exact ⟨0, Nat.zero_le _, rfl, rfl, X⟩
  case round =>
    clear X
    obtain ⟨k, hk, rfl, rfl, X⟩ := hrel
    have NV := Lib.hid (NV0.out.below X.out)
    by_cases hlt : k < n
    · have l9 : (k : Int) < (n : Int) := by omega
      obtain ⟨ho, hc32⟩ := HO.out k hlt
      have b1 := HS.out k hk
      have s1 : ofS l f (k + 1) = ofS l f k + shF (gL l k).sh f (gL l k).sh.length := rfl
      obtain ⟨b, off, rfl, hb, hnl, hc⟩ := NV.out.at (by omega)
      clear hnl
      obtain ⟨sa, sc, c0, c1, c2, c3, hP⟩ := hc k (by omega)
      have PS := Lib.hid hP
      clear hc hP
      generalize gL l k = c at *
      obtain ⟨cd, cA, cM, cS⟩ := c
      simp only at c0 c1 c2 c3 s1 ho hc32
      replace PS : Hid (Pts wr (.slice sa cS.length sc) cS) := PS
      have HY := Lib.hid (shF_bd ho f)
      have HX := Lib.hid (fun j hj => (shB_false.1 (shO_iff.1 ho j hj)).2.2)
      clear ho
      replace s1 := Lib.hid s1
      generalize hcn : cS.length = cn at *
      generalize ofS l f k = S at *
      have Q0 := Lib.hid (Quad.new wr (.int .i64 cd) (.int .i64 cA) (.int .i64 cM) (.slice sa cn sc) 43)
      replace X := Lib.hid (bel_trans X.out (bel_alloc (o := .cells #[.int .i64 cd, .int .i64 cA, .int .i64 cM, .slice sa cn sc] 43) (Below.refl _ _)))
      replace PS := Lib.hid (PS.out.alloc (.cells #[.int .i64 cd, .int .i64 cA, .int .i64 cM, .slice sa cn sc] 43))
      go_upto_region 9 with fail
      generalize wr.alloc (.cells #[.int .i64 cd, .int .i64 cA, .int .i64 cM, .slice sa cn sc] 43) = W at *
      generalize wr.heap.size = g at *
      obtain ⟨_, _, _, b3, _, _⟩ := Q0.out
      clear c0 c1 c2 c3
      go_wp2_with fail
      go_loopw [6, 26] (fun t i wi => ∃ j : Nat, j ≤ cn ∧ i = .int .i64 j ∧ t = .int .i64 (S + shF cS f j) ∧ Hid (Below w.heap.size w wi) ∧ Hid (Pts wi (.slice sa cn sc) cS)) (fun _ i _ => cn - (intOf i).toNat)
      case atStart => exact ⟨0, Nat.zero_le _, rfl, by simp [shF], X, PS⟩
      case round =>
        clear X PS b3 Q0
        obtain ⟨j, hj, rfl, rfl, X, PS⟩ := hrel
        by_cases hjn : j < cn
        · have l8 : (j : Int) < (cn : Int) := by omega
          have y := HY.out j hj
          have x := HX.out j hjn
          have s2 : shF cS f (j + 1) = if gX cS j = f then shF cS f j + gR cS j else shF cS f j := rfl
          obtain ⟨b', off', rfl, hb', hc'⟩ := PS.out.at (by omega)
          obtain ⟨d0, d1⟩ := hc' j hjn
          clear hc'
          generalize gX cS j = p at *
          generalize gR cS j = r at *
          generalize shF cS f j = Z at *
          have w1 : IntKind.i64.wrap (S + Z + r) = S + Z + r := wrap_in _ ⟨by omega, by omega⟩
          have P0 := Two.new wr (.int .i64 p) (.int .i64 r) 52
          replace X := Lib.hid (bel_trans X.out (bel_alloc (o := .cells #[.int .i64 p, .int .i64 r] 52) (Below.refl _ _)))
          replace PS := Lib.hid (PS.out.alloc (.cells #[.int .i64 p, .int .i64 r] 52))
          obtain ⟨p0, p1, _, _, _⟩ := P0
          by_cases hpf : p = f
          · rw [if_pos hpf] at s2
            have d : (p == f) = true := by simpa using hpf
            clear hpf
            go_wp2
            go_roundw
            case rel => exact ⟨j + 1, by omega, by go_num, by rw [s2, Int.add_assoc], X, PS⟩
            case measure => simp [intOf]; omega
          · rw [if_neg hpf] at s2
            have d : (p == f) = false := by simpa using hpf
            clear hpf
            go_wp2
            go_roundw
            case rel => exact ⟨j + 1, by omega, by go_num, by rw [s2], X, PS⟩
            case measure => simp [intOf]; omega
        · obtain rfl : cn = j := by omega
          go_wp2
          go_roundw
          case rel => exact ⟨k + 1, by omega, by go_num, by rw [s1.out], X⟩
          case measure => simp [intOf]; omega
    · obtain rfl : k = n := by omega
      rw [hT.out]
      go_wp2
      go_returns
      exact ⟨rfl, X.out⟩
theorem ltOf_any (v : Value) (l : List Lt) (f : Int) (w : World) (hv : Lts w v l) (hs : ∀ j, j < l.length → (gL l j).sh.length ≤ 1000) :
    Calls Try.prog 34 #[v, .int .i64 f] w fun e w' => e = .returned (.tuple #[.int .i64 (ofV l f), .int .i64 (lofE l f)]) ∧ Below w.heap.size w w' := by
  obtain ⟨a, cap, rfl, hcap, _⟩ := id hv
  have HC := Lib.hid (fun W h => ltSo_any (.slice a l.length cap) l W h hs)
  unfold ofV
  by_cases h : ltE l = 0
  · have L := ltE_zero.1 h
    have hB : (ltE l == 0) = true := by simpa using h
    cases hi : idB f with
    | true =>
      have e : lofE l f = 0 := by unfold lofE; rw [if_neg (by omega), if_pos hi]
      rw [e]
      exact ltOf_ok a _ cap l f w hv _ HC hB hi L.len (Lib.hid fun k hk => ⟨(L.one hk).sh, (L.one hk).len⟩) (Lib.hid fun k hk => ofS_bd L f k hk) _ rfl
    | false =>
      have e : lofE l f = 2 := by unfold lofE; rw [if_neg (by omega), if_neg (by rw [hi]; simp)]
      rw [e]
      exact ltOf_id a _ cap l f w hv _ HC hB hi
  · have e : lofE l f = 1 := by unfold lofE; rw [if_pos h]
    rw [e]
    exact ltOf_bad a _ cap l f w hv _ HC (by simpa using h)
end Go.Proofs.Ytmoeccghkpjbgaa

/- Package lot: copies of shares. -/
namespace Go.Proofs.Ytmoeccghkpjbgaa
open Go.RowKit

namespace RH
theorem info_parts {P : Program} {t : TypeId} {z : Value} {s by' : Nat} (h : (P.info? t).map (fun i => (i.zero, i.size, i.bytes)) = some (some z, s, by')) : ∃ i, P.info? t = some i ∧ i.zero = some z ∧ i.size = s ∧ i.bytes = by' := by
  cases hi : P.info? t with
  | none => rw [hi] at h; cases h
  | some i => rw [hi] at h; simp at h; exact ⟨i, rfl, h.1, h.2.1, h.2.2⟩
theorem sh_info : (Try.prog.info? 52).map (fun i => (i.zero, i.size, i.bytes)) = some (some (.agg #[.int .i64 0, .int .i64 0]), 2, 16) := by kernel_rfl
theorem lt_info : (Try.prog.info? 43).map (fun i => (i.zero, i.size, i.bytes)) = some (some (.agg #[.int .i64 0, .int .i64 0, .int .i64 0, .slice none 0 0]), 4, 48) := by kernel_rfl
theorem row_bel {W W' : World} {B n size : Nat} {e : TypeId} {v : Value} {xs : List Value} (h : W.ownsRow B e size v n xs) (hb : Below W.heap.size W W') : W'.ownsRow B e size v n xs := by
  obtain ⟨h1, h2⟩ := h
  refine ⟨h1, ?_⟩
  rcases h2 with ⟨h2, h3⟩ | ⟨g, cap, cur, h2, hg, hh, r⟩
  · exact .inl ⟨h2, h3⟩
  · refine .inr ⟨g, cap, cur, h2, hg, ?_, r⟩
    rw [hb.block _ (Array.getElem?_eq_some_iff.1 hh).1]
    exact hh
/-- shares in a row of the call's own -/
def Sh (w : World) (B : Nat) (v : Value) (l : List (Int × Int)) : Prop := w.ownsRow B 52 2 v l.length (flat l)
theorem Sh.below {W W' : World} {B : Nat} {v : Value} {l : List (Int × Int)} (h : Sh W B v l) (hb : Below W.heap.size W W') : Sh W' B v l := row_bel h hb
theorem Sh.pts {w : World} {B : Nat} {v : Value} {l : List (Int × Int)} (h : Sh w B v l) : Pts w v l := by
  have h' := h
  obtain ⟨_, h2⟩ := h
  rcases h2 with ⟨rfl, hn⟩ | ⟨g, cap, cur, rfl, hg, hh, hc, hm, hs, ht⟩
  · exact ⟨none, 0, by rw [hn], by omega, .inl hn⟩
  · have hlt : g < w.heap.size := (Array.getElem?_eq_some_iff.1 hh).1
    unfold maxLen at hm
    refine ⟨_, cap, rfl, ⟨hc, by omega⟩, .inr ⟨g, 0, rfl, hlt, fun j hj => ?_⟩⟩
    have hcell := World.ownsRow.cells h' (g := g) rfl
    have hf := flat_at l j hj
    have c0 := hcell _ _ hf.1
    have c1 := hcell _ _ hf.2
    rw [Go.WideShapes.add_plain] at c0 c1
    exact ⟨c0, by rw [Nat.add_assoc]; exact c1⟩
theorem Sh.shape {W : World} {B : Nat} {v : Value} {l : List (Int × Int)} (h : Sh W B v l) : ∃ a cap, v = .slice a l.length cap := by
  obtain ⟨a, cap, e, _⟩ := h.pts
  exact ⟨a, cap, e⟩
theorem no_row (w : World) (B size : Nat) (T : TypeId) (hB : B ≤ w.heap.size) : (w.alloc (.cells #[] T)).ownsRow B T size (.slice (some ⟨w.heap.size, 0, none⟩) 0 0) 0 [] :=
  ⟨by simp, .inr ⟨w.heap.size, 0, #[], rfl, hB, heap_alloc_new w _, Nat.le_refl _, by unfold maxLen; omega, by simp, by simp⟩⟩
/-- nothing is appended -/
theorem wpList_append_nothing {P : Program} {w : World} {ops : Array Oper} {rest : List Oper} {o : Oper} {a : Act} {Q : Exit → Act → World → Prop} (hgd : o.guard = none) (s x : Operand) (t : TypeId)
    (ho : o.op = .call { callee := .builtin .append, args := #[s, x], argTypes := #[t, t] }) (e : TypeId) (i : TypeInfo) (ht : P.underlying t = some (.slice e)) (hi : P.info? e = some i)
    (ad : Addr) (c0 c : Nat) (hs : a.eval s = .slice (some ad) 0 c0) (hx : a.eval x = .slice none 0 c)
    (h : wpList P ops Q rest (a.put o.dst (.slice (some ad) 0 c0)) w) : wpList P ops Q (o :: rest) a w := by
  refine wpList_plain hgd fun K hK => ?_
  have hr : (Builtin.append_ #[t, t] o.type #[.slice (some ad) 0 c0, .slice none 0 c]).run P w = .ok (.slice (some ad) 0 c0) w := by
    simp [Builtin.append_, run_underlying ht, sizeOf, typeInfo, hi, Builtin.lenOf, Builtin.firstCells, loadCells, loadCellsFrom, storeCells]
  unfold Oper.wp execOp
  simp only [ho, resolve, invoke, builtin, Sem.run_bind, Sem.run_pure, Result.andThen_ok, List.map_toArray, List.map_cons, List.map_nil, hs, hx, hr]
  exact hK _ _ h
end RH
end Go.Proofs.Ytmoeccghkpjbgaa

/- Package lot: copies of lots. -/
namespace Go.Proofs.Ytmoeccghkpjbgaa
open Go.RowKit

/-- the cells of lots, the shares of lot j in f j -/
def ltCell (c : Lt) (s : Value) (r : Nat) : Value := if r = 0 then .int .i64 c.id else if r = 1 then .int .i64 c.al else if r = 2 then .int .i64 c.ms else s
def ltRow (l : List Lt) (f : Nat → Value) (n : Nat) : List Value := (List.range (n * 4)).map fun k => ltCell (gL l (k / 4)) (f (k / 4)) (k % 4)
theorem ltRow_len (l : List Lt) (f : Nat → Value) (n : Nat) : (ltRow l f n).length = n * 4 := by simp [ltRow]
theorem ltRow_at (l : List Lt) (f : Nat → Value) (n j r : Nat) (hj : j < n) (hr : r < 4) : (ltRow l f n)[j * 4 + r]? = some (ltCell (gL l j) (f j) r) := by
  unfold ltRow
  rw [List.getElem?_map, List.getElem?_range (by omega)]
  simp only [Option.map_some, show (j * 4 + r) / 4 = j by omega, show (j * 4 + r) % 4 = r by omega]
theorem ltRow_inv (l : List Lt) (f : Nat → Value) (n k : Nat) (u : Value) (h : (ltRow l f n)[k]? = some u) : ∃ j r, j < n ∧ r < 4 ∧ k = j * 4 + r ∧ u = ltCell (gL l j) (f j) r := by
  have hk : k < n * 4 := by
    obtain ⟨g, _⟩ := List.getElem?_eq_some_iff.1 h
    rwa [ltRow_len] at g
  refine ⟨k / 4, k % 4, by omega, by omega, by omega, ?_⟩
  have := ltRow_at l f n (k / 4) (k % 4) (by omega) (by omega)
  rw [show k / 4 * 4 + k % 4 = k by omega, h] at this
  exact Option.some.inj this
/-- lots in a block that can be written -/
def LO (W : World) (g n : Nat) (l : List Lt) (f : Nat → Value) : Prop :=
  ∀ j, j < n → (∀ r, r < 4 → W.cell? ⟨g, j * 4 + r, none⟩ = some (ltCell (gL l j) (f j) r) ∧ W.frozen? ⟨g, j * 4 + r, none⟩ = false)
theorem LO.below {W W' : World} {g n : Nat} {l : List Lt} {f : Nat → Value} (h : LO W g n l f) (hg : g < W.heap.size) (hb : Below W.heap.size W W') : LO W' g n l f := fun j hj r hr => by
  obtain ⟨h0, h1⟩ := h j hj r hr
  exact ⟨by rw [(bcell hb).1 _ _ hg]; exact h0, by rw [(bcell hb).2 _ _ hg]; exact h1⟩
theorem LO.set {W : World} {g n : Nat} {l : List Lt} {f : Nat → Value} (h : LO W g n l f) (k : Nat) (u : Value) : LO (W.setCell ⟨g, k * 4 + 3, none⟩ u) g n l (fun j => if j = k then u else f j) := fun j hj r hr => by
  obtain ⟨h0, h1⟩ := h j hj r hr
  refine ⟨?_, by rw [World.frozen?_setCell]; exact h1⟩
  by_cases e : j * 4 + r = k * 4 + 3
  · obtain rfl : j = k := by omega
    obtain rfl : r = 3 := by omega
    rw [World.cell?_setCell_same _ _ _ h0]
    simp [ltCell]
  · rw [World.cell?_setCell_other _ _ _ _ (by intro e2; simp only [Addr.mk.injEq] at e2; omega), h0]
    by_cases e1 : j = k
    · have : r ≠ 3 := by omega
      have : r = 0 ∨ r = 1 ∨ r = 2 := by omega
      rcases this with rfl | rfl | rfl <;> simp [ltCell]
    · simp only [if_neg e1]
/-- a slice reads as shares, and lies in another block than g -/
def PF (W : World) (g : Nat) (v : Value) (l : List (Int × Int)) : Prop :=
  ∃ a cap, v = .slice a l.length cap ∧ (l.length ≤ cap ∧ cap ≤ 9223372036854775807) ∧
    (l.length = 0 ∨ ∃ b off, a = some ⟨b, off, none⟩ ∧ b < W.heap.size ∧ b ≠ g ∧ ∀ j, j < l.length → W.cell? ⟨b, off + j * 2, none⟩ = some (.int .i64 (gX l j)) ∧ W.cell? ⟨b, off + j * 2 + 1, none⟩ = some (.int .i64 (gR l j)))
theorem PF.pts {W : World} {g : Nat} {v : Value} {l : List (Int × Int)} (h : PF W g v l) : Pts W v l := by
  obtain ⟨a, cap, rfl, hl, h | ⟨b, off, rfl, hlt, _, hc⟩⟩ := h
  · exact ⟨a, cap, rfl, hl, .inl h⟩
  · exact ⟨_, cap, rfl, hl, .inr ⟨b, off, rfl, hlt, hc⟩⟩
theorem PF.of {W : World} {g : Nat} {v : Value} {l : List (Int × Int)} (h : Pts W v l) (hg : W.heap.size ≤ g) : PF W g v l := by
  obtain ⟨a, cap, rfl, hl, h | ⟨b, off, rfl, hlt, hc⟩⟩ := h
  · exact ⟨a, cap, rfl, hl, .inl h⟩
  · exact ⟨_, cap, rfl, hl, .inr ⟨b, off, rfl, hlt, by omega, hc⟩⟩
theorem PF.below {W W' : World} {g : Nat} {v : Value} {l : List (Int × Int)} (h : PF W g v l) (hb : Below W.heap.size W W') : PF W' g v l := by
  obtain ⟨a, cap, rfl, hl, h | ⟨b, off, rfl, hlt, hg, hc⟩⟩ := h
  · exact ⟨a, cap, rfl, hl, .inl h⟩
  · exact ⟨_, cap, rfl, hl, .inr ⟨b, off, rfl, Nat.lt_of_lt_of_le hlt hb.size, hg, fun j hj => ⟨by rw [(bcell hb).1 _ _ hlt]; exact (hc j hj).1, by rw [(bcell hb).1 _ _ hlt]; exact (hc j hj).2⟩⟩⟩
theorem PF.set {W : World} {g : Nat} {v : Value} {l : List (Int × Int)} (h : PF W g v l) (k : Nat) (u : Value) : PF (W.setCell ⟨g, k, none⟩ u) g v l := by
  obtain ⟨a, cap, rfl, hl, h | ⟨b, off, rfl, hlt, hg, hc⟩⟩ := h
  · exact ⟨a, cap, rfl, hl, .inl h⟩
  · refine ⟨_, cap, rfl, hl, .inr ⟨b, off, rfl, by rw [World.size_setCell]; exact hlt, hg, fun j hj => ?_⟩⟩
    obtain ⟨h0, h1⟩ := hc j hj
    exact ⟨by rw [World.cell?_setCell_other _ _ _ _ (by intro e2; simp only [Addr.mk.injEq] at e2; omega)]; exact h0, by rw [World.cell?_setCell_other _ _ _ _ (by intro e2; simp only [Addr.mk.injEq] at e2; omega)]; exact h1⟩
namespace RH
/-- shares of the call's own, in another block than g -/
def SO (W : World) (B g : Nat) (v : Value) (l : List (Int × Int)) : Prop := Sh W B v l ∧ ∀ b, v.ownBlock = some b → b ≠ g
theorem SO.below {W W' : World} {B g : Nat} {v : Value} {l : List (Int × Int)} (h : SO W B g v l) (hb : Below W.heap.size W W') : SO W' B g v l := ⟨h.1.below hb, h.2⟩
theorem SO.set {W : World} {B g : Nat} {v : Value} {l : List (Int × Int)} (h : SO W B g v l) (k : Nat) (u : Value) : SO (W.setCell ⟨g, k, none⟩ u) B g v l := by
  obtain ⟨⟨h1, h2⟩, h3⟩ := h
  refine ⟨⟨h1, ?_⟩, h3⟩
  rcases h2 with ⟨h2, h4⟩ | ⟨b, cap, cur, h2, hg, hh, r⟩
  · exact .inl ⟨h2, h4⟩
  · refine .inr ⟨b, cap, cur, h2, hg, ?_, r⟩
    rw [Go.Deep.blk_setCell_other _ _ _ _ (by subst h2; exact h3 b rfl)]
    exact hh
theorem SO.base {W : World} {B B' g : Nat} {v : Value} {l : List (Int × Int)} (h : SO W B g v l) (hb : B' ≤ B) : SO W B' g v l := by
  obtain ⟨⟨h1, h2⟩, h3⟩ := h
  refine ⟨⟨h1, ?_⟩, h3⟩
  rcases h2 with h2 | ⟨b, cap, cur, h2, hg, r⟩
  · exact .inl h2
  · exact .inr ⟨b, cap, cur, h2, Nat.le_trans hb hg, r⟩
theorem Sh.so {W : World} {B g : Nat} {v : Value} {l : List (Int × Int)} (h : Sh W B v l) (hg : g < B) : SO W B g v l := by
  refine ⟨h, ?_⟩
  obtain ⟨_, h2⟩ := h
  rcases h2 with ⟨rfl, _⟩ | ⟨b, cap, cur, rfl, hb, _⟩
  · intro b hb; cases hb
  · intro b' hb'; simp [Value.ownBlock] at hb'; omega
end RH
theorem Lts.val {W : World} {b off : Nat} {c : Lt} (h : LtAt W b off c) : ∃ v, (∀ r, r < 4 → W.cell? ⟨b, off + r, none⟩ = some (ltCell c v r)) ∧ Pts W v c.sh := by
  obtain ⟨a, cap, g0, g1, g2, g3, hp⟩ := h
  refine ⟨_, fun r hr => ?_, hp⟩
  have : r = 0 ∨ r = 1 ∨ r = 2 ∨ r = 3 := by omega
  rcases this with rfl | rfl | rfl | rfl
  · exact g0
  · exact g1
  · exact g2
  · exact g3
end Go.Proofs.Ytmoeccghkpjbgaa

/- Package lot: lots of their own. -/
namespace Go.Proofs.Ytmoeccghkpjbgaa
open Go.RowKit

/-- what the loop of ownOf keeps -/
def OwI (w : World) (g n : Nat) (l : List Lt) (k : Nat) (f : Nat → Value) (W : World) : Prop :=
  LO W g n l f ∧ g < W.heap.size ∧ w.heap.size ≤ g ∧ (∀ j, j < k → RH.SO W w.heap.size g (f j) (gL l j).sh) ∧ (∀ j, k ≤ j → j < n → PF W g (f j) (gL l j).sh) ∧ Below w.heap.size w W
theorem OwI.below {w W W' : World} {g n k : Nat} {l : List Lt} {f : Nat → Value} (h : OwI w g n l k f W) (hb : Below W.heap.size W W') : OwI w g n l k f W' :=
  ⟨h.1.below h.2.1 hb, Nat.lt_of_lt_of_le h.2.1 hb.size, h.2.2.1, fun j hj => (h.2.2.2.1 j hj).below hb, fun j h1 h2 => (h.2.2.2.2.1 j h1 h2).below hb, bel_trans h.2.2.2.2.2 hb⟩
theorem OwI.next {w W : World} {g n k B : Nat} {l : List Lt} {f : Nat → Value} {u : Value} (h : OwI w g n l k f W) (hu : RH.Sh W B u (gL l k).sh) (hg : g < B) : OwI w g n l (k + 1) (fun j => if j = k then u else f j) (W.setCell ⟨g, k * 4 + 3, none⟩ u) := by
  obtain ⟨h1, h2, h3, h4, h5, h6⟩ := h
  refine ⟨h1.set k u, by rw [World.size_setCell]; exact h2, h3, fun j hj => ?_, fun j hj hn => ?_, h6.setCell (p := ⟨g, k * 4 + 3, none⟩) h3 _⟩
  · by_cases e : j = k
    · subst e
      simp only [if_true]
      exact ((hu.so hg).base (by omega)).set _ _
    · simp only [if_neg e]
      exact (h4 j (by omega)).set _ _
  · simp only [if_neg (show j ≠ k by omega)]
    exact (h5 j (by omega) hn).set _ _
/-- lots of the call's own -/
def LOwn (W : World) (B : Nat) (v : Value) (l : List Lt) : Prop :=
  ∃ g cap f, v = .slice (some ⟨g, 0, none⟩) l.length cap ∧ (l.length ≤ cap ∧ cap ≤ 9223372036854775807) ∧ B ≤ g ∧ g < W.heap.size ∧ LO W g l.length l f ∧ ∀ j, j < l.length → RH.SO W B g (f j) (gL l j).sh
theorem LO.at {W : World} {g n : Nat} {l : List Lt} {f : Nat → Value} (h : LO W g n l f) (hp : ∀ j, j < n → Pts W (f j) (gL l j).sh) (j : Nat) (hj : j < n) : LtAt W g (j * 4) (gL l j) := by
  obtain ⟨a, cap, e, _, _⟩ := (hp j hj).shape
  have c0 := (h j hj 0 (by omega)).1
  have c1 := (h j hj 1 (by omega)).1
  have c2 := (h j hj 2 (by omega)).1
  have c3 := (h j hj 3 (by omega)).1
  rw [e] at c3
  refine ⟨a, cap, by simpa [ltCell] using c0, by simpa [ltCell] using c1, by simpa [ltCell] using c2, by simpa [ltCell] using c3, ?_⟩
  rw [← e]
  exact hp j hj
theorem LOwn.lts {W : World} {B : Nat} {v : Value} {l : List Lt} (h : LOwn W B v l) : Lts W v l := by
  obtain ⟨g, cap, f, rfl, hc, _, hg, hL, hs⟩ := h
  refine ⟨_, cap, rfl, hc, .inr ⟨g, 0, rfl, hg, fun j hj => ?_⟩⟩
  rw [Nat.zero_add]
  exact hL.at (fun j hj => (hs j hj).1.pts) j hj
theorem LOwn.below {W W' : World} {B : Nat} {v : Value} {l : List Lt} (h : LOwn W B v l) (hb : Below W.heap.size W W') : LOwn W' B v l := by
  obtain ⟨g, cap, f, rfl, hc, h0, hg, hL, hs⟩ := h
  exact ⟨g, cap, f, rfl, hc, h0, Nat.lt_of_lt_of_le hg hb.size, hL.below hg hb, fun j hj => (hs j hj).below hb⟩
end Go.Proofs.Ytmoeccghkpjbgaa

/- slices.IndexFunc over lots; package lot: Find. -/
namespace Go.Proofs.Ytmoeccghkpjbgaa
open Go.RowKit

/-- the index of the first place at which p holds; -1 if there is none -/
def ixR (p : Nat → Bool) (n : Nat) : Int := if fst p n < n then (fst p n : Int) else -1
theorem ixR_at {p : Nat → Bool} {n k : Nat} (hk : k < n) (h1 : ∀ j, j < k → p j = false) (h2 : p k = true) : ixR p n = k := by
  unfold ixR
  rw [fst_is (by omega) h1 (fun _ => h2), if_pos hk]
theorem ixR_no {p : Nat → Bool} {n : Nat} (h1 : ∀ j, j < n → p j = false) : ixR p n = -1 := by
  unfold ixR
  rw [fst_is (Nat.le_refl _) h1 (fun h => by omega), if_neg (by omega)]
theorem ixR_iff (p : Nat → Bool) (n : Nat) : 0 ≤ ixR p n ↔ ∃ j, j < n ∧ p j = true := by
  unfold ixR
  obtain ⟨s1, s2⟩ := fst_spec p n
  by_cases h : fst p n < n
  · rw [if_pos h]
    exact ⟨fun _ => ⟨_, h, s2 h⟩, fun _ => by omega⟩
  · rw [if_neg h]
    refine ⟨fun h => by omega, ?_⟩
    rintro ⟨j, hj, e⟩
    rw [s1 j (by omega)] at e
    cases e
end Go.Proofs.Ytmoeccghkpjbgaa

/- Package lot: Find. -/
namespace Go.Proofs.Ytmoeccghkpjbgaa
open Go.RowKit

/-- the place of the lot with an ID -/
def fdK (l : List Lt) (id : Int) : Nat := fst (fun k => (gL l k).id == id) l.length
def fdB (l : List Lt) (id : Int) : Bool := decide (fdK l id < l.length)
def fdL (l : List Lt) (id : Int) : Lt := if fdK l id < l.length then gL l (fdK l id) else zL
theorem Lts.one {W : World} {b off n cap : Nat} {l : List Lt} (h : Lts W (.slice (some ⟨b, off, none⟩) n cap) l) (k : Nat) (hk : k < n) : Lts W (.slice (some ⟨b, off + k * 4, none⟩) 1 (cap - k)) [gL l k] := by
  obtain ⟨_, _, e, hcap, _⟩ := id h
  obtain ⟨b', off', e', hb, hn, hc⟩ := h.at (by omega)
  simp only [Value.slice.injEq] at e
  obtain ⟨_, rfl, rfl⟩ := e
  simp only [Option.some.injEq, Addr.mk.injEq] at e'
  obtain ⟨rfl, rfl, _⟩ := e'
  refine ⟨_, _, rfl, by simp; omega, .inr ⟨b, off + k * 4, rfl, hb, fun j hj => ?_⟩⟩
  have : j = 0 := by simpa using hj
  subst this
  rw [Nat.zero_mul, Nat.add_zero]
  exact hc k hk
theorem sh_setOther {W : World} {B : Nat} {v : Value} {l : List (Int × Int)} (h : RH.Sh W B v l) (p : Addr) (hp : ∀ b, v.ownBlock = some b → b ≠ p.block) (u : Value) : RH.Sh (W.setCell p u) B v l := by
  obtain ⟨h1, h2⟩ := h
  refine ⟨h1, ?_⟩
  rcases h2 with ⟨h2, h4⟩ | ⟨b, cap, cur, h2, hg, hh, r⟩
  · exact .inl ⟨h2, h4⟩
  · refine .inr ⟨b, cap, cur, h2, hg, ?_, r⟩
    rw [Go.Deep.blk_setCell_other _ _ _ _ (by subst h2; exact hp b rfl)]
    exact hh
theorem RH.Sh.base {W : World} {B B' : Nat} {v : Value} {l : List (Int × Int)} (h : RH.Sh W B v l) (hb : B' ≤ B) : RH.Sh W B' v l := by
  obtain ⟨h1, h2⟩ := h
  refine ⟨h1, ?_⟩
  rcases h2 with h2 | ⟨b, cap, cur, h2, hg, r⟩
  · exact .inl h2
  · exact .inr ⟨b, cap, cur, h2, Nat.le_trans hb hg, r⟩
theorem fd_ix (l : List Lt) (id : Int) : ixR (fun k => (gL l k).id == id) l.length = if fdK l id < l.length then (fdK l id : Int) else -1 := rfl
end Go.Proofs.Ytmoeccghkpjbgaa

/- The reference of layers 21 and 22: Plain, Plus, ID, Alcohol, Shares, One. -/
namespace Go.Proofs.Ytmoeccghkpjbgaa
open Go.RowKit

set_option maxHeartbeats 4000000 in
theorem rxPl_any (A M : Int) (w : World) :
    Calls Try.prog 58 #[.agg #[.int .i64 A, .int .i64 M]] w fun e w' => e = .returned (.bool (plB A M)) ∧ Below w.heap.size w w' := by
  have X := Lib.hid (bel_alloc (o := .cells #[.int .i64 A, .int .i64 M] 41) (Below.refl _ (w.alloc (.cells #[.int .i64 A, .int .i64 M] 41))))
  have E : plB A M = (decide (0 ≤ A) && decide (A ≤ 10737418240000) && decide (0 ≤ M) && decide (M ≤ 128849018880000) && (decide (0 < M) || (A == 0))) := by
    rw [Bool.eq_iff_iff, plB_iff]
    simp only [Bool.and_eq_true, Bool.or_eq_true, decide_eq_true_eq, beq_iff_eq]
    omega
  rw [E]; clear E
  by_cases g0 : ¬ (0 ≤ A)
  · have d0 : decide (0 ≤ A) = false := decide_eq_false g0
    simp only [d0, Bool.true_and, Bool.false_and]
    clear g0
    go_enter Try.func58, Try.ntmps58
    go_wp2
    go_returns
    exact ⟨rfl, X.out⟩
  have h0 : 0 ≤ A := Classical.not_not.1 g0
  have d0 : decide (0 ≤ A) = true := decide_eq_true h0
  clear g0
  by_cases g1 : ¬ (A ≤ 10737418240000)
  · have d1 : decide (A ≤ 10737418240000) = false := decide_eq_false g1
    simp only [d0, d1, Bool.true_and, Bool.false_and]
    clear h0 g1
    go_enter Try.func58, Try.ntmps58
    go_wp2
    go_returns
    exact ⟨rfl, X.out⟩
  have h1 : A ≤ 10737418240000 := Classical.not_not.1 g1
  have d1 : decide (A ≤ 10737418240000) = true := decide_eq_true h1
  clear g1
  by_cases g2 : ¬ (0 ≤ M)
  · have d2 : decide (0 ≤ M) = false := decide_eq_false g2
    simp only [d0, d1, d2, Bool.true_and, Bool.false_and]
    clear h0 h1 g2
    go_enter Try.func58, Try.ntmps58
    go_wp2
    go_returns
    exact ⟨rfl, X.out⟩
  have h2 : 0 ≤ M := Classical.not_not.1 g2
  have d2 : decide (0 ≤ M) = true := decide_eq_true h2
  clear g2
  by_cases g3 : ¬ (M ≤ 128849018880000)
  · have d3 : decide (M ≤ 128849018880000) = false := decide_eq_false g3
    simp only [d0, d1, d2, d3, Bool.true_and, Bool.false_and]
    clear h0 h1 h2 g3
    go_enter Try.func58, Try.ntmps58
    go_wp2
    go_returns
    exact ⟨rfl, X.out⟩
  have h3 : M ≤ 128849018880000 := Classical.not_not.1 g3
  have d3 : decide (M ≤ 128849018880000) = true := decide_eq_true h3
  clear g3
  simp only [d0, d1, d2, d3, Bool.true_and]
  clear h0 h1 h2 h3
  by_cases h4 : 0 < M
  · have d4 : decide (0 < M) = true := decide_eq_true h4
    simp only [d4, Bool.true_or]
    clear h4
    go_enter Try.func58, Try.ntmps58
    go_wp2
    go_returns
    exact ⟨rfl, X.out⟩
  · have d4 : decide (0 < M) = false := decide_eq_false h4
    simp only [d4, Bool.false_or]
    clear h4
    generalize hB : (A == 0) = B
    go_enter Try.func58, Try.ntmps58
    go_wp2
    go_returns
    exact ⟨rfl, X.out⟩
set_option maxHeartbeats 4000000 in
set_option maxRecDepth 100000 in
theorem rxPlus_any (a b p q : Int) (w : World) (wa : IntKind.i64.wrap (a + p) = a + p) (wb : IntKind.i64.wrap (b + q) = b + q) :
    Calls Try.prog 57 #[.agg #[.int .i64 a, .int .i64 b], .agg #[.int .i64 p, .int .i64 q]] w fun e w' => e = .returned (.agg #[.int .i64 (a + p), .int .i64 (b + q)]) ∧ Below w.heap.size w w' := by
  go_enter Try.func57, Try.ntmps57
  go_wp2
  go_returns
  exact ⟨rfl, by go_grown⟩
theorem rlId_any (n : Int) (w : World) :
    Calls Try.prog 52 #[.int .i64 n] w fun e w' => e = .returned (.bool (idB n)) ∧ w' = w := by
  unfold idB
  by_cases h : 1 ≤ n
  · have d : decide (1 ≤ n) = true := decide_eq_true h
    rw [d, Bool.true_and]
    clear h
    generalize hB : decide (n ≤ 1073741824) = B
    go_enter Try.func52, Try.ntmps52
    go_wp2
    go_returns
    exact ⟨rfl, rfl⟩
  · have d : decide (1 ≤ n) = false := decide_eq_false h
    rw [d, Bool.false_and]
    clear h
    go_enter Try.func52, Try.ntmps52
    go_wp2
    go_returns
    exact ⟨rfl, rfl⟩
set_option maxHeartbeats 16000000 in
set_option maxRecDepth 100000 in
theorem rlAl_any (v : Value) (s : List (Int × Int)) (w : World) (hv : Pts w v s) (hn : s.length ≤ 32) (h : shO s = true) :
    Calls Try.prog 39 #[v] w fun e w' => e = .returned (.int .i64 (sm fM s)) ∧ Below w.heap.size w w' := by
  obtain ⟨a, cap, rfl, hcap, hh⟩ := hv
  have NV0 : Hid (Pts w (.slice a s.length cap) s) := ⟨a, cap, rfl, hcap, hh⟩
  clear hh hcap
  have HS := Lib.hid (sm_step fM s)
  have FS := Lib.hid (sm_full fM s)
  have HY := Lib.hid (shO_bd h)
  have HX := Lib.hid (fun k hk => (shB_false.1 (shO_iff.1 h k hk)).2.2)
  clear h
  generalize sm fM s = T at *
  generalize hN : s.length = n at *
  go_enter Try.func39, Try.ntmps39
  go_wp2_with fail
  go_loopw [3, 4] (fun t i wr => ∃ k : Nat, k ≤ n ∧ i = .int .i64 k ∧ t = .int .i64 (sm fM (s.take k)) ∧ Hid (Below w.heap.size w wr)) (fun _ i _ => n - (intOf i).toNat)
  case atStart => exact ⟨0, Nat.zero_le _, rfl, rfl, Lib.hid (Below.refl _ _)⟩
  case round =>
    obtain ⟨k, hk, rfl, rfl, X⟩ := hrel
    have NV := Lib.hid (NV0.out.below X.out)
    by_cases hlt : k < n
    · have s1 := Lib.hid (HS.out k hlt)
      change Hid (sm fM (s.take (k + 1)) = sm fM (s.take k) + gR s k) at s1
      have y := HY.out k
      have x := HX.out k hlt
      have l9 : (k : Int) < (n : Int) := by omega
      obtain ⟨b, off, rfl, hb, hc⟩ := NV.out.at (by omega)
      obtain ⟨c0, c1⟩ := hc k (by omega)
      clear hc
      generalize gX s k = p at *
      generalize gR s k = r at *
      generalize sm fM (s.take k) = S at *
      have w1 : IntKind.i64.wrap (S + r) = S + r := wrap_in _ ⟨by omega, by omega⟩
      go_wp2
      go_roundw
      case rel => exact ⟨k + 1, by omega, by go_num, by rw [s1.out], X⟩
      case measure => simp [intOf]; omega
    · obtain rfl : k = n := by omega
      rw [FS.out]
      go_wp2
      go_returns
      exact ⟨rfl, X.out⟩
/-- the error of shares -/
def rsF (s : List (Int × Int)) : Int := if 32 < s.length then 12 else if shO s = true then 0 else 10
/-- the first condition that a share does not keep -/
theorem shB_true {s : List (Int × Int)} {k : Nat} (h : shB s k = true) : gX s k < 1 ∨ (1 ≤ gX s k ∧ 1073741824 < gX s k) ∨ ((1 ≤ gX s k ∧ gX s k ≤ 1073741824) ∧ gR s k < 1) ∨ ((1 ≤ gX s k ∧ gX s k ≤ 1073741824) ∧ 1 ≤ gR s k ∧ 10737418240000 < gR s k) ∨ ((1 ≤ gX s k ∧ gX s k ≤ 1073741824) ∧ 1 ≤ gR s k ∧ gR s k ≤ 10737418240000 ∧ 0 < k ∧ gX s k ≤ gX s (k - 1)) := by
  have h2 : ¬ shB s k = false := by rw [h]; simp
  rw [shB_false] at h2
  unfold pvF at h2
  by_cases k0 : k = 0
  · rw [if_pos k0] at h2; omega
  · rw [if_neg k0] at h2; omega
end Go.Proofs.Ytmoeccghkpjbgaa

/- The reference of layer 22: Shares. -/
namespace Go.Proofs.Ytmoeccghkpjbgaa
open Go.RowKit

set_option maxHeartbeats 4000000 in
theorem rlSh_long (a : Option Addr) (n cap : Nat) (w : World) (h : 32 < n) (hn : n ≤ 9223372036854775807) :
    Calls Try.prog 99 #[.slice a n cap] w fun e w' => e = .returned (.int .i64 12) ∧ Below w.heap.size w w' := by
  have q : decide (32 < (n : Int)) = true := decide_eq_true (by omega)
  go_enter Try.func99, Try.ntmps99
  go_wp2
  go_returns
  exact ⟨rfl, Below.refl _ _⟩
set_option maxHeartbeats 32000000 in
set_option maxRecDepth 100000 in
theorem rlSh_ok (a : Option Addr) (n cap : Nat) (s : List (Int × Int))  (w : World) (NV0 : Hid (Pts w (.slice a n cap) s)) (hn : n ≤ 32) (hp : Hid (∀ j, j < n → shB s j = false)) :
    Calls Try.prog 99 #[.slice a n cap] w fun e w' => e = .returned (.int .i64 0) ∧ Below w.heap.size w w' := by
  have q : decide (32 < (n : Int)) = false := decide_eq_false (by omega)
  go_enter Try.func99, Try.ntmps99
  go_wp2_with fail
  go_loopw [3] (fun i wr => ∃ k : Nat, k ≤ n ∧ i = .int .i64 k ∧ Hid (Below w.heap.size w wr)) (fun i _ => n - (intOf i).toNat)
  case atStart => exact ⟨0, Nat.zero_le _, rfl, Lib.hid (Below.refl _ _)⟩
  case round =>
    obtain ⟨k, hk, rfl, X⟩ := hrel
    have NV := Lib.hid (NV0.out.below X.out)
    by_cases hlt : k < n
    · have h0 := shB_false.1 (hp.out k hlt)
      unfold pvF at h0
      have l9 : (k : Int) < (n : Int) := by omega
      obtain ⟨b, off, rfl, hb, hc⟩ := NV.out.at (by omega)
      obtain ⟨c0, c1⟩ := hc k (by omega)
      by_cases hz : k = 0
      · clear hc
        subst hz
        rw [if_pos rfl] at h0
        simp only [Nat.zero_mul, Nat.add_zero] at c0 c1
        generalize gX s 0 = x at *
        generalize gR s 0 = y at *
        have l8 : (0 : Int) < (n : Int) := by omega
        have l7 : (0 : Nat) < n := by omega
        have d1 : decide (x < 1) = false := decide_eq_false (by omega)
        have d2 : decide (1073741824 < x) = false := decide_eq_false (by omega)
        have d3 : decide (y < 1) = false := decide_eq_false (by omega)
        have d4 : decide (10737418240000 < y) = false := decide_eq_false (by omega)
        go_wp2_with fail
        go_quiet (fail)
        rename_i nq
        go_wp2
        go_roundw
        case rel => exact ⟨1, by omega, by go_num, Lib.hid (bel_trans X.out (bel_drewN _ _))⟩
        case measure => simp [intOf]; omega
      · obtain ⟨j, rfl⟩ : ∃ j, k = j + 1 := ⟨k - 1, by omega⟩
        obtain ⟨e0, _⟩ := hc j (by omega)
        rw [if_neg (by omega), Nat.add_sub_cancel] at h0
        clear hc
        generalize gX s (j + 1) = x at *
        generalize gR s (j + 1) = y at *
        generalize gX s j = p at *
        have d1 : decide (x < 1) = false := decide_eq_false (by omega)
        have d2 : decide (1073741824 < x) = false := decide_eq_false (by omega)
        have d3 : decide (y < 1) = false := decide_eq_false (by omega)
        have d4 : decide (10737418240000 < y) = false := decide_eq_false (by omega)
        have d5 : decide (0 < (j : Int) + 1) = true := decide_eq_true (by omega)
        have d6 : decide (x ≤ p) = false := decide_eq_false (by omega)
        have wj : IntKind.i64.wrap (j : Int) = (j : Int) := wrap_in _ ⟨by omega, by omega⟩
        go_wp2_with fail
        go_quiet (fail)
        rename_i nq
        go_wp2
        go_roundw
        case rel => exact ⟨j + 1 + 1, by omega, by go_num, Lib.hid (bel_trans X.out (bel_drewN _ _))⟩
        case measure => simp [intOf]; omega
    · obtain rfl : k = n := by omega
      go_wp2
      go_returns
      exact ⟨rfl, X.out⟩
set_option maxHeartbeats 32000000 in
set_option maxRecDepth 100000 in
theorem rlSh_bad (a : Option Addr) (n cap : Nat) (s : List (Int × Int)) (m : Nat) (hm : m < n) (hq : shB s m = true) (w : World) (NV0 : Hid (Pts w (.slice a n cap) s)) (hn : n ≤ 32) (hp : Hid (∀ j, j < m → shB s j = false)) :
    Calls Try.prog 99 #[.slice a n cap] w fun e w' => e = .returned (.int .i64 10) ∧ Below w.heap.size w w' := by
  have q : decide (32 < (n : Int)) = false := decide_eq_false (by omega)
  go_enter Try.func99, Try.ntmps99
  go_wp2_with fail
  go_loopw [3] (fun i wr => ∃ k : Nat, k ≤ m ∧ i = .int .i64 k ∧ Hid (Below w.heap.size w wr)) (fun i _ => n - (intOf i).toNat)
  case atStart => exact ⟨0, Nat.zero_le _, rfl, Lib.hid (Below.refl _ _)⟩
  case round =>
    obtain ⟨k, hk, rfl, X⟩ := hrel
    have NV := Lib.hid (NV0.out.below X.out)
    by_cases hlt : k < m
    · have h0 := shB_false.1 (hp.out k hlt)
      unfold pvF at h0
      have l9 : (k : Int) < (n : Int) := by omega
      obtain ⟨b, off, rfl, hb, hc⟩ := NV.out.at (by omega)
      obtain ⟨c0, c1⟩ := hc k (by omega)
      by_cases hz : k = 0
      · clear hc
        subst hz
        rw [if_pos rfl] at h0
        simp only [Nat.zero_mul, Nat.add_zero] at c0 c1
        generalize gX s 0 = x at *
        generalize gR s 0 = y at *
        have l8 : (0 : Int) < (n : Int) := by omega
        have l7 : (0 : Nat) < n := by omega
        have d1 : decide (x < 1) = false := decide_eq_false (by omega)
        have d2 : decide (1073741824 < x) = false := decide_eq_false (by omega)
        have d3 : decide (y < 1) = false := decide_eq_false (by omega)
        have d4 : decide (10737418240000 < y) = false := decide_eq_false (by omega)
        go_wp2_with fail
        go_quiet (fail)
        rename_i nq
        go_wp2
        go_roundw
        case rel => exact ⟨1, by omega, by go_num, Lib.hid (bel_trans X.out (bel_drewN _ _))⟩
        case measure => simp [intOf]; omega
      · obtain ⟨j, rfl⟩ : ∃ j, k = j + 1 := ⟨k - 1, by omega⟩
        obtain ⟨e0, _⟩ := hc j (by omega)
        rw [if_neg (by omega), Nat.add_sub_cancel] at h0
        clear hc
        generalize gX s (j + 1) = x at *
        generalize gR s (j + 1) = y at *
        generalize gX s j = p at *
        have d1 : decide (x < 1) = false := decide_eq_false (by omega)
        have d2 : decide (1073741824 < x) = false := decide_eq_false (by omega)
        have d3 : decide (y < 1) = false := decide_eq_false (by omega)
        have d4 : decide (10737418240000 < y) = false := decide_eq_false (by omega)
        have d5 : decide (0 < (j : Int) + 1) = true := decide_eq_true (by omega)
        have d6 : decide (x ≤ p) = false := decide_eq_false (by omega)
        have wj : IntKind.i64.wrap (j : Int) = (j : Int) := wrap_in _ ⟨by omega, by omega⟩
        go_wp2_with fail
        go_quiet (fail)
        rename_i nq
        go_wp2
        go_roundw
        case rel => exact ⟨j + 1 + 1, by omega, by go_num, Lib.hid (bel_trans X.out (bel_drewN _ _))⟩
        case measure => simp [intOf]; omega
    · obtain rfl : k = m := by omega
      have l9 : (k : Int) < (n : Int) := by omega
      obtain ⟨b, off, rfl, hb, hc⟩ := NV.out.at (by omega)
      obtain ⟨c0, c1⟩ := hc k (by omega)
      clear hp
      rcases shB_true hq with h0 | h0 | h0 | h0 | h0
      · clear hc
        generalize gX s k = x at *
        generalize gR s k = y at *
        have d1 : decide (x < 1) = true := decide_eq_true (by omega)
        go_wp2_with fail
        go_quiet (fail)
        rename_i nq
        go_wp2
        go_returns
        exact ⟨rfl, bel_trans X.out (bel_drewN _ _)⟩
      · clear hc
        generalize gX s k = x at *
        generalize gR s k = y at *
        have d1 : decide (x < 1) = false := decide_eq_false (by omega)
        have d2 : decide (1073741824 < x) = true := decide_eq_true (by omega)
        go_wp2_with fail
        go_quiet (fail)
        rename_i nq
        go_wp2
        go_returns
        exact ⟨rfl, bel_trans X.out (bel_drewN _ _)⟩
      · clear hc
        generalize gX s k = x at *
        generalize gR s k = y at *
        have d1 : decide (x < 1) = false := decide_eq_false (by omega)
        have d2 : decide (1073741824 < x) = false := decide_eq_false (by omega)
        have d3 : decide (y < 1) = true := decide_eq_true (by omega)
        go_wp2_with fail
        go_quiet (fail)
        rename_i nq
        go_wp2
        go_returns
        exact ⟨rfl, bel_trans X.out (bel_drewN _ _)⟩
      · clear hc
        generalize gX s k = x at *
        generalize gR s k = y at *
        have d1 : decide (x < 1) = false := decide_eq_false (by omega)
        have d2 : decide (1073741824 < x) = false := decide_eq_false (by omega)
        have d3 : decide (y < 1) = false := decide_eq_false (by omega)
        have d4 : decide (10737418240000 < y) = true := decide_eq_true (by omega)
        go_wp2_with fail
        go_quiet (fail)
        rename_i nq
        go_wp2
        go_returns
        exact ⟨rfl, bel_trans X.out (bel_drewN _ _)⟩
      · cases k with
        | zero => omega
        | succ j =>
          obtain ⟨e0, _⟩ := hc j (by omega)
          rw [Nat.add_sub_cancel] at h0
          clear hc
          generalize gX s (j + 1) = x at *
          generalize gR s (j + 1) = y at *
          generalize gX s j = p at *
          have d1 : decide (x < 1) = false := decide_eq_false (by omega)
          have d2 : decide (1073741824 < x) = false := decide_eq_false (by omega)
          have d3 : decide (y < 1) = false := decide_eq_false (by omega)
          have d4 : decide (10737418240000 < y) = false := decide_eq_false (by omega)
          have d5 : decide (0 < (j : Int) + 1) = true := decide_eq_true (by omega)
          have d6 : decide (x ≤ p) = true := decide_eq_true (by omega)
          have wj : IntKind.i64.wrap (j : Int) = (j : Int) := wrap_in _ ⟨by omega, by omega⟩
          go_wp2_with fail
          go_quiet (fail)
          rename_i nq
          go_wp2
          go_returns
          exact ⟨rfl, bel_trans X.out (bel_drewN _ _)⟩
theorem rlSh_any (v : Value) (s : List (Int × Int)) (w : World) (hv : Pts w v s) :
    Calls Try.prog 99 #[v] w fun e w' => e = .returned (.int .i64 (rsF s)) ∧ Below w.heap.size w w' := by
  obtain ⟨a, cap, rfl, hcap, _⟩ := id hv
  unfold rsF
  by_cases h : 32 < s.length
  · rw [if_pos h]; exact rlSh_long a _ cap w h (by omega)
  · rw [if_neg h]
    cases hs : shO s with
    | true => rw [if_pos rfl]; exact rlSh_ok a _ cap s w hv (by omega) (Lib.hid (shO_iff.1 hs))
    | false =>
      rw [if_neg (by simp)]
      obtain ⟨k, hk, h1, h2⟩ := shO_false hs
      exact rlSh_bad a _ cap s k hk h1 w hv (by omega) h2
end Go.Proofs.Ytmoeccghkpjbgaa

/- The reference of layer 22: One. -/
namespace Go.Proofs.Ytmoeccghkpjbgaa
open Go.RowKit

set_option maxHeartbeats 8000000 in
set_option maxRecDepth 100000 in
theorem rlOne_pl (d A M : Int) (a : Option Addr) (n cap : Nat) (s : List (Int × Int)) (w : World) (NV : Hid (Pts w (.slice a n cap) s)) (hn : Hid (s.length = n)) (h0 : plB A M = false) :
    Calls Try.prog 90 #[.agg #[.int .i64 d, .int .i64 A, .int .i64 M, .slice a n cap]] w fun e w' => e = .returned (.int .i64 1) ∧ Below w.heap.size w w' := by
  have HP := Lib.hid (fun W => rxPl_any A M W)
  have HS := Lib.hid (fun W h => rlSh_any (.slice a n cap) s W h)
  have T0 := Lib.hid (Quad.new w (.int .i64 d) (.int .i64 A) (.int .i64 M) (.slice a n cap) 43)
  have X := Lib.hid (bel_alloc (w := w) (o := (.cells #[.int .i64 d, .int .i64 A, .int .i64 M, .slice a n cap] 43)) (Below.refl _ _))
  replace NV := Lib.hid (NV.out.alloc (.cells #[.int .i64 d, .int .i64 A, .int .i64 M, .slice a n cap] 43))
  obtain ⟨b0, b1, b2, b3, _, _⟩ := T0.out
  rw [h0] at HP
  go_enter Try.func90, Try.ntmps90
  go_wp2_with fail
  refine (HP.out _).mono ?_
  rintro e w1 ⟨rfl, h1⟩
  replace T0 := Lib.hid (T0.out.below h1)
  replace X := Lib.hid (bel_trans X.out h1)
  replace NV := Lib.hid (NV.out.below h1)
  clear h1 b0 b1 b2 b3
  obtain ⟨b0, b1, b2, b3, _, _⟩ := T0.out
  go_wp2
  go_returns
  exact ⟨rfl, X.out⟩
set_option maxHeartbeats 8000000 in
set_option maxRecDepth 100000 in
theorem rlOne_zero (d A M : Int) (a : Option Addr) (n cap : Nat) (s : List (Int × Int)) (w : World) (NV : Hid (Pts w (.slice a n cap) s)) (hn : Hid (s.length = n)) (h0 : plB A M = true) (g1 : (M == 0) = true) :
    Calls Try.prog 90 #[.agg #[.int .i64 d, .int .i64 A, .int .i64 M, .slice a n cap]] w fun e w' => e = .returned (.int .i64 1) ∧ Below w.heap.size w w' := by
  have HP := Lib.hid (fun W => rxPl_any A M W)
  have HS := Lib.hid (fun W h => rlSh_any (.slice a n cap) s W h)
  have T0 := Lib.hid (Quad.new w (.int .i64 d) (.int .i64 A) (.int .i64 M) (.slice a n cap) 43)
  have X := Lib.hid (bel_alloc (w := w) (o := (.cells #[.int .i64 d, .int .i64 A, .int .i64 M, .slice a n cap] 43)) (Below.refl _ _))
  replace NV := Lib.hid (NV.out.alloc (.cells #[.int .i64 d, .int .i64 A, .int .i64 M, .slice a n cap] 43))
  obtain ⟨b0, b1, b2, b3, _, _⟩ := T0.out
  rw [h0] at HP
  go_enter Try.func90, Try.ntmps90
  go_wp2_with fail
  refine (HP.out _).mono ?_
  rintro e w1 ⟨rfl, h1⟩
  replace T0 := Lib.hid (T0.out.below h1)
  replace X := Lib.hid (bel_trans X.out h1)
  replace NV := Lib.hid (NV.out.below h1)
  clear h1 b0 b1 b2 b3
  obtain ⟨b0, b1, b2, b3, _, _⟩ := T0.out
  go_wp2
  go_returns
  exact ⟨rfl, X.out⟩
set_option maxHeartbeats 8000000 in
set_option maxRecDepth 100000 in
theorem rlOne_sh (d A M : Int) (a : Option Addr) (n cap : Nat) (s : List (Int × Int)) (w : World) (NV : Hid (Pts w (.slice a n cap) s)) (hn : Hid (s.length = n)) (h0 : plB A M = true) (g1 : (M == 0) = false) (F : Int) (hF : Hid (rsF s = F)) (g2 : (F != 0) = true) :
    Calls Try.prog 90 #[.agg #[.int .i64 d, .int .i64 A, .int .i64 M, .slice a n cap]] w fun e w' => e = .returned (.int .i64 F) ∧ Below w.heap.size w w' := by
  have HP := Lib.hid (fun W => rxPl_any A M W)
  have HS := Lib.hid (fun W h => rlSh_any (.slice a n cap) s W h)
  have T0 := Lib.hid (Quad.new w (.int .i64 d) (.int .i64 A) (.int .i64 M) (.slice a n cap) 43)
  have X := Lib.hid (bel_alloc (w := w) (o := (.cells #[.int .i64 d, .int .i64 A, .int .i64 M, .slice a n cap] 43)) (Below.refl _ _))
  replace NV := Lib.hid (NV.out.alloc (.cells #[.int .i64 d, .int .i64 A, .int .i64 M, .slice a n cap] 43))
  obtain ⟨b0, b1, b2, b3, _, _⟩ := T0.out
  rw [h0] at HP
  rw [hF.out] at HS
  go_enter Try.func90, Try.ntmps90
  go_wp2_with fail
  refine (HP.out _).mono ?_
  rintro e w1 ⟨rfl, h1⟩
  replace T0 := Lib.hid (T0.out.below h1)
  replace X := Lib.hid (bel_trans X.out h1)
  replace NV := Lib.hid (NV.out.below h1)
  clear h1 b0 b1 b2 b3
  obtain ⟨b0, b1, b2, b3, _, _⟩ := T0.out
  go_wp2_with fail
  refine (HS.out _ NV.out).mono ?_
  rintro e w2 ⟨rfl, h1⟩
  replace T0 := Lib.hid (T0.out.below h1)
  replace X := Lib.hid (bel_trans X.out h1)
  replace NV := Lib.hid (NV.out.below h1)
  clear h1 b0 b1 b2 b3
  obtain ⟨b0, b1, b2, b3, _, _⟩ := T0.out
  go_wp2
  go_returns
  exact ⟨rfl, X.out⟩
set_option maxHeartbeats 8000000 in
set_option maxRecDepth 100000 in
theorem rlOne_sum (d A M : Int) (a : Option Addr) (n cap : Nat) (s : List (Int × Int)) (w : World) (NV : Hid (Pts w (.slice a n cap) s)) (hn : Hid (s.length = n)) (hl : n ≤ 32) (h0 : plB A M = true) (g1 : (M == 0) = false) (h4 : shO s = true) (S : Int) (hS : Hid (sm fM s = S)) (h5 : (S != A) = true) :
    Calls Try.prog 90 #[.agg #[.int .i64 d, .int .i64 A, .int .i64 M, .slice a n cap]] w fun e w' => e = .returned (.int .i64 14) ∧ Below w.heap.size w w' := by
  have HP := Lib.hid (fun W => rxPl_any A M W)
  have HS := Lib.hid (fun W h => rlSh_any (.slice a n cap) s W h)
  have T0 := Lib.hid (Quad.new w (.int .i64 d) (.int .i64 A) (.int .i64 M) (.slice a n cap) 43)
  have X := Lib.hid (bel_alloc (w := w) (o := (.cells #[.int .i64 d, .int .i64 A, .int .i64 M, .slice a n cap] 43)) (Below.refl _ _))
  replace NV := Lib.hid (NV.out.alloc (.cells #[.int .i64 d, .int .i64 A, .int .i64 M, .slice a n cap] 43))
  obtain ⟨b0, b1, b2, b3, _, _⟩ := T0.out
  have HM := Lib.hid (fun W h => rlAl_any (.slice a n cap) s W h (by rw [hn.out]; exact hl) h4)
  rw [hS.out] at HM
  rw [h0] at HP
  have hF : rsF s = 0 := by unfold rsF; rw [if_neg (by rw [hn.out]; omega), if_pos h4]
  rw [hF] at HS
  clear hF
  go_enter Try.func90, Try.ntmps90
  go_wp2_with fail
  refine (HP.out _).mono ?_
  rintro e w1 ⟨rfl, h1⟩
  replace T0 := Lib.hid (T0.out.below h1)
  replace X := Lib.hid (bel_trans X.out h1)
  replace NV := Lib.hid (NV.out.below h1)
  clear h1 b0 b1 b2 b3
  obtain ⟨b0, b1, b2, b3, _, _⟩ := T0.out
  go_wp2_with fail
  refine (HS.out _ NV.out).mono ?_
  rintro e w2 ⟨rfl, h1⟩
  replace T0 := Lib.hid (T0.out.below h1)
  replace X := Lib.hid (bel_trans X.out h1)
  replace NV := Lib.hid (NV.out.below h1)
  clear h1 b0 b1 b2 b3
  obtain ⟨b0, b1, b2, b3, _, _⟩ := T0.out
  go_upto_region 6 with fail
  have NVd := Lib.hid (NV.out.below (bel_drew w2))
  have Td := Lib.hid (T0.out.below (bel_drew w2))
  have Xd := Lib.hid (bel_trans X.out (bel_drew w2))
  go_region_with (go_at_call 39; refine (HM.out _ NVd.out).mono ?_; rintro e w4 ⟨rfl, h1⟩; obtain ⟨e0, e1, e2, e3, _, _⟩ := Td.out.below h1; have X4 := Lib.hid (bel_trans Xd.out h1); clear h1)
  all_goals go_wp2
  all_goals go_returns
  all_goals exact ⟨rfl, X4.out⟩
set_option maxHeartbeats 8000000 in
set_option maxRecDepth 100000 in
theorem rlOne_ok (d A M : Int) (a : Option Addr) (n cap : Nat) (s : List (Int × Int)) (w : World) (NV : Hid (Pts w (.slice a n cap) s)) (hn : Hid (s.length = n)) (hl : n ≤ 32) (h0 : plB A M = true) (g1 : (M == 0) = false) (h4 : shO s = true) (S : Int) (hS : Hid (sm fM s = S)) (h5 : (S != A) = false) :
    Calls Try.prog 90 #[.agg #[.int .i64 d, .int .i64 A, .int .i64 M, .slice a n cap]] w fun e w' => e = .returned (.int .i64 0) ∧ Below w.heap.size w w' := by
  have HP := Lib.hid (fun W => rxPl_any A M W)
  have HS := Lib.hid (fun W h => rlSh_any (.slice a n cap) s W h)
  have T0 := Lib.hid (Quad.new w (.int .i64 d) (.int .i64 A) (.int .i64 M) (.slice a n cap) 43)
  have X := Lib.hid (bel_alloc (w := w) (o := (.cells #[.int .i64 d, .int .i64 A, .int .i64 M, .slice a n cap] 43)) (Below.refl _ _))
  replace NV := Lib.hid (NV.out.alloc (.cells #[.int .i64 d, .int .i64 A, .int .i64 M, .slice a n cap] 43))
  obtain ⟨b0, b1, b2, b3, _, _⟩ := T0.out
  have HM := Lib.hid (fun W h => rlAl_any (.slice a n cap) s W h (by rw [hn.out]; exact hl) h4)
  rw [hS.out] at HM
  rw [h0] at HP
  have hF : rsF s = 0 := by unfold rsF; rw [if_neg (by rw [hn.out]; omega), if_pos h4]
  rw [hF] at HS
  clear hF
  go_enter Try.func90, Try.ntmps90
  go_wp2_with fail
  refine (HP.out _).mono ?_
  rintro e w1 ⟨rfl, h1⟩
  replace T0 := Lib.hid (T0.out.below h1)
  replace X := Lib.hid (bel_trans X.out h1)
  replace NV := Lib.hid (NV.out.below h1)
  clear h1 b0 b1 b2 b3
  obtain ⟨b0, b1, b2, b3, _, _⟩ := T0.out
  go_wp2_with fail
  refine (HS.out _ NV.out).mono ?_
  rintro e w2 ⟨rfl, h1⟩
  replace T0 := Lib.hid (T0.out.below h1)
  replace X := Lib.hid (bel_trans X.out h1)
  replace NV := Lib.hid (NV.out.below h1)
  clear h1 b0 b1 b2 b3
  obtain ⟨b0, b1, b2, b3, _, _⟩ := T0.out
  go_upto_region 6 with fail
  have NVd := Lib.hid (NV.out.below (bel_drew w2))
  have Td := Lib.hid (T0.out.below (bel_drew w2))
  have Xd := Lib.hid (bel_trans X.out (bel_drew w2))
  go_region_with (go_at_call 39; refine (HM.out _ NVd.out).mono ?_; rintro e w4 ⟨rfl, h1⟩; obtain ⟨e0, e1, e2, e3, _, _⟩ := Td.out.below h1; have X4 := Lib.hid (bel_trans Xd.out h1); clear h1)
  all_goals go_wp2
  all_goals go_returns
  all_goals exact ⟨rfl, X4.out⟩

/-- the fault of a lot alone -/
def roF (c : Lt) : Int := if fiB c.al c.ms = false then 1 else if 32 < c.sh.length then 12 else if shO c.sh = false then 10 else if sm fM c.sh ≠ c.al then 14 else 0
theorem ltF_roF (c : Lt) (bef : Int) : ltF c bef = if idB c.id = false then 2 else if c.id ≤ bef then 5 else roF c := rfl
theorem rlOne_any (c : Lt) (a : Option Addr) (cap : Nat) (w : World) (hv : Pts w (.slice a c.sh.length cap) c.sh) :
    Calls Try.prog 90 #[ltV c a cap] w fun e w' => e = .returned (.int .i64 (roF c)) ∧ Below w.heap.size w w' := by
  unfold roF ltV
  cases h0 : plB c.al c.ms with
  | false =>
    have : fiB c.al c.ms = false := by unfold fiB; rw [h0]; rfl
    rw [if_pos this]; exact rlOne_pl _ _ _ a _ cap c.sh w hv rfl h0
  | true =>
    have hm := plB_iff.1 h0
    by_cases g : c.ms = 0
    · have : fiB c.al c.ms = false := by unfold fiB; rw [h0, g]; rfl
      rw [if_pos this]; exact rlOne_zero _ _ _ a _ cap c.sh w hv rfl h0 (by rw [g]; rfl)
    · have : fiB c.al c.ms = true := by unfold fiB; rw [h0]; simp; omega
      have g1 : (c.ms == 0) = false := by simpa using g
      rw [this, if_neg (by simp)]
      by_cases h3 : 32 < c.sh.length
      · rw [if_pos h3]; exact rlOne_sh _ _ _ a _ cap c.sh w hv rfl h0 g1 12 (Lib.hid (by unfold rsF; rw [if_pos h3])) rfl
      · rw [if_neg h3]
        cases h4 : shO c.sh with
        | false => rw [if_pos rfl]; exact rlOne_sh _ _ _ a _ cap c.sh w hv rfl h0 g1 10 (Lib.hid (by unfold rsF; rw [if_neg h3, h4]; rfl)) rfl
        | true =>
          rw [if_neg (by simp)]
          by_cases h5 : sm fM c.sh ≠ c.al
          · rw [if_pos h5]; exact rlOne_sum _ _ _ a _ cap c.sh w hv rfl (by omega) h0 g1 h4 _ rfl (by simpa using h5)
          · rw [if_neg h5]; exact rlOne_ok _ _ _ a _ cap c.sh w hv rfl (by omega) h0 g1 h4 _ rfl (by simpa using h5)
end Go.Proofs.Ytmoeccghkpjbgaa

/- The reference of layer 22: Check, Right. -/
namespace Go.Proofs.Ytmoeccghkpjbgaa
open Go.RowKit

theorem roF_zero {c : Lt} {p : Int} (h : ltF c p = 0) : idB c.id = true ∧ p < c.id ∧ roF c = 0 := by
  rw [ltF_roF] at h
  cases h0 : idB c.id with
  | false => rw [h0, if_pos rfl] at h; cases h
  | true =>
    rw [h0, if_neg (by simp)] at h
    by_cases h1 : c.id ≤ p
    · rw [if_pos h1] at h; cases h
    · rw [if_neg h1] at h; exact ⟨rfl, by omega, h⟩
theorem roF_some {c : Lt} {p F : Int} (h : ltF c p = F) : (idB c.id = false ∧ F = 2) ∨ (idB c.id = true ∧ c.id ≤ p ∧ F = 5) ∨ (idB c.id = true ∧ p < c.id ∧ roF c = F) := by
  rw [ltF_roF] at h
  cases h0 : idB c.id with
  | false => rw [h0, if_pos rfl] at h; exact .inl ⟨rfl, h.symm⟩
  | true =>
    rw [h0, if_neg (by simp)] at h
    by_cases h1 : c.id ≤ p
    · rw [if_pos h1] at h; exact .inr (.inl ⟨rfl, h1, h.symm⟩)
    · rw [if_neg h1] at h; exact .inr (.inr ⟨rfl, by omega, h⟩)
set_option maxHeartbeats 4000000 in
theorem rlCh_long (a : Option Addr) (n cap : Nat) (w : World) (h : 32 < n) (hn : n ≤ 9223372036854775807) :
    Calls Try.prog 74 #[.slice a n cap] w fun e w' => e = .returned (.tuple #[.int .i64 (-1), .int .i64 8]) ∧ Below w.heap.size w w' := by
  have q : decide (32 < (n : Int)) = true := decide_eq_true (by omega)
  go_enter Try.func74, Try.ntmps74
  go_wp2
  go_returns
  exact ⟨rfl, Below.refl _ _⟩
set_option maxHeartbeats 32000000 in
set_option maxRecDepth 100000 in
theorem rlCh_ok (a : Option Addr) (n cap : Nat) (l : List Lt) (w : World) (NV0 : Hid (Lts w (.slice a n cap) l)) (hn : n ≤ 32) (hp : Hid (∀ j, j < n → ltF (gL l j) (pvI l j) = 0)) :
    Calls Try.prog 74 #[.slice a n cap] w fun e w' => e = .returned (.tuple #[.int .i64 (-1), .int .i64 0]) ∧ Below w.heap.size w w' := by
  have q : decide (32 < (n : Int)) = false := decide_eq_false (by omega)
  go_enter Try.func74, Try.ntmps74
  go_wp2_with fail
  go_loopw [4] (fun i wr => ∃ k : Nat, k ≤ n ∧ i = .int .i64 k ∧ Hid (Below w.heap.size w wr)) (fun i _ => n - (intOf i).toNat)
  case atStart => exact ⟨0, Nat.zero_le _, rfl, Lib.hid (Below.refl _ _)⟩
  case round =>
    obtain ⟨k, hk, rfl, X⟩ := hrel
    have NV := Lib.hid (NV0.out.below X.out)
    by_cases hlt : k < n
    · by_cases hz : k = 0
      · subst hz
        obtain ⟨b, off, rfl, hb, hnl, hc⟩ := NV.out.at (by omega)
        clear hnl
        obtain ⟨sa, sc, c0, c1, c2, c3, hP⟩ := hc (0) (by omega)
        clear hc
        have PS := Lib.hid hP
        clear hP
        have HO := Lib.hid (fun a c W h => rlOne_any (gL l (0)) a c W h)
        have HI := Lib.hid (fun W => rlId_any (gL l (0)).id W)
        have hq := roF_zero (hp.out (0) (by omega))
        unfold ltV at HO
        rw [show pvI l 0 = 0 from rfl] at hq
        simp only [Nat.zero_mul, Nat.add_zero] at c0 c1 c2 c3
        generalize roF (gL l (0)) = E at *
        generalize gL l (0) = c at *
        obtain ⟨cd, cA, cM, cS⟩ := c
        simp only at c0 c1 c2 c3 hq HI
        replace PS : Hid (Pts wr (.slice sa cS.length sc) cS) := PS
        replace HO : Hid (∀ a cap W, Pts W (.slice a cS.length cap) cS → Calls Try.prog 90 #[.agg #[.int .i64 cd, .int .i64 cA, .int .i64 cM, .slice a cS.length cap]] W fun e w' => e = .returned (.int .i64 E) ∧ Below W.heap.size W w') := HO
        generalize cS.length = cn at *
        obtain ⟨q1, q2, q3⟩ := hq
        rw [q1] at HI
        have l8 : (0 : Int) < (n : Int) := by omega
        have l7 : (0 : Nat) < n := by omega
        go_wp2_with fail
        refine (HI.out _).mono ?_
        rintro e w1 ⟨rfl, hw⟩
        subst hw
        go_wp2_with fail
        go_quiet (fail)
        rename_i nq
        go_wp2_with fail
        refine (HO.out _ _ _ (PS.out.below (bel_drewN _ _))).mono ?_
        rintro e w3 ⟨rfl, h1⟩
        have X3 := Lib.hid (bel_trans (bel_trans X.out (bel_drewN _ _)) h1)
        clear h1 c0 c1 c2 c3
        have d : (E != 0) = false := by rw [q3]; rfl
        go_wp2
        go_roundw
        case rel => exact ⟨1, by omega, by go_num, X3⟩
        case measure => simp [intOf]; omega
      · obtain ⟨j, rfl⟩ : ∃ j, k = j + 1 := ⟨k - 1, by omega⟩
        clear hz
        obtain ⟨b, off, rfl, hb, hnl, hc⟩ := NV.out.at (by omega)
        clear hnl
        obtain ⟨sa, sc, c0, c1, c2, c3, hP⟩ := hc (j + 1) (by omega)
        obtain ⟨_, _, e0, _, _, _, _⟩ := hc j (by omega)
        clear hc
        have PS := Lib.hid hP
        clear hP
        have HO := Lib.hid (fun a c W h => rlOne_any (gL l (j + 1)) a c W h)
        have HI := Lib.hid (fun W => rlId_any (gL l (j + 1)).id W)
        have hq := roF_zero (hp.out (j + 1) (by omega))
        unfold ltV at HO
        rw [pvI_next] at hq
        generalize (gL l j).id = p at *
        generalize roF (gL l (j + 1)) = E at *
        generalize gL l (j + 1) = c at *
        obtain ⟨cd, cA, cM, cS⟩ := c
        simp only at c0 c1 c2 c3 hq HI
        replace PS : Hid (Pts wr (.slice sa cS.length sc) cS) := PS
        replace HO : Hid (∀ a cap W, Pts W (.slice a cS.length cap) cS → Calls Try.prog 90 #[.agg #[.int .i64 cd, .int .i64 cA, .int .i64 cM, .slice a cS.length cap]] W fun e w' => e = .returned (.int .i64 E) ∧ Below W.heap.size W w') := HO
        generalize cS.length = cn at *
        obtain ⟨q1, q2, q3⟩ := hq
        rw [q1] at HI
        have l9 : (j : Int) + 1 < (n : Int) := by omega
        have l8 : (j : Int) < (n : Int) := by omega
        have d5 : decide (0 < (j : Int) + 1) = true := decide_eq_true (by omega)
        have d6 : decide (cd ≤ p) = false := decide_eq_false (by omega)
        have wj : IntKind.i64.wrap (j : Int) = (j : Int) := wrap_in _ ⟨by omega, by omega⟩
        go_wp2_with fail
        refine (HI.out _).mono ?_
        rintro e w1 ⟨rfl, hw⟩
        subst hw
        go_wp2_with fail
        go_quiet (fail)
        rename_i nq
        go_wp2_with fail
        refine (HO.out _ _ _ (PS.out.below (bel_drewN _ _))).mono ?_
        rintro e w3 ⟨rfl, h1⟩
        have X3 := Lib.hid (bel_trans (bel_trans X.out (bel_drewN _ _)) h1)
        clear h1 c0 c1 c2 c3
        have d : (E != 0) = false := by rw [q3]; rfl
        go_wp2
        go_roundw
        case rel => exact ⟨j + 1 + 1, by omega, by go_num, X3⟩
        case measure => simp [intOf]; omega
    · obtain rfl : k = n := by omega
      go_wp2
      go_returns
      exact ⟨rfl, X.out⟩
set_option maxHeartbeats 32000000 in
set_option maxRecDepth 100000 in
theorem rlCh_bad (a : Option Addr) (n cap : Nat) (l : List Lt) (w : World) (NV0 : Hid (Lts w (.slice a n cap) l)) (hn : n ≤ 32) (m : Nat) (hm : m < n) (F : Int) (hF : (F != 0) = true) (hE : ltF (gL l m) (pvI l m) = F) (hp : Hid (∀ j, j < m → ltF (gL l j) (pvI l j) = 0)) :
    Calls Try.prog 74 #[.slice a n cap] w fun e w' => e = .returned (.tuple #[.int .i64 (m : Nat), .int .i64 F]) ∧ Below w.heap.size w w' := by
  have q : decide (32 < (n : Int)) = false := decide_eq_false (by omega)
  go_enter Try.func74, Try.ntmps74
  go_wp2_with fail
  go_loopw [4] (fun i wr => ∃ k : Nat, k ≤ m ∧ i = .int .i64 k ∧ Hid (Below w.heap.size w wr)) (fun i _ => n - (intOf i).toNat)
  case atStart => exact ⟨0, Nat.zero_le _, rfl, Lib.hid (Below.refl _ _)⟩
  case round =>
    obtain ⟨k, hk, rfl, X⟩ := hrel
    have NV := Lib.hid (NV0.out.below X.out)
    by_cases hlt : k < m
    · by_cases hz : k = 0
      · subst hz
        obtain ⟨b, off, rfl, hb, hnl, hc⟩ := NV.out.at (by omega)
        clear hnl
        obtain ⟨sa, sc, c0, c1, c2, c3, hP⟩ := hc (0) (by omega)
        clear hc
        have PS := Lib.hid hP
        clear hP
        have HO := Lib.hid (fun a c W h => rlOne_any (gL l (0)) a c W h)
        have HI := Lib.hid (fun W => rlId_any (gL l (0)).id W)
        have hq := roF_zero (hp.out (0) (by omega))
        unfold ltV at HO
        rw [show pvI l 0 = 0 from rfl] at hq
        simp only [Nat.zero_mul, Nat.add_zero] at c0 c1 c2 c3
        generalize roF (gL l (0)) = E at *
        generalize gL l (0) = c at *
        obtain ⟨cd, cA, cM, cS⟩ := c
        simp only at c0 c1 c2 c3 hq HI
        replace PS : Hid (Pts wr (.slice sa cS.length sc) cS) := PS
        replace HO : Hid (∀ a cap W, Pts W (.slice a cS.length cap) cS → Calls Try.prog 90 #[.agg #[.int .i64 cd, .int .i64 cA, .int .i64 cM, .slice a cS.length cap]] W fun e w' => e = .returned (.int .i64 E) ∧ Below W.heap.size W w') := HO
        generalize cS.length = cn at *
        obtain ⟨q1, q2, q3⟩ := hq
        rw [q1] at HI
        have l8 : (0 : Int) < (n : Int) := by omega
        have l7 : (0 : Nat) < n := by omega
        go_wp2_with fail
        refine (HI.out _).mono ?_
        rintro e w1 ⟨rfl, hw⟩
        subst hw
        go_wp2_with fail
        go_quiet (fail)
        rename_i nq
        go_wp2_with fail
        refine (HO.out _ _ _ (PS.out.below (bel_drewN _ _))).mono ?_
        rintro e w3 ⟨rfl, h1⟩
        have X3 := Lib.hid (bel_trans (bel_trans X.out (bel_drewN _ _)) h1)
        clear h1 c0 c1 c2 c3
        have d : (E != 0) = false := by rw [q3]; rfl
        go_wp2
        go_roundw
        case rel => exact ⟨1, by omega, by go_num, X3⟩
        case measure => simp [intOf]; omega
      · obtain ⟨j, rfl⟩ : ∃ j, k = j + 1 := ⟨k - 1, by omega⟩
        clear hz
        obtain ⟨b, off, rfl, hb, hnl, hc⟩ := NV.out.at (by omega)
        clear hnl
        obtain ⟨sa, sc, c0, c1, c2, c3, hP⟩ := hc (j + 1) (by omega)
        obtain ⟨_, _, e0, _, _, _, _⟩ := hc j (by omega)
        clear hc
        have PS := Lib.hid hP
        clear hP
        have HO := Lib.hid (fun a c W h => rlOne_any (gL l (j + 1)) a c W h)
        have HI := Lib.hid (fun W => rlId_any (gL l (j + 1)).id W)
        have hq := roF_zero (hp.out (j + 1) (by omega))
        unfold ltV at HO
        rw [pvI_next] at hq
        generalize (gL l j).id = p at *
        generalize roF (gL l (j + 1)) = E at *
        generalize gL l (j + 1) = c at *
        obtain ⟨cd, cA, cM, cS⟩ := c
        simp only at c0 c1 c2 c3 hq HI
        replace PS : Hid (Pts wr (.slice sa cS.length sc) cS) := PS
        replace HO : Hid (∀ a cap W, Pts W (.slice a cS.length cap) cS → Calls Try.prog 90 #[.agg #[.int .i64 cd, .int .i64 cA, .int .i64 cM, .slice a cS.length cap]] W fun e w' => e = .returned (.int .i64 E) ∧ Below W.heap.size W w') := HO
        generalize cS.length = cn at *
        obtain ⟨q1, q2, q3⟩ := hq
        rw [q1] at HI
        have l9 : (j : Int) + 1 < (n : Int) := by omega
        have l8 : (j : Int) < (n : Int) := by omega
        have d5 : decide (0 < (j : Int) + 1) = true := decide_eq_true (by omega)
        have d6 : decide (cd ≤ p) = false := decide_eq_false (by omega)
        have wj : IntKind.i64.wrap (j : Int) = (j : Int) := wrap_in _ ⟨by omega, by omega⟩
        go_wp2_with fail
        refine (HI.out _).mono ?_
        rintro e w1 ⟨rfl, hw⟩
        subst hw
        go_wp2_with fail
        go_quiet (fail)
        rename_i nq
        go_wp2_with fail
        refine (HO.out _ _ _ (PS.out.below (bel_drewN _ _))).mono ?_
        rintro e w3 ⟨rfl, h1⟩
        have X3 := Lib.hid (bel_trans (bel_trans X.out (bel_drewN _ _)) h1)
        clear h1 c0 c1 c2 c3
        have d : (E != 0) = false := by rw [q3]; rfl
        go_wp2
        go_roundw
        case rel => exact ⟨j + 1 + 1, by omega, by go_num, X3⟩
        case measure => simp [intOf]; omega
    · obtain rfl : k = m := by omega
      clear hp
      by_cases hz : k = 0
      · subst hz
        obtain ⟨b, off, rfl, hb, hnl, hc⟩ := NV.out.at (by omega)
        clear hnl
        obtain ⟨sa, sc, c0, c1, c2, c3, hP⟩ := hc (0) (by omega)
        clear hc
        have PS := Lib.hid hP
        clear hP
        have HO := Lib.hid (fun a c W h => rlOne_any (gL l (0)) a c W h)
        have HI := Lib.hid (fun W => rlId_any (gL l (0)).id W)
        have hq := roF_some hE
        unfold ltV at HO
        rw [show pvI l 0 = 0 from rfl] at hq
        simp only [Nat.zero_mul, Nat.add_zero] at c0 c1 c2 c3
        generalize roF (gL l (0)) = E at *
        generalize gL l (0) = c at *
        obtain ⟨cd, cA, cM, cS⟩ := c
        simp only at c0 c1 c2 c3 hq HI
        replace PS : Hid (Pts wr (.slice sa cS.length sc) cS) := PS
        replace HO : Hid (∀ a cap W, Pts W (.slice a cS.length cap) cS → Calls Try.prog 90 #[.agg #[.int .i64 cd, .int .i64 cA, .int .i64 cM, .slice a cS.length cap]] W fun e w' => e = .returned (.int .i64 E) ∧ Below W.heap.size W w') := HO
        generalize cS.length = cn at *
        clear hE
        rcases hq with ⟨q1, rfl⟩ | ⟨q1, q2, q3⟩ | ⟨q1, q2, q3⟩
        · rw [q1] at HI
          have l8 : (0 : Int) < (n : Int) := by omega
          have l7 : (0 : Nat) < n := by omega
          go_wp2_with fail
          refine (HI.out _).mono ?_
          rintro e w1 ⟨rfl, hw⟩
          subst hw
          go_wp2
          go_returns
          exact ⟨rfl, X.out⟩
        · exfalso; have := (idB_iff.1 q1).1; omega
        · rw [q1] at HI
          have l8 : (0 : Int) < (n : Int) := by omega
          have l7 : (0 : Nat) < n := by omega
          go_wp2_with fail
          refine (HI.out _).mono ?_
          rintro e w1 ⟨rfl, hw⟩
          subst hw
          go_wp2_with fail
          go_quiet (fail)
          rename_i nq
          go_wp2_with fail
          refine (HO.out _ _ _ (PS.out.below (bel_drewN _ _))).mono ?_
          rintro e w3 ⟨rfl, h1⟩
          have X3 := Lib.hid (bel_trans (bel_trans X.out (bel_drewN _ _)) h1)
          clear h1 c0 c1 c2 c3
          have d : (E != 0) = true := by rw [q3]; exact hF
          go_wp2
          go_returns
          exact ⟨rfl, X3.out⟩
      · obtain ⟨j, rfl⟩ : ∃ j, k = j + 1 := ⟨k - 1, by omega⟩
        clear hz
        obtain ⟨b, off, rfl, hb, hnl, hc⟩ := NV.out.at (by omega)
        clear hnl
        obtain ⟨sa, sc, c0, c1, c2, c3, hP⟩ := hc (j + 1) (by omega)
        obtain ⟨_, _, e0, _, _, _, _⟩ := hc j (by omega)
        clear hc
        have PS := Lib.hid hP
        clear hP
        have HO := Lib.hid (fun a c W h => rlOne_any (gL l (j + 1)) a c W h)
        have HI := Lib.hid (fun W => rlId_any (gL l (j + 1)).id W)
        have hq := roF_some hE
        unfold ltV at HO
        rw [pvI_next] at hq
        generalize (gL l j).id = p at *
        generalize roF (gL l (j + 1)) = E at *
        generalize gL l (j + 1) = c at *
        obtain ⟨cd, cA, cM, cS⟩ := c
        simp only at c0 c1 c2 c3 hq HI
        replace PS : Hid (Pts wr (.slice sa cS.length sc) cS) := PS
        replace HO : Hid (∀ a cap W, Pts W (.slice a cS.length cap) cS → Calls Try.prog 90 #[.agg #[.int .i64 cd, .int .i64 cA, .int .i64 cM, .slice a cS.length cap]] W fun e w' => e = .returned (.int .i64 E) ∧ Below W.heap.size W w') := HO
        generalize cS.length = cn at *
        clear hE
        rcases hq with ⟨q1, rfl⟩ | ⟨q1, q2, q3⟩ | ⟨q1, q2, q3⟩
        · rw [q1] at HI
          have l9 : (j : Int) + 1 < (n : Int) := by omega
          have l8 : (j : Int) < (n : Int) := by omega
          have d5 : decide (0 < (j : Int) + 1) = true := decide_eq_true (by omega)
          go_wp2_with fail
          refine (HI.out _).mono ?_
          rintro e w1 ⟨rfl, hw⟩
          subst hw
          go_wp2
          go_returns
          exact ⟨rfl, X.out⟩
        · subst q3
          rw [q1] at HI
          have l9 : (j : Int) + 1 < (n : Int) := by omega
          have l8 : (j : Int) < (n : Int) := by omega
          have d5 : decide (0 < (j : Int) + 1) = true := decide_eq_true (by omega)
          have d6 : decide (cd ≤ p) = true := decide_eq_true (by omega)
          have wj : IntKind.i64.wrap (j : Int) = (j : Int) := wrap_in _ ⟨by omega, by omega⟩
          go_wp2_with fail
          refine (HI.out _).mono ?_
          rintro e w1 ⟨rfl, hw⟩
          subst hw
          go_wp2_with fail
          go_quiet (fail)
          rename_i nq
          go_wp2
          go_returns
          exact ⟨rfl, bel_trans X.out (bel_drewN _ _)⟩
        · rw [q1] at HI
          have l9 : (j : Int) + 1 < (n : Int) := by omega
          have l8 : (j : Int) < (n : Int) := by omega
          have d5 : decide (0 < (j : Int) + 1) = true := decide_eq_true (by omega)
          have d6 : decide (cd ≤ p) = false := decide_eq_false (by omega)
          have wj : IntKind.i64.wrap (j : Int) = (j : Int) := wrap_in _ ⟨by omega, by omega⟩
          go_wp2_with fail
          refine (HI.out _).mono ?_
          rintro e w1 ⟨rfl, hw⟩
          subst hw
          go_wp2_with fail
          go_quiet (fail)
          rename_i nq
          go_wp2_with fail
          refine (HO.out _ _ _ (PS.out.below (bel_drewN _ _))).mono ?_
          rintro e w3 ⟨rfl, h1⟩
          have X3 := Lib.hid (bel_trans (bel_trans X.out (bel_drewN _ _)) h1)
          clear h1 c0 c1 c2 c3
          have d : (E != 0) = true := by rw [q3]; exact hF
          go_wp2
          go_returns
          exact ⟨rfl, X3.out⟩
theorem rlCh_any (v : Value) (l : List Lt) (w : World) (hv : Lts w v l) :
    Calls Try.prog 74 #[v] w fun e w' => e = .returned (.tuple #[.int .i64 (ltI l), .int .i64 (ltE l)]) ∧ Below w.heap.size w w' := by
  obtain ⟨a, cap, rfl, hcap, _⟩ := id hv
  unfold ltE ltI
  by_cases h : 32 < l.length
  · rw [if_pos h, if_pos h]; exact rlCh_long a _ cap w h (by omega)
  · rw [if_neg h, if_neg h]
    obtain ⟨s1, s2⟩ := fst_spec (fun k => ltF (gL l k) (pvI l k) != 0) l.length
    have le := fst_le (fun k => ltF (gL l k) (pvI l k) != 0) l.length
    change ltK l ≤ l.length at le
    by_cases g : ltK l < l.length
    · rw [if_pos g, if_pos g]
      exact rlCh_bad a _ cap l w hv (by omega) (ltK l) g _ (s2 g) rfl (Lib.hid fun j hj => by simpa using s1 j hj)
    · rw [if_neg g, if_neg g]
      exact rlCh_ok a _ cap l w hv (by omega) (Lib.hid fun j hj => by
        have : ltK l = l.length := by omega
        have := s1 j (by show j < ltK l; omega)
        simpa using this)
end Go.Proofs.Ytmoeccghkpjbgaa

/- The reference of layer 22: Right, Few. -/
namespace Go.Proofs.Ytmoeccghkpjbgaa
open Go.RowKit

set_option maxHeartbeats 4000000 in
theorem rlRi_any (v : Value) (l : List Lt) (w : World) (hv : Lts w v l) :
    Calls Try.prog 51 #[v] w fun e w' => e = .returned (.bool (ltE l == 0)) ∧ Below w.heap.size w w' := by
  have HC := Lib.hid (rlCh_any v l w hv)
  generalize ltE l = E at *
  generalize ltI l = I at *
  go_enter Try.func51, Try.ntmps51
  go_wp2_with fail
  refine HC.out.mono ?_
  rintro e w1 ⟨rfl, h1⟩
  have X := Lib.hid h1; clear h1
  go_wp2
  go_returns
  exact ⟨rfl, X.out⟩

def fwS (n : Nat) : Bool := decide (n ≤ 12) || (decide (32 < n) && decide (n ≤ 37))
theorem fwS_iff {n : Nat} : fwS n = true ↔ n ≤ 12 ∨ (32 < n ∧ n ≤ 37) := by simp [fwS]
set_option maxHeartbeats 4000000 in
theorem rlFs_any (a : Option Addr) (n cap : Nat) (w : World) :
    Calls Try.prog 11 #[.slice a n cap] w fun e w' => e = .returned (.bool (fwS n)) ∧ Below w.heap.size w w' := by
  by_cases h0 : n ≤ 12
  · have q0 : decide ((n : Int) ≤ 12) = true := decide_eq_true (by omega)
    have e : fwS n = true := fwS_iff.2 (.inl h0)
    rw [e]; clear e h0
    go_enter Try.func11, Try.ntmps11
    go_wp2
    go_returns
    exact ⟨rfl, Below.refl _ _⟩
  · have q0 : decide ((n : Int) ≤ 12) = false := decide_eq_false (by omega)
    by_cases h1 : 32 < n
    · have q1 : decide (32 < (n : Int)) = true := decide_eq_true (by omega)
      have e : fwS n = decide ((n : Int) ≤ 37) := by
        rw [Bool.eq_iff_iff, fwS_iff, decide_eq_true_eq]; omega
      rw [e]; clear e h0 h1
      go_enter Try.func11, Try.ntmps11
      go_wp2
      go_returns
      exact ⟨rfl, Below.refl _ _⟩
    · have q1 : decide (32 < (n : Int)) = false := decide_eq_false (by omega)
      have e : fwS n = false := by
        cases h : fwS n with
        | false => rfl
        | true => have := fwS_iff.1 h; omega
      rw [e]; clear e h0 h1
      go_enter Try.func11, Try.ntmps11
      go_wp2
      go_returns
      exact ⟨rfl, Below.refl _ _⟩
def fwN (n : Nat) : Bool := decide (n ≤ 8) || (decide (32 < n) && decide (n ≤ 37))
theorem fwN_iff {n : Nat} : fwN n = true ↔ n ≤ 8 ∨ (32 < n ∧ n ≤ 37) := by simp [fwN]
set_option maxHeartbeats 4000000 in
theorem rlFw_long (a : Option Addr) (n cap : Nat) (w : World) (h : fwN n = false) :
    Calls Try.prog 24 #[.slice a n cap] w fun e w' => e = .returned (.bool false) ∧ Below w.heap.size w w' := by
  have h' : ¬ (n ≤ 8 ∨ (32 < n ∧ n ≤ 37)) := fun g => by rw [fwN_iff.2 g] at h; cases h
  have q0 : decide (8 < (n : Int)) = true := decide_eq_true (by omega)
  by_cases h1 : n ≤ 32
  · have q1 : decide ((n : Int) ≤ 32) = true := decide_eq_true (by omega)
    clear h h' h1
    go_enter Try.func24, Try.ntmps24
    go_wp2
    go_returns
    exact ⟨rfl, Below.refl _ _⟩
  · have q1 : decide ((n : Int) ≤ 32) = false := decide_eq_false (by omega)
    have q2 : decide (37 < (n : Int)) = true := decide_eq_true (by omega)
    clear h h' h1
    go_enter Try.func24, Try.ntmps24
    go_wp2
    go_returns
    exact ⟨rfl, Below.refl _ _⟩
set_option maxHeartbeats 16000000 in
set_option maxRecDepth 100000 in
theorem rlFw_loop0 (a : Option Addr) (n cap : Nat) (l : List Lt) (w : World) (NV0 : Hid (Lts w (.slice a n cap) l)) (h : n ≤ 8) :
    Calls Try.prog 24 #[.slice a n cap] w fun e w' => (e = .returned (.bool false) ∨ (e = .returned (.bool true) ∧ Hid (∀ j, j < n → fwS (gL l j).sh.length = true))) ∧ Below w.heap.size w w' := by
  have q0 : decide (8 < (n : Int)) = false := decide_eq_false (by omega)
  have q2 : decide (37 < (n : Int)) = false := decide_eq_false (by omega)
  have hn : n ≤ 37 := by omega
  clear h
  go_enter Try.func24, Try.ntmps24
  go_wp2_with fail
  go_loopw [3] (fun i wr => ∃ k : Nat, k ≤ n ∧ i = .int .i64 k ∧ Hid (∀ j, j < k → fwS (gL l j).sh.length = true) ∧ Hid (Below w.heap.size w wr)) (fun i _ => n - (intOf i).toNat)
  case atStart => exact ⟨0, Nat.zero_le _, rfl, Lib.hid (fun j h => absurd h (by omega)), Lib.hid (Below.refl _ _)⟩
  case round =>
    obtain ⟨k, hk, rfl, P, X⟩ := hrel
    have NV := Lib.hid (NV0.out.below X.out)
    by_cases hlt : k < n
    · have l9 : (k : Int) < (n : Int) := by omega
      obtain ⟨b, off, rfl, hb, hnl, hc⟩ := NV.out.at (by omega)
      clear hnl
      obtain ⟨sa, sc, c0, c1, c2, c3, hP⟩ := hc k (by omega)
      clear hc hP c0 c1 c2
      have HW := Lib.hid (fun W => rlFs_any sa (gL l k).sh.length sc W)
      have hB : Hid (fwS (gL l k).sh.length = fwS (gL l k).sh.length) := Lib.hid rfl
      generalize hb2 : fwS (gL l k).sh.length = B at HW
      clear hB
      replace hb2 := Lib.hid hb2
      generalize (gL l k).sh.length = sn at c3 HW
      cases B with
      | true =>
        go_wp2_with fail
        refine (HW.out _).mono ?_
        rintro e w1 ⟨rfl, h1⟩
        replace X := Lib.hid (bel_trans X.out h1)
        clear h1 c3
        go_wp2
        go_roundw
        case rel => exact ⟨k + 1, by omega, by go_num, Lib.hid (fun j hj => by
          by_cases e : j = k
          · subst e; exact hb2.out
          · exact P.out j (by omega)), X⟩
        case measure => simp [intOf]; omega
      | false =>
        go_wp2_with fail
        refine (HW.out _).mono ?_
        rintro e w1 ⟨rfl, h1⟩
        replace X := Lib.hid (bel_trans X.out h1)
        clear h1 c3
        go_wp2
        go_returns
        exact ⟨.inl rfl, X.out⟩
    · obtain rfl : k = n := by omega
      go_wp2
      go_returns
      exact ⟨.inr ⟨rfl, P⟩, X.out⟩
set_option maxHeartbeats 16000000 in
set_option maxRecDepth 100000 in
theorem rlFw_loop1 (a : Option Addr) (n cap : Nat) (l : List Lt) (w : World) (NV0 : Hid (Lts w (.slice a n cap) l)) (h : 32 < n ∧ n ≤ 37) :
    Calls Try.prog 24 #[.slice a n cap] w fun e w' => (e = .returned (.bool false) ∨ (e = .returned (.bool true) ∧ Hid (∀ j, j < n → fwS (gL l j).sh.length = true))) ∧ Below w.heap.size w w' := by
  have q0 : decide (8 < (n : Int)) = true := decide_eq_true (by omega)
  have q1 : decide ((n : Int) ≤ 32) = false := decide_eq_false (by omega)
  have q2 : decide (37 < (n : Int)) = false := decide_eq_false (by omega)
  have hn : n ≤ 37 := by omega
  clear h
  go_enter Try.func24, Try.ntmps24
  go_wp2_with fail
  go_loopw [3] (fun i wr => ∃ k : Nat, k ≤ n ∧ i = .int .i64 k ∧ Hid (∀ j, j < k → fwS (gL l j).sh.length = true) ∧ Hid (Below w.heap.size w wr)) (fun i _ => n - (intOf i).toNat)
  case atStart => exact ⟨0, Nat.zero_le _, rfl, Lib.hid (fun j h => absurd h (by omega)), Lib.hid (Below.refl _ _)⟩
  case round =>
    obtain ⟨k, hk, rfl, P, X⟩ := hrel
    have NV := Lib.hid (NV0.out.below X.out)
    by_cases hlt : k < n
    · have l9 : (k : Int) < (n : Int) := by omega
      obtain ⟨b, off, rfl, hb, hnl, hc⟩ := NV.out.at (by omega)
      clear hnl
      obtain ⟨sa, sc, c0, c1, c2, c3, hP⟩ := hc k (by omega)
      clear hc hP c0 c1 c2
      have HW := Lib.hid (fun W => rlFs_any sa (gL l k).sh.length sc W)
      have hB : Hid (fwS (gL l k).sh.length = fwS (gL l k).sh.length) := Lib.hid rfl
      generalize hb2 : fwS (gL l k).sh.length = B at HW
      clear hB
      replace hb2 := Lib.hid hb2
      generalize (gL l k).sh.length = sn at c3 HW
      cases B with
      | true =>
        go_wp2_with fail
        refine (HW.out _).mono ?_
        rintro e w1 ⟨rfl, h1⟩
        replace X := Lib.hid (bel_trans X.out h1)
        clear h1 c3
        go_wp2
        go_roundw
        case rel => exact ⟨k + 1, by omega, by go_num, Lib.hid (fun j hj => by
          by_cases e : j = k
          · subst e; exact hb2.out
          · exact P.out j (by omega)), X⟩
        case measure => simp [intOf]; omega
      | false =>
        go_wp2_with fail
        refine (HW.out _).mono ?_
        rintro e w1 ⟨rfl, h1⟩
        replace X := Lib.hid (bel_trans X.out h1)
        clear h1 c3
        go_wp2
        go_returns
        exact ⟨.inl rfl, X.out⟩
    · obtain rfl : k = n := by omega
      go_wp2
      go_returns
      exact ⟨.inr ⟨rfl, P⟩, X.out⟩
theorem rlFw_any (v : Value) (l : List Lt) (w : World) (hv : Lts w v l) :
    Calls Try.prog 24 #[v] w fun e w' => (e = .returned (.bool false) ∨ (e = .returned (.bool true) ∧ Hid (fwN l.length = true ∧ ∀ j, j < l.length → fwS (gL l j).sh.length = true))) ∧ Below w.heap.size w w' := by
  obtain ⟨a, cap, rfl, hcap, _⟩ := id hv
  cases hN : fwN l.length with
  | false => exact (rlFw_long a _ cap w hN).mono (by rintro e w1 ⟨rfl, h⟩; exact ⟨.inl rfl, h⟩)
  | true =>
    rcases fwN_iff.1 hN with h | h
    · exact (rlFw_loop0 a _ cap l w (Lib.hid hv) h).mono (by
        rintro e w1 ⟨h1 | ⟨h1, h2⟩, h⟩
        · exact ⟨.inl h1, h⟩
        · exact ⟨.inr ⟨h1, Lib.hid ⟨rfl, h2.out⟩⟩, h⟩)
    · exact (rlFw_loop1 a _ cap l w (Lib.hid hv) h).mono (by
        rintro e w1 ⟨h1 | ⟨h1, h2⟩, h⟩
        · exact ⟨.inl h1, h⟩
        · exact ⟨.inr ⟨h1, Lib.hid ⟨rfl, h2.out⟩⟩, h⟩)
end Go.Proofs.Ytmoeccghkpjbgaa

/- The reference of layer 22: Total. -/
namespace Go.Proofs.Ytmoeccghkpjbgaa
open Go.RowKit

theorem la_bd {l : List Lt} (h : LS l) : ∀ k, k ≤ l.length → 0 ≤ laS l k ∧ laS l k ≤ 10737418240000 * k ∧ 0 ≤ lmS l k ∧ lmS l k ≤ 128849018880000 * k
  | 0, _ => by simp [laS, lmS]
  | k + 1, hk => by
    obtain ⟨p1, p2, p3, p4, p5⟩ := plB_iff.1 (h.one (j := k) (by omega)).pl
    have e1 : laS l (k + 1) = laS l k + (gL l k).al := rfl
    have e2 : lmS l (k + 1) = lmS l k + (gL l k).ms := rfl
    have i := la_bd h k (by omega)
    omega
end Go.Proofs.Ytmoeccghkpjbgaa

/- The reference of layer 22: Of. -/
namespace Go.Proofs.Ytmoeccghkpjbgaa
open Go.RowKit

end Go.Proofs.Ytmoeccghkpjbgaa

/- The reference of layer 22: SameShares. -/
namespace Go.Proofs.Ytmoeccghkpjbgaa
open Go.RowKit

theorem run_same_shr (a b x y : Int) (w : World) :
    (Op.equalIn 10000 52 (.agg #[.int .i64 a, .int .i64 b]) (.agg #[.int .i64 x, .int .i64 y])).run Try.prog w = .ok (samP a b x y) w := by
  rw [show (10000 : Nat) = 9999 + 1 from rfl, run_equalIn_agg w 9999 52 _ _ (by kernel_rfl) (by kernel_rfl)]
  have hf : (Try.prog.fieldsOf 52).toList.map (fun f => (f.name, f.type, f.offset)) = [("Fill", 3, 0), ("Alcohol", 3, 1)] := by kernel_rfl
  generalize (Try.prog.fieldsOf 52).toList = fs at *
  obtain ⟨f, g, rfl⟩ : ∃ f g, fs = [f, g] := by
    have hl := congrArg List.length hf
    rw [List.length_map] at hl
    rcases fs with _ | ⟨f, _ | ⟨g, _ | ⟨h, fs⟩⟩⟩ <;> simp at hl
    exact ⟨f, g, rfl⟩
  simp only [List.map_cons, List.map_nil, List.cons.injEq, Prod.mk.injEq, and_true] at hf
  obtain ⟨⟨f1, f2, f3⟩, g1, g2, g3⟩ := hf
  have eq : ∀ (u v : Int) (W : World), (Op.equalIn 9999 3 (.int .i64 u) (.int .i64 v)).run Try.prog W = .ok (u == v) W := fun u v W => run_equalIn_int W 9998 3 .i64 .i64 u v Try.underlying3
  by_cases e1 : a = x <;> by_cases e2 : b = y <;> simp [Op.eqFields, f1, f2, f3, g1, g2, g3, go_sem, samP, eq, e1, e2]
theorem run_neq_shr (a b x y : Int) (w : World) :
    (binOp .neq 52 (.agg #[.int .i64 a, .int .i64 b]) (.agg #[.int .i64 x, .int .i64 y])).run Try.prog w = .ok (.bool (!samP a b x y)) w := by
  rw [run_neq_struct, run_same_shr]; rfl
theorem run_eql_shr (a b x y : Int) (w : World) :
    (binOp .eql 52 (.agg #[.int .i64 a, .int .i64 b]) (.agg #[.int .i64 x, .int .i64 y])).run Try.prog w = .ok (.bool (samP a b x y)) w := by
  rw [run_eql_struct, run_same_shr]; rfl
theorem sam_eqS {l m : List (Int × Int)} (hl : l.length = m.length) (h : ∀ j, j < l.length → samP (gX l j) (gR l j) (gX m j) (gR m j) = true) : l = m := by
  apply List.ext_getElem hl
  intro i h1 h2
  have := h i h1
  simp only [samP, Bool.and_eq_true, beq_iff_eq, gX, gR, List.getD_eq_getElem?_getD, List.getElem?_eq_getElem h1, List.getElem?_eq_getElem h2, Option.getD_some] at this
  exact Prod.ext this.1 this.2
theorem rlSs_lens (a c : Option Addr) (n cap m cap2 : Nat) (w : World) (h : ((n : Int) != (m : Int)) = true) :
    Calls Try.prog 20 #[.slice a n cap, .slice c m cap2] w fun e w' => e = .returned (.bool false) ∧ Below w.heap.size w w' := by
  go_enter Try.func20, Try.ntmps20
  go_wp2
  go_returns
  exact ⟨rfl, Below.refl _ _⟩
theorem rlSs_nil (a c : Option Addr) (cap cap2 : Nat) (w : World) :
    Calls Try.prog 20 #[.slice a 0 cap, .slice c 0 cap2] w fun e w' => e = .returned (.bool true) ∧ Below w.heap.size w w' := by
  go_enter Try.func20, Try.ntmps20
  go_wp2_with fail
  go_loopw [5] (fun ii wr => ii = .int .i64 0 ∧ Hid (Below w.heap.size w wr)) (fun _ _ => 0)
  case atStart => exact ⟨rfl, Below.refl _ _⟩
  case round =>
    obtain ⟨rfl, hB⟩ := hrel
    go_wp2
    go_returns
    exact ⟨rfl, hB.out⟩
set_option maxHeartbeats 4000000 in
theorem rlSs_some (b off b2 off2 n cap cap2 : Nat) (f g f2 g2 : Nat → Int) (S : Bool) (w : World) (n1 : n ≤ 1000) (hb : b < w.heap.size) (hb2 : b2 < w.heap.size)
    (hc : Hid (∀ j, j < n → w.cell? ⟨b, off + j * 2, none⟩ = some (.int .i64 (f j)) ∧ w.cell? ⟨b, off + j * 2 + 1, none⟩ = some (.int .i64 (g j))))
    (hc2 : Hid (∀ j, j < n → w.cell? ⟨b2, off2 + j * 2, none⟩ = some (.int .i64 (f2 j)) ∧ w.cell? ⟨b2, off2 + j * 2 + 1, none⟩ = some (.int .i64 (g2 j))))
    (h1 : Hid ((∃ j, j < n ∧ samP (f j) (g j) (f2 j) (g2 j) = false) → S = false)) (h2 : Hid ((∀ j, j < n → samP (f j) (g j) (f2 j) (g2 j) = true) → S = true)) :
    Calls Try.prog 20 #[.slice (some ⟨b, off, none⟩) n cap, .slice (some ⟨b2, off2, none⟩) n cap2] w fun e w' => e = .returned (.bool S) ∧ Below w.heap.size w w' := by
  go_enter Try.func20, Try.ntmps20
  go_wp2_with fail
  go_loopw [5] (fun ii wr => ∃ k : Nat, k ≤ n ∧ ii = .int .i64 k ∧ Hid (Below w.heap.size w wr) ∧ Hid (∀ j, j < k → samP (f j) (g j) (f2 j) (g2 j) = true)) (fun ii _ => n - (intOf ii).toNat)
  case atStart => exact ⟨0, Nat.zero_le _, rfl, Below.refl _ _, fun j hj => by omega⟩
  case round =>
    obtain ⟨k, hk, rfl, hB, ha⟩ := hrel
    by_cases hlt : k < n
    · have c0 : wr.cell? ⟨b, off + k * 2, none⟩ = some (.int .i64 (f k)) := by rw [(bcell hB.out).1 _ _ hb]; exact (hc.out k hlt).1
      have c1 : wr.cell? ⟨b, off + k * 2 + 1, none⟩ = some (.int .i64 (g k)) := by rw [(bcell hB.out).1 _ _ hb]; exact (hc.out k hlt).2
      have d0 : wr.cell? ⟨b2, off2 + k * 2, none⟩ = some (.int .i64 (f2 k)) := by rw [(bcell hB.out).1 _ _ hb2]; exact (hc2.out k hlt).1
      have d1 : wr.cell? ⟨b2, off2 + k * 2 + 1, none⟩ = some (.int .i64 (g2 k)) := by rw [(bcell hB.out).1 _ _ hb2]; exact (hc2.out k hlt).2
      have HF : Hid (samP (f k) (g k) (f2 k) (g2 k) = false → S = false) := fun h => h1.out ⟨k, hlt, h⟩
      have HT : Hid (samP (f k) (g k) (f2 k) (g2 k) = true → ∀ j, j < k + 1 → samP (f j) (g j) (f2 j) (g2 j) = true) := fun h j hj => by
        by_cases e : j = k
        · rw [e]; exact h
        · exact ha.out j (by omega)
      have l1 : (k : Int) < (n : Int) := by omega
      generalize f k = x at *
      generalize g k = y at *
      generalize f2 k = u at *
      generalize g2 k = v at *
      cases hq : samP x y u v with
      | false =>
        obtain rfl := HF.out hq
        have q1 : ∀ W, (binOp .neq 52 (.agg #[.int .i64 x, .int .i64 y]) (.agg #[.int .i64 u, .int .i64 v])).run Try.prog W = .ok (.bool true) W := fun W => by rw [run_neq_shr, hq]; rfl
        clear HF HT hq
        go_wp2_with fail
        go_quiet (fail)
        go_wp2
        go_returns
        exact ⟨rfl, bel_trans hB.out (bel_drewN _ _)⟩
      | true =>
        have ha2 := Lib.hid (HT.out hq)
        have q1 : ∀ W, (binOp .neq 52 (.agg #[.int .i64 x, .int .i64 y]) (.agg #[.int .i64 u, .int .i64 v])).run Try.prog W = .ok (.bool false) W := fun W => by rw [run_neq_shr, hq]; rfl
        clear HF HT hq
        go_wp2_with fail
        go_quiet (fail)
        go_wp2
        go_roundw
        case rel => exact ⟨k + 1, by omega, by go_num, bel_trans hB.out (bel_drewN _ _), ha2⟩
        case measure => simp [intOf]; omega
    · obtain rfl : k = n := by omega
      have hS := h2.out ha.out
      subst hS
      go_wp2
      go_returns
      exact ⟨rfl, hB.out⟩
/-- Same says whether two lists are equal -/
theorem rlSs_any (v u : Value) (l m : List (Int × Int)) (w : World) (hv : Pts w v l) (hu : Pts w u m) (hn : l.length ≤ 1000) :
    Calls Try.prog 20 #[v, u] w fun e w' => e = .returned (.bool (l == m)) ∧ Below w.heap.size w w' := by
  obtain ⟨a, cap, rfl, hl, hh⟩ := hv
  obtain ⟨c, cap2, rfl, hl2, hh2⟩ := hu
  by_cases hlen : l.length = m.length
  · rcases hh with hh | ⟨b, off, rfl, hb, hc⟩
    · have e1 := List.length_eq_zero_iff.1 hh
      have e2 := List.length_eq_zero_iff.1 (hlen ▸ hh)
      subst e1 e2
      exact rlSs_nil a c cap cap2 w
    · rcases hh2 with hh2 | ⟨b2, off2, rfl, hb2, hc2⟩
      · have e2 := List.length_eq_zero_iff.1 hh2
        have e1 := List.length_eq_zero_iff.1 (hlen.trans hh2)
        subst e1 e2
        exact rlSs_nil _ c cap cap2 w
      · rw [← hlen] at hc2 ⊢
        refine rlSs_some b off b2 off2 l.length cap cap2 (gX l) (gR l) (gX m) (gR m) _ w hn hb hb2 hc hc2 (fun ⟨j, hj, h⟩ => ?_) (fun h => ?_)
        · rw [beq_eq_false_iff_ne]
          intro e
          subst e
          simp [samP] at h
        · rw [beq_iff_eq]; exact sam_eqS hlen h
  · have := rlSs_lens a c l.length cap m.length cap2 w (by simpa using fun e : (l.length : Int) = m.length => hlen (by omega))
    refine this.mono fun _ _ g => ⟨?_, g.2⟩
    rw [g.1]
    congr 2
    symm
    rw [beq_eq_false_iff_ne]
    intro e; exact hlen (by rw [e])
end Go.Proofs.Ytmoeccghkpjbgaa

/- The reference of layer 22: SameLot. -/
namespace Go.Proofs.Ytmoeccghkpjbgaa
open Go.RowKit

set_option maxHeartbeats 8000000 in
set_option maxRecDepth 100000 in
theorem rlSl_id (d A M d' A' M' : Int) (a a' : Option Addr) (n n' cap cap' : Nat) (s t : List (Int × Int)) (w : World) (NV : Hid (Pts w (.slice a n cap) s)) (NV' : Hid (Pts w (.slice a' n' cap') t)) (hn : Hid (s.length ≤ 1000)) (h0 : (d == d') = false) :
    Calls Try.prog 29 #[.agg #[.int .i64 d, .int .i64 A, .int .i64 M, .slice a n cap], .agg #[.int .i64 d', .int .i64 A', .int .i64 M', .slice a' n' cap']] w fun e w' => e = .returned (.bool false) ∧ Below w.heap.size w w' := by
  have HS := Lib.hid (fun W h h' => rlSs_any (.slice a n cap) (.slice a' n' cap') s t W h h' hn.out)
  have T1 := Lib.hid ((Quad.new w (.int .i64 d) (.int .i64 A) (.int .i64 M) (.slice a n cap) 43).alloc (.cells #[.int .i64 d', .int .i64 A', .int .i64 M', .slice a' n' cap'] 43))
  have T2 := Lib.hid (Quad.new (w.alloc (.cells #[.int .i64 d, .int .i64 A, .int .i64 M, .slice a n cap] 43)) (.int .i64 d') (.int .i64 A') (.int .i64 M') (.slice a' n' cap') 43)
  simp only [World.size_alloc] at T2
  have X : Hid (Below w.heap.size w ((w.alloc (.cells #[.int .i64 d, .int .i64 A, .int .i64 M, .slice a n cap] 43)).alloc (.cells #[.int .i64 d', .int .i64 A', .int .i64 M', .slice a' n' cap'] 43))) := Lib.hid (bel_alloc (bel_alloc (Below.refl _ _)))
  replace NV := Lib.hid (NV.out.below X.out)
  replace NV' := Lib.hid (NV'.out.below X.out)
  obtain ⟨b0, b1, b2, b3, _, _⟩ := T1.out
  obtain ⟨c0, c1, c2, c3, _, _⟩ := T2.out
  go_enter Try.func29, Try.ntmps29
  go_wp2
  go_returns
  exact ⟨rfl, X.out⟩
set_option maxHeartbeats 8000000 in
set_option maxRecDepth 100000 in
theorem rlSl_liq (d A M d' A' M' : Int) (a a' : Option Addr) (n n' cap cap' : Nat) (s t : List (Int × Int)) (w : World) (NV : Hid (Pts w (.slice a n cap) s)) (NV' : Hid (Pts w (.slice a' n' cap') t)) (hn : Hid (s.length ≤ 1000)) (h0 : (d == d') = true) (h1 : samP A M A' M' = false) :
    Calls Try.prog 29 #[.agg #[.int .i64 d, .int .i64 A, .int .i64 M, .slice a n cap], .agg #[.int .i64 d', .int .i64 A', .int .i64 M', .slice a' n' cap']] w fun e w' => e = .returned (.bool false) ∧ Below w.heap.size w w' := by
  have HS := Lib.hid (fun W h h' => rlSs_any (.slice a n cap) (.slice a' n' cap') s t W h h' hn.out)
  have T1 := Lib.hid ((Quad.new w (.int .i64 d) (.int .i64 A) (.int .i64 M) (.slice a n cap) 43).alloc (.cells #[.int .i64 d', .int .i64 A', .int .i64 M', .slice a' n' cap'] 43))
  have T2 := Lib.hid (Quad.new (w.alloc (.cells #[.int .i64 d, .int .i64 A, .int .i64 M, .slice a n cap] 43)) (.int .i64 d') (.int .i64 A') (.int .i64 M') (.slice a' n' cap') 43)
  simp only [World.size_alloc] at T2
  have X : Hid (Below w.heap.size w ((w.alloc (.cells #[.int .i64 d, .int .i64 A, .int .i64 M, .slice a n cap] 43)).alloc (.cells #[.int .i64 d', .int .i64 A', .int .i64 M', .slice a' n' cap'] 43))) := Lib.hid (bel_alloc (bel_alloc (Below.refl _ _)))
  replace NV := Lib.hid (NV.out.below X.out)
  replace NV' := Lib.hid (NV'.out.below X.out)
  obtain ⟨b0, b1, b2, b3, _, _⟩ := T1.out
  obtain ⟨c0, c1, c2, c3, _, _⟩ := T2.out
  have q1 : ∀ W, (binOp .eql 41 (.agg #[.int .i64 A, .int .i64 M]) (.agg #[.int .i64 A', .int .i64 M'])).run Try.prog W = .ok (.bool false) W := fun W => by rw [run_eql_liq, h1]
  go_enter Try.func29, Try.ntmps29
  go_wp2
  go_returns
  exact ⟨rfl, X.out⟩
set_option maxHeartbeats 8000000 in
set_option maxRecDepth 100000 in
theorem rlSl_sh (d A M d' A' M' : Int) (a a' : Option Addr) (n n' cap cap' : Nat) (s t : List (Int × Int)) (w : World) (NV : Hid (Pts w (.slice a n cap) s)) (NV' : Hid (Pts w (.slice a' n' cap') t)) (hn : Hid (s.length ≤ 1000)) (h0 : (d == d') = true) (h1 : samP A M A' M' = true) :
    Calls Try.prog 29 #[.agg #[.int .i64 d, .int .i64 A, .int .i64 M, .slice a n cap], .agg #[.int .i64 d', .int .i64 A', .int .i64 M', .slice a' n' cap']] w fun e w' => e = .returned (.bool (s == t)) ∧ Below w.heap.size w w' := by
  have HS := Lib.hid (fun W h h' => rlSs_any (.slice a n cap) (.slice a' n' cap') s t W h h' hn.out)
  have T1 := Lib.hid ((Quad.new w (.int .i64 d) (.int .i64 A) (.int .i64 M) (.slice a n cap) 43).alloc (.cells #[.int .i64 d', .int .i64 A', .int .i64 M', .slice a' n' cap'] 43))
  have T2 := Lib.hid (Quad.new (w.alloc (.cells #[.int .i64 d, .int .i64 A, .int .i64 M, .slice a n cap] 43)) (.int .i64 d') (.int .i64 A') (.int .i64 M') (.slice a' n' cap') 43)
  simp only [World.size_alloc] at T2
  have X : Hid (Below w.heap.size w ((w.alloc (.cells #[.int .i64 d, .int .i64 A, .int .i64 M, .slice a n cap] 43)).alloc (.cells #[.int .i64 d', .int .i64 A', .int .i64 M', .slice a' n' cap'] 43))) := Lib.hid (bel_alloc (bel_alloc (Below.refl _ _)))
  replace NV := Lib.hid (NV.out.below X.out)
  replace NV' := Lib.hid (NV'.out.below X.out)
  obtain ⟨b0, b1, b2, b3, _, _⟩ := T1.out
  obtain ⟨c0, c1, c2, c3, _, _⟩ := T2.out
  have q1 : ∀ W, (binOp .eql 41 (.agg #[.int .i64 A, .int .i64 M]) (.agg #[.int .i64 A', .int .i64 M'])).run Try.prog W = .ok (.bool true) W := fun W => by rw [run_eql_liq, h1]
  clear h1
  generalize (s == t) = B at *
  go_enter Try.func29, Try.ntmps29
  go_wp2_with fail
  refine (HS.out _ NV.out NV'.out).mono ?_
  rintro e w1 ⟨rfl, h1⟩
  replace X := Lib.hid (bel_trans X.out h1)
  clear h1
  go_wp2
  go_returns
  exact ⟨rfl, X.out⟩
def ltSame (c d : Lt) : Bool := (c.id == d.id) && samP c.al c.ms d.al d.ms && (c.sh == d.sh)
theorem rlSl_any (c d : Lt) (a a' : Option Addr) (cap cap' : Nat) (w : World) (hv : Pts w (.slice a c.sh.length cap) c.sh) (hu : Pts w (.slice a' d.sh.length cap') d.sh) (hn : c.sh.length ≤ 1000) :
    Calls Try.prog 29 #[ltV c a cap, ltV d a' cap'] w fun e w' => e = .returned (.bool (ltSame c d)) ∧ Below w.heap.size w w' := by
  unfold ltSame ltV
  cases h0 : (c.id == d.id) with
  | false => exact rlSl_id _ _ _ _ _ _ a a' _ _ cap cap' c.sh d.sh w hv hu hn h0
  | true =>
    cases h1 : samP c.al c.ms d.al d.ms with
    | false => exact rlSl_liq _ _ _ _ _ _ a a' _ _ cap cap' c.sh d.sh w hv hu hn h0 h1
    | true => exact rlSl_sh _ _ _ _ _ _ a a' _ _ cap cap' c.sh d.sh w hv hu hn h0 h1
end Go.Proofs.Ytmoeccghkpjbgaa

/- The reference of layer 22: Copy. -/
namespace Go.Proofs.Ytmoeccghkpjbgaa
open Go.RowKit

theorem quad_set3 (w : World) (b : Nat) (u : Value) {x y z v : Value} (h : Quad b w x y z v) : Quad b (w.setCell ⟨b, 3, none⟩ u) x y z u := by
  obtain ⟨h0, h1, h2, h3, h4, h5⟩ := h
  have o : ∀ i, i ≠ 3 → (w.setCell ⟨b, 3, none⟩ u).cell? ⟨b, i, none⟩ = w.cell? ⟨b, i, none⟩ := fun i h => World.cell?_setCell_other _ _ _ _ (by intro e; simp only [Addr.mk.injEq] at e; exact h e.2.1.symm)
  exact ⟨by rw [o 0 (by decide)]; exact h0, by rw [o 1 (by decide)]; exact h1, by rw [o 2 (by decide)]; exact h2, World.cell?_setCell_same _ _ _ h3, fun k hk => by rw [World.frozen?_setCell]; exact h4 k hk, by rw [World.size_setCell]; exact h5⟩
theorem quad_setOther (w : World) (b c : Nat) (k : Nat) (u : Value) {x y z v : Value} (hn : b ≠ c) (h : Quad b w x y z v) : Quad b (w.setCell ⟨c, k, none⟩ u) x y z v := by
  obtain ⟨h0, h1, h2, h3, h4, h5⟩ := h
  have o : ∀ i, (w.setCell ⟨c, k, none⟩ u).cell? ⟨b, i, none⟩ = w.cell? ⟨b, i, none⟩ := fun i => World.cell?_setCell_other _ _ _ _ (by intro e; simp only [Addr.mk.injEq] at e; exact hn e.1.symm)
  exact ⟨by rw [o]; exact h0, by rw [o]; exact h1, by rw [o]; exact h2, by rw [o]; exact h3, fun k hk => by rw [World.frozen?_setCell]; exact h4 k hk, by rw [World.size_setCell]; exact h5⟩
theorem sh_not {W : World} {B : Nat} {v : Value} {l : List (Int × Int)} (h : RH.Sh W B v l) {c : Nat} (hc : c < B) : ∀ b, v.ownBlock = some b → b ≠ c := by
  intro b hb
  obtain ⟨_, h2⟩ := h
  rcases h2 with ⟨h2, _⟩ | ⟨b', cap', cur, h2, hg, _⟩
  · rw [h2] at hb; cases hb
  · rw [h2] at hb
    simp [Value.ownBlock] at hb
    omega
/-- behind the append of Copy -/
theorem rlCp_end {w w1 : World} {cd cA cM : Int} {v' v0 : Value} {l : List (Int × Int)} (X : Below w.heap.size w w1) (T0 : Quad w.heap.size w1 (.int .i64 cd) (.int .i64 cA) (.int .i64 cM) v0) (T1 : Quad (w.heap.size + 1) w1 (.int .i64 0) (.int .i64 0) (.int .i64 0) (.slice none 0 0)) (U : RH.Sh w1 (w.heap.size + 2) v' l) :
    (Quad w.heap.size (w1.setCell ⟨w.heap.size, 3, none⟩ v') (.int .i64 cd) (.int .i64 cA) (.int .i64 cM) v' ∧ Quad (w.heap.size + 1) (w1.setCell ⟨w.heap.size, 3, none⟩ v') (.int .i64 0) (.int .i64 0) (.int .i64 0) (.slice none 0 0)) ∧
    RH.Sh (((((w1.setCell ⟨w.heap.size, 3, none⟩ v').setCell ⟨w.heap.size + 1, 0, none⟩ (.int .i64 cd)).setCell ⟨w.heap.size + 1, 1, none⟩ (.int .i64 cA)).setCell ⟨w.heap.size + 1, 2, none⟩ (.int .i64 cM)).setCell ⟨w.heap.size + 1, 3, none⟩ v') w.heap.size v' l ∧
    Below w.heap.size w (((((w1.setCell ⟨w.heap.size, 3, none⟩ v').setCell ⟨w.heap.size + 1, 0, none⟩ (.int .i64 cd)).setCell ⟨w.heap.size + 1, 1, none⟩ (.int .i64 cA)).setCell ⟨w.heap.size + 1, 2, none⟩ (.int .i64 cM)).setCell ⟨w.heap.size + 1, 3, none⟩ v') := by
  have N0 := sh_not U (c := w.heap.size) (by omega)
  have N1 := sh_not U (c := w.heap.size + 1) (by omega)
  have l1 : w.heap.size ≤ w.heap.size + 1 := by omega
  refine ⟨⟨quad_set3 _ _ _ T0, quad_setOther _ _ _ _ _ (by omega) T1⟩, ?_, ?_⟩
  · exact sh_setOther (sh_setOther (sh_setOther (sh_setOther (sh_setOther (U.base (by omega)) _ N0 _) _ N1 _) _ N1 _) _ N1 _) _ N1 _
  · exact ((((X.setCell (p := ⟨w.heap.size, 3, none⟩) (Nat.le_refl _) _).setCell (p := ⟨w.heap.size + 1, 0, none⟩) l1 _).setCell (p := ⟨w.heap.size + 1, 1, none⟩) l1 _).setCell (p := ⟨w.heap.size + 1, 2, none⟩) l1 _).setCell (p := ⟨w.heap.size + 1, 3, none⟩) l1 _
set_option maxHeartbeats 8000000 in
set_option maxRecDepth 100000 in
theorem rlCp_some (cd cA cM : Int) (ad : Addr) (n c : Nat) (l : List (Int × Int)) (w : World) (hl : l.length = n) (hn : n ≤ 1000) (hv : Hid (Pts w (.slice (some ad) n c) l)) :
    Calls Try.prog 62 #[.agg #[.int .i64 cd, .int .i64 cA, .int .i64 cM, .slice (some ad) n c]] w fun e w' => ∃ u, e = .returned (.agg #[.int .i64 cd, .int .i64 cA, .int .i64 cM, u]) ∧ RH.Sh w' w.heap.size u l ∧ Below w.heap.size w w' := by
  obtain ⟨i0, hi0, hz0, hz1, hz2⟩ := RH.info_parts RH.sh_info
  have T0 := Lib.hid (((Quad.new w (.int .i64 cd) (.int .i64 cA) (.int .i64 cM) (.slice (some ad) n c) 43).alloc (.cells #[.int .i64 0, .int .i64 0, .int .i64 0, .slice none 0 0] 43)).alloc (.cells #[] 52))
  have T1 := Lib.hid ((Quad.new (w.alloc (.cells #[.int .i64 cd, .int .i64 cA, .int .i64 cM, .slice (some ad) n c] 43)) (.int .i64 0) (.int .i64 0) (.int .i64 0) (.slice none 0 0) 43).alloc (.cells #[] 52))
  simp only [World.size_alloc] at T1
  have X : Hid (Below w.heap.size w (((w.alloc (.cells #[.int .i64 cd, .int .i64 cA, .int .i64 cM, .slice (some ad) n c] 43)).alloc (.cells #[.int .i64 0, .int .i64 0, .int .i64 0, .slice none 0 0] 43)).alloc (.cells #[] 52))) := Lib.hid (bel_alloc (bel_alloc (bel_alloc (Below.refl _ _))))
  have OA := RH.no_row ((w.alloc (.cells #[.int .i64 cd, .int .i64 cA, .int .i64 cM, .slice (some ad) n c] 43)).alloc (.cells #[.int .i64 0, .int .i64 0, .int .i64 0, .slice none 0 0] 43)) (w.heap.size + 2) 2 52 (by simp)
  simp only [World.size_alloc] at OA
  have CN : Hid (∀ j u, (flat l)[j]? = some u → (((w.alloc (.cells #[.int .i64 cd, .int .i64 cA, .int .i64 cM, .slice (some ad) n c] 43)).alloc (.cells #[.int .i64 0, .int .i64 0, .int .i64 0, .slice none 0 0] 43)).alloc (.cells #[] 52)).cell? (ad.add j) = some u) := Lib.hid (by
    intro j u hj
    obtain ⟨a, c', e, _, h⟩ := hv.out.below X.out
    simp only [Value.slice.injEq] at e
    obtain ⟨rfl, _, rfl⟩ := e
    rcases h with h | ⟨b, off, hx, hb, hc⟩
    · obtain rfl := List.length_eq_zero_iff.1 h
      simp [flat] at hj
    · obtain rfl := Option.some.inj hx
      obtain ⟨i, hi, ⟨rfl, rfl⟩ | ⟨rfl, rfl⟩⟩ := flat_inv l j u hj
      · rw [Go.WideShapes.add_plain]; exact (hc i hi).1
      · rw [Go.WideShapes.add_plain, ← Nat.add_assoc]; exact (hc i hi).2)
  obtain ⟨b0, b1, b2, b3, _, _⟩ := T0.out
  go_enter Try.func62, Try.ntmps62
  go_wp2_with (at_builtin; refine wpList_append_own_at _ rfl _ _ 22 rfl (w.heap.size + 2) 52 i0 (.agg #[.int .i64 0, .int .i64 0]) 2 16 Try.underlying22 hi0 hz0 hz1 hz2 rfl (by omega) _ _ _ rfl OA ad n c (flat l) rfl ?qc1 ?qc2 ?qc3 ?qc4 ?qc5 ?qc6 ?_)
  case qc1 => rw [flat_len, hl]
  case qc2 => exact CN.out
  case qc3 => exact flat_one _
  case qc4 => rw [Nat.zero_add]; unfold maxLen; omega
  case qc5 => rw [Nat.zero_add]; omega
  case qc6 => simp
  intro v' w1 hown hgrow _ _
  have HB : Below (w.heap.size + 2) ((w.alloc (.cells #[.int .i64 cd, .int .i64 cA, .int .i64 cM, .slice (some ad) n c] 43)).alloc (.cells #[.int .i64 0, .int .i64 0, .int .i64 0, .slice none 0 0] 43)) w1 := ((Below.refl _ _).alloc (by simp) _).grown hgrow (by simp) (by intro k hk; simp [Value.ownBlock] at hk; omega)
  have U : RH.Sh w1 (w.heap.size + 2) v' l := by
    unfold RH.Sh
    rw [hl]
    simpa using hown
  have Q0 := (((Quad.new w (.int .i64 cd) (.int .i64 cA) (.int .i64 cM) (.slice (some ad) n c) 43).alloc (.cells #[.int .i64 0, .int .i64 0, .int .i64 0, .slice none 0 0] 43))).below (by simpa using HB)
  have Q1 := (Quad.new (w.alloc (.cells #[.int .i64 cd, .int .i64 cA, .int .i64 cM, .slice (some ad) n c] 43)) (.int .i64 0) (.int .i64 0) (.int .i64 0) (.slice none 0 0) 43).below (by simpa using HB)
  simp only [World.size_alloc] at Q1
  have X1 : Below w.heap.size w w1 := bel_trans (bel_alloc (bel_alloc (Below.refl _ _))) (by simpa using HB)
  obtain ⟨u, uc, hue⟩ := U.shape
  rw [hl] at hue
  subst hue
  obtain ⟨⟨E0, E1⟩, E2, E3⟩ := rlCp_end X1 Q0 Q1 U
  have R2 := Lib.hid E2
  have R3 := Lib.hid E3
  clear E2 E3 hgrow hown HB X CN OA T0 T1 U X1 b0 b1 b2 b3 hv Q1 hi0 hz0 hz1 hz2
  obtain ⟨b0, b1, b2, b3, z, _⟩ := Q0
  have z3 := z 3 (by omega)
  clear z
  obtain ⟨e0, e1, e2, e3, _, _⟩ := E0
  obtain ⟨d0, d1, d2, d3, z, _⟩ := E1
  have y0 := z 0 (by omega)
  have y1 := z 1 (by omega)
  have y2 := z 2 (by omega)
  have y3 := z 3 (by omega)
  obtain ⟨t0, t1, t2, t3⟩ := quad_read _ (w.heap.size + 1) (.int .i64 cd) (.int .i64 cA) (.int .i64 cM) (.slice u n uc) d0 d1 d2 d3
  clear z
  go_wp2
  refine bodyPost_ret (v := .agg #[.int .i64 cd, .int .i64 cA, .int .i64 cM, .slice u n uc]) (by simp [results, Try.results62, go_sem, t0, t1, t2, t3]) rfl ?_
  exact ⟨_, rfl, R2.out, R3.out⟩
set_option maxHeartbeats 8000000 in
set_option maxRecDepth 100000 in
theorem rlCp_none (cd cA cM : Int) (c : Nat) (w : World) :
    Calls Try.prog 62 #[.agg #[.int .i64 cd, .int .i64 cA, .int .i64 cM, .slice none 0 c]] w fun e w' => ∃ u, e = .returned (.agg #[.int .i64 cd, .int .i64 cA, .int .i64 cM, u]) ∧ RH.Sh w' w.heap.size u [] ∧ Below w.heap.size w w' := by
  obtain ⟨i0, hi0, hz0, hz1, hz2⟩ := RH.info_parts RH.sh_info
  have T0 := Lib.hid (((Quad.new w (.int .i64 cd) (.int .i64 cA) (.int .i64 cM) (.slice none 0 c) 43).alloc (.cells #[.int .i64 0, .int .i64 0, .int .i64 0, .slice none 0 0] 43)).alloc (.cells #[] 52))
  have T1 := Lib.hid ((Quad.new (w.alloc (.cells #[.int .i64 cd, .int .i64 cA, .int .i64 cM, .slice none 0 c] 43)) (.int .i64 0) (.int .i64 0) (.int .i64 0) (.slice none 0 0) 43).alloc (.cells #[] 52))
  simp only [World.size_alloc] at T1
  have X : Hid (Below w.heap.size w (((w.alloc (.cells #[.int .i64 cd, .int .i64 cA, .int .i64 cM, .slice none 0 c] 43)).alloc (.cells #[.int .i64 0, .int .i64 0, .int .i64 0, .slice none 0 0] 43)).alloc (.cells #[] 52))) := Lib.hid (bel_alloc (bel_alloc (bel_alloc (Below.refl _ _))))
  have OA := RH.no_row ((w.alloc (.cells #[.int .i64 cd, .int .i64 cA, .int .i64 cM, .slice none 0 c] 43)).alloc (.cells #[.int .i64 0, .int .i64 0, .int .i64 0, .slice none 0 0] 43)) (w.heap.size + 2) 2 52 (by simp)
  simp only [World.size_alloc] at OA
  have OB := Lib.hid OA
  obtain ⟨b0, b1, b2, b3, _, _⟩ := T0.out
  go_enter Try.func62, Try.ntmps62
  go_wp2_with (at_builtin; refine RH.wpList_append_nothing rfl _ _ 22 rfl 52 i0 Try.underlying22 hi0 ⟨w.heap.size + 1 + 1, 0, none⟩ 0 c rfl rfl ?_)
  clear T0 T1 X OA OB b0 b1 b2 b3 hi0 hz0 hz1 hz2
  go_wp2
  go_returns
  refine ⟨_, rfl, ?_, bel_alloc (bel_alloc (bel_alloc (Below.refl _ _)))⟩
  have := RH.no_row ((w.alloc (.cells #[.int .i64 cd, .int .i64 cA, .int .i64 cM, .slice (some ⟨w.heap.size + 1 + 1, 0, none⟩) 0 0] 43)).alloc (.cells #[.int .i64 cd, .int .i64 cA, .int .i64 cM, .slice (some ⟨w.heap.size + 1 + 1, 0, none⟩) 0 0] 43)) w.heap.size 2 52 (by simp only [World.size_alloc]; omega)
  simp only [World.size_alloc] at this
  exact this
theorem rlCp_any (c : Lt) (a : Option Addr) (cap : Nat) (w : World) (hv : Pts w (.slice a c.sh.length cap) c.sh) (hn : c.sh.length ≤ 1000) :
    Calls Try.prog 62 #[ltV c a cap] w fun e w' => ∃ u, e = .returned (.agg #[.int .i64 c.id, .int .i64 c.al, .int .i64 c.ms, u]) ∧ RH.Sh w' w.heap.size u c.sh ∧ Below w.heap.size w w' := by
  unfold ltV
  cases a with
  | none =>
    obtain ⟨a', c', e, _, h⟩ := hv
    simp only [Value.slice.injEq] at e
    obtain ⟨rfl, _, rfl⟩ := e
    rcases h with h | ⟨b, off, hx, _⟩
    · rw [List.length_eq_zero_iff.1 h]
      exact rlCp_none _ _ _ cap w
    · cases hx
  | some ad => exact rlCp_some _ _ _ ad _ cap c.sh w rfl hn (Lib.hid hv)
end Go.Proofs.Ytmoeccghkpjbgaa

/- The reference of layer 22: Find. -/
namespace Go.Proofs.Ytmoeccghkpjbgaa
open Go.RowKit

end Go.Proofs.Ytmoeccghkpjbgaa
