/- Package mix: the mixture of plain liquids; Sum. -/
import Derived.Test.YtfpdanjhlepckaaDoorMB
namespace Go.Proofs.YtfpdanjhlepckaaDoor
open Go.RowKit

theorem Pts.other {W : World} {v : Value} {l : List (Int × Int)} (h : Pts W v l) (p : Addr) (hp : ∀ a n c, v = .slice (some a) n c → l.length = 0 ∨ a.block ≠ p.block) (z : Value) : Pts (W.setCell p z) v l := by
  obtain ⟨a, cap, rfl, hl, hh⟩ := h
  refine ⟨a, cap, rfl, hl, ?_⟩
  rcases hh with hh | ⟨b, off, rfl, hlt, hc⟩
  · exact .inl hh
  · rcases hp _ _ _ rfl with h0 | hn
    · exact .inl h0
    · refine .inr ⟨b, off, rfl, by simpa [World.setCell] using hlt, fun j hj => ?_⟩
      rw [World.cell?_setCell_other _ _ _ _ (by intro e; exact hn (by rw [e])), World.cell?_setCell_other _ _ _ _ (by intro e; exact hn (by rw [e]))]
      exact hc j hj
set_option maxHeartbeats 8000000 in
set_option maxRecDepth 100000 in
theorem mxMix_any (v : Value) (l : List (Int × Int)) (w : World) (hv : Pts w v l) (hn : l.length ≤ 8) (hp : allP l = true) :
    Calls Tryd.prog 68 #[v] w fun e w' => e = .returned (.agg #[.int .i64 (sm fA l), .int .i64 (sm fM l)]) ∧ Below w.heap.size w w' := by
  obtain ⟨a, cap, rfl, hcap, hh⟩ := hv
  have NV : Hid (Pts w (.slice a l.length cap) l) := ⟨a, cap, rfl, hcap, hh⟩
  have HBL : Hid (∀ b off n c, Value.slice a l.length cap = .slice (some ⟨b, off, none⟩) n c → l.length = 0 ∨ b < w.heap.size) := Lib.hid (by
    intro b off n c e
    simp only [Value.slice.injEq] at e
    rcases hh with h0 | ⟨b', off', e', hb, _⟩
    · exact .inl h0
    · rw [e.1] at e'; simp only [Option.some.injEq, Addr.mk.injEq] at e'; rw [e'.1]; exact .inr hb)
  clear hh hcap
  have HS := Lib.hid (sm_step fA l)
  have HT := Lib.hid (sm_step fM l)
  have FS := Lib.hid (sm_full fA l)
  have FT := Lib.hid (sm_full fM l)
  have HX := Lib.hid (fun k (hk : k < l.length) => plB_iff.1 (allP_at hp hk))
  have HY := Lib.hid (fun k => mix_bd (allP_take hp k))
  have HL := Lib.hid (fun k => List.length_take_le k l)
  generalize sm fA l = SA at *
  generalize sm fM l = SM at *
  generalize hN : l.length = n at *
  have HB : Hid (Below w.heap.size w ((w.alloc (.cells #[.int .i64 0, .int .i64 0] 29)).alloc (.cells #[.int .i64 0, .int .i64 0] 105))) := Lib.hid (bel_alloc (bel_alloc (Below.refl _ _)))
  have T0 : Hid (Two w.heap.size ((w.alloc (.cells #[.int .i64 0, .int .i64 0] 29)).alloc (.cells #[.int .i64 0, .int .i64 0] 105)) (.int .i64 0) (.int .i64 0)) := Lib.hid ((Two.new w _ _ _).alloc _)
  have T1 : Hid (Two (w.heap.size + 1) ((w.alloc (.cells #[.int .i64 0, .int .i64 0] 29)).alloc (.cells #[.int .i64 0, .int .i64 0] 105)) (.int .i64 0) (.int .i64 0)) := by
    have := Two.new (w.alloc (.cells #[.int .i64 0, .int .i64 0] 29)) (.int .i64 0) (.int .i64 0) 105
    rw [World.size_alloc] at this
    exact this
  replace NV : Hid (Pts ((w.alloc (.cells #[.int .i64 0, .int .i64 0] 29)).alloc (.cells #[.int .i64 0, .int .i64 0] 105)) (.slice a n cap) l) := Lib.hid ((NV.out.alloc _).alloc _)
  have qi0 : ∀ (u v : Value) (W : World), (Instr.index 105 (.agg #[u, v]) (.int .i64 0)).run Tryd.prog W = .ok u W := fun _ _ _ => by kernel_rfl
  have qi1 : ∀ (u v : Value) (W : World), (Instr.index 105 (.agg #[u, v]) (.int .i64 1)).run Tryd.prog W = .ok v W := fun _ _ _ => by kernel_rfl
  go_enter Tryd.func68, Tryd.ntmps68
  go_wp2_with fail
  go_loopw [10] (fun i wr => ∃ k : Nat, k ≤ n ∧ i = .int .i64 k ∧ Hid (Below w.heap.size w wr) ∧ Hid (Pts wr (.slice a n cap) l) ∧ Hid (Two w.heap.size wr (.int .i64 0) (.int .i64 0)) ∧ Hid (Two (w.heap.size + 1) wr (.int .i64 (sm fA (l.take k))) (.int .i64 (sm fM (l.take k))))) (fun i _ => n - (intOf i).toNat)
  case atStart => exact ⟨0, Nat.zero_le _, rfl, HB, NV, T0, T1⟩
  case round =>
    clear HB NV T0 T1
    obtain ⟨k, hk, rfl, HB, NV, T0, T1⟩ := hrel
    by_cases hlt : k < n
    · obtain ⟨b, off, rfl, hb, hc⟩ := NV.out.at (by omega)
      obtain ⟨c0, c1⟩ := hc k hlt
      clear hc
      have hbw : b < w.heap.size := by rcases HBL.out b off n cap rfl with h0 | h0 <;> omega
      have nb : ∀ j : Nat, ∀ a' n' c', Value.slice (some ⟨b, off, none⟩) n cap = .slice (some a') n' c' → l.length = 0 ∨ a'.block ≠ (⟨w.heap.size + 1, j, none⟩ : Addr).block := fun j a' n' c' e => by simp only [Value.slice.injEq, Option.some.injEq] at e; rw [← e.1]; exact .inr (by show b ≠ w.heap.size + 1; omega)
      clear HBL
      have x := HX.out k hlt
      have y := HY.out k
      have yl := HL.out k
      have S1 := Lib.hid (HS.out k hlt)
      have S2 := Lib.hid (HT.out k hlt)
      unfold fA at S1
      unfold fM at S2
      change Hid (sm fA (l.take (k + 1)) = sm fA (l.take k) + gX l k) at S1
      change Hid (sm fM (l.take (k + 1)) = sm fM (l.take k) + gR l k) at S2
      have bd : 0 ≤ sm fA (l.take k) ∧ sm fA (l.take k) ≤ 85899345920000 ∧ 0 ≤ sm fM (l.take k) ∧ sm fM (l.take k) ≤ 1030792151040000 := by omega
      clear y yl
      generalize gX l k = X at *
      generalize gR l k = Y at *
      generalize sm fA (l.take k) = S at *
      generalize sm fM (l.take k) = R at *
      have e1 : IntKind.i64.wrap (S + X) = S + X := wrap_in _ ⟨by omega, by omega⟩
      have e2 : IntKind.i64.wrap (R + Y) = R + Y := wrap_in _ ⟨by omega, by omega⟩
      have l9 : (k : Int) < (n : Int) := by omega
      have X1 : Hid (Below w.heap.size w (wr.alloc (.cells #[.int .i64 X, .int .i64 Y] 29))) := Lib.hid (bel_trans HB.out (bel_alloc (Below.refl _ _)))
      replace NV := Lib.hid (NV.out.alloc (.cells #[.int .i64 X, .int .i64 Y] 29))
      replace T0 := Lib.hid (T0.out.alloc (.cells #[.int .i64 X, .int .i64 Y] 29))
      replace T1 := Lib.hid (T1.out.alloc (.cells #[.int .i64 X, .int .i64 Y] 29))
      clear HB
      go_wp2_with fail
      go_loopw [19] (fun i wi => ((i = .int .i64 0 ∧ Hid (Two (w.heap.size + 1) wi (.int .i64 S) (.int .i64 R))) ∨ (i = .int .i64 1 ∧ Hid (Two (w.heap.size + 1) wi (.int .i64 (S + X)) (.int .i64 R))) ∨ (i = .int .i64 2 ∧ Hid (Two (w.heap.size + 1) wi (.int .i64 (S + X)) (.int .i64 (R + Y))))) ∧ Hid (Below w.heap.size w wi) ∧ Hid (Pts wi (.slice (some ⟨b, off, none⟩) n cap) l) ∧ Hid (Two w.heap.size wi (.int .i64 0) (.int .i64 0))) (fun i _ => 2 - (intOf i).toNat)
      case atStart => exact ⟨.inl ⟨rfl, T1⟩, X1, NV, T0⟩
      case round =>
        clear X1 NV T0 T1 c0 c1
        obtain ⟨hi, X1, NV, T0⟩ := hrel
        have ne1 : w.heap.size + 1 ≠ w.heap.size := by omega
        rcases hi with ⟨rfl, T1⟩ | ⟨rfl, T1⟩ | ⟨rfl, T1⟩
        · obtain ⟨t0, t1, t2, t3, t4⟩ := T1.out
          have N1 := Lib.hid (T1.out.set0 (.int .i64 (S + X)))
          have N0 := Lib.hid (T0.out.other ⟨w.heap.size + 1, 0, none⟩ ne1 (.int .i64 (S + X)))
          go_wp2
          go_roundw
          case rel => exact ⟨.inr (.inl ⟨by go_num, N1⟩), Lib.hid (X1.out.setCell (by show _ ≤ w.heap.size + 1; omega) _), Lib.hid (NV.out.other ⟨w.heap.size + 1, 0, none⟩ (nb 0) _), N0⟩
          case measure => simp [intOf]
        · obtain ⟨t0, t1, t2, t3, t4⟩ := T1.out
          have N1 := Lib.hid (T1.out.set1 (.int .i64 (R + Y)))
          have N0 := Lib.hid (T0.out.other ⟨w.heap.size + 1, 1, none⟩ ne1 (.int .i64 (R + Y)))
          go_wp2
          go_roundw
          case rel => exact ⟨.inr (.inr ⟨by go_num, N1⟩), Lib.hid (X1.out.setCell (by show _ ≤ w.heap.size + 1; omega) _), Lib.hid (NV.out.other ⟨w.heap.size + 1, 1, none⟩ (nb 1) _), N0⟩
          case measure => simp [intOf]
        · go_wp2
          go_roundw
          case rel => exact ⟨k + 1, by omega, by go_num, X1, NV, T0, by rw [S1.out, S2.out]; exact T1⟩
          case measure => simp [intOf]; omega
    · obtain rfl : k = n := by omega
      rw [FS.out, FT.out] at T1
      obtain ⟨t0, t1, t2, t3, t4⟩ := T1.out
      obtain ⟨z0, z1, z2, z3, z4⟩ := T0.out
      go_wp2
      obtain ⟨r0, r1⟩ := two_read wr w.heap.size (.int .i64 SA) (.int .i64 SM) z0 z1
      refine bodyPost_ret (v := .agg #[.int .i64 SA, .int .i64 SM]) (by simp [results, Tryd.results68, go_sem, r0, r1]) rfl ?_
      exact ⟨rfl, (HB.out.setCell (Nat.le_refl _) _).setCell (Nat.le_refl _) _⟩
set_option maxHeartbeats 8000000 in
set_option maxRecDepth 100000 in
theorem mxSu_long (a : Option Addr) (n cap : Nat) (w : World) (h : 8 < n) (hn : n ≤ 9223372036854775807) :
    Calls Tryd.prog 41 #[.slice a n cap] w fun e w' => e = .returned (.tuple #[.agg #[.int .i64 0, .int .i64 0], .int .i64 8]) ∧ Below w.heap.size w w' := by
  have q : decide (8 < (n : Int)) = true := decide_eq_true (by omega)
  have X := Lib.hid (bel_alloc (w := w) (o := .cells #[.int .i64 0, .int .i64 0] 29) (Below.refl _ _))
  go_enter Tryd.func41, Tryd.ntmps41
  go_wp2
  go_returns
  exact ⟨rfl, by go_grown⟩
set_option maxHeartbeats 16000000 in
set_option maxRecDepth 100000 in
theorem mxSu_bad (a : Option Addr) (n cap m : Nat) (l : List (Int × Int)) (w : World) (NV : Hid (Pts w (.slice a n cap) l)) (hn : n ≤ 8) (hm : m < n) (hp : Hid (∀ j, j < m → plB (gX l j) (gR l j) = true)) (hq : plB (gX l m) (gR l m) = false) :
    Calls Tryd.prog 41 #[.slice a n cap] w fun e w' => e = .returned (.tuple #[.agg #[.int .i64 0, .int .i64 0], .int .i64 1]) ∧ Below w.heap.size w w' := by
  have q : decide (8 < (n : Int)) = false := decide_eq_false (by omega)
  have X := Lib.hid (bel_alloc (w := w) (o := .cells #[.int .i64 0, .int .i64 0] 29) (Below.refl _ _))
  have T0 := Lib.hid (Two.new w (.int .i64 0) (.int .i64 0) 29)
  replace NV := Lib.hid (NV.out.alloc (.cells #[.int .i64 0, .int .i64 0] 29))
  go_enter Tryd.func41, Tryd.ntmps41
  go_wp2_with fail
  go_loopw [13] (fun i wr => ∃ k : Nat, k ≤ m ∧ i = .int .i64 k ∧ Hid (Below w.heap.size w wr) ∧ Hid (Pts wr (.slice a n cap) l) ∧ Hid (Two w.heap.size wr (.int .i64 0) (.int .i64 0))) (fun i _ => n - (intOf i).toNat)
  case atStart => exact ⟨0, Nat.zero_le _, rfl, X, NV, T0⟩
  case round =>
    clear X NV T0
    obtain ⟨k, hk, rfl, X, NV, T0⟩ := hrel
    by_cases hlt : k < m
    · have HP := Lib.hid (fun W => mxPl_any (gX l k) (gR l k) W)
      rw [hp.out k hlt] at HP
      have l9 : (k : Int) < (n : Int) := by omega
      obtain ⟨b, off, rfl, hb, hc⟩ := NV.out.at (by omega)
      obtain ⟨c0, c1⟩ := hc k (by omega)
      clear hc
      generalize gX l k = x at *
      generalize gR l k = y at *
      have P0 := Lib.hid (Two.new wr (.int .i64 x) (.int .i64 y) 29)
      replace X := Lib.hid (bel_trans X.out (bel_alloc (o := .cells #[.int .i64 x, .int .i64 y] 29) (Below.refl _ _)))
      replace NV := Lib.hid (NV.out.alloc (.cells #[.int .i64 x, .int .i64 y] 29))
      replace T0 := Lib.hid (T0.out.alloc (.cells #[.int .i64 x, .int .i64 y] 29))
      obtain ⟨p0, p1, _, _, _⟩ := P0.out
      go_wp2_with fail
      refine (HP.out _).mono ?_
      rintro e w3 ⟨rfl, hb⟩
      replace X := Lib.hid (bel_trans X.out hb)
      replace NV := Lib.hid (NV.out.below hb)
      replace T0 := Lib.hid (T0.out.below hb)
      clear hb
      go_wp2
      go_roundw
      case rel => exact ⟨k + 1, by omega, by go_num, X, NV, T0⟩
      case measure => simp [intOf]; omega
    · obtain rfl : k = m := by omega
      have HP := Lib.hid (fun W => mxPl_any (gX l k) (gR l k) W)
      rw [hq] at HP
      clear hp hq
      have l9 : (k : Int) < (n : Int) := by omega
      obtain ⟨b, off, rfl, hb, hc⟩ := NV.out.at (by omega)
      obtain ⟨c0, c1⟩ := hc k (by omega)
      clear hc
      generalize gX l k = x at *
      generalize gR l k = y at *
      have P0 := Lib.hid (Two.new wr (.int .i64 x) (.int .i64 y) 29)
      replace X := Lib.hid (bel_trans X.out (bel_alloc (o := .cells #[.int .i64 x, .int .i64 y] 29) (Below.refl _ _)))
      replace T0 := Lib.hid (T0.out.alloc (.cells #[.int .i64 x, .int .i64 y] 29))
      obtain ⟨p0, p1, _, _, _⟩ := P0.out
      go_wp2_with fail
      refine (HP.out _).mono ?_
      rintro e w3 ⟨rfl, hb⟩
      replace X := Lib.hid (bel_trans X.out hb)
      replace T0 := Lib.hid (T0.out.below hb)
      clear hb
      obtain ⟨z0, z1, z2, z3, z4⟩ := T0.out
      go_wp2
      obtain ⟨r0, r1⟩ := two_read w3 w.heap.size (.int .i64 0) (.int .i64 0) z0 z1
      refine bodyPost_ret (v := .tuple #[.agg #[.int .i64 0, .int .i64 0], .int .i64 1]) (by simp [results, Tryd.results41, go_sem, r0, r1]) rfl ?_
      exact ⟨rfl, (X.out.setCell (Nat.le_refl _) _).setCell (Nat.le_refl _) _⟩
set_option maxHeartbeats 16000000 in
set_option maxRecDepth 100000 in
theorem mxSu_over (a : Option Addr) (n cap : Nat) (l : List (Int × Int)) (w : World) (NV : Hid (Pts w (.slice a n cap) l)) (hn : n ≤ 8) (hl : Hid (l.length = n)) (ha : allP l = true) (hp : Hid (∀ j, j < n → plB (gX l j) (gR l j) = true)) (hB : plB (sm fA l) (sm fM l) = false) :
    Calls Tryd.prog 41 #[.slice a n cap] w fun e w' => e = .returned (.tuple #[.agg #[.int .i64 0, .int .i64 0], .int .i64 15]) ∧ Below w.heap.size w w' := by
  have q : decide (8 < (n : Int)) = false := decide_eq_false (by omega)
  have X := Lib.hid (bel_alloc (w := w) (o := .cells #[.int .i64 0, .int .i64 0] 29) (Below.refl _ _))
  have T0 := Lib.hid (Two.new w (.int .i64 0) (.int .i64 0) 29)
  replace NV := Lib.hid (NV.out.alloc (.cells #[.int .i64 0, .int .i64 0] 29))
  go_enter Tryd.func41, Tryd.ntmps41
  go_wp2_with fail
  go_loopw [13] (fun i wr => ∃ k : Nat, k ≤ n ∧ i = .int .i64 k ∧ Hid (Below w.heap.size w wr) ∧ Hid (Pts wr (.slice a n cap) l) ∧ Hid (Two w.heap.size wr (.int .i64 0) (.int .i64 0))) (fun i _ => n - (intOf i).toNat)
  case atStart => exact ⟨0, Nat.zero_le _, rfl, X, NV, T0⟩
  case round =>
    clear X NV T0
    obtain ⟨k, hk, rfl, X, NV, T0⟩ := hrel
    by_cases hlt : k < n
    · have HP := Lib.hid (fun W => mxPl_any (gX l k) (gR l k) W)
      rw [hp.out k hlt] at HP
      have l9 : (k : Int) < (n : Int) := by omega
      obtain ⟨b, off, rfl, hb, hc⟩ := NV.out.at (by omega)
      obtain ⟨c0, c1⟩ := hc k (by omega)
      clear hc
      generalize gX l k = x at *
      generalize gR l k = y at *
      have P0 := Lib.hid (Two.new wr (.int .i64 x) (.int .i64 y) 29)
      replace X := Lib.hid (bel_trans X.out (bel_alloc (o := .cells #[.int .i64 x, .int .i64 y] 29) (Below.refl _ _)))
      replace NV := Lib.hid (NV.out.alloc (.cells #[.int .i64 x, .int .i64 y] 29))
      replace T0 := Lib.hid (T0.out.alloc (.cells #[.int .i64 x, .int .i64 y] 29))
      obtain ⟨p0, p1, _, _, _⟩ := P0.out
      go_wp2_with fail
      refine (HP.out _).mono ?_
      rintro e w3 ⟨rfl, hb⟩
      replace X := Lib.hid (bel_trans X.out hb)
      replace NV := Lib.hid (NV.out.below hb)
      replace T0 := Lib.hid (T0.out.below hb)
      clear hb
      go_wp2
      go_roundw
      case rel => exact ⟨k + 1, by omega, by go_num, X, NV, T0⟩
      case measure => simp [intOf]; omega
    · obtain rfl : k = n := by omega
      have HM := Lib.hid (fun W h => mxMix_any (.slice a k cap) l W h (by rw [hl.out]; exact hn) ha)
      have HP := Lib.hid (fun W => mxPl_any (sm fA l) (sm fM l) W)
      rw [hB] at HP
      generalize sm fA l = x at *
      generalize sm fM l = y at *
      go_wp2_with fail
      refine (HM.out _ NV.out).mono ?_
      rintro e w3 ⟨rfl, hb⟩
      have P0 := Lib.hid (Two.new w3 (.int .i64 x) (.int .i64 y) 29)
      replace X := Lib.hid (bel_trans (bel_trans X.out hb) (bel_alloc (o := .cells #[.int .i64 x, .int .i64 y] 29) (Below.refl _ _)))
      replace T0 := Lib.hid ((T0.out.below hb).alloc (.cells #[.int .i64 x, .int .i64 y] 29))
      clear hb
      obtain ⟨p0, p1, _, _, _⟩ := P0.out
      go_wp2_with fail
      refine (HP.out _).mono ?_
      rintro e w4 ⟨rfl, hb⟩
      replace P0 := Lib.hid (P0.out.below hb)
      replace X := Lib.hid (bel_trans X.out hb)
      replace T0 := Lib.hid (T0.out.below hb)
      clear hb p0 p1
      obtain ⟨p0, p1, _, _, _⟩ := P0.out
      obtain ⟨z0, z1, z2, z3, z4⟩ := T0.out
      go_wp2
      obtain ⟨r0, r1⟩ := two_read w4 w.heap.size (.int .i64 0) (.int .i64 0) z0 z1
      refine bodyPost_ret (v := .tuple #[.agg #[.int .i64 0, .int .i64 0], .int .i64 15]) (by simp [results, Tryd.results41, go_sem, r0, r1]) rfl ?_
      exact ⟨rfl, (X.out.setCell (Nat.le_refl _) _).setCell (Nat.le_refl _) _⟩
set_option maxHeartbeats 16000000 in
set_option maxRecDepth 100000 in
theorem mxSu_ok (a : Option Addr) (n cap : Nat) (l : List (Int × Int)) (w : World) (NV : Hid (Pts w (.slice a n cap) l)) (hn : n ≤ 8) (hl : Hid (l.length = n)) (ha : allP l = true) (hp : Hid (∀ j, j < n → plB (gX l j) (gR l j) = true)) (hB : plB (sm fA l) (sm fM l) = true) :
    Calls Tryd.prog 41 #[.slice a n cap] w fun e w' => e = .returned (.tuple #[.agg #[.int .i64 (sm fA l), .int .i64 (sm fM l)], .int .i64 0]) ∧ Below w.heap.size w w' := by
  have q : decide (8 < (n : Int)) = false := decide_eq_false (by omega)
  have X := Lib.hid (bel_alloc (w := w) (o := .cells #[.int .i64 0, .int .i64 0] 29) (Below.refl _ _))
  have T0 := Lib.hid (Two.new w (.int .i64 0) (.int .i64 0) 29)
  replace NV := Lib.hid (NV.out.alloc (.cells #[.int .i64 0, .int .i64 0] 29))
  go_enter Tryd.func41, Tryd.ntmps41
  go_wp2_with fail
  go_loopw [13] (fun i wr => ∃ k : Nat, k ≤ n ∧ i = .int .i64 k ∧ Hid (Below w.heap.size w wr) ∧ Hid (Pts wr (.slice a n cap) l) ∧ Hid (Two w.heap.size wr (.int .i64 0) (.int .i64 0))) (fun i _ => n - (intOf i).toNat)
  case atStart => exact ⟨0, Nat.zero_le _, rfl, X, NV, T0⟩
  case round =>
    clear X NV T0
    obtain ⟨k, hk, rfl, X, NV, T0⟩ := hrel
    by_cases hlt : k < n
    · have HP := Lib.hid (fun W => mxPl_any (gX l k) (gR l k) W)
      rw [hp.out k hlt] at HP
      have l9 : (k : Int) < (n : Int) := by omega
      obtain ⟨b, off, rfl, hb, hc⟩ := NV.out.at (by omega)
      obtain ⟨c0, c1⟩ := hc k (by omega)
      clear hc
      generalize gX l k = x at *
      generalize gR l k = y at *
      have P0 := Lib.hid (Two.new wr (.int .i64 x) (.int .i64 y) 29)
      replace X := Lib.hid (bel_trans X.out (bel_alloc (o := .cells #[.int .i64 x, .int .i64 y] 29) (Below.refl _ _)))
      replace NV := Lib.hid (NV.out.alloc (.cells #[.int .i64 x, .int .i64 y] 29))
      replace T0 := Lib.hid (T0.out.alloc (.cells #[.int .i64 x, .int .i64 y] 29))
      obtain ⟨p0, p1, _, _, _⟩ := P0.out
      go_wp2_with fail
      refine (HP.out _).mono ?_
      rintro e w3 ⟨rfl, hb⟩
      replace X := Lib.hid (bel_trans X.out hb)
      replace NV := Lib.hid (NV.out.below hb)
      replace T0 := Lib.hid (T0.out.below hb)
      clear hb
      go_wp2
      go_roundw
      case rel => exact ⟨k + 1, by omega, by go_num, X, NV, T0⟩
      case measure => simp [intOf]; omega
    · obtain rfl : k = n := by omega
      have HM := Lib.hid (fun W h => mxMix_any (.slice a k cap) l W h (by rw [hl.out]; exact hn) ha)
      have HP := Lib.hid (fun W => mxPl_any (sm fA l) (sm fM l) W)
      rw [hB] at HP
      generalize hx : sm fA l = x at *
      generalize hy : sm fM l = y at *
      replace hx := Lib.hid hx
      replace hy := Lib.hid hy
      go_wp2_with fail
      refine (HM.out _ NV.out).mono ?_
      rintro e w3 ⟨rfl, hb⟩
      have P0 := Lib.hid (Two.new w3 (.int .i64 x) (.int .i64 y) 29)
      replace X := Lib.hid (bel_trans (bel_trans X.out hb) (bel_alloc (o := .cells #[.int .i64 x, .int .i64 y] 29) (Below.refl _ _)))
      replace T0 := Lib.hid ((T0.out.below hb).alloc (.cells #[.int .i64 x, .int .i64 y] 29))
      clear hb
      obtain ⟨p0, p1, _, _, _⟩ := P0.out
      go_wp2_with fail
      refine (HP.out _).mono ?_
      rintro e w4 ⟨rfl, hb⟩
      replace P0 := Lib.hid (P0.out.below hb)
      replace X := Lib.hid (bel_trans X.out hb)
      replace T0 := Lib.hid (T0.out.below hb)
      clear hb p0 p1
      obtain ⟨p0, p1, _, _, _⟩ := P0.out
      obtain ⟨z0, z1, z2, z3, z4⟩ := T0.out
      go_wp2
      obtain ⟨r0, r1⟩ := two_read w4 w.heap.size (.int .i64 x) (.int .i64 y) z0 z1
      refine bodyPost_ret (v := .tuple #[.agg #[.int .i64 x, .int .i64 y], .int .i64 0]) (by simp [results, Tryd.results41, go_sem, r0, r1]) rfl ?_
      exact ⟨by rw [hx.out, hy.out], (X.out.setCell (Nat.le_refl _) _).setCell (Nat.le_refl _) _⟩
theorem mxSu_any (v : Value) (l : List (Int × Int)) (w : World) (hv : Pts w v l) :
    Calls Tryd.prog 41 #[v] w fun e w' => e = .returned (.tuple #[.agg #[.int .i64 (suA l), .int .i64 (suM l)], .int .i64 (suE l)]) ∧ Below w.heap.size w w' := by
  obtain ⟨a, cap, rfl, hcap, hh⟩ := id hv
  unfold suA suM
  by_cases h : 8 < l.length
  · have e : suE l = 8 := by unfold suE; rw [if_pos h]
    rw [e]; exact mxSu_long a _ cap w h (by omega)
  · cases ha : allP l with
    | false =>
      have e : suE l = 1 := by unfold suE; rw [if_neg h, if_pos ha]
      obtain ⟨k, hk, h1, h2⟩ := allP_bad ha
      rw [e]; exact mxSu_bad a _ cap k l w hv (by omega) hk h2 h1
    | true =>
      cases hB : plB (sm fA l) (sm fM l) with
      | false =>
        have e : suE l = 15 := by unfold suE; rw [if_neg h, if_neg (by simp [ha]), if_pos hB]
        rw [e]; exact mxSu_over a _ cap l w hv (by omega) rfl ha (fun j hj => allP_at ha hj) hB
      | true =>
        have e : suE l = 0 := suE_zero.2 ⟨by omega, ha, hB⟩
        rw [e]; exact mxSu_ok a _ cap l w hv (by omega) rfl ha (fun j hj => allP_at ha hj) hB
end Go.Proofs.YtfpdanjhlepckaaDoor

