/- The reference of layer 8: Length, Bung, radius, Radius, At. -/
import Derived.Test.YtlofblpfohnooabPRB
import Derived.Test.YtlofblpfohnooabPPH
import Derived.StillTailTactics
namespace Go.Proofs.Ytlofblpfohnooab
open Go.RowKit

theorem refLen_bad (v : Value) (E : Int) (w : World) (e1 : (E == 0) = false) (e2 : (E != 0) = true)
    (H1 : Hid (Calls Try.prog 17 #[v] w fun e w' => e = .returned (.int .i64 E) ∧ Below w.heap.size w w')) :
    Calls Try.prog 13 #[v] w fun e w' => e = .returned (.tuple #[.int .i64 0, .int .i64 E]) ∧ Below w.heap.size w w' := by
  go_enter Try.func13, Try.ntmps13
  go_wp2_with fail
  refine H1.out.mono ?_
  rintro e w1 ⟨rfl, gg⟩
  have X1 := Lib.hid gg; clear gg
  go_wp2
  go_returns
  exact ⟨rfl, X1.out⟩
theorem refLen_ok (b off n cap : Nat) (l : List (Int × Int)) (w : World) (n0 : 1 ≤ n) (n1 : n ≤ 1000) (hb : b < w.heap.size)
    (hc : Hid (∀ j, j < n → w.cell? ⟨b, off + j * 2, none⟩ = some (.int .i64 (gX l j)) ∧ w.cell? ⟨b, off + j * 2 + 1, none⟩ = some (.int .i64 (gR l j))))
    (H1 : Hid (Calls Try.prog 17 #[.slice (some ⟨b, off, none⟩) n cap] w fun e w' => e = .returned (.int .i64 0) ∧ Below w.heap.size w w')) :
    Calls Try.prog 13 #[.slice (some ⟨b, off, none⟩) n cap] w fun e w' => e = .returned (.tuple #[.int .i64 (gX l (n - 1)), .int .i64 0]) ∧ Below w.heap.size w w' := by
  obtain ⟨m, rfl⟩ : ∃ m, n = m + 1 := ⟨n - 1, by omega⟩
  rw [show m + 1 - 1 = m by omega]
  have wk : IntKind.i64.wrap ((m : Int) + 1 - 1) = (m : Int) := by simp only [IntKind.wrap_i64]; omega
  have wk2 : IntKind.i64.wrap (m : Int) = (m : Int) := by simp only [IntKind.wrap_i64]; omega
  go_enter Try.func13, Try.ntmps13
  go_wp2_with fail
  refine H1.out.mono ?_
  rintro e w1 ⟨rfl, gg⟩
  have c0 : w1.cell? ⟨b, off + m * 2, none⟩ = some (.int .i64 (gX l m)) := by rw [(bcell gg).1 _ _ hb]; exact (hc.out m (by omega)).1
  have X1 := Lib.hid gg; clear gg
  obtain ⟨x, hx⟩ : ∃ x, gX l m = x := ⟨_, rfl⟩
  rw [hx] at c0
  go_wp2
  go_returns
  exact ⟨by first | (rw [hx]; done) | (rw [hx]; rfl) | simp [hx], X1.out⟩
theorem refLength_any (v : Value) (l : List (Int × Int)) (w : World) (hv : Pts w v l) :
    Calls Try.prog 13 #[v] w fun e w' => e = .returned (.tuple #[.int .i64 (lgQ l), .int .i64 (ckE l)]) ∧ Below w.heap.size w w' := by
  have HC := Lib.hid (refCk_any v l w hv)
  unfold lgQ
  by_cases h : ckE l = 0
  · have hR := (ckE_iff l).1 h
    have n0 := hR.n0
    have n1 := hR.n1
    rw [if_pos h, h]
    rw [h] at HC
    obtain ⟨a, cap, rfl, hl, hh⟩ := hv
    rcases hh with hh | ⟨b, off, rfl, hb, hc⟩
    · omega
    · exact refLen_ok b off l.length cap l w (by omega) (by omega) hb (Lib.hid hc) HC
  · rw [if_neg h]
    exact refLen_bad v _ w (by simpa using h) (by simpa using h) HC

set_option maxHeartbeats 4000000 in
set_option maxRecDepth 100000 in
theorem refBung_ok (b off n cap : Nat) (l : List (Int × Int)) (w : World) (n0 : 1 ≤ n) (n1 : n ≤ 1000) (hb : b < w.heap.size)
    (hc : Hid (∀ j, j < n → w.cell? ⟨b, off + j * 2, none⟩ = some (.int .i64 (gX l j)) ∧ w.cell? ⟨b, off + j * 2 + 1, none⟩ = some (.int .i64 (gR l j))))
    (H1 : Hid (Calls Try.prog 17 #[.slice (some ⟨b, off, none⟩) n cap] w fun e w' => e = .returned (.int .i64 0) ∧ Below w.heap.size w w')) :
    Calls Try.prog 15 #[.slice (some ⟨b, off, none⟩) n cap] w fun e w' => e = .returned (.tuple #[.int .i64 (bg l n), .int .i64 0]) ∧ Below w.heap.size w w' := by
  go_enter Try.func15, Try.ntmps15
  go_wp2_with fail
  refine H1.out.mono ?_
  rintro e w1 ⟨rfl, gg⟩
  have X1 := Lib.hid gg; clear gg H1
  go_wp2_with fail
  go_loopw [5, 6] (fun bu ii wr => ∃ k : Nat, k ≤ n ∧ ii = .int .i64 k ∧ bu = .int .i64 (bg l k) ∧ Hid (Below w.heap.size w wr)) (fun _ ii _ => n - (intOf ii).toNat)
  case atStart => exact ⟨0, Nat.zero_le _, rfl, rfl, X1⟩
  case round =>
    obtain ⟨k, hk, rfl, rfl, hB⟩ := hrel
    by_cases hlt : k < n
    · have c1 : wr.cell? ⟨b, off + k * 2 + 1, none⟩ = some (.int .i64 (gR l k)) := by rw [(bcell hB.out).1 _ _ hb]; exact (hc.out k hlt).2
      have hg := bg_lt l k
      have hgl : bg l k < n := by omega
      have eb : bg l (k + 1) = if gR l (bg l k) < gR l k then k else bg l k := rfl
      have c2 : wr.cell? ⟨b, off + bg l k * 2 + 1, none⟩ = some (.int .i64 (gR l (bg l k))) := by rw [(bcell hB.out).1 _ _ hb]; exact (hc.out (bg l k) hgl).2
      have EB := Lib.hid eb
      have l1 : (k : Int) < (n : Int) := by omega
      clear eb hg
      generalize hgg : bg l k = g at *
      have l2 : (g : Int) < (n : Int) := by omega
      generalize gR l g = rg at *
      generalize gR l k = r at *
      clear hgg
      by_cases hq : rg < r
      · have e : bg l (k + 1) = k := by rw [EB.out, if_pos hq]
        clear EB
        go_wp2_with fail
        go_quiet (fail)
        go_wp2
        go_roundw
        case rel => exact ⟨k + 1, by omega, by go_num, by rw [e], bel_trans hB.out (bel_drewN _ _)⟩
        case measure => simp [intOf]; omega
      · have e : bg l (k + 1) = g := by rw [EB.out, if_neg hq]
        clear EB
        go_wp2_with fail
        go_quiet (fail)
        go_wp2
        go_roundw
        case rel => exact ⟨k + 1, by omega, by go_num, by rw [e], bel_trans hB.out (bel_drewN _ _)⟩
        case measure => simp [intOf]; omega
    · obtain rfl : k = n := by omega
      go_wp2
      go_returns
      exact ⟨rfl, hB.out⟩
theorem refBung_bad (v : Value) (E : Int) (w : World) (e1 : (E == 0) = false) (e2 : (E != 0) = true)
    (H1 : Hid (Calls Try.prog 17 #[v] w fun e w' => e = .returned (.int .i64 E) ∧ Below w.heap.size w w')) :
    Calls Try.prog 15 #[v] w fun e w' => e = .returned (.tuple #[.int .i64 0, .int .i64 E]) ∧ Below w.heap.size w w' := by
  go_enter Try.func15, Try.ntmps15
  go_wp2_with fail
  refine H1.out.mono ?_
  rintro e w1 ⟨rfl, gg⟩
  have X1 := Lib.hid gg; clear gg
  go_wp2
  go_returns
  exact ⟨rfl, X1.out⟩
theorem refBung_any (v : Value) (l : List (Int × Int)) (w : World) (hv : Pts w v l) :
    Calls Try.prog 15 #[v] w fun e w' => e = .returned (.tuple #[.int .i64 (buQ l), .int .i64 (ckE l)]) ∧ Below w.heap.size w w' := by
  have HC := Lib.hid (refCk_any v l w hv)
  unfold buQ
  by_cases h : ckE l = 0
  · have hR := (ckE_iff l).1 h
    have n0 := hR.n0
    have n1 := hR.n1
    rw [if_pos h, h]
    rw [h] at HC
    obtain ⟨a, cap, rfl, hl, hh⟩ := hv
    rcases hh with hh | ⟨b, off, rfl, hb, hc⟩
    · omega
    · exact refBung_ok b off l.length cap l w (by omega) (by omega) hb (Lib.hid hc) HC
  · rw [if_neg h]
    exact refBung_bad v _ w (by simpa using h) (by simpa using h) HC

/-! ### radius -/
theorem lnN_bd {a p b q x : Int} (a0 : 0 ≤ a) (ab : a < b) (b1 : b ≤ 100000) (p0 : 0 ≤ p) (p1 : p ≤ 100000) (q0 : 0 ≤ q) (q1 : q ≤ 100000) (x0 : a ≤ x) (x1 : x ≤ b) :
    (0 ≤ p * (b - a) ∧ p * (b - a) ≤ 10000000000) ∧ (-10000000000 ≤ (q - p) * (x - a) ∧ (q - p) * (x - a) ≤ 10000000000) ∧ 0 ≤ lnN a p b q x := by
  have h1 : p * (b - a) ≤ 100000 * 100000 := Int.mul_le_mul p1 (by omega) (by omega) (by omega)
  have h0 : 0 ≤ p * (b - a) := Int.mul_nonneg p0 (by omega)
  have h2 : (q - p) * (x - a) ≤ 100000 * (x - a) := Int.mul_le_mul_of_nonneg_right (by omega) (by omega)
  have h3 : -100000 * (x - a) ≤ (q - p) * (x - a) := Int.mul_le_mul_of_nonneg_right (by omega) (by omega)
  have bt := (ln_between (p := p) (q := q) ab x0 x1).1
  have h4 : 0 ≤ lnN a p b q x / (b - a) := by omega
  refine ⟨⟨h0, by omega⟩, ⟨by omega, by omega⟩, ?_⟩
  have := Int.mul_le_mul_of_nonneg_right h4 (show 0 ≤ b - a by omega)
  have := Int.ediv_mul_le (lnN a p b q x) (show b - a ≠ 0 by omega)
  omega
set_option maxHeartbeats 16000000 in
set_option maxRecDepth 100000 in
theorem radius_some (b off n cap : Nat) (l : List (Int × Int)) (x : Int) (i : Nat) (w : World) (n0 : 2 ≤ n) (n1 : n ≤ 1000) (hn : n = l.length) (hb : b < w.heap.size)
    (hc : Hid (∀ j, j < n → w.cell? ⟨b, off + j * 2, none⟩ = some (.int .i64 (gX l j)) ∧ w.cell? ⟨b, off + j * 2 + 1, none⟩ = some (.int .i64 (gR l j))))
    (hR : Hid (RP l)) (x0 : 0 ≤ x) (xb : x ≤ 100000) (hi : Hid (IsPc l x i)) :
    Calls Try.prog 47 #[.slice (some ⟨b, off, none⟩) n cap, .int .i64 x] w fun e w' => e = .returned (.tuple #[.int .i64 (lnN (gX l (i - 1)) (gR l (i - 1)) (gX l i) (gR l i) x), .int .i64 (gX l i - gX l (i - 1))]) ∧ Below w.heap.size w w' := by
  have HN := Lib.hid hn
  clear hn
  go_enter Try.func47, Try.ntmps47
  go_wp2_with fail
  go_loopw [6, 7, 8] (fun ii _ _ wr => ∃ k : Nat, k + 1 ≤ i ∧ ii = .int .i64 ((k : Int) + 1) ∧ Hid (Below w.heap.size w wr)) (fun ii _ _ _ => n - (intOf ii).toNat)
  case atStart => exact ⟨0, hi.out.h1, rfl, Below.refl _ _⟩
  case round =>
    obtain ⟨k, hk, rfl, hB⟩ := hrel
    have hlt : k + 1 < n := by have := hi.out.h2; have := HN.out; omega
    have c0 : wr.cell? ⟨b, off + k * 2, none⟩ = some (.int .i64 (gX l k)) := by rw [(bcell hB.out).1 _ _ hb]; exact (hc.out k (by omega)).1
    have c1 : wr.cell? ⟨b, off + k * 2 + 1, none⟩ = some (.int .i64 (gR l k)) := by rw [(bcell hB.out).1 _ _ hb]; exact (hc.out k (by omega)).2
    have c2 : wr.cell? ⟨b, off + (k + 1) * 2, none⟩ = some (.int .i64 (gX l (k + 1))) := by rw [(bcell hB.out).1 _ _ hb]; exact (hc.out (k + 1) hlt).1
    have c3 : wr.cell? ⟨b, off + (k + 1) * 2 + 1, none⟩ = some (.int .i64 (gR l (k + 1))) := by rw [(bcell hB.out).1 _ _ hb]; exact (hc.out (k + 1) hlt).2
    have hbr : b < wr.heap.size := Nat.lt_of_lt_of_le hb hB.out.size
    have a0 : ∀ o, (wr.alloc o).cell? ⟨b, off + k * 2, none⟩ = some (.int .i64 (gX l k)) := fun o => by rw [World.cell?_alloc_lt wr o _ hbr]; exact c0
    have a1 : ∀ o, (wr.alloc o).cell? ⟨b, off + k * 2 + 1, none⟩ = some (.int .i64 (gR l k)) := fun o => by rw [World.cell?_alloc_lt wr o _ hbr]; exact c1
    have a2 : ∀ o, (wr.alloc o).cell? ⟨b, off + (k + 1) * 2, none⟩ = some (.int .i64 (gX l (k + 1))) := fun o => by rw [World.cell?_alloc_lt wr o _ hbr]; exact c2
    have a3 : ∀ o, (wr.alloc o).cell? ⟨b, off + (k + 1) * 2 + 1, none⟩ = some (.int .i64 (gR l (k + 1))) := fun o => by rw [World.cell?_alloc_lt wr o _ hbr]; exact c3
    have l2 : k < n := by omega
    have l3 : (k : Int) < (n : Int) := by omega
    have l5 : (k : Int) + 1 < (n : Int) := by omega
    have wj : IntKind.i64.wrap ((k : Int) + 1 - 1) = (k : Int) := by simp only [IntKind.wrap_i64]; omega
    have wk : IntKind.i64.wrap (k : Int) = (k : Int) := by simp only [IntKind.wrap_i64]; omega
    have l6 : 0 ≤ (k : Int) + 1 := by omega
    have l7 : ((k : Int) + 1).toNat = k + 1 := by omega
    have HX : Hid (∀ (W : World), Below wr.heap.size wr W → Below w.heap.size w W) := fun W h => bel_trans hB.out h
    by_cases hq : k + 1 = i
    · have bd := pc_bd hR.out x0 hi.out
      rw [← hq, show k + 1 - 1 = k by omega] at bd
      obtain ⟨_, _, ⟨b0, b1, b2⟩, ⟨d0, d1⟩, ⟨f0, f1⟩, g0, g1⟩ := bd
      have L := lnN_bd (p := gR l k) (q := gR l (k + 1)) (x := x) b0 b1 b2 (by omega) d1 (by omega) f1 g0 g1
      have eL : lnN (gX l k) (gR l k) (gX l (k + 1)) (gR l (k + 1)) x = gR l k * (gX l (k + 1) - gX l k) + (gR l (k + 1) - gR l k) * (x - gX l k) := rfl
      have eR : Hid (∀ N D : Int, N = lnN (gX l k) (gR l k) (gX l (k + 1)) (gR l (k + 1)) x → D = gX l (k + 1) - gX l k → (Ending.returned (.tuple #[.int .i64 N, .int .i64 D]) = .returned (.tuple #[.int .i64 (lnN (gX l (i - 1)) (gR l (i - 1)) (gX l i) (gR l i) x), .int .i64 (gX l i - gX l (i - 1))]))) := fun N D e1 e2 => by
        rw [e1, e2, ← hq, show k + 1 - 1 = k by omega]
      rw [eL] at L eR
      generalize gX l k = a at *
      generalize gR l k = p at *
      generalize gX l (k + 1) = c at *
      generalize gR l (k + 1) = q at *
      obtain ⟨⟨m0, m1⟩, ⟨m2, m3⟩, m4⟩ := L
      have w1 : IntKind.i64.wrap (c - a) = c - a := wrap_in _ ⟨by omega, by omega⟩
      have w2 : IntKind.i64.wrap (q - p) = q - p := wrap_in _ ⟨by omega, by omega⟩
      have w3 : IntKind.i64.wrap (x - a) = x - a := wrap_in _ ⟨by omega, by omega⟩
      have w4 : IntKind.i64.wrap (p * (c - a)) = p * (c - a) := wrap_in _ ⟨by omega, by omega⟩
      have w5 : IntKind.i64.wrap ((q - p) * (x - a)) = (q - p) * (x - a) := wrap_in _ ⟨by omega, by omega⟩
      have w6 : IntKind.i64.wrap (p * (c - a) + (q - p) * (x - a)) = p * (c - a) + (q - p) * (x - a) := wrap_in _ ⟨by omega, by omega⟩
      clear hB hq eL
      go_wp2_with fail
      go_region
      all_goals go_wp2_with fail
      all_goals go_quiet (fail)
      all_goals go_wp2
      all_goals go_returns
      all_goals exact ⟨eR.out _ _ rfl rfl, HX.out _ (bel_alloc (bel_alloc (bel_trans (bel_drew _) (bel_drewN _ _))))⟩
    · have h4 := hi.out.h4 (k + 1) (by omega) (by omega)
      have h5 : ¬ x ≤ gX l (k + 1) := by omega
      generalize gX l k = a at *
      generalize gR l k = p at *
      generalize gX l (k + 1) = c at *
      generalize gR l (k + 1) = q at *
      clear hB
      go_wp2_with fail
      go_region
      all_goals go_wp2
      all_goals go_roundw
      all_goals first | exact ⟨k + 1, by omega, by go_num, HX.out _ (bel_alloc (bel_alloc (bel_drew _)))⟩ | (simp [intOf]; omega)
end Go.Proofs.Ytlofblpfohnooab
