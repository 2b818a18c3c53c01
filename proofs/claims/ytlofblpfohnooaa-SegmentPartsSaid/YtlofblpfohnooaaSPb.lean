/- Package segment: the area in a strip. -/
import Derived.Test.YtlofblpfohnooaaSPa
import Derived.Deep.RegionHeld3
import Derived.Test.YtlofblpfohnooaaKept
namespace Go.Proofs.Ytlofblpfohnooaa
open Go.RowKit

theorem keepS {B : Nat} {W W' : World} {r c a b : Value} {n : Nat} (gg : Below W.heap.size W W') (hn : B + 1 < n) (h : W.cell? ⟨B, 0, none⟩ = some r ∧ W.cell? ⟨B, 1, none⟩ = some c ∧ W.cell? ⟨B + 1, 0, none⟩ = some a ∧ W.cell? ⟨B + 1, 1, none⟩ = some b ∧ n ≤ W.heap.size) :
    W'.cell? ⟨B, 0, none⟩ = some r ∧ W'.cell? ⟨B, 1, none⟩ = some c ∧ W'.cell? ⟨B + 1, 0, none⟩ = some a ∧ W'.cell? ⟨B + 1, 1, none⟩ = some b ∧ n ≤ W'.heap.size := by
  obtain ⟨h0, h1, h2, h3, h4⟩ := h
  exact ⟨by rw [(bcell gg).1 _ _ (by omega)]; exact h0, by rw [(bcell gg).1 _ _ (by omega)]; exact h1, by rw [(bcell gg).1 _ _ (by omega)]; exact h2, by rw [(bcell gg).1 _ _ (by omega)]; exact h3, Nat.le_trans h4 gg.size⟩
/-- both chords lie in blocks of their own -/
def Ends (w1 : World) (A0 A1 B0 B1 : Value) (s5 s6 : Value) (wx : World) : Prop := ∃ p q : Nat, s5 = .pointer (some ⟨p, 0, none⟩) ∧ s6 = .pointer (some ⟨q, 0, none⟩) ∧ Hid (Two p wx A0 A1) ∧ Hid (Two q wx B0 B1) ∧ Hid (Below w1.heap.size w1 wx)

set_option maxHeartbeats 8000000 in
set_option maxRecDepth 100000 in
theorem cArea_core (r c a b A0 A1 B0 B1 H : Int) (w : World) (r0 : 0 ≤ r) (r1 : r ≤ 100000) (a0 : 0 ≤ a) (ab : a ≤ b) (b1 : b ≤ 200000)
    (p0 : 0 ≤ A0) (p1 : A0 ≤ 200000) (p2 : 0 ≤ A1) (p3 : A1 ≤ 200000) (q0 : 0 ≤ B0) (q1 : B0 ≤ 200000) (q2 : 0 ≤ B1) (q3 : B1 ≤ 200000)
    (hc : (a ≤ c ∧ c ≤ b ∧ H = 2 * r) ∨ (c < a ∧ H = max A1 B1) ∨ (a ≤ c ∧ b < c ∧ H = max A1 B1)) (m0 : 0 ≤ (b - a) * min A0 B0) (m1 : (b - a) * min A0 B0 ≤ 40000000000) (m2 : 0 ≤ (b - a) * H) (m3 : (b - a) * H ≤ 40000000000)
    (H1 : Hid (∀ W, Calls Try.prog 35 #[.agg #[.int .i64 r, .int .i64 c], .int .i64 a] W fun e w' => e = .returned (.agg #[.int .i64 A0, .int .i64 A1]) ∧ Below W.heap.size W w'))
    (H2 : Hid (∀ W, Calls Try.prog 35 #[.agg #[.int .i64 r, .int .i64 c], .int .i64 b] W fun e w' => e = .returned (.agg #[.int .i64 B0, .int .i64 B1]) ∧ Below W.heap.size W w')) :
    Calls Try.prog 29 #[.agg #[.int .i64 r, .int .i64 c], .agg #[.int .i64 a, .int .i64 b]] w fun e w' => e = .returned (.agg #[.int .i64 ((b - a) * min A0 B0), .int .i64 ((b - a) * H)]) ∧ Below w.heap.size w w' := by
  go_enter Try.func29, Try.ntmps29
  go_wp2_with fail
  generalize hw1 : ((w.alloc (.cells #[.int .i64 r, .int .i64 c] 48)).alloc (.cells #[.int .i64 a, .int .i64 b] 33)).alloc (.cells #[.int .i64 0, .int .i64 0] 33) = w1
  have TC : Hid (Two w.heap.size w1 (.int .i64 r) (.int .i64 c)) := by rw [← hw1]; exact ((Two.new w _ _ _).alloc _).alloc _
  have TS : Hid (Two (w.heap.size + 1) w1 (.int .i64 a) (.int .i64 b)) := by rw [← hw1, ← World.size_alloc w (.cells #[.int .i64 r, .int .i64 c] 48)]; exact (Two.new _ _ _ _).alloc _
  have T0 : Hid (Two (w.heap.size + 1 + 1) w1 (.int .i64 0) (.int .i64 0)) := by rw [← hw1, ← World.size_alloc w (.cells #[.int .i64 r, .int .i64 c] 48), ← World.size_alloc (w.alloc (.cells #[.int .i64 r, .int .i64 c] 48)) (.cells #[.int .i64 a, .int .i64 b] 33)]; exact Two.new _ _ _ _
  obtain ⟨c0, c1, _, _, clt⟩ := TC.out
  obtain ⟨s0, s1, _, _, slt⟩ := TS.out
  have X0 : Hid (Below w.heap.size w w1) := by rw [← hw1]; exact bel_alloc (bel_alloc (bel_alloc (Below.refl _ _)))
  clear hw1
  have hB1 : w.heap.size + 1 < w1.heap.size := slt
  have HC := Lib.hid hc
  clear hc
  go_upto_region 1 with fail
  go_cut [5, 6] (fun s5 s6 wz => ∃ wx, wx = wz ∧ Ends w1 (.int .i64 A0) (.int .i64 A1) (.int .i64 B0) (.int .i64 B1) s5 s6 wx)
  case first =>
    go_region_held3 (fun W => W.cell? ⟨w.heap.size, 0, none⟩ = some (.int .i64 r) ∧ W.cell? ⟨w.heap.size, 1, none⟩ = some (.int .i64 c) ∧ W.cell? ⟨w.heap.size + 1, 0, none⟩ = some (.int .i64 a) ∧ W.cell? ⟨w.heap.size + 1, 1, none⟩ = some (.int .i64 b) ∧ w1.heap.size ≤ W.heap.size)
      ((refine keepS (W := w1) ?_ hB1 ⟨c0, c1, s0, s1, Nat.le_refl _⟩; repeat (first | (with_reducible exact Below.refl _ _) | (with_reducible exact bel_drew _) | (with_reducible refine bA ?_ _) | (with_reducible refine bS _ _ _ ?_ (by omega)) | (with_reducible refine bel_trans ?_ (bel_drew _)) | (with_reducible exact g1) | (with_reducible refine bel_trans ?_ g2) | (with_reducible refine bel_trans ?_ g1))))
      (first
        | (go_at_call_of 35 (Value.int IntKind.i64 a); refine (H1.out _).mono ?_; clear H1; rintro e w2 ⟨rfl, g1⟩; have z1 := g1.size; (try simp at z1); (try (refine (fun (q1 : Two w1.heap.size w2 (.int .i64 0) (.int .i64 0)) => ?_) (Two.below ?_ g1); rotate_left; (focus ((repeat (first | ((with_reducible refine Two.newAt _ _ _ _ ?_); first | (with_reducible rfl) | (simp only [World.size_alloc]; done) | (simp only [World.size_drew]; done) | (simp only [World.size_alloc, World.size_drew]; done)) | (with_reducible refine Two.alloc ?_ _) | (with_reducible refine Two.below ?_ (bel_drew _)))); done)); have q1h := Lib.hid q1; obtain ⟨q10, q11, q12, q13, q14⟩ := q1)); (try (refine (fun (q2 : Two (w1.heap.size + 1) w2 (.int .i64 0) (.int .i64 0)) => ?_) (Two.below ?_ g1); rotate_left; (focus ((repeat (first | ((with_reducible refine Two.newAt _ _ _ _ ?_); first | (with_reducible rfl) | (simp only [World.size_alloc]; done) | (simp only [World.size_drew]; done) | (simp only [World.size_alloc, World.size_drew]; done)) | (with_reducible refine Two.alloc ?_ _) | (with_reducible refine Two.below ?_ (bel_drew _)))); done)); have q2h := Lib.hid q2; obtain ⟨q20, q21, q22, q23, q24⟩ := q2)))
        | (go_at_call_of 35 (Value.int IntKind.i64 b); refine (H2.out _).mono ?_; clear H2; rintro e w3 ⟨rfl, g2⟩; have z2 := g2.size; (try simp at z2); (try (refine (fun (q3 : Two w1.heap.size w3 (.int .i64 0) (.int .i64 0)) => ?_) (Two.below ?_ g2); rotate_left; (focus ((repeat (first | ((with_reducible refine Two.newAt _ _ _ _ ?_); first | (with_reducible rfl) | (simp only [World.size_alloc]; done) | (simp only [World.size_drew]; done) | (simp only [World.size_alloc, World.size_drew]; done)) | (with_reducible exact q1h.out) | (with_reducible exact q2h.out) | (with_reducible refine Two.alloc ?_ _) | (with_reducible refine Two.below ?_ (bel_drew _)))); done)); have q3h := Lib.hid q3; obtain ⟨q30, q31, q32, q33, q34⟩ := q3)); (try (refine (fun (q4 : Two (w1.heap.size + 1) w3 (.int .i64 0) (.int .i64 0)) => ?_) (Two.below ?_ g2); rotate_left; (focus ((repeat (first | ((with_reducible refine Two.newAt _ _ _ _ ?_); first | (with_reducible rfl) | (simp only [World.size_alloc]; done) | (simp only [World.size_drew]; done) | (simp only [World.size_alloc, World.size_drew]; done)) | (with_reducible exact q1h.out) | (with_reducible exact q2h.out) | (with_reducible refine Two.alloc ?_ _) | (with_reducible refine Two.below ?_ (bel_drew _)))); done)); have q4h := Lib.hid q4; obtain ⟨q40, q41, q42, q43, q44⟩ := q4)); (try (refine (fun (q5 : Two w2.heap.size w3 (.int .i64 0) (.int .i64 0)) => ?_) (Two.below ?_ g2); rotate_left; (focus ((repeat (first | ((with_reducible refine Two.newAt _ _ _ _ ?_); first | (with_reducible rfl) | (simp only [World.size_alloc]; done) | (simp only [World.size_drew]; done) | (simp only [World.size_alloc, World.size_drew]; done)) | (with_reducible exact q1h.out) | (with_reducible exact q2h.out) | (with_reducible refine Two.alloc ?_ _) | (with_reducible refine Two.below ?_ (bel_drew _)))); done)); have q5h := Lib.hid q5; obtain ⟨q50, q51, q52, q53, q54⟩ := q5)); (try (refine (fun (q6 : Two (w2.heap.size + 1) w3 (.int .i64 0) (.int .i64 0)) => ?_) (Two.below ?_ g2); rotate_left; (focus ((repeat (first | ((with_reducible refine Two.newAt _ _ _ _ ?_); first | (with_reducible rfl) | (simp only [World.size_alloc]; done) | (simp only [World.size_drew]; done) | (simp only [World.size_alloc, World.size_drew]; done)) | (with_reducible exact q1h.out) | (with_reducible exact q2h.out) | (with_reducible refine Two.alloc ?_ _) | (with_reducible refine Two.below ?_ (bel_drew _)))); done)); have q6h := Lib.hid q6; obtain ⟨q60, q61, q62, q63, q64⟩ := q6))))
    all_goals go_wp2_with fail
    all_goals go_meet
    all_goals exact ⟨_, rfl, _, _, rfl, rfl, (show Two _ _ _ _ by ((repeat (first | ((with_reducible refine Two.newAt _ _ _ _ ?_); first | (with_reducible rfl) | (simp only [World.size_alloc]; done) | (simp only [World.size_drew]; done) | (simp only [World.size_alloc, World.size_drew]; done) | (simp [World.setCell]; done)) | (with_reducible refine Two.alloc ?_ _) | (with_reducible refine Two.below ?_ (bel_drew _)) | (with_reducible refine Two.both _ _ (x := .int .i64 0) (y := .int .i64 0) ?_) | (with_reducible refine Two.apart _ _ _ ?_ (by omega)) | (with_reducible refine Two.below ?_ g2) | (with_reducible refine Two.below ?_ g1))); done)), (show Two _ _ _ _ by ((repeat (first | ((with_reducible refine Two.newAt _ _ _ _ ?_); first | (with_reducible rfl) | (simp only [World.size_alloc]; done) | (simp only [World.size_drew]; done) | (simp only [World.size_alloc, World.size_drew]; done) | (simp [World.setCell]; done)) | (with_reducible refine Two.alloc ?_ _) | (with_reducible refine Two.below ?_ (bel_drew _)) | (with_reducible refine Two.both _ _ (x := .int .i64 0) (y := .int .i64 0) ?_) | (with_reducible refine Two.apart _ _ _ ?_ (by omega)) | (with_reducible refine Two.below ?_ g2) | (with_reducible refine Two.below ?_ g1))); done)), (show Below _ _ _ by ((repeat (first | (with_reducible exact Below.refl _ _) | (with_reducible exact bel_drew _) | (with_reducible refine bA ?_ _) | (with_reducible refine bS _ _ _ ?_ (by omega)) | (with_reducible refine bel_trans ?_ (bel_drew _)) | (with_reducible exact g1) | (with_reducible refine bel_trans ?_ g2) | (with_reducible refine bel_trans ?_ g1))); done))⟩
  case rest =>
    obtain ⟨wx, hwx, p, q, rfl, rfl, hP, hQ, hB⟩ := hcut
    subst hwx
    have TC2 := (TC.out.below hB.out)
    have TS2 := (TS.out.below hB.out)
    have T02 := Lib.hid (T0.out.below hB.out)
    have X1 := Lib.hid (X0.out.trans (hB.out.mono X0.out.size))
    clear c0 c1 s0 s1 clt slt hB1 TC TS T0 H1 H2 X0 hB
    obtain ⟨p0, p1, _, _, _⟩ := hP.out
    obtain ⟨q0, q1, _, _, _⟩ := hQ.out
    obtain ⟨c0, c1, _, _, _⟩ := TC2
    obtain ⟨s0, s1, _, _, _⟩ := TS2
    go_wp2
    go_quiet (fail)
    replace T02 : Two (w.heap.size + 1 + 1) (wx.drewN nq) (.int .i64 0) (.int .i64 0) := T02.out
    replace X1 := Lib.hid (bel_trans X1.out (bel_drewN _ nq))
    replace c0 : (wx.drewN nq).cell? ⟨w.heap.size, 0, none⟩ = some (.int .i64 r) := c0
    replace c1 : (wx.drewN nq).cell? ⟨w.heap.size, 1, none⟩ = some (.int .i64 c) := c1
    replace s0 : (wx.drewN nq).cell? ⟨w.heap.size + 1, 0, none⟩ = some (.int .i64 a) := s0
    replace s1 : (wx.drewN nq).cell? ⟨w.heap.size + 1, 1, none⟩ = some (.int .i64 b) := s1
    generalize wx.drewN nq = wq at *
    clear hP hQ p0 p1 q0 q1
    obtain ⟨z0, z1, f0, f1, hlt⟩ := T02
    rcases HC.out with ⟨d1, d2, rfl⟩ | ⟨d1, rfl⟩ | ⟨d1, d2, rfl⟩
    · clear HC
      go_wp2
      obtain ⟨t0, t1⟩ := two_read wq (w.heap.size + 1 + 1) (.int .i64 ((b - a) * min A0 B0)) (.int .i64 ((b - a) * (2 * r))) z0 z1
      refine bodyPost_ret (v := .agg #[.int .i64 ((b - a) * min A0 B0), .int .i64 ((b - a) * (2 * r))]) (by simp [results, Try.results29, go_sem, t0, t1]) rfl ?_
      exact ⟨rfl, bS _ _ _ (bS _ _ _ X1.out (by omega)) (by omega)⟩
    all_goals
      clear HC
      go_wp2
      obtain ⟨t0, t1⟩ := two_read wq (w.heap.size + 1 + 1) (.int .i64 ((b - a) * min A0 B0)) (.int .i64 ((b - a) * max A1 B1)) z0 z1
      refine bodyPost_ret (v := .agg #[.int .i64 ((b - a) * min A0 B0), .int .i64 ((b - a) * max A1 B1)]) (by simp [results, Try.results29, go_sem, t0, t1]) rfl ?_
      exact ⟨rfl, bS _ _ _ (bS _ _ _ X1.out (by omega)) (by omega)⟩
theorem cArea_any (r c a b : Int) (w : World) (r0 : 0 ≤ r) (r1 : r ≤ 100000) (c0 : 0 ≤ c) (c1 : c ≤ 100000) (a0 : 0 ≤ a) (ab : a ≤ b) (b1 : b ≤ 200000) :
    Calls Try.prog 29 #[.agg #[.int .i64 r, .int .i64 c], .agg #[.int .i64 a, .int .i64 b]] w fun e w' => e = .returned (.agg #[.int .i64 (ofL r c a b), .int .i64 (ofH r c a b)]) ∧ Below w.heap.size w w' := by
  have ha := hc_le r (a - c) r0
  have hb := hc_le r (b - c) r0
  have bd := of_bd r c a b r0 ab
  have q : (b - a) * (2 * r) ≤ 200000 * 200000 := Int.mul_le_mul (by omega) (by omega) (by omega) (by omega)
  refine cArea_core r c a b (2 * hcL r (a - c)) (2 * hcH r (a - c)) (2 * hcL r (b - c)) (2 * hcH r (b - c)) _ w r0 r1 a0 ab b1 (by omega) (by omega) (by omega) (by omega) (by omega) (by omega) (by omega) (by omega) ?_ bd.1 (by show ofL r c a b ≤ _; omega) (by show 0 ≤ ofH r c a b; omega) (by show ofH r c a b ≤ _; omega) (fun W => cChord_any r c a W r0 r1 c0 c1 a0 (by omega)) (fun W => cChord_any r c b W r0 r1 c0 c1 (by omega) b1)
  by_cases h : a ≤ c ∧ c ≤ b
  · left; exact ⟨h.1, h.2, if_pos h⟩
  · right
    rw [if_neg h]
    by_cases h2 : c < a
    · left; exact ⟨h2, rfl⟩
    · right; exact ⟨by omega, by omega, rfl⟩
end Go.Proofs.Ytlofblpfohnooaa
