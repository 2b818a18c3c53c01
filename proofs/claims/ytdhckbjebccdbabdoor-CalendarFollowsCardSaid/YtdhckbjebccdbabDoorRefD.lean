/- The reference of layer 4: number, Day, later, Later, Years. -/
import Derived.Test.YtdhckbjebccdbabDoorRefC
namespace Go.Proofs.YtdhckbjebccdbabDoor
open Go.RowKit
set_option linter.unusedSimpArgs false
attribute [local go_sem ↓] Go.wp_at_zero Go.wp_at_succ

theorem refNumber_any (y m d : Int) (w : World) (y0 : 1 ≤ y) (y1 : y ≤ 9999) (h1 : 1 ≤ m) (h2 : m ≤ 12) (d0 : -1000 ≤ d) (d1 : d ≤ 1000) :
    Calls Tryd.prog 33 #[.agg #[.int .i64 y, .int .i64 m, .int .i64 d]] w fun e w' => e = .returned (.int .i64 (num y m d)) ∧ Below w.heap.size w w' := by
  obtain ⟨s0, s1⟩ := st_bd y (by omega) (by omega)
  have HN : Hid (st y + d - 1 + cum y m = num y m d) := by show _ = _; unfold num; omega
  have HS := Lib.hid (fun W => refFirst_any y W (by omega) (by omega))
  have HC1 := Lib.hid (cum_one y)
  have HCB := Lib.hid (cum_bd y)
  generalize st y = s at *
  go_enter Tryd.func33, Tryd.ntmps33
  go_wp2
  go_quiet ((go_at_call 41; refine Calls.quiet_of_same ((HS.out _).mono fun _ _ h => ⟨h.1, h.2.symm⟩)))
  go_wp2
  generalize hW0 : World.drewN (w.alloc (.cells #[.int .i64 y, .int .i64 m, .int .i64 d] 23)) nq = W0
  have HB0 : Hid (Below w.heap.size w W0) := by rw [← hW0]; exact bel_alloc (bel_drewN _ _)
  have hz : w.heap.size < W0.heap.size := by rw [← hW0]; simp
  have c0 : Hid (W0.cell? ⟨w.heap.size, 0, none⟩ = some (.int .i64 y)) := by rw [← hW0]; show _ = _; simp [go_sem]
  have c1 : Hid (W0.cell? ⟨w.heap.size, 1, none⟩ = some (.int .i64 m)) := by rw [← hW0]; show _ = _; simp [go_sem]
  clear hW0
  go_loopw [3, 4] (fun a k wr => ∃ M : Int, 1 ≤ M ∧ M ≤ m ∧ k = .int .i64 M ∧ a = .int .i64 (s + d - 1 + cum y M) ∧ Hid (Below W0.heap.size W0 wr)) (fun _ k _ => (m - intOf k).toNat)
  case atStart => exact ⟨1, by omega, by omega, rfl, by rw [HC1.out]; go_num, Below.refl _ _⟩
  case round =>
    obtain ⟨M, a1, a2, rfl, rfl, hb⟩ := hrel
    have e0 := ((bcell hb.out).1 w.heap.size 0 hz).trans c0.out
    have e1 := ((bcell hb.out).1 w.heap.size 1 hz).trans c1.out
    obtain ⟨l0, l1⟩ := ml_bd y M
    obtain ⟨b0, b1⟩ := HCB.out M a1 (by omega)
    by_cases hlt : M < m
    · have HC := Lib.hid (cum_succ y M a1 (by omega))
      have HL := Lib.hid (fun W => refLength_any y M W (by omega) (by omega) a1 (by omega))
      generalize ml y M = l at *
      have H4 : Hid (s + d - 1 + cum y M + l = s + d - 1 + cum y (M + 1)) := by
        show _ = _; rw [HC.out]; omega
      clear HC
      generalize cum y M = u at *
      go_wp2_with (go_at_call 32; refine (HL.out _).mono ?_; rintro e w2 ⟨rfl, h2⟩; replace hb := Lib.hid (bel_trans hb.out h2); clear h2)
      go_roundw
      case rel => exact ⟨M + 1, by omega, by omega, rfl, by rw [H4.out], hb⟩
      case measure => simp [intOf]; omega
    · obtain rfl : M = m := by omega
      rw [HN.out]
      go_wp2
      go_returns
      exact ⟨rfl, bel_trans HB0.out hb.out⟩

theorem okD_of (y m d : Int) (h : ¬ (y < 1900 ∨ 2200 < y ∨ m < 1 ∨ 12 < m ∨ d < 1)) (hl : d ≤ ml y m) : okD y m d = dayB (num y m d) := by
  rw [Bool.eq_iff_iff, okD_iff, dayB_iff]
  exact ⟨fun h => h.2, fun g => ⟨⟨by omega, by omega, by omega, by omega⟩, g⟩⟩
theorem okD_out (y m d : Int) (h : y < 1900 ∨ 2200 < y ∨ m < 1 ∨ 12 < m ∨ d < 1 ∨ ml y m < d) : okD y m d = false := by
  rw [Bool.eq_false_iff]; intro hk
  obtain ⟨⟨a, b, c, e⟩, f, g⟩ := (okD_iff y m d).1 hk
  have hy : ¬ y < 1900 := fun hy => by have := num_neg y m d ⟨a, b, c, e⟩ hy; omega
  have hy2 : ¬ 2174 ≤ y := fun hy => by have := num_big y m d ⟨a, b, c, e⟩ hy; omega
  omega

theorem refDay_out (y m d : Int) (w : World) (h : y < 1900 ∨ 2200 < y ∨ m < 1 ∨ 12 < m ∨ d < 1) :
    Calls Tryd.prog 14 #[.agg #[.int .i64 y, .int .i64 m, .int .i64 d]] w fun e w' => e = .returned (.tuple #[.int .i64 0, .int .i64 1]) ∧ Below w.heap.size w w' := by
  by_cases a0 : y < 1900
  · have e0 : decide (y < 1900) = true := decide_eq_true a0
    clear h
    go_enter Tryd.func14, Tryd.ntmps14
    go_wp2_with fail
    go_quiet (fail)
    go_wp2
    go_returns
    exact ⟨rfl, bel_alloc (bel_drewN _ _)⟩
  have e0 : decide (y < 1900) = false := decide_eq_false a0
  by_cases a1 : 2200 < y
  · have e1 : decide (2200 < y) = true := decide_eq_true a1
    clear h
    go_enter Tryd.func14, Tryd.ntmps14
    go_wp2_with fail
    go_quiet (fail)
    go_wp2
    go_returns
    exact ⟨rfl, bel_alloc (bel_drewN _ _)⟩
  have e1 : decide (2200 < y) = false := decide_eq_false a1
  by_cases a2 : m < 1
  · have e2 : decide (m < 1) = true := decide_eq_true a2
    clear h
    go_enter Tryd.func14, Tryd.ntmps14
    go_wp2_with fail
    go_quiet (fail)
    go_wp2
    go_returns
    exact ⟨rfl, bel_alloc (bel_drewN _ _)⟩
  have e2 : decide (m < 1) = false := decide_eq_false a2
  by_cases a3 : 12 < m
  · have e3 : decide (12 < m) = true := decide_eq_true a3
    clear h
    go_enter Tryd.func14, Tryd.ntmps14
    go_wp2_with fail
    go_quiet (fail)
    go_wp2
    go_returns
    exact ⟨rfl, bel_alloc (bel_drewN _ _)⟩
  have e3 : decide (12 < m) = false := decide_eq_false a3
  have a4 : d < 1 := by omega
  have e4 : decide (d < 1) = true := decide_eq_true a4
  clear h
  go_enter Tryd.func14, Tryd.ntmps14
  go_wp2_with fail
  go_quiet (fail)
  go_wp2
  go_returns
  exact ⟨rfl, bel_alloc (bel_drewN _ _)⟩

/-- an operation that is not wanted, and whose slot is empty, is passed over -/
theorem wpAnyH_skip {P : Program} {ops : Array Oper} {Q : Exit → Act → World → Prop} {md : Region.Mode} {S : World → Prop} (i : Nat) {oi : Oper} {fuel : Nat} {listed : Array Bool} {a : Act} {w : World} (hi : ops[i]? = some oi)
    (hs : Region.noSelect ops = true) (hf : Region.free md ops listed i = true) (hr : (Region.ready md ops listed).contains i = true)
    (hQ : ∀ c a w, Q (.panic c) (a.put oi.dst undef) w → Q (.panic c) a w) (hw : Region.wanted oi (yielded ops a.tmps) = false) (hp : a.put oi.dst undef = a) (hS : S w)
    (h : wpAnyH P md ops Q S fuel (listed.setIfInBounds i true) a w) : wpAnyH P md ops Q S (fuel + 1) listed a w :=
  wpAnyH_take hi hs hf hr hQ (Or.inr ⟨hw, rfl⟩) hS (by rw [hp]; exact h)

/-- the block in which a parameter of the kind Date lies -/
def Box (w W : World) (y m d : Int) : Prop := W.cell? ⟨w.heap.size, 0, none⟩ = some (.int .i64 y) ∧ W.cell? ⟨w.heap.size, 1, none⟩ = some (.int .i64 m) ∧ W.cell? ⟨w.heap.size, 2, none⟩ = some (.int .i64 d) ∧ Below w.heap.size w W
theorem box_new (w : World) (y m d : Int) : Box w (w.alloc (.cells #[.int .i64 y, .int .i64 m, .int .i64 d] 23)).drew y m d :=
  ⟨by simp [go_sem], by simp [go_sem], by simp [go_sem], bel_alloc (bel_drew _)⟩
theorem Box.below {w W W' : World} {y m d : Int} (h : Box w W y m d) (hb : Below W.heap.size W W') : Box w W' y m d := by
  have hz := World.block_lt_of_cell? W ⟨w.heap.size, 0, none⟩ h.1
  exact ⟨((bcell hb).1 _ _ hz).trans h.1, ((bcell hb).1 _ _ hz).trans h.2.1, ((bcell hb).1 _ _ hz).trans h.2.2.1, bel_trans h.2.2.2 hb⟩

set_option maxHeartbeats 2000000 in
theorem refDay_len (y m d : Int) (w : World) (h : ¬ (y < 1900 ∨ 2200 < y ∨ m < 1 ∨ 12 < m ∨ d < 1)) (hd : d ≤ 9223372036854775807) (hl : decide (ml y m < d) = true) :
    Calls Tryd.prog 14 #[.agg #[.int .i64 y, .int .i64 m, .int .i64 d]] w fun e w' => e = .returned (.tuple #[.int .i64 0, .int .i64 1]) ∧ Below w.heap.size w w' := by
  have hm := ml_bd y m
  obtain ⟨l0, l1⟩ := hm
  have HL : Hid (∀ W, Box w W y m d → Calls Tryd.prog 32 #[.int .i64 y, .int .i64 m] W fun e w' => e = .returned (.int .i64 (ml y m)) ∧ Box w w' y m d) :=
    fun W h => (refLength_any y m W (by omega) (by omega) (by omega) (by omega)).mono fun _ _ g => ⟨g.1, h.below g.2⟩
  have HX := Lib.hid (box_new w y m d)
  have e0 : decide (y < 1900) = false := decide_eq_false (by omega)
  have e1 : decide (2200 < y) = false := decide_eq_false (by omega)
  have e2 : decide (m < 1) = false := decide_eq_false (by omega)
  have e3 : decide (12 < m) = false := decide_eq_false (by omega)
  have e4 : decide (d < 1) = false := decide_eq_false (by omega)
  have h1 : 1 ≤ m := by omega
  have h2 : m ≤ 12 := by omega
  clear h
  generalize ml y m = l at *
  go_enter Tryd.func14, Tryd.ntmps14
  go_wp2_with fail
  first | (go_region_with (first | (go_at_call 32; (first | refine (HL.out _ HX.out).mono ?_ | skip); rintro e w2 ⟨rfl, c0, c1, c2, hb⟩))) | fail
  all_goals
    have HB2 := Lib.hid hb
    clear hb
    go_wp2
    go_returns
    exact ⟨rfl, HB2.out⟩

set_option maxHeartbeats 2000000 in
theorem refDay_far (y m d : Int) (w : World) (h : ¬ (y < 1900 ∨ 2200 < y ∨ m < 1 ∨ 12 < m ∨ d < 1)) (hd : d ≤ 9223372036854775807) (hl : decide (ml y m < d) = false) (hb : dayB (num y m d) = false) :
    Calls Tryd.prog 14 #[.agg #[.int .i64 y, .int .i64 m, .int .i64 d]] w fun e w' => e = .returned (.tuple #[.int .i64 0, .int .i64 1]) ∧ Below w.heap.size w w' := by
  have hm := ml_bd y m
  obtain ⟨l0, l1⟩ := hm
  have HL : Hid (∀ W, Box w W y m d → Calls Tryd.prog 32 #[.int .i64 y, .int .i64 m] W fun e w' => e = .returned (.int .i64 (ml y m)) ∧ Box w w' y m d) :=
    fun W h => (refLength_any y m W (by omega) (by omega) (by omega) (by omega)).mono fun _ _ g => ⟨g.1, h.below g.2⟩
  have HX := Lib.hid (box_new w y m d)
  have e0 : decide (y < 1900) = false := decide_eq_false (by omega)
  have e1 : decide (2200 < y) = false := decide_eq_false (by omega)
  have e2 : decide (m < 1) = false := decide_eq_false (by omega)
  have e3 : decide (12 < m) = false := decide_eq_false (by omega)
  have e4 : decide (d < 1) = false := decide_eq_false (by omega)
  have h1 : 1 ≤ m := by omega
  have h2 : m ≤ 12 := by omega
  have h31 : d ≤ 31 := by have := of_decide_eq_false hl; omega
  have HM2 : Hid (∀ W, Box w W y m d → Calls Tryd.prog 33 #[.agg #[.int .i64 y, .int .i64 m, .int .i64 d]] W fun e w' => e = .returned (.int .i64 (num y m d)) ∧ Box w w' y m d) :=
    fun W h => (refNumber_any y m d W (by omega) (by omega) (by omega) (by omega) (by omega) (by omega)).mono fun _ _ g => ⟨g.1, h.below g.2⟩
  have HB2 := Lib.hid hb
  clear h hb
  generalize ml y m = l at *
  generalize num y m d = n at *
  go_enter Tryd.func14, Tryd.ntmps14
  go_wp2_with fail
  go_region_held3 (fun w' => w'.cell? ⟨w.heap.size, 0, none⟩ = some (.int .i64 y) ∧ w'.cell? ⟨w.heap.size, 1, none⟩ = some (.int .i64 m) ∧ w'.cell? ⟨w.heap.size, 2, none⟩ = some (.int .i64 d)) (go_keep)
    (first | (go_at_call 32; refine (HL.out _ HX.out).mono ?_; rintro e w2 ⟨rfl, c0, c1, c2, hb⟩) | (go_at_call 33; refine (HM2.out _ ⟨c0, c1, c2, hb⟩).mono ?_; rintro e w3 ⟨rfl, k0, k1, k2, hb3⟩) | (go_at_call 30; refine (refIsDay_any _ _).mono ?_; rw [HB2.out]; rintro e w' ⟨rfl, hw⟩; subst hw))
  have HB3 := Lib.hid hb3
  clear hb3
  go_wp2
  go_returns
  exact ⟨rfl, HB3.out⟩

set_option maxHeartbeats 2000000 in
theorem refDay_yes (y m d : Int) (w : World) (h : ¬ (y < 1900 ∨ 2200 < y ∨ m < 1 ∨ 12 < m ∨ d < 1)) (hd : d ≤ 9223372036854775807) (hl : decide (ml y m < d) = false) (hb : dayB (num y m d) = true) :
    Calls Tryd.prog 14 #[.agg #[.int .i64 y, .int .i64 m, .int .i64 d]] w fun e w' => e = .returned (.tuple #[.int .i64 (num y m d), .int .i64 0]) ∧ Below w.heap.size w w' := by
  have hm := ml_bd y m
  obtain ⟨l0, l1⟩ := hm
  have HL : Hid (∀ W, Box w W y m d → Calls Tryd.prog 32 #[.int .i64 y, .int .i64 m] W fun e w' => e = .returned (.int .i64 (ml y m)) ∧ Box w w' y m d) :=
    fun W h => (refLength_any y m W (by omega) (by omega) (by omega) (by omega)).mono fun _ _ g => ⟨g.1, h.below g.2⟩
  have HX := Lib.hid (box_new w y m d)
  have e0 : decide (y < 1900) = false := decide_eq_false (by omega)
  have e1 : decide (2200 < y) = false := decide_eq_false (by omega)
  have e2 : decide (m < 1) = false := decide_eq_false (by omega)
  have e3 : decide (12 < m) = false := decide_eq_false (by omega)
  have e4 : decide (d < 1) = false := decide_eq_false (by omega)
  have h1 : 1 ≤ m := by omega
  have h2 : m ≤ 12 := by omega
  have h31 : d ≤ 31 := by have := of_decide_eq_false hl; omega
  have HM2 : Hid (∀ W, Box w W y m d → Calls Tryd.prog 33 #[.agg #[.int .i64 y, .int .i64 m, .int .i64 d]] W fun e w' => e = .returned (.int .i64 (num y m d)) ∧ Box w w' y m d) :=
    fun W h => (refNumber_any y m d W (by omega) (by omega) (by omega) (by omega) (by omega) (by omega)).mono fun _ _ g => ⟨g.1, h.below g.2⟩
  have HB2 := Lib.hid hb
  clear h hb
  generalize ml y m = l at *
  generalize num y m d = n at *
  go_enter Tryd.func14, Tryd.ntmps14
  go_wp2_with fail
  go_region_held3 (fun w' => w'.cell? ⟨w.heap.size, 0, none⟩ = some (.int .i64 y) ∧ w'.cell? ⟨w.heap.size, 1, none⟩ = some (.int .i64 m) ∧ w'.cell? ⟨w.heap.size, 2, none⟩ = some (.int .i64 d)) (go_keep)
    (first | (go_at_call 32; refine (HL.out _ HX.out).mono ?_; rintro e w2 ⟨rfl, c0, c1, c2, hb⟩) | (go_at_call 33; refine (HM2.out _ ⟨c0, c1, c2, hb⟩).mono ?_; rintro e w3 ⟨rfl, k0, k1, k2, hb3⟩) | (go_at_call 30; refine (refIsDay_any _ _).mono ?_; rw [HB2.out]; rintro e w' ⟨rfl, hw⟩; subst hw))
  have HB3 := Lib.hid hb3
  clear hb3
  go_wp2_with fail
  refine (HM2.out _ ⟨k0, k1, k2, HB3.out⟩).mono ?_
  rintro e w4 ⟨rfl, j0, j1, j2, hb4⟩
  have HB4 := Lib.hid hb4
  clear hb4
  go_wp2
  go_returns
  exact ⟨rfl, HB4.out⟩

theorem refDay_any (y m d : Int) (w : World) (hd : d ≤ 9223372036854775807) :
    Calls Tryd.prog 14 #[.agg #[.int .i64 y, .int .i64 m, .int .i64 d]] w fun e w' => e = .returned (.tuple #[.int .i64 (dayN y m d), .int .i64 (dayEr y m d)]) ∧ Below w.heap.size w w' := by
  unfold dayN dayEr
  by_cases h : y < 1900 ∨ 2200 < y ∨ m < 1 ∨ 12 < m ∨ d < 1
  · rw [okD_out y m d (by omega)]
    exact refDay_out y m d w h
  · cases hl : decide (ml y m < d) with
    | true =>
      rw [okD_out y m d (by have := of_decide_eq_true hl; omega)]
      exact refDay_len y m d w h hd hl
    | false =>
      rw [okD_of y m d h (by have := of_decide_eq_false hl; omega)]
      cases hb : dayB (num y m d) with
      | false => exact refDay_far y m d w h hd hl hb
      | true => exact refDay_yes y m d w h hd hl hb
end Go.Proofs.YtdhckbjebccdbabDoor
