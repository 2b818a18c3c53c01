/- Package calendar: Day. -/
import Derived.Test.YtdhckbjebccdbabDoorDate
import Derived.Laws.StructEq
namespace Go.Proofs.YtdhckbjebccdbabDoor
open Go.RowKit

/-- two dates are the same, as a test -/
def sameB (a b c x y z : Int) : Bool := a == x && b == y && c == z
theorem run_same_date (a b c x y z : Int) (w : World) :
    (Op.equalIn 10000 23 (.agg #[.int .i64 a, .int .i64 b, .int .i64 c]) (.agg #[.int .i64 x, .int .i64 y, .int .i64 z])).run Tryd.prog w = .ok (sameB a b c x y z) w := by
  rw [show (10000 : Nat) = 9999 + 1 from rfl, run_equalIn_agg w 9999 23 _ _ (by kernel_rfl) (by kernel_rfl)]
  have hf : (Tryd.prog.fieldsOf 23).toList.map (fun f => (f.name, f.type, f.offset)) = [("Year", 3, 0), ("Month", 3, 1), ("Day", 3, 2)] := by kernel_rfl
  generalize (Tryd.prog.fieldsOf 23).toList = fs at *
  obtain ⟨f, g, h, rfl⟩ : ∃ f g h, fs = [f, g, h] := by
    have hl := congrArg List.length hf
    rw [List.length_map] at hl
    rcases fs with _ | ⟨f, _ | ⟨g, _ | ⟨h, _ | ⟨i, fs⟩⟩⟩⟩ <;> simp at hl
    exact ⟨f, g, h, rfl⟩
  simp only [List.map_cons, List.map_nil, List.cons.injEq, Prod.mk.injEq, and_true] at hf
  obtain ⟨⟨f1, f2, f3⟩, ⟨g1, g2, g3⟩, h1, h2, h3⟩ := hf
  have eq : ∀ (u v : Int) (W : World), (Op.equalIn 9999 3 (.int .i64 u) (.int .i64 v)).run Tryd.prog W = .ok (u == v) W := fun u v W => run_equalIn_int W 9998 3 .i64 .i64 u v Tryd.underlying3
  by_cases e1 : a = x <;> by_cases e2 : b = y <;> by_cases e3 : c = z <;> simp [Op.eqFields, f1, f2, f3, g1, g2, g3, h1, h2, h3, go_sem, sameB, eq, e1, e2, e3]
theorem run_neq_date (a b c x y z : Int) (w : World) :
    (binOp .neq 23 (.agg #[.int .i64 a, .int .i64 b, .int .i64 c]) (.agg #[.int .i64 x, .int .i64 y, .int .i64 z])).run Tryd.prog w = .ok (.bool (!sameB a b c x y z)) w := by
  rw [run_neq_struct, run_same_date]; rfl
theorem run_eql_date (a b c x y z : Int) (w : World) :
    (binOp .eql 23 (.agg #[.int .i64 a, .int .i64 b, .int .i64 c]) (.agg #[.int .i64 x, .int .i64 y, .int .i64 z])).run Tryd.prog w = .ok (.bool (sameB a b c x y z)) w := by
  rw [run_eql_struct, run_same_date]; rfl

def okD (y m d : Int) : Bool := decide (1 ≤ m) && decide (m ≤ 12) && decide (1 ≤ d) && decide (d ≤ ml y m) && decide (0 ≤ num y m d) && decide (num y m d ≤ 100000)
theorem okD_iff (y m d : Int) : okD y m d = true ↔ VD y m d ∧ 0 ≤ num y m d ∧ num y m d ≤ 100000 := by
  simp [okD, VD, and_assoc]
def dayN (y m d : Int) : Int := if okD y m d = true then num y m d else 0
def dayEr (y m d : Int) : Int := if okD y m d = true then 0 else 1

theorem day_month (y m d : Int) (w : World) (h : m < 1 ∨ 12 < m) :
    Calls Tryd.prog 13 #[.agg #[.int .i64 y, .int .i64 m, .int .i64 d]] w fun e w' => e = .returned (.tuple #[.int .i64 0, .int .i64 1]) ∧ Below w.heap.size w w' := by
  rcases h with h | h
  · go_enter Tryd.func13, Tryd.ntmps13
    go_wp2
    go_returns
    exact ⟨rfl, bel_alloc (Below.refl _ _)⟩
  · go_enter Tryd.func13, Tryd.ntmps13
    go_wp2
    go_returns
    exact ⟨rfl, bel_alloc (Below.refl _ _)⟩

set_option maxHeartbeats 1000000 in
theorem day_core (y m d X N E : Int) (S : Bool) (w : World) (hw : LaidC w) (hb : -9223372036854775808 ≤ y ∧ y ≤ 9223372036854775807) (hd : -9223372036854775808 ≤ d ∧ d ≤ 9223372036854775807) (h1 : 1 ≤ m) (h2 : m ≤ 12)
    (hX : wrap64 (stW y + d - 1 + cum y m) = X) (hS : sameB (dY X) (dM X) (dD X) y m d = S) (hE : (dE X = 0 ∧ S = true ∧ N = X ∧ E = 0) ∨ (dE X = 0 ∧ S = false ∧ N = 0 ∧ E = 1) ∨ (dE X = 2 ∧ N = 0 ∧ E = 1)) :
    Calls Tryd.prog 13 #[.agg #[.int .i64 y, .int .i64 m, .int .i64 d]] w fun e w' => e = .returned (.tuple #[.int .i64 N, .int .i64 E]) ∧ Below w.heap.size w w' := by
  have HX := Lib.hid hX
  have HE := Lib.hid hE
  have HW := Lib.hid hw
  have HQ := Lib.hid (fun W => run_neq_date (dY X) (dM X) (dD X) y m d W)
  rw [hS] at HQ
  obtain ⟨b0, b1⟩ := hb
  obtain ⟨s0, s1⟩ := stW_bd y
  obtain ⟨d0, d1⟩ := hd
  clear hX hE hw hS
  have HS := Lib.hid (fun W => start_all y W b0 b1)
  generalize stW y = s at *
  go_enter Tryd.func13, Tryd.ntmps13
  go_wp2
  go_quiet ((go_at_call 28; refine Calls.quiet_of_same ((HS.out _).mono fun _ _ h => ⟨h.1, h.2.symm⟩)))
  go_wp2
  go_loop [4, 5] (fun a k => ∃ M : Int, 1 ≤ M ∧ M ≤ m ∧ k = .int .i64 M ∧ a = .int .i64 (wrap64 (s + d - 1 + cum y M))) (fun _ k => (m - intOf k).toNat)
  case atStart => exact ⟨1, by omega, by omega, rfl, by rw [cum_one]; unfold wrap64; congr 1; omega⟩
  case round =>
    obtain ⟨M, a1, a2, rfl, rfl⟩ := hrel
    by_cases hlt : M < m
    · have HC := Lib.hid (cum_succ y M a1 (by omega))
      have HL := Lib.hid (fun W h => length_any y M W b0 b1 a1 (by omega) h)
      obtain ⟨l0, l1⟩ := ml_bd y M
      generalize ml y M = l at *
      have H4 : Hid (wrap64 (wrap64 (s + d - 1 + cum y M) + l) = wrap64 (s + d - 1 + cum y (M + 1))) := by
        show _ = _; rw [HC.out]; unfold wrap64; omega
      obtain ⟨c0, c1⟩ : -9223372036854775808 ≤ wrap64 (s + d - 1 + cum y M) ∧ wrap64 (s + d - 1 + cum y M) ≤ 9223372036854775807 := by unfold wrap64; omega
      generalize wrap64 (s + d - 1 + cum y M) = u at *
      go_wp2_with (go_at_call 29; refine (HL.out _ (HW.out.below (bel_trans (bel_alloc (Below.refl _ _)) (bel_drewN _ _)))).mono ?_; rintro e w' ⟨rfl, hw⟩; subst hw)
      go_round
      case rel => exact ⟨M + 1, by omega, by omega, rfl, by rw [H4.out]⟩
      case measure => simp [intOf]; omega
    · obtain rfl : M = m := by omega
      rw [HX.out]
      go_wp2_with fail
      refine (date_any X _ (HW.out.below (bel_trans (bel_alloc (Below.refl _ _)) (bel_drewN _ _)))).mono ?_
      rintro e w1 ⟨rfl, hb⟩
      obtain ⟨k1, k2⟩ := bcell hb
      have hz : w.heap.size + 1 ≤ w1.heap.size := by simpa using hb.size
      have c0 := k1 w.heap.size 0 (by simp)
      have c1 := k1 w.heap.size 1 (by simp)
      have c2 := k1 w.heap.size 2 (by simp)
      have f0 := k2 w.heap.size 0 (by simp)
      have f1 := k2 w.heap.size 1 (by simp)
      have f2 := k2 w.heap.size 2 (by simp)
      simp [go_sem] at c0 c1 c2
      have HB := Lib.hid (bel_trans (bel_alloc (bel_drewN _ _)) hb)
      have g0 : ∀ o, (w1.alloc o).cell? ⟨w.heap.size, 0, none⟩ = some (.int .i64 y) := fun o => by rw [World.cell?_alloc_lt w1 o _ (by show w.heap.size < _; omega), c0]
      have g1 : ∀ o, (w1.alloc o).cell? ⟨w.heap.size, 1, none⟩ = some (.int .i64 M) := fun o => by rw [World.cell?_alloc_lt w1 o _ (by show w.heap.size < _; omega), c1]
      have g2 : ∀ o, (w1.alloc o).cell? ⟨w.heap.size, 2, none⟩ = some (.int .i64 d) := fun o => by rw [World.cell?_alloc_lt w1 o _ (by show w.heap.size < _; omega), c2]
      clear hb k1 k2 c0 c1 c2 f0 f1 f2
      rcases HE.out with ⟨e1, e2, rfl, rfl⟩ | ⟨e1, e2, rfl, rfl⟩ | ⟨e1, rfl, rfl⟩
      · rw [e1]
        rw [e2] at HQ
        have hq := HQ.out
        clear HE e1 e2
        go_wp2
        go_returns
        exact ⟨rfl, bel_trans HB.out (bel_alloc (Below.refl _ _))⟩
      · rw [e1]
        rw [e2] at HQ
        have hq := HQ.out
        clear HE e1 e2
        go_wp2
        go_returns
        exact ⟨rfl, bel_trans HB.out (bel_alloc (Below.refl _ _))⟩
      · rw [e1]
        clear HE e1
        go_wp2
        go_returns
        exact ⟨rfl, bel_trans HB.out (bel_alloc (Below.refl _ _))⟩

theorem day_X (y m d X : Int) (h1 : 1 ≤ m) (h2 : m ≤ 12) (hX : wrap64 (stW y + d - 1 + cum y m) = X) :
    (dE X = 0 ∧ sameB (dY X) (dM X) (dD X) y m d = true ∧ dayN y m d = X ∧ dayEr y m d = 0) ∨ (dE X = 0 ∧ sameB (dY X) (dM X) (dD X) y m d = false ∧ dayN y m d = 0 ∧ dayEr y m d = 1) ∨ (dE X = 2 ∧ dayN y m d = 0 ∧ dayEr y m d = 1) := by
  have key : okD y m d = true → dayB X = true ∧ sameB (dY X) (dM X) (dD X) y m d = true ∧ num y m d = X := by
    intro h
    obtain ⟨hv, n0, n1⟩ := (okD_iff y m d).1 h
    have y0 : 1900 ≤ y := by
      apply Int.not_lt.1; intro hlt
      have := num_neg y m d hv hlt; omega
    have y1 : y ≤ 2173 := by
      apply Int.not_lt.1; intro hlt
      have := num_big y m d hv (by omega); omega
    have e : X = num y m d := by
      rw [← hX, stW_in y (by omega) (by omega), IntWalk.wrap64_in]
      · unfold num; omega
      · unfold num at *; omega
    subst e
    have hb : dayB (num y m d) = true := (dayB_iff _).2 ⟨n0, n1⟩
    obtain ⟨a, b, c⟩ := dt_of y m d hv n0
    refine ⟨hb, ?_, rfl⟩
    unfold sameB dY dM dD
    rw [hb, if_pos rfl, if_pos rfl, if_pos rfl, a, b, c]
    simp
  have key2 : dayB X = true → sameB (dY X) (dM X) (dD X) y m d = true → okD y m d = true := by
    intro hb hs
    obtain ⟨n0, n1⟩ := (dayB_iff X).1 hb
    obtain ⟨a, b⟩ := dt_spec X n0
    unfold sameB dY dM dD at hs
    rw [hb, if_pos rfl, if_pos rfl, if_pos rfl] at hs
    simp only [Bool.and_eq_true, beq_iff_eq] at hs
    obtain ⟨⟨rfl, rfl⟩, rfl⟩ := hs
    rw [okD_iff, b]
    exact ⟨a, n0, n1⟩
  unfold dayN dayEr dE
  cases hk : okD y m d with
  | true =>
    obtain ⟨a, b, c⟩ := key hk
    left
    rw [a, b]; simp [c]
  | false =>
    right
    cases hb : dayB X with
    | false => right; simp
    | true =>
      left
      have hs : sameB (dY X) (dM X) (dD X) y m d = false := by
        rw [Bool.eq_false_iff]; intro hs
        rw [key2 hb hs] at hk; cases hk
      simp [hs]

theorem day_any (y m d : Int) (w : World) (hw : LaidC w) (hb : -9223372036854775808 ≤ y ∧ y ≤ 9223372036854775807) (hd : -9223372036854775808 ≤ d ∧ d ≤ 9223372036854775807) :
    Calls Tryd.prog 13 #[.agg #[.int .i64 y, .int .i64 m, .int .i64 d]] w fun e w' => e = .returned (.tuple #[.int .i64 (dayN y m d), .int .i64 (dayEr y m d)]) ∧ Below w.heap.size w w' := by
  by_cases h : m < 1 ∨ 12 < m
  · have hk : okD y m d = false := by
      rw [Bool.eq_false_iff]; intro hk
      obtain ⟨⟨_, _, _⟩, _⟩ := (okD_iff y m d).1 hk
      omega
    rw [show dayN y m d = 0 by simp [dayN, hk], show dayEr y m d = 1 by simp [dayEr, hk]]
    exact day_month y m d w h
  · exact day_core y m d _ _ _ _ w hw hb hd (by omega) (by omega) rfl rfl (day_X y m d _ (by omega) (by omega) rfl)
end Go.Proofs.YtdhckbjebccdbabDoor
