/- Package root: what its functions return. -/
import Derived.Test.YtigmpbipbkgnfabRT
import Derived.BigQuiet
import Derived.Deep.RegionWith
namespace Go.Proofs.Ytigmpbipbkgnfab
open Go.RowKit

def samB (a b x y : Int) : Bool := a == x && b == y
theorem run_same_bounds (a b x y : Int) (w : World) :
    (Op.equalIn 10000 30 (.agg #[.int .i64 a, .int .i64 b]) (.agg #[.int .i64 x, .int .i64 y])).run Try.prog w = .ok (samB a b x y) w := by
  rw [show (10000 : Nat) = 9999 + 1 from rfl, run_equalIn_agg w 9999 30 _ _ (by kernel_rfl) (by kernel_rfl)]
  have hf : (Try.prog.fieldsOf 30).toList.map (fun f => (f.name, f.type, f.offset)) = [("Low", 3, 0), ("High", 3, 1)] := by kernel_rfl
  generalize (Try.prog.fieldsOf 30).toList = fs at *
  obtain ⟨f, g, rfl⟩ : ∃ f g, fs = [f, g] := by
    have hl := congrArg List.length hf
    rw [List.length_map] at hl
    rcases fs with _ | ⟨f, _ | ⟨g, _ | ⟨h, fs⟩⟩⟩ <;> simp at hl
    exact ⟨f, g, rfl⟩
  simp only [List.map_cons, List.map_nil, List.cons.injEq, Prod.mk.injEq, and_true] at hf
  obtain ⟨⟨f1, f2, f3⟩, g1, g2, g3⟩ := hf
  have eq : ∀ (u v : Int) (W : World), (Op.equalIn 9999 3 (.int .i64 u) (.int .i64 v)).run Try.prog W = .ok (u == v) W := fun u v W => run_equalIn_int W 9998 3 .i64 .i64 u v Try.underlying3
  by_cases e1 : a = x <;> by_cases e2 : b = y <;> simp [Op.eqFields, f1, f2, f3, g1, g2, g3, go_sem, samB, eq, e1, e2]
theorem run_neq_bounds (a b x y : Int) (w : World) :
    (binOp .neq 30 (.agg #[.int .i64 a, .int .i64 b]) (.agg #[.int .i64 x, .int .i64 y])).run Try.prog w = .ok (.bool (!samB a b x y)) w := by
  rw [run_neq_struct, run_same_bounds]; rfl
theorem run_eql_bounds (a b x y : Int) (w : World) :
    (binOp .eql 30 (.agg #[.int .i64 a, .int .i64 b]) (.agg #[.int .i64 x, .int .i64 y])).run Try.prog w = .ok (.bool (samB a b x y)) w := by
  rw [run_eql_struct, run_same_bounds]; rfl

/-- what is not in range of roots -/
theorem rn_not {n : Int} (h : rnB n = false) : n < 0 ∨ (0 ≤ n ∧ 1125899906842624 < n) := by
  have : ¬ (0 ≤ n ∧ n ≤ 1125899906842624) := fun hc => by rw [(rnB_iff n).2 hc] at h; cases h
  omega

theorem roots_any (n : Int) (w : World) :
    Calls Try.prog 22 #[.int .i64 n] w fun e w' => e = .returned (.tuple #[.agg #[.int .i64 (dnQ n), .int .i64 (upR n)], .int .i64 (rnE n)]) ∧ Below w.heap.size w w' := by
  have T0 := Lib.hid (Two.new w (.int .i64 0) (.int .i64 0) 30)
  cases h : rnB n with
  | true =>
    obtain ⟨h0, h1⟩ := (rnB_iff n).1 h
    have HB := Lib.hid (fun W => between_any n W h0 (by omega))
    have e1 : dnQ n = rt n := by unfold dnQ; rw [if_pos h]
    have e2 : upR n = ce n := by unfold upR; rw [if_pos h]
    have e3 : rnE n = 0 := by unfold rnE; rw [if_pos h]
    rw [e1, e2, e3]
    generalize rt n = F at *
    generalize ce n = C at *
    clear e1 e2 e3 h
    go_enter Try.func22, Try.ntmps22
    go_wp2_with fail
    refine (HB.out _).mono ?_
    rintro e w1 ⟨rfl, gg⟩
    replace T0 := Lib.hid (T0.out.below gg)
    have X1 := Lib.hid (bel_alloc gg); clear gg
    obtain ⟨r0, r1, f0, f1, hlt⟩ := T0.out
    go_wp2
    obtain ⟨t0, t1⟩ := two_read _ w.heap.size (.int .i64 F) (.int .i64 C) r0 r1
    refine bodyPost_ret (v := .tuple #[.agg #[.int .i64 F, .int .i64 C], .int .i64 0]) (by simp [results, Try.results22, go_sem, t0, t1]) rfl ?_
    exact ⟨rfl, (X1.out.setCell (Nat.le_refl _) _).setCell (Nat.le_refl _) _⟩
  | false =>
    have hn := rn_not h
    have e1 : dnQ n = 0 := by unfold dnQ; rw [if_neg (by rw [h]; simp)]
    have e2 : upR n = 0 := by unfold upR; rw [if_neg (by rw [h]; simp)]
    have e3 : rnE n = 2 := by unfold rnE; rw [if_neg (by rw [h]; simp)]
    rw [e1, e2, e3]
    clear e1 e2 e3 h
    rcases hn with hn | ⟨hn, hn2⟩
    all_goals
      go_enter Try.func22, Try.ntmps22
      go_wp2
      refine bodyPost_ret (v := .tuple #[.agg #[.int .i64 0, .int .i64 0], .int .i64 2]) (by simp [results, Try.results22, go_sem]) rfl ?_
      exact ⟨rfl, bel_alloc (Below.refl _ _)⟩

theorem down_any (n : Int) (w : World) :
    Calls Try.prog 10 #[.int .i64 n] w fun e w' => e = .returned (.tuple #[.int .i64 (dnQ n), .int .i64 (rnE n)]) ∧ Below w.heap.size w w' := by
  have HR := Lib.hid (fun W => roots_any n W)
  generalize dnQ n = F at *
  generalize upR n = C at *
  generalize rnE n = E at *
  go_enter Try.func10, Try.ntmps10
  go_wp2_with fail
  refine (HR.out _).mono ?_
  rintro e w1 ⟨rfl, gg⟩
  have X1 := Lib.hid gg; clear gg
  go_wp2
  go_returns
  exact ⟨rfl, X1.out.alloc X1.out.size _⟩
theorem up_any (n : Int) (w : World) :
    Calls Try.prog 12 #[.int .i64 n] w fun e w' => e = .returned (.tuple #[.int .i64 (upR n), .int .i64 (rnE n)]) ∧ Below w.heap.size w w' := by
  have HR := Lib.hid (fun W => roots_any n W)
  generalize dnQ n = F at *
  generalize upR n = C at *
  generalize rnE n = E at *
  go_enter Try.func12, Try.ntmps12
  go_wp2_with fail
  refine (HR.out _).mono ?_
  rintro e w1 ⟨rfl, gg⟩
  have X1 := Lib.hid gg; clear gg
  go_wp2
  go_returns
  exact ⟨rfl, X1.out.alloc X1.out.size _⟩

set_option maxHeartbeats 2000000 in
theorem square_core (n F C E : Int) (B : Bool) (w : World)
    (HR : Hid (∀ W, Calls Try.prog 22 #[.int .i64 n] W fun e w' => e = .returned (.tuple #[.agg #[.int .i64 F, .int .i64 C], .int .i64 E]) ∧ Below W.heap.size W w'))
    (h : ((E == 0) = false ∧ B = false) ∨ ((E == 0) = true ∧ samB F C F F = B)) :
    Calls Try.prog 16 #[.int .i64 n] w fun e w' => e = .returned (.bool B) ∧ Below w.heap.size w w' := by
  rcases h with ⟨h, rfl⟩ | ⟨h, hs⟩
  · go_enter Try.func16, Try.ntmps16
    go_wp2_with fail
    refine (HR.out _).mono ?_
    rintro e w1 ⟨rfl, gg⟩
    have X1 := Lib.hid gg; clear gg
    go_wp2
    go_quiet (fail)
    go_wp2
    go_returns
    exact ⟨rfl, bel_trans (X1.out.alloc X1.out.size _) (bel_drewN _ _)⟩
  · have HE := Lib.hid (fun m W => exactly_any m W)
    have HQ : ∀ W, (binOp .eql 30 (.agg #[.int .i64 F, .int .i64 C]) (.agg #[.int .i64 F, .int .i64 F])).run Try.prog W = .ok (.bool B) W := fun W => by rw [run_eql_bounds, hs]
    clear hs
    go_enter Try.func16, Try.ntmps16
    go_wp2_with fail
    refine (HR.out _).mono ?_
    rintro e w1 ⟨rfl, gg⟩
    have T1 := Lib.hid (Two.new w1 (.int .i64 F) (.int .i64 C) 30)
    have X1 := Lib.hid gg; clear gg
    go_wp2
    first | (go_region_with (go_at_call 26; refine (HE.out F _).mono ?_; rintro e w2 ⟨rfl, gg⟩; have q0 : w2.cell? ⟨w1.heap.size, 0, none⟩ = some (.int .i64 F) := by { rw [gg.cell (by simp)]; simp [go_sem] }; have q1 : w2.cell? ⟨w1.heap.size, 1, none⟩ = some (.int .i64 C) := by { rw [gg.cell (by simp)]; simp [go_sem] }; have X2 := Lib.hid gg; clear gg)) | fail
    all_goals go_wp2
    all_goals go_returns
    all_goals exact ⟨rfl, bel_trans (bel_trans (X1.out.alloc X1.out.size _) (bel_drew _)) X2.out⟩
theorem square_any (n : Int) (w : World) :
    Calls Try.prog 16 #[.int .i64 n] w fun e w' => e = .returned (.bool (sqB n)) ∧ Below w.heap.size w w' := by
  refine square_core n (dnQ n) (upR n) (rnE n) _ w (fun W => roots_any n W) ?_
  unfold dnQ upR rnE sqB
  cases h : rnB n with
  | false => exact .inl ⟨rfl, rfl⟩
  | true =>
    refine .inr ⟨rfl, ?_⟩
    rw [if_pos rfl, if_pos rfl]
    unfold samB
    rw [Bool.eq_iff_iff]
    simp
    omega
end Go.Proofs.Ytigmpbipbkgnfab
