/- Package unit: equal quantities, what Best returns, the examples of the chapter. -/
import Derived.Test.YtdhckbjebccdbaaDoorUSum
namespace Go.Proofs.YtdhckbjebccdbaaDoor
open Go.RowKit

def samQ (a b x y : Int) : Bool := a == x && b == y
theorem run_same_qty (a b x y : Int) (w : World) :
    (Op.equalIn 10000 23 (.agg #[.int .i64 a, .int .i64 b]) (.agg #[.int .i64 x, .int .i64 y])).run Tryd.prog w = .ok (samQ a b x y) w := by
  rw [show (10000 : Nat) = 9999 + 1 from rfl, run_equalIn_agg w 9999 23 _ _ (by kernel_rfl) (by kernel_rfl)]
  have hf : (Tryd.prog.fieldsOf 23).toList.map (fun f => (f.name, f.type, f.offset)) = [("Kind", 3, 0), ("Amount", 3, 1)] := by kernel_rfl
  generalize (Tryd.prog.fieldsOf 23).toList = fs at *
  obtain ⟨f, g, rfl⟩ : ∃ f g, fs = [f, g] := by
    have hl := congrArg List.length hf
    rw [List.length_map] at hl
    rcases fs with _ | ⟨f, _ | ⟨g, _ | ⟨h, fs⟩⟩⟩ <;> simp at hl
    exact ⟨f, g, rfl⟩
  simp only [List.map_cons, List.map_nil, List.cons.injEq, Prod.mk.injEq, and_true] at hf
  obtain ⟨⟨f1, f2, f3⟩, g1, g2, g3⟩ := hf
  have eq : ∀ (u v : Int) (W : World), (Op.equalIn 9999 3 (.int .i64 u) (.int .i64 v)).run Tryd.prog W = .ok (u == v) W := fun u v W => run_equalIn_int W 9998 3 .i64 .i64 u v Tryd.underlying3
  by_cases e1 : a = x <;> by_cases e2 : b = y <;> simp [Op.eqFields, f1, f2, f3, g1, g2, g3, go_sem, samQ, eq, e1, e2]
theorem run_neq_qty (a b x y : Int) (w : World) :
    (binOp .neq 23 (.agg #[.int .i64 a, .int .i64 b]) (.agg #[.int .i64 x, .int .i64 y])).run Tryd.prog w = .ok (.bool (!samQ a b x y)) w := by
  rw [run_neq_struct, run_same_qty]; rfl
theorem run_eql_qty (a b x y : Int) (w : World) :
    (binOp .eql 23 (.agg #[.int .i64 a, .int .i64 b]) (.agg #[.int .i64 x, .int .i64 y])).run Tryd.prog w = .ok (.bool (samQ a b x y)) w := by
  rw [run_eql_struct, run_same_qty]; rfl

/-- the best unit of a quantity -/
def bestB (k s : Int) (x : List UInt8 × Int × Int) : Bool := (x.2.1 == k) && unitTab.all fun y => !(y.2.1 == k) || y == x || betB x.2.2 y.2.2 s
def beU (k s : Int) : List UInt8 := ((unitTab.find? (bestB k s)).map (·.1)).getD []
theorem bestB_iff (k s : Int) (x : List UInt8 × Int × Int) (hx : x ∈ unitTab) : bestB k s x = true ↔ IsBest k s x := by
  unfold bestB IsBest
  rw [Bool.and_eq_true, List.all_eq_true]
  constructor
  · rintro ⟨h1, h2⟩
    refine ⟨hx, by simpa using h1, fun y hy hk => ?_⟩
    have := h2 y hy
    simp only [hk, beq_self_eq_true, Bool.not_true, Bool.false_or, Bool.or_eq_true, beq_iff_eq] at this
    exact this
  · rintro ⟨_, h1, h2⟩
    refine ⟨by simpa using h1, fun y hy => ?_⟩
    by_cases hk : y.2.1 = k
    · simp only [hk, beq_self_eq_true, Bool.not_true, Bool.false_or, Bool.or_eq_true, beq_iff_eq]
      exact h2 y hy hk
    · simp [hk]
theorem beU_of {k s : Int} {x : List UInt8 × Int × Int} (h : IsBest k s x) : beU k s = x.1 := by
  unfold beU
  cases hf : unitTab.find? (bestB k s) with
  | none =>
    rw [List.find?_eq_none] at hf
    exact absurd ((bestB_iff k s x h.1).2 h) (hf x h.1)
  | some y =>
    have h1 := List.find?_some hf
    have h2 := List.mem_of_find?_eq_some hf
    rw [best_one h ((bestB_iff k s y h2).1 h1)]
    rfl
def beE (k a : Int) : Int := if qE k a = 0 then 0 else 1
def beL (k a : Int) : List UInt8 := if qE k a = 0 then beU k (max a (-a)) else []
theorem best_any (k a : Int) (w : World) (hw : LaidU w) :
    Calls Tryd.prog 13 #[.agg #[.int .i64 k, .int .i64 a]] w fun e w' => e = .returned (.tuple #[str (beL k a), .int .i64 (beE k a)]) ∧ Below w.heap.size w w' := by
  have H := fun W (h : Below w.heap.size w W) => check_any k a W (hw.below h)
  unfold beL beE
  by_cases hq : qE k a = 0
  · rw [hq] at H
    have hk := qE_ok k a hq
    have ha := qE_bd k a hq
    refine (best_ok k a w hk.1 hk.2.1 ha.1 ha.2 H).mono ?_
    rintro e w' ⟨⟨x, hx, rfl⟩, hb⟩
    rw [if_pos hq, if_pos hq, beU_of hx]
    exact ⟨rfl, hb⟩
  · rw [if_neg hq, if_neg hq]
    exact best_bad k a _ w (by simpa using hq) H

theorem ex_print1 : prL 1 12345 [108] = [49, 50, 46, 51, 52, 53, 32, 108] ∧ prE 1 12345 [108] = 0 := by decide +kernel
theorem ex_print2 : prL 1 12345 [104, 108] = [48, 46, 49, 50, 51, 52, 53, 32, 104, 108] ∧ prE 1 12345 [104, 108] = 0 := by decide +kernel
theorem ex_best : beL 1 12345 = [108] ∧ beE 1 12345 = 0 := by decide
theorem ex_parse1 : psK [45, 50, 46, 53, 32, 67] = 5 ∧ psA [45, 50, 46, 53, 32, 67] = -25 ∧ psE [45, 50, 46, 53, 32, 67] = 0 := by decide
theorem ex_parse2 : psE [49, 46, 53, 48, 32, 108] = 3 := by decide
theorem ex_parse3 : psE [48, 46, 53, 32, 109, 108] = 2 := by decide
theorem ex_unit : uK [108, 112, 97] = 3 ∧ uF [108, 112, 97] = 10000000 ∧ uE [108, 112, 97] = 0 := by decide
theorem ex_sum : suE [(1, 12345), (1, 12345)] = 0 ∧ suA [(1, 12345), (1, 12345)] = 24690 := by decide
theorem ex_check : qE 1 12345 = 0 := by decide
end Go.Proofs.YtdhckbjebccdbaaDoor
