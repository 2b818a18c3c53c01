/- The statements about layer 5: the examples of the chapter hold. -/
import Derived.Test.YtigmpbipbkgnfaaDoorTD
import Derived.Test.YtigmpbipbkgnfaaDoorTE
import Derived.Laws.StructEq
namespace Go.Proofs.YtigmpbipbkgnfaaDoor
open Go.RowKit

def samB (a b x y : Int) : Bool := a == x && b == y
theorem samB_self (a b : Int) : samB a b a b = true := by simp [samB]
theorem run_same_bounds (a b x y : Int) (w : World) :
    (Op.equalIn 10000 29 (.agg #[.int .i64 a, .int .i64 b]) (.agg #[.int .i64 x, .int .i64 y])).run Tryd.prog w = .ok (samB a b x y) w := by
  rw [show (10000 : Nat) = 9999 + 1 from rfl, run_equalIn_agg w 9999 29 _ _ (by kernel_rfl) (by kernel_rfl)]
  have hf : (Tryd.prog.fieldsOf 29).toList.map (fun f => (f.name, f.type, f.offset)) = [("Low", 3, 0), ("High", 3, 1)] := by kernel_rfl
  generalize (Tryd.prog.fieldsOf 29).toList = fs at *
  obtain ⟨f, g, rfl⟩ : ∃ f g, fs = [f, g] := by
    have hl := congrArg List.length hf
    rw [List.length_map] at hl
    rcases fs with _ | ⟨f, _ | ⟨g, _ | ⟨h, fs⟩⟩⟩ <;> simp at hl
    exact ⟨f, g, rfl⟩
  simp only [List.map_cons, List.map_nil, List.cons.injEq, Prod.mk.injEq, and_true] at hf
  obtain ⟨⟨f1, f2, f3⟩, g1, g2, g3⟩ := hf
  have eq : ∀ (u v : Int) (W : World), (Op.equalIn 9999 3 (.int .i64 u) (.int .i64 v)).run Tryd.prog W = .ok (u == v) W := fun u v W => run_equalIn_int W 9998 3 .i64 .i64 u v Tryd.underlying3
  by_cases e1 : a = x <;> by_cases e2 : b = y <;> simp [Op.eqFields, f1, f2, f3, g1, g2, g3, go_sem, samB, eq, e1, e2]
theorem run_eql_bounds (a b x y : Int) (w : World) :
    (binOp .eql 29 (.agg #[.int .i64 a, .int .i64 b]) (.agg #[.int .i64 x, .int .i64 y])).run Tryd.prog w = .ok (.bool (samB a b x y)) w := by
  rw [run_eql_struct, run_same_bounds]; rfl
theorem same_bounds (a b : Int) (w : World) :
    (binOp .eql 29 (.agg #[.int .i64 a, .int .i64 b]) (.agg #[.int .i64 a, .int .i64 b])).run Tryd.prog w = .ok (.bool true) w := by
  rw [run_eql_bounds, samB_self]

/-- a row that is written out -/
theorem nums_lit (w : World) (zs : List Int) (vs : List Value) (hv : vs = zs.map (Value.int .i64)) (hl : zs.length ≤ 1000) :
    Nums (w.alloc (.cells vs.toArray 3)) (.slice (some ⟨w.heap.size, 0, none⟩) zs.length zs.length) zs := by
  refine ⟨_, _, rfl, by omega, .inr ⟨w.heap.size, 0, rfl, by simp, fun j hj => ?_⟩⟩
  subst hv
  rw [World.cell?_alloc_new]
  simp [List.getD, List.getElem?_eq_getElem hj]

set_option maxRecDepth 100000 in
set_option maxHeartbeats 2000000 in
theorem awake_any (w : World) (hw : WordsIs w) : Calls Tryd.prog 9 #[] w fun e w' => e = .returned (.bool true) ∧ Below w.heap.size w w' := by
  have HT : Hid (∀ W, Below w.heap.size w W → _) := fun W h => thTo_any 1000 110 300 1 W (hw.below h)
  have HF := Lib.hid (fun W => thFactor_any 110 100 W)
  have HM : Hid (∀ v W, Below w.heap.size w W → Nums W v [200, 205, 205] → _) := fun v W h hv => thMean_any v [200, 205, 205] 3 W (hw.below h) hv
  have HN : Hid (∀ v W, Below w.heap.size w W → Nums W v [200, 205, 205] → _) := fun v W h hv => thMean_any v [200, 205, 205] 2 W (hw.below h) hv
  have HBt : Hid (∀ W, Below w.heap.size w W → _) := fun W h => thBetween_any 1000 1000 200 300 110 W (hw.below h)
  have HAt : Hid (∀ W, Below w.heap.size w W → _) := fun W h => thAt_any 1000 110 300 1 W (hw.below h)
  rw [show toQ 1000 110 300 1 = 998 by decide, show toE 1000 110 300 1 = 0 by decide] at HT
  rw [show faQ 110 100 = 9989000 by decide, show faE 110 100 = 0 by decide] at HF
  rw [show meQ [200, 205, 205] 3 = 203 by decide, show meE [200, 205, 205] 3 = 0 by decide] at HM
  rw [show meQ [200, 205, 205] 2 = 204 by decide, show meE [200, 205, 205] 2 = 0 by decide] at HN
  rw [show btL 1000 1000 200 300 110 = 998 by decide, show btH 1000 1000 200 300 110 = 1000 by decide, show btE 1000 1000 200 300 110 = 0 by decide] at HBt
  rw [show atQ 1000 110 300 1 = 1001 by decide, show atE 1000 110 300 1 = 0 by decide] at HAt
  have Q1 := fun W => same_bounds 998 1000 W
  clear hw
  have HB := Lib.hid (Below.refl w.heap.size w)
  go_enter Tryd.func9, Tryd.ntmps9
  go_wp2_with fail
  refine (HT.out _ HB.out).mono ?_
  rintro e w2 ⟨rfl, h1⟩
  replace HB := Lib.hid (bel_trans HB.out h1); clear h1
  go_wp2_with fail
  refine (HF.out _).mono ?_
  rintro e w3 ⟨rfl, rfl⟩
  go_wp2_with fail
  refine (HM.out _ _ (bel_trans HB.out (bel_alloc (Below.refl _ _))) (nums_lit _ [200, 205, 205] _ rfl (by decide))).mono ?_
  rintro e w21 ⟨rfl, h1⟩
  replace HB := Lib.hid (bel_trans HB.out (bel_alloc h1)); clear h1
  go_wp2_with fail
  refine (HN.out _ _ (bel_trans HB.out (bel_alloc (Below.refl _ _))) (nums_lit _ [200, 205, 205] _ rfl (by decide))).mono ?_
  rintro e w22 ⟨rfl, h1⟩
  replace HB := Lib.hid (bel_trans HB.out (bel_alloc h1)); clear h1
  go_wp2_with fail
  refine (HBt.out _ HB.out).mono ?_
  rintro e w4 ⟨rfl, h1⟩
  replace HB := Lib.hid ((bel_trans HB.out h1).alloc (bel_trans HB.out h1).size (.cells #[.int .i64 998, .int .i64 1000] 29)); clear h1
  have T1 := Lib.hid (Two.new w4 (.int .i64 998) (.int .i64 1000) 29)
  go_wp2_with fail
  refine (HAt.out _ HB.out).mono ?_
  rintro e w5 ⟨rfl, h1⟩
  replace T1 := Lib.hid (T1.out.below h1)
  replace HB := Lib.hid (bel_trans HB.out h1); clear h1
  obtain ⟨T10, T11, _, _, _⟩ := T1.out
  go_wp2
  go_returns
  exact ⟨rfl, HB.out⟩
end Go.Proofs.YtigmpbipbkgnfaaDoor

