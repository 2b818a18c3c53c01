/- The statements about layer 2: the examples of the chapter hold. -/
import Derived.Test.YtlpngfngdigchaaDoorTot
namespace Go.Proofs.YtlpngfngdigchaaDoor
open Go.RowKit

theorem ins_two (w : World) (x y : Int) : Ins (w.alloc (.cells #[.int .i64 x, .int .i64 y] 3)) (.slice (some ⟨w.heap.size, 0, none⟩) 2 2) [x, y] :=
  ins_lit w [x, y] [.int .i64 x, .int .i64 y] rfl (by simp)

theorem up_toList : (⟨#[117, 112]⟩ : ByteArray).toList = [117, 112] := by kernel_rfl

set_option maxRecDepth 100000 in
set_option maxHeartbeats 2000000 in
theorem awake_any (w : World) (hw : WordsIs w) : Calls Tryd.prog 10 #[] w fun e w' => e = .returned (.bool true) ∧ Below w.heap.size w w' := by
  have HW := Lib.hid hw; clear hw
  go_enter Tryd.func10, Tryd.ntmps10
  go_wp2_with fail
  refine (quotient_any (-7) 2 1 _).mono ?_
  rw [show quoQ (-7) 2 1 = -4 by decide, show quoR (-7) 2 1 = 1 by decide, show quoE (-7) 2 1 = 0 by decide]
  rintro e w1 ⟨rfl, h1⟩
  have HB := Lib.hid h1; clear h1
  go_wp2_with fail
  refine (quotient_any (-7) 2 3 _).mono ?_
  rw [show quoQ (-7) 2 3 = -3 by decide, show quoE (-7) 2 3 = 0 by decide]
  rintro e w2 ⟨rfl, h1⟩
  replace HB := Lib.hid (bel_trans HB.out h1); clear h1
  go_wp2_with fail
  refine (quotient_any (-7) 2 4 _).mono ?_
  rw [show quoQ (-7) 2 4 = -4 by decide, show quoE (-7) 2 4 = 0 by decide]
  rintro e w3 ⟨rfl, h1⟩
  replace HB := Lib.hid (bel_trans HB.out h1); clear h1
  go_wp2_with fail
  refine (product_any 2 5 4 4 _).mono ?_
  rw [show prodQ 2 5 4 4 = 2 by decide, show prodE 2 5 4 4 = 0 by decide]
  rintro e w4 ⟨rfl, h1⟩
  replace HB := Lib.hid (bel_trans HB.out h1); clear h1
  go_wp2_with fail
  refine (step_any 17 5 2 _).mono ?_
  rw [show quoQ 17 5 2 * 5 = 20 by decide, show quoE 17 5 2 = 0 by decide]
  rintro e w5 ⟨rfl, h1⟩
  replace HB := Lib.hid (bel_trans HB.out h1); clear h1
  go_wp2_with fail
  refine (total_any _ [7, 8] 5 1 _ (ins_two _ _ _)).mono ?_
  rw [show totS [7, 8] 5 1 = 2 by decide, show totX [7, 8] 5 1 = 5 by decide, show totE [7, 8] 5 1 = 0 by decide]
  rintro e w6 ⟨rfl, h1⟩
  replace HB := Lib.hid (bel_trans HB.out (bel_alloc h1)); clear h1
  go_wp2_with fail
  refine (word_any 4 _ (HW.out.below HB.out)).mono ?_
  rw [show wordOf 4 = [104, 97, 108, 102, 45, 101, 118, 101, 110] by decide]
  rintro e w7 ⟨rfl, h1⟩
  replace HB := Lib.hid (bel_trans HB.out h1); clear h1
  go_wp2_with fail
  refine (rule_any _ _ (HW.out.below HB.out)).mono ?_
  rw [up_toList, show ruleOf [117, 112] = 2 by decide]
  rintro e w8 ⟨rfl, h1⟩
  replace HB := Lib.hid (bel_trans HB.out h1); clear h1
  go_wp2
  go_ret
  exact ⟨rfl, HB.out⟩

end Go.Proofs.YtlpngfngdigchaaDoor
