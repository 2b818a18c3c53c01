/- The statements about layer 3: the examples of the chapter hold. -/
import Derived.Test.YtdhckbjebccdbaaDoorUEx
namespace Go.Proofs.YtdhckbjebccdbaaDoor
open Go.RowKit

theorem qs_two (w : World) (a b c d : Int) (T : TypeId) : Qs (w.alloc (.cells #[.int .i64 a, .int .i64 b, .int .i64 c, .int .i64 d] T)) (.slice (some ⟨w.heap.size, 0, none⟩) 2 2) [(a, b), (c, d)] := by
  refine ⟨_, 2, rfl, by simp, .inr ⟨w.heap.size, 0, rfl, by simp, fun j hj => ?_⟩⟩
  have h : j = 0 ∨ j = 1 := by simp at hj; omega
  rcases h with rfl | rfl
  · exact ⟨by simp [go_sem], by simp [go_sem]⟩
  · exact ⟨by simp [go_sem], by simp [go_sem]⟩

set_option maxRecDepth 100000 in
set_option maxHeartbeats 4000000 in
theorem awake_any (w : World) (hw : LaidU w) : Calls Tryd.prog 10 #[] w fun e w' => e = .returned (.bool true) ∧ Below w.heap.size w w' := by
  have HW := Lib.hid hw; clear hw
  have HQ := fun W => run_eql_qty 5 (-25) 5 (-25) W
  rw [show samQ 5 (-25) 5 (-25) = true by decide] at HQ
  go_enter Tryd.func10, Tryd.ntmps10
  go_wp2_with fail
  have T1 := Lib.hid (Two.new w (.int .i64 1) (.int .i64 12345) 23)
  have X1 := Lib.hid (bel_alloc (Below.refl (w.alloc (.cells #[.int .i64 1, .int .i64 12345] 23)).heap.size (w.alloc (.cells #[.int .i64 1, .int .i64 12345] 23))))
  refine (print_any 1 12345 (⟨#[108]⟩ : ByteArray) _ (HW.out.below X1.out)).mono ?_
  rw [show prL 1 12345 (⟨#[108]⟩ : ByteArray).data.toList = _ from ex_print1.1, show prE 1 12345 (⟨#[108]⟩ : ByteArray).data.toList = _ from ex_print1.2]
  rintro e w1 ⟨rfl, gg⟩
  replace T1 := Lib.hid (T1.out.below gg)
  replace X1 := Lib.hid (bel_trans X1.out gg); clear gg
  obtain ⟨p0a, p0b, _, _, _⟩ := T1.out
  go_wp2_with fail
  clear p0a p0b
  refine (print_any 1 12345 (⟨#[104, 108]⟩ : ByteArray) _ (HW.out.below X1.out)).mono ?_
  rw [show prL 1 12345 (⟨#[104, 108]⟩ : ByteArray).data.toList = _ from ex_print2.1, show prE 1 12345 (⟨#[104, 108]⟩ : ByteArray).data.toList = _ from ex_print2.2]
  rintro e w2 ⟨rfl, gg⟩
  replace T1 := Lib.hid (T1.out.below gg)
  replace X1 := Lib.hid (bel_trans X1.out gg); clear gg
  obtain ⟨p0a, p0b, _, _, _⟩ := T1.out
  go_wp2_with fail
  clear p0a p0b
  refine (best_any 1 12345 _ (HW.out.below X1.out)).mono ?_
  rw [ex_best.1, ex_best.2]
  rintro e w3 ⟨rfl, gg⟩
  replace T1 := Lib.hid (T1.out.below gg)
  replace X1 := Lib.hid (bel_trans X1.out gg); clear gg
  go_wp2_with fail
  refine (parse_any (⟨#[45, 50, 46, 53, 32, 67]⟩ : ByteArray) _ (HW.out.below X1.out) (by decide)).mono ?_
  rw [show psK (⟨#[45, 50, 46, 53, 32, 67]⟩ : ByteArray).data.toList = _ from ex_parse1.1, show psA (⟨#[45, 50, 46, 53, 32, 67]⟩ : ByteArray).data.toList = _ from ex_parse1.2.1, show psE (⟨#[45, 50, 46, 53, 32, 67]⟩ : ByteArray).data.toList = _ from ex_parse1.2.2]
  rintro e w4 ⟨rfl, gg⟩
  replace T1 := Lib.hid (T1.out.below gg)
  replace X1 := Lib.hid (bel_trans X1.out gg); clear gg
  go_wp2_with fail
  have T2 := Lib.hid (Two.new w4 (.int .i64 5) (.int .i64 (-25)) 23)
  replace T1 := Lib.hid (T1.out.alloc (.cells #[.int .i64 5, .int .i64 (-25)] 23))
  replace X1 := Lib.hid (bel_trans X1.out (bel_alloc (Below.refl (w4.alloc (.cells #[.int .i64 5, .int .i64 (-25)] 23)).heap.size _)))
  refine (parse_any (⟨#[49, 46, 53, 48, 32, 108]⟩ : ByteArray) _ (HW.out.below X1.out) (by decide)).mono ?_
  rw [show psE (⟨#[49, 46, 53, 48, 32, 108]⟩ : ByteArray).data.toList = _ from ex_parse2]
  rintro e w5 ⟨rfl, gg⟩
  replace T1 := Lib.hid (T1.out.below gg)
  replace T2 := Lib.hid (T2.out.below gg)
  replace X1 := Lib.hid (bel_trans X1.out gg); clear gg
  generalize psK (⟨#[49, 46, 53, 48, 32, 108]⟩ : ByteArray).data.toList = a1 at *
  generalize psA (⟨#[49, 46, 53, 48, 32, 108]⟩ : ByteArray).data.toList = a2 at *
  go_wp2_with fail
  have T3 := Lib.hid (Two.new w5 (.int .i64 a1) (.int .i64 a2) 23)
  replace T1 := Lib.hid (T1.out.alloc (.cells #[.int .i64 a1, .int .i64 a2] 23))
  replace T2 := Lib.hid (T2.out.alloc (.cells #[.int .i64 a1, .int .i64 a2] 23))
  replace X1 := Lib.hid (bel_trans X1.out (bel_alloc (Below.refl (w5.alloc (.cells #[.int .i64 a1, .int .i64 a2] 23)).heap.size _)))
  refine (parse_any (⟨#[48, 46, 53, 32, 109, 108]⟩ : ByteArray) _ (HW.out.below X1.out) (by decide)).mono ?_
  rw [show psE (⟨#[48, 46, 53, 32, 109, 108]⟩ : ByteArray).data.toList = _ from ex_parse3]
  rintro e w6 ⟨rfl, gg⟩
  replace T1 := Lib.hid (T1.out.below gg)
  replace T2 := Lib.hid (T2.out.below gg)
  replace T3 := Lib.hid (T3.out.below gg)
  replace X1 := Lib.hid (bel_trans X1.out gg); clear gg
  generalize psK (⟨#[48, 46, 53, 32, 109, 108]⟩ : ByteArray).data.toList = b1 at *
  generalize psA (⟨#[48, 46, 53, 32, 109, 108]⟩ : ByteArray).data.toList = b2 at *
  go_wp2_with fail
  have T4 := Lib.hid (Two.new w6 (.int .i64 b1) (.int .i64 b2) 23)
  replace T1 := Lib.hid (T1.out.alloc (.cells #[.int .i64 b1, .int .i64 b2] 23))
  replace T2 := Lib.hid (T2.out.alloc (.cells #[.int .i64 b1, .int .i64 b2] 23))
  replace T3 := Lib.hid (T3.out.alloc (.cells #[.int .i64 b1, .int .i64 b2] 23))
  replace X1 := Lib.hid (bel_trans X1.out (bel_alloc (Below.refl (w6.alloc (.cells #[.int .i64 b1, .int .i64 b2] 23)).heap.size _)))
  refine (unit_any (⟨#[108, 112, 97]⟩ : ByteArray) _).mono ?_
  rw [show uK (⟨#[108, 112, 97]⟩ : ByteArray).data.toList = _ from ex_unit.1, show uF (⟨#[108, 112, 97]⟩ : ByteArray).data.toList = _ from ex_unit.2.1, show uE (⟨#[108, 112, 97]⟩ : ByteArray).data.toList = _ from ex_unit.2.2]
  rintro e w7 ⟨rfl, gg⟩
  replace T1 := Lib.hid (T1.out.below gg)
  replace T2 := Lib.hid (T2.out.below gg)
  replace T3 := Lib.hid (T3.out.below gg)
  replace T4 := Lib.hid (T4.out.below gg)
  replace X1 := Lib.hid (bel_trans X1.out gg); clear gg
  obtain ⟨p0a, p0b, _, _, _⟩ := T1.out
  obtain ⟨p1a, p1b, _, _, _⟩ := T2.out
  obtain ⟨p2a, p2b, _, _, _⟩ := T3.out
  obtain ⟨p3a, p3b, _, _, _⟩ := T4.out
  go_wp2_with fail
  clear p0a p0b p1a p1b p2a p2b p3a p3b
  replace T1 := Lib.hid (T1.out.alloc (.cells #[.int .i64 1, .int .i64 12345, .int .i64 1, .int .i64 12345] 23))
  replace T2 := Lib.hid (T2.out.alloc (.cells #[.int .i64 1, .int .i64 12345, .int .i64 1, .int .i64 12345] 23))
  replace T3 := Lib.hid (T3.out.alloc (.cells #[.int .i64 1, .int .i64 12345, .int .i64 1, .int .i64 12345] 23))
  replace T4 := Lib.hid (T4.out.alloc (.cells #[.int .i64 1, .int .i64 12345, .int .i64 1, .int .i64 12345] 23))
  have GQ := Lib.hid (qs_two w7 1 12345 1 12345 23)
  replace X1 := Lib.hid (bel_trans X1.out (bel_alloc (Below.refl (w7.alloc (.cells #[.int .i64 1, .int .i64 12345, .int .i64 1, .int .i64 12345] 23)).heap.size _)))
  refine (sum_any _ [(1, 12345), (1, 12345)] _ (HW.out.below X1.out) GQ.out).mono ?_
  rw [ex_sum.1, ex_sum.2]
  rintro e w8 ⟨rfl, gg⟩
  replace T1 := Lib.hid (T1.out.below gg)
  replace T2 := Lib.hid (T2.out.below gg)
  replace T3 := Lib.hid (T3.out.below gg)
  replace T4 := Lib.hid (T4.out.below gg)
  replace X1 := Lib.hid (bel_trans X1.out gg); clear gg
  generalize suK [(1, 12345), (1, 12345)] = s1 at *
  clear GQ
  have T5 := Lib.hid (Two.new w8 (.int .i64 s1) (.int .i64 24690) 23)
  replace T1 := Lib.hid (T1.out.alloc (.cells #[.int .i64 s1, .int .i64 24690] 23))
  replace T2 := Lib.hid (T2.out.alloc (.cells #[.int .i64 s1, .int .i64 24690] 23))
  replace T3 := Lib.hid (T3.out.alloc (.cells #[.int .i64 s1, .int .i64 24690] 23))
  replace T4 := Lib.hid (T4.out.alloc (.cells #[.int .i64 s1, .int .i64 24690] 23))
  replace X1 := Lib.hid (bel_trans X1.out (bel_alloc (Below.refl (w8.alloc (.cells #[.int .i64 s1, .int .i64 24690] 23)).heap.size _)))
  obtain ⟨p0a, p0b, _, _, _⟩ := T1.out
  obtain ⟨p1a, p1b, _, _, _⟩ := T2.out
  obtain ⟨p2a, p2b, _, _, _⟩ := T5.out
  have hs1 : (⟨[49, 50, 46, 51, 52, 53, 32, 108].toArray⟩ : ByteArray).toList = [49, 50, 46, 51, 52, 53, 32, 108] := by kernel_rfl
  have hs2 : (⟨[48, 46, 49, 50, 51, 52, 53, 32, 104, 108].toArray⟩ : ByteArray).toList = [48, 46, 49, 50, 51, 52, 53, 32, 104, 108] := by kernel_rfl
  have hs3 : (⟨[108].toArray⟩ : ByteArray).toList = [108] := by kernel_rfl
  unfold str
  have HK := Lib.hid (check_any 1 12345 _ (HW.out.below X1.out))
  rw [ex_check] at HK
  go_wp2_with (go_at_call 15; refine HK.out.mono ?_; rintro e w9 ⟨rfl, gg⟩; replace X1 := Lib.hid (bel_trans X1.out gg); clear gg)
  go_ret
  exact ⟨rfl, X1.out⟩
end Go.Proofs.YtdhckbjebccdbaaDoor
