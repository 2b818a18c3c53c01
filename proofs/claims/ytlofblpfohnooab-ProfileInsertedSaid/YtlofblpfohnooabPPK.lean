/- Package profile: what Inside puts. -/
import Derived.Test.YtlofblpfohnooabPPQ
namespace Go.Proofs.Ytlofblpfohnooab
open Go.RowKit

set_option maxHeartbeats 16000000 in
set_option maxRecDepth 1000000 in
theorem put_any (p pi : Nat) (hpi : p + 1 + 1 < pi) (w : World) (lv : Value) (l : List (Int × Int)) (s h : Int) (raw : List (Int × Int)) (x a pp c q L H : Int) (i : Nat) (W : World) (hI : Hid (ISt p pi w lv s h raw W)) (hr : raw.length ≤ 900)
    (bx : 0 ≤ x ∧ x ≤ 100000) (bh : 0 ≤ h ∧ h ≤ 100000) (bs : 0 ≤ s ∧ s ≤ 100000) (bL : 0 ≤ L ∧ L ≤ 100000)
    (H2 : Hid (∀ W, Below p w W → Calls Try.prog 35 #[lv, .int .i64 x] W fun e w' => e = .returned (.tuple #[.agg #[.int .i64 a, .int .i64 pp, .int .i64 c, .int .i64 q], .int .i64 i]) ∧ Below W.heap.size W w'))
    (H3 : Hid (∀ W, Calls Try.prog 36 #[.agg #[.int .i64 a, .int .i64 pp, .int .i64 c, .int .i64 q], .int .i64 x] W fun e w' => e = .returned (.agg #[.int .i64 L, .int .i64 H]) ∧ Below W.heap.size W w')) :
    Calls Try.prog 42 #[.int .i64 x, .pointer (some ⟨p, 0, none⟩), .pointer (some ⟨pi, 0, none⟩), .pointer (some ⟨p + 1 + 1, 0, none⟩), .pointer (some ⟨p + 1, 0, none⟩)] W fun e W' => e = .returned (.tuple #[]) ∧ ISt p pi w lv s h (raw ++ [(x - h, L - s)]) W' := by
  have i1 := hI.out.1.cell
  have Q0 := field_low L H
  have HB := Lib.hid hI.out.2.2.2.2
  go_enter Try.func42, Try.ntmps42
  go_wp2_with fail
  refine (H2.out _ HB.out).mono ?_
  rintro e w1 ⟨rfl, gg⟩
  have I1 := Lib.hid ((hI.out.below gg).below (bel_alloc (o := .cells #[.int .i64 a, .int .i64 pp, .int .i64 c, .int .i64 q] 51) (Below.refl _ _)))
  have F4 := Lib.hid (Four.new w1 (.int .i64 a) (.int .i64 pp) (.int .i64 c) (.int .i64 q) 51)
  clear gg hI HB i1
  have w1' : IntKind.i64.wrap (x - h) = x - h := wrap_in _ ⟨by omega, by omega⟩
  have w2' : IntKind.i64.wrap (L - s) = L - s := wrap_in _ ⟨by omega, by omega⟩
  obtain ⟨b1, b2, b3, ⟨v, b4, b5⟩, b6⟩ := I1.out
  have c2 := b2.cell
  have c3 := b3.cell
  have c4 := b4.cell
  have V4 := Lib.hid b4
  have V5 := Lib.hid b5
  clear b1 b2 b3 b4 b5 b6
  obtain ⟨f0, f1, f2, f3⟩ := F4.out
  go_wp2_with fail
  go_region_law (first | (refine step_pt rfl (.tmp 14) (.tmp 25) rfl p raw.length w4.heap.size 1 v raw (x - h) (L - s) (by simp [Act.eval, Act.put]) (by simp [Act.eval, Act.put]) (N5.out.alloc _) (by omega) (by have := I4.out.1.lt; simp; omega) (new_pt w4 _ _ _) ?_; intro v' w5 hown' hgrow; obtain ⟨Z1, Z2⟩ := ist_put hpi I4.out N4.out N5.out hown' hgrow; obtain ⟨g', cap', rfl⟩ := own_form (by omega) hown'; have y1 := Z2.cell; have y2 := Z2.frozen) | (go_simp; go_at_call 36; refine (H3.out _).mono ?_; rintro e w4 ⟨rfl, gg⟩; have gg2 := bel_trans (bel_drew _) gg; have I4 := Lib.hid (I1.out.below gg2); have N4 := Lib.hid (box_below V4.out gg2); have N5 := Lib.hid (show OwnP w4 p v raw from row_below V5.out gg2); have d2 := I4.out.2.1.cell; have d3 := I4.out.2.2.1.cell; have d4 := N4.out.cell; have d5 := fun o => (N4.out.alloc o).cell))
  all_goals go_end0
  all_goals exact ⟨rfl, Z1⟩
end Go.Proofs.Ytlofblpfohnooab
