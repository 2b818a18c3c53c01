/- The statements about layer 1: the examples of the chapter hold. -/
import Derived.Test.YtlpngfngdigchaaDraw
namespace Go.Proofs.Ytlpngfngdigchaa
open Go.RowKit

theorem equal_any (v u : Value) (xs ys : List Int) (w : World) (hv : Ins w v xs) (hu : Ins w u ys) :
    Calls Try.prog 20 #[v, u] w fun e w' => e = .returned (.bool (xs == ys)) ∧ Below w.heap.size w w' := by
  obtain ⟨a, c, rfl, hl, hv⟩ := hv
  obtain ⟨b, d, rfl, hm, hu⟩ := hu
  by_cases hlen : xs.length = ys.length
  · by_cases h0 : xs.length = 0
    · have h1 : ys.length = 0 := by omega
      refine (show Calls Try.prog 20 #[.slice a xs.length c, .slice b ys.length d] w _ by rw [h0]; exact Try.slices_Equal_int_empty a b c ys.length d w (by omega)).mono fun _ w' g => ⟨?_, by rw [g.2]; exact Below.refl _ _⟩
      rw [g.1, List.length_eq_zero_iff.1 h0, List.length_eq_zero_iff.1 h1]; rfl
    · rcases hv with hv | ⟨b1, o1, rfl, _, hc1⟩
      · omega
      rcases hu with hu | ⟨b2, o2, rfl, _, hc2⟩
      · omega
      refine (Try.slices_Equal_int b1 o1 xs.length c b2 o2 ys.length d xs ys w (Nat.le_refl _) (Nat.le_refl _) (by omega) (by omega) hc1 hc2).mono fun _ w' g => ⟨?_, ?_⟩
      · rw [g.1, List.take_length, List.take_length]
      · obtain ⟨q, hq⟩ := g.2; rw [hq]; exact bel_drewN _ _
  · refine (Try.slices_Equal_int_lens a b xs.length c ys.length d w hlen).mono fun _ w' g => ⟨?_, by rw [g.2]; exact Below.refl _ _⟩
    rw [g.1]
    congr 2
    symm
    rw [beq_eq_false_iff_ne]
    intro h; exact hlen (by rw [h])

theorem ins_three (w : World) (x y z : Int) : Ins (w.alloc (.cells #[.int .i64 x, .int .i64 y, .int .i64 z] 3)) (.slice (some ⟨w.heap.size, 0, none⟩) 3 3) [x, y, z] :=
  ins_lit w [x, y, z] [.int .i64 x, .int .i64 y, .int .i64 z] rfl (by simp)

theorem equal_yes (v u : Value) (xs ys : List Int) (w : World) (hv : Ins w v xs) (hu : Ins w u ys) (h : xs = ys) :
    Calls Try.prog 20 #[v, u] w fun e w' => e = .returned (.bool true) ∧ Below w.heap.size w w' := by
  have := equal_any v u xs ys w hv hu
  rw [h, beq_self_eq_true] at this
  exact this

set_option maxRecDepth 100000 in
set_option maxHeartbeats 2000000 in
theorem awake_any (w : World) : Calls Try.prog 8 #[] w fun e w' => e = .returned (.bool true) ∧ Below w.heap.size w w' := by
  go_enter Try.func8, Try.ntmps8
  go_wp2_with fail
  refine (of_any 7 5 4 _).mono ?_
  rw [show ofQ 7 5 4 = 8 by decide, show ofR 7 5 4 = 3 by decide, show ofE 7 5 4 = 0 by decide]
  rintro e w1 ⟨rfl, h1⟩
  have HB := Lib.hid h1; clear h1
  go_wp2_with fail
  refine (up_any 7 5 4 _).mono ?_
  rw [show upQ (ofQ 7 5 4) (ofR 7 5 4) (ofE 7 5 4) = 9 by decide, show upE (ofQ 7 5 4) (ofR 7 5 4) (ofE 7 5 4) = 0 by decide]
  rintro e w2 ⟨rfl, h1⟩
  replace HB := Lib.hid (bel_trans HB.out h1); clear h1
  go_wp2_with fail
  refine (compare_any 2 3 3 4 _).mono ?_
  rw [show cmpC 2 3 3 4 = -1 by decide, show cmpE 2 3 3 4 = 0 by decide]
  rintro e w3 ⟨rfl, h1⟩
  replace HB := Lib.hid (bel_trans HB.out h1); clear h1
  go_wp2_with fail
  refine (divide_any 10 _ [1, 1, 1] _ (ins_three _ _ _ _)).mono ?_
  rw [show divE 10 [1, 1, 1] = 0 by decide, show divP 10 [1, 1, 1] = [4, 3, 3] by decide]
  rintro e w4 ⟨va, rfl, ia, h1⟩
  replace HB := Lib.hid (bel_trans HB.out (bel_alloc h1)); clear h1
  have IA := Lib.hid ia; clear ia
  go_wp2_with fail
  refine (divide_any 10 _ [2, 0, 5] _ (ins_three _ _ _ _)).mono ?_
  rw [show divE 10 [2, 0, 5] = 0 by decide, show divP 10 [2, 0, 5] = [3, 0, 7] by decide]
  rintro e w5 ⟨vb, rfl, ib, h1⟩
  have h2 := bel_alloc h1
  replace HB := Lib.hid (bel_trans HB.out h2)
  replace IA := Lib.hid (IA.out.below h2)
  have IB := Lib.hid ib; clear ib h1 h2
  go_wp2_with fail
  refine (draw_any [4, 9, 2] 10 _ _ (ins_three _ _ _ _)).mono ?_
  rw [show drawE [4, 9, 2] 10 = 0 by decide, show drawD [4, 9, 2] 10 = [3, 6, 1] by decide, show drawS [4, 9, 2] 10 = [1, 3, 1] by decide]
  rintro e w6 ⟨vd, vs, rfl, ic, id, h1⟩
  have h2 := bel_alloc h1
  replace HB := Lib.hid (bel_trans HB.out h2)
  replace IA := Lib.hid (IA.out.below h2)
  replace IB := Lib.hid (IB.out.below h2)
  have IC := Lib.hid ic
  have ID := Lib.hid id
  clear ic id h1 h2
  go_wp2_with fail
  refine (reduce_any 12 18 _).mono ?_
  rw [show redA 12 18 = 2 by decide, show redB 12 18 = 3 by decide, show redE 12 18 = 0 by decide]
  rintro e w7 ⟨rfl, h1⟩
  replace HB := Lib.hid (bel_trans HB.out h1)
  replace IA := Lib.hid (IA.out.below h1)
  replace IB := Lib.hid (IB.out.below h1)
  replace IC := Lib.hid (IC.out.below h1)
  replace ID := Lib.hid (ID.out.below h1)
  clear h1
  go_wp2_with fail
  refine (equal_yes _ _ _ _ _ (IA.out.alloc _) (ins_three _ _ _ _) rfl).mono ?_
  rintro e w8 ⟨rfl, h1⟩
  have h2 := bel_alloc h1
  replace HB := Lib.hid (bel_trans HB.out h2)
  replace IB := Lib.hid (IB.out.below h2)
  replace IC := Lib.hid (IC.out.below h2)
  replace ID := Lib.hid (ID.out.below h2)
  clear h1 h2 IA
  go_wp2_with fail
  refine (equal_yes _ _ _ _ _ (IB.out.alloc _) (ins_three _ _ _ _) rfl).mono ?_
  rintro e w9 ⟨rfl, h1⟩
  have h2 := bel_alloc h1
  replace HB := Lib.hid (bel_trans HB.out h2)
  replace IC := Lib.hid (IC.out.below h2)
  replace ID := Lib.hid (ID.out.below h2)
  clear h1 h2 IB
  go_wp2_with fail
  refine (equal_yes _ _ _ _ _ (IC.out.alloc _) (ins_three _ _ _ _) rfl).mono ?_
  rintro e w10 ⟨rfl, h1⟩
  have h2 := bel_alloc h1
  replace HB := Lib.hid (bel_trans HB.out h2)
  replace ID := Lib.hid (ID.out.below h2)
  clear h1 h2 IC
  go_wp2_with fail
  refine (equal_yes _ _ _ _ _ (ID.out.alloc _) (ins_three _ _ _ _) rfl).mono ?_
  rintro e w11 ⟨rfl, h1⟩
  replace HB := Lib.hid (bel_trans HB.out (bel_alloc h1))
  clear h1 ID
  go_wp2
  go_ret
  exact ⟨rfl, HB.out⟩

end Go.Proofs.Ytlpngfngdigchaa
