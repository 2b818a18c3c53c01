/- Texts that the proofs of this seat share, one behind the other: SC, SEq, SAx, LAX, LEB, LAW, CRB, CRC, CRD, KT, LFO, PO0, KO, LOZ, LWS, PJ0, PG0, LT, PPI, PPJ, LTQ. -/
import Derived.Test.YtgjdopjolokaiaaM2
import Derived.Test.YtgjdopjolokaiaaShelf
import Derived.Laws.IdiomCopy
import Derived.Test.YtgjdopjolokaiaaM3
import Derived.Test.YtgjdopjolokaiaaM1
import Derived.BigQuiet
import Derived.Deep.RegionWith
import Derived.Test.YtgjdopjolokaiaaM4
import Derived.RangeFuncBox
import Derived.Maps.AppendAt
import Derived.Deep.Upon
import Derived.Test.YtgjdopjolokaiaaRows
import Derived.ProofKit
import Derived.OpenShut
import Derived.ShutString
import Derived.ChangeOld
import Derived.Lib.SmallJoins
import Derived.MakeChecks
import Derived.Deep.Slices
import Derived.Deep.Fields
import Derived.ChangeSame
import Derived.Deep.SlicePairs
import Derived.Deep.RegionHeld3
import Derived.Deep.RegionLaw
import Derived.Deep.RegionLawGrows
import Derived.Laws.AppendOwn
import Derived.Test.YtgjdopjolokaiaaShelfR
import Derived.StillTailTactics
import Derived.StillTactics
import Derived.ArgAppend

set_option linter.unusedVariables false
set_option linter.unusedSimpArgs false

/- Copies of slices of integers, and two that are compared. -/
namespace Go.Proofs.Ytgjdopjolokaiaa
open Go.RowKit

theorem Nums.alloc {w : World} {v : Value} {zs : List Int} (h : Nums w v zs) (o : Obj) : Nums (w.alloc o) v zs := h.below (bel_alloc (Below.refl _ _))
/-- a copy reads as what it is copied from, and belongs to the call -/
theorem clone_own (v : Value) (zs : List Int) (w : World) (h : Nums w v zs) (hn : zs.length ≤ 1000) :
    Calls Try.prog 16 #[v] w fun e w' => ∃ u, e = .returned u ∧ w'.ownsRow w.heap.size 3 1 u zs.length (zs.map (Value.int .i64)) ∧ Below w.heap.size w w' := by
  obtain ⟨a, c, rfl, hl, h⟩ := h
  by_cases h0 : zs.length = 0
  · obtain rfl := List.length_eq_zero_iff.1 h0
    cases a with
    | none => refine (Try.slices_Clone_int_nil _ c w).mono fun _ w' g => ⟨_, g.1, ?_, by rw [g.2]; exact Below.refl _ _⟩
              rw [g.2]; exact World.ownsRow_nil _ _ _ _
    | some a => exact (Try.slices_Clone_int_zero a c w).mono fun _ w' ⟨v', g1, g2, _, g4⟩ => ⟨v', g1, g2, g4⟩
  · rcases h with h | ⟨b, off, rfl, _, hc⟩
    · exact absurd h h0
    refine (Try.slices_Clone_int b off zs.length c zs w (Nat.le_refl _) (by omega) hc).mono fun _ w' ⟨v', g1, g2, _, g4⟩ => ⟨v', g1, ?_, g4⟩
    rw [List.take_length] at g2; exact g2
theorem clone_nums (v : Value) (zs : List Int) (w : World) (h : Nums w v zs) (hn : zs.length ≤ 1000) :
    Calls Try.prog 16 #[v] w fun e w' => ∃ u, e = .returned u ∧ Nums w' u zs ∧ Below w.heap.size w w' :=
  (clone_own v zs w h hn).mono fun _ w' ⟨u, g1, g2, g3⟩ => ⟨u, g1, nums_of_own g2, g3⟩
theorem equal_any (v u : Value) (xs ys : List Int) (w : World) (hv : Nums w v xs) (hu : Nums w u ys) :
    Calls Try.prog 13 #[v, u] w fun e w' => e = .returned (.bool (xs == ys)) ∧ Below w.heap.size w w' := by
  obtain ⟨a, c, rfl, hl, hv⟩ := hv
  obtain ⟨b, d, rfl, hm, hu⟩ := hu
  by_cases hlen : xs.length = ys.length
  · by_cases h0 : xs.length = 0
    · have h1 : ys.length = 0 := by omega
      refine (show Calls Try.prog 13 #[.slice a xs.length c, .slice b ys.length d] w _ by rw [h0]; exact Try.slices_Equal_int_empty a b c ys.length d w (by omega)).mono fun _ w' g => ⟨?_, by rw [g.2]; exact Below.refl _ _⟩
      rw [g.1, List.length_eq_zero_iff.1 h0, List.length_eq_zero_iff.1 h1]; rfl
    · rcases hv with hv | ⟨b1, o1, rfl, _, hc1⟩
      · omega
      rcases hu with hu | ⟨b2, o2, rfl, _, hc2⟩
      · omega
      refine (Try.slices_Equal_int b1 o1 xs.length c b2 o2 ys.length d xs ys w (Nat.le_refl _) (Nat.le_refl _) (by omega) (by omega) hc1 hc2).mono fun _ w' g => ⟨?_, ?_⟩
      · rw [g.1, List.take_length, List.take_length]
      · obtain ⟨q, hq⟩ := g.2; rw [hq]; exact bel_drewN _ _
  · refine (Try.slices_Equal_int_lens a b xs.length c ys.length d w hlen).mono fun _ w' g => ⟨?_, by rw [g.2]; exact Below.refl _ _⟩
    rw [g.1]
    congr 2
    symm
    rw [beq_eq_false_iff_ne]
    intro h; exact hlen (by rw [h])
theorem equal_same (v u : Value) (xs : List Int) (w : World) (hv : Nums w v xs) (hu : Nums w u xs) :
    Calls Try.prog 13 #[v, u] w fun e w' => e = .returned (.bool true) ∧ Below w.heap.size w w' := by
  have := equal_any v u xs xs w hv hu
  rw [beq_self_eq_true] at this
  exact this
/-- a literal -/
theorem nums_lit (w : World) (zs : List Int) (cs : List Value) (h : cs = zs.map (Value.int .i64)) (hn : zs.length ≤ 1000) :
    Nums (w.alloc (.cells cs.toArray 3)) (.slice (some ⟨w.heap.size, 0, none⟩) zs.length zs.length) zs := by
  refine ⟨_, _, rfl, by omega, .inr ⟨w.heap.size, 0, rfl, by simp, fun j hj => ?_⟩⟩
  subst h
  rw [World.cell?_alloc_new]
  simp [List.getD, List.getElem?_eq_getElem hj]
end Go.Proofs.Ytgjdopjolokaiaa

/- Bounds are compared. -/
namespace Go.Proofs.Ytgjdopjolokaiaa
open Go.RowKit

end Go.Proofs.Ytgjdopjolokaiaa

/- The statements about layer 7: the examples of the chapter hold. -/
namespace Go.Proofs.Ytgjdopjolokaiaa
open Go.RowKit

theorem hc5 : (hcL 5 (-5) = 0 ∧ hcL 5 (-3) = 4 ∧ hcL 5 0 = 5 ∧ hcL 5 3 = 4 ∧ hcL 5 5 = 0) ∧ hcH 5 (-5) = 0 ∧ hcH 5 (-3) = 4 ∧ hcH 5 0 = 5 ∧ hcH 5 3 = 4 ∧ hcH 5 5 = 0 := by
  have r0 : rt 0 = 0 := rt_of (by decide) (by decide) (by decide)
  have r16 : rt 16 = 4 := rt_of (by decide) (by decide) (by decide)
  have r25 : rt 25 = 5 := rt_of (by decide) (by decide) (by decide)
  have c0 : ce 0 = 0 := by unfold ce; rw [r0]; decide
  have c16 : ce 16 = 4 := by unfold ce; rw [r16]; decide
  have c25 : ce 25 = 5 := by unfold ce; rw [r25]; decide
  unfold hcL hcH
  simp [r0, r16, r25, c0, c16, c25]
theorem ex_a : arE 5 5 [0, 5, 10] = 0 ∧ arL 5 5 [0, 5, 10] = 0 ∧ arH 5 5 [0, 5, 10] = 100 := by
  obtain ⟨⟨l1, l2, l3, l4, l5⟩, h1, h2, h3, h4, h5⟩ := hc5
  have e : arE 5 5 [0, 5, 10] = 0 := by decide
  unfold arL arH
  rw [e]
  simp [prL, prH, ofL, ofH, l1, l3, l5]
  omega
theorem ex_b : arE 5 5 [0, 2, 5, 8, 10] = 0 ∧ arL 5 5 [0, 2, 5, 8, 10] = 48 ∧ arH 5 5 [0, 2, 5, 8, 10] = 92 := by
  obtain ⟨⟨l1, l2, l3, l4, l5⟩, h1, h2, h3, h4, h5⟩ := hc5
  have e : arE 5 5 [0, 2, 5, 8, 10] = 0 := by decide
  unfold arL arH
  rw [e]
  simp [prL, prH, ofL, ofH, l1, l2, l3, l4, l5, h1, h2, h4, h5]
  omega
theorem ex_s : arE 5 5 [2, 5] = 0 ∧ arL 5 5 [2, 5] = 24 ∧ arH 5 5 [2, 5] = 30 := by
  obtain ⟨⟨l1, l2, l3, l4, l5⟩, h1, h2, h3, h4, h5⟩ := hc5
  have e : arE 5 5 [2, 5] = 0 := by decide
  unfold arL arH
  rw [e]
  simp [prL, prH, ofL, ofH, l2, l3]
  omega
theorem lit3 (w : World) : Nums (w.alloc (.cells #[.int .i64 0, .int .i64 5, .int .i64 10] 3)) (.slice (some ⟨w.heap.size, 0, none⟩) 3 3) [0, 5, 10] := nums_lit w [0, 5, 10] [.int .i64 0, .int .i64 5, .int .i64 10] rfl (by decide)
theorem lit5 (w : World) : Nums (w.alloc (.cells #[.int .i64 0, .int .i64 2, .int .i64 5, .int .i64 8, .int .i64 10] 3)) (.slice (some ⟨w.heap.size, 0, none⟩) 5 5) [0, 2, 5, 8, 10] := nums_lit w [0, 2, 5, 8, 10] [.int .i64 0, .int .i64 2, .int .i64 5, .int .i64 8, .int .i64 10] rfl (by decide)
theorem lit5' (w : World) : Nums (w.alloc (.cells #[.int .i64 0, .int .i64 2, .int .i64 5, .int .i64 7, .int .i64 10] 3)) (.slice (some ⟨w.heap.size, 0, none⟩) 5 5) [0, 2, 5, 7, 10] := nums_lit w [0, 2, 5, 7, 10] [.int .i64 0, .int .i64 2, .int .i64 5, .int .i64 7, .int .i64 10] rfl (by decide)

theorem ex_w : whE 5 = 0 ∧ whL 5 = 78 ∧ whH 5 = 79 := by decide
theorem ex_h : heE 10 4 = 0 ∧ heL 10 4 = [0, 2, 5, 7, 10] := by decide +kernel
theorem ex_r : rfE [0, 5, 10] = 0 ∧ rfL [0, 5, 10] = [0, 2, 5, 7, 10] := by decide +kernel
theorem ex_k : hcE [0, 2, 5, 7, 10] = 0 := by decide +kernel
end Go.Proofs.Ytgjdopjolokaiaa

/- The statements about layer 11: the chapter's examples hold. -/
namespace Go.Proofs.Ytgjdopjolokaiaa
open Go.RowKit

def dl : List (Int × Int) := [(0, 5), (10, 5)]
def drum : Ck := ⟨⟨#[100]⟩, 1, dl, 0⟩
def l5 : List (Int × Int) := [(0, 1), (5, 2), (6, 2)]
theorem hc5x : (hcL 5 (-4) = 3 ∧ hcL 5 (-2) = 4 ∧ hcL 5 (-1) = 4 ∧ hcL 5 1 = 4 ∧ hcL 5 2 = 4 ∧ hcL 5 4 = 3) ∧ hcH 5 (-4) = 3 ∧ hcH 5 (-2) = 5 ∧ hcH 5 (-1) = 5 ∧ hcH 5 1 = 5 ∧ hcH 5 2 = 5 ∧ hcH 5 4 = 3 := by
  have r9 : rt 9 = 3 := rt_of (by decide) (by decide) (by decide)
  have r21 : rt 21 = 4 := rt_of (by decide) (by decide) (by decide)
  have r24 : rt 24 = 4 := rt_of (by decide) (by decide) (by decide)
  have c9 : ce 9 = 3 := by unfold ce; rw [r9]; decide
  have c21 : ce 21 = 5 := by unfold ce; rw [r21]; decide
  have c24 : ce 24 = 5 := by unfold ce; rw [r24]; decide
  unfold hcL hcH
  simp [r9, r21, r24, c9, c21, c24]
theorem pr_1 : prL 5 5 [0, 5, 10] 2 = 0 ∧ prH 5 5 [0, 5, 10] 2 = 100 := by
  obtain ⟨⟨l1, l2, l3, l4, l5⟩, h1, h2, h3, h4, h5⟩ := hc5
  simp [prL, prH, ofL, ofH, l1, l3, l5]
  omega
theorem pr_2 : prL 5 5 [0, 2, 5, 8, 10] 4 = 48 ∧ prH 5 5 [0, 2, 5, 8, 10] 4 = 92 := by
  obtain ⟨⟨l1, l2, l3, l4, l5⟩, h1, h2, h3, h4, h5⟩ := hc5
  simp [prL, prH, ofL, ofH, l1, l2, l3, l4, l5, h1, h2, h4, h5]
  omega
theorem pr_3 : prL 5 5 [0, 1, 2, 3, 4, 5] 5 = 30 ∧ prH 5 5 [0, 1, 2, 3, 4, 5] 5 = 44 := by
  obtain ⟨⟨l1, l2, l3, l4, l5⟩, h1, h2, h3, h4, h5⟩ := hc5
  obtain ⟨⟨m1, m2, m3, m4, m5, m6⟩, g1, g2, g3, g4, g5, g6⟩ := hc5x
  simp [prL, prH, ofL, ofH, l1, l2, l3, h1, h2, h3, m1, m2, m3, g1, g2, g3]
  omega
theorem pr_4 : prL 5 5 [5, 6, 7, 8, 9, 10] 5 = 30 ∧ prH 5 5 [5, 6, 7, 8, 9, 10] 5 = 44 := by
  obtain ⟨⟨l1, l2, l3, l4, l5⟩, h1, h2, h3, h4, h5⟩ := hc5
  obtain ⟨⟨m1, m2, m3, m4, m5, m6⟩, g1, g2, g3, g4, g5, g6⟩ := hc5x
  simp [prL, prH, ofL, ofH, l3, l4, l5, h3, h4, h5, m4, m5, m6, g4, g5, g6]
  omega
theorem pr_5 : (prL 5 5 [0, 2] 1 = 0 ∧ prH 5 5 [0, 2] 1 = 16) ∧ prL 5 5 [2, 5] 1 = 24 ∧ prH 5 5 [2, 5] 1 = 30 := by
  obtain ⟨⟨l1, l2, l3, l4, l5⟩, h1, h2, h3, h4, h5⟩ := hc5
  simp [prL, prH, ofL, ofH, l1, l2, l3, h1, h2, h3]
  omega
theorem dl_R : RP dl := (ckE_iff _).1 (by decide +kernel)
theorem dl_P : PlR dl [0, 10] := (plcE_iff.1 (show plcE dl [0, 10] = 0 by decide +kernel)).1
theorem dl_b : bgR dl = 5 := by decide +kernel
theorem dl_tb (hs : List Int) (j : Nat) : tbL dl 5 [0, 10] hs j 1 = 10 * prL 5 5 hs j ∧ tbH dl 5 [0, 10] hs j 1 = 10 * prH 5 5 hs j := by
  have := tb_cyl (X := 10) (r := 5) (c := 5) (ps := [0, 10]) (hs := hs) (by omega) (by omega) dl_R dl_P j 1 (by decide)
  exact this
theorem dr_1 : lrE drum [0, 10] [0, 5, 10] = 0 ∧ btwL drum [0, 10] [0, 5, 10] = 0 ∧ btwH drum [0, 10] [0, 5, 10] = 1000 := by
  have e : lrE drum [0, 10] [0, 5, 10] = 0 := by decide +kernel
  refine ⟨e, ?_, ?_⟩
  · unfold btwL; rw [if_pos e]
    show tbL dl (bgR dl) [0, 10] [0, 5, 10] 2 1 = 0
    rw [dl_b, (dl_tb _ _).1, pr_1.1]; rfl
  · unfold btwH; rw [if_pos e]
    show tbH dl (bgR dl) [0, 10] [0, 5, 10] 2 1 = 1000
    rw [dl_b, (dl_tb _ _).2, pr_1.2]; rfl
theorem dr_2 : lrE drum [0, 10] [0, 2, 5, 8, 10] = 0 ∧ btwL drum [0, 10] [0, 2, 5, 8, 10] = 480 ∧ btwH drum [0, 10] [0, 2, 5, 8, 10] = 920 := by
  have e : lrE drum [0, 10] [0, 2, 5, 8, 10] = 0 := by decide +kernel
  refine ⟨e, ?_, ?_⟩
  · unfold btwL; rw [if_pos e]
    show tbL dl (bgR dl) [0, 10] [0, 2, 5, 8, 10] 4 1 = 480
    rw [dl_b, (dl_tb _ _).1, pr_2.1]; rfl
  · unfold btwH; rw [if_pos e]
    show tbH dl (bgR dl) [0, 10] [0, 2, 5, 8, 10] 4 1 = 920
    rw [dl_b, (dl_tb _ _).2, pr_2.2]; rfl
theorem dr_3 : wtE drum 5 1 5 = 0 ∧ wtL drum 5 1 5 = 300 ∧ wtH drum 5 1 5 = 440 ∧ dyL drum 5 1 5 = 300 ∧ dyH drum 5 1 5 = 440 := by
  have e : wtE drum 5 1 5 = 0 := by decide +kernel
  have ep : wtP drum 5 1 5 = [0, 10] := by decide +kernel
  have eh : hs 5 5 = [0, 1, 2, 3, 4, 5] := by decide +kernel
  have ed : hd 5 10 5 = [5, 6, 7, 8, 9, 10] := by decide +kernel
  refine ⟨e, ?_, ?_, ?_, ?_⟩
  · unfold wtL; rw [if_pos e, ep]
    show tbL dl (bgR dl) [0, 10] (hs 5 5) 5 1 = 300
    rw [dl_b, eh, (dl_tb _ _).1, pr_3.1]; rfl
  · unfold wtH; rw [if_pos e, ep]
    show tbH dl (bgR dl) [0, 10] (hs 5 5) 5 1 = 440
    rw [dl_b, eh, (dl_tb _ _).2, pr_3.2]; rfl
  · unfold dyL; rw [if_pos e, ep]
    show tbL dl (bgR dl) [0, 10] (hd 5 (2 * bgR dl) 5) 5 1 = 300
    rw [dl_b]
    show tbL dl 5 [0, 10] (hd 5 10 5) 5 1 = 300
    rw [ed, (dl_tb _ _).1, pr_4.1]; rfl
  · unfold dyH; rw [if_pos e, ep]
    show tbH dl (bgR dl) [0, 10] (hd 5 (2 * bgR dl) 5) 5 1 = 440
    rw [dl_b]
    show tbH dl 5 [0, 10] (hd 5 10 5) 5 1 = 440
    rw [ed, (dl_tb _ _).2, pr_4.2]; rfl
theorem dr_4 : slE l5 2 = 0 ∧ slP l5 2 = [0, 2, 5, 6] := by decide +kernel
theorem dr_5 : lrE drum [0, 10] [0, 2, 5] = 0 ∧ stL drum [0, 10] [0, 2, 5] = [(0, 160), (240, 300)] := by
  have e : lrE drum [0, 10] [0, 2, 5] = 0 := by decide +kernel
  refine ⟨e, ?_⟩
  have x : ∀ a b : Int, xsL dl 5 [0, 10] a b 1 = 10 * prL 5 5 [a, b] 1 ∧ xsH dl 5 [0, 10] a b 1 = 10 * prH 5 5 [a, b] 1 := fun a b => by
    rw [← (two_strip dl 5 [0, 10] a b 1).1, ← (two_strip dl 5 [0, 10] a b 1).2]
    exact dl_tb _ _
  unfold stL
  rw [if_pos e]
  show [stF drum [0, 10] [0, 2, 5] 0, stF drum [0, 10] [0, 2, 5] 1] = _
  have f0 : stF drum [0, 10] [0, 2, 5] 0 = (xsL dl (bgR dl) [0, 10] 0 2 1, xsH dl (bgR dl) [0, 10] 0 2 1) := rfl
  have f1 : stF drum [0, 10] [0, 2, 5] 1 = (xsL dl (bgR dl) [0, 10] 2 5 1, xsH dl (bgR dl) [0, 10] 2 5 1) := rfl
  rw [f0, f1, dl_b, (x 0 2).1, (x 0 2).2, (x 2 5).1, (x 2 5).2, pr_5.1.1, pr_5.1.2, pr_5.2.1, pr_5.2.2]
  rfl
theorem dr_6 : lcE drum [0, 10] = 0 := by decide +kernel
theorem drum_any (w : World) : Calls Try.prog 31 #[] w fun e w' => ∃ v, e = .returned v ∧ CkV w' v drum ∧ Below w.heap.size w w' := by
  have P : ∀ o, Pts ((w.alloc o).alloc (.cells #[.int .i64 0, .int .i64 5, .int .i64 10, .int .i64 5] 33)) (.slice (some ⟨w.heap.size + 1, 0, none⟩) 2 2) dl := fun o => by
    have := pts_lit (w.alloc o) dl (flat dl) rfl (by decide)
    simp only [World.size_alloc] at this
    exact this
  go_enter Try.func31, Try.ntmps31
  go_wp2
  refine bodyPost_ret (v := .agg #[.string ⟨#[100]⟩, .int .i64 1, .slice (some ⟨w.heap.size + 1, 0, none⟩) 2 2, .int .i64 0]) (by simp [results, Try.results31, go_sem]) rfl ?_
  exact ⟨_, rfl, ⟨_, 2, rfl, P _, by decide, by decide, by decide⟩, bel_alloc (bel_alloc (Below.refl _ _))⟩
end Go.Proofs.Ytgjdopjolokaiaa

/- slices.Equal at bounds. -/
namespace Go.Proofs.Ytgjdopjolokaiaa
open Go.RowKit

set_option maxHeartbeats 8000000 in
theorem eqB_some (b o n c b2 o2 d : Nat) (xs ys : List (Int × Int)) (B : Bool) (w : World) (hn : n ≤ 9223372036854775807) (hb : b < w.heap.size) (hb2 : b2 < w.heap.size)
    (h1 : Hid (∀ j, j < n → w.cell? ⟨b, o + j * 2, none⟩ = some (.int .i64 (gX xs j)) ∧ w.cell? ⟨b, o + j * 2 + 1, none⟩ = some (.int .i64 (gR xs j))))
    (h2 : Hid (∀ j, j < n → w.cell? ⟨b2, o2 + j * 2, none⟩ = some (.int .i64 (gX ys j)) ∧ w.cell? ⟨b2, o2 + j * 2 + 1, none⟩ = some (.int .i64 (gR ys j))))
    (k1 : Hid ((∃ j, j < n ∧ samB (gX xs j) (gR xs j) (gX ys j) (gR ys j) = false) → B = false)) (k2 : Hid ((∀ j, j < n → samB (gX xs j) (gR xs j) (gX ys j) (gR ys j) = true) → B = true)) :
    Calls Try.prog 32 #[.slice (some ⟨b, o, none⟩) n c, .slice (some ⟨b2, o2, none⟩) n d] w fun e w' => e = .returned (.bool B) ∧ Below w.heap.size w w' := by
  go_enter Try.func32, Try.ntmps32
  go_wp2_with fail
  go_loopw [13] (fun i wr => ∃ k : Nat, k ≤ n ∧ i = .int .i64 k ∧ Hid (Below w.heap.size w wr) ∧ Hid (∀ j, j < k → samB (gX xs j) (gR xs j) (gX ys j) (gR ys j) = true)) (fun i _ => n - (intOf i).toNat)
  case atStart => exact ⟨0, Nat.zero_le _, rfl, Below.refl _ _, fun j hj => by omega⟩
  case round =>
    obtain ⟨k, hk, rfl, hB, ha⟩ := hrel
    by_cases hlt : k < n
    · have c0 : wr.cell? ⟨b, o + k * 2, none⟩ = some (.int .i64 (gX xs k)) := by rw [(bcell hB.out).1 _ _ hb]; exact (h1.out k hlt).1
      have c1 : wr.cell? ⟨b, o + k * 2 + 1, none⟩ = some (.int .i64 (gR xs k)) := by rw [(bcell hB.out).1 _ _ hb]; exact (h1.out k hlt).2
      have c2 : wr.cell? ⟨b2, o2 + k * 2, none⟩ = some (.int .i64 (gX ys k)) := by rw [(bcell hB.out).1 _ _ hb2]; exact (h2.out k hlt).1
      have c3 : wr.cell? ⟨b2, o2 + k * 2 + 1, none⟩ = some (.int .i64 (gR ys k)) := by rw [(bcell hB.out).1 _ _ hb2]; exact (h2.out k hlt).2
      have l1 : (k : Int) < (n : Int) := by omega
      cases hq : samB (gX xs k) (gR xs k) (gX ys k) (gR ys k) with
      | false =>
        have hBf := k1.out ⟨k, hlt, hq⟩
        generalize gX xs k = p at *
        generalize gR xs k = q at *
        generalize gX ys k = x at *
        generalize gR ys k = y at *
        have Q : ∀ W, (binOp .neq 40 (.agg #[.int .i64 p, .int .i64 q]) (.agg #[.int .i64 x, .int .i64 y])).run Try.prog W = .ok (.bool true) W := fun W => by rw [run_neq_bounds, hq]; rfl
        clear hq
        subst hBf
        go_wp2_with fail
        go_quiet (fail)
        go_wp2
        go_returns
        exact ⟨rfl, bel_trans hB.out (bel_drewN _ _)⟩
      | true =>
        have ha2 : Hid (∀ j, j < k + 1 → samB (gX xs j) (gR xs j) (gX ys j) (gR ys j) = true) := fun j hj => by
          by_cases e : j = k
          · rw [e]; exact hq
          · exact ha.out j (by omega)
        clear ha
        generalize gX xs k = p at c0 hq
        generalize gR xs k = q at c1 hq
        generalize gX ys k = x at c2 hq
        generalize gR ys k = y at c3 hq
        have Q : ∀ W, (binOp .neq 40 (.agg #[.int .i64 p, .int .i64 q]) (.agg #[.int .i64 x, .int .i64 y])).run Try.prog W = .ok (.bool false) W := fun W => by rw [run_neq_bounds, hq]; rfl
        clear hq
        go_wp2_with fail
        go_quiet (fail)
        go_wp2
        go_roundw
        case rel => exact ⟨k + 1, by omega, by go_num, bel_trans hB.out (bel_drewN _ _), ha2⟩
        case measure => simp [intOf]; omega
    · obtain rfl : k = n := by omega
      obtain rfl := k2.out ha.out
      go_wp2
      go_returns
      exact ⟨rfl, hB.out⟩
theorem eqB_zero (a : Option Addr) (c : Nat) (a2 : Option Addr) (d : Nat) (w : World) :
    Calls Try.prog 32 #[.slice a 0 c, .slice a2 0 d] w fun e w' => e = .returned (.bool true) ∧ Below w.heap.size w w' := by
  go_enter Try.func32, Try.ntmps32
  go_wp2_with fail
  go_loopw [13] (fun i wr => i = .int .i64 0 ∧ w = wr) (fun _ _ => 0)
  case atStart => exact ⟨rfl, rfl⟩
  case round =>
    obtain ⟨rfl, rfl⟩ := hrel
    go_wp2
    go_returns
    exact ⟨rfl, Below.refl _ _⟩
theorem eqB_lens (a : Option Addr) (n c : Nat) (a2 : Option Addr) (m d : Nat) (w : World) (h : n ≠ m) (hn : n ≤ 9223372036854775807) (hm : m ≤ 9223372036854775807) :
    Calls Try.prog 32 #[.slice a n c, .slice a2 m d] w fun e w' => e = .returned (.bool false) ∧ Below w.heap.size w w' := by
  have g : ((n : Int) != (m : Int)) = true := by rw [bne_iff_ne]; omega
  go_enter Try.func32, Try.ntmps32
  go_wp2
  go_returns
  exact ⟨rfl, Below.refl _ _⟩
theorem eqB_any (v u : Value) (xs ys : List (Int × Int)) (w : World) (hv : Pts w v xs) (hu : Pts w u ys) :
    Calls Try.prog 32 #[v, u] w fun e w' => e = .returned (.bool (decide (xs = ys))) ∧ Below w.heap.size w w' := by
  obtain ⟨a, c, rfl, hl, hh⟩ := hv
  obtain ⟨a2, d, rfl, hl2, hh2⟩ := hu
  have ext : ∀ j, (xs.getD j (0, 0) = ys.getD j (0, 0)) ↔ samB (gX xs j) (gR xs j) (gX ys j) (gR ys j) = true := fun j => by
    unfold samB gX gR
    rw [Bool.and_eq_true, beq_iff_eq, beq_iff_eq]
    exact ⟨fun h => by rw [h]; exact ⟨rfl, rfl⟩, fun h => Prod.ext h.1 h.2⟩
  by_cases hn : xs.length = ys.length
  · rcases hh with h0 | ⟨b, o, rfl, hb, hc⟩
    · have e1 := List.length_eq_zero_iff.1 h0
      have e2 : ys = [] := List.length_eq_zero_iff.1 (by omega)
      subst e1 e2
      exact eqB_zero a c a2 d w
    · rcases hh2 with h0 | ⟨b2, o2, rfl, hb2, hc2⟩
      · have e1 := List.length_eq_zero_iff.1 h0
        have e2 : xs = [] := List.length_eq_zero_iff.1 (by omega)
        subst e1 e2
        exact eqB_zero _ c a2 d w
      · rw [← hn]
        refine eqB_some b o _ c b2 o2 d xs ys _ w (by omega) hb hb2 (Lib.hid hc) (Lib.hid fun j hj => hc2 j (by omega)) (Lib.hid ?_) (Lib.hid ?_)
        · rintro ⟨j, hj, h⟩
          rw [decide_eq_false_iff_not]
          intro e
          have := (ext j).1 (by rw [e])
          rw [h] at this
          cases this
        · intro h
          rw [decide_eq_true_iff]
          apply List.ext_getElem hn
          intro j h1 h2
          have := (ext j).2 (h j h1)
          rw [List.getD_eq_getElem?_getD, List.getD_eq_getElem?_getD, List.getElem?_eq_getElem h1, List.getElem?_eq_getElem h2] at this
          exact this
  · rw [decide_eq_false (fun e => hn (by rw [e]))]
    exact eqB_lens a _ c a2 _ d w hn (by omega) (by omega)
theorem bds_lit (w : World) (l : List (Int × Int)) (cs : List Value) (h : cs = flat l) (hn : l.length ≤ 1000) :
    Pts (w.alloc (.cells cs.toArray 40)) (.slice (some ⟨w.heap.size, 0, none⟩) l.length l.length) l := by
  refine ⟨_, _, rfl, by omega, .inr ⟨w.heap.size, 0, rfl, by simp, fun j hj => ?_⟩⟩
  subst h
  have hf := flat_at l j hj
  rw [World.cell?_alloc_new, World.cell?_alloc_new]
  simp only [Nat.zero_add]
  exact ⟨by simpa using hf.1, by simpa using hf.2⟩
end Go.Proofs.Ytgjdopjolokaiaa

/- The statements about layer 11: the example. -/
namespace Go.Proofs.Ytgjdopjolokaiaa
open Go.RowKit

set_option maxRecDepth 100000 in
set_option maxHeartbeats 16000000 in
theorem awake_any (w : World) : Calls Try.prog 8 #[] w fun e w' => e = .returned (.bool true) ∧ Below w.heap.size w w' := by
  have BA := Lib.hid (fun W => drum_any W)
  have HB1 := Lib.hid (fun v u h W (hv : CkV W v drum) (hu : Nums W u [0, 10]) (hh : Nums W h [0, 5, 10]) => lyBw_any v u h drum _ _ W hv hu hh)
  have HB2 := Lib.hid (fun v u h W (hv : CkV W v drum) (hu : Nums W u [0, 10]) (hh : Nums W h [0, 2, 5, 8, 10]) => lyBw_any v u h drum _ _ W hv hu hh)
  have HW := Lib.hid (fun v W (hv : CkV W v drum) => lyWet_any v drum 5 1 5 W hv)
  have HD := Lib.hid (fun v W (hv : CkV W v drum) => lyDry_any v drum 5 1 5 W hv)
  have HL := Lib.hid (fun v W (hv : Pts W v l5) => lySl_any v l5 2 W hv)
  have HS := Lib.hid (fun v u h W (hv : CkV W v drum) (hu : Nums W u [0, 10]) (hh : Nums W h [0, 2, 5]) => lyStr_any v u h drum _ _ W hv hu hh)
  have HC := Lib.hid (fun v u W (hv : CkV W v drum) (hu : Nums W u [0, 10]) => lyChk_any v u drum _ W hv hu)
  obtain ⟨a1, a2, a3⟩ := dr_1
  obtain ⟨b1, b2, b3⟩ := dr_2
  obtain ⟨c1, c2, c3, c4, c5⟩ := dr_3
  obtain ⟨d1, d2⟩ := dr_4
  obtain ⟨e1, e2⟩ := dr_5
  rw [a1, a2, a3] at HB1
  rw [b1, b2, b3] at HB2
  rw [c1, c2, c3] at HW
  rw [c1, c4, c5] at HD
  rw [d1, d2] at HL
  rw [e1, e2] at HS
  rw [dr_6] at HC
  have HE := Lib.hid (fun v u W (hv : Nums W v [0, 2, 5, 6]) (hu : Nums W u [0, 2, 5, 6]) => equal_any v u _ _ W hv hu)
  have HF := Lib.hid (fun v u W (hv : Pts W v [(0, 160), (240, 300)]) (hu : Pts W u [(0, 160), (240, 300)]) => eqB_any v u _ _ W hv hu)
  rw [show (([0, 2, 5, 6] : List Int) == [0, 2, 5, 6]) = true by decide] at HE
  rw [show decide (([(0, 160), (240, 300)] : List (Int × Int)) = [(0, 160), (240, 300)]) = true by decide] at HF
  have Q1 : ∀ (p q : Int) W, (binOp .eql 40 (.agg #[.int .i64 p, .int .i64 q]) (.agg #[.int .i64 p, .int .i64 q])).run Try.prog W = .ok (.bool true) W := fun p q W => by rw [run_eql_bounds, show samB p q p q = true by simp [samB]]
  have L2 : ∀ W, Nums (World.alloc W (.cells #[.int .i64 0, .int .i64 10] 3)) (.slice (some ⟨W.heap.size, 0, none⟩) 2 2) [0, 10] := fun W => nums_lit W [0, 10] _ rfl (by decide)
  have L3 : ∀ W, Nums (World.alloc W (.cells #[.int .i64 0, .int .i64 5, .int .i64 10] 3)) (.slice (some ⟨W.heap.size, 0, none⟩) 3 3) [0, 5, 10] := fun W => nums_lit W [0, 5, 10] _ rfl (by decide)
  have L3' : ∀ W, Nums (World.alloc W (.cells #[.int .i64 0, .int .i64 2, .int .i64 5] 3)) (.slice (some ⟨W.heap.size, 0, none⟩) 3 3) [0, 2, 5] := fun W => nums_lit W [0, 2, 5] _ rfl (by decide)
  have L5 : ∀ W, Nums (World.alloc W (.cells #[.int .i64 0, .int .i64 2, .int .i64 5, .int .i64 8, .int .i64 10] 3)) (.slice (some ⟨W.heap.size, 0, none⟩) 5 5) [0, 2, 5, 8, 10] := fun W => nums_lit W [0, 2, 5, 8, 10] _ rfl (by decide)
  have L4 : ∀ W, Nums (World.alloc W (.cells #[.int .i64 0, .int .i64 2, .int .i64 5, .int .i64 6] 3)) (.slice (some ⟨W.heap.size, 0, none⟩) 4 4) [0, 2, 5, 6] := fun W => nums_lit W [0, 2, 5, 6] _ rfl (by decide)
  have LP : ∀ W, Pts (World.alloc W (.cells #[.int .i64 0, .int .i64 1, .int .i64 5, .int .i64 2, .int .i64 6, .int .i64 2] 33)) (.slice (some ⟨W.heap.size, 0, none⟩) 3 3) l5 := fun W => pts_lit W l5 _ rfl (by decide)
  have LB : ∀ W, Pts (World.alloc W (.cells #[.int .i64 0, .int .i64 160, .int .i64 240, .int .i64 300] 40)) (.slice (some ⟨W.heap.size, 0, none⟩) 2 2) [(0, 160), (240, 300)] := fun W => bds_lit W [(0, 160), (240, 300)] _ rfl (by decide)
  clear a1 a2 a3 b1 b2 b3 c1 c2 c3 c4 c5 d1 d2 e1 e2
  have HB := Lib.hid (Below.refl w.heap.size w)
  go_enter Try.func8, Try.ntmps8
  go_wp2_with fail
  refine (BA.out _).mono ?_
  rintro e w1 ⟨Vw1, rfl, hx, h1⟩
  replace HB := Lib.hid (bel_trans HB.out h1); clear h1
  have Nw1 := Lib.hid (((hx.alloc (.cells #[.int .i64 0, .int .i64 10] 3)).alloc (.cells #[.int .i64 0, .int .i64 5, .int .i64 10] 3)))
  have g0 := L2 (w1)
  have G0w1 := Lib.hid ((g0.alloc (.cells #[.int .i64 0, .int .i64 5, .int .i64 10] 3))); clear g0
  have g0 := L3 ((w1).alloc (.cells #[.int .i64 0, .int .i64 10] 3))
  simp only [World.size_alloc] at g0
  have G1w1 := Lib.hid (g0); clear g0
  clear hx
  go_wp2_with fail
  refine (HB1.out _ _ _ _ Nw1.out G0w1.out G1w1.out).mono ?_
  rintro e w2 ⟨rfl, h1⟩
  replace h1 := bel_alloc h1
  replace h1 := bel_alloc h1
  replace HB := Lib.hid ((bel_trans HB.out h1).alloc (bel_trans HB.out h1).size (.cells #[.int .i64 0, .int .i64 1000] 40)); clear h1
  clear Nw1 G0w1 G1w1
  have T1 := Lib.hid (Two.new w2 (.int .i64 0) (.int .i64 1000) 40)
  go_wp2_with fail
  refine (BA.out _).mono ?_
  rintro e w3 ⟨Vw3, rfl, hx, h1⟩
  replace T1 := Lib.hid (T1.out.below h1)
  replace HB := Lib.hid (bel_trans HB.out h1); clear h1
  have Nw3 := Lib.hid (((hx.alloc (.cells #[.int .i64 0, .int .i64 10] 3)).alloc (.cells #[.int .i64 0, .int .i64 2, .int .i64 5, .int .i64 8, .int .i64 10] 3)))
  have g0 := L2 (w3)
  have G0w3 := Lib.hid ((g0.alloc (.cells #[.int .i64 0, .int .i64 2, .int .i64 5, .int .i64 8, .int .i64 10] 3))); clear g0
  have g0 := L5 ((w3).alloc (.cells #[.int .i64 0, .int .i64 10] 3))
  simp only [World.size_alloc] at g0
  have G1w3 := Lib.hid (g0); clear g0
  clear hx
  go_wp2_with fail
  refine (HB2.out _ _ _ _ Nw3.out G0w3.out G1w3.out).mono ?_
  rintro e w4 ⟨rfl, h1⟩
  replace h1 := bel_alloc h1
  replace h1 := bel_alloc h1
  replace T1 := Lib.hid ((T1.out.below h1).alloc (.cells #[.int .i64 480, .int .i64 920] 40))
  replace HB := Lib.hid ((bel_trans HB.out h1).alloc (bel_trans HB.out h1).size (.cells #[.int .i64 480, .int .i64 920] 40)); clear h1
  clear Nw3 G0w3 G1w3
  have T2 := Lib.hid (Two.new w4 (.int .i64 480) (.int .i64 920) 40)
  go_wp2_with fail
  refine (BA.out _).mono ?_
  rintro e w5 ⟨Vw5, rfl, hx, h1⟩
  replace T1 := Lib.hid (T1.out.below h1)
  replace T2 := Lib.hid (T2.out.below h1)
  replace HB := Lib.hid (bel_trans HB.out h1); clear h1
  have Nw5 := Lib.hid hx; clear hx
  go_wp2_with fail
  refine (HW.out _ _ Nw5.out).mono ?_
  rintro e w6 ⟨rfl, h1⟩
  replace T1 := Lib.hid ((T1.out.below h1).alloc (.cells #[.int .i64 300, .int .i64 440] 40))
  replace T2 := Lib.hid ((T2.out.below h1).alloc (.cells #[.int .i64 300, .int .i64 440] 40))
  replace HB := Lib.hid ((bel_trans HB.out h1).alloc (bel_trans HB.out h1).size (.cells #[.int .i64 300, .int .i64 440] 40)); clear h1
  clear Nw5
  have T3 := Lib.hid (Two.new w6 (.int .i64 300) (.int .i64 440) 40)
  go_wp2_with fail
  refine (BA.out _).mono ?_
  rintro e w7 ⟨Vw7, rfl, hx, h1⟩
  replace T1 := Lib.hid (T1.out.below h1)
  replace T2 := Lib.hid (T2.out.below h1)
  replace T3 := Lib.hid (T3.out.below h1)
  replace HB := Lib.hid (bel_trans HB.out h1); clear h1
  have Nw7 := Lib.hid hx; clear hx
  go_wp2_with fail
  refine (HD.out _ _ Nw7.out).mono ?_
  rintro e w8 ⟨rfl, h1⟩
  replace T1 := Lib.hid ((T1.out.below h1).alloc (.cells #[.int .i64 300, .int .i64 440] 40))
  replace T2 := Lib.hid ((T2.out.below h1).alloc (.cells #[.int .i64 300, .int .i64 440] 40))
  replace T3 := Lib.hid ((T3.out.below h1).alloc (.cells #[.int .i64 300, .int .i64 440] 40))
  replace HB := Lib.hid ((bel_trans HB.out h1).alloc (bel_trans HB.out h1).size (.cells #[.int .i64 300, .int .i64 440] 40)); clear h1
  clear Nw7
  have T4 := Lib.hid (Two.new w8 (.int .i64 300) (.int .i64 440) 40)
  have g0 := LP (w8.alloc (.cells #[.int .i64 300, .int .i64 440] 40))
  simp only [World.size_alloc] at g0
  have GP := Lib.hid g0; clear g0
  go_wp2_with fail
  refine (HL.out _ _ GP.out).mono ?_
  rintro e w9 ⟨U1, rfl, hu, h1⟩
  replace h1 := bel_alloc h1
  replace T1 := Lib.hid (T1.out.below h1)
  replace T2 := Lib.hid (T2.out.below h1)
  replace T3 := Lib.hid (T3.out.below h1)
  replace T4 := Lib.hid (T4.out.below h1)
  replace HB := Lib.hid (bel_trans HB.out h1); clear h1
  have NL := Lib.hid hu; clear hu
  go_wp2_with fail
  refine (BA.out _).mono ?_
  rintro e w10 ⟨Vw10, rfl, hx, h1⟩
  replace T1 := Lib.hid (T1.out.below h1)
  replace T2 := Lib.hid (T2.out.below h1)
  replace T3 := Lib.hid (T3.out.below h1)
  replace T4 := Lib.hid (T4.out.below h1)
  replace NL := Lib.hid (NL.out.below h1)
  replace HB := Lib.hid (bel_trans HB.out h1); clear h1
  have Nw10 := Lib.hid (((hx.alloc (.cells #[.int .i64 0, .int .i64 10] 3)).alloc (.cells #[.int .i64 0, .int .i64 2, .int .i64 5] 3)))
  have g0 := L2 (w10)
  have G0w10 := Lib.hid ((g0.alloc (.cells #[.int .i64 0, .int .i64 2, .int .i64 5] 3))); clear g0
  have g0 := L3' ((w10).alloc (.cells #[.int .i64 0, .int .i64 10] 3))
  simp only [World.size_alloc] at g0
  have G1w10 := Lib.hid (g0); clear g0
  clear hx
  go_wp2_with fail
  refine (HS.out _ _ _ _ Nw10.out G0w10.out G1w10.out).mono ?_
  rintro e w11 ⟨U2, rfl, hu, h1⟩
  replace h1 := bel_alloc h1
  replace h1 := bel_alloc h1
  replace T1 := Lib.hid (T1.out.below h1)
  replace T2 := Lib.hid (T2.out.below h1)
  replace T3 := Lib.hid (T3.out.below h1)
  replace T4 := Lib.hid (T4.out.below h1)
  replace NL := Lib.hid (NL.out.below h1)
  replace HB := Lib.hid (bel_trans HB.out h1); clear h1
  clear Nw10 G0w10 G1w10
  have NS := Lib.hid hu; clear hu
  obtain ⟨T10, T11, _, _, _⟩ := T1.out
  obtain ⟨T20, T21, _, _, _⟩ := T2.out
  obtain ⟨T30, T31, _, _, _⟩ := T3.out
  obtain ⟨T40, T41, _, _, _⟩ := T4.out
  go_wp2_with fail
  refine (HE.out _ _ _ (NL.out.alloc _) (L4 _)).mono ?_
  rintro e w12 ⟨rfl, h1⟩
  replace h1 := bel_alloc h1
  replace NS := Lib.hid (NS.out.below h1)
  replace HB := Lib.hid (bel_trans HB.out h1); clear h1
  clear T10 T11 T20 T21 T30 T31 T40 T41
  go_wp2_with fail
  refine (HF.out _ _ _ (NS.out.alloc _) (LB _)).mono ?_
  rintro e w13 ⟨rfl, h1⟩
  replace h1 := bel_alloc h1
  replace HB := Lib.hid (bel_trans HB.out h1); clear h1
  go_wp2_with fail
  refine (BA.out _).mono ?_
  rintro e w14 ⟨Vw14, rfl, hx, h1⟩
  replace HB := Lib.hid (bel_trans HB.out h1); clear h1
  have Nw14 := Lib.hid ((hx.alloc (.cells #[.int .i64 0, .int .i64 10] 3)))
  have g0 := L2 (w14)
  have G0w14 := Lib.hid (g0); clear g0
  clear hx
  go_wp2_with fail
  refine (HC.out _ _ _ Nw14.out G0w14.out).mono ?_
  rintro e w15 ⟨rfl, h1⟩
  replace h1 := bel_alloc h1
  replace HB := Lib.hid (bel_trans HB.out h1); clear h1
  go_wp2
  go_returns
  exact ⟨rfl, HB.out⟩
end Go.Proofs.Ytgjdopjolokaiaa

/- The reference of layer 9: Copy. -/
namespace Go.Proofs.Ytgjdopjolokaiaa
open Go.RowKit

theorem ck_info : (Try.prog.info? 24).map (fun i => (i.zero, i.size, i.bytes)) = some (some (.agg #[.string ByteArray.empty, .int .i64 0, .slice none 0 0, .int .i64 0]), 4, 56) := by kernel_rfl
/-- the cells of a cask -/
def ckCells (c : Ck) (pv : Value) : List Value := [.string c.nm, .int .i64 c.ps, pv, .int .i64 c.dc]
def flatC : List (Ck × Value) → List Value
  | [] => []
  | q :: l => ckCells q.1 q.2 ++ flatC l
theorem flatC_len (l : List (Ck × Value)) : (flatC l).length = l.length * 4 := by
  induction l with
  | nil => rfl
  | cons q l ih => simp only [flatC, ckCells, List.length_append, List.length_cons, List.length_nil, ih]; omega
theorem flatC_app (l m : List (Ck × Value)) : flatC (l ++ m) = flatC l ++ flatC m := by
  induction l with
  | nil => rfl
  | cons q l ih => simp only [List.cons_append, flatC, ih, List.append_assoc]
theorem flatC_at (l : List (Ck × Value)) (j : Nat) (h : j < l.length) : (flatC l)[j * 4]? = some (.string l[j].1.nm) ∧ (flatC l)[j * 4 + 1]? = some (.int .i64 l[j].1.ps) ∧ (flatC l)[j * 4 + 2]? = some l[j].2 ∧ (flatC l)[j * 4 + 3]? = some (.int .i64 l[j].1.dc) := by
  induction l generalizing j with
  | nil => simp at h
  | cons q l ih =>
    cases j with
    | zero => simp [flatC, ckCells]
    | succ j =>
      have := ih j (by simpa using h)
      rw [show (j + 1) * 4 = j * 4 + 1 + 1 + 1 + 1 by omega]
      simp only [flatC, ckCells, List.cons_append, List.nil_append, List.getElem?_cons_succ, List.getElem_cons_succ]
      exact this
theorem own_apart {w : World} {B B' n m size size' : Nat} {e e' : TypeId} {p v : Value} {xs ys : List Value} (he : e ≠ e') (h : w.ownsRow B e size p n xs) (h' : w.ownsRow B' e' size' v m ys) : p.ownBlock = none ∨ p.ownBlock ≠ v.ownBlock := by
  rcases h.2 with ⟨rfl, _⟩ | ⟨g, c, cur, rfl, _, hg, _⟩
  · exact .inl rfl
  · rcases h'.2 with ⟨rfl, _⟩ | ⟨g', c', cur', rfl, _, hg', _⟩
    · right; simp [Value.ownBlock]
    · right
      simp only [Value.ownBlock, ne_eq, Option.some.injEq]
      intro hgg
      rw [hgg, hg'] at hg
      simp only [Option.some.injEq, Obj.cells.injEq] at hg
      exact he hg.2.1.symm
/-- casks of the call's own: the row, and a list of points of one's own for each -/
def OwnC (w : World) (B : Nat) (v : Value) (l : List Ck) : Prop :=
  ∃ ps : List Value, ps.length = l.length ∧ w.ownsRow B 24 4 v l.length (flatC (l.zip ps)) ∧ ∀ q ∈ l.zip ps, OwnP w B q.2 q.1.pf
theorem own_one {w : World} {B n size : Nat} {e : TypeId} {v : Value} {xs : List Value} (h : w.ownsRow B e size v n xs) (B' : Nat) (hB : B' ≤ B) : w.ownsRow B' e size v n xs := by
  obtain ⟨h1, h2⟩ := h
  refine ⟨h1, ?_⟩
  rcases h2 with h2 | ⟨g, c, cur, hv, hg, r⟩
  · exact .inl h2
  · exact .inr ⟨g, c, cur, hv, Nat.le_trans hB hg, r⟩
/-- one more cask -/
theorem OwnC.snoc {W W' : World} {B : Nat} {v v' : Value} {l : List Ck} {c : Ck} {p : Value} {ps : List Value} (h1 : ps.length = l.length) (h2 : W.ownsRow B 24 4 v l.length (flatC (l.zip ps))) (h3 : ∀ q ∈ l.zip ps, OwnP W B q.2 q.1.pf) (hg : W.grownBy W' v.ownBlock) (hp : OwnP W B p c.pf)
    (h4 : W'.ownsRow B 24 4 v' (l.length + 1) (flatC (l.zip ps) ++ ckCells c p)) : OwnC W' B v' (l ++ [c]) := by
  have hz : (l ++ [c]).zip (ps ++ [p]) = l.zip ps ++ [(c, p)] := by
    rw [List.zip_append h1.symm]; rfl
  refine ⟨ps ++ [p], by simp [h1], ?_, ?_⟩
  · rw [hz, flatC_app, List.length_append]
    exact h4
  · rw [hz]
    intro q hq
    have k : OwnP W B q.2 q.1.pf := by
      rcases List.mem_append.1 hq with hq | hq
      · exact h3 q hq
      · rw [List.mem_singleton] at hq; subst hq; exact hp
    exact World.ownsRow.kept k hg (own_apart (by decide) k h2)
theorem row_bel {W W' : World} {B n size : Nat} {e : TypeId} {v : Value} {xs : List Value} (h : W.ownsRow B e size v n xs) (hb : Below W.heap.size W W') : W'.ownsRow B e size v n xs := by
  obtain ⟨h1, h2⟩ := h
  refine ⟨h1, ?_⟩
  rcases h2 with h2 | ⟨g, c, cur, hv, hg, hh, r⟩
  · exact .inl h2
  · refine .inr ⟨g, c, cur, hv, hg, ?_, r⟩
    rw [hb.block g (Array.getElem?_eq_some_iff.1 hh).1]; exact hh
theorem OwnC.below {W W' : World} {B : Nat} {v : Value} {l : List Ck} (h : OwnC W B v l) (hb : Below W.heap.size W W') : OwnC W' B v l := by
  obtain ⟨ps, h1, h2, h3⟩ := h
  exact ⟨ps, h1, row_bel h2 hb, fun q hq => row_bel (h3 q hq) hb⟩
theorem Quad.grown {b : Nat} {W W' : World} {row : Option Nat} {x y z u : Value} (h : Quad b W x y z u) (hg : W.grownBy W' row) (hr : some b ≠ row) : Quad b W' x y z u := by
  obtain ⟨h0, h1, h2, h3, h4, h5⟩ := h
  have e := hg.block b h5 hr
  have f : ∀ k, W'.cell? ⟨b, k, none⟩ = W.cell? ⟨b, k, none⟩ := fun k => World.cell?_of_block (a := ⟨b, k, none⟩) e
  exact ⟨by rw [f]; exact h0, by rw [f]; exact h1, by rw [f]; exact h2, by rw [f]; exact h3, fun k hk => by rw [World.frozen?_of_block (a := ⟨b, k, none⟩) e]; exact h4 k hk, Nat.lt_of_lt_of_le h5 hg.size⟩
theorem Quad.set2 {b : Nat} {W : World} {x y z u : Value} (h : Quad b W x y z u) (t : Value) : Quad b (W.setCell ⟨b, 2, none⟩ t) x y t u := by
  obtain ⟨h0, h1, h2, h3, h4, h5⟩ := h
  refine ⟨?_, ?_, ?_, ?_, fun k hk => ?_, ?_⟩
  · rw [World.cell?_setCell_other _ _ _ _ (by simp)]; exact h0
  · rw [World.cell?_setCell_other _ _ _ _ (by simp)]; exact h1
  · exact World.cell?_setCell_same _ _ _ h2
  · rw [World.cell?_setCell_other _ _ _ _ (by simp)]; exact h3
  · rw [World.frozen?_setCell]; exact h4 k hk
  · simpa [World.setCell] using h5
theorem grown_set (W : World) (b i : Nat) (v : Value) : W.grownBy (W.setCell ⟨b, i, none⟩ v) (some b) :=
  ⟨rfl, rfl, rfl, by simp [World.setCell], fun k _ hne => Below.heap_setCell _ _ _ _ (by intro e; exact hne (by rw [e]))⟩
theorem OwnC.cks {W : World} {B : Nat} {v : Value} {l : List Ck} (h : OwnC W B v l) (hn : ∀ c ∈ l, c.nm.size ≤ 9223372036854775807 ∧ (-9223372036854775808 ≤ c.ps ∧ c.ps ≤ 9223372036854775807) ∧ (-9223372036854775808 ≤ c.dc ∧ c.dc ≤ 9223372036854775807)) : Cks W v l := by
  obtain ⟨ps, h1, h2, h3⟩ := h
  have h2' := h2
  obtain ⟨_, h4⟩ := h2
  rcases h4 with ⟨rfl, h0⟩ | ⟨g, cap, cur, rfl, hg, hh, hc, hm, _⟩
  · exact ⟨none, 0, by rw [h0], by omega, .inl h0⟩
  · have hlt : g < W.heap.size := (Array.getElem?_eq_some_iff.1 hh).1
    unfold maxLen at hm
    refine ⟨_, cap, rfl, ⟨hc, by omega⟩, .inr ⟨g, 0, rfl, hlt, fun j hj => ?_⟩⟩
    have hcell := World.ownsRow.cells h2' (g := g) rfl
    have hjz : j < (l.zip ps).length := by simp; omega
    have hf := flatC_at (l.zip ps) j hjz
    have hz : (l.zip ps)[j] = (l[j], ps[j]'(by omega)) := by simp
    rw [hz] at hf
    obtain ⟨f0, f1, f2, f3⟩ := hf
    have c0 := hcell _ _ f0
    have c1 := hcell _ _ f1
    have c2 := hcell _ _ f2
    have c3 := hcell _ _ f3
    rw [Go.WideShapes.add_plain] at c0 c1 c2 c3
    have hp := OwnP.pts (h3 (l[j], ps[j]'(by omega)) (by rw [← hz]; exact List.getElem_mem _))
    obtain ⟨a, cp, e, _, _⟩ := hp.shape
    simp only at e hp
    rw [e] at hp c2
    exact ⟨_, _, _, _, c0, by rw [Nat.add_assoc]; exact c1, by rw [Nat.add_assoc]; exact c2, by rw [Nat.add_assoc]; exact c3, a, cp, rfl, hp, hn _ (List.getElem_mem _)⟩
theorem own_far {w : World} {B n size b i : Nat} {e : TypeId} {v z : Value} {xs : List Value} (h : w.ownsRow B e size v n xs) (hb : b < B) : (w.setCell ⟨b, i, none⟩ z).ownsRow B e size v n xs :=
  World.ownsRow.kept h (grown_set w b i z) (by
    by_cases q : v.ownBlock = some b
    · have := (h.lt b q).1; omega
    · exact .inr q)
theorem OwnC.one {W : World} {B : Nat} {u : Value} {c : Ck} (h : OwnC W B u [c]) : ∃ g cap a cp, u = .slice (some ⟨g, 0, none⟩) 1 cap ∧ B ≤ g ∧ W.cell? ⟨g, 0, none⟩ = some (.string c.nm) ∧ W.cell? ⟨g, 1, none⟩ = some (.int .i64 c.ps) ∧ W.cell? ⟨g, 2, none⟩ = some (.slice a c.pf.length cp) ∧ W.cell? ⟨g, 3, none⟩ = some (.int .i64 c.dc) ∧ OwnP W B (.slice a c.pf.length cp) c.pf := by
  obtain ⟨ps, h1, h2, h3⟩ := h
  obtain ⟨p, rfl⟩ : ∃ p, ps = [p] := by
    rcases ps with _ | ⟨p, _ | ⟨q, ps⟩⟩ <;> simp at h1
    exact ⟨p, rfl⟩
  have hP : OwnP W B p c.pf := h3 (c, p) (by simp)
  obtain ⟨a, cp, rfl, _, _⟩ := hP.pts.shape
  have h2' := h2
  obtain ⟨_, h4⟩ := h2
  rcases h4 with ⟨_, h0⟩ | ⟨g, cap, cur, rfl, hg, _⟩
  · simp at h0
  · have hcell := World.ownsRow.cells h2' (g := g) rfl
    have c0 := hcell 0 (.string c.nm) (by simp [flatC, ckCells])
    have c1 := hcell 1 (.int .i64 c.ps) (by simp [flatC, ckCells])
    have c2 := hcell 2 (.slice a c.pf.length cp) (by simp [flatC, ckCells])
    have c3 := hcell 3 (.int .i64 c.dc) (by simp [flatC, ckCells])
    rw [Go.WideShapes.add_plain] at c0 c1 c2 c3
    exact ⟨g, cap, a, cp, rfl, hg, c0, c1, c2, c3, hP⟩
end Go.Proofs.Ytgjdopjolokaiaa

/- The reference of layer 9: Copy, walked. -/
namespace Go.Proofs.Ytgjdopjolokaiaa
open Go.RowKit

theorem wpList_append_run {P : Program} {w : World} {ops : Array Oper} {rest : List Oper} {o : Oper} {a : Act} {Q : Exit → Act → World → Prop} (hgd : o.guard = none) (s x : Operand) (t : TypeId)
    (ho : o.op = .call { callee := .builtin .append, args := #[s, x], argTypes := #[t, t] }) (v x' v' : Value) (w' : World) (hs : a.eval s = v) (hx : a.eval x = x')
    (hr : (Builtin.append_ #[t, t] o.type #[v, x']).run P w = .ok v' w') (h : wpList P ops Q rest (a.put o.dst v') w') : wpList P ops Q (o :: rest) a w := by
  refine wpList_plain hgd fun K hK => ?_
  unfold Oper.wp execOp
  simp only [ho, resolve, invoke, builtin, Sem.run_bind, Sem.run_pure, Result.andThen_ok, List.map_toArray, List.map_cons, List.map_nil, hs, hx, hr]
  exact hK _ _ h
theorem ckCells_one (c : Ck) (p : Value) (hp : p.oneCell' = true) : ∀ u ∈ ckCells c p, u.oneCell' = true := by
  intro u hu
  simp only [ckCells, List.mem_cons, List.not_mem_nil, or_false] at hu
  rcases hu with rfl | rfl | rfl | rfl <;> first | rfl | exact hp
theorem own_oneCell {W : World} {B n size : Nat} {e : TypeId} {v : Value} {xs : List Value} (h : W.ownsRow B e size v n xs) : v.oneCell' = true := by
  rcases h.2 with ⟨rfl, _⟩ | ⟨g, c, cur, rfl, _⟩ <;> rfl
/-- a block of four cells that was laid, as what is appended -/
theorem quad_news (w : World) (x y z u : Value) (t : TypeId) : ∀ j v, [x, y, z, u][j]? = some v → (w.alloc (.cells #[x, y, z, u] t)).cell? ((⟨w.heap.size, 0, none⟩ : Addr).add j) = some v := by
  intro j v hj
  have hlt : j < 4 := by have := (List.getElem?_eq_some_iff.1 hj).1; simpa using this
  rw [Go.WideShapes.add_plain, World.cell?_alloc_new]
  simpa using hj
set_option maxHeartbeats 16000000 in
set_option maxRecDepth 100000 in
theorem refCopy_some (b off n cap : Nat) (l : List Ck) (w : World) (n1 : n ≤ 1000) (hn : Hid (n = l.length)) (hb : b < w.heap.size) (hp : Hid (∀ c ∈ l, c.pf.length ≤ 1000))
    (hc : Hid (∀ j (hj : j < l.length), CkAt w b off j l[j])) :
    Calls Try.prog 45 #[.slice (some ⟨b, off, none⟩) n cap] w fun e w' => ∃ u, e = .returned u ∧ OwnC w' w.heap.size u l ∧ Below w.heap.size w w' := by
  obtain ⟨i0, hi0, hz0, hz1, hz2⟩ := info_parts pt_info
  obtain ⟨j0, hj0, gz0, gz1, gz2⟩ := info_parts ck_info
  have hi0 := Lib.hid hi0
  have hz0 := Lib.hid hz0
  have hz1 := Lib.hid hz1
  have hz2 := Lib.hid hz2
  have hj0 := Lib.hid hj0
  have gz0 := Lib.hid gz0
  have gz1 := Lib.hid gz1
  have gz2 := Lib.hid gz2
  go_enter Try.func45, Try.ntmps45
  go_wp2_with fail
  go_loopw [3, 4] (fun out ii wr => ∃ k : Nat, k ≤ n ∧ ii = .int .i64 k ∧ Hid (OwnC wr w.heap.size out (l.take k)) ∧ Hid (Below w.heap.size w wr)) (fun _ ii _ => n - (intOf ii).toNat)
  case atStart => exact ⟨0, by omega, rfl, ⟨[], rfl, World.ownsRow_nil _ _ _ _, fun q hq => by simp at hq⟩, Below.refl _ _⟩
  case round =>
    obtain ⟨k, hk, rfl, hO, hB⟩ := hrel
    by_cases hlt : k < n
    · have hkl : k < l.length := by rw [← hn.out]; exact hlt
      obtain ⟨a, cp, c0, c1, c2, c3, hP, _⟩ := (hc.out k hkl).below hb hB.out
      have hP := Lib.hid hP
      have hs := hp.out _ (List.getElem_mem hkl)
      have eT : l.take (k + 1) = l.take k ++ [l[k]] := by rw [List.take_succ_eq_append_getElem hkl]
      have eT := Lib.hid eT
      have hT : (l.take k).length = k := by simp; omega
      have hT := Lib.hid hT
      have l1 : (k : Int) < (n : Int) := by omega
      generalize hcc : l[k] = c at *
      have HB0 := hB.out
      have HS := Lib.hid HB0.size
      cases a with
      | none =>
        have hL : c.pf = [] := by
          obtain ⟨a', cp', e, _, hh⟩ := hP.out
          rcases hh with hh | ⟨pb, poff, e2, _⟩
          · exact List.length_eq_zero_iff.1 hh
          · simp only [Value.slice.injEq] at e
            rw [e2] at e; cases e.1
        have hL0 : c.pf.length = 0 := by rw [hL]; rfl
        rw [hL0] at c2
        have AN : ∀ W : World, (Builtin.append_ #[22, 22] 22 #[.slice (some ⟨wr.heap.size + 1, 0, none⟩) 0 0, .slice none 0 cp]).run Try.prog W = .ok (.slice (some ⟨wr.heap.size + 1, 0, none⟩) 0 0) W := fun W => run_append_nothing W _ _ _ 33 i0 Try.underlying22 hi0.out _ 0 0 (Nat.le_refl _) _ (Src.ofNil W Try.underlying22 cp)
        have oc : (Value.slice (some ⟨wr.heap.size + 1, 0, none⟩) 0 0).oneCell' = true := rfl
        clear hP
        generalize hnm : c.nm = nm at *
        generalize hps : c.ps = ps at *
        generalize hdc : c.dc = dc at *
        have OP2 : Hid (OwnP ((wr.alloc (.cells #[.string nm, .int .i64 ps, .slice (some ⟨wr.heap.size + 1, 0, none⟩) 0 0, .int .i64 dc] 24)).alloc (.cells #[] 33)) w.heap.size (.slice (some ⟨wr.heap.size + 1, 0, none⟩) 0 0) c.pf) := by
          have := World.ownsRow_made (e := 33) (size := 2) (base := w.heap.size) (wr.alloc (.cells #[.string nm, .int .i64 ps, .slice (some ⟨wr.heap.size + 1, 0, none⟩) 0 0, .int .i64 dc] 24)) #[] 0 (by have := HB0.size; simp; omega) (Nat.zero_le _) (by simp)
          simp only [World.size_alloc] at this
          exact Lib.hid (by unfold OwnP; rw [hL]; exact this)
        have X2 : Hid (Below wr.heap.size wr ((wr.alloc (.cells #[.string nm, .int .i64 ps, .slice (some ⟨wr.heap.size + 1, 0, none⟩) 0 0, .int .i64 dc] 24)).alloc (.cells #[] 33))) := Lib.hid (bel_alloc (bel_alloc (Below.refl _ _)))
        clear HB0
        have FN : Hid (∀ j u, (ckCells c (.slice (some ⟨wr.heap.size + 1, 0, none⟩) 0 0))[j]? = some u → (((wr.alloc (.cells #[.string nm, .int .i64 ps, .slice (some ⟨wr.heap.size + 1, 0, none⟩) 0 0, .int .i64 dc] 24)).alloc (.cells #[] 33)).alloc (.cells #[.string nm, .int .i64 ps, (.slice (some ⟨wr.heap.size + 1, 0, none⟩) 0 0), .int .i64 dc] 24)).cell? ((⟨wr.heap.size + 1 + 1, 0, none⟩ : Addr).add j) = some u) := by
          have := quad_news ((wr.alloc (.cells #[.string nm, .int .i64 ps, .slice (some ⟨wr.heap.size + 1, 0, none⟩) 0 0, .int .i64 dc] 24)).alloc (.cells #[] 33)) (.string nm) (.int .i64 ps) (.slice (some ⟨wr.heap.size + 1, 0, none⟩) 0 0) (.int .i64 dc) 24
          have e : ((wr.alloc (.cells #[.string nm, .int .i64 ps, .slice (some ⟨wr.heap.size + 1, 0, none⟩) 0 0, .int .i64 dc] 24)).alloc (.cells #[] 33)).heap.size = wr.heap.size + 1 + 1 := by simp [World.setCell]
          rw [e] at this
          exact Lib.hid (by rw [← hnm, ← hps, ← hdc] at *; exact this)
        have X3 := X2.out.alloc X2.out.size (.cells #[.string nm, .int .i64 ps, (.slice (some ⟨wr.heap.size + 1, 0, none⟩) 0 0), .int .i64 dc] 24)
        obtain ⟨qs, o1, o2, o3⟩ := hO.out.below X3
        rw [hT.out] at o2
        have OP3 := row_bel OP2.out (bel_alloc (o := .cells #[.string nm, .int .i64 ps, (.slice (some ⟨wr.heap.size + 1, 0, none⟩) 0 0), .int .i64 dc] 24) (Below.refl _ _))
        have BS : Hid (w.heap.size ≤ (((wr.alloc (.cells #[.string nm, .int .i64 ps, .slice (some ⟨wr.heap.size + 1, 0, none⟩) 0 0, .int .i64 dc] 24)).alloc (.cells #[] 33)).alloc (.cells #[.string nm, .int .i64 ps, (.slice (some ⟨wr.heap.size + 1, 0, none⟩) 0 0), .int .i64 dc] 24)).heap.size) := Lib.hid (Nat.le_trans HS.out X3.size)
        have O1 := Lib.hid o1
        have O2 := Lib.hid o2
        have O3 := Lib.hid o3
        have Y3 := Lib.hid X3
        have P3 := Lib.hid OP3
        have OC := Lib.hid oc
        clear o1 o2 o3 X3 OP3 oc X2 OP2
        go_wp2_with (at_builtin; first | (refine wpList_append_run rfl _ _ 22 rfl _ _ _ _ rfl rfl (AN _) ?_) | (refine wpList_append_own_at _ rfl _ _ 66 rfl w.heap.size 24 j0 (.agg #[.string ByteArray.empty, .int .i64 0, .slice none 0 0, .int .i64 0]) 4 56 Try.underlying66 hj0.out gz0.out gz1.out gz2.out rfl (by omega) _ _ _ rfl O2.out ⟨wr.heap.size + 1 + 1, 0, none⟩ 1 1 (ckCells c (.slice (some ⟨wr.heap.size + 1, 0, none⟩) 0 0)) rfl rfl FN.out (ckCells_one c (.slice (some ⟨wr.heap.size + 1, 0, none⟩) 0 0) OC.out) ?qd4 ?qd5 BS.out ?_))
        case qd4 => unfold maxLen; omega
        case qd5 => omega
        intro v2 w2 hown hgrow _ hat
        have SN := Lib.hid (OwnC.snoc (c := c) O1.out (by rw [hT.out]; exact O2.out) O3.out hgrow P3.out (by rw [hT.out]; exact hown))
        rw [← eT.out] at SN
        have B2 := Lib.hid ((bel_trans hB.out Y3.out).grown hgrow BS.out (fun q hq => (World.ownsRow.lt O2.out q hq).1))
        clear hown hgrow hat O1 O2 O3 P3 FN
        go_wp2
        go_roundw
        case rel => exact ⟨k + 1, by omega, by go_num, SN, B2⟩
        case measure => simp [intOf]; omega
      | some ad =>
        have NW : Hid (∀ W, Below wr.heap.size wr W → ∀ j u, (flat c.pf)[j]? = some u → W.cell? (ad.add j) = some u) := fun W hW j u hj => by
          have hq := hP.out.below hW
          obtain ⟨a', cp', e, _, hh⟩ := hq
          simp only [Value.slice.injEq] at e
          obtain ⟨rfl, _, rfl⟩ := e
          rcases hh with hh | ⟨pb, poff, e, _, hcl⟩
          · obtain h0 := List.length_eq_zero_iff.1 hh
            rw [h0] at hj; simp [flat] at hj
          · obtain rfl := Option.some.inj e
            obtain ⟨i, hi, ⟨rfl, rfl⟩ | ⟨rfl, rfl⟩⟩ := flat_inv c.pf j u hj
            · rw [Go.WideShapes.add_plain]; exact (hcl i hi).1
            · rw [Go.WideShapes.add_plain, ← Nat.add_assoc]; exact (hcl i hi).2
        have OM : Hid (((wr.alloc (.cells #[.string c.nm, .int .i64 c.ps, .slice (some ad) c.pf.length cp, .int .i64 c.dc] 24)).alloc (.cells #[] 33)).ownsRow w.heap.size 33 2 (.slice (some ⟨wr.heap.size + 1, 0, none⟩) 0 0) 0 []) := by
          have := World.ownsRow_made (e := 33) (size := 2) (base := w.heap.size) (wr.alloc (.cells #[.string c.nm, .int .i64 c.ps, .slice (some ad) c.pf.length cp, .int .i64 c.dc] 24)) #[] 0 (by have := HB0.size; simp; omega) (Nat.zero_le _) (by simp)
          exact Lib.hid (by simpa using this)
        have F0 := Lib.hid ((Quad.new wr (.string c.nm) (.int .i64 c.ps) (.slice (some ad) c.pf.length cp) (.int .i64 c.dc) 24).alloc (.cells #[] 33))
        have fl := Lib.hid (flat_len c.pf)
        have fo := Lib.hid (flat_one c.pf)
        clear HB0 hP
        generalize hL : c.pf.length = L at *
        generalize hnm : c.nm = nm at *
        generalize hps : c.ps = ps at *
        generalize hdc : c.dc = dc at *
        go_wp2_with (at_builtin; refine wpList_append_own_at _ rfl _ _ 22 rfl w.heap.size 33 i0 (.agg #[.int .i64 0, .int .i64 0]) 2 16 Try.underlying22 hi0.out hz0.out hz1.out hz2.out rfl (by omega) _ _ _ rfl OM.out ad L cp (flat c.pf) rfl ?qc1 ?qc2 ?qc3 ?qc4 ?qc5 ?qc6 ?_)
        case qc1 => exact fl.out
        case qc2 => exact NW.out _ (bel_alloc (bel_alloc (Below.refl _ _)))
        case qc3 => exact fo.out
        case qc4 => rw [Nat.zero_add]; unfold maxLen; omega
        case qc5 => rw [Nat.zero_add]; omega
        case qc6 => have := HS.out; simp; omega
        intro v0 w1 hown hgrow hnil hat
        obtain ⟨g', cap', hv0⟩ : ∃ g' cap', v0 = .slice (some ⟨g', 0, none⟩) L cap' := by
          rcases hown.2 with ⟨h0, _⟩ | ⟨g', cap', _, h0, _⟩
          · exact absurd h0 (by simpa using hnil)
          · exact ⟨g', cap', by simpa using h0⟩
        subst hv0
        clear hnil
        have hvb : (Value.slice (some ⟨g', 0, none⟩) L cap').ownBlock ≠ some wr.heap.size := by
          rcases hat with hat | hat
          · rw [hat]; simp [Value.ownBlock]
          · rw [hat]; simp; omega
        have F1 := Lib.hid (F0.out.grown hgrow (by simp [Value.ownBlock]))
        have X1 := Lib.hid ((bel_alloc (bel_alloc (Below.refl _ _)) : Below wr.heap.size wr _).grown hgrow (by simp; omega) (by intro q hq; simp [Value.ownBlock] at hq; omega))
        have OP : Hid (OwnP w1 w.heap.size (.slice (some ⟨g', 0, none⟩) L cap') c.pf) := Lib.hid (by unfold OwnP; rw [hL]; simpa using hown)
        have oc := own_oneCell hown
        clear hown hgrow hat F0 OM NW fl fo
        obtain ⟨f0, f1, f2, f3, f4, f5⟩ := F1.out
        have f42 := f4 2 (by omega)
        obtain ⟨g0, g1, g2, g3, _, _⟩ := F1.out.set2 (.slice (some ⟨g', 0, none⟩) L cap')
        have OP2 : Hid (OwnP (w1.setCell ⟨wr.heap.size, 2, none⟩ (.slice (some ⟨g', 0, none⟩) L cap')) w.heap.size (.slice (some ⟨g', 0, none⟩) L cap') c.pf) := Lib.hid (World.ownsRow.kept OP.out (grown_set w1 wr.heap.size 2 (.slice (some ⟨g', 0, none⟩) L cap')) (.inr hvb))
        have X2 := Lib.hid (X1.out.setCell (p := ⟨wr.heap.size, 2, none⟩) (Nat.le_refl _) (.slice (some ⟨g', 0, none⟩) L cap'))
        clear f4
        have FN : Hid (∀ j u, (ckCells c (.slice (some ⟨g', 0, none⟩) L cap'))[j]? = some u → ((w1.setCell ⟨wr.heap.size, 2, none⟩ (.slice (some ⟨g', 0, none⟩) L cap')).alloc (.cells #[.string nm, .int .i64 ps, (.slice (some ⟨g', 0, none⟩) L cap'), .int .i64 dc] 24)).cell? ((⟨w1.heap.size, 0, none⟩ : Addr).add j) = some u) := by
          have := quad_news (w1.setCell ⟨wr.heap.size, 2, none⟩ (.slice (some ⟨g', 0, none⟩) L cap')) (.string nm) (.int .i64 ps) (.slice (some ⟨g', 0, none⟩) L cap') (.int .i64 dc) 24
          have e : (w1.setCell ⟨wr.heap.size, 2, none⟩ (.slice (some ⟨g', 0, none⟩) L cap')).heap.size = w1.heap.size := by simp [World.setCell]
          rw [e] at this
          exact Lib.hid (by rw [← hnm, ← hps, ← hdc] at *; exact this)
        have X3 := X2.out.alloc X2.out.size (.cells #[.string nm, .int .i64 ps, (.slice (some ⟨g', 0, none⟩) L cap'), .int .i64 dc] 24)
        obtain ⟨qs, o1, o2, o3⟩ := hO.out.below X3
        rw [hT.out] at o2
        have OP3 := row_bel OP2.out (bel_alloc (o := .cells #[.string nm, .int .i64 ps, (.slice (some ⟨g', 0, none⟩) L cap'), .int .i64 dc] 24) (Below.refl _ _))
        have BS : Hid (w.heap.size ≤ ((w1.setCell ⟨wr.heap.size, 2, none⟩ (.slice (some ⟨g', 0, none⟩) L cap')).alloc (.cells #[.string nm, .int .i64 ps, (.slice (some ⟨g', 0, none⟩) L cap'), .int .i64 dc] 24)).heap.size) := Lib.hid (Nat.le_trans HS.out X3.size)
        have O1 := Lib.hid o1
        have O2 := Lib.hid o2
        have O3 := Lib.hid o3
        have Y3 := Lib.hid X3
        have P3 := Lib.hid OP3
        have OC := Lib.hid oc
        clear o1 o2 o3 X3 OP3 oc X1 X2 OP OP2 F1
        go_wp2_with (at_builtin; refine wpList_append_own_at _ rfl _ _ 66 rfl w.heap.size 24 j0 (.agg #[.string ByteArray.empty, .int .i64 0, .slice none 0 0, .int .i64 0]) 4 56 Try.underlying66 hj0.out gz0.out gz1.out gz2.out rfl (by omega) _ _ _ rfl O2.out ⟨w1.heap.size, 0, none⟩ 1 1 (ckCells c (.slice (some ⟨g', 0, none⟩) L cap')) rfl rfl FN.out (ckCells_one c (.slice (some ⟨g', 0, none⟩) L cap') OC.out) ?qd4 ?qd5 BS.out ?_)
        case qd4 => unfold maxLen; omega
        case qd5 => omega
        intro v2 w2 hown hgrow _ hat
        have SN := Lib.hid (OwnC.snoc (c := c) O1.out (by rw [hT.out]; exact O2.out) O3.out hgrow P3.out (by rw [hT.out]; exact hown))
        rw [← eT.out] at SN
        have B2 := Lib.hid ((bel_trans hB.out Y3.out).grown hgrow BS.out (fun q hq => (World.ownsRow.lt O2.out q hq).1))
        clear hown hgrow hat O1 O2 O3 P3 FN
        go_wp2
        go_roundw
        case rel => exact ⟨k + 1, by omega, by go_num, SN, B2⟩
        case measure => simp [intOf]; omega
    · obtain rfl : k = n := by omega
      go_wp2
      go_returns
      exact ⟨_, rfl, by have := hO.out; rwa [hn.out, List.take_length] at this, hB.out⟩
theorem refCopy_nil (a : Option Addr) (cap : Nat) (w : World) :
    Calls Try.prog 45 #[.slice a 0 cap] w fun e w' => ∃ u, e = .returned u ∧ OwnC w' w.heap.size u [] ∧ Below w.heap.size w w' := by
  have H0 : Hid (OwnC w w.heap.size (.slice none 0 0) []) := ⟨[], rfl, World.ownsRow_nil _ _ _ _, fun q hq => by simp at hq⟩
  go_enter Try.func45, Try.ntmps45
  go_wp2_with fail
  go_loopw [3, 4] (fun out ii wr => ii = .int .i64 0 ∧ out = .slice none 0 0 ∧ wr = w) (fun _ _ _ => 0)
  case atStart => exact ⟨rfl, rfl, rfl⟩
  case round =>
    obtain ⟨rfl, rfl, rfl⟩ := hrel
    go_wp2
    go_returns
    exact ⟨_, rfl, H0.out, Below.refl _ _⟩
theorem refCopy_any (v : Value) (l : List Ck) (w : World) (hv : Cks w v l) (hl : l.length ≤ 1000) (hp : ∀ c ∈ l, c.pf.length ≤ 1000) :
    Calls Try.prog 45 #[v] w fun e w' => ∃ u, e = .returned u ∧ OwnC w' w.heap.size u l ∧ Below w.heap.size w w' := by
  by_cases h0 : 0 < l.length
  · obtain ⟨b, off, cap, rfl, hb, _, hc⟩ := hv.cks h0
    exact refCopy_some b off _ cap l w hl rfl hb hp hc
  · obtain ⟨a, cap, rfl, _⟩ := hv.shape
    obtain rfl : l = [] := List.length_eq_zero_iff.1 (by omega)
    exact refCopy_nil a cap w
/-- the numbers of a cask are in the machine's range -/
def CkW (c : Ck) : Prop := c.nm.size ≤ 9223372036854775807 ∧ (-9223372036854775808 ≤ c.ps ∧ c.ps ≤ 9223372036854775807) ∧ (-9223372036854775808 ≤ c.dc ∧ c.dc ≤ 9223372036854775807)
theorem Cks.wide {W : World} {v : Value} {l : List Ck} (h : Cks W v l) : ∀ c ∈ l, CkW c := by
  intro c hc
  obtain ⟨j, hj, rfl⟩ := List.getElem_of_mem hc
  obtain ⟨b, off, cap, _, _, _, g⟩ := h.cks (by omega)
  obtain ⟨_, _, _, _, _, _, _, r⟩ := g j hj
  exact r
end Go.Proofs.Ytgjdopjolokaiaa

/- The reference of layer 9: Few. -/
namespace Go.Proofs.Ytgjdopjolokaiaa
open Go.RowKit

def fewC (c : Ck) : Bool := decide (c.pf.length ≤ 33) && decide (c.nm.size ≤ 70)
def fewB (l : List Ck) : Bool := l.all fewC && decide (l.length ≤ 33)
set_option maxHeartbeats 8000000 in
theorem refFew_some (b off n cap : Nat) (l : List Ck) (B : Bool) (w : World) (hn : Hid (n = l.length)) (nc : n ≤ 9223372036854775807) (hb : b < w.heap.size)
    (hc : Hid (∀ j (hj : j < l.length), CkAt w b off j l[j]))
    (h1 : Hid ((∃ c ∈ l, fewC c = false) → B = false)) (h2 : Hid ((∀ c ∈ l, fewC c = true) → B = decide (n ≤ 33))) :
    Calls Try.prog 33 #[.slice (some ⟨b, off, none⟩) n cap] w fun e w' => e = .returned (.bool B) ∧ w' = w := by
  go_enter Try.func33, Try.ntmps33
  go_wp2_with fail
  go_loopw [3] (fun ii wr => ∃ k : Nat, k ≤ n ∧ ii = .int .i64 k ∧ wr = w ∧ Hid (∀ j (hj : j < l.length), j < k → fewC l[j] = true)) (fun ii _ => n - (intOf ii).toNat)
  case atStart => exact ⟨0, by omega, rfl, rfl, fun j hj h => by omega⟩
  case round =>
    obtain ⟨k, hk, rfl, rfl, ha⟩ := hrel
    by_cases hlt : k < n
    · have hkl : k < l.length := by rw [← hn.out]; exact hlt
      obtain ⟨a, cp, c0, c1, c2, c3, hP, hs, _⟩ := hc.out k hkl
      have HT : Hid (fewC l[k] = true → ∀ j (hj : j < l.length), j < k + 1 → fewC l[j] = true) := fun h j hj hj2 => by
        by_cases e : j = k
        · subst e; exact h
        · exact ha.out j hj (by omega)
      have HF : Hid (fewC l[k] = false → B = false) := fun h => h1.out ⟨_, List.getElem_mem hkl, h⟩
      have FW := Lib.hid (few_any _ _ wr hP)
      have HP := Lib.hid hP
      have l1 : (k : Int) < (n : Int) := by omega
      generalize l[k] = c at *
      unfold fewC at HT HF
      clear ha h1 h2 hc
      by_cases q1 : c.pf.length ≤ 33
      · rw [decide_eq_true q1] at FW HT HF
        have fe := FW
        clear hP
        by_cases q2 : c.nm.size ≤ 70
        · have d0 : decide ((70 : Int) < (c.nm.size : Int)) = false := decide_eq_false (by omega)
          rw [decide_eq_true q2] at HT
          have hx := Lib.hid (HT.out rfl)
          clear HT HF q1 q2
          generalize c.pf.length = L at *
          go_wp2_with fail
          refine FW.out.mono ?_
          rintro e w1 ⟨rfl, hw⟩
          subst hw
          go_wp2
          go_roundw
          case rel => exact ⟨k + 1, by omega, by go_num, by first | rfl | trivial, hx⟩
          case measure => simp [intOf]; omega
        · have d0 : decide ((70 : Int) < (c.nm.size : Int)) = true := decide_eq_true (by omega)
          rw [decide_eq_false q2] at HF
          obtain rfl := HF.out rfl
          clear HT HF q1 q2
          generalize c.pf.length = L at *
          go_wp2_with fail
          refine FW.out.mono ?_
          rintro e w1 ⟨rfl, hw⟩
          subst hw
          go_wp2
          go_returns
          exact ⟨rfl, rfl⟩
      · rw [decide_eq_false q1] at FW HF
        obtain rfl := HF.out rfl
        clear HT HF q1 hP
        generalize c.pf.length = L at *
        go_wp2_with fail
        refine FW.out.mono ?_
        rintro e w1 ⟨rfl, hw⟩
        subst hw
        go_wp2
        go_returns
        exact ⟨rfl, rfl⟩
    · obtain rfl : k = n := by omega
      have hB := h2.out (fun c hc => by
        obtain ⟨j, hj, rfl⟩ := List.getElem_of_mem hc
        exact ha.out j hj (by rw [hn.out]; exact hj))
      have hB2 : B = decide ((k : Int) ≤ 33) := by rw [hB]; exact decide_eq_decide.2 (by omega)
      clear hB h1 h2 ha hc
      subst hB2
      go_wp2
      go_returns
      exact ⟨by first | rfl | simp, rfl⟩
theorem refFew_nil (a : Option Addr) (cap : Nat) (w : World) :
    Calls Try.prog 33 #[.slice a 0 cap] w fun e w' => e = .returned (.bool true) ∧ w' = w := by
  go_enter Try.func33, Try.ntmps33
  go_wp2_with fail
  go_loopw [3] (fun ii wr => ii = .int .i64 0 ∧ wr = w) (fun _ _ => 0)
  case atStart => exact ⟨rfl, rfl⟩
  case round =>
    obtain ⟨rfl, rfl⟩ := hrel
    go_wp2
    go_returns
    exact ⟨rfl, rfl⟩
theorem refFew_any (v : Value) (l : List Ck) (w : World) (hv : Cks w v l) :
    Calls Try.prog 33 #[v] w fun e w' => e = .returned (.bool (fewB l)) ∧ w' = w := by
  by_cases h0 : 0 < l.length
  · obtain ⟨b, off, cap, rfl, hb, hl, hc⟩ := hv.cks h0
    refine refFew_some b off _ cap l _ w rfl (by omega) hb hc (fun ⟨c, hc, h⟩ => ?_) (fun h => ?_)
    · show fewB l = false
      unfold fewB
      rw [show l.all fewC = false by rw [List.all_eq_false]; exact ⟨c, hc, by rw [h]; simp⟩]; rfl
    · show fewB l = _
      unfold fewB
      rw [show l.all fewC = true by rw [List.all_eq_true]; exact h]; simp
  · obtain ⟨a, cap, rfl, _⟩ := hv.shape
    obtain rfl : l = [] := List.length_eq_zero_iff.1 (by omega)
    exact refFew_nil a cap w
end Go.Proofs.Ytgjdopjolokaiaa

/- A cask in a box: copies of it by a closure, and as a list of one. -/
namespace Go.Proofs.Ytgjdopjolokaiaa
open Go.RowKit

/-- a cask in a block of the call's own -/
def CkB (q : Nat) (W : World) (c : Ck) : Prop :=
  ∃ a cap, Quad q W (.string c.nm) (.int .i64 c.ps) (.slice a c.pf.length cap) (.int .i64 c.dc) ∧ Pts W (.slice a c.pf.length cap) c.pf ∧ CkW c
theorem CkB.below {q : Nat} {W W' : World} {c : Ck} (h : CkB q W c) (hb : Below W.heap.size W W') : CkB q W' c := by
  obtain ⟨a, cap, h1, h2, h3⟩ := h
  exact ⟨a, cap, h1.below hb, h2.below hb, h3⟩
theorem CkB.alloc {q : Nat} {W : World} {c : Ck} (h : CkB q W c) (o : Obj) : CkB q (W.alloc o) c := h.below (bel_alloc (Below.refl _ _))
theorem CkB.val {q : Nat} {W : World} {c : Ck} (h : CkB q W c) : ∃ a cap, W.cell? ⟨q, 0, none⟩ = some (.string c.nm) ∧ W.cell? ⟨q, 1, none⟩ = some (.int .i64 c.ps) ∧ W.cell? ⟨q, 2, none⟩ = some (.slice a c.pf.length cap) ∧ W.cell? ⟨q, 3, none⟩ = some (.int .i64 c.dc) ∧ CkV W (.agg #[.string c.nm, .int .i64 c.ps, .slice a c.pf.length cap, .int .i64 c.dc]) c := by
  obtain ⟨a, cap, ⟨h0, h1, h2, h3, _, _⟩, hp, hw⟩ := h
  exact ⟨a, cap, h0, h1, h2, h3, a, cap, rfl, hp, hw⟩
theorem CkB.new {W : World} {c : Ck} {a : Option Addr} {cap : Nat} (hp : Pts W (.slice a c.pf.length cap) c.pf) (hw : CkW c) : CkB W.heap.size (W.alloc (.cells #[.string c.nm, .int .i64 c.ps, .slice a c.pf.length cap, .int .i64 c.dc] 24)) c :=
  ⟨a, cap, Quad.new _ _ _ _ _ _, hp.alloc _, hw⟩
/-- a list of one, laid now -/
theorem cks_one {W : World} {c : Ck} {a : Option Addr} {cap : Nat} (hp : Pts W (.slice a c.pf.length cap) c.pf) (hw : CkW c) : Cks (W.alloc (.cells #[.string c.nm, .int .i64 c.ps, .slice a c.pf.length cap, .int .i64 c.dc] 24)) (.slice (some ⟨W.heap.size, 0, none⟩) 1 1) [c] := by
  obtain ⟨h0, h1, h2, h3, _, h5⟩ := Quad.new W (.string c.nm) (.int .i64 c.ps) (.slice a c.pf.length cap) (.int .i64 c.dc) 24
  refine ⟨_, 1, rfl, by simp, .inr ⟨W.heap.size, 0, rfl, h5, fun j hj => ?_⟩⟩
  obtain rfl : j = 0 := by simpa using hj
  exact ⟨_, _, _, _, h0, h1, h2, h3, a, cap, rfl, hp.alloc _, hw⟩
theorem few_one (c : Ck) : fewB [c] = fewC c := by unfold fewB; simp
theorem fewC_pf {c : Ck} (h : fewC c = true) : c.pf.length ≤ 33 ∧ c.nm.size ≤ 70 := by
  unfold fewC at h; simpa using h
end Go.Proofs.Ytgjdopjolokaiaa

/- The statements about layer 11: casks are copied; few. -/
namespace Go.Proofs.Ytgjdopjolokaiaa
open Go.RowKit

set_option maxHeartbeats 8000000 in
set_option maxRecDepth 100000 in
theorem own_core (c : Ck) (a : Option Addr) (n cap : Nat) (w : World) (hn : n = c.pf.length) (hp : c.pf.length ≤ 1000) (hP : Pts w (.slice a n cap) c.pf) (hW : CkW c) :
    Calls Try.prog 15 #[.agg #[.string c.nm, .int .i64 c.ps, .slice a n cap, .int .i64 c.dc]] w fun e w' => ∃ u, e = .returned u ∧ CkV w' u c ∧ Below w.heap.size w w' := by
  have T0 := Quad.new (w.alloc (.cells #[.string c.nm, .int .i64 c.ps, .slice a n cap, .int .i64 c.dc] 24)) (.string ByteArray.empty) (.int .i64 0) (.slice none 0 0) (.int .i64 0) 24
  rw [World.size_alloc] at T0
  replace T0 := Lib.hid (T0.alloc (.cells #[.string c.nm, .int .i64 c.ps, .slice a n cap, .int .i64 c.dc] 24))
  have hHC : Calls Try.prog 45 #[.slice (some ⟨w.heap.size + 1 + 1, 0, none⟩) 1 1] (((w.alloc (.cells #[.string c.nm, .int .i64 c.ps, .slice a n cap, .int .i64 c.dc] 24)).alloc (.cells #[.string ByteArray.empty, .int .i64 0, .slice none 0 0, .int .i64 0] 24)).alloc (.cells #[.string c.nm, .int .i64 c.ps, .slice a n cap, .int .i64 c.dc] 24)) fun e w' => ∃ u, e = .returned u ∧ OwnC w' (w.heap.size + 1 + 1 + 1) u [c] ∧ Below (w.heap.size + 1 + 1 + 1) (((w.alloc (.cells #[.string c.nm, .int .i64 c.ps, .slice a n cap, .int .i64 c.dc] 24)).alloc (.cells #[.string ByteArray.empty, .int .i64 0, .slice none 0 0, .int .i64 0] 24)).alloc (.cells #[.string c.nm, .int .i64 c.ps, .slice a n cap, .int .i64 c.dc] 24)) w' := by
    subst hn
    have CO := cks_one ((hP.alloc (.cells #[.string c.nm, .int .i64 c.ps, .slice a c.pf.length cap, .int .i64 c.dc] 24)).alloc (.cells #[.string ByteArray.empty, .int .i64 0, .slice none 0 0, .int .i64 0] 24)) hW
    have := refCopy_any _ [c] _ CO (by simp) (by intro d hd; rw [List.mem_singleton] at hd; subst hd; exact hp)
    simp only [World.size_alloc] at this
    exact this
  have HC := Lib.hid hHC
  have HW := Lib.hid hW
  have HN := Lib.hid hn
  clear hP hW hHC hn
  go_enter Try.func15, Try.ntmps15
  go_wp2_with fail
  refine HC.out.mono ?_
  rintro e w2 ⟨u, rfl, gO, gg⟩
  obtain ⟨g, cap', a', cp', rfl, hg, d0, d1, d2, d3, hO⟩ := gO.one
  have hsz : (((w.alloc (.cells #[.string c.nm, .int .i64 c.ps, .slice a n cap, .int .i64 c.dc] 24)).alloc (.cells #[.string ByteArray.empty, .int .i64 0, .slice none 0 0, .int .i64 0] 24)).alloc (.cells #[.string c.nm, .int .i64 c.ps, .slice a n cap, .int .i64 c.dc] 24)).heap.size = w.heap.size + 1 + 1 + 1 := by simp
  rw [← hsz] at gg
  have X1 : Hid (Below w.heap.size w w2) := Lib.hid (bel_alloc (bel_alloc (bel_alloc gg)))
  replace T0 := Lib.hid (T0.out.below gg)
  have OP := Lib.hid hO
  clear gO gg HC hO
  obtain ⟨u0, u1, u2, u3, uf, _⟩ := T0.out
  have f0 := uf 0 (by omega)
  have f1 := uf 1 (by omega)
  have f2 := uf 2 (by omega)
  have f3 := uf 3 (by omega)
  clear uf
  rw [← HN.out] at d2 OP
  go_wp2
  obtain ⟨t0, t1, t2, t3⟩ := quad_read w2 (w.heap.size + 1) (.string c.nm) (.int .i64 c.ps) (.slice a' n cp') (.int .i64 c.dc) u0 u1 u2 u3
  refine bodyPost_ret (v := .agg #[.string c.nm, .int .i64 c.ps, .slice a' n cp', .int .i64 c.dc]) (by simp [results, Try.results15, go_sem, t0, t1, t2, t3]) rfl ?_
  have hs : w.heap.size + 1 < w.heap.size + 1 + 1 + 1 := by omega
  have P2 := own_far (b := w.heap.size + 1) (i := 3) (z := .int .i64 c.dc) (own_far (b := w.heap.size + 1) (i := 2) (z := .slice a' n cp') (own_far (b := w.heap.size + 1) (i := 1) (z := .int .i64 c.ps) (own_far (b := w.heap.size + 1) (i := 0) (z := .string c.nm) OP.out hs) hs) hs) hs
  exact ⟨_, rfl, ⟨a', cp', by rw [← HN.out], by rw [← HN.out]; exact OwnP.pts P2, HW.out⟩, (((X1.out.setCell (Nat.le_succ _) _).setCell (Nat.le_succ _) _).setCell (Nat.le_succ _) _).setCell (Nat.le_succ _) _⟩
theorem own_any (v : Value) (c : Ck) (w : World) (hv : CkV w v c) (hp : c.pf.length ≤ 1000) :
    Calls Try.prog 15 #[v] w fun e w' => ∃ u, e = .returned u ∧ CkV w' u c ∧ Below w.heap.size w w' := by
  obtain ⟨a, cap, rfl, hP, hW⟩ := hv
  exact own_core c a _ cap w rfl hp hP hW
theorem few1_any (a : Option Addr) (n cap : Nat) (w : World) (hn : n ≤ 9223372036854775807) :
    Calls Try.prog 35 #[.slice a n cap] w fun e w' => e = .returned (.bool (decide (66 < n))) ∧ w' = w := by
  by_cases h : 66 < n
  · rw [decide_eq_true h]
    have d : decide (66 < (n : Int)) = true := decide_eq_true (by omega)
    go_enter Try.func35, Try.ntmps35
    go_wp2
    go_ret
    exact ⟨rfl, rfl⟩
  · rw [decide_eq_false h]
    have d : decide (66 < (n : Int)) = false := decide_eq_false (by omega)
    go_enter Try.func35, Try.ntmps35
    go_wp2
    go_ret
    exact ⟨rfl, rfl⟩
/-- a slice of slices, of which the lengths are known -/
def Lns (w : World) (v : Value) (ns : List Nat) : Prop :=
  ∃ a cap, v = .slice a ns.length cap ∧ (ns.length ≤ cap ∧ cap ≤ 9223372036854775807) ∧ (∀ n ∈ ns, n ≤ 9223372036854775807) ∧
    (ns.length = 0 ∨ ∃ b off, a = some ⟨b, off, none⟩ ∧ b < w.heap.size ∧ ∀ j, j < ns.length → ∃ a' c', w.cell? ⟨b, off + j, none⟩ = some (.slice a' (ns.getD j 0) c'))
theorem Lns.below {w w' : World} {v : Value} {ns : List Nat} (h : Lns w v ns) (hb : Below w.heap.size w w') : Lns w' v ns := by
  obtain ⟨a, cap, rfl, hl, hm, h | ⟨b, off, rfl, hlt, hc⟩⟩ := h
  · exact ⟨a, cap, rfl, hl, hm, .inl h⟩
  · exact ⟨_, cap, rfl, hl, hm, .inr ⟨b, off, rfl, Nat.lt_of_lt_of_le hlt hb.size, fun j hj => by rw [(bcell hb).1 _ _ hlt]; exact hc j hj⟩⟩
set_option maxHeartbeats 8000000 in
theorem idxl_some (b off n cap : Nat) (ns : List Nat) (B : Bool) (w : World) (n1 : n ≤ 9223372036854775807) (hn : Hid (ns.length = n)) (hm : Hid (∀ n ∈ ns, n ≤ 9223372036854775807))
    (hc : Hid (∀ j, j < n → ∃ a' c', w.cell? ⟨b, off + j, none⟩ = some (.slice a' (ns.getD j 0) c')))
    (h1 : Hid ((∃ j, j < n ∧ 66 < ns.getD j 0) → B = true)) (h2 : Hid ((∀ j, j < n → ¬ 66 < ns.getD j 0) → B = false)) :
    Calls Try.prog 67 #[.slice (some ⟨b, off, none⟩) n cap, .func (.func 35) #[] #[]] w fun e w' => ∃ k : Int, e = .returned (.int .i64 k) ∧ decide (0 ≤ k) = B ∧ w' = w := by
  go_enter Try.func67, Try.ntmps67
  go_wp2_with fail
  go_loopw [5, 8] (fun _ i wr => ∃ k : Nat, k ≤ n ∧ i = .int .i64 k ∧ w = wr ∧ Hid (∀ j, j < k → ¬ 66 < ns.getD j 0)) (fun _ i _ => n - (intOf i).toNat)
  case atStart => exact ⟨0, Nat.zero_le _, rfl, rfl, fun j hj => by omega⟩
  case round =>
    obtain ⟨k, hk, rfl, rfl, ha⟩ := hrel
    by_cases hlt : k < n
    · obtain ⟨a', c', c0⟩ := hc.out k hlt
      have hmk : ns.getD k 0 ≤ 9223372036854775807 := hm.out _ (by
        have h := hn.out
        rw [List.getD_eq_getElem?_getD, List.getElem?_eq_getElem (by omega), Option.getD_some]
        exact List.getElem_mem _)
      have HP := Lib.hid (few1_any a' (ns.getD k 0) c' w hmk)
      by_cases hq : 66 < ns.getD k 0
      · have hBt := h1.out ⟨k, hlt, hq⟩
        rw [decide_eq_true hq] at HP
        generalize ns.getD k 0 = x at *
        go_wp2_with fail
        refine HP.out.mono ?_
        rintro e w2 ⟨rfl, hw⟩
        subst hw
        go_wp2
        go_returns
        exact ⟨k, rfl, by rw [hBt]; simp, rfl⟩
      · have ha2 : Hid (∀ j, j < k + 1 → ¬ 66 < ns.getD j 0) := fun j hj => by
          by_cases e : j = k
          · rw [e]; exact hq
          · exact ha.out j (by omega)
        rw [decide_eq_false hq] at HP
        clear hq ha
        generalize ns.getD k 0 = x at c0 HP
        go_wp2_with fail
        refine HP.out.mono ?_
        rintro e w2 ⟨rfl, hw⟩
        subst hw
        go_wp2
        go_roundw
        case rel => exact ⟨k + 1, by omega, by go_num, by first | rfl | trivial, ha2⟩
        case measure => simp [intOf]; omega
    · obtain rfl : k = n := by omega
      have hBf := h2.out ha.out
      go_wp2
      go_returns
      exact ⟨-1, rfl, by rw [hBf]; simp, rfl⟩
theorem idxl_nil (a : Option Addr) (cap : Nat) (f : Value) (w : World) (g : Nat) (hf : f = .func (.func g) #[] #[]) :
    Calls Try.prog 67 #[.slice a 0 cap, f] w fun e w' => e = .returned (.int .i64 (-1)) ∧ w' = w := by
  subst hf
  go_enter Try.func67, Try.ntmps67
  go_wp2_with fail
  go_loopw [5, 8] (fun _ i wr => i = .int .i64 0 ∧ w = wr) (fun _ _ _ => 0)
  case atStart => exact ⟨rfl, rfl⟩
  case round =>
    obtain ⟨rfl, rfl⟩ := hrel
    go_wp2
    go_returns
    exact ⟨rfl, rfl⟩
def lnB (ns : List Nat) : Bool := ns.all (fun n => decide (n ≤ 66))
theorem conl_any (v : Value) (ns : List Nat) (w : World) (hv : Lns w v ns) :
    Calls Try.prog 34 #[v, .func (.func 35) #[] #[]] w fun e w' => e = .returned (.bool (!lnB ns)) ∧ w' = w := by
  obtain ⟨a, cap, rfl, hl, hm, hh⟩ := hv
  have HI : Hid (Calls Try.prog 67 #[.slice a ns.length cap, .func (.func 35) #[] #[]] w fun e w' => ∃ k : Int, e = .returned (.int .i64 k) ∧ decide (0 ≤ k) = (!lnB ns) ∧ w' = w) := Lib.hid (by
    rcases hh with h0 | ⟨b, off, rfl, _, hc⟩
    · have e0 := List.length_eq_zero_iff.1 h0
      subst e0
      exact (idxl_nil a cap _ w _ rfl).mono fun e w' ⟨g1, g2⟩ => ⟨_, g1, by decide, g2⟩
    · refine idxl_some b off _ cap ns _ w (by omega) (Lib.hid rfl) (Lib.hid hm) (Lib.hid hc) (Lib.hid ?_) (Lib.hid ?_)
      · rintro ⟨j, hj, hx⟩
        rw [Bool.not_eq_true', Bool.eq_false_iff]
        intro ha
        unfold lnB at ha
        rw [List.all_eq_true] at ha
        have := ha _ (List.getElem_mem hj)
        rw [List.getD_eq_getElem?_getD, List.getElem?_eq_getElem hj, Option.getD_some] at hx
        simp at this
        omega
      · intro ha
        rw [Bool.not_eq_false']
        unfold lnB
        rw [List.all_eq_true]
        intro x hx
        obtain ⟨j, hj, rfl⟩ := List.getElem_of_mem hx
        have := ha j hj
        rw [List.getD_eq_getElem?_getD, List.getElem?_eq_getElem hj, Option.getD_some] at this
        simp; omega)
  generalize ns.length = n at *
  generalize lnB ns = B at *
  clear hh hm
  go_enter Try.func34, Try.ntmps34
  go_wp2_with fail
  refine HI.out.mono ?_
  rintro e w1 ⟨k, rfl, hk, hw⟩
  subst hw
  cases B with
  | true =>
    have d : decide (0 ≤ k) = false := hk
    go_wp2
    all_goals
      go_ret
      exact ⟨by simp_all, rfl⟩
  | false =>
    have d : decide (0 ≤ k) = true := hk
    go_wp2
    all_goals
      go_ret
      exact ⟨by simp_all, rfl⟩
set_option maxHeartbeats 8000000 in
set_option maxRecDepth 100000 in
theorem few_core (c : Ck) (a : Option Addr) (n cap : Nat) (a2 : Option Addr) (n2 cap2 : Nat) (B1 B2 : Bool) (w : World) (hn : n = c.pf.length) (hP : Pts w (.slice a n cap) c.pf) (hW : CkW c) (hB : fewC c = B1)
    (H2 : Hid (∀ W, Below w.heap.size w W → Calls Try.prog 34 #[.slice a2 n2 cap2, .func (.func 35) #[] #[]] W fun e w' => e = .returned (.bool (!B2)) ∧ w' = W)) :
    Calls Try.prog 9 #[.agg #[.string c.nm, .int .i64 c.ps, .slice a n cap, .int .i64 c.dc], .slice a2 n2 cap2] w fun e w' => e = .returned (.bool (B1 && B2)) ∧ Below w.heap.size w w' := by
  have hHC : Calls Try.prog 33 #[.slice (some ⟨w.heap.size + 1, 0, none⟩) 1 1] ((w.alloc (.cells #[.string c.nm, .int .i64 c.ps, .slice a n cap, .int .i64 c.dc] 24)).alloc (.cells #[.string c.nm, .int .i64 c.ps, .slice a n cap, .int .i64 c.dc] 24)) fun e w' => e = .returned (.bool B1) ∧ w' = ((w.alloc (.cells #[.string c.nm, .int .i64 c.ps, .slice a n cap, .int .i64 c.dc] 24)).alloc (.cells #[.string c.nm, .int .i64 c.ps, .slice a n cap, .int .i64 c.dc] 24)) := by
    subst hn
    have CO := cks_one (hP.alloc (.cells #[.string c.nm, .int .i64 c.ps, .slice a c.pf.length cap, .int .i64 c.dc] 24)) hW
    have := refFew_any _ [c] _ CO
    simp only [World.size_alloc] at this
    rwa [few_one, hB] at this
  have HC := Lib.hid hHC
  clear hP hW hHC hn
  have X1 : Hid (Below w.heap.size w ((w.alloc (.cells #[.string c.nm, .int .i64 c.ps, .slice a n cap, .int .i64 c.dc] 24)).alloc (.cells #[.string c.nm, .int .i64 c.ps, .slice a n cap, .int .i64 c.dc] 24))) := Lib.hid (bel_alloc (bel_alloc (Below.refl _ _)))
  go_enter Try.func9, Try.ntmps9
  go_wp2_with fail
  refine HC.out.mono ?_
  rintro e w2 ⟨rfl, hw⟩
  subst hw
  cases B1 with
  | false =>
    go_wp2
    go_returns
    exact ⟨rfl, X1.out⟩
  | true =>
    go_wp2_with fail
    refine (H2.out _ X1.out).mono ?_
    rintro e w3 ⟨rfl, hw⟩
    subst hw
    cases B2 with
    | true =>
      go_wp2
      go_returns
      exact ⟨rfl, X1.out⟩
    | false =>
      go_wp2
      go_returns
      exact ⟨rfl, X1.out⟩
theorem fewL_any (v u : Value) (c : Ck) (ns : List Nat) (w : World) (hv : CkV w v c) (hu : Lns w u ns) :
    Calls Try.prog 9 #[v, u] w fun e w' => e = .returned (.bool (fewC c && lnB ns)) ∧ Below w.heap.size w w' := by
  have H2 : Hid (∀ W, Below w.heap.size w W → _) := Lib.hid fun W hW => conl_any u ns W (hu.below hW)
  obtain ⟨a, cap, rfl, hP, hW⟩ := hv
  obtain ⟨a2, cap2, rfl, _⟩ := hu
  exact few_core c a _ cap a2 _ cap2 _ _ w rfl hP hW rfl H2
theorem lns_nil (w : World) : Lns w (.slice none 0 0) [] := ⟨none, 0, rfl, by simp, (fun n h => by cases h), .inl rfl⟩
/-- a list of one slice, or of two, laid now -/
theorem lns_one (w : World) (a : Option Addr) (n cap : Nat) (T : TypeId) (hn : n ≤ 9223372036854775807) : Lns (w.alloc (.cells #[.slice a n cap] T)) (.slice (some ⟨w.heap.size, 0, none⟩) 1 1) [n] := by
  refine ⟨_, 1, rfl, by simp, (fun m h => by rw [List.mem_singleton] at h; omega), .inr ⟨w.heap.size, 0, rfl, by simp, fun j hj => ?_⟩⟩
  obtain rfl : j = 0 := by simpa using hj
  exact ⟨a, cap, by simp [go_sem]⟩
theorem lns_two (w : World) (a a2 : Option Addr) (n cap n2 cap2 : Nat) (T : TypeId) (hn : n ≤ 9223372036854775807) (hn2 : n2 ≤ 9223372036854775807) : Lns (w.alloc (.cells #[.slice a n cap, .slice a2 n2 cap2] T)) (.slice (some ⟨w.heap.size, 0, none⟩) 2 2) [n, n2] := by
  refine ⟨_, 2, rfl, by simp, (fun m h => by simp at h; omega), .inr ⟨w.heap.size, 0, rfl, by simp, fun j hj => ?_⟩⟩
  simp only [List.length_cons, List.length_nil] at hj
  match j, hj with
  | 0, _ => exact ⟨a, cap, by simp [go_sem]⟩
  | 1, _ => exact ⟨a2, cap2, by simp [go_sem]⟩
end Go.Proofs.Ytgjdopjolokaiaa

/- How arguments are opened: slices of points. -/
namespace Go.Proofs.Ytgjdopjolokaiaa
open Go.ChangeShapes Go.WideShapes Go.ChangeAt Go.RowKit Go.Joins

theorem own : ownKnob Try.prog.godebug = none := by kernel_rfl
theorem laidOut : laidOutB Try.prog = true := by kernel_rfl
theorem wf_bd {n : Int} (h : (Lit.int .i64 n).wf = true) : -9223372036854775808 ≤ n ∧ n ≤ 9223372036854775807 := by
  have := bounds_i64 h
  omega
set_option maxRecDepth 100000 in
theorem open_pts_at {H : Type} {enc : TypeId × Value → H} {w : World} {base fuel : Nat} {spare : Nat → Bool} {held : Bool} {v : Value} {y : DataW H × List MemPlace} (hs : ∀ k, spare k = true)
    (hf : DataW.trod enc Try.prog w base spare held fuel 22 [v] = some y) :
    ∃ l : List (Int × Int), Pts w v l := by
  rcases Deep.open_slice_pairs Try.underlying22 Try.underlying33 (by kernel_rfl) rfl rfl (by kernel_rfl) (by kernel_rfl) hf with ⟨hcs, _⟩ | ⟨x, len0, cap0, m, n, V0, V1, D0, D1, P0, P1, hcs, _, hl, hm, hmm, _, hi⟩
  · simp only [List.cons.injEq, and_true] at hcs
    subst hcs
    exact ⟨[], none, 0, rfl, ⟨by simp, by omega⟩, .inl rfl⟩
  · simp only [List.cons.injEq, and_true] at hcs
    subst hcs
    unfold maxLen at hm
    rw [hs] at hmm
    simp only [if_true] at hmm
    subst hmm
    have hint : ∀ i, i < len0 → ∃ q : Int × Int, w.cell? (x.add (i * 2)) = some (.int .i64 q.1) ∧ w.cell? (x.add (i * 2 + 1)) = some (.int .i64 q.2) := by
      intro i hlt
      obtain ⟨h0, h1, h2, h3⟩ := hi i (by omega)
      obtain ⟨a, ea, _, _⟩ := DataW.trod_int (k := .i64) Try.underlying3 h2
      obtain ⟨b, eb, _, _⟩ := DataW.trod_int (k := .i64) Try.underlying3 h3
      simp only [List.cons.injEq, and_true] at ea eb
      exact ⟨(a, b), by rw [h0, ea], by rw [h1, eb]⟩
    let f : Nat → Int × Int := fun i => if hlt : i < len0 then (hint i hlt).choose else (0, 0)
    have hf2 : ∀ i, i < len0 → w.cell? (x.add (i * 2)) = some (.int .i64 (f i).1) ∧ w.cell? (x.add (i * 2 + 1)) = some (.int .i64 (f i).2) := by
      intro i hlt
      have := (hint i hlt).choose_spec
      simp only [f, dif_pos hlt]
      exact this
    have hlen : ((List.range len0).map f).length = len0 := by simp
    refine ⟨(List.range len0).map f, some x, m, by rw [hlen], by rw [hlen]; omega, ?_⟩
    rw [hlen]
    by_cases h0 : len0 = 0
    · exact .inl h0
    · right
      obtain ⟨b, off, spot⟩ := x
      have hspot : spot = none := by simpa [Addr.add] using World.cell?_spot (hf2 0 (by omega)).1
      subst hspot
      have hb := World.block_lt_of_cell? w _ (hf2 0 (by omega)).1
      refine ⟨b, off, rfl, by simpa [Addr.add] using hb, fun j hj => ?_⟩
      obtain ⟨g0, g1⟩ := hf2 j hj
      rw [Go.WideShapes.add_plain] at g0 g1
      unfold gX gR
      rw [List.getD_eq_getElem?_getD, List.getElem?_map, List.getElem?_range hj]
      exact ⟨g0, by rw [Nat.add_assoc]; exact g1⟩
set_option maxRecDepth 100000 in
theorem open_pts {H : Type} {enc : TypeId × Value → H} {w : World} {r : Reach} {b0 : Nat} {v : Value} {d : DataW H} {p : List MemPlace}
    (hv : Value.okWide Try.prog w r b0 22 v) (h : DataW.Trod enc Try.prog w 0 (fun _ => true) true 22 v d p) :
    ∃ l : List (Int × Int), Pts w v l := by
  obtain ⟨a0, len0, cap0, rfl⟩ := okWide_slice Try.underlying22 hv
  obtain ⟨fuel, hf⟩ := h
  exact open_pts_at (fun _ => rfl) hf
end Go.Proofs.Ytgjdopjolokaiaa

/- How arguments are opened: casks, slices of casks. -/
namespace Go.Proofs.Ytgjdopjolokaiaa
open Go.ChangeShapes Go.WideShapes Go.ChangeAt Go.RowKit Go.Joins

set_option maxRecDepth 100000 in
/-- a cask's four cells -/
theorem open_ck_at {H : Type} {enc : TypeId × Value → H} {w : World} {base n : Nat} {spare : Nat → Bool} {held : Bool} {v0 v1 v2 v3 : Value} {y0 y1 y2 y3 : DataW H × List MemPlace} (hs : ∀ k, spare k = true)
    (h0 : DataW.trod enc Try.prog w base spare held n 9 [v0] = some y0) (h1 : DataW.trod enc Try.prog w base spare held n 3 [v1] = some y1) (h2 : DataW.trod enc Try.prog w base spare held n 22 [v2] = some y2) (h3 : DataW.trod enc Try.prog w base spare held n 3 [v3] = some y3) :
    ∃ c, CkV w (.agg #[v0, v1, v2, v3]) c := by
  obtain ⟨s, e0, _, ws⟩ := DataW.trod_string Try.underlying9 h0
  obtain ⟨a, e1, _, wa⟩ := DataW.trod_int (k := .i64) Try.underlying3 h1
  obtain ⟨b, e3, _, wb⟩ := DataW.trod_int (k := .i64) Try.underlying3 h3
  obtain ⟨l, hl⟩ := open_pts_at hs h2
  simp only [List.cons.injEq, and_true] at e0 e1 e3
  subst e0 e1 e3
  obtain ⟨ad, cap, rfl, _, _⟩ := hl.shape
  unfold maxLen at ws
  exact ⟨⟨s, a, l, b⟩, ad, cap, rfl, hl, by omega, wf_bd wa, wf_bd wb⟩
set_option maxRecDepth 100000 in
/-- a cask by value -/
theorem open_ck {H : Type} {enc : TypeId × Value → H} {w : World} {r : Reach} {b0 : Nat} {v : Value} {d : DataW H} {p : List MemPlace}
    (hv : Value.okWide Try.prog w r b0 24 v) (h : DataW.Trod enc Try.prog w 0 (fun _ => true) true 24 v d p) : ∃ c, CkV w v c := by
  obtain ⟨v0, v1, v2, v3, y0, y1, y2, y3, n, rfl, _, _, h0, h1, h2, h3⟩ := open_agg4 Try.underlying24 (by kernel_rfl) (by kernel_rfl) hv h
  exact open_ck_at (fun _ => rfl) h0 h1 h2 h3
set_option maxRecDepth 100000 in
/-- a slice of casks -/
theorem open_cks {H : Type} {enc : TypeId × Value → H} {w : World} {r : Reach} {b0 : Nat} {v : Value} {d : DataW H} {p : List MemPlace}
    (hv : Value.okWide Try.prog w r b0 66 v) (h : DataW.Trod enc Try.prog w 0 (fun _ => true) true 66 v d p) : ∃ l : List Ck, Cks w v l := by
  obtain ⟨a0, len0, cap0, rfl⟩ := okWide_slice Try.underlying66 hv
  obtain ⟨fuel, hf⟩ := h
  rcases Deep.open_slice Try.underlying66 hf with ⟨hcs, _⟩ | ⟨x, l, c, m, n, D, Pl, hcs, _, hl, hm, hmm, _, hi⟩
  · simp [Value.cells] at hcs
    obtain ⟨rfl, rfl, rfl⟩ := hcs
    exact ⟨[], none, 0, rfl, ⟨by simp, by omega⟩, .inl rfl⟩
  · simp [Value.cells] at hcs
    obtain ⟨rfl, rfl, rfl⟩ := hcs
    unfold maxLen at hm
    simp only [if_true] at hmm
    subst hmm
    have ce : Try.prog.cellsOf 24 = 4 := by kernel_rfl
    rw [ce] at hi
    have hint : ∀ i, i < len0 → ∃ c : Ck, ∃ x0 x1 x2 x3, w.cell? (x.add (i * 4)) = some x0 ∧ w.cell? (x.add (i * 4 + 1)) = some x1 ∧ w.cell? (x.add (i * 4 + 2)) = some x2 ∧ w.cell? (x.add (i * 4 + 3)) = some x3 ∧ CkV w (.agg #[x0, x1, x2, x3]) c := by
      intro i hlt
      obtain ⟨cs', h1, h2⟩ := hi i (by omega)
      obtain ⟨_, hlen, hcell⟩ := World.cells?_some h1
      obtain ⟨y0, y1, y2, y3, k, _, _, g0, g1, g2, g3⟩ := trod_struct4 Try.underlying24 h2
      match cs', hlen with
      | [v0, v1, v2, v3], _ =>
        have e0 := hcell 0 (by omega)
        have e1 := hcell 1 (by omega)
        have e2 := hcell 2 (by omega)
        have e3 := hcell 3 (by omega)
        rw [Deep.add_add] at e0 e1 e2 e3
        have c0 : Try.prog.cellsOf 9 = 1 := by kernel_rfl
        have c1 : Try.prog.cellsOf 3 = 1 := by kernel_rfl
        have c2 : Try.prog.cellsOf 22 = 1 := by kernel_rfl
        simp only [c0, c1, c2] at g0 g1 g2 g3
        obtain ⟨q, hq⟩ := open_ck_at (fun _ => rfl) g0 g1 g2 g3
        exact ⟨q, v0, v1, v2, v3, by simpa using e0, by simpa using e1, by simpa using e2, by simpa using e3, hq⟩
    let f : Nat → Ck := fun i => if hlt : i < len0 then (hint i hlt).choose else ⟨ByteArray.empty, 0, [], 0⟩
    have hf2 : ∀ i, i < len0 → ∃ x0 x1 x2 x3, w.cell? (x.add (i * 4)) = some x0 ∧ w.cell? (x.add (i * 4 + 1)) = some x1 ∧ w.cell? (x.add (i * 4 + 2)) = some x2 ∧ w.cell? (x.add (i * 4 + 3)) = some x3 ∧ CkV w (.agg #[x0, x1, x2, x3]) (f i) := by
      intro i hlt
      have := (hint i hlt).choose_spec
      simp only [f, dif_pos hlt]
      exact this
    have hlen : ((List.range len0).map f).length = len0 := by simp
    refine ⟨(List.range len0).map f, some x, m, by rw [hlen], by rw [hlen]; omega, ?_⟩
    by_cases h0 : len0 = 0
    · exact .inl (by rw [hlen]; exact h0)
    · right
      obtain ⟨b, off, spot⟩ := x
      obtain ⟨z0, _, _, _, q0, _⟩ := hf2 0 (by omega)
      have hspot : spot = none := by simpa [Addr.add] using World.cell?_spot q0
      subst hspot
      have hb := World.block_lt_of_cell? w _ q0
      refine ⟨b, off, rfl, by simpa [Addr.add] using hb, fun j hj => ?_⟩
      obtain ⟨x0, x1, x2, x3, g0, g1, g2, g3, g⟩ := hf2 j (by omega)
      rw [Go.WideShapes.add_plain] at g0 g1 g2 g3
      have e : ((List.range len0).map f)[j] = f j := by simp
      rw [e]
      exact ⟨x0, x1, x2, x3, g0, by rw [Nat.add_assoc]; exact g1, by rw [Nat.add_assoc]; exact g2, by rw [Nat.add_assoc]; exact g3, g⟩
end Go.Proofs.Ytgjdopjolokaiaa

/- What the statements about layer 11 need: their opening, the example. -/
namespace Go.Proofs.Ytgjdopjolokaiaa
open Go.ChangeShapes Go.WideShapes Go.ChangeAt Go.RowKit Go.Joins

/-- a slice of integers -/
theorem open_intSlice {H : Type} {enc : TypeId × Value → H} {P : Program} {w : World} {r : Reach} {b0 : Nat} {t e : TypeId} {v : Value} {d : DataW H} {p : List MemPlace}
    (ht : P.underlying t = some (.slice e)) (he : P.underlying e = some (.int .i64)) (hC : P.cellsOf e = 1)
    (hv : Value.okWide P w r b0 t v) (h : DataW.Trod enc P w 0 (fun _ => true) true t v d p) :
    ∃ zs : List Int, Nums w v zs ∧ ∀ z ∈ zs, (Lit.int .i64 z).wf = true := by
  obtain ⟨a0, len0, cap0, rfl⟩ := okWide_slice ht hv
  obtain ⟨fuel, hf⟩ := h
  rcases open_ints ht he hC hf with ⟨hcs, _⟩ | ⟨x, l, c, zs, hcs, _, hl, hm, hz, _, hcell, hwz⟩
  · simp [Value.cells] at hcs
    obtain ⟨rfl, rfl, rfl⟩ := hcs
    exact ⟨[], ⟨none, 0, rfl, by simp, .inl rfl⟩, by simp⟩
  · simp [Value.cells] at hcs
    obtain ⟨rfl, rfl, rfl⟩ := hcs
    simp only [if_true] at hz
    unfold maxLen at hm
    refine ⟨zs.take len0, ⟨some x, cap0, by rw [List.length_take, Nat.min_eq_left (by omega)], by rw [List.length_take]; omega, ?_⟩, fun z hz => hwz z (List.mem_of_mem_take hz)⟩
    by_cases h0 : len0 = 0
    · left; rw [List.length_take]; omega
    · right
      obtain ⟨b, off, rfl, hc⟩ := ints_at hcell (by omega)
      have := hc 0 (by omega)
      refine ⟨b, off, rfl, World.block_lt_of_cell? w _ this, fun j hj => ?_⟩
      rw [List.length_take] at hj
      rw [hc j (by omega)]
      congr 2
      simp only [List.getD_eq_getElem?_getD, List.getElem?_take]
      rw [if_pos (by omega)]
end Go.Proofs.Ytgjdopjolokaiaa

/- What stands before a drawn region of a statement: a cask in a box, and two lists of integers. -/
namespace Go.Proofs.Ytgjdopjolokaiaa
open Go.RowKit

theorem bel_trans2 {n : Nat} {A B C : World} (h : Below n A B) (k : Below B.heap.size B C) (hn : n ≤ B.heap.size := by first | exact h.size | assumption | omega) : Below n A C := h.trans (k.mono hn)
theorem bel_al2 {A B : World} (h : Below A.heap.size A B) (o : Obj) : Below A.heap.size A (B.alloc o) := h.alloc h.size o
def LwS (w : World) (q : Nat) (c : Ck) (a : Option Addr) (n cap : Nat) (pv hv : Value) (ps hs : List Int) (W : World) : Prop :=
  Below w.heap.size w W ∧ Quad q W (.string c.nm) (.int .i64 c.ps) (.slice a n cap) (.int .i64 c.dc) ∧ CkV W (.agg #[.string c.nm, .int .i64 c.ps, .slice a n cap, .int .i64 c.dc]) c ∧ Nums W pv ps ∧ Nums W hv hs
theorem LwS.below {w : World} {q : Nat} {c : Ck} {a : Option Addr} {n cap : Nat} {pv hv : Value} {ps hs : List Int} {W W' : World} (h : LwS w q c a n cap pv hv ps hs W) (hb : Below W.heap.size W W') : LwS w q c a n cap pv hv ps hs W' :=
  ⟨bel_trans h.1 hb, h.2.1.below hb, h.2.2.1.below hb, h.2.2.2.1.below hb, h.2.2.2.2.below hb⟩
theorem LwS.cells {w : World} {q : Nat} {c : Ck} {a : Option Addr} {n cap : Nat} {pv hv : Value} {ps hs : List Int} {W : World} (h : LwS w q c a n cap pv hv ps hs W) :
    W.cell? ⟨q, 0, none⟩ = some (.string c.nm) ∧ W.cell? ⟨q, 1, none⟩ = some (.int .i64 c.ps) ∧ W.cell? ⟨q, 2, none⟩ = some (.slice a n cap) ∧ W.cell? ⟨q, 3, none⟩ = some (.int .i64 c.dc) ∧ q ≠ W.heap.size ∧ W.heap.size ≠ q := by
  obtain ⟨q0, q1, q2, q3, _, q5⟩ := h.2.1
  exact ⟨q0, q1, q2, q3, by omega, by omega⟩
end Go.Proofs.Ytgjdopjolokaiaa

/- Plain facts: the profile from the other head. -/
namespace Go.Proofs.Ytgjdopjolokaiaa

/-- the profile from the other head -/
def tuL (l : List (Int × Int)) : List (Int × Int) := l.reverse.map fun q => (gX l (l.length - 1) - q.1, q.2)
def tuR (l : List (Int × Int)) : List (Int × Int) := if ckE l = 0 then tuL l else []
theorem rev_get {l : List (Int × Int)} {j : Nat} (h : j < l.length) : gX l.reverse j = gX l (l.length - 1 - j) ∧ gR l.reverse j = gR l (l.length - 1 - j) := by
  unfold gX gR
  rw [List.getD_eq_getElem?_getD, List.getD_eq_getElem?_getD, List.getElem?_reverse h]
  exact ⟨rfl, rfl⟩
theorem tuL_len (l : List (Int × Int)) : (tuL l).length = l.length := by simp [tuL]
theorem tu_get {l : List (Int × Int)} {j : Nat} (h : j < l.length) : gX (tuL l) j = gX l (l.length - 1) - gX l.reverse j ∧ gR (tuL l) j = gR l.reverse j := by
  have h2 : j < l.reverse.length := by simpa using h
  unfold gX gR tuL
  rw [List.getD_eq_getElem?_getD, List.getD_eq_getElem?_getD, List.getD_eq_getElem?_getD, List.getElem?_map, List.getElem?_eq_getElem h2]
  exact ⟨rfl, rfl⟩
end Go.Proofs.Ytgjdopjolokaiaa

/- Plain facts: profiles that are turned. -/
namespace Go.Proofs.Ytgjdopjolokaiaa

theorem tu_at {l : List (Int × Int)} {j : Nat} (h : j < l.length) : gX (tuL l) j = gX l (l.length - 1) - gX l (l.length - 1 - j) ∧ gR (tuL l) j = gR l (l.length - 1 - j) := by
  have a := tu_get h
  have b := rev_get h
  rw [a.1, a.2, b.1, b.2]
  exact ⟨rfl, rfl⟩
theorem tu_right {l : List (Int × Int)} (h : RP l) : RP (tuL l) := by
  have hl := tuL_len l
  have n0 := h.n0
  have n1 := h.n1
  have bl := h.bx (l.length - 1) (by omega)
  refine ⟨by omega, by omega, fun i hi => ?_, fun i hi => ?_, ?_, fun i hi => ?_, fun i j hij hj hf => ?_⟩
  · rw [hl] at hi
    rw [(tu_at hi).1]
    have a := h.bx (l.length - 1 - i) (by omega)
    have b := gX_le h (i := l.length - 1 - i) (j := l.length - 1) (by omega) (by omega)
    omega
  · rw [hl] at hi
    rw [(tu_at hi).2]
    exact h.br _ (by omega)
  · rw [(tu_at (l := l) (j := 0) (by omega)).1]
    rw [show l.length - 1 - 0 = l.length - 1 by omega]
    omega
  · rw [hl] at hi
    rw [(tu_at (l := l) (j := i) (by omega)).1, (tu_at hi).1]
    have := gX_lt h (i := l.length - 1 - (i + 1)) (j := l.length - 1 - i) (by omega) (by omega)
    omega
  · rw [hl] at hj
    rw [(tu_at (l := l) (j := i) (by omega)).2, (tu_at (l := l) (j := i + 1) (by omega)).2] at hf
    rw [(tu_at (l := l) (j := j) (by omega)).2, (tu_at hj).2]
    by_cases g : gR l (l.length - 1 - j) < gR l (l.length - 1 - (j + 1))
    · have e1 : l.length - 1 - j = l.length - 1 - (j + 1) + 1 := by omega
      have e2 : l.length - 1 - i = l.length - 1 - (i + 1) + 1 := by omega
      rw [e1] at g
      have := h.ns (l.length - 1 - (j + 1)) (l.length - 1 - (i + 1)) (by omega) (by omega) g
      rw [e2] at hf
      omega
    · omega
theorem tu_last {l : List (Int × Int)} (h : RP l) : gX (tuL l) ((tuL l).length - 1) = gX l (l.length - 1) := by
  have hl := tuL_len l
  have n0 := h.n0
  rw [hl, (tu_at (l := l) (j := l.length - 1) (by omega)).1, show l.length - 1 - (l.length - 1) = 0 by omega, h.x0]
  omega
theorem tu_rd {l : List (Int × Int)} (h : RP l) {x : Int} (x0 : 0 ≤ x) (x1 : x ≤ gX l (l.length - 1)) : rdL (tuL l) (gX l (l.length - 1) - x) = rdL l x ∧ rdH (tuL l) (gX l (l.length - 1) - x) = rdH l x := by
  have hl := tuL_len l
  have n0 := h.n0
  have ht := tu_right h
  have hi := pc_is n0 x1
  obtain ⟨i1, i2, _, _, _, g0, g1⟩ := pc_bd h x0 hi
  by_cases e : x = gX l (pc l x)
  · have r := rd_at h i2
    rw [← e] at r
    have t := tu_at (l := l) (j := l.length - 1 - pc l x) (by omega)
    rw [show l.length - 1 - (l.length - 1 - pc l x) = pc l x by omega, ← e] at t
    have rt := rd_at ht (j := l.length - 1 - pc l x) (by omega)
    rw [t.1, t.2] at rt
    omega
  · have a := tu_at (l := l) (j := l.length - pc l x - 1) (by omega)
    rw [show l.length - 1 - (l.length - pc l x - 1) = pc l x by omega] at a
    have b := tu_at (l := l) (j := l.length - pc l x) (by omega)
    rw [show l.length - 1 - (l.length - pc l x) = pc l x - 1 by omega] at b
    have e1 : pc (tuL l) (gX l (l.length - 1) - x) = l.length - pc l x := by
      refine pc_of ⟨by omega, by omega, by rw [b.1]; omega, fun j j1 j2 => ?_⟩
      have m := gX_le ht (i := j) (j := l.length - pc l x - 1) (by omega) (by omega)
      rw [a.1] at m
      omega
    have lt := ln_turn (gX l (pc l x - 1)) (gR l (pc l x - 1)) (gX l (pc l x)) (gR l (pc l x)) x (gX l (l.length - 1))
    unfold rdL rdH lnL lnH
    rw [e1, a.1, a.2, b.1, b.2, lt.1, lt.2]
    exact ⟨rfl, rfl⟩
end Go.Proofs.Ytgjdopjolokaiaa

/- Plain facts of layer 11: turned casks have turned sums. No program stands in this text. -/
namespace Go.Proofs.Ytgjdopjolokaiaa

def tuP (ps : List Int) : List Int := ps.reverse.map fun x => ps.getD (ps.length - 1) 0 - x
theorem tuP_len (ps : List Int) : (tuP ps).length = ps.length := by simp [tuP]
theorem tuP_at {ps : List Int} {j : Nat} (h : j < ps.length) : (tuP ps).getD j 0 = ps.getD (ps.length - 1) 0 - ps.getD (ps.length - 1 - j) 0 := by
  have h2 : j < ps.reverse.length := by simpa using h
  unfold tuP
  rw [List.getD_eq_getElem?_getD, List.getElem?_map, List.getElem?_reverse h, List.getD_eq_getElem?_getD (l := ps) (i := ps.length - 1 - j), List.getElem?_eq_getElem (show ps.length - 1 - j < ps.length by omega)]
  rfl
theorem tuP_right {l : List (Int × Int)} {ps : List Int} (hR : RP l) (h : PlR l ps) : PlR (tuL l) (tuP ps) := by
  have n0 := h.n0
  have n1 := h.n1
  have ln := tuP_len ps
  have ll := tuL_len l
  have r0 := hR.n0
  refine ⟨by omega, by omega, ?_, ?_, fun i hi => ?_, fun j hj => ?_⟩
  · rw [tuP_at (by omega), Nat.sub_zero, Int.sub_self]
  · rw [ln, tuP_at (by omega), tu_last hR, show ps.length - 1 - (ps.length - 1) = 0 by omega, h.z, h.e, Int.sub_zero]
  · rw [ln] at hi
    rw [tuP_at (by omega), tuP_at hi]
    have := asc_lt h.asc (i := ps.length - 1 - (i + 1)) (j := ps.length - 1 - i) (by omega) (by omega)
    omega
  · rw [ll] at hj
    obtain ⟨t, ht, et⟩ := h.has (l.length - 1 - j) (by omega)
    refine ⟨ps.length - 1 - t, by omega, ?_⟩
    rw [tuP_at (by omega), (tu_at hj).1, show ps.length - 1 - (ps.length - 1 - t) = t by omega, et, h.e]
theorem tu_bgR {l : List (Int × Int)} (hR : RP l) : bgR (tuL l) = bgR l := by
  have b1 := bg_sides hR
  have b2 := bg_sides (tu_right hR)
  have ll := tuL_len l
  rw [ll] at b2
  unfold bgR
  have e1 := b2.2.1 (l.length - 1 - bg l l.length) (by have := hR.n0; omega)
  rw [(tu_at (l := l) (by have := hR.n0; omega)).2, show l.length - 1 - (l.length - 1 - bg l l.length) = bg l l.length by have := b1.1; omega] at e1
  have e2 := (tu_at (l := l) (j := bg (tuL l) l.length) b2.1).2
  have e3 := b1.2.1 (l.length - 1 - bg (tuL l) l.length) (by have := hR.n0; omega)
  rw [ll]
  omega
theorem tb_turn {l : List (Int × Int)} {ps hs : List Int} {c : Int} (hR : RP l) (hP : PlR l ps) (j k : Nat) (hk : k < ps.length) :
    tbL (tuL l) c (tuP ps) hs j k + tbL l c ps hs j (ps.length - 1 - k) = tbL l c ps hs j (ps.length - 1) ∧ tbH (tuL l) c (tuP ps) hs j k + tbH l c ps hs j (ps.length - 1 - k) = tbH l c ps hs j (ps.length - 1) := by
  induction k with
  | zero => simp [tbL, tbH]
  | succ k ih =>
    obtain ⟨e1, e2⟩ := ih (by omega)
    have n0 := hP.n0
    have b0 := hP.bd (i := ps.length - 1 - k) (by omega)
    have b1 := hP.bd (i := ps.length - 1 - (k + 1)) (by omega)
    have t0 := tu_rd hR b0.1 b0.2
    have t1 := tu_rd hR b1.1 b1.2
    rw [show ps.length - 1 - k = ps.length - 1 - (k + 1) + 1 by omega] at e1 e2 t0
    have p0 := tuP_at (ps := ps) (j := k) (by omega)
    have p1 := tuP_at (ps := ps) (j := k + 1) hk
    rw [show ps.length - 1 - k = ps.length - 1 - (k + 1) + 1 by omega] at p0
    rw [h_e hP] at p0 p1
    generalize ps.length - 1 - (k + 1) = m at *
    have u1 : tbL (tuL l) c (tuP ps) hs j (k + 1) = tbL (tuL l) c (tuP ps) hs j k + ((tuP ps).getD (k + 1) 0 - (tuP ps).getD k 0) * prL (slL (tuL l) ((tuP ps).getD k 0) ((tuP ps).getD (k + 1) 0)) c hs j := rfl
    have u2 : tbH (tuL l) c (tuP ps) hs j (k + 1) = tbH (tuL l) c (tuP ps) hs j k + ((tuP ps).getD (k + 1) 0 - (tuP ps).getD k 0) * prH (slH (tuL l) ((tuP ps).getD k 0) ((tuP ps).getD (k + 1) 0)) c hs j := rfl
    have v1 : tbL l c ps hs j (m + 1) = tbL l c ps hs j m + (ps.getD (m + 1) 0 - ps.getD m 0) * prL (slL l (ps.getD m 0) (ps.getD (m + 1) 0)) c hs j := rfl
    have v2 : tbH l c ps hs j (m + 1) = tbH l c ps hs j m + (ps.getD (m + 1) 0 - ps.getD m 0) * prH (slH l (ps.getD m 0) (ps.getD (m + 1) 0)) c hs j := rfl
    have sL : slL (tuL l) ((tuP ps).getD k 0) ((tuP ps).getD (k + 1) 0) = slL l (ps.getD m 0) (ps.getD (m + 1) 0) := by
      unfold slL; rw [p0, p1, t0.1, t1.1, Int.min_comm]
    have sH : slH (tuL l) ((tuP ps).getD k 0) ((tuP ps).getD (k + 1) 0) = slH l (ps.getD m 0) (ps.getD (m + 1) 0) := by
      unfold slH; rw [p0, p1, t0.2, t1.2, Int.max_comm]
    have w : (tuP ps).getD (k + 1) 0 - (tuP ps).getD k 0 = ps.getD (m + 1) 0 - ps.getD m 0 := by rw [p0, p1]; omega
    rw [sL, w] at u1
    rw [sH, w] at u2
    omega
where
  h_e {l : List (Int × Int)} {ps : List Int} (h : PlR l ps) : ps.getD (ps.length - 1) 0 = gX l (l.length - 1) := h.e
theorem tb_turned {l : List (Int × Int)} {ps hs : List Int} {c : Int} (hR : RP l) (hP : PlR l ps) (j : Nat) :
    tbL (tuL l) c (tuP ps) hs j ((tuP ps).length - 1) = tbL l c ps hs j (ps.length - 1) ∧ tbH (tuL l) c (tuP ps) hs j ((tuP ps).length - 1) = tbH l c ps hs j (ps.length - 1) := by
  have n0 := hP.n0
  obtain ⟨a, b⟩ := tb_turn (hs := hs) (c := c) hR hP j (ps.length - 1) (by omega)
  rw [show ps.length - 1 - (ps.length - 1) = 0 by omega] at a b
  simp only [tbL, tbH, Int.add_zero] at a b
  rw [tuP_len]
  exact ⟨a, b⟩
end Go.Proofs.Ytgjdopjolokaiaa

/- Package profile: Insert. -/
namespace Go.Proofs.Ytgjdopjolokaiaa
open Go.RowKit

/-- what Insert returns -/
noncomputable def ixE (l : List (Int × Int)) (x : Int) : Int :=
  if plE l x = 0 then (if gX l (pc l x - 1) = x ∨ gX l (pc l x) = x then 6 else if rdL l x ≠ rdH l x then 10 else if l.length = 32 then 12 else 0) else plE l x
noncomputable def ixL (l : List (Int × Int)) (x : Int) : List (Int × Int) := if ixE l x = 0 then l.take (pc l x) ++ [(x, rdL l x)] ++ l.drop (pc l x) else []

theorem flat_take (l : List (Int × Int)) (i : Nat) : flat (l.take i) = (flat l).take (i * 2) := by
  induction l generalizing i with
  | nil => simp [flat]
  | cons q l ih =>
    cases i with
    | zero => simp [flat]
    | succ i =>
      rw [show (i + 1) * 2 = i * 2 + 1 + 1 by omega]
      simp only [List.take_succ_cons, flat, ih]
theorem flat_drop (l : List (Int × Int)) (i : Nat) : flat (l.drop i) = (flat l).drop (i * 2) := by
  induction l generalizing i with
  | nil => simp [flat]
  | cons q l ih =>
    cases i with
    | zero => simp [flat]
    | succ i =>
      rw [show (i + 1) * 2 = i * 2 + 1 + 1 by omega]
      simp only [List.drop_succ_cons, flat, ih]
/-- the cells of a list that lies in memory -/
theorem flat_cells {W : World} {b off n : Nat} {l : List (Int × Int)} (hn : n = l.length) (hc : ∀ j, j < n → W.cell? ⟨b, off + j * 2, none⟩ = some (.int .i64 (gX l j)) ∧ W.cell? ⟨b, off + j * 2 + 1, none⟩ = some (.int .i64 (gR l j))) :
    ∀ j u, (flat l)[j]? = some u → W.cell? ⟨b, off + j, none⟩ = some u := by
  intro j u hj
  obtain ⟨i, hi, ⟨rfl, rfl⟩ | ⟨rfl, rfl⟩⟩ := flat_inv l j u hj
  · exact (hc i (by omega)).1
  · rw [← Nat.add_assoc]; exact (hc i (by omega)).2
theorem take_cells {W : World} {b off n : Nat} {l : List (Int × Int)} (i : Nat) (h : ∀ j u, (flat l)[j]? = some u → W.cell? ⟨b, off + j, none⟩ = some u) :
    ∀ j u, (flat (l.take i))[j]? = some u → W.cell? ((⟨b, off, none⟩ : Addr).add j) = some u := by
  intro j u hj
  rw [flat_take, List.getElem?_take] at hj
  split at hj
  · rw [Go.WideShapes.add_plain]; exact h j u hj
  · cases hj
theorem drop_cells {W : World} {b off : Nat} {l : List (Int × Int)} (i : Nat) (h : ∀ j u, (flat l)[j]? = some u → W.cell? ⟨b, off + j, none⟩ = some u) :
    ∀ j u, (flat (l.drop i))[j]? = some u → W.cell? ((⟨b, off + i * 2, none⟩ : Addr).add j) = some u := by
  intro j u hj
  rw [flat_drop, List.getElem?_drop] at hj
  rw [Go.WideShapes.add_plain, Nat.add_assoc]
  exact h _ u hj
theorem new_pt (W : World) (x y : Value) (t : TypeId) : ∀ j u, [x, y][j]? = some u → (W.alloc (.cells #[x, y] t)).cell? ((⟨W.heap.size, 0, none⟩ : Addr).add j) = some u := by
  intro j u hj
  match j, hj with
  | 0, hj => simp at hj; subst hj; simp [Addr.add, go_sem]
  | 1, hj => simp at hj; subst hj; simp [Addr.add, go_sem]
  | j + 2, hj => simp at hj

end Go.Proofs.Ytgjdopjolokaiaa

/- Package profile: Turn. -/
namespace Go.Proofs.Ytgjdopjolokaiaa
open Go.RowKit Go.Sort

/-- a slice of the call's own that reads as a list of points, and can be written -/
def WPts (w : World) (B : Nat) (v : Value) (l : List (Int × Int)) : Prop :=
  ∃ g cap, v = .slice (some ⟨g, 0, none⟩) l.length cap ∧ (l.length ≤ cap ∧ cap ≤ 9223372036854775807) ∧ B ≤ g ∧ g < w.heap.size ∧
    ∀ j, j < l.length → (w.cell? ⟨g, j * 2, none⟩ = some (.int .i64 (gX l j)) ∧ w.cell? ⟨g, j * 2 + 1, none⟩ = some (.int .i64 (gR l j))) ∧ w.frozen? ⟨g, j * 2, none⟩ = false ∧ w.frozen? ⟨g, j * 2 + 1, none⟩ = false
theorem WPts.pts {w : World} {B : Nat} {v : Value} {l : List (Int × Int)} (h : WPts w B v l) : Pts w v l := by
  obtain ⟨g, cap, rfl, h1, h2, h3, h4⟩ := h
  exact ⟨_, cap, rfl, h1, .inr ⟨g, 0, rfl, h3, fun j hj => by rw [Nat.zero_add]; exact (h4 j hj).1⟩⟩
def encQ (q : Int × Int) : List Value := [.int .i64 q.1, .int .i64 q.2]
theorem reverse_p (u : Value) (l : List (Int × Int)) (B : Nat) (w0 w : World) (h : OwnP w B u l) (h0 : l.length ≠ 0) (hb : Below B w0 w) (hn : l.length ≤ 1000) :
    Calls Try.prog 60 #[u] w fun e w' => e = .returned (.tuple #[]) ∧ WPts w' B u l.reverse ∧ Below B w0 w' := by
  have h' := h
  obtain ⟨_, h2⟩ := h
  rcases h2 with ⟨rfl, hn0⟩ | ⟨g, cap, cur, rfl, hg, hh, hc, hm, hs, ht⟩
  · exact absurd hn0 h0
  · have hlt : g < w.heap.size := by
      rcases Nat.lt_or_ge g w.heap.size with h | h
      · exact h
      · rw [Array.getElem?_eq_none h] at hh; cases hh
    have hcell := World.ownsRow.cells h' (g := g) rfl
    have hH : HoldsK encQ 2 w g 0 l.toArray := by
      intro j hj
      rw [size_flatK] at hj
      have hj' : j < l.length * 2 := by simpa using hj
      refine ⟨?_, by simp [World.frozen?, hh]⟩
      rw [get_flatK _ _ _ _ hj, ← Go.WideShapes.add_plain]
      refine hcell j _ ?_
      have hf := flat_at l (j / 2) (by omega)
      have hgd : l.toArray[j / 2]! = l.getD (j / 2) (0, 0) := by
        rw [getElem!_pos l.toArray (j / 2) (by simp; omega), List.getD_eq_getElem?_getD, List.getElem?_eq_getElem (by omega)]; simp
      rw [hgd]
      rcases Nat.mod_two_eq_zero_or_one j with e | e
      · rw [e]
        have hj2 : j = j / 2 * 2 := by omega
        have := hf.1
        rw [← hj2] at this
        rw [this]; rfl
      · rw [e]
        have hj2 : j = j / 2 * 2 + 1 := by omega
        have := hf.2
        rw [← hj2] at this
        rw [this]; rfl
    have hr := AnyQ.slices_Reverse Try.reverseQ 2 Try.isAgg33 Try.sizeOf33 encQ (fun _ => rfl) (fun x v hv => by simp [encQ] at hv; rcases hv with rfl | rfl <;> rfl) g 0 cap l.toArray w hH (by simp; omega)
    rw [show l.toArray.size = l.length by simp] at hr
    refine hr.mono ?_
    rintro e w' ⟨rfl, n, rfl⟩
    refine ⟨rfl, ⟨g, cap, by rw [List.length_reverse], ?_, hg, ?_, fun j hj => ?_⟩, Lib.below_putRow hb hg⟩
    · rw [List.length_reverse]; unfold maxLen at hm; omega
    · show g < (putRow id (Sort.ahead w n) g 0 _).heap.size
      rw [size_putRow]; exact hlt
    · rw [List.length_reverse] at hj
      have hP := holdsK_putRowK encQ 2 (Sort.ahead w n) g 0 l.toArray l.toArray.reverse (holdsK_ahead encQ 2 w n g 0 _ hH) (by simp)
      have hgd : l.toArray.reverse[j]! = l.reverse.getD j (0, 0) := by
        rw [getElem!_pos l.toArray.reverse j (by simp; omega), List.getD_eq_getElem?_getD, List.getElem?_eq_getElem (by simp; omega)]; simp
      have p0 := hP.cell (i := j) (c := 0) (by simp; omega) (by omega)
      have p1 := hP.cell (i := j) (c := 1) (by simp; omega) (by omega)
      rw [hgd] at p0 p1
      rw [Nat.zero_add] at p0 p1
      exact ⟨⟨p0.1, p1.1⟩, p0.2, p1.2⟩

theorem still_tail {P : Program} {id : Nat} {Q : Exit → Act → World → Prop} {a : Act} {w : World} {l : List Oper} (n : Nat) (hm : P.follows .mixedOrders = true) (hB : Region.lexTailB .any l.toArray n = true)
    (h : wpStill P l.toArray w.drew (fun a' => wpList P l.toArray Q (l.drop n) a' w.drew) (l.take n) a) : (Code.region id l.toArray true).wp P Q a w :=
  wp_region_still_tail n hm hB h
/-- the cells while they are turned -/
def TC (W : World) (g n k : Nat) (X : Int) (f r : Nat → Int) : Prop :=
  ∀ j, j < n → (W.cell? ⟨g, j * 2, none⟩ = some (.int .i64 (if j < k then X - f j else f j)) ∧ W.cell? ⟨g, j * 2 + 1, none⟩ = some (.int .i64 (r j))) ∧ W.frozen? ⟨g, j * 2, none⟩ = false ∧ W.frozen? ⟨g, j * 2 + 1, none⟩ = false
theorem TC.drew {W : World} {g n k : Nat} {X : Int} {f r : Nat → Int} (h : TC W g n k X f r) : TC W.drew g n k X f r := h
theorem TC.step {W : World} {g n k : Nat} {X : Int} {f r : Nat → Int} (h : TC W g n k X f r) (hk : k < n) : TC (W.setCell ⟨g, k * 2, none⟩ (.int .i64 (X - f k))) g n (k + 1) X f r := by
  intro j hj
  obtain ⟨⟨h0, h1⟩, h2, h3⟩ := h j hj
  refine ⟨⟨?_, ?_⟩, by rw [World.frozen?_setCell]; exact h2, by rw [World.frozen?_setCell]; exact h3⟩
  · by_cases e : j = k
    · subst e
      rw [if_pos (by omega)]
      exact World.cell?_setCell_same _ _ _ h0
    · rw [World.cell?_setCell_other _ _ _ _ (by intro e2; simp at e2 <;> omega), h0]
      by_cases e2 : j < k
      · rw [if_pos e2, if_pos (by omega)]
      · rw [if_neg e2, if_neg (by omega)]
  · rw [World.cell?_setCell_other _ _ _ _ (by intro e2; simp at e2 <;> omega)]; exact h1

theorem Tu_bad (v : Value) (E : Int) (w : World) (e1 : (E == 0) = false) (e2 : (E != 0) = true)
    (H1 : Hid (Calls Try.prog 36 #[v] w fun e w' => e = .returned (.int .i64 E) ∧ Below w.heap.size w w')) :
    Calls Try.prog 27 #[v] w fun e w' => e = .returned (.tuple #[.slice none 0 0, .int .i64 E]) ∧ Below w.heap.size w w' := by
  go_enter Try.func27, Try.ntmps27
  go_wp2_with fail
  refine H1.out.mono ?_
  rintro e w1 ⟨rfl, gg⟩
  have X1 := Lib.hid gg; clear gg
  go_wp2
  go_returns
  exact ⟨rfl, X1.out⟩
set_option maxHeartbeats 16000000 in
set_option maxRecDepth 100000 in
theorem Tu_ok (b off n cap : Nat) (l : List (Int × Int)) (X : Int) (w : World) (n0 : 2 ≤ n) (n1 : n ≤ 32) (hcap : n ≤ cap) (hn : Hid (n = l.length)) (hX : Hid (gX l (n - 1) = X)) (bX : 0 ≤ X ∧ X ≤ 100000) (bx : Hid (∀ j, j < n → 0 ≤ gX l.reverse j ∧ gX l.reverse j ≤ 100000)) (hb : b < w.heap.size)
    (hc : Hid (∀ j, j < n → w.cell? ⟨b, off + j * 2, none⟩ = some (.int .i64 (gX l j)) ∧ w.cell? ⟨b, off + j * 2 + 1, none⟩ = some (.int .i64 (gR l j))))
    (H1 : Hid (Calls Try.prog 36 #[.slice (some ⟨b, off, none⟩) n cap] w fun e w' => e = .returned (.int .i64 0) ∧ Below w.heap.size w w')) :
    Calls Try.prog 27 #[.slice (some ⟨b, off, none⟩) n cap] w fun e w' => ∃ g c, e = .returned (.tuple #[.slice (some ⟨g, 0, none⟩) n c, .int .i64 0]) ∧ (n ≤ c ∧ c ≤ 9223372036854775807) ∧ g < w'.heap.size ∧ TC w' g n n X (gX l.reverse) (gR l.reverse) ∧ Below w.heap.size w w' := by
  obtain ⟨ti, hi, hz0, hz1, hz2⟩ := info_parts pt_info
  go_enter Try.func27, Try.ntmps27
  go_wp2_with fail
  refine H1.out.mono ?_
  rintro e w1 ⟨rfl, gg⟩
  have X1 := Lib.hid gg; clear gg
  have fl : Hid ((flat l).length = n * 2) := by show _ = _; rw [flat_len, hn.out]
  have fc : Hid (∀ j u, (flat l)[j]? = some u → w1.cell? ((⟨b, off, none⟩ : Addr).add j) = some u) := fun j u hj => by
    rw [Go.WideShapes.add_plain, (bcell X1.out).1 _ _ hb]
    exact flat_cells hn.out hc.out j u hj
  go_wp2_with (at_builtin; refine wpList_append_grows _ rfl _ _ 22 rfl 33 ti (.agg #[.int .i64 0, .int .i64 0]) 2 16 Try.underlying22 hi hz0 hz1 hz2 rfl (by decide) (some ⟨b, off, none⟩) 0 0 [] rfl (fun h => by cases h) rfl (fun b' hb' j u hj => by cases hj) ⟨b, off, none⟩ n cap (flat l) rfl fl.out fc.out (flat_one l) (by omega) (by unfold maxLen; omega) (by omega) ?_)
  intro v2 w2 hown hgrow
  have R : OwnP w2 w1.heap.size v2 l := by
    unfold OwnP
    rw [← hn.out]
    simpa using hown
  have XB : Hid (Below w.heap.size w w2) := X1.out.grown hgrow X1.out.size (fun k e => by cases e)
  have hg1 : Hid (w.heap.size ≤ w1.heap.size) := X1.out.size
  have HR := Lib.hid (reverse_p v2 l w1.heap.size w2 w2 R (by have := hn.out; omega) (Below.refl _ _) (by have := hn.out; omega))
  clear hown hgrow R fl fc
  go_wp2_with fail
  refine HR.out.mono ?_
  rintro e w3 ⟨rfl, ⟨g, c, rfl, hcc, hBg, hgl, hcell⟩, gg⟩
  rw [List.length_reverse, ← hn.out] at hcc hcell
  have XC := Lib.hid (XB.out.trans (gg.mono hg1.out)); clear gg HR XB
  have C0 : Hid (TC w3 g n 0 X (gX l.reverse) (gR l.reverse)) := fun j hj => by
    obtain ⟨⟨h0, h1⟩, h2, h3⟩ := hcell j hj
    exact ⟨⟨by rw [if_neg (by omega)]; exact h0, h1⟩, h2, h3⟩
  have el : l.reverse.length = n := by rw [List.length_reverse]; exact hn.out.symm
  rw [el]
  clear hcell el
  have hgw : w.heap.size ≤ g := Nat.le_trans hg1.out hBg
  go_wp2_with fail
  go_loopw [6, 20] (fun _ ii wr => ∃ k : Nat, k ≤ n ∧ ii = .int .i64 k ∧ Hid (Below w.heap.size w wr) ∧ Hid (TC wr g n k X (gX l.reverse) (gR l.reverse)) ∧ g < wr.heap.size) (fun _ ii _ => n - (intOf ii).toNat)
  case atStart => exact ⟨0, Nat.zero_le _, rfl, XC, C0, hgl⟩
  case round =>
    obtain ⟨k, hk, rfl, hB, hT, hgr⟩ := hrel
    by_cases hlt : k < n
    · obtain ⟨⟨c0, c1⟩, f0, f1⟩ := hT.out k hlt
      rw [if_neg (by omega)] at c0
      have bk := bx.out k hlt
      have HE : Hid (∀ W, Below w.heap.size w W → Calls Try.prog 61 #[.slice (some ⟨b, off, none⟩) n cap] W fun e w' => e = .returned (.int .i64 X) ∧ w' = W) := fun W hW => by
        have := end_any b off n cap l W (by omega) (by omega) (Lib.hid fun j hj => by rw [(bcell hW).1 _ _ hb, (bcell hW).1 _ _ hb]; exact hc.out j hj)
        rwa [hX.out] at this
      have T2 := Lib.hid (hT.out.drew.step hlt)
      have B2 : Hid (Below w.heap.size w (wr.drew.setCell ⟨g, k * 2, none⟩ (.int .i64 (X - gX l.reverse k)))) := (bel_trans hB.out (bel_drew wr)).setCell (p := ⟨g, k * 2, none⟩) hgw _
      have BD : Hid (Below w.heap.size w wr.drew) := bel_trans hB.out (bel_drew wr)
      have l1 : (k : Int) < (n : Int) := by omega
      have l2 : g < (wr.drew.setCell ⟨g, k * 2, none⟩ (.int .i64 (X - gX l.reverse k))).heap.size := by simpa [World.setCell] using hgr
      obtain ⟨x, hx⟩ : ∃ x, gX l.reverse k = x := ⟨_, rfl⟩
      rw [hx] at c0 bk T2 B2 l2
      have ws : IntKind.i64.wrap (X - x) = X - x := wrap_in _ ⟨by omega, by omega⟩
      go_wp2_with fail
      refine still_tail 12 (by kernel_rfl) (by kernel_rfl) ?_
      simp only [List.take_succ_cons, List.take_zero, List.drop_succ_cons, List.drop_zero]
      repeat still_step
      still_call ((HE.out _ BD.out).mono fun _ _ h => ⟨h.1, h.2⟩)
      repeat still_step
      refine wpStill_nil ?_
      go_wp2
      go_roundw
      case rel => exact ⟨k + 1, by omega, by go_num, B2, T2, l2⟩
      case measure => simp [intOf]; omega
    · obtain rfl : k = n := by omega
      go_wp2
      go_returns
      exact ⟨g, c, rfl, hcc, hgr, hT.out, hB.out⟩
theorem turn_any (v : Value) (l : List (Int × Int)) (w : World) (hv : Pts w v l) :
    Calls Try.prog 27 #[v] w fun e w' => ∃ u, e = .returned (.tuple #[u, .int .i64 (ckE l)]) ∧ Pts w' u (tuR l) ∧ Below w.heap.size w w' := by
  have HC := Lib.hid (ck_any v l w hv)
  unfold tuR
  by_cases h : ckE l = 0
  · have hR := (ckE_iff l).1 h
    have n0 := hR.n0
    have n1 := hR.n1
    rw [if_pos h, h]
    rw [h] at HC
    obtain ⟨a, cap, rfl, hl, hh⟩ := hv
    rcases hh with hh | ⟨b, off, rfl, hb, hc⟩
    · omega
    · refine (Tu_ok b off l.length cap l _ w n0 n1 hl.1 (Lib.hid rfl) (Lib.hid rfl) (hR.bx _ (by omega)) (Lib.hid fun j hj => ?_) hb (Lib.hid hc) HC).mono ?_
      · rw [(rev_get hj).1]; exact hR.bx _ (by omega)
      · rintro e w' ⟨g, c, rfl, hcc, hg, hT, hB⟩
        refine ⟨_, rfl, ⟨_, c, by rw [tuL_len], by rw [tuL_len]; exact hcc, .inr ⟨g, 0, rfl, hg, fun j hj => ?_⟩⟩, hB⟩
        rw [tuL_len] at hj
        obtain ⟨⟨h0, h1⟩, _⟩ := hT j hj
        rw [if_pos hj] at h0
        obtain ⟨e1, e2⟩ := tu_get hj
        rw [e1, e2, Nat.zero_add]
        exact ⟨h0, h1⟩
  · rw [if_neg h]
    exact (Tu_bad v _ w (by simpa using h) (by simpa using h) HC).mono fun _ w' g => ⟨_, g.1, pts_nil w', g.2⟩
end Go.Proofs.Ytgjdopjolokaiaa

/- Places in a row of the call's own: copied, turned round, and set down anew one after another. -/
namespace Go.Proofs.Ytgjdopjolokaiaa
open Go.RowKit

namespace LTQ
theorem set_size (b : Nat) : ∀ (vs : List Value) (o : Nat) (w : World), (w.setCells b o vs).heap.size = w.heap.size
  | [], _, _ => rfl
  | v :: r, o, w => by rw [World.setCells, set_size b r]; simp [World.setCell]
theorem set_frozen (b : Nat) (a : Addr) : ∀ (vs : List Value) (o : Nat) (w : World), (w.setCells b o vs).frozen? a = w.frozen? a
  | [], _, _ => rfl
  | v :: r, o, w => by rw [World.setCells, set_frozen b a r, World.frozen?_setCell]
theorem below_cells {B g : Nat} (hg : B ≤ g) : ∀ (vs : List Value) (o : Nat) (w : World), Below B w (w.setCells g o vs)
  | [], _, _ => Below.refl _ _
  | v :: r, o, w => ((Below.refl B w).setCell (p := ⟨g, o, none⟩) hg v).trans (below_cells hg r (o + 1) _)
theorem nlen {W : World} {a : Option Addr} {n cap : Nat} {zs : List Int} (h : Nums W (.slice a n cap) zs) : n = zs.length := by
  obtain ⟨a', c', e, _⟩ := h
  simp only [Value.slice.injEq] at e
  exact e.2.1
theorem nums_at {W : World} {a : Option Addr} {n cap : Nat} {zs : List Int} (h : Nums W (.slice a n cap) zs) (h0 : 0 < n) :
    ∃ b off, a = some ⟨b, off, none⟩ ∧ b < W.heap.size ∧ ∀ j, j < n → W.cell? ⟨b, off + j, none⟩ = some (.int .i64 (zs.getD j 0)) := by
  have hl := nlen h
  obtain ⟨a', c', e, _, hh⟩ := h
  simp only [Value.slice.injEq] at e
  obtain ⟨rfl, rfl, rfl⟩ := e
  rcases hh with hh | hh
  · omega
  · exact hh
end LTQ

/-- a row of the call's own while it is set down anew -/
def TRow (W : World) (g n k : Nat) (X : Int) (f : Nat → Int) : Prop :=
  ∀ j, j < n → W.cell? ⟨g, j, none⟩ = some (.int .i64 (if j < k then X - f j else f j)) ∧ W.frozen? ⟨g, j, none⟩ = false
theorem TRow.drew {W : World} {g n k : Nat} {X : Int} {f : Nat → Int} (h : TRow W g n k X f) : TRow W.drew g n k X f := h
theorem TRow.step {W : World} {g n k : Nat} {X : Int} {f : Nat → Int} (h : TRow W g n k X f) (hk : k < n) : TRow (W.setCell ⟨g, k, none⟩ (.int .i64 (X - f k))) g n (k + 1) X f := by
  intro j hj
  obtain ⟨h0, h2⟩ := h j hj
  refine ⟨?_, by rw [World.frozen?_setCell]; exact h2⟩
  by_cases e : j = k
  · subst e
    rw [if_pos (by omega)]
    exact World.cell?_setCell_same _ _ _ h0
  · rw [World.cell?_setCell_other _ _ _ _ (by intro e2; simp at e2 <;> omega), h0]
    by_cases e2 : j < k
    · rw [if_pos e2, if_pos (by omega)]
    · rw [if_neg e2, if_neg (by omega)]
theorem TRow.nums {W : World} {g n cap : Nat} {X : Int} {f : Nat → Int} {zs : List Int} (h : TRow W g n n X f) (hl : n = zs.length) (hf : ∀ j, j < n → zs.getD j 0 = X - f j) (hg : g < W.heap.size) (hc : n ≤ cap ∧ cap ≤ 9223372036854775807) : Nums W (.slice (some ⟨g, 0, none⟩) n cap) zs := by
  subst hl
  refine ⟨_, cap, rfl, hc, .inr ⟨g, 0, rfl, hg, fun j hj => ?_⟩⟩
  rw [Nat.zero_add, (h j hj).1, if_pos hj, hf j hj]

theorem clone_row (v : Value) (zs : List Int) (w : World) (h : Nums w v zs) (h0 : zs.length ≠ 0) (hn : zs.length ≤ 1000) :
    Calls Try.prog 16 #[v] w fun e w' => ∃ g cap, e = .returned (.slice (some ⟨g, 0, none⟩) zs.length cap) ∧ (zs.length ≤ cap ∧ cap ≤ 9223372036854775807) ∧ w.heap.size ≤ g ∧ g < w'.heap.size ∧ TRow w' g zs.length 0 0 (fun j => zs.getD j 0) ∧ Below w.heap.size w w' := by
  refine (clone_own v zs w h hn).mono ?_
  rintro e w' ⟨u, rfl, ho, hb⟩
  obtain ⟨ho1, ho2⟩ := ho
  rcases ho2 with ⟨rfl, e0⟩ | ⟨g, cap, cur, rfl, hg, hh, hc, hm, hs, ht⟩
  · exact absurd e0 h0
  · have hlt : g < w'.heap.size := by
      rcases Nat.lt_or_ge g w'.heap.size with h | h
      · exact h
      · rw [Array.getElem?_eq_none h] at hh; cases hh
    have hrow : w'.ownsRow w.heap.size 3 1 (.slice (some ⟨g, 0, none⟩) zs.length cap) zs.length (zs.map (Value.int .i64)) := ⟨ho1, .inr ⟨g, cap, cur, rfl, hg, hh, hc, hm, hs, ht⟩⟩
    refine ⟨g, cap, rfl, ⟨by omega, by unfold maxLen at hm; omega⟩, hg, hlt, fun j hj => ⟨?_, by simp [World.frozen?, hh]⟩, hb⟩
    rw [World.ownsRow.cellAt hrow j (by omega), if_neg (by omega)]
    simp [List.getD, List.getElem?_eq_getElem hj]

theorem rev_row (g cap : Nat) (zs : List Int) (w : World) (hg : g < w.heap.size) (hn : zs.length ≤ 1000) (h : TRow w g zs.length 0 0 (fun j => zs.getD j 0)) (X : Int) :
    Calls Try.prog 28 #[.slice (some ⟨g, 0, none⟩) zs.length cap] w fun e w' => e = .returned (.tuple #[]) ∧ g < w'.heap.size ∧ TRow w' g zs.length 0 X (fun j => zs.reverse.getD j 0) ∧ Below g w w' := by
  have hcell : ∀ j, j < zs.length → w.cell? ⟨g, 0 + j, none⟩ = some (.int .i64 (zs.getD j 0)) := fun j hj => by
    rw [Nat.zero_add, (h j hj).1, if_neg (by omega)]
  refine (Try.slices_Reverse_int_cells g 0 zs.length cap zs w (Nat.le_refl _) (by omega) hcell (fun j hj => by rw [Nat.zero_add]; exact (h j hj).2)).mono ?_
  rintro e w' ⟨rfl, q, rfl⟩
  rw [List.take_length]
  refine ⟨rfl, by rw [LTQ.set_size]; exact hg, fun j hj => ⟨?_, ?_⟩, ?_⟩
  · have hj2 : j < (zs.reverse.map (Value.int .i64)).length := by simpa using hj
    have := World.cell?_setCells_in g (zs.reverse.map (Value.int .i64)) 0 (w.drewN q) (fun i hi => by
      have hi2 : i < zs.length := by simpa using hi
      have := hcell i hi2
      show ((w.drewN q).cell? _).isSome = true
      rw [show (w.drewN q).cell? ⟨g, 0 + i, none⟩ = w.cell? ⟨g, 0 + i, none⟩ from rfl, this]; rfl) j hj2
    rw [Nat.zero_add] at this
    rw [this, if_neg (by omega)]
    simp [List.getD, List.getElem?_eq_getElem (show j < zs.reverse.length by simpa using hj)]
  · rw [LTQ.set_frozen]
    exact (h j hj).2
  · exact (show Below g w (w.drewN q) from ⟨rfl, rfl, rfl, Nat.le_refl _, fun _ _ => rfl⟩).trans (LTQ.below_cells (Nat.le_refl _) _ _ _)

/-- a cask's box, laid now, whose profile is set to another one -/
theorem quad_pf (W : World) (x y z u z' : Value) (T : TypeId) : Quad W.heap.size ((W.alloc (.cells #[x, y, z, u] T)).setCell ⟨W.heap.size, 2, none⟩ z') x y z' u := by
  obtain ⟨h0, h1, h2, h3, h4, h5⟩ := Quad.new W x y z u T
  refine ⟨?_, ?_, ?_, ?_, fun k hk => by rw [World.frozen?_setCell]; exact h4 k hk, by simp [World.setCell]⟩
  · rw [World.cell?_setCell_other _ _ _ _ (by intro e; simp at e)]; exact h0
  · rw [World.cell?_setCell_other _ _ _ _ (by intro e; simp at e)]; exact h1
  · exact World.cell?_setCell_same _ _ _ h2
  · rw [World.cell?_setCell_other _ _ _ _ (by intro e; simp at e)]; exact h3
end Go.Proofs.Ytgjdopjolokaiaa
