/- The statements about layer 7: the examples of the chapter hold. -/
import Derived.Test.YtlofblpfohnooaaSPf
import Derived.Test.YtlofblpfohnooaaSPg
import Derived.Test.YtlofblpfohnooaaSPh
import Derived.Test.YtlofblpfohnooaaSC
import Derived.Test.YtlofblpfohnooaaSEq
namespace Go.Proofs.Ytlofblpfohnooaa
open Go.RowKit

theorem hc5 : (hcL 5 (-5) = 0 ∧ hcL 5 (-3) = 4 ∧ hcL 5 0 = 5 ∧ hcL 5 3 = 4 ∧ hcL 5 5 = 0) ∧ hcH 5 (-5) = 0 ∧ hcH 5 (-3) = 4 ∧ hcH 5 0 = 5 ∧ hcH 5 3 = 4 ∧ hcH 5 5 = 0 := by
  have r0 : rt 0 = 0 := rt_of (by decide) (by decide) (by decide)
  have r16 : rt 16 = 4 := rt_of (by decide) (by decide) (by decide)
  have r25 : rt 25 = 5 := rt_of (by decide) (by decide) (by decide)
  have c0 : ce 0 = 0 := by unfold ce; rw [r0]; decide
  have c16 : ce 16 = 4 := by unfold ce; rw [r16]; decide
  have c25 : ce 25 = 5 := by unfold ce; rw [r25]; decide
  unfold hcL hcH
  simp [r0, r16, r25, c0, c16, c25]
theorem ex_a : arE 5 5 [0, 5, 10] = 0 ∧ arL 5 5 [0, 5, 10] = 0 ∧ arH 5 5 [0, 5, 10] = 100 := by
  obtain ⟨⟨l1, l2, l3, l4, l5⟩, h1, h2, h3, h4, h5⟩ := hc5
  have e : arE 5 5 [0, 5, 10] = 0 := by decide
  unfold arL arH
  rw [e]
  simp [prL, prH, ofL, ofH, l1, l3, l5]
  omega
theorem ex_b : arE 5 5 [0, 2, 5, 8, 10] = 0 ∧ arL 5 5 [0, 2, 5, 8, 10] = 48 ∧ arH 5 5 [0, 2, 5, 8, 10] = 92 := by
  obtain ⟨⟨l1, l2, l3, l4, l5⟩, h1, h2, h3, h4, h5⟩ := hc5
  have e : arE 5 5 [0, 2, 5, 8, 10] = 0 := by decide
  unfold arL arH
  rw [e]
  simp [prL, prH, ofL, ofH, l1, l2, l3, l4, l5, h1, h2, h4, h5]
  omega
theorem ex_s : arE 5 5 [2, 5] = 0 ∧ arL 5 5 [2, 5] = 24 ∧ arH 5 5 [2, 5] = 30 := by
  obtain ⟨⟨l1, l2, l3, l4, l5⟩, h1, h2, h3, h4, h5⟩ := hc5
  have e : arE 5 5 [2, 5] = 0 := by decide
  unfold arL arH
  rw [e]
  simp [prL, prH, ofL, ofH, l2, l3]
  omega
theorem lit3 (w : World) : Nums (w.alloc (.cells #[.int .i64 0, .int .i64 5, .int .i64 10] 3)) (.slice (some ⟨w.heap.size, 0, none⟩) 3 3) [0, 5, 10] := nums_lit w [0, 5, 10] [.int .i64 0, .int .i64 5, .int .i64 10] rfl (by decide)
theorem lit5 (w : World) : Nums (w.alloc (.cells #[.int .i64 0, .int .i64 2, .int .i64 5, .int .i64 8, .int .i64 10] 3)) (.slice (some ⟨w.heap.size, 0, none⟩) 5 5) [0, 2, 5, 8, 10] := nums_lit w [0, 2, 5, 8, 10] [.int .i64 0, .int .i64 2, .int .i64 5, .int .i64 8, .int .i64 10] rfl (by decide)
theorem lit5' (w : World) : Nums (w.alloc (.cells #[.int .i64 0, .int .i64 2, .int .i64 5, .int .i64 7, .int .i64 10] 3)) (.slice (some ⟨w.heap.size, 0, none⟩) 5 5) [0, 2, 5, 7, 10] := nums_lit w [0, 2, 5, 7, 10] [.int .i64 0, .int .i64 2, .int .i64 5, .int .i64 7, .int .i64 10] rfl (by decide)

theorem ex_w : whE 5 = 0 ∧ whL 5 = 78 ∧ whH 5 = 79 := by decide
theorem ex_h : heE 10 4 = 0 ∧ heL 10 4 = [0, 2, 5, 7, 10] := by decide +kernel
theorem ex_r : rfE [0, 5, 10] = 0 ∧ rfL [0, 5, 10] = [0, 2, 5, 7, 10] := by decide +kernel
theorem ex_k : hcE [0, 2, 5, 7, 10] = 0 := by decide +kernel
end Go.Proofs.Ytlofblpfohnooaa

