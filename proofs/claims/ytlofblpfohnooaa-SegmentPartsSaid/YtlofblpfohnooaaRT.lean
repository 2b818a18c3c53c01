/- Package root: exactly, between. -/
import Derived.Test.YtlofblpfohnooaaTwo
import Derived.Test.YtlofblpfohnooaaRS
import Derived.Laws.StructEq
import Derived.WalkMore
namespace Go.Proofs.Ytlofblpfohnooaa
open Go.RowKit

theorem Two.set0 {b : Nat} {W : World} {x y : Value} (h : Two b W x y) (z : Value) : Two b (W.setCell ⟨b, 0, none⟩ z) z y := by
  obtain ⟨h0, h1, h2, h3, h4⟩ := h
  refine ⟨?_, ?_, ?_, ?_, ?_⟩
  · exact World.cell?_setCell_same _ _ _ h0
  · rw [World.cell?_setCell_other _ _ _ _ (by simp)]; exact h1
  · rw [World.frozen?_setCell]; exact h2
  · rw [World.frozen?_setCell]; exact h3
  · simpa [World.setCell] using h4

/-- both ends of the search -/
def BI (n lo hi : Int) : Prop := 0 ≤ n ∧ -1 ≤ lo ∧ lo < hi ∧ 1 ≤ hi ∧ hi ≤ 1073741824 ∧ (lo = -1 ∨ lo * lo < n) ∧ n < hi * hi
theorem BI.start (n : Int) (h0 : 0 ≤ n) (h1 : n < 1152921504606846976) : BI n (-1) 1073741824 := ⟨h0, by omega, by omega, by omega, by omega, .inl rfl, by omega⟩
theorem BI.hi1 {n lo hi : Int} (h : BI n lo hi) (m : Int) (h0 : 0 ≤ m) (hl : lo < m) (hh : m < hi) (hm : n < m * m) : BI n lo m := by
  obtain ⟨a, b, c, d, e, f, g⟩ := h
  refine ⟨a, b, hl, ?_, by omega, f, hm⟩
  apply Classical.byContradiction
  intro hn
  obtain rfl : m = 0 := by omega
  omega
theorem BI.lo1 {n lo hi : Int} (h : BI n lo hi) (m : Int) (h0 : 0 ≤ m) (hl : lo < m) (hh : m < hi) (hm : m * m < n) : BI n m hi := by
  obtain ⟨a, b, c, d, e, f, g⟩ := h
  exact ⟨a, by omega, hh, d, e, .inr hm, g⟩
theorem BI.mid {n lo hi : Int} (h : BI n lo hi) : ∃ m, (lo + hi) / 2 = m ∧ 0 ≤ lo + hi ∧ lo + hi ≤ 2147483648 ∧ 0 ≤ m ∧ m ≤ 1073741824 ∧ lo ≤ m ∧ m < hi ∧ (hi - lo ≠ 1 → lo < m) ∧ 0 ≤ m * m ∧ m * m ≤ 1152921504606846976 := by
  obtain ⟨a, b, c, d, e, f, g⟩ := h
  have h1 : 0 ≤ (lo + hi) / 2 ∧ (lo + hi) / 2 ≤ 1073741824 := by omega
  have := sq_mono h1.1 h1.2
  exact ⟨_, rfl, by omega, by omega, h1.1, h1.2, by omega, by omega, by omega, Int.mul_nonneg h1.1 h1.1, by omega⟩
theorem BI.found {n lo hi : Int} (h : BI n lo hi) (m : Int) (h0 : 0 ≤ m) (hm : m * m = n) : rt n = m ∧ ce n = m := by
  subst hm
  exact ⟨rt_sq m h0, ce_sq m h0⟩
theorem BI.done {n lo hi : Int} (h : BI n lo hi) (h1 : hi - lo = 1) : rt n = lo ∧ ce n = hi := by
  obtain ⟨a, b, c, d, e, f, g⟩ := h
  obtain rfl : hi = lo + 1 := by omega
  have hl : lo * lo < n := by
    rcases f with rfl | f
    · omega
    · exact f
  have hr : rt n = lo := rt_of (by omega) (by omega) g
  refine ⟨hr, ?_⟩
  unfold ce
  rw [hr, if_pos hl]

def num? (w : World) (p : Addr) : Int := intOf ((w.cell? p).getD (.int .i64 0))
theorem num_at {w : World} {p : Addr} {a : Int} (h : w.cell? p = some (.int .i64 a)) : num? w p = a := by unfold num?; rw [h]; rfl

theorem exactly_any (m : Int) (w : World) :
    Calls Try.prog 44 #[.int .i64 m] w fun e w' => e = .returned (.agg #[.int .i64 m, .int .i64 m]) ∧ Below w.heap.size w w' := by
  go_enter Try.func44, Try.ntmps44
  go_wp2
  refine bodyPost_ret (v := .agg #[.int .i64 m, .int .i64 m]) (by simp [results, Try.results44, go_sem]) rfl ?_
  exact ⟨rfl, bel_alloc (Below.refl _ _)⟩

set_option maxHeartbeats 2000000 in
theorem between_any (n : Int) (w : World) (h0 : 0 ≤ n) (h1 : n < 1152921504606846976) :
    Calls Try.prog 43 #[.int .i64 n] w fun e w' => e = .returned (.agg #[.int .i64 (rt n), .int .i64 (ce n)]) ∧ Below w.heap.size w w' := by
  have H0 := Lib.hid (BI.start n h0 h1)
  have T0 := Lib.hid ((Two.new w (.int .i64 0) (.int .i64 0) 33).alloc (.cells #[.int .i64 (-1), .int .i64 1073741824] 33))
  have T1 := Lib.hid (Two.new (w.alloc (.cells #[.int .i64 0, .int .i64 0] 33)) (.int .i64 (-1)) (.int .i64 1073741824) 33)
  have X1 := Lib.hid (bel_alloc (bel_alloc (Below.refl ((w.alloc (.cells #[.int .i64 0, .int .i64 0] 33)).alloc (.cells #[.int .i64 (-1), .int .i64 1073741824] 33)).heap.size _)))
  go_enter Try.func43, Try.ntmps43
  go_wp2
  go_step3
  go_wp2
  go_step3
  go_wp2
  go_loopw [4, 5] (fun _ _ wr => ∃ lo hi : Int, Hid (BI n lo hi) ∧ Hid (Below w.heap.size w wr) ∧ Hid (Two w.heap.size wr (.int .i64 0) (.int .i64 0)) ∧ Hid (Two (w.heap.size + 1) wr (.int .i64 lo) (.int .i64 hi))) (fun _ _ wr => (num? wr ⟨w.heap.size + 1, 1, none⟩ - num? wr ⟨w.heap.size + 1, 0, none⟩).toNat)
  case atStart => exact ⟨-1, 1073741824, H0, X1, T0, by have := T1.out; simpa [Lib.hid] using Lib.hid this⟩
  case round =>
    obtain ⟨lo, hi, hI, hB, hT, hS⟩ := hrel
    have HE := Lib.hid (fun m W => exactly_any m W)
    have HM : Hid (num? wr ⟨w.heap.size + 1, 0, none⟩ = lo ∧ num? wr ⟨w.heap.size + 1, 1, none⟩ = hi) := ⟨num_at hS.out.1, num_at hS.out.2.1⟩
    obtain ⟨s0, s1, sf0, sf1, slt⟩ := hS.out
    obtain ⟨r0, r1, f0, f1, rlt⟩ := hT.out
    obtain ⟨m, hm, a0, a1, m0, m1, ml, mh, mn, q0, q1⟩ := hI.out.mid
    obtain ⟨_, b0, b1, b2, b3, _, _⟩ := hI.out
    clear H0 T0 T1 X1
    by_cases h1 : hi - lo = 1
    · have e1 : (hi - lo == 1) = true := by simpa using h1
      have HR := Lib.hid (hI.out.done h1)
      clear h1 mn hI
      go_wp2
      rw [Exit.noGoto_ret]
      obtain ⟨t0, t1⟩ := two_read _ w.heap.size (.int .i64 lo) (.int .i64 hi) r0 r1
      refine bodyPost_ret (v := .agg #[.int .i64 lo, .int .i64 hi]) (by simp [results, Try.results43, go_sem, t0, t1]) rfl ?_
      exact ⟨by rw [HR.out.1, HR.out.2], (hB.out.setCell (Nat.le_refl _) _).setCell (Nat.le_refl _) _⟩
    · have e1 : (hi - lo == 1) = false := by simpa using h1
      have hlm := mn h1
      clear mn h1
      by_cases h2 : m * m < n
      · have HN := Lib.hid (hI.out.lo1 m m0 hlm mh h2)
        have X := Lib.hid ((hT.out.other ⟨w.heap.size + 1, 0, none⟩ (by simp) (.int .i64 m)))
        have Y := Lib.hid (hS.out.set0 (.int .i64 m))
        have Z := Lib.hid (hB.out.setCell (p := ⟨w.heap.size + 1, 0, none⟩) (Nat.le_succ _) (.int .i64 m))
        go_wp2
        go_roundw
        case rel => exact ⟨m, hi, HN, Z, X, Y⟩
        case measure => rw [HM.out.1, HM.out.2, num_at Y.out.1, num_at Y.out.2.1]; omega
      · by_cases h3 : n < m * m
        · have HN := Lib.hid (hI.out.hi1 m m0 hlm mh h3)
          have X := Lib.hid ((hT.out.other ⟨w.heap.size + 1, 1, none⟩ (by simp) (.int .i64 m)))
          have Y := Lib.hid (hS.out.set1 (.int .i64 m))
          have Z := Lib.hid (hB.out.setCell (p := ⟨w.heap.size + 1, 1, none⟩) (Nat.le_succ _) (.int .i64 m))
          go_wp2
          go_roundw
          case rel => exact ⟨lo, m, HN, Z, X, Y⟩
          case measure => rw [HM.out.1, HM.out.2, num_at Y.out.1, num_at Y.out.2.1]; omega
        · have HR := Lib.hid (hI.out.found m m0 (by omega))
          clear hI
          go_wp2_with fail
          refine (HE.out _ _).mono ?_
          rintro e w1 ⟨rfl, gg⟩
          replace hT := Lib.hid (hT.out.below gg)
          replace hB := Lib.hid (bel_trans hB.out gg); clear gg s0 s1 sf0 sf1 slt r0 r1 f0 f1 rlt
          obtain ⟨r0, r1, f0, f1, rlt⟩ := hT.out
          go_wp2
          rw [Exit.noGoto_ret]
          obtain ⟨t0, t1⟩ := two_read _ w.heap.size (.int .i64 m) (.int .i64 m) r0 r1
          refine bodyPost_ret (v := .agg #[.int .i64 m, .int .i64 m]) (by simp [results, Try.results43, go_sem, t0, t1]) rfl ?_
          exact ⟨by rw [HR.out.1, HR.out.2], (hB.out.setCell (Nat.le_refl _) _).setCell (Nat.le_refl _) _⟩
end Go.Proofs.Ytlofblpfohnooaa
