/- Texts that the proofs of this seat share, one behind the other: LPA, PPEB, RB, RS, RT, SChd, SRefA, SPa, Kept, SPb, SPc, SRefC, SPe, SRefB, SRefD, SRefE, SRefF, SPd, SPf, LPC, PPF, Num, Div, OfK, Up1, PPG, PPH, PPT. -/
import Derived.Test.YtgjdopjolokaiaaM2
import Derived.Test.YtgjdopjolokaiaaM1
import Derived.Laws.StructEq
import Derived.WalkMore
import Derived.BigQuiet
import Derived.Deep.RegionWith
import Derived.FnLit
import Derived.Deep.RegionHeld3
import Derived.RangeFuncNested
import Derived.RangeFuncBound
import Derived.RangeFuncCalls
import Derived.RangeFuncLeaves
import Derived.RangeFuncBox
import Derived.Shelf.Abstract
import Derived.Shelf.RegionOpen
import Derived.OwnWalkIn
import Derived.TacticsInMore
import Derived.LoopNIn
import Derived.LoopIn
import Derived.StillTailTactics
import Derived.Laws.EntriesVeiled
import Derived.Lib.BitFns
import Derived.Lib.ItoaNum
import Derived.Laws.Bits64
import Derived.Laws.BitsAllLaws
import Derived.Test.YtgjdopjolokaiaaProg
import Derived.Test.YtgjdopjolokaiaaShelf
import Derived.WalkKit
import Derived.Handy
import Derived.Lib.Hide
import Derived.Outline
import Derived.Deep.DeepCutAuto
import Derived.Deep.CutBlock
import Derived.Deep.QuietTactic

set_option linter.unusedVariables false
set_option linter.unusedSimpArgs false

/- Package lying: position, isCount, advances, Check. -/
namespace Go.Proofs.Ytgjdopjolokaiaa
open Go.RowKit

theorem lyPos_core (nm : ByteArray) (ps dc E V : Int) (a : Option Addr) (n cap : Nat) (w : World) (hV : Hid ((E ≠ 0 → V = 1) ∧ (E = 0 → ps ≠ 1 → V = 10) ∧ (E = 0 → ps = 1 → V = 0)))
    (H1 : Hid (∀ W, Below w.heap.size w W → Calls Try.prog 72 #[.agg #[.string nm, .int .i64 ps, .slice a n cap, .int .i64 dc]] W fun e w' => e = .returned (.int .i64 E) ∧ Below W.heap.size W w')) :
    Calls Try.prog 39 #[.agg #[.string nm, .int .i64 ps, .slice a n cap, .int .i64 dc]] w fun e w' => e = .returned (.int .i64 V) ∧ Below w.heap.size w w' := by
  have F0 := Lib.hid (Quad.new w (.string nm) (.int .i64 ps) (.slice a n cap) (.int .i64 dc) 24)
  go_enter Try.func39, Try.ntmps39
  go_wp2_with fail
  refine (H1.out _ (bel_alloc (Below.refl _ _))).mono ?_
  rintro e w1 ⟨rfl, gg⟩
  replace F0 := Lib.hid (F0.out.below gg)
  have X1 := Lib.hid (bel_alloc gg); clear gg
  obtain ⟨u0, u1, u2, u3, _, _⟩ := F0.out
  by_cases h : E = 0
  · have g : (E != 0) = false := by simp [h]
    by_cases h2 : ps = 1
    · have g2 : (ps != 1) = false := by simp [h2]
      obtain rfl := hV.out.2.2 h h2
      clear h h2 hV
      go_wp2
      go_returns
      exact ⟨rfl, X1.out⟩
    · have g2 : (ps != 1) = true := by simpa using h2
      obtain rfl := hV.out.2.1 h h2
      clear h h2 hV
      go_wp2
      go_returns
      exact ⟨rfl, X1.out⟩
  · have g : (E != 0) = true := by simpa using h
    obtain rfl := hV.out.1 h
    clear h hV
    go_wp2
    go_returns
    exact ⟨rfl, X1.out⟩
theorem lyPos_any (v : Value) (c : Ck) (w : World) (hv : CkV w v c) :
    Calls Try.prog 39 #[v] w fun e w' => e = .returned (.int .i64 (liSE c)) ∧ Below w.heap.size w w' := by
  have HC : Hid (∀ W, Below w.heap.size w W → _) := Lib.hid fun W hW => ckk_any v c W (hv.below hW)
  obtain ⟨a, cap, rfl, _⟩ := hv
  refine lyPos_core _ _ _ (ccE c) _ _ _ _ w (Lib.hid ⟨fun h => ?_, fun h h2 => ?_, fun h h2 => ?_⟩) HC
  · unfold liSE; rw [if_neg h]
  · unfold liSE; rw [if_pos h, if_neg h2]
  · unfold liSE; rw [if_pos h, if_pos h2]
/-- how many strips, or slices of a piece, there can be -/
def cntB (n : Int) : Bool := decide (1 ≤ n) && decide (n ≤ 64)
theorem lyCnt_any (n : Int) (w : World) :
    Calls Try.prog 37 #[.int .i64 n] w fun e w' => e = .returned (.bool (cntB n)) ∧ w = w' := by
  go_enter Try.func37, Try.ntmps37
  go_wp2
  all_goals go_ret
  all_goals (refine ⟨ret_bool ?_, rfl⟩; unfold cntB; grind)
set_option maxRecDepth 100000 in
set_option maxHeartbeats 4000000 in
theorem lyAdv_some (b off q cap : Nat) (ps : List Int) (X : Int) (A : Bool) (w : World) (n0 : 1 ≤ q) (n1 : q ≤ 64) (hcap : q + 1 ≤ cap)
    (hc : Hid (∀ j, j < q + 1 → w.cell? ⟨b, off + j, none⟩ = some (.int .i64 (ps.getD j 0))))
    (h5 : Hid ((∃ i, i < q ∧ ps.getD (i + 1) 0 ≤ ps.getD i 0) → A = false)) (h6 : Hid ((∀ i, i < q → ps.getD i 0 < ps.getD (i + 1) 0) → A = (ps.getD 0 0 == 0 && ps.getD q 0 == X))) :
    Calls Try.prog 43 #[.slice (some ⟨b, off, none⟩) (q + 1) cap, .int .i64 X] w fun e w' => e = .returned (.bool A) ∧ w' = w := by
  have hc1 : ¬ cap = 1 := by omega
  go_enter Try.func43, Try.ntmps43
  go_wp2_with fail
  go_loopw [10] (fun ii wr => ∃ j : Nat, j ≤ q ∧ ii = .int .i64 (j : Int) ∧ w = wr ∧ Hid (∀ i, i < j → ps.getD i 0 < ps.getD (i + 1) 0)) (fun ii _ => q - (intOf ii).toNat)
  case atStart => exact ⟨0, by omega, rfl, rfl, fun i hi => by omega⟩
  case round =>
    obtain ⟨j, hj, rfl, rfl, hs⟩ := hrel
    by_cases hlt : j < q
    · have c0 := hc.out j (by omega)
      have c1 : w.cell? ⟨b, off + 1 + j, none⟩ = some (.int .i64 (ps.getD (j + 1) 0)) := by rw [show off + 1 + j = off + (j + 1) by omega]; exact hc.out (j + 1) (by omega)
      have HG : Hid (ps.getD j 0 < ps.getD (j + 1) 0 → ∀ i, i < j + 1 → ps.getD i 0 < ps.getD (i + 1) 0) := fun h i hi => by
        by_cases e : i = j
        · rw [e]; exact h
        · exact hs.out i (by omega)
      have HN : Hid (ps.getD (j + 1) 0 ≤ ps.getD j 0 → A = false) := fun h => h5.out ⟨j, hlt, h⟩
      generalize ps.getD j 0 = x at *
      generalize ps.getD (j + 1) 0 = y at *
      have l0 : (j : Int) < (q : Int) + 1 := by omega
      by_cases hxy : y ≤ x
      · obtain rfl := HN.out hxy
        have hd : decide (y ≤ x) = true := decide_eq_true hxy
        clear HN HG
        go_wp2
        go_returns
        exact ⟨rfl, rfl⟩
      · have hd : decide (y ≤ x) = false := decide_eq_false hxy
        replace HG := Lib.hid (HG.out (by omega))
        clear HN
        go_wp2
        go_roundw
        case rel => exact ⟨j + 1, by omega, by go_num, by first | rfl | trivial, HG.out⟩
        case measure => simp [intOf]; omega
    · obtain rfl : j = q := by omega
      have c0 : w.cell? ⟨b, off, none⟩ = some (.int .i64 (ps.getD 0 0)) := hc.out 0 (by omega)
      have c1 := hc.out j (by omega)
      clear h5
      have hA := h6.out hs.out
      clear h6
      generalize ps.getD 0 0 = x at *
      generalize ps.getD j 0 = y at *
      have wj : IntKind.i64.wrap ((j : Int) + 1 - 1) = (j : Int) := by rw [wrap_in _ ⟨by omega, by omega⟩]; omega
      have wk : IntKind.i64.wrap (j : Int) = (j : Int) := wrap_in _ ⟨by omega, by omega⟩
      by_cases hx : x = 0
      · have e0 : (x == 0) = true := by simp [hx]
        by_cases hy : y = X
        · have e1 : (y == X) = true := by simp [hy]
          rw [e0, e1] at hA
          obtain rfl := hA
          clear hx hy
          go_wp2
          go_returns
          exact ⟨rfl, rfl⟩
        · have e1 : (y == X) = false := by simp [hy]
          rw [e0, e1] at hA
          obtain rfl := hA
          clear hx hy
          go_wp2
          go_returns
          exact ⟨rfl, rfl⟩
      · have e0 : (x == 0) = false := by simp [hx]
        rw [e0] at hA
        obtain rfl := hA
        clear hx
        go_wp2
        go_returns
        exact ⟨rfl, rfl⟩
end Go.Proofs.Ytgjdopjolokaiaa

/- Package profile: Bung. -/
namespace Go.Proofs.Ytgjdopjolokaiaa
open Go.RowKit

set_option maxHeartbeats 4000000 in
set_option maxRecDepth 100000 in
theorem bung_ok (b off n cap : Nat) (l : List (Int × Int)) (w : World) (n0 : 1 ≤ n) (n1 : n ≤ 1000) (hb : b < w.heap.size)
    (hc : Hid (∀ j, j < n → w.cell? ⟨b, off + j * 2, none⟩ = some (.int .i64 (gX l j)) ∧ w.cell? ⟨b, off + j * 2 + 1, none⟩ = some (.int .i64 (gR l j))))
    (H1 : Hid (Calls Try.prog 36 #[.slice (some ⟨b, off, none⟩) n cap] w fun e w' => e = .returned (.int .i64 0) ∧ Below w.heap.size w w')) :
    Calls Try.prog 96 #[.slice (some ⟨b, off, none⟩) n cap] w fun e w' => e = .returned (.tuple #[.int .i64 (bg l n), .int .i64 0]) ∧ Below w.heap.size w w' := by
  go_enter Try.func96, Try.ntmps96
  go_wp2_with fail
  refine H1.out.mono ?_
  rintro e w1 ⟨rfl, gg⟩
  have X1 := Lib.hid gg; clear gg H1
  go_wp2_with fail
  go_loopw [5, 6, 7, 15] (fun bu _ _ ii wr => ∃ k : Nat, k ≤ n ∧ ii = .int .i64 k ∧ bu = .int .i64 (bg l k) ∧ Hid (Below w.heap.size w wr)) (fun _ _ _ ii _ => n - (intOf ii).toNat)
  case atStart => exact ⟨0, Nat.zero_le _, rfl, rfl, X1⟩
  case round =>
    obtain ⟨k, hk, rfl, rfl, hB⟩ := hrel
    by_cases hlt : k < n
    · have c0 : wr.cell? ⟨b, off + k * 2, none⟩ = some (.int .i64 (gX l k)) := by rw [(bcell hB.out).1 _ _ hb]; exact (hc.out k hlt).1
      have c1 : wr.cell? ⟨b, off + k * 2 + 1, none⟩ = some (.int .i64 (gR l k)) := by rw [(bcell hB.out).1 _ _ hb]; exact (hc.out k hlt).2
      have hg := bg_lt l k
      have hgl : bg l k < n := by omega
      have hbr : b < wr.heap.size := Nat.lt_of_lt_of_le hb hB.out.size
      have eb : bg l (k + 1) = if gR l (bg l k) < gR l k then k else bg l k := rfl
      have c2 : wr.cell? ⟨b, off + bg l k * 2 + 1, none⟩ = some (.int .i64 (gR l (bg l k))) := by rw [(bcell hB.out).1 _ _ hb]; exact (hc.out (bg l k) hgl).2
      have EB := Lib.hid eb
      clear eb hg
      generalize hgg : bg l k = g at *
      generalize gR l g = rg at *
      generalize gX l k = x at *
      generalize gR l k = r at *
      clear hgg
      have T := Lib.hid (Two.new wr (.int .i64 x) (.int .i64 r) 33)
      have hne : b ≠ wr.heap.size := Nat.ne_of_lt hbr
      have c3 : (wr.alloc (.cells #[.int .i64 x, .int .i64 r] 33)).cell? ⟨b, off + g * 2 + 1, none⟩ = some (.int .i64 rg) := by rw [World.cell?_alloc_lt wr _ _ hbr]; exact c2
      have hB2 := Lib.hid (bA hB.out (.cells #[.int .i64 x, .int .i64 r] 33))
      obtain ⟨t0, t1, _, _, _⟩ := T.out
      by_cases hq : rg < r
      · have e : bg l (k + 1) = k := by rw [EB.out, if_pos hq]
        clear EB
        go_wp2_with fail
        go_quiet (fail)
        go_wp2
        go_roundw
        case rel => exact ⟨k + 1, by omega, by go_num, by rw [e], bel_trans hB2.out (bel_drewN _ _)⟩
        case measure => simp [intOf]; omega
      · have e : bg l (k + 1) = g := by rw [EB.out, if_neg hq]
        clear EB
        go_wp2_with fail
        go_quiet (fail)
        go_wp2
        go_roundw
        case rel => exact ⟨k + 1, by omega, by go_num, by rw [e], bel_trans hB2.out (bel_drewN _ _)⟩
        case measure => simp [intOf]; omega
    · obtain rfl : k = n := by omega
      go_wp2
      go_returns
      exact ⟨rfl, hB.out⟩
theorem bung_bad (v : Value) (E : Int) (w : World) (e1 : (E == 0) = false) (e2 : (E != 0) = true)
    (H1 : Hid (Calls Try.prog 36 #[v] w fun e w' => e = .returned (.int .i64 E) ∧ Below w.heap.size w w')) :
    Calls Try.prog 96 #[v] w fun e w' => e = .returned (.tuple #[.int .i64 0, .int .i64 E]) ∧ Below w.heap.size w w' := by
  go_enter Try.func96, Try.ntmps96
  go_wp2_with fail
  refine H1.out.mono ?_
  rintro e w1 ⟨rfl, gg⟩
  have X1 := Lib.hid gg; clear gg
  go_wp2
  go_returns
  exact ⟨rfl, X1.out⟩
theorem bung_any (v : Value) (l : List (Int × Int)) (w : World) (hv : Pts w v l) :
    Calls Try.prog 96 #[v] w fun e w' => e = .returned (.tuple #[.int .i64 (buQ l), .int .i64 (ckE l)]) ∧ Below w.heap.size w w' := by
  have HC := Lib.hid (ck_any v l w hv)
  unfold buQ
  by_cases h : ckE l = 0
  · have hR := (ckE_iff l).1 h
    have n0 := hR.n0
    have n1 := hR.n1
    rw [if_pos h, h]
    rw [h] at HC
    obtain ⟨a, cap, rfl, hl, hh⟩ := hv
    rcases hh with hh | ⟨b, off, rfl, hb, hc⟩
    · omega
    · exact bung_ok b off l.length cap l w (by omega) (by omega) hb (Lib.hid hc) HC
  · rw [if_neg h]
    exact bung_bad v _ w (by simpa using h) (by simpa using h) HC
end Go.Proofs.Ytgjdopjolokaiaa

/- Plain facts on a root that is found bit by bit. No program stands in this text. -/
namespace Go.Proofs.Ytgjdopjolokaiaa

/-- q is the root of n as far as the bits from k on go; bit is the next one -/
def RBit (n q bit : Int) (k : Nat) : Prop := bit = 2 ^ k / 2 ∧ 0 ≤ q ∧ q * q ≤ n ∧ n < (q + 2 ^ k) * (q + 2 ^ k) ∧ q + 2 ^ k ≤ 2147483648
theorem two_pos (k : Nat) : (1 : Int) ≤ 2 ^ k := by
  induction k with
  | zero => simp
  | succ k ih => rw [Int.pow_succ]; omega
theorem two_half (k : Nat) : (2 : Int) ^ (k + 1) / 2 = 2 ^ k := by
  rw [Int.pow_succ, Int.mul_ediv_cancel _ (by omega)]
theorem RBit.start (n : Int) (h0 : 0 ≤ n) (h1 : n < 4611686018427387904) : RBit n 0 1073741824 31 := ⟨by decide, by omega, by simpa using h0, by simpa using h1, by decide⟩
theorem RBit.pos {n q bit : Int} {k : Nat} (h : RBit n q bit k) (hb : 0 < bit) : ∃ j, k = j + 1 ∧ bit = 2 ^ j ∧ (2 : Int) ^ k = bit + bit := by
  obtain ⟨e, _⟩ := h
  cases k with
  | zero => simp at e; omega
  | succ j =>
    rw [two_half] at e
    exact ⟨j, rfl, e, by rw [Int.pow_succ, ← e]; omega⟩
theorem RBit.bd {n q bit : Int} {k : Nat} (h : RBit n q bit k) (hb : 0 < bit) : 0 ≤ q ∧ q + bit ≤ 2147483647 ∧ 0 ≤ (q + bit) * (q + bit) ∧ (q + bit) * (q + bit) ≤ 4611686014132420609 := by
  obtain ⟨j, _, _, e⟩ := h.pos hb
  obtain ⟨_, q0, _, _, b⟩ := h
  rw [e] at b
  have h1 : q + bit ≤ 2147483647 := by omega
  have := sq_mono (show 0 ≤ q + bit by omega) h1
  exact ⟨q0, h1, Int.mul_nonneg (by omega) (by omega), by omega⟩
theorem RBit.up {n q bit : Int} {k : Nat} (h : RBit n q bit k) (hb : 0 < bit) (hq : (q + bit) * (q + bit) ≤ n) : ∃ j, k = j + 1 ∧ RBit n (q + bit) (bit / 2) j := by
  obtain ⟨j, ek, e, e2⟩ := h.pos hb
  obtain ⟨_, q0, _, a, b⟩ := h
  rw [e2] at a b
  refine ⟨j, ek, by rw [e], by omega, hq, ?_, by rw [← e]; omega⟩
  rw [← e, show q + bit + bit = q + (bit + bit) by omega]; exact a
theorem RBit.keep {n q bit : Int} {k : Nat} (h : RBit n q bit k) (hb : 0 < bit) (hq : n < (q + bit) * (q + bit)) : ∃ j, k = j + 1 ∧ RBit n q (bit / 2) j := by
  obtain ⟨j, ek, e, e2⟩ := h.pos hb
  obtain ⟨_, q0, c, a, b⟩ := h
  rw [e2] at b
  exact ⟨j, ek, by rw [e], q0, c, by rw [← e]; exact hq, by rw [← e]; omega⟩
theorem RBit.stop {n q bit : Int} {k : Nat} (h : RBit n q bit k) (hb : bit ≤ 0) : rt n = q := by
  obtain ⟨e, q0, c, a, _⟩ := h
  cases k with
  | zero => exact rt_of q0 c (by simpa using a)
  | succ j =>
    rw [two_half] at e
    have := two_pos j
    omega
end Go.Proofs.Ytgjdopjolokaiaa

/- What root's functions return, and what follows from it. -/
namespace Go.Proofs.Ytgjdopjolokaiaa

def rnB (n : Int) : Bool := decide (0 ≤ n) && decide (n ≤ 1125899906842624)
theorem rnB_iff (n : Int) : rnB n = true ↔ 0 ≤ n ∧ n ≤ 1125899906842624 := by simp [rnB]
def rnE (n : Int) : Int := if rnB n = true then 0 else 2
noncomputable def dnQ (n : Int) : Int := if rnB n = true then rt n else 0
noncomputable def upR (n : Int) : Int := if rnB n = true then ce n else 0
noncomputable def sqB (n : Int) : Bool := rnB n && decide (rt n = ce n)
def fdB (n k : Int) : Bool := decide (0 ≤ n) && decide (n ≤ 1099511627776) && decide (1 ≤ k) && decide (k ≤ 1000)
theorem fdB_iff (n k : Int) : fdB n k = true ↔ (0 ≤ n ∧ n ≤ 1099511627776) ∧ 1 ≤ k ∧ k ≤ 1000 := by simp [fdB, and_assoc]
def fdE (n k : Int) : Int := if fdB n k = true then 0 else 2
noncomputable def fdQ (n k : Int) : Int := if fdB n k = true then rt (n * k * k) else 0
def hfB (r y : Int) : Bool := decide (0 ≤ r) && decide (r ≤ 100000) && decide (-100000 ≤ y) && decide (y ≤ 100000)
theorem hfB_iff (r y : Int) : hfB r y = true ↔ (0 ≤ r ∧ r ≤ 100000) ∧ -100000 ≤ y ∧ y ≤ 100000 := by simp [hfB, and_assoc]
def hfE (r y : Int) : Int := if hfB r y = true then 0 else 2
noncomputable def hfL (r y : Int) : Int := if hfB r y = true then hcL r y else 0
noncomputable def hfH (r y : Int) : Int := if hfB r y = true then hcH r y else 0

/-- RootBetween -/
theorem rn_facts (n : Int) (h : rnB n = true) :
    (0 ≤ rt n ∧ rt n ≤ 33554432) ∧ (ce n = rt n ∨ ce n = rt n + 1) ∧ rt n * rt n ≤ n ∧ n < (rt n + 1) * (rt n + 1) ∧ n ≤ ce n * ce n ∧ (rt n = ce n ↔ rt n * rt n = n) := by
  obtain ⟨h0, h1⟩ := (rnB_iff n).1 h
  obtain ⟨a0, a1, a2⟩ := rt_spec n h0
  obtain ⟨b0, b1, b2, b3⟩ := ce_spec n h0
  have hb := rt_le h0 (show (0 : Int) ≤ 33554432 by omega) (show n ≤ 33554432 * 33554432 by omega)
  exact ⟨⟨a0, hb⟩, by omega, a1, a2, b2, ⟨fun e => b3.1 e.symm, fun e => (b3.2 e).symm⟩⟩
theorem rn_sq (n : Int) (h : rnB n = true) : ce n ≤ 33554433 ∧ 0 ≤ ce n ∧ 0 ≤ rt n * rt n ∧ rt n * rt n ≤ 1125899906842624 ∧ (rt n + 1) * (rt n + 1) ≤ 1125899973951489 ∧ 0 ≤ ce n * ce n ∧ ce n * ce n ≤ 1125899973951489 := by
  obtain ⟨⟨a0, a1⟩, b, _⟩ := rn_facts n h
  have e1 := sq_mono a0 a1
  have e2 := sq_mono (show 0 ≤ rt n + 1 by omega) (show rt n + 1 ≤ 33554433 by omega)
  have e3 := sq_mono (show 0 ≤ ce n by omega) (show ce n ≤ 33554433 by omega)
  exact ⟨by omega, by omega, Int.mul_nonneg a0 a0, by omega, by omega, Int.mul_nonneg (by omega) (by omega), by omega⟩
/-- RootFolds -/
theorem fd_facts (n k : Int) (h : fdB n k = true) :
    rnB n = true ∧ k * rt n ≤ rt (n * k * k) ∧ rt (n * k * k) ≤ k * ce n ∧ 0 ≤ rt (n * k * k) ∧ rt (n * k * k) * rt (n * k * k) ≤ n * k * k ∧ n * k * k < (rt (n * k * k) + 1) * (rt (n * k * k) + 1) ∧
      (0 ≤ n * k ∧ n * k ≤ 1099511627776000) ∧ (0 ≤ n * k * k ∧ n * k * k ≤ 1099511627776000000) ∧ rt (n * k * k) ≤ 1048576000 ∧ rt n ≤ 1048576 ∧ ce n ≤ 1048576 := by
  obtain ⟨⟨h0, h1⟩, k1, k2⟩ := (fdB_iff n k).1 h
  have m1 : n * k ≤ 1099511627776 * 1000 := Int.mul_le_mul h1 k2 (by omega) (by omega)
  have m0 : 0 ≤ n * k := Int.mul_nonneg h0 (by omega)
  have p1 : n * k * k ≤ 1099511627776000 * 1000 := Int.mul_le_mul m1 k2 (by omega) (by omega)
  have p0 : 0 ≤ n * k * k := Int.mul_nonneg m0 (by omega)
  obtain ⟨a0, a1, a2⟩ := rt_spec _ p0
  have f := rt_fold n k h0 (by omega)
  have b1 := rt_le p0 (show (0 : Int) ≤ 1048576000 by omega) (show n * k * k ≤ 1048576000 * 1048576000 by omega)
  have b2 := rt_le h0 (show (0 : Int) ≤ 1048576 by omega) (show n ≤ 1048576 * 1048576 by omega)
  have b3 := ce_le h0 (show (0 : Int) ≤ 1048576 by omega) (show n ≤ 1048576 * 1048576 by omega)
  exact ⟨(rnB_iff n).2 ⟨h0, by omega⟩, f.1, f.2, a0, a1, a2, ⟨m0, by omega⟩, ⟨p0, by omega⟩, b1, b2, b3⟩
/-- half chords: what is subtracted stays in range -/
theorem hf_sq (r y : Int) (h : hfB r y = true) : (0 ≤ r * r ∧ r * r ≤ 10000000000) ∧ 0 ≤ y * y ∧ y * y ≤ 10000000000 := by
  obtain ⟨⟨h0, h1⟩, y0, y1⟩ := (hfB_iff r y).1 h
  have e1 := sq_mono h0 h1
  have hy : 0 ≤ y * y ∧ y * y ≤ 10000000000 := by
    by_cases hy : 0 ≤ y
    · exact ⟨Int.mul_nonneg hy hy, by have := sq_mono hy y1; omega⟩
    · rw [← Int.neg_mul_neg]
      exact ⟨Int.mul_nonneg (by omega) (by omega), by have := sq_mono (show 0 ≤ -y by omega) (show -y ≤ 100000 by omega); omega⟩
  exact ⟨⟨Int.mul_nonneg h0 h0, by omega⟩, hy⟩
theorem hf_neg (r y : Int) : hfB r (-y) = hfB r y ∧ hfL r (-y) = hfL r y ∧ hfH r (-y) = hfH r y := by
  have e : hfB r (-y) = hfB r y := by
    rw [Bool.eq_iff_iff, hfB_iff, hfB_iff]; omega
  unfold hfL hfH
  rw [e, (hc_neg r y).1, (hc_neg r y).2]
  exact ⟨rfl, rfl, rfl⟩
/-- RootGrows -/
theorem hf_wider (r s y : Int) (h : r ≤ s) (h1 : hfB r y = true) (h2 : hfB s y = true) : hfL r y ≤ hfL s y ∧ hfH r y ≤ hfH s y := by
  unfold hfL hfH
  rw [if_pos h1, if_pos h1, if_pos h2, if_pos h2]
  exact hc_wider r s y ((hfB_iff _ _).1 h1).1.1 h
theorem hf_further (r y z : Int) (h : max y (-y) ≤ z) (h1 : hfB r y = true) (h2 : hfB r z = true) : hfL r z ≤ hfL r y ∧ hfH r z ≤ hfH r y := by
  unfold hfL hfH
  rw [if_pos h1, if_pos h1, if_pos h2, if_pos h2, (hc_abs r y).1, (hc_abs r y).2]
  exact hc_further r (max y (-y)) z ((hfB_iff _ _).1 h1).1.1 (by omega) h
theorem hf_bd (r y : Int) (h : hfB r y = true) : 0 ≤ hfL r y ∧ hfL r y ≤ hfH r y ∧ hfH r y ≤ hfL r y + 1 ∧ hfH r y ≤ r := by
  unfold hfL hfH
  rw [if_pos h, if_pos h]
  exact hc_bd r y ((hfB_iff _ _).1 h).1.1
theorem hf_zero (r : Int) (h : 0 ≤ r ∧ r ≤ 100000) : hfB r 0 = true ∧ hfL r 0 = r ∧ hfH r 0 = r := by
  have hb : hfB r 0 = true := (hfB_iff r 0).2 ⟨h, by omega, by omega⟩
  unfold hfL hfH
  rw [if_pos hb, if_pos hb, (hc_zero r h.1).1, (hc_zero r h.1).2]
  exact ⟨hb, rfl, rfl⟩
/-- RootCircle -/
theorem hf_circle (r y : Int) (h : hfB r y = true) (hy : ¬ (r < y ∨ y < -r)) : hfL r y * hfL r y + y * y ≤ r * r ∧ r * r ≤ hfH r y * hfH r y + y * y := by
  unfold hfL hfH
  rw [if_pos h, if_pos h]
  exact hc_circle r y hy
theorem hf_out (r y : Int) (hy : r < y ∨ y < -r) : hfL r y = 0 ∧ hfH r y = 0 := by
  unfold hfL hfH hcL hcH
  rw [if_pos hy, if_pos hy]
  exact ⟨by split <;> rfl, by split <;> rfl⟩
theorem hf_mul (r y : Int) (h : hfB r y = true) : (0 ≤ hfL r y * hfL r y ∧ hfL r y * hfL r y ≤ 10000000000) ∧ 0 ≤ hfH r y * hfH r y ∧ hfH r y * hfH r y ≤ 10000000000 := by
  have b := hf_bd r y h
  have hr := ((hfB_iff r y).1 h).1
  have e1 := sq_mono b.1 (show hfL r y ≤ 100000 by omega)
  have e2 := sq_mono (show 0 ≤ hfH r y by omega) (show hfH r y ≤ 100000 by omega)
  exact ⟨⟨Int.mul_nonneg b.1 b.1, by omega⟩, Int.mul_nonneg (by omega) (by omega), by omega⟩
end Go.Proofs.Ytgjdopjolokaiaa

/- Package root: exactly, between. -/
namespace Go.Proofs.Ytgjdopjolokaiaa
open Go.RowKit

/-- both ends of the search -/
def BI (n lo hi : Int) : Prop := 0 ≤ n ∧ -1 ≤ lo ∧ lo < hi ∧ 1 ≤ hi ∧ hi ≤ 1073741824 ∧ (lo = -1 ∨ lo * lo < n) ∧ n < hi * hi
theorem BI.start (n : Int) (h0 : 0 ≤ n) (h1 : n < 1152921504606846976) : BI n (-1) 1073741824 := ⟨h0, by omega, by omega, by omega, by omega, .inl rfl, by omega⟩
theorem BI.hi1 {n lo hi : Int} (h : BI n lo hi) (m : Int) (h0 : 0 ≤ m) (hl : lo < m) (hh : m < hi) (hm : n < m * m) : BI n lo m := by
  obtain ⟨a, b, c, d, e, f, g⟩ := h
  refine ⟨a, b, hl, ?_, by omega, f, hm⟩
  apply Classical.byContradiction
  intro hn
  obtain rfl : m = 0 := by omega
  omega
theorem BI.lo1 {n lo hi : Int} (h : BI n lo hi) (m : Int) (h0 : 0 ≤ m) (hl : lo < m) (hh : m < hi) (hm : m * m < n) : BI n m hi := by
  obtain ⟨a, b, c, d, e, f, g⟩ := h
  exact ⟨a, by omega, hh, d, e, .inr hm, g⟩
theorem BI.mid {n lo hi : Int} (h : BI n lo hi) : ∃ m, (lo + hi) / 2 = m ∧ 0 ≤ lo + hi ∧ lo + hi ≤ 2147483648 ∧ 0 ≤ m ∧ m ≤ 1073741824 ∧ lo ≤ m ∧ m < hi ∧ (hi - lo ≠ 1 → lo < m) ∧ 0 ≤ m * m ∧ m * m ≤ 1152921504606846976 := by
  obtain ⟨a, b, c, d, e, f, g⟩ := h
  have h1 : 0 ≤ (lo + hi) / 2 ∧ (lo + hi) / 2 ≤ 1073741824 := by omega
  have := sq_mono h1.1 h1.2
  exact ⟨_, rfl, by omega, by omega, h1.1, h1.2, by omega, by omega, by omega, Int.mul_nonneg h1.1 h1.1, by omega⟩
theorem BI.found {n lo hi : Int} (h : BI n lo hi) (m : Int) (h0 : 0 ≤ m) (hm : m * m = n) : rt n = m ∧ ce n = m := by
  subst hm
  exact ⟨rt_sq m h0, ce_sq m h0⟩
theorem BI.done {n lo hi : Int} (h : BI n lo hi) (h1 : hi - lo = 1) : rt n = lo ∧ ce n = hi := by
  obtain ⟨a, b, c, d, e, f, g⟩ := h
  obtain rfl : hi = lo + 1 := by omega
  have hl : lo * lo < n := by
    rcases f with rfl | f
    · omega
    · exact f
  have hr : rt n = lo := rt_of (by omega) (by omega) g
  refine ⟨hr, ?_⟩
  unfold ce
  rw [hr, if_pos hl]

def num? (w : World) (p : Addr) : Int := intOf ((w.cell? p).getD (.int .i64 0))
theorem num_at {w : World} {p : Addr} {a : Int} (h : w.cell? p = some (.int .i64 a)) : num? w p = a := by unfold num?; rw [h]; rfl

theorem exactly_any (m : Int) (w : World) :
    Calls Try.prog 117 #[.int .i64 m] w fun e w' => e = .returned (.agg #[.int .i64 m, .int .i64 m]) ∧ Below w.heap.size w w' := by
  go_enter Try.func117, Try.ntmps117
  go_wp2
  refine bodyPost_ret (v := .agg #[.int .i64 m, .int .i64 m]) (by simp [results, Try.results117, go_sem]) rfl ?_
  exact ⟨rfl, bel_alloc (Below.refl _ _)⟩

set_option maxHeartbeats 2000000 in
theorem between_any (n : Int) (w : World) (h0 : 0 ≤ n) (h1 : n < 1152921504606846976) :
    Calls Try.prog 112 #[.int .i64 n] w fun e w' => e = .returned (.agg #[.int .i64 (rt n), .int .i64 (ce n)]) ∧ Below w.heap.size w w' := by
  have H0 := Lib.hid (BI.start n h0 h1)
  have T0 := Lib.hid ((Two.new w (.int .i64 0) (.int .i64 0) 40).alloc (.cells #[.int .i64 (-1), .int .i64 1073741824] 40))
  have T1 := Lib.hid (Two.new (w.alloc (.cells #[.int .i64 0, .int .i64 0] 40)) (.int .i64 (-1)) (.int .i64 1073741824) 40)
  have X1 := Lib.hid (bel_alloc (bel_alloc (Below.refl ((w.alloc (.cells #[.int .i64 0, .int .i64 0] 40)).alloc (.cells #[.int .i64 (-1), .int .i64 1073741824] 40)).heap.size _)))
  go_enter Try.func112, Try.ntmps112
  go_wp2
  go_step3
  go_wp2
  go_step3
  go_wp2
  go_loopw [4, 5] (fun _ _ wr => ∃ lo hi : Int, Hid (BI n lo hi) ∧ Hid (Below w.heap.size w wr) ∧ Hid (Two w.heap.size wr (.int .i64 0) (.int .i64 0)) ∧ Hid (Two (w.heap.size + 1) wr (.int .i64 lo) (.int .i64 hi))) (fun _ _ wr => (num? wr ⟨w.heap.size + 1, 1, none⟩ - num? wr ⟨w.heap.size + 1, 0, none⟩).toNat)
  case atStart => exact ⟨-1, 1073741824, H0, X1, T0, by have := T1.out; simpa [Lib.hid] using Lib.hid this⟩
  case round =>
    obtain ⟨lo, hi, hI, hB, hT, hS⟩ := hrel
    have HE := Lib.hid (fun m W => exactly_any m W)
    have HM : Hid (num? wr ⟨w.heap.size + 1, 0, none⟩ = lo ∧ num? wr ⟨w.heap.size + 1, 1, none⟩ = hi) := ⟨num_at hS.out.1, num_at hS.out.2.1⟩
    obtain ⟨s0, s1, sf0, sf1, slt⟩ := hS.out
    obtain ⟨r0, r1, f0, f1, rlt⟩ := hT.out
    obtain ⟨m, hm, a0, a1, m0, m1, ml, mh, mn, q0, q1⟩ := hI.out.mid
    obtain ⟨_, b0, b1, b2, b3, _, _⟩ := hI.out
    clear H0 T0 T1 X1
    by_cases h1 : hi - lo = 1
    · have e1 : (hi - lo == 1) = true := by simpa using h1
      have HR := Lib.hid (hI.out.done h1)
      clear h1 mn hI
      go_wp2
      rw [Exit.noGoto_ret]
      obtain ⟨t0, t1⟩ := two_read _ w.heap.size (.int .i64 lo) (.int .i64 hi) r0 r1
      refine bodyPost_ret (v := .agg #[.int .i64 lo, .int .i64 hi]) (by simp [results, Try.results112, go_sem, t0, t1]) rfl ?_
      exact ⟨by rw [HR.out.1, HR.out.2], (hB.out.setCell (Nat.le_refl _) _).setCell (Nat.le_refl _) _⟩
    · have e1 : (hi - lo == 1) = false := by simpa using h1
      have hlm := mn h1
      clear mn h1
      by_cases h2 : m * m < n
      · have HN := Lib.hid (hI.out.lo1 m m0 hlm mh h2)
        have X := Lib.hid ((hT.out.other ⟨w.heap.size + 1, 0, none⟩ (by simp) (.int .i64 m)))
        have Y := Lib.hid (hS.out.set0 (.int .i64 m))
        have Z := Lib.hid (hB.out.setCell (p := ⟨w.heap.size + 1, 0, none⟩) (Nat.le_succ _) (.int .i64 m))
        go_wp2
        go_roundw
        case rel => exact ⟨m, hi, HN, Z, X, Y⟩
        case measure => rw [HM.out.1, HM.out.2, num_at Y.out.1, num_at Y.out.2.1]; omega
      · by_cases h3 : n < m * m
        · have HN := Lib.hid (hI.out.hi1 m m0 hlm mh h3)
          have X := Lib.hid ((hT.out.other ⟨w.heap.size + 1, 1, none⟩ (by simp) (.int .i64 m)))
          have Y := Lib.hid (hS.out.set1 (.int .i64 m))
          have Z := Lib.hid (hB.out.setCell (p := ⟨w.heap.size + 1, 1, none⟩) (Nat.le_succ _) (.int .i64 m))
          go_wp2
          go_roundw
          case rel => exact ⟨lo, m, HN, Z, X, Y⟩
          case measure => rw [HM.out.1, HM.out.2, num_at Y.out.1, num_at Y.out.2.1]; omega
        · have HR := Lib.hid (hI.out.found m m0 (by omega))
          clear hI
          go_wp2_with fail
          refine (HE.out _ _).mono ?_
          rintro e w1 ⟨rfl, gg⟩
          replace hT := Lib.hid (hT.out.below gg)
          replace hB := Lib.hid (bel_trans hB.out gg); clear gg s0 s1 sf0 sf1 slt r0 r1 f0 f1 rlt
          obtain ⟨r0, r1, f0, f1, rlt⟩ := hT.out
          go_wp2
          rw [Exit.noGoto_ret]
          obtain ⟨t0, t1⟩ := two_read _ w.heap.size (.int .i64 m) (.int .i64 m) r0 r1
          refine bodyPost_ret (v := .agg #[.int .i64 m, .int .i64 m]) (by simp [results, Try.results112, go_sem, t0, t1]) rfl ?_
          exact ⟨by rw [HR.out.1, HR.out.2], (hB.out.setCell (Nat.le_refl _) _).setCell (Nat.le_refl _) _⟩
end Go.Proofs.Ytgjdopjolokaiaa

/- Package root: half chords, chords. -/
namespace Go.Proofs.Ytgjdopjolokaiaa
open Go.RowKit

theorem field_low (a b : Int) (w : World) : (Instr.field 40 (.agg #[.int .i64 a, .int .i64 b]) 0).run Try.prog w = .ok (.int .i64 a) w := by kernel_rfl
theorem field_high (a b : Int) (w : World) : (Instr.field 40 (.agg #[.int .i64 a, .int .i64 b]) 1).run Try.prog w = .ok (.int .i64 b) w := by kernel_rfl

theorem hf_not {r y : Int} (h : hfB r y = false) : r < 0 ∨ (0 ≤ r ∧ 100000 < r) ∨ ((0 ≤ r ∧ r ≤ 100000) ∧ y < -100000) ∨ ((0 ≤ r ∧ r ≤ 100000) ∧ -100000 ≤ y ∧ 100000 < y) := by
  have : ¬ ((0 ≤ r ∧ r ≤ 100000) ∧ -100000 ≤ y ∧ y ≤ 100000) := fun hc => by rw [(hfB_iff r y).2 hc] at h; cases h
  omega
set_option maxHeartbeats 2000000 in
theorem half_any (r y : Int) (w : World) :
    Calls Try.prog 106 #[.int .i64 r, .int .i64 y] w fun e w' => e = .returned (.tuple #[.agg #[.int .i64 (hfL r y), .int .i64 (hfH r y)], .int .i64 (hfE r y)]) ∧ Below w.heap.size w w' := by
  have T0 := Lib.hid (Two.new w (.int .i64 0) (.int .i64 0) 40)
  cases h : hfB r y with
  | true =>
    obtain ⟨⟨h0, h1⟩, h2, h3⟩ := (hfB_iff r y).1 h
    have e3 : hfE r y = 0 := by unfold hfE; rw [if_pos h]
    by_cases hy : r < max y (-y)
    · have ho : r < y ∨ y < -r := by omega
      obtain ⟨e1, e2⟩ := hf_out r y ho
      rw [e1, e2, e3]
      clear e1 e2 e3 h ho
      go_enter Try.func106, Try.ntmps106
      go_wp2
      refine bodyPost_ret (v := .tuple #[.agg #[.int .i64 0, .int .i64 0], .int .i64 0]) (by simp [results, Try.results106, go_sem]) rfl ?_
      exact ⟨rfl, bel_alloc (Below.refl _ _)⟩
    · have ho : ¬ (r < y ∨ y < -r) := by omega
      have e1 : hfL r y = rt (r * r - y * y) := by unfold hfL hcL; rw [if_pos h, if_neg ho]
      have e2 : hfH r y = ce (r * r - y * y) := by unfold hfH hcH; rw [if_pos h, if_neg ho]
      obtain ⟨⟨p0, p1⟩, q0, q1⟩ := hf_sq r y h
      have hs := sq_abs ho
      have HB := Lib.hid (fun W => between_any (r * r - y * y) W hs (by omega))
      rw [e1, e2, e3]
      generalize rt (r * r - y * y) = F at *
      generalize ce (r * r - y * y) = C at *
      clear e1 e2 e3 h ho
      go_enter Try.func106, Try.ntmps106
      go_wp2_with fail
      refine (HB.out _).mono ?_
      rintro e w1 ⟨rfl, gg⟩
      replace T0 := Lib.hid (T0.out.below gg)
      have X1 := Lib.hid (bel_alloc gg); clear gg
      obtain ⟨r0, r1, f0, f1, hlt⟩ := T0.out
      go_wp2
      obtain ⟨t0, t1⟩ := two_read _ w.heap.size (.int .i64 F) (.int .i64 C) r0 r1
      refine bodyPost_ret (v := .tuple #[.agg #[.int .i64 F, .int .i64 C], .int .i64 0]) (by simp [results, Try.results106, go_sem, t0, t1]) rfl ?_
      exact ⟨rfl, (X1.out.setCell (Nat.le_refl _) _).setCell (Nat.le_refl _) _⟩
  | false =>
    have hn := hf_not h
    have e1 : hfL r y = 0 := by unfold hfL; rw [if_neg (by rw [h]; simp)]
    have e2 : hfH r y = 0 := by unfold hfH; rw [if_neg (by rw [h]; simp)]
    have e3 : hfE r y = 2 := by unfold hfE; rw [if_neg (by rw [h]; simp)]
    rw [e1, e2, e3]
    clear e1 e2 e3 h
    rcases hn with hn | ⟨hn, hn2⟩ | ⟨⟨hn, hn2⟩, hn3⟩ | ⟨⟨hn, hn2⟩, hn3, hn4⟩
    all_goals
      go_enter Try.func106, Try.ntmps106
      go_wp2
      refine bodyPost_ret (v := .tuple #[.agg #[.int .i64 0, .int .i64 0], .int .i64 2]) (by simp [results, Try.results106, go_sem]) rfl ?_
      exact ⟨rfl, bel_alloc (Below.refl _ _)⟩

set_option maxHeartbeats 2000000 in
theorem chord_any (r y : Int) (w : World) :
    Calls Try.prog 99 #[.int .i64 r, .int .i64 y] w fun e w' => e = .returned (.tuple #[.agg #[.int .i64 (2 * hfL r y), .int .i64 (2 * hfH r y)], .int .i64 (hfE r y)]) ∧ Below w.heap.size w w' := by
  have HB := Lib.hid (fun W => half_any r y W)
  have hb : (0 ≤ hfL r y ∧ hfL r y ≤ 100000) ∧ 0 ≤ hfH r y ∧ hfH r y ≤ 100000 := by
    cases h : hfB r y with
    | true => have := hf_bd r y h; have := ((hfB_iff r y).1 h).1; omega
    | false =>
      have e1 : hfL r y = 0 := by unfold hfL; rw [if_neg (by rw [h]; simp)]
      have e2 : hfH r y = 0 := by unfold hfH; rw [if_neg (by rw [h]; simp)]
      omega
  generalize hfL r y = F at *
  generalize hfH r y = C at *
  generalize hfE r y = E at *
  obtain ⟨⟨b0, b1⟩, b2, b3⟩ := hb
  have T0 := Lib.hid (Two.new w (.int .i64 0) (.int .i64 0) 40)
  go_enter Try.func99, Try.ntmps99
  go_wp2_with fail
  refine (HB.out _).mono ?_
  rintro e w1 ⟨rfl, gg⟩
  replace T0 := Lib.hid ((T0.out.below gg).alloc (.cells #[.int .i64 F, .int .i64 C] 40))
  have X1 := Lib.hid (bel_trans (bel_alloc gg) (bel_alloc (Below.refl (w1.alloc (.cells #[.int .i64 F, .int .i64 C] 40)).heap.size _))); clear gg
  obtain ⟨r0, r1, f0, f1, hlt⟩ := T0.out
  go_wp2
  obtain ⟨t0, t1⟩ := two_read _ w.heap.size (.int .i64 (2 * F)) (.int .i64 (2 * C)) r0 r1
  refine bodyPost_ret (v := .tuple #[.agg #[.int .i64 (2 * F), .int .i64 (2 * C)], .int .i64 E]) (by simp [results, Try.results99, go_sem, t0, t1]) rfl ?_
  exact ⟨rfl, (X1.out.setCell (Nat.le_refl _) _).setCell (Nat.le_refl _) _⟩
end Go.Proofs.Ytgjdopjolokaiaa

/- The reference of layers 6 and 7: roots, half chords, chords, strips. -/
namespace Go.Proofs.Ytgjdopjolokaiaa
open Go.RowKit

end Go.Proofs.Ytgjdopjolokaiaa

/- Package segment: lengths, heights, chords of a circle. -/
namespace Go.Proofs.Ytgjdopjolokaiaa
open Go.RowKit

theorem isLenS_any (n : Int) (w : World) :
    Calls Try.prog 88 #[.int .i64 n] w fun e w' => e = .returned (.bool (lenB n)) ∧ w = w' := by
  go_enter Try.func88, Try.ntmps88
  go_wp2
  all_goals go_ret
  all_goals (refine ⟨ret_bool ?_, rfl⟩; unfold lenB; grind)
theorem isHt_any (n : Int) (w : World) :
    Calls Try.prog 80 #[.int .i64 n] w fun e w' => e = .returned (.bool (hB n)) ∧ w = w' := by
  go_enter Try.func80, Try.ntmps80
  go_wp2
  all_goals go_ret
  all_goals (refine ⟨ret_bool ?_, rfl⟩; unfold hB; grind)
theorem isRt_any (r c : Int) (w : World) :
    Calls Try.prog 62 #[.agg #[.int .i64 r, .int .i64 c]] w fun e w' => e = .returned (.bool (lenB r && lenB c)) ∧ Below w.heap.size w w' := by
  have H1 := Lib.hid (fun W => isLenS_any r W)
  have H2 := Lib.hid (fun W => isLenS_any c W)
  generalize lenB r = x at *
  generalize lenB c = y at *
  cases x with
  | true =>
    go_enter Try.func62, Try.ntmps62
    go_wp2_with fail
    refine (H1.out _).mono ?_
    rintro e w1 ⟨rfl, hw⟩
    subst hw
    go_wp2_with fail
    refine (H2.out _).mono ?_
    rintro e w1 ⟨rfl, hw⟩
    subst hw
    go_wp2
    go_returns
    exact ⟨rfl, bel_alloc (Below.refl _ _)⟩
  | false =>
    go_enter Try.func62, Try.ntmps62
    go_wp2_with fail
    refine (H1.out _).mono ?_
    rintro e w1 ⟨rfl, hw⟩
    subst hw
    go_wp2
    go_returns
    exact ⟨rfl, bel_alloc (Below.refl _ _)⟩

/-- a distance that lies above what root allows has no chord -/
theorem hf_min (r d : Int) (h0 : 0 ≤ r) (h1 : r ≤ 100000) (d0 : -100000 ≤ d) : hfL r (min d 100000) = hcL r d ∧ hfH r (min d 100000) = hcH r d := by
  have hb : hfB r (min d 100000) = true := (hfB_iff _ _).2 ⟨⟨h0, h1⟩, by omega, by omega⟩
  unfold hfL hfH
  rw [if_pos hb, if_pos hb]
  by_cases hd : d ≤ 100000
  · rw [show min d 100000 = d by omega]; exact ⟨rfl, rfl⟩
  · rw [show min d 100000 = 100000 by omega]
    have e1 : hcL r d = 0 := by unfold hcL; rw [if_pos (by omega)]
    have e2 : hcH r d = 0 := by unfold hcH; rw [if_pos (by omega)]
    rw [e1, e2]
    by_cases hr : r < 100000
    · unfold hcL hcH
      rw [if_pos (by omega), if_pos (by omega)]
      exact ⟨rfl, rfl⟩
    · obtain rfl : r = 100000 := by omega
      have z1 : rt 0 = 0 := rt_sq 0 (by omega)
      have z2 : ce 0 = 0 := ce_sq 0 (by omega)
      unfold hcL hcH
      rw [if_neg (by omega), if_neg (by omega), show (100000 : Int) * 100000 - 100000 * 100000 = 0 by decide, z1, z2]
      exact ⟨rfl, rfl⟩

set_option maxHeartbeats 2000000 in
theorem cChord_any (r c y : Int) (w : World) (h0 : 0 ≤ r) (h1 : r ≤ 100000) (c0 : 0 ≤ c) (c1 : c ≤ 100000) (y0 : 0 ≤ y) (y1 : y ≤ 200000) :
    Calls Try.prog 89 #[.agg #[.int .i64 r, .int .i64 c], .int .i64 y] w fun e w' => e = .returned (.agg #[.int .i64 (2 * hcL r (y - c)), .int .i64 (2 * hcH r (y - c))]) ∧ Below w.heap.size w w' := by
  have HC := Lib.hid (fun W => chord_any r (min (y - c) 100000) W)
  obtain ⟨m1, m2⟩ := hf_min r (y - c) h0 h1 (by omega)
  rw [m1, m2] at HC
  clear m1 m2
  generalize hcL r (y - c) = F at *
  generalize hcH r (y - c) = C at *
  generalize hfE r (min (y - c) 100000) = E at *
  have T0 : Hid (Two (w.heap.size + 1) ((w.alloc (.cells #[.int .i64 r, .int .i64 c] 94)).alloc (.cells #[.int .i64 0, .int .i64 0] 40)) (.int .i64 0) (.int .i64 0)) := by
    have := Two.new (w.alloc (.cells #[.int .i64 r, .int .i64 c] 94)) (.int .i64 0) (.int .i64 0) 40
    rwa [World.size_alloc] at this
  go_enter Try.func89, Try.ntmps89
  go_wp2_with fail
  refine (HC.out _).mono ?_
  rintro e w1 ⟨rfl, gg⟩
  replace T0 := Lib.hid ((T0.out.below gg).alloc (.cells #[.int .i64 (2 * F), .int .i64 (2 * C)] 40))
  have X1 := Lib.hid (bel_trans (bel_alloc (bel_alloc gg)) (bel_alloc (Below.refl (w1.alloc (.cells #[.int .i64 (2 * F), .int .i64 (2 * C)] 40)).heap.size _))); clear gg
  obtain ⟨r0, r1, f0, f1, hlt⟩ := T0.out
  go_wp2
  obtain ⟨t0, t1⟩ := two_read _ (w.heap.size + 1) (.int .i64 (2 * F)) (.int .i64 (2 * C)) r0 r1
  refine bodyPost_ret (v := .agg #[.int .i64 (2 * F), .int .i64 (2 * C)]) (by simp [results, Try.results89, go_sem, t0, t1]) rfl ?_
  exact ⟨rfl, (X1.out.setCell (p := ⟨w.heap.size + 1, 0, none⟩) (Nat.le_succ _) _).setCell (p := ⟨w.heap.size + 1, 1, none⟩) (Nat.le_succ _) _⟩

set_option maxHeartbeats 2000000 in
/-- the method value's function: bounds are added in place -/
theorem add_any (b : Nat) (pL pH oL oH : Int) (w : World) (h : Two b w (.int .i64 pL) (.int .i64 pH)) (a0 : 0 ≤ pL) (a1 : pL ≤ 4000000000000) (b0 : 0 ≤ pH) (b1 : pH ≤ 4000000000000) (c0 : 0 ≤ oL) (c1 : oL ≤ 4000000000000) (d0 : 0 ≤ oH) (d1 : oH ≤ 4000000000000) :
    Calls Try.prog 63 #[.pointer (some ⟨b, 0, none⟩), .agg #[.int .i64 oL, .int .i64 oH]] w fun e w' => e = .returned (.tuple #[]) ∧ ∃ w2, Below w.heap.size w w2 ∧ w' = (w2.setCell ⟨b, 0, none⟩ (.int .i64 (pL + oL))).setCell ⟨b, 1, none⟩ (.int .i64 (pH + oH)) := by
  obtain ⟨z0, z1, f0, f1, hb⟩ := h
  have hne : b ≠ w.heap.size := by omega
  have hne2 : w.heap.size ≠ b := by omega
  have wl : IntKind.i64.wrap (pL + oL) = pL + oL := wrap_in _ ⟨by omega, by omega⟩
  have wh : IntKind.i64.wrap (pH + oH) = pH + oH := wrap_in _ ⟨by omega, by omega⟩
  have HW : Hid (((((w.setCell ⟨b, 0, none⟩ (.int .i64 (pL + oL))).setCell ⟨b, 1, none⟩ (.int .i64 (pH + oH))).alloc (.cells #[.int .i64 oL, .int .i64 oH] 40)).drew.drew) = (((w.alloc (.cells #[.int .i64 oL, .int .i64 oH] 40)).drew.drew).setCell ⟨b, 0, none⟩ (.int .i64 (pL + oL))).setCell ⟨b, 1, none⟩ (.int .i64 (pH + oH))) := by
    show _ = (((w.alloc _).setCell ⟨b, 0, none⟩ _).setCell ⟨b, 1, none⟩ _).drew.drew
    rw [World.setCell_alloc_past _ _ _ _ hb, World.setCell_alloc_past _ _ _ _ (by simpa [World.setCell] using hb)]
  go_enter Try.func63, Try.ntmps63
  go_wp2_with fail
  go_region
  all_goals go_wp2_with fail
  all_goals go_region
  all_goals go_wp2
  all_goals go_end0
  all_goals exact ⟨rfl, _, bel_alloc (bel_trans (bel_drew _) (bel_drew _)), HW.out⟩
end Go.Proofs.Ytgjdopjolokaiaa

/- What is kept by blocks that are laid, and by stores elsewhere. -/
namespace Go.Proofs.Ytgjdopjolokaiaa
end Go.Proofs.Ytgjdopjolokaiaa

/- Package segment: the area in a strip. -/
namespace Go.Proofs.Ytgjdopjolokaiaa
open Go.RowKit

theorem keepS {B : Nat} {W W' : World} {r c a b : Value} {n : Nat} (gg : Below W.heap.size W W') (hn : B + 1 < n) (h : W.cell? ⟨B, 0, none⟩ = some r ∧ W.cell? ⟨B, 1, none⟩ = some c ∧ W.cell? ⟨B + 1, 0, none⟩ = some a ∧ W.cell? ⟨B + 1, 1, none⟩ = some b ∧ n ≤ W.heap.size) :
    W'.cell? ⟨B, 0, none⟩ = some r ∧ W'.cell? ⟨B, 1, none⟩ = some c ∧ W'.cell? ⟨B + 1, 0, none⟩ = some a ∧ W'.cell? ⟨B + 1, 1, none⟩ = some b ∧ n ≤ W'.heap.size := by
  obtain ⟨h0, h1, h2, h3, h4⟩ := h
  exact ⟨by rw [(bcell gg).1 _ _ (by omega)]; exact h0, by rw [(bcell gg).1 _ _ (by omega)]; exact h1, by rw [(bcell gg).1 _ _ (by omega)]; exact h2, by rw [(bcell gg).1 _ _ (by omega)]; exact h3, Nat.le_trans h4 gg.size⟩
/-- both chords lie in blocks of their own -/
def Ends (w1 : World) (A0 A1 B0 B1 : Value) (s5 s6 : Value) (wx : World) : Prop := ∃ p q : Nat, s5 = .pointer (some ⟨p, 0, none⟩) ∧ s6 = .pointer (some ⟨q, 0, none⟩) ∧ Hid (Two p wx A0 A1) ∧ Hid (Two q wx B0 B1) ∧ Hid (Below w1.heap.size w1 wx)

set_option maxHeartbeats 8000000 in
set_option maxRecDepth 100000 in
theorem cArea_core (r c a b A0 A1 B0 B1 H : Int) (w : World) (r0 : 0 ≤ r) (r1 : r ≤ 100000) (a0 : 0 ≤ a) (ab : a ≤ b) (b1 : b ≤ 200000)
    (p0 : 0 ≤ A0) (p1 : A0 ≤ 200000) (p2 : 0 ≤ A1) (p3 : A1 ≤ 200000) (q0 : 0 ≤ B0) (q1 : B0 ≤ 200000) (q2 : 0 ≤ B1) (q3 : B1 ≤ 200000)
    (hc : (a ≤ c ∧ c ≤ b ∧ H = 2 * r) ∨ (c < a ∧ H = max A1 B1) ∨ (a ≤ c ∧ b < c ∧ H = max A1 B1)) (m0 : 0 ≤ (b - a) * min A0 B0) (m1 : (b - a) * min A0 B0 ≤ 40000000000) (m2 : 0 ≤ (b - a) * H) (m3 : (b - a) * H ≤ 40000000000)
    (H1 : Hid (∀ W, Calls Try.prog 89 #[.agg #[.int .i64 r, .int .i64 c], .int .i64 a] W fun e w' => e = .returned (.agg #[.int .i64 A0, .int .i64 A1]) ∧ Below W.heap.size W w'))
    (H2 : Hid (∀ W, Calls Try.prog 89 #[.agg #[.int .i64 r, .int .i64 c], .int .i64 b] W fun e w' => e = .returned (.agg #[.int .i64 B0, .int .i64 B1]) ∧ Below W.heap.size W w')) :
    Calls Try.prog 64 #[.agg #[.int .i64 r, .int .i64 c], .agg #[.int .i64 a, .int .i64 b]] w fun e w' => e = .returned (.agg #[.int .i64 ((b - a) * min A0 B0), .int .i64 ((b - a) * H)]) ∧ Below w.heap.size w w' := by
  go_enter Try.func64, Try.ntmps64
  go_wp2_with fail
  generalize hw1 : ((w.alloc (.cells #[.int .i64 r, .int .i64 c] 94)).alloc (.cells #[.int .i64 a, .int .i64 b] 40)).alloc (.cells #[.int .i64 0, .int .i64 0] 40) = w1
  have TC : Hid (Two w.heap.size w1 (.int .i64 r) (.int .i64 c)) := by rw [← hw1]; exact ((Two.new w _ _ _).alloc _).alloc _
  have TS : Hid (Two (w.heap.size + 1) w1 (.int .i64 a) (.int .i64 b)) := by rw [← hw1, ← World.size_alloc w (.cells #[.int .i64 r, .int .i64 c] 94)]; exact (Two.new _ _ _ _).alloc _
  have T0 : Hid (Two (w.heap.size + 1 + 1) w1 (.int .i64 0) (.int .i64 0)) := by rw [← hw1, ← World.size_alloc w (.cells #[.int .i64 r, .int .i64 c] 94), ← World.size_alloc (w.alloc (.cells #[.int .i64 r, .int .i64 c] 94)) (.cells #[.int .i64 a, .int .i64 b] 40)]; exact Two.new _ _ _ _
  obtain ⟨c0, c1, _, _, clt⟩ := TC.out
  obtain ⟨s0, s1, _, _, slt⟩ := TS.out
  have X0 : Hid (Below w.heap.size w w1) := by rw [← hw1]; exact bel_alloc (bel_alloc (bel_alloc (Below.refl _ _)))
  clear hw1
  have hB1 : w.heap.size + 1 < w1.heap.size := slt
  have HC := Lib.hid hc
  clear hc
  go_upto_region 1 with fail
  go_cut [5, 6] (fun s5 s6 wz => ∃ wx, wx = wz ∧ Ends w1 (.int .i64 A0) (.int .i64 A1) (.int .i64 B0) (.int .i64 B1) s5 s6 wx)
  case first =>
    go_region_held3 (fun W => W.cell? ⟨w.heap.size, 0, none⟩ = some (.int .i64 r) ∧ W.cell? ⟨w.heap.size, 1, none⟩ = some (.int .i64 c) ∧ W.cell? ⟨w.heap.size + 1, 0, none⟩ = some (.int .i64 a) ∧ W.cell? ⟨w.heap.size + 1, 1, none⟩ = some (.int .i64 b) ∧ w1.heap.size ≤ W.heap.size)
      ((refine keepS (W := w1) ?_ hB1 ⟨c0, c1, s0, s1, Nat.le_refl _⟩; repeat (first | (with_reducible exact Below.refl _ _) | (with_reducible exact bel_drew _) | (with_reducible refine bA ?_ _) | (with_reducible refine bS _ _ _ ?_ (by omega)) | (with_reducible refine bel_trans ?_ (bel_drew _)) | (with_reducible exact g1) | (with_reducible refine bel_trans ?_ g2) | (with_reducible refine bel_trans ?_ g1))))
      (first
        | (go_at_call_of 89 (Value.int IntKind.i64 a); refine (H1.out _).mono ?_; clear H1; rintro e w2 ⟨rfl, g1⟩; have z1 := g1.size; (try simp at z1); (try (refine (fun (q1 : Two w1.heap.size w2 (.int .i64 0) (.int .i64 0)) => ?_) (Two.below ?_ g1); rotate_left; (focus ((repeat (first | ((with_reducible refine Two.newAt _ _ _ _ ?_); first | (with_reducible rfl) | (simp only [World.size_alloc]; done) | (simp only [World.size_drew]; done) | (simp only [World.size_alloc, World.size_drew]; done)) | (with_reducible refine Two.alloc ?_ _) | (with_reducible refine Two.below ?_ (bel_drew _)))); done)); have q1h := Lib.hid q1; obtain ⟨q10, q11, q12, q13, q14⟩ := q1)); (try (refine (fun (q2 : Two (w1.heap.size + 1) w2 (.int .i64 0) (.int .i64 0)) => ?_) (Two.below ?_ g1); rotate_left; (focus ((repeat (first | ((with_reducible refine Two.newAt _ _ _ _ ?_); first | (with_reducible rfl) | (simp only [World.size_alloc]; done) | (simp only [World.size_drew]; done) | (simp only [World.size_alloc, World.size_drew]; done)) | (with_reducible refine Two.alloc ?_ _) | (with_reducible refine Two.below ?_ (bel_drew _)))); done)); have q2h := Lib.hid q2; obtain ⟨q20, q21, q22, q23, q24⟩ := q2)))
        | (go_at_call_of 89 (Value.int IntKind.i64 b); refine (H2.out _).mono ?_; clear H2; rintro e w3 ⟨rfl, g2⟩; have z2 := g2.size; (try simp at z2); (try (refine (fun (q3 : Two w1.heap.size w3 (.int .i64 0) (.int .i64 0)) => ?_) (Two.below ?_ g2); rotate_left; (focus ((repeat (first | ((with_reducible refine Two.newAt _ _ _ _ ?_); first | (with_reducible rfl) | (simp only [World.size_alloc]; done) | (simp only [World.size_drew]; done) | (simp only [World.size_alloc, World.size_drew]; done)) | (with_reducible exact q1h.out) | (with_reducible exact q2h.out) | (with_reducible refine Two.alloc ?_ _) | (with_reducible refine Two.below ?_ (bel_drew _)))); done)); have q3h := Lib.hid q3; obtain ⟨q30, q31, q32, q33, q34⟩ := q3)); (try (refine (fun (q4 : Two (w1.heap.size + 1) w3 (.int .i64 0) (.int .i64 0)) => ?_) (Two.below ?_ g2); rotate_left; (focus ((repeat (first | ((with_reducible refine Two.newAt _ _ _ _ ?_); first | (with_reducible rfl) | (simp only [World.size_alloc]; done) | (simp only [World.size_drew]; done) | (simp only [World.size_alloc, World.size_drew]; done)) | (with_reducible exact q1h.out) | (with_reducible exact q2h.out) | (with_reducible refine Two.alloc ?_ _) | (with_reducible refine Two.below ?_ (bel_drew _)))); done)); have q4h := Lib.hid q4; obtain ⟨q40, q41, q42, q43, q44⟩ := q4)); (try (refine (fun (q5 : Two w2.heap.size w3 (.int .i64 0) (.int .i64 0)) => ?_) (Two.below ?_ g2); rotate_left; (focus ((repeat (first | ((with_reducible refine Two.newAt _ _ _ _ ?_); first | (with_reducible rfl) | (simp only [World.size_alloc]; done) | (simp only [World.size_drew]; done) | (simp only [World.size_alloc, World.size_drew]; done)) | (with_reducible exact q1h.out) | (with_reducible exact q2h.out) | (with_reducible refine Two.alloc ?_ _) | (with_reducible refine Two.below ?_ (bel_drew _)))); done)); have q5h := Lib.hid q5; obtain ⟨q50, q51, q52, q53, q54⟩ := q5)); (try (refine (fun (q6 : Two (w2.heap.size + 1) w3 (.int .i64 0) (.int .i64 0)) => ?_) (Two.below ?_ g2); rotate_left; (focus ((repeat (first | ((with_reducible refine Two.newAt _ _ _ _ ?_); first | (with_reducible rfl) | (simp only [World.size_alloc]; done) | (simp only [World.size_drew]; done) | (simp only [World.size_alloc, World.size_drew]; done)) | (with_reducible exact q1h.out) | (with_reducible exact q2h.out) | (with_reducible refine Two.alloc ?_ _) | (with_reducible refine Two.below ?_ (bel_drew _)))); done)); have q6h := Lib.hid q6; obtain ⟨q60, q61, q62, q63, q64⟩ := q6))))
    all_goals go_wp2_with fail
    all_goals go_meet
    all_goals exact ⟨_, rfl, _, _, rfl, rfl, (show Two _ _ _ _ by ((repeat (first | ((with_reducible refine Two.newAt _ _ _ _ ?_); first | (with_reducible rfl) | (simp only [World.size_alloc]; done) | (simp only [World.size_drew]; done) | (simp only [World.size_alloc, World.size_drew]; done) | (simp [World.setCell]; done)) | (with_reducible refine Two.alloc ?_ _) | (with_reducible refine Two.below ?_ (bel_drew _)) | (with_reducible refine Two.both _ _ (x := .int .i64 0) (y := .int .i64 0) ?_) | (with_reducible refine Two.apart _ _ _ ?_ (by omega)) | (with_reducible refine Two.below ?_ g2) | (with_reducible refine Two.below ?_ g1))); done)), (show Two _ _ _ _ by ((repeat (first | ((with_reducible refine Two.newAt _ _ _ _ ?_); first | (with_reducible rfl) | (simp only [World.size_alloc]; done) | (simp only [World.size_drew]; done) | (simp only [World.size_alloc, World.size_drew]; done) | (simp [World.setCell]; done)) | (with_reducible refine Two.alloc ?_ _) | (with_reducible refine Two.below ?_ (bel_drew _)) | (with_reducible refine Two.both _ _ (x := .int .i64 0) (y := .int .i64 0) ?_) | (with_reducible refine Two.apart _ _ _ ?_ (by omega)) | (with_reducible refine Two.below ?_ g2) | (with_reducible refine Two.below ?_ g1))); done)), (show Below _ _ _ by ((repeat (first | (with_reducible exact Below.refl _ _) | (with_reducible exact bel_drew _) | (with_reducible refine bA ?_ _) | (with_reducible refine bS _ _ _ ?_ (by omega)) | (with_reducible refine bel_trans ?_ (bel_drew _)) | (with_reducible exact g1) | (with_reducible refine bel_trans ?_ g2) | (with_reducible refine bel_trans ?_ g1))); done))⟩
  case rest =>
    obtain ⟨wx, hwx, p, q, rfl, rfl, hP, hQ, hB⟩ := hcut
    subst hwx
    have TC2 := (TC.out.below hB.out)
    have TS2 := (TS.out.below hB.out)
    have T02 := Lib.hid (T0.out.below hB.out)
    have X1 := Lib.hid (X0.out.trans (hB.out.mono X0.out.size))
    clear c0 c1 s0 s1 clt slt hB1 TC TS T0 H1 H2 X0 hB
    obtain ⟨p0, p1, _, _, _⟩ := hP.out
    obtain ⟨q0, q1, _, _, _⟩ := hQ.out
    obtain ⟨c0, c1, _, _, _⟩ := TC2
    obtain ⟨s0, s1, _, _, _⟩ := TS2
    go_wp2
    go_quiet (fail)
    replace T02 : Two (w.heap.size + 1 + 1) (wx.drewN nq) (.int .i64 0) (.int .i64 0) := T02.out
    replace X1 := Lib.hid (bel_trans X1.out (bel_drewN _ nq))
    replace c0 : (wx.drewN nq).cell? ⟨w.heap.size, 0, none⟩ = some (.int .i64 r) := c0
    replace c1 : (wx.drewN nq).cell? ⟨w.heap.size, 1, none⟩ = some (.int .i64 c) := c1
    replace s0 : (wx.drewN nq).cell? ⟨w.heap.size + 1, 0, none⟩ = some (.int .i64 a) := s0
    replace s1 : (wx.drewN nq).cell? ⟨w.heap.size + 1, 1, none⟩ = some (.int .i64 b) := s1
    generalize wx.drewN nq = wq at *
    clear hP hQ p0 p1 q0 q1
    obtain ⟨z0, z1, f0, f1, hlt⟩ := T02
    rcases HC.out with ⟨d1, d2, rfl⟩ | ⟨d1, rfl⟩ | ⟨d1, d2, rfl⟩
    · clear HC
      go_wp2
      obtain ⟨t0, t1⟩ := two_read wq (w.heap.size + 1 + 1) (.int .i64 ((b - a) * min A0 B0)) (.int .i64 ((b - a) * (2 * r))) z0 z1
      refine bodyPost_ret (v := .agg #[.int .i64 ((b - a) * min A0 B0), .int .i64 ((b - a) * (2 * r))]) (by simp [results, Try.results64, go_sem, t0, t1]) rfl ?_
      exact ⟨rfl, bS _ _ _ (bS _ _ _ X1.out (by omega)) (by omega)⟩
    all_goals
      clear HC
      go_wp2
      obtain ⟨t0, t1⟩ := two_read wq (w.heap.size + 1 + 1) (.int .i64 ((b - a) * min A0 B0)) (.int .i64 ((b - a) * max A1 B1)) z0 z1
      refine bodyPost_ret (v := .agg #[.int .i64 ((b - a) * min A0 B0), .int .i64 ((b - a) * max A1 B1)]) (by simp [results, Try.results64, go_sem, t0, t1]) rfl ?_
      exact ⟨rfl, bS _ _ _ (bS _ _ _ X1.out (by omega)) (by omega)⟩
theorem cArea_any (r c a b : Int) (w : World) (r0 : 0 ≤ r) (r1 : r ≤ 100000) (c0 : 0 ≤ c) (c1 : c ≤ 100000) (a0 : 0 ≤ a) (ab : a ≤ b) (b1 : b ≤ 200000) :
    Calls Try.prog 64 #[.agg #[.int .i64 r, .int .i64 c], .agg #[.int .i64 a, .int .i64 b]] w fun e w' => e = .returned (.agg #[.int .i64 (ofL r c a b), .int .i64 (ofH r c a b)]) ∧ Below w.heap.size w w' := by
  have ha := hc_le r (a - c) r0
  have hb := hc_le r (b - c) r0
  have bd := of_bd r c a b r0 ab
  have q : (b - a) * (2 * r) ≤ 200000 * 200000 := Int.mul_le_mul (by omega) (by omega) (by omega) (by omega)
  refine cArea_core r c a b (2 * hcL r (a - c)) (2 * hcH r (a - c)) (2 * hcL r (b - c)) (2 * hcH r (b - c)) _ w r0 r1 a0 ab b1 (by omega) (by omega) (by omega) (by omega) (by omega) (by omega) (by omega) (by omega) ?_ bd.1 (by show ofL r c a b ≤ _; omega) (by show 0 ≤ ofH r c a b; omega) (by show ofH r c a b ≤ _; omega) (fun W => cChord_any r c a W r0 r1 c0 c1 a0 (by omega)) (fun W => cChord_any r c b W r0 r1 c0 c1 (by omega) b1)
  by_cases h : a ≤ c ∧ c ≤ b
  · left; exact ⟨h.1, h.2, if_pos h⟩
  · right
    rw [if_neg h]
    by_cases h2 : c < a
    · left; exact ⟨h2, rfl⟩
    · right; exact ⟨by omega, by omega, rfl⟩
end Go.Proofs.Ytgjdopjolokaiaa

/- Package segment: strips are yielded. -/
namespace Go.Proofs.Ytgjdopjolokaiaa
open Go.RowKit Go.Shelf
attribute [local go_sem] Oper.semAt_some

/-- a strip between two of the heights -/
def encB (l : List Int) {m : Nat} (j : Fin m) : Array Value := #[.agg #[.int .i64 (l.getD j.val 0), .int .i64 (l.getD (j.val + 1) 0)]]

/-- what a round keeps: what lay below n₀, and a box -/
def KpS (Bs n₀ : Nat) (W W' : World) : Prop := Below n₀ W W' ∧ ∀ v, W.cell? ⟨Bs, 0, none⟩ = some v → W'.cell? ⟨Bs, 0, none⟩ = some v
theorem kpS_refl (Bs n₀ : Nat) (W : World) : KpS Bs n₀ W W := ⟨Below.refl _ _, fun _ h => h⟩
theorem kpS_t {Bs n₀ : Nat} {A B C : World} (h : KpS Bs n₀ A B) (k : KpS Bs n₀ B C) : KpS Bs n₀ A C := ⟨h.1.trans k.1, fun v e => k.2 v (h.2 v e)⟩
theorem kpS_b {Bs n₀ : Nat} {w : World} (hn : n₀ ≤ w.heap.size) (W : World) (l : Nat) (o o' : Obj) (hl : w.heap.size ≤ l) (h : W.heap[l]? = some o) (h1 : o.isCells = false) (h2 : o.isWalk = false) : KpS Bs n₀ W (W.putObj l o') :=
  ⟨belowK_b hn W l o o' hl h h1 h2, fun _ e => cell_kept e (grownBy_putObj' W l o') (fun r e => by cases e; exact ⟨o, h, h1⟩)⟩
theorem kpS_drew (Bs n₀ : Nat) (W : World) : KpS Bs n₀ W W.drew := ⟨⟨rfl, rfl, rfl, Nat.le_refl _, fun _ _ => rfl⟩, fun _ h => h⟩

set_option maxRecDepth 100000 in
set_option maxHeartbeats 4000000 in
theorem strips1_in (n : Nat) (l Bs n₀ b off len cap : Nat) (zs : List Int) (hl : 1 ≤ len) (hl2 : len ≤ 1000) (hb : b < n₀) (J Jx : List (Fin (len - 1)) → World → Prop) (B0 : Nat) (hJ : AbidesFrom B0 J)
    (hY : ∀ pre x W, J pre W → pre.length < len - 1 → YieldAt Fence.wide (n - 1) Try.prog l (encB zs x) W fun e W' =>
      (e = .returned (.bool true) ∧ J (pre ++ [x]) W' ∧ KpS Bs n₀ W W') ∨ (e = .returned (.bool false) ∧ Jx (pre ++ [x]) W'))
    (W : World) (hBs : W.cell? ⟨Bs, 0, none⟩ = some (.slice (some ⟨b, off, none⟩) len cap)) (hc : ∀ j, j < len → W.cell? ⟨b, off + j, none⟩ = some (.int .i64 (zs.getD j 0))) (h0 : J [] W) :
    CallsIn Fence.wide n Try.prog 82 #[.func (.yield l) #[] #[], .pointer (some ⟨Bs, 0, none⟩)] W fun e W' => (∃ v, e = .returned v) ∧
      ((∃ ys, ys = ups (len - 1) (len - 1) ∧ J ys W') ∨ (∃ pre, (∃ k, k ≤ len - 1 ∧ pre = ups (len - 1) k) ∧ Jx pre W')) := by
  refine callsIn_of_wp Try.func82 rfl trivial ?_ rfl
  simp only [Try.ntmps82, List.size_toArray, List.length_cons, List.length_nil, Nat.reduceAdd, Nat.reduceSub, Array.replicate_succ, Array.replicate_zero, List.push_toArray, List.append_toArray, List.nil_append, List.cons_append]
  gi_wp2
  gi_loopw [3] (fun i wr => ∃ k : Nat, k + 1 ≤ len ∧ i = .int .i64 ((k : Int) + 1) ∧ J (ups (len - 1) k) wr ∧ KpS Bs n₀ W wr)
    (fun i _ => len - (intOf i).toNat)
  case atStart => exact ⟨0, hl, rfl, h0, kpS_refl _ _ _⟩
  case round =>
    obtain ⟨k, hk, rfl, hJs, hnx⟩ := hrel
    have hBx : wr.cell? ⟨Bs, 0, none⟩ = some (.slice (some ⟨b, off, none⟩) len cap) := hnx.2 _ hBs
    by_cases hlt : k + 1 < len
    · have d0 : wr.cell? ⟨b, off + k, none⟩ = some (.int .i64 (zs.getD k 0)) := (hnx.1.cell (p := ⟨b, off + k, none⟩) hb).trans (hc k (by omega))
      have d1 : wr.cell? ⟨b, off + (k + 1), none⟩ = some (.int .i64 (zs.getD (k + 1) 0)) := (hnx.1.cell (p := ⟨b, off + (k + 1), none⟩) hb).trans (hc (k + 1) hlt)
      obtain ⟨fn, tmps, assign, body, hy, hR⟩ := hY _ ⟨k, by omega⟩ wr.drew (hJ _ _ _ none hJs ⟨rfl, rfl, rfl, Nat.le_refl _, fun _ _ _ => rfl⟩ (fun r e => by cases e)) (by rw [ups_len (by omega)]; omega)
      rw [← ups_succ (by omega)] at hR
      dsimp only [encB] at hy
      have hmx : Try.prog.follows .mixedOrders = true := by kernel_rfl
      have HR2 : Hid (RoundIn Fence.wide (n - 1) Try.prog l fn tmps assign body wr.drew fun e W' => ∃ bb : Bool, e = .returned (.bool bb) ∧ Hid ((bb = true ∧ J (ups (len - 1) (k + 1)) W' ∧ KpS Bs n₀ wr.drew W') ∨ (bb = false ∧ Jx (ups (len - 1) (k + 1)) W'))) := by
        refine hR.mono ?_
        rintro e W3 (⟨rfl, h⟩ | ⟨rfl, h⟩)
        · exact ⟨true, rfl, .inl ⟨rfl, h⟩⟩
        · exact ⟨false, rfl, .inr ⟨rfl, h⟩⟩
      clear hR
      generalize zs.getD k 0 = x at *
      generalize zs.getD (k + 1) 0 = y at *
      have wj : IntKind.i64.wrap ((k : Int) + 1 - 1) = (k : Int) := by rw [wrap_in _ ⟨by omega, by omega⟩]; omega
      have wk : IntKind.i64.wrap (k : Int) = (k : Int) := wrap_in _ ⟨by omega, by omega⟩
      have l0 : (k : Int) < (len : Int) := by omega
      have l1 : (k : Int) + 1 < (len : Int) := by omega
      have l2 : k < len := by omega
      have l3 : 0 ≤ (k : Int) + 1 := by omega
      have l4 : ((k : Int) + 1).toNat = k + 1 := by omega
      gi_wp2
      refine wpIn_region_tail (free_wide _) 11 hmx (by kernel_rfl) (fun _ _ _ => rfl) ?_
      simp only [List.take_succ_cons, List.take_zero, List.drop_succ_cons, List.drop_zero]
      repeat still_step
      refine wpStill_nil ?_
      gi_wp2
      refine ⟨(fun h => by cases h), HR2.out.mono ?_⟩
      rintro e W3 ⟨bb, rfl, h3⟩
      rcases h3.out with ⟨rfl, hJ3, hk3⟩ | ⟨rfl, hJx3⟩
      · gi_wp2
        go_roundw
        case rel => exact ⟨k + 1, by omega, by go_num, hJ3, kpS_t hnx (kpS_t (kpS_drew _ _ wr) hk3)⟩
        case measure => simp [intOf]; omega
      · gi_wp2
        refine bodyPost_ret (results_none rfl _ _ _) rfl ?_
        exact ⟨⟨_, rfl⟩, .inr ⟨_, ⟨k + 1, by omega, rfl⟩, hJx3⟩⟩
    · obtain rfl : len = k + 1 := by omega
      gi_wp2
      go_end0
      exact ⟨⟨_, rfl⟩, .inl ⟨_, rfl, hJs⟩⟩

theorem strips_any (a : Option Addr) (len cap : Nat) (w : World) :
    Calls Try.prog 51 #[.slice a len cap] w fun e w' => e = .returned (.func (.func 82) #[] #[.pointer (some ⟨w.heap.size, 0, none⟩)]) ∧ w' = w.alloc (.cells #[.slice a len cap] 25) := by
  have hmf : ∀ (fn : Fn) (first cap : Array Value) (w : World), (Instr.makeFunc fn first cap).run Try.prog w = .ok (.func fn first cap) w := fun _ _ _ _ => rfl
  go_enter Try.func51, Try.ntmps51
  go_wp2
  go_ret
  exact ⟨rfl, rfl⟩

/-- what strips returns yields all strips, or the first ones -/
theorem strips_stops (n Bs n₀ b off len cap : Nat) (zs : List Int) (hl : 1 ≤ len) (hl2 : len ≤ 1000) (hb : b < n₀) (w : World) (hn : n₀ ≤ w.heap.size)
    (hBs : w.cell? ⟨Bs, 0, none⟩ = some (.slice (some ⟨b, off, none⟩) len cap)) (hc : ∀ j, j < len → w.cell? ⟨b, off + j, none⟩ = some (.int .i64 (zs.getD j 0))) :
    SeqStopsK Fence.wide n Try.prog 82 #[.pointer (some ⟨Bs, 0, none⟩)] (fun x : Fin (len - 1) => encB zs x) (KpS Bs n₀) (fun ys => ys = ups (len - 1) (len - 1))
      (fun pre => ∃ k, k ≤ len - 1 ∧ pre = ups (len - 1) k) (len - 1) w := fun l J Jx W hW hJ _ hY h0 =>
  strips1_in n l Bs n₀ b off len cap zs hl hl2 hb J Jx W.heap.size hJ hY W ((hW.cell (p := ⟨Bs, 0, none⟩) (World.block_lt_of_cell? w _ hBs)).trans hBs) (fun j hj => (hW.cell (p := ⟨b, off + j, none⟩) (by show b < _; omega)).trans (hc j hj)) h0
end Go.Proofs.Ytgjdopjolokaiaa

/- The reference of layer 7: heights are checked. -/
namespace Go.Proofs.Ytgjdopjolokaiaa
open Go.RowKit

theorem take_allN {p : Int → Bool} {l : List Int} {k : Nat} (hk : l.length ≤ k) (h : (l.take k).all p = true) : l.all p = true := by
  rwa [List.take_of_length_le hk] at h
end Go.Proofs.Ytgjdopjolokaiaa

/- Package segment: heights are checked. -/
namespace Go.Proofs.Ytgjdopjolokaiaa
open Go.RowKit

theorem nan_any (a : Int) (w : World) : Calls Try.prog 83 #[.int .i64 a] w fun e w' => e = .returned (.bool false) ∧ w = w' := by
  have h : (a != a) = false := by simp
  go_enter Try.func83, Try.ntmps83
  go_wp2
  go_returns
  exact ⟨rfl, rfl⟩
theorem less_any (a b : Int) (w : World) : Calls Try.prog 52 #[.int .i64 a, .int .i64 b] w fun e w' => e = .returned (.bool (decide (a < b))) ∧ w = w' := by
  have H := Lib.hid (fun W => nan_any a W)
  go_enter Try.func52, Try.ntmps52
  go_wp2_with fail
  refine (H.out _).mono ?_
  rintro e w1 ⟨rfl, hw⟩
  subst hw
  go_wp2
  go_returns
  exact ⟨rfl, rfl⟩

theorem less_same (a b : Int) (w : World) : Calls Try.prog 52 #[.int .i64 a, .int .i64 b] w fun e w' => e = .returned (.bool (decide (a < b))) ∧ w' = w :=
  (less_any a b w).mono fun _ _ h => ⟨h.1, h.2.symm⟩

set_option maxHeartbeats 4000000 in
theorem sorted_any (b off n cap : Nat) (l : List Int) (B : Bool) (w : World) (n0 : 1 ≤ n) (n1 : n ≤ 1000) (hb : b < w.heap.size)
    (hc : Hid (∀ j, j < n → w.cell? ⟨b, off + j, none⟩ = some (.int .i64 (l.getD j 0))))
    (h2 : Hid ((∃ i, i + 1 < n ∧ l.getD (i + 1) 0 < l.getD i 0) → B = false)) (h3 : Hid ((∀ i, i + 1 < n → l.getD i 0 ≤ l.getD (i + 1) 0) → B = true)) :
    Calls Try.prog 81 #[.slice (some ⟨b, off, none⟩) n cap] w fun e w' => e = .returned (.bool B) ∧ Below w.heap.size w w' := by
  go_enter Try.func81, Try.ntmps81
  go_wp2_with fail
  go_loopw [3] (fun ii wr => ∃ (k : Nat), k + 1 ≤ n ∧ ii = .int .i64 k ∧ Hid (Below w.heap.size w wr) ∧ Hid (∀ i, k ≤ i → i + 1 < n → l.getD i 0 ≤ l.getD (i + 1) 0)) (fun ii _ => (intOf ii).toNat)
  case atStart => exact ⟨n - 1, by omega, by go_num, Below.refl _ _, fun i h1 h2 => by omega⟩
  case round =>
    obtain ⟨k, hk, rfl, hB, hs⟩ := hrel
    by_cases hlt : 0 < k
    · obtain ⟨j, rfl⟩ : ∃ j, k = j + 1 := ⟨k - 1, by omega⟩
      have c0 : wr.cell? ⟨b, off + j, none⟩ = some (.int .i64 (l.getD j 0)) := by rw [(bcell hB.out).1 _ _ hb]; exact hc.out j (by omega)
      have c1 : wr.cell? ⟨b, off + (j + 1), none⟩ = some (.int .i64 (l.getD (j + 1) 0)) := by rw [(bcell hB.out).1 _ _ hb]; exact hc.out (j + 1) (by omega)
      have HG : Hid (l.getD j 0 ≤ l.getD (j + 1) 0 → ∀ i, j ≤ i → i + 1 < n → l.getD i 0 ≤ l.getD (i + 1) 0) := fun h i h1 h2 => by
        by_cases e : i = j
        · rw [e]; exact h
        · exact hs.out i (by omega) h2
      have HN : Hid (l.getD (j + 1) 0 < l.getD j 0 → B = false) := fun h => h2.out ⟨j, by omega, h⟩
      have HL := Lib.hid (fun W => less_same (l.getD (j + 1) 0) (l.getD j 0) W)
      generalize l.getD j 0 = x at *
      generalize l.getD (j + 1) 0 = y at *
      have wk : IntKind.i64.wrap (j : Int) = (j : Int) := wrap_in _ ⟨by omega, by omega⟩
      have wj : IntKind.i64.wrap ((j : Int) + 1 - 1) = (j : Int) := by rw [wrap_in _ ⟨by omega, by omega⟩]; omega
      have wj2 : IntKind.i64.wrap (((j + 1 : Nat) : Int) - 1) = (j : Int) := by rw [wrap_in _ ⟨by omega, by omega⟩]; omega
      have l0 : (j : Int) < (n : Int) := by omega
      have l1 : (j : Int) + 1 < (n : Int) := by omega
      have l2 : j < n := by omega
      have l3 : 0 ≤ (j : Int) + 1 := by omega
      have l4 : ((j : Int) + 1).toNat = j + 1 := by omega
      by_cases hxy : y < x
      · obtain rfl := HN.out hxy
        have hd : decide (y < x) = true := decide_eq_true hxy
        rw [hd] at HL
        clear HN HG hd
        go_wp2
        go_quiet (first | (go_at_call 52; refine Calls.quiet_of_same (HL.out _)))
        go_wp2
        go_returns
        exact ⟨rfl, bel_trans hB.out (bel_drewN _ _)⟩
      · have hd : decide (y < x) = false := decide_eq_false hxy
        replace HG := Lib.hid (HG.out (by omega))
        rw [hd] at HL
        clear HN hd
        go_wp2
        go_quiet (first | (go_at_call 52; refine Calls.quiet_of_same (HL.out _)))
        go_wp2
        go_roundw
        case rel => exact ⟨j, by omega, by first | rfl | go_num, bel_trans hB.out (bel_drewN _ _), HG.out⟩
        case measure => first | omega | (simp [intOf]; done) | (simp [intOf]; omega)
    · obtain rfl : k = 0 := by omega
      obtain rfl := h3.out (fun i hi => hs.out i (by omega) hi)
      go_wp2
      go_returns
      exact ⟨rfl, hB.out⟩
theorem chk_few (a : Option Addr) (n cap : Nat) (w : World) (h : n < 2) :
    Calls Try.prog 50 #[.slice a n cap] w fun e w' => e = .returned (.int .i64 9) ∧ Below w.heap.size w w' := by
  go_enter Try.func50, Try.ntmps50
  go_wp2
  go_returns
  exact ⟨rfl, Below.refl _ _⟩
theorem chk_many (a : Option Addr) (n cap : Nat) (w : World) (h : 65 < n) (h2 : n ≤ 9223372036854775807) :
    Calls Try.prog 50 #[.slice a n cap] w fun e w' => e = .returned (.int .i64 8) ∧ Below w.heap.size w w' := by
  go_enter Try.func50, Try.ntmps50
  go_wp2
  go_returns
  exact ⟨rfl, Below.refl _ _⟩
set_option maxHeartbeats 4000000 in
theorem chk_some (b off n cap : Nat) (l : List Int) (E : Int) (w : World) (n0 : 2 ≤ n) (n1 : n ≤ 65) (hl : n = l.length) (hb : b < w.heap.size)
    (hc : Hid (∀ j, j < n → w.cell? ⟨b, off + j, none⟩ = some (.int .i64 (l.getD j 0))))
    (h1 : Hid (l.all hB = false → E = 2)) (h2 : Hid (l.all hB = true → (∃ i, i + 1 < n ∧ l.getD (i + 1) 0 < l.getD i 0) → E = 5)) (h3 : Hid (l.all hB = true → (∀ i, i + 1 < n → l.getD i 0 ≤ l.getD (i + 1) 0) → E = 0)) :
    Calls Try.prog 50 #[.slice (some ⟨b, off, none⟩) n cap] w fun e w' => e = .returned (.int .i64 E) ∧ Below w.heap.size w w' := by
  have HL := Lib.hid hl
  clear hl
  go_enter Try.func50, Try.ntmps50
  go_wp2_with fail
  go_loopw [4, 15] (fun _ ii wr => ∃ (k : Nat), k ≤ n ∧ ii = .int .i64 k ∧ w = wr ∧ Hid ((l.take k).all hB = true)) (fun _ ii _ => n - (intOf ii).toNat)
  case atStart => exact ⟨0, by omega, rfl, rfl, by show _ = _; simp⟩
  case round =>
    obtain ⟨k, hk, rfl, rfl, ha⟩ := hrel
    by_cases hlt : k < n
    · have c0 := hc.out k hlt
      have hkl : k < l.length := by rw [← HL.out]; exact hlt
      have HA := Lib.hid (all_next hB l k hkl)
      have HN : Hid (hB (l.getD k 0) = false → E = 2) := fun h => h1.out (all_not hB l k hkl h)
      have HT := Lib.hid (fun W => isHt_any (l.getD k 0) W)
      clear hkl
      generalize l.getD k 0 = x at *
      cases hx : hB x with
      | true =>
        have HA2 : Hid ((l.take (k + 1)).all hB = true) := by show _ = _; rw [HA.out, ha.out, hx]; rfl
        rw [hx] at HT
        clear HN HA hx
        go_wp2_with fail
        refine (HT.out _).mono ?_
        rintro e w1 ⟨rfl, hw⟩
        subst hw
        go_wp2
        go_roundw
        case rel => exact ⟨k + 1, by omega, by go_num, by first | rfl | trivial, HA2⟩
        case measure => simp [intOf]; omega
      | false =>
        obtain rfl := HN.out hx
        rw [hx] at HT
        clear HN HA hx
        go_wp2_with fail
        refine (HT.out _).mono ?_
        rintro e w1 ⟨rfl, hw⟩
        subst hw
        go_wp2
        go_returns
        exact ⟨rfl, Below.refl _ _⟩
    · obtain rfl : k = n := by omega
      have hall := take_allN (by rw [← HL.out]; exact Nat.le_refl _) ha.out
      have H2 := Lib.hid (h2.out hall)
      have H3 := Lib.hid (h3.out hall)
      clear hall h1 h2 h3 ha
      by_cases hs : ∀ i, i + 1 < k → l.getD i 0 ≤ l.getD (i + 1) 0
      · obtain rfl := H3.out hs
        have HS := Lib.hid (sorted_any b off k cap l true w (by omega) (by omega) hb hc (fun ⟨i, hi, h⟩ => by have := hs i hi; omega) (fun _ => rfl))
        clear hs H2 H3
        go_wp2_with fail
        refine HS.out.mono ?_
        rintro e w1 ⟨rfl, gg⟩
        have X1 := Lib.hid gg; clear gg
        go_wp2
        go_returns
        exact ⟨rfl, X1.out⟩
      · obtain ⟨i, hi, hlt2⟩ : ∃ i, i + 1 < k ∧ l.getD (i + 1) 0 < l.getD i 0 := by
          refine Classical.byContradiction fun h => hs fun i hi => ?_
          by_cases h' : l.getD (i + 1) 0 < l.getD i 0
          · exact absurd ⟨i, hi, h'⟩ h
          · omega
        obtain rfl := H2.out ⟨i, hi, hlt2⟩
        have HS := Lib.hid (sorted_any b off k cap l false w (by omega) (by omega) hb hc (fun _ => rfl) (fun h => by have := h i hi; omega))
        clear hs hi hlt2 H2 H3
        go_wp2_with fail
        refine HS.out.mono ?_
        rintro e w1 ⟨rfl, gg⟩
        have X1 := Lib.hid gg; clear gg
        go_wp2
        go_returns
        exact ⟨rfl, X1.out⟩
theorem chk_any (v : Value) (l : List Int) (w : World) (hv : Nums w v l) :
    Calls Try.prog 50 #[v] w fun e w' => e = .returned (.int .i64 (hcE l)) ∧ Below w.heap.size w w' := by
  obtain ⟨a, cap, rfl, hl, h⟩ := hv
  unfold hcE
  by_cases g1 : l.length < 2
  · rw [if_pos g1]
    exact chk_few a _ cap w g1
  · by_cases g2 : 65 < l.length
    · rw [if_neg g1, if_pos g2]
      exact chk_many a _ cap w g2 (by omega)
    · rcases h with h | ⟨b, off, rfl, hb, hc⟩
      · omega
      · rw [if_neg g1, if_neg g2]
        refine chk_some b off l.length cap l _ w (by omega) (by omega) rfl hb hc (fun h => ?_) (fun h h2 => ?_) (fun h h2 => ?_)
        · rw [if_pos h]
        · rw [if_neg (by rw [h]; simp), if_pos]
          obtain ⟨i, hi, hlt⟩ := h2
          rw [Bool.eq_false_iff]
          intro hc
          have := (ascB_iff l).1 hc i hi
          omega
        · rw [if_neg (by rw [h]; simp), if_neg]
          rw [(ascB_iff l).2 h2]; simp
end Go.Proofs.Ytgjdopjolokaiaa

/- The reference of layer 7: a strip. -/
namespace Go.Proofs.Ytgjdopjolokaiaa
open Go.RowKit

end Go.Proofs.Ytgjdopjolokaiaa

/- The reference of layer 7: areas between heights. -/
namespace Go.Proofs.Ytgjdopjolokaiaa
open Go.RowKit

theorem Two.put0 {b : Nat} {W : World} {x y : Value} (h : Two b W x y) (z : Value) : Two b (W.setCell ⟨b, 0, none⟩ z) z y := by
  obtain ⟨h0, h1, h2, h3, h4⟩ := h
  refine ⟨?_, ?_, ?_, ?_, ?_⟩
  · exact World.cell?_setCell_same _ _ _ h0
  · rw [World.cell?_setCell_other _ _ _ _ (by simp)]; exact h1
  · rw [World.frozen?_setCell]; exact h2
  · rw [World.frozen?_setCell]; exact h3
  · simpa [World.setCell] using h4

/-- behind a struct's own block: made behind the call, or ahead of it -/
def Meets (w : World) (b1 : Nat) (oL oH pL pH : Value) (s : Value) (wx : World) : Prop := ∃ bs : Nat, s = .pointer (some ⟨bs, 0, none⟩) ∧ bs ≠ b1 ∧ Hid (Two bs wx oL oH) ∧ Hid (Below w.heap.size w wx) ∧ Hid (Two w.heap.size wx (.int .i64 0) (.int .i64 0)) ∧ Hid (Two b1 wx pL pH)
theorem meets_behind {w wr w2 : World} {b1 : Nat} {oL oH pL pH : Value} {T : TypeId} (hB : Below w.heap.size w wr) (X : Below wr.drew.heap.size wr.drew w2) (hT : Two w.heap.size wr (.int .i64 0) (.int .i64 0)) (hS : Two b1 wr pL pH) :
    Meets w b1 oL oH pL pH (.pointer (some ⟨w2.heap.size, 0, none⟩)) (w2.alloc (.cells #[oL, oH] T)) := by
  have X1 : Below wr.heap.size wr w2 := bel_trans (bel_drew wr) X
  have h1 := (hS.below X1).2.2.2.2
  exact ⟨_, rfl, Nat.ne_of_gt h1, Two.new w2 oL oH T, bel_trans (bel_trans hB X1) (bel_alloc (Below.refl _ _)), (hT.below X1).alloc _, (hS.below X1).alloc _⟩
theorem meets_ahead {w wr w2 : World} {b1 : Nat} {oL oH pL pH a c : Value} {T : TypeId} (hB : Below w.heap.size w wr) (X : Below (wr.alloc (.cells #[a, c] T)).drew.heap.size (wr.alloc (.cells #[a, c] T)).drew w2) (hT : Two w.heap.size wr (.int .i64 0) (.int .i64 0)) (hS : Two b1 wr pL pH) :
    Meets w b1 oL oH pL pH (.pointer (some ⟨wr.heap.size, 0, none⟩)) ((w2.setCell ⟨wr.heap.size, 0, none⟩ oL).setCell ⟨wr.heap.size, 1, none⟩ oH) := by
  have X1 : Below wr.heap.size wr w2 := bel_alloc (bel_trans (bel_drew _) X)
  have X0 : Below (wr.alloc (.cells #[a, c] T)).heap.size (wr.alloc (.cells #[a, c] T)) w2 := bel_trans (bel_drew _) X
  have hN := (Two.new wr a c T).below X0
  have h1 : b1 ≠ wr.heap.size := Nat.ne_of_lt hS.2.2.2.2
  have h2 : w.heap.size ≠ wr.heap.size := Nat.ne_of_lt hT.2.2.2.2
  have h3 : w.heap.size ≤ wr.heap.size := Nat.le_of_lt hT.2.2.2.2
  refine ⟨_, rfl, h1.symm, (hN.put0 oL).set1 oH, ?_, ?_, ?_⟩
  · exact ((bel_trans hB X1).setCell (p := ⟨wr.heap.size, 0, none⟩) h3 _).setCell (p := ⟨wr.heap.size, 1, none⟩) h3 _
  · exact ((hT.below X1).other ⟨wr.heap.size, 0, none⟩ h2.symm _).other ⟨wr.heap.size, 1, none⟩ h2.symm _
  · exact ((hS.below X1).other ⟨wr.heap.size, 0, none⟩ h1.symm _).other ⟨wr.heap.size, 1, none⟩ h1.symm _

end Go.Proofs.Ytgjdopjolokaiaa

/- The reference of layer 7: areas between right heights. -/
namespace Go.Proofs.Ytgjdopjolokaiaa
open Go.RowKit

end Go.Proofs.Ytgjdopjolokaiaa

/- The reference of layer 7: Area, Strip, Whole. -/
namespace Go.Proofs.Ytgjdopjolokaiaa
open Go.RowKit

/-- what Area returns -/
def arE (r c : Int) (l : List Int) : Int := if lenB r = true ∧ lenB c = true then hcE l else 2
noncomputable def arL (r c : Int) (l : List Int) : Int := if arE r c l = 0 then prL r c l (l.length - 1) else 0
noncomputable def arH (r c : Int) (l : List Int) : Int := if arE r c l = 0 then prH r c l (l.length - 1) else 0
/-- what Whole returns -/
def whE (r : Int) : Int := if lenB r = true then 0 else 2
def whL (r : Int) : Int := if lenB r = true then r * r * 333 / 106 else 0
def whH (r : Int) : Int := if lenB r = true then (r * r * 355 + 112) / 113 else 0
end Go.Proofs.Ytgjdopjolokaiaa

/- Package segment: areas between heights. -/
namespace Go.Proofs.Ytgjdopjolokaiaa
open Go.RowKit Go.Shelf
attribute [local go_sem] Oper.semAt_some

theorem area_range (r c : Int) (v : Value) (w : World) (h : (lenB r && lenB c) = false) :
    Calls Try.prog 29 #[.int .i64 r, .int .i64 c, v] w fun e w' => e = .returned (.tuple #[.agg #[.int .i64 0, .int .i64 0], .int .i64 2]) ∧ Below w.heap.size w w' := by
  have H1 := Lib.hid (fun W => isRt_any r c W)
  rw [h] at H1
  clear h
  have T0 := Lib.hid ((Two.new w (.int .i64 0) (.int .i64 0) 40).alloc (.cells #[.int .i64 r, .int .i64 c] 94))
  go_enter Try.func29, Try.ntmps29
  go_wp2_with fail
  refine (H1.out _).mono ?_
  rintro e w1 ⟨rfl, gg⟩
  replace T0 := Lib.hid (T0.out.below gg)
  have X1 := Lib.hid (bel_alloc (bel_alloc gg)); clear gg
  obtain ⟨z0, z1, f0, f1, hlt⟩ := T0.out
  go_wp2
  obtain ⟨t0, t1⟩ := two_read w1 w.heap.size (.int .i64 0) (.int .i64 0) z0 z1
  refine bodyPost_ret (v := .tuple #[.agg #[.int .i64 0, .int .i64 0], .int .i64 2]) (by simp [results, Try.results29, go_sem, t0, t1]) rfl ?_
  exact ⟨rfl, (X1.out.setCell (Nat.le_refl _) _).setCell (Nat.le_refl _) _⟩
theorem area_bad (r c E : Int) (v : Value) (w : World) (h : (lenB r && lenB c) = true) (e1 : (E == 0) = false) (e2 : (E != 0) = true)
    (H3 : Hid (∀ W, Below w.heap.size w W → Calls Try.prog 50 #[v] W fun e w' => e = .returned (.int .i64 E) ∧ Below W.heap.size W w')) :
    Calls Try.prog 29 #[.int .i64 r, .int .i64 c, v] w fun e w' => e = .returned (.tuple #[.agg #[.int .i64 0, .int .i64 0], .int .i64 E]) ∧ Below w.heap.size w w' := by
  have H1 := Lib.hid (fun W => isRt_any r c W)
  rw [h] at H1
  clear h
  have T0 := Lib.hid ((Two.new w (.int .i64 0) (.int .i64 0) 40).alloc (.cells #[.int .i64 r, .int .i64 c] 94))
  go_enter Try.func29, Try.ntmps29
  go_wp2_with fail
  refine (H1.out _).mono ?_
  rintro e w1 ⟨rfl, gg⟩
  replace T0 := Lib.hid (T0.out.below gg)
  have X1 := Lib.hid (bel_alloc (bel_alloc gg)); clear gg
  go_wp2_with fail
  refine (H3.out _ X1.out).mono ?_
  rintro e w2 ⟨rfl, gg⟩
  replace T0 := Lib.hid (T0.out.below gg)
  replace X1 := Lib.hid (bel_trans X1.out gg); clear gg
  obtain ⟨z0, z1, f0, f1, hlt⟩ := T0.out
  go_wp2
  obtain ⟨t0, t1⟩ := two_read w2 w.heap.size (.int .i64 0) (.int .i64 0) z0 z1
  refine bodyPost_ret (v := .tuple #[.agg #[.int .i64 0, .int .i64 0], .int .i64 E]) (by simp [results, Try.results29, go_sem, t0, t1]) rfl ?_
  exact ⟨rfl, (X1.out.setCell (Nat.le_refl _) _).setCell (Nat.le_refl _) _⟩

/-- sums over some of the strips -/
noncomputable def smL (r c : Int) (l : List Int) {m : Nat} (pre : List (Fin m)) : Int := (pre.map fun j => ofL r c (l.getD j.val 0) (l.getD (j.val + 1) 0)).sum
noncomputable def smH (r c : Int) (l : List Int) {m : Nat} (pre : List (Fin m)) : Int := (pre.map fun j => ofH r c (l.getD j.val 0) (l.getD (j.val + 1) 0)).sum
theorem sm_snoc (r c : Int) (l : List Int) {m : Nat} (pre : List (Fin m)) (j : Fin m) : smL r c l (pre ++ [j]) = smL r c l pre + ofL r c (l.getD j.val 0) (l.getD (j.val + 1) 0) ∧ smH r c l (pre ++ [j]) = smH r c l pre + ofH r c (l.getD j.val 0) (l.getD (j.val + 1) 0) := by
  simp [smL, smH]
theorem sm_all (r c : Int) (l : List Int) {m : Nat} (k : Nat) (h : k ≤ m) : smL r c l (ups m k) = prL r c l k ∧ smH r c l (ups m k) = prH r c l k := by
  induction k with
  | zero => exact ⟨rfl, rfl⟩
  | succ k ih =>
    have i := ih (by omega)
    rw [ups_succ (by omega), (sm_snoc r c l _ _).1, (sm_snoc r c l _ _).2, i.1, i.2]
    exact ⟨rfl, rfl⟩
theorem sm_bd {r c : Int} {l : List Int} {m : Nat} (r0 : 0 ≤ r) (r1 : r ≤ 100000) (h : ∀ j : Fin m, (0 ≤ l.getD j.val 0 ∧ l.getD j.val 0 ≤ 200000) ∧ l.getD j.val 0 ≤ l.getD (j.val + 1) 0 ∧ l.getD (j.val + 1) 0 ≤ 200000) (pre : List (Fin m)) :
    0 ≤ smL r c l pre ∧ smL r c l pre ≤ smH r c l pre ∧ smH r c l pre ≤ 40000000000 * pre.length := by
  induction pre with
  | nil => simp [smL, smH]
  | cons j pre ih =>
    obtain ⟨⟨a0, a1⟩, a2, a3⟩ := h j
    have b := of_bd r c _ _ r0 a2
    have q : (l.getD (j.val + 1) 0 - l.getD j.val 0) * (2 * r) ≤ 200000 * 200000 := Int.mul_le_mul (by omega) (by omega) (by omega) (by omega)
    have e1 : smL r c l (j :: pre) = ofL r c (l.getD j.val 0) (l.getD (j.val + 1) 0) + smL r c l pre := by simp [smL]
    have e2 : smH r c l (j :: pre) = ofH r c (l.getD j.val 0) (l.getD (j.val + 1) 0) + smH r c l pre := by simp [smH]
    rw [e1, e2, List.length_cons]
    omega
set_option maxRecDepth 100000 in
set_option maxHeartbeats 8000000 in
theorem area_ok (b off n cap : Nat) (l : List Int) (r c : Int) (w : World) (hl : n = l.length) (hR : Hid (HR l)) (h : (lenB r && lenB c) = true) (hb : b < w.heap.size)
    (hc : Hid (∀ j, j < n → w.cell? ⟨b, off + j, none⟩ = some (.int .i64 (l.getD j 0))))
    (H3 : Hid (∀ W, Below w.heap.size w W → Calls Try.prog 50 #[.slice (some ⟨b, off, none⟩) n cap] W fun e w' => e = .returned (.int .i64 0) ∧ Below W.heap.size W w')) :
    Calls Try.prog 29 #[.int .i64 r, .int .i64 c, .slice (some ⟨b, off, none⟩) n cap] w fun e w' => e = .returned (.tuple #[.agg #[.int .i64 (prL r c l (n - 1)), .int .i64 (prH r c l (n - 1))], .int .i64 0]) ∧ Below w.heap.size w w' := by
  have hh : lenB r = true ∧ lenB c = true := by simpa using h
  have H1 := Lib.hid (fun W => isRt_any r c W)
  obtain ⟨r0, r1⟩ := (lenB_iff r).1 hh.1
  obtain ⟨c0, c1⟩ := (lenB_iff c).1 hh.2
  rw [h] at H1
  have n0 : 2 ≤ n := by have := hR.out.n0; omega
  have n1 : n ≤ 65 := by have := hR.out.n1; omega
  have HL := Lib.hid hl
  clear h hh hl
  have hmf : ∀ (fn : Fn) (first cap : Array Value) (w : World), (Instr.makeFunc fn first cap).run Try.prog w = .ok (.func fn first cap) w := fun _ _ _ _ => rfl
  have T0 := Lib.hid ((Two.new w (.int .i64 0) (.int .i64 0) 40).alloc (.cells #[.int .i64 r, .int .i64 c] 94))
  have TC : Hid (Two (w.heap.size + 1) ((w.alloc (.cells #[.int .i64 0, .int .i64 0] 40)).alloc (.cells #[.int .i64 r, .int .i64 c] 94)) (.int .i64 r) (.int .i64 c)) := by
    have := Two.new (w.alloc (.cells #[.int .i64 0, .int .i64 0] 40)) (.int .i64 r) (.int .i64 c) 94
    rwa [World.size_alloc] at this
  refine (callsIn_wide (n := 10)).1 ?_
  refine callsIn_of_wp_marks Try.func29 rfl trivial ?_ rfl
  simp only [Try.ntmps29, List.size_toArray, List.length_cons, List.length_nil, Nat.reduceAdd, Nat.reduceSub, Array.replicate_succ, Array.replicate_zero, List.push_toArray, List.append_toArray, List.nil_append, List.cons_append]
  gi_wp2_with fail
  refine ⟨trivial, (callsIn_wide.2 (H1.out _)).mono ?_⟩
  rintro e w1 ⟨rfl, gg⟩
  replace T0 := Lib.hid (T0.out.below gg)
  replace TC := Lib.hid (TC.out.below gg)
  have X1 := Lib.hid (bel_alloc (bel_alloc gg)); clear gg
  gi_wp2_with fail
  refine ⟨trivial, (callsIn_wide.2 (H3.out _ X1.out)).mono ?_⟩
  rintro e w2 ⟨rfl, gg⟩
  have hz : w.heap.size + 1 < w2.heap.size := (TC.out.below gg).2.2.2.2
  replace T0 := Lib.hid (((T0.out.below gg).alloc (.cells #[.int .i64 0, .int .i64 0] 95)).alloc (.cells #[.func (.func 63) #[.pointer (some ⟨w2.heap.size, 0, none⟩)] #[]] 96))
  replace TC := Lib.hid (((TC.out.below gg).alloc (.cells #[.int .i64 0, .int .i64 0] 95)).alloc (.cells #[.func (.func 63) #[.pointer (some ⟨w2.heap.size, 0, none⟩)] #[]] 96))
  have TS := Lib.hid ((Two.new w2 (.int .i64 0) (.int .i64 0) 95).alloc (.cells #[.func (.func 63) #[.pointer (some ⟨w2.heap.size, 0, none⟩)] #[]] 96))
  replace X1 := Lib.hid (bel_trans (bel_trans X1.out gg) (bel_alloc (bel_alloc (Below.refl ((w2.alloc (.cells #[.int .i64 0, .int .i64 0] 95)).alloc (.cells #[.func (.func 63) #[.pointer (some ⟨w2.heap.size, 0, none⟩)] #[]] 96)).heap.size _)))); clear gg
  clear H1 H3
  gi_wp2_with fail
  refine ⟨trivial, (callsIn_wide.2 (strips_any _ _ _ _)).mono ?_⟩
  rintro e w3 ⟨rfl, rfl⟩
  gi_wp2_with fail
  have BX : Hid ((((w2.alloc (.cells #[.int .i64 0, .int .i64 0] 95)).alloc (.cells #[.func (.func 63) #[.pointer (some ⟨w2.heap.size, 0, none⟩)] #[]] 96)).alloc (.cells #[.slice (some ⟨b, off, none⟩) n cap] 25)).cell? ⟨w2.heap.size + 1 + 1, 0, none⟩ = some (.slice (some ⟨b, off, none⟩) n cap)) := by
    show _ = _
    have := (Boxed.new ((w2.alloc (.cells #[.int .i64 0, .int .i64 0] 95)).alloc (.cells #[.func (.func 63) #[.pointer (some ⟨w2.heap.size, 0, none⟩)] #[]] 96)) 25 (.slice (some ⟨b, off, none⟩) n cap)).cell
    rwa [World.size_alloc, World.size_alloc] at this
  have CL : Hid (((w2.alloc (.cells #[.int .i64 0, .int .i64 0] 95)).alloc (.cells #[.func (.func 63) #[.pointer (some ⟨w2.heap.size, 0, none⟩)] #[]] 96)).cell? ⟨w2.heap.size + 1, 0, none⟩ = some (.func (.func 63) #[.pointer (some ⟨w2.heap.size, 0, none⟩)] #[])) := by
    show _ = _
    have := (Boxed.new (w2.alloc (.cells #[.int .i64 0, .int .i64 0] 95)) 96 (.func (.func 63) #[.pointer (some ⟨w2.heap.size, 0, none⟩)] #[])).cell
    rwa [World.size_alloc] at this
  obtain ⟨W0, hW0⟩ : ∃ W0, (((w2.alloc (.cells #[.int .i64 0, .int .i64 0] 95)).alloc (.cells #[.func (.func 63) #[.pointer (some ⟨w2.heap.size, 0, none⟩)] #[]] 96)).alloc (.cells #[.slice (some ⟨b, off, none⟩) n cap] 25)) = W0 := ⟨_, rfl⟩
  have hsz : W0.heap.size = w2.heap.size + 1 + 1 + 1 := by rw [← hW0]; simp
  replace T0 := Lib.hid (T0.out.alloc (.cells #[.slice (some ⟨b, off, none⟩) n cap] 25))
  replace TC := Lib.hid (TC.out.alloc (.cells #[.slice (some ⟨b, off, none⟩) n cap] 25))
  replace TS := Lib.hid (TS.out.alloc (.cells #[.slice (some ⟨b, off, none⟩) n cap] 25))
  replace X1 := Lib.hid (bA X1.out (.cells #[.slice (some ⟨b, off, none⟩) n cap] 25))
  replace CL := Lib.hid ((bel_alloc (Below.refl _ _)).cell (p := ⟨w2.heap.size + 1, 0, none⟩) (by simp) |>.trans CL.out : (((w2.alloc (.cells #[.int .i64 0, .int .i64 0] 95)).alloc (.cells #[.func (.func 63) #[.pointer (some ⟨w2.heap.size, 0, none⟩)] #[]] 96)).alloc (.cells #[.slice (some ⟨b, off, none⟩) n cap] 25)).cell? ⟨w2.heap.size + 1, 0, none⟩ = _)
  rw [hW0] at T0 TC TS X1 BX CL ⊢
  clear hW0
  generalize w2.heap.size = g at *
  clear w1 w2
  have hl1 : ∀ j, j < n → W0.cell? ⟨b, off + j, none⟩ = some (.int .i64 (l.getD j 0)) := fun j hj => by rw [(bcell X1.out).1 _ _ hb]; exact hc.out j hj
  have hRR : ∀ j : Fin (n - 1), (0 ≤ l.getD j.val 0 ∧ l.getD j.val 0 ≤ 200000) ∧ l.getD j.val 0 ≤ l.getD (j.val + 1) 0 ∧ l.getD (j.val + 1) 0 ≤ 200000 := fun j => by
    have hj := j.isLt
    have a1 := hR.out.bd j.val (by rw [← HL.out]; omega)
    have a2 := hR.out.bd (j.val + 1) (by rw [← HL.out]; omega)
    have a3 := hR.out.asc j.val (by rw [← HL.out]; omega)
    exact ⟨a1, a3, a2.2⟩
  refine wpIn_rangeFunc_ownH rfl (by omega) (gf := 82) (lb := #[.pointer (some ⟨g + 1 + 1, 0, none⟩)]) rfl trivial (enters_of Try.func82 (by kernel_rfl) rfl)
    (strips_stops 9 (g + 1 + 1) w.heap.size b off n cap l (by omega) (by omega) hb W0 X1.out.size BX.out hl1) kpS_t (kpS_b X1.out.size) (Below.refl _ _) (fun _ => rfl)
    (fun pre W => Two w.heap.size W (.int .i64 0) (.int .i64 0) ∧ Two (w.heap.size + 1) W (.int .i64 r) (.int .i64 c) ∧ Two g W (.int .i64 (smL r c l pre)) (.int .i64 (smH r c l pre)) ∧ W.cell? ⟨g + 1, 0, none⟩ = some (.func (.func 63) #[.pointer (some ⟨g, 0, none⟩)] #[]) ∧ W.cell? ⟨g + 1 + 1, 0, none⟩ = some (.slice (some ⟨b, off, none⟩) n cap) ∧ Below w.heap.size w W)
    (fun _ _ _ => False)
    (fun s A B row ⟨i1, i2, i3, i4, i5, i6⟩ hg hr => ⟨two_kept i1 hg (fun r e => (hr r e).2), two_kept i2 hg (fun r e => (hr r e).2), two_kept i3 hg (fun r e => (hr r e).2), cell_kept i4 hg (fun r e => (hr r e).2), cell_kept i5 hg (fun r e => (hr r e).2), ownFrom_below (β := Unit) (Nat.le_refl _) X1.out.size () A B row i6 hg hr⟩)
    (fun _ _ _ _ _ hs _ _ => hs)
    ⟨T0.out, TC.out, TS.out, CL.out, BX.out, X1.out⟩
    (fun x a' W => ∃ Bx : Nat, g + 1 + 1 < Bx ∧ Two Bx W (.int .i64 (l.getD x.val 0)) (.int .i64 (l.getD (x.val + 1) 0)) ∧ a' = { tmps := #[.int .i64 r, .int .i64 c, .slice (some ⟨b, off, none⟩) n cap, undef, undef, undef, .pointer (some ⟨w.heap.size, 0, none⟩), .int .i64 0, .pointer (some ⟨w.heap.size + 1, 0, none⟩), .int .i64 0, .pointer (some ⟨g, 0, none⟩), .pointer (some ⟨g + 1, 0, none⟩), .pointer (some ⟨Bx, 0, none⟩), .int .i64 r, .int .i64 c, .agg #[.int .i64 r, .int .i64 c], .agg #[.int .i64 r, .int .i64 c], .bool true, .bool false, undef, .slice (some ⟨b, off, none⟩) n cap, .int .i64 0, .int .i64 0, .bool false, undef, undef, .func (.func 63) #[.pointer (some ⟨g, 0, none⟩)] #[], .slice (some ⟨b, off, none⟩) n cap, .func (.func 82) #[] #[.pointer (some ⟨g + 1 + 1, 0, none⟩)], .agg #[.int .i64 (l.getD x.val 0), .int .i64 (l.getD (x.val + 1) 0)], undef, undef, undef, undef, undef, undef], defers := [] })
    (fun x a' _ A B row ⟨Bx, h1, h2, h3⟩ hg hr => ⟨Bx, h1, two_kept h2 hg (fun r e => (hr r e).2), h3⟩) ?assign ?body ?done ?stop
  case assign =>
    rintro lp pre x W K ⟨i1, i2, i3, i4, i5, i6⟩ hK
    have hgl : g + 1 + 1 < W.heap.size := World.block_lt_of_cell? W _ i5
    dsimp only [encB]
    generalize l.getD x.val 0 = u at *
    generalize l.getD (x.val + 1) 0 = v at *
    gi_wp2
    refine hK _ _ ((KeepsOthers.alloc _ _).from _) ⟨(Below.refl _ W).alloc i6.size _, fun v e => (cell_al _ e)⟩ ⟨i1.alloc _, i2.alloc _, i3.alloc _, cell_al _ i4, cell_al _ i5, bA i6 _⟩ ⟨W.heap.size, hgl, Two.new _ _ _ _, rfl⟩
  case body =>
    rintro lp pre x a' W hlp ⟨rr, hrr⟩ ⟨i1, i2, i3, i4, i5, i6⟩ ⟨Bx, hBx, iX, rfl⟩ hlen
    obtain ⟨⟨x0, x1⟩, x2, x3⟩ := hRR x
    have hmx : Try.prog.follows .mixedOrders = true := by kernel_rfl
    have HA := Lib.hid (fun W => cArea_any r c (l.getD x.val 0) (l.getD (x.val + 1) 0) W r0 r1 c0 c1 x0 x2 x3)
    have bd := sm_bd (c := c) r0 r1 hRR pre
    have ob := of_bd r c _ _ r0 x2
    have oq : (l.getD (x.val + 1) 0 - l.getD x.val 0) * (2 * r) ≤ 200000 * 200000 := Int.mul_le_mul (by omega) (by omega) (by omega) (by omega)
    have es := sm_snoc r c l pre x
    generalize ofL r c (l.getD x.val 0) (l.getD (x.val + 1) 0) = oL at *
    generalize ofH r c (l.getD x.val 0) (l.getD (x.val + 1) 0) = oH at *
    generalize l.getD x.val 0 = u at *
    generalize l.getD (x.val + 1) 0 = v at *
    generalize smL r c l pre = pL at *
    generalize smH r c l pre = pH at *
    have hc0 := i2.1
    have hc1 := i2.2.1
    have hx0 := iX.1
    have hx1 := iX.2.1
    gi_wp2
    obtain ⟨bd0, bd1, bd2⟩ := bd
    obtain ⟨ob0, ob1, ob2⟩ := ob
    have hlen2 : (pre.length : Int) ≤ 64 := by omega
    have HS : Hid (∀ w4, Below W.drew.heap.size W.drew w4 → w4.cell? ⟨g + 1, 0, none⟩ = some (.func (.func 63) #[.pointer (some ⟨g, 0, none⟩)] #[]) ∧ Two g w4 (.int .i64 pL) (.int .i64 pH)) := fun w4 gg =>
      ⟨(gg.cell (p := ⟨g + 1, 0, none⟩) (World.block_lt_of_cell? W _ i4)).trans i4, (i3.below (bel_drew W)).below gg⟩
    have HD : Hid (∀ w4, Two g w4 (.int .i64 pL) (.int .i64 pH) → Calls Try.prog 63 #[.pointer (some ⟨g, 0, none⟩), .agg #[.int .i64 oL, .int .i64 oH]] w4 fun e w' => e = .returned (.tuple #[]) ∧ ∃ w2, Below w4.heap.size w4 w2 ∧ w' = (w2.setCell ⟨g, 0, none⟩ (.int .i64 (pL + oL))).setCell ⟨g, 1, none⟩ (.int .i64 (pH + oH))) := fun w4 h4 =>
      add_any g pL pH oL oH w4 h4 (by omega) (by omega) (by omega) (by omega) (by omega) (by omega) (by omega) (by omega)
    have HI := Lib.hid (And.intro i1 (And.intro i2 (And.intro i3 (And.intro i5 i6))))
    clear bd0 bd1 bd2 ob0 ob1 ob2 i1 i2 i3 i5 i6 iX hlen hlen2 oq x0 x1 x2 x3
    gi_region_with_o (first
      | (refine ⟨trivial, ?_⟩; gi_at_call 64; refine (CallsIn.inRound lp (callsIn_wide.2 (HA.out _))).mono ?_; rintro e w4 ⟨rfl, gg⟩; have X4 := Lib.hid gg; obtain ⟨k4, k5⟩ := HS.out _ gg; have K5 := Lib.hid k5; clear k5 gg)
      | (refine ⟨trivial, ?_⟩; gi_at_call 63; refine (CallsIn.inRound lp (callsIn_wide.2 (HD.out _ K5.out))).mono ?_; rintro e w5 ⟨rfl, w6, gg, rfl⟩; have X6 := Lib.hid gg; clear gg))
    all_goals gi_wp2
    all_goals
      obtain ⟨i1, i2, i3, i5, i6⟩ := HI.out
      have Y : Below W.heap.size W w6 := bel_trans (bel_trans (bel_drew W) X4.out) X6.out
      have j5 := (bcell Y).1 _ _ (World.block_lt_of_cell? W _ i5) |>.trans i5
      have j4 := (bcell Y).1 _ _ (World.block_lt_of_cell? W _ i4) |>.trans i4
      have h5 := cell_apart (j := 1) (.int .i64 (pH + oH)) (cell_apart (j := 0) (.int .i64 (pL + oL)) j5 (show g + 1 + 1 ≠ g by omega)) (show g + 1 + 1 ≠ g by omega)
      have hB : ∀ {Z : World}, Below w.heap.size Z W → Below w.heap.size Z ((w6.setCell ⟨g, 0, none⟩ (.int .i64 (pL + oL))).setCell ⟨g, 1, none⟩ (.int .i64 (pH + oH))) := fun hZ =>
        ((hZ.trans (Y.mono i6.size)).setCell (p := ⟨g, 0, none⟩) (by show _ ≤ g; omega) _).setCell (p := ⟨g, 1, none⟩) (by show _ ≤ g; omega) _
      refine ⟨keeps_set2 _ _ _ _ _ Y, ⟨hB (Below.refl _ W), fun v e => ?_⟩, ((i1.below Y).apart g 0 _ (by omega)).apart g 1 _ (by omega), ((i2.below Y).apart g 0 _ (by omega)).apart g 1 _ (by omega), ?_, ?_, h5, hB i6⟩
      · rw [i5] at e; cases e; exact h5
      · rw [es.1, es.2]; exact (i3.below Y).both _ _
      · exact cell_apart _ (cell_apart _ j4 (by omega)) (by omega)
  case done =>
    rintro D ys W hD rfl ⟨i1, i2, i3, i4, i5, i6⟩ hK
    rw [(sm_all r c l (n - 1) (Nat.le_refl _)).1, (sm_all r c l (n - 1) (Nat.le_refl _)).2] at i3
    obtain ⟨qL, hqL⟩ : ∃ q, prL r c l (n - 1) = q := ⟨_, rfl⟩
    obtain ⟨qH, hqH⟩ : ∃ q, prH r c l (n - 1) = q := ⟨_, rfl⟩
    rw [hqL, hqH] at i3
    obtain ⟨s0, s1, sf0, sf1, slt⟩ := i3
    obtain ⟨z0, z1, zf0, zf1, zlt⟩ := i1
    gi_wp2
    have hK' := ((KeepsOthers.setCell W ⟨w.heap.size, 0, none⟩ (.int .i64 qL)).trans (KeepsOthers.setCell _ ⟨w.heap.size, 1, none⟩ (.int .i64 qH))).same D _ hK rfl
    refine ⟨by simp, .inl ⟨_, _, rfl, run_takeDeferred hK', ?_⟩⟩
    obtain ⟨t0, t1⟩ := two_read W w.heap.size (.int .i64 qL) (.int .i64 qH) z0 z1
    have hc5 := cell_kept t0 (grownBy_putObj' _ D (.deferred none)) (fun r e => by cases e; exact ⟨_, hK', rfl⟩)
    have hc6 := cell_kept t1 (grownBy_putObj' _ D (.deferred none)) (fun r e => by cases e; exact ⟨_, hK', rfl⟩)
    refine ⟨.tuple #[.agg #[.int .i64 qL, .int .i64 qH], .int .i64 0], ?_, by rw [hqL, hqH], ((i6.setCell (p := ⟨w.heap.size, 0, none⟩) (Nat.le_refl _) _).setCell (p := ⟨w.heap.size, 1, none⟩) (Nat.le_refl _) _).trans (belowK_b (w := w) (Nat.le_refl _) _ D _ _ (by omega) hK' rfl rfl)⟩
    simp [results, Try.results29, go_sem, hc5, hc6]
  case stop =>
    rintro D cc pre W _ _ h _
    exact h.elim
end Go.Proofs.Ytgjdopjolokaiaa

/- Package segment: Area, Strip, Whole. -/
namespace Go.Proofs.Ytgjdopjolokaiaa
open Go.RowKit

theorem area_any (r c : Int) (v : Value) (l : List Int) (w : World) (hv : Nums w v l) :
    Calls Try.prog 29 #[.int .i64 r, .int .i64 c, v] w fun e w' => e = .returned (.tuple #[.agg #[.int .i64 (arL r c l), .int .i64 (arH r c l)], .int .i64 (arE r c l)]) ∧ Below w.heap.size w w' := by
  unfold arL arH
  by_cases h : lenB r = true ∧ lenB c = true
  · have h' : (lenB r && lenB c) = true := by rw [h.1, h.2]; rfl
    have e : arE r c l = hcE l := by unfold arE; rw [if_pos h]
    rw [e]
    have HC := fun W (hb : Below w.heap.size w W) => chk_any v l W (hv.below hb)
    by_cases h0 : hcE l = 0
    · rw [if_pos h0, if_pos h0, h0]
      rw [h0] at HC
      have hR := (hcE_iff l).1 h0
      obtain ⟨a, cap, rfl, hl, hh⟩ := hv
      rcases hh with hh | ⟨b, off, rfl, hb, hc⟩
      · have := hR.n0; omega
      · exact area_ok b off l.length cap l r c w rfl hR h' hb hc HC
    · rw [if_neg h0, if_neg h0]
      exact area_bad r c _ v w h' (by simpa using h0) (by simpa using h0) HC
  · have e : arE r c l = 2 := by unfold arE; rw [if_neg h]
    rw [e, if_neg (by omega), if_neg (by omega)]
    exact area_range r c v w (by simpa using h)

end Go.Proofs.Ytgjdopjolokaiaa

/- Package lying: the axis of a cask, the space of a slice. -/
namespace Go.Proofs.Ytgjdopjolokaiaa
open Go.RowKit

set_option maxHeartbeats 4000000 in
theorem lyMid_some (b off n cap i : Nat) (r : Int) (w : World) (hi : i < n) (hb : b < w.heap.size) (hc : Hid (w.cell? ⟨b, off + i * 2 + 1, none⟩ = some (.int .i64 r)))
    (H1 : Hid (∀ W, Below w.heap.size w W → Calls Try.prog 96 #[.slice (some ⟨b, off, none⟩) n cap] W fun e w' => e = .returned (.tuple #[.int .i64 i, .int .i64 0]) ∧ Below W.heap.size W w')) :
    Calls Try.prog 77 #[.slice (some ⟨b, off, none⟩) n cap] w fun e w' => e = .returned (.int .i64 r) ∧ Below w.heap.size w w' := by
  have l1 : (i : Int) < (n : Int) := by omega
  have l2 : 0 ≤ (i : Int) := by omega
  go_enter Try.func77, Try.ntmps77
  go_wp2_with fail
  refine (H1.out _ (Below.refl _ _)).mono ?_
  rintro e w1 ⟨rfl, gg⟩
  have X1 := Lib.hid gg; clear gg
  have c1 : w1.cell? ⟨b, off + i * 2 + 1, none⟩ = some (.int .i64 r) := by rw [(bcell X1.out).1 _ _ hb]; exact hc.out
  go_wp2
  go_returns
  exact ⟨rfl, X1.out⟩
theorem lyMid_any (v : Value) (l : List (Int × Int)) (w : World) (hv : Pts w v l) (hR : RP l) :
    Calls Try.prog 77 #[v] w fun e w' => e = .returned (.int .i64 (bgR l)) ∧ Below w.heap.size w w' := by
  have e0 := (ckE_iff _).2 hR
  have n0 := hR.n0
  have hl : bg l l.length < l.length := by have := bg_lt l l.length; omega
  have HB : Hid (∀ W, Below w.heap.size w W → _) := Lib.hid fun W hW => bung_any v l W (hv.below hW)
  unfold buQ at HB
  rw [if_pos e0, e0] at HB
  obtain ⟨a, cap, rfl, _, h0 | ⟨b, off, rfl, hb, hc⟩⟩ := hv
  · omega
  · exact lyMid_some b off _ cap _ _ w hl hb (hc _ hl).2 HB
/-- a block with three cells -/
def Trio (b : Nat) (W : World) (x y z : Value) : Prop := W.cell? ⟨b, 0, none⟩ = some x ∧ W.cell? ⟨b, 1, none⟩ = some y ∧ W.cell? ⟨b, 2, none⟩ = some z ∧ b < W.heap.size
theorem Trio.below {b : Nat} {W W' : World} {x y z : Value} (h : Trio b W x y z) (hb : Below W.heap.size W W') : Trio b W' x y z := by
  obtain ⟨h0, h1, h2, h3⟩ := h
  exact ⟨by rw [(bcell hb).1 _ _ h3]; exact h0, by rw [(bcell hb).1 _ _ h3]; exact h1, by rw [(bcell hb).1 _ _ h3]; exact h2, Nat.lt_of_lt_of_le h3 hb.size⟩
theorem Trio.alloc {b : Nat} {W : World} {x y z : Value} (h : Trio b W x y z) (o : Obj) : Trio b (W.alloc o) x y z := h.below (bel_alloc (Below.refl _ _))
theorem Trio.new (W : World) (x y z : Value) (T : TypeId) : Trio W.heap.size (W.alloc (.cells #[x, y, z] T)) x y z :=
  ⟨by simp [go_sem], by simp [go_sem], by simp [go_sem], by simp⟩
set_option maxHeartbeats 8000000 in
theorem lySpc_core (d r1 r2 c A1 B1 A2 B2 : Int) (v : Value) (a : Option Addr) (n cap : Nat) (hv : v = .slice a n cap) (w : World) (wA : IntKind.i64.wrap (d * A1) = d * A1) (wB : IntKind.i64.wrap (d * B2) = d * B2)
    (H1 : Hid (∀ W, Below w.heap.size w W → Calls Try.prog 29 #[.int .i64 r1, .int .i64 c, v] W fun e w' => e = .returned (.tuple #[.agg #[.int .i64 A1, .int .i64 B1], .int .i64 0]) ∧ Below W.heap.size W w'))
    (H2 : Hid (∀ W, Below w.heap.size w W → Calls Try.prog 29 #[.int .i64 r2, .int .i64 c, v] W fun e w' => e = .returned (.tuple #[.agg #[.int .i64 A2, .int .i64 B2], .int .i64 0]) ∧ Below W.heap.size W w')) :
    Calls Try.prog 79 #[.agg #[.int .i64 d, .int .i64 r1, .int .i64 r2], .int .i64 c, v] w fun e w' => e = .returned (.agg #[.int .i64 (d * A1), .int .i64 (d * B2)]) ∧ Below w.heap.size w w' := by
  subst hv
  have F0 := Lib.hid ((Trio.new w (.int .i64 d) (.int .i64 r1) (.int .i64 r2) 106).alloc (.cells #[.int .i64 0, .int .i64 0] 40))
  have T0 := Lib.hid (Two.new (w.alloc (.cells #[.int .i64 d, .int .i64 r1, .int .i64 r2] 106)) (.int .i64 0) (.int .i64 0) 40)
  rw [World.size_alloc] at T0
  go_enter Try.func79, Try.ntmps79
  go_wp2_with fail
  refine (H1.out _ (bel_alloc (bel_alloc (Below.refl _ _)))).mono ?_
  rintro e w1 ⟨rfl, gg⟩
  replace T0 := Lib.hid ((T0.out.below gg).alloc (.cells #[.int .i64 A1, .int .i64 B1] 40))
  replace F0 := Lib.hid ((F0.out.below gg).alloc (.cells #[.int .i64 A1, .int .i64 B1] 40))
  have T1 := Lib.hid (Two.new w1 (.int .i64 A1) (.int .i64 B1) 40)
  have X1 := Lib.hid (bA (bel_alloc (bel_alloc gg)) (.cells #[.int .i64 A1, .int .i64 B1] 40)); clear gg
  obtain ⟨y0, y1, y2, _⟩ := F0.out
  go_wp2_with fail
  refine (H2.out _ X1.out).mono ?_
  rintro e w2 ⟨rfl, gg⟩
  clear y0 y1 y2
  replace T0 := Lib.hid ((T0.out.below gg).alloc (.cells #[.int .i64 A2, .int .i64 B2] 40))
  replace T1 := Lib.hid ((T1.out.below gg).alloc (.cells #[.int .i64 A2, .int .i64 B2] 40))
  replace F0 := Lib.hid ((F0.out.below gg).alloc (.cells #[.int .i64 A2, .int .i64 B2] 40))
  have T2 := Lib.hid (Two.new w2 (.int .i64 A2) (.int .i64 B2) 40)
  replace X1 := Lib.hid (bA (bel_trans X1.out gg) (.cells #[.int .i64 A2, .int .i64 B2] 40)); clear gg
  obtain ⟨y0, y1, y2, _⟩ := F0.out
  obtain ⟨r0, r1', rf0, rf1, _⟩ := T0.out
  obtain ⟨s0, s1, _, _, _⟩ := T1.out
  obtain ⟨q0, q1, _, _, _⟩ := T2.out
  go_wp2
  obtain ⟨t0, t1⟩ := two_read (w2.alloc (.cells #[.int .i64 A2, .int .i64 B2] 40)) (w.heap.size + 1) (.int .i64 (d * A1)) (.int .i64 (d * B2)) r0 r1'
  refine bodyPost_ret (v := .agg #[.int .i64 (d * A1), .int .i64 (d * B2)]) (by simp [results, Try.results79, go_sem, t0, t1]) rfl ?_
  exact ⟨rfl, (X1.out.setCell (Nat.le_succ _) _).setCell (Nat.le_succ _) _⟩
theorem lySpc_any (d r1 r2 c : Int) (v : Value) (l : List Int) (w : World) (hv : Nums w v l) (hH : HR l) (hd : 0 ≤ d ∧ d ≤ 100000) (h1 : 0 ≤ r1 ∧ r1 ≤ r2 ∧ r2 ≤ 100000) (hc : 0 ≤ c ∧ c ≤ 100000) :
    Calls Try.prog 79 #[.agg #[.int .i64 d, .int .i64 r1, .int .i64 r2], .int .i64 c, v] w fun e w' => e = .returned (.agg #[.int .i64 (d * prL r1 c l (l.length - 1)), .int .i64 (d * prH r2 c l (l.length - 1))]) ∧ Below w.heap.size w w' := by
  have n0 := hH.n0
  have e0 := (hcE_iff l).2 hH
  obtain ⟨p0, p1, p2⟩ := pr_both (c := c) h1.1 h1.2.1 h1.2.2 hH (l.length - 1) (by omega)
  have q0 := pr_both (c := c) (r := r2) (s := r2) (by omega) (by omega) h1.2.2 hH (l.length - 1) (by omega)
  have lb : ∀ r, 0 ≤ r → r ≤ 100000 → lenB r = true := fun r a b => (lenB_iff r).2 ⟨a, b⟩
  have AR : ∀ r, 0 ≤ r → r ≤ 100000 → arL r c l = prL r c l (l.length - 1) ∧ arH r c l = prH r c l (l.length - 1) ∧ arE r c l = 0 := fun r a b => by
    unfold arL arH arE
    simp [lb r a b, lb c hc.1 hc.2, e0]
  obtain ⟨a1, a2, a3⟩ := AR r1 h1.1 (by omega)
  obtain ⟨b1, b2, b3⟩ := AR r2 (by omega) h1.2.2
  have m0 := Int.mul_nonneg hd.1 p0
  have m1 := Int.mul_nonneg hd.1 q0.1
  have m2 : d * prH r2 c l (l.length - 1) ≤ 100000 * 40000000000 := Int.mul_le_mul hd.2 p2 (by omega) (by omega)
  have m3 := Int.mul_le_mul_of_nonneg_left p1 hd.1
  have hv' := hv
  obtain ⟨a, cap, e, _⟩ := hv'
  refine lySpc_core d r1 r2 c (prL r1 c l (l.length - 1)) (prH r1 c l (l.length - 1)) (prL r2 c l (l.length - 1)) (prH r2 c l (l.length - 1)) v a l.length cap e w (wrap_in _ ⟨by omega, by omega⟩) (wrap_in _ ⟨by omega, by omega⟩) (Lib.hid fun W hW => ?_) (Lib.hid fun W hW => ?_)
  · have := area_any r1 c v l W (hv.below hW)
    rwa [a1, a2, a3] at this
  · have := area_any r2 c v l W (hv.below hW)
    rwa [b1, b2, b3] at this
end Go.Proofs.Ytgjdopjolokaiaa

/- Package profile: the piece that reaches to x. -/
namespace Go.Proofs.Ytgjdopjolokaiaa
open Go.RowKit Go.Shelf
attribute [local go_sem] Oper.semAt_some

/-- a block with four cells that can be written -/
def FourF (b : Nat) (W : World) (x p y q : Value) : Prop := Four b W x p y q ∧ W.frozen? ⟨b, 0, none⟩ = false ∧ W.frozen? ⟨b, 1, none⟩ = false ∧ W.frozen? ⟨b, 2, none⟩ = false ∧ W.frozen? ⟨b, 3, none⟩ = false
theorem FourF.new (W : World) (x p y q : Value) (T : TypeId) : FourF W.heap.size (W.alloc (.cells #[x, p, y, q] T)) x p y q := ⟨Four.new W x p y q T, by simp [go_sem], by simp [go_sem], by simp [go_sem], by simp [go_sem]⟩
theorem fourF_kept {b : Nat} {A B : World} {x p y q : Value} {row : Option Nat} (h : FourF b A x p y q) (hg : A.grownBy B row) (hr : ∀ r, row = some r → ∃ o : Obj, A.heap[r]? = some o ∧ o.isCells = false) : FourF b B x p y q := by
  obtain ⟨h0, h1, h2, h3, h4⟩ := h
  have k := h0
  obtain ⟨k0, k1, k2, k3⟩ := k
  exact ⟨four_kept h0 hg hr, (frozen_kept k0 hg hr).trans h1, (frozen_kept k1 hg hr).trans h2, (frozen_kept k2 hg hr).trans h3, (frozen_kept k3 hg hr).trans h4⟩
theorem FourF.alloc {b : Nat} {W : World} {x p y q : Value} (h : FourF b W x p y q) (o : Obj) : FourF b (W.alloc o) x p y q := fourF_kept h (World.grownBy_alloc W o none) (fun r e => by cases e)
theorem Four.below {b : Nat} {W W' : World} {x p y q : Value} (h : Four b W x p y q) (hb : Below W.heap.size W W') : Four b W' x p y q := by
  obtain ⟨h0, h1, h2, h3⟩ := h
  have hl := World.block_lt_of_cell? W _ h0
  exact ⟨((bcell hb).1 _ _ hl).trans h0, ((bcell hb).1 _ _ hl).trans h1, ((bcell hb).1 _ _ hl).trans h2, ((bcell hb).1 _ _ hl).trans h3⟩
theorem Four.alloc {b : Nat} {W : World} {x p y q : Value} (h : Four b W x p y q) (o : Obj) : Four b (W.alloc o) x p y q := h.below (bel_alloc (Below.refl _ _))
theorem FourF.below {b : Nat} {W W' : World} {x p y q : Value} (h : FourF b W x p y q) (hb : Below W.heap.size W W') : FourF b W' x p y q := by
  obtain ⟨h0, h1, h2, h3, h4⟩ := h
  have hl := World.block_lt_of_cell? W _ h0.1
  exact ⟨h0.below hb, ((bcell hb).2 _ _ hl).trans h1, ((bcell hb).2 _ _ hl).trans h2, ((bcell hb).2 _ _ hl).trans h3, ((bcell hb).2 _ _ hl).trans h4⟩
/-- four stores -/
def set4 (W : World) (b : Nat) (x p y q : Value) : World := (((W.setCell ⟨b, 0, none⟩ x).setCell ⟨b, 1, none⟩ p).setCell ⟨b, 2, none⟩ y).setCell ⟨b, 3, none⟩ q
theorem four_set {b : Nat} {W : World} {x p y q : Value} (h : Four b W x p y q) (u v w z : Value) : Four b (set4 W b u v w z) u v w z := by
  obtain ⟨h0, h1, h2, h3⟩ := h
  refine ⟨?_, ?_, ?_, ?_⟩
  · unfold set4
    rw [World.cell?_setCell_other _ _ _ _ (by simp), World.cell?_setCell_other _ _ _ _ (by simp), World.cell?_setCell_other _ _ _ _ (by simp), World.cell?_setCell_same _ _ _ h0]
  · unfold set4
    rw [World.cell?_setCell_other _ _ _ _ (by simp), World.cell?_setCell_other _ _ _ _ (by simp), World.cell?_setCell_same (u := p)]
    rw [World.cell?_setCell_other _ _ _ _ (by simp)]; exact h1
  · unfold set4
    rw [World.cell?_setCell_other _ _ _ _ (by simp), World.cell?_setCell_same (u := y)]
    rw [World.cell?_setCell_other _ _ _ _ (by simp), World.cell?_setCell_other _ _ _ _ (by simp)]; exact h2
  · unfold set4
    rw [World.cell?_setCell_same (u := q)]
    rw [World.cell?_setCell_other _ _ _ _ (by simp), World.cell?_setCell_other _ _ _ _ (by simp), World.cell?_setCell_other _ _ _ _ (by simp)]; exact h3
theorem keeps_set4 (W : World) (b : Nat) (x p y q : Value) : KeepsOthers W (set4 W b x p y q) :=
  (((KeepsOthers.setCell W ⟨b, 0, none⟩ x).trans (KeepsOthers.setCell _ ⟨b, 1, none⟩ p)).trans (KeepsOthers.setCell _ ⟨b, 2, none⟩ y)).trans (KeepsOthers.setCell _ ⟨b, 3, none⟩ q)
theorem bel_set4 {n₀ : Nat} {w W : World} (h : Below n₀ w W) (b : Nat) (hb : n₀ ≤ b) (x p y q : Value) : Below n₀ w (set4 W b x p y q) :=
  (((h.setCell (p := ⟨b, 0, none⟩) hb x).setCell (p := ⟨b, 1, none⟩) hb p).setCell (p := ⟨b, 2, none⟩) hb y).setCell (p := ⟨b, 3, none⟩) hb q
theorem four_apart {b g i : Nat} {W : World} {x p y q : Value} (h : Four b W x p y q) (u : Value) (hn : b ≠ g) : Four b (W.setCell ⟨g, i, none⟩ u) x p y q := by
  obtain ⟨h0, h1, h2, h3⟩ := h
  exact ⟨cell_apart _ h0 hn, cell_apart _ h1 hn, cell_apart _ h2 hn, cell_apart _ h3 hn⟩
theorem box_apart {b g i : Nat} {W : World} {t : TypeId} {v : Value} (h : Boxed W b t v) (hn : b ≠ g) (u : Value) : Boxed (W.setCell ⟨g, i, none⟩ u) b t v := by
  show (W.heap.modify g _)[b]? = _
  rw [Array.getElem?_modify, if_neg (fun e => hn e.symm)]
  exact h
theorem box_set4 {b g : Nat} {W : World} {t : TypeId} {v : Value} (h : Boxed W b t v) (hn : b ≠ g) (x p y q : Value) : Boxed (set4 W g x p y q) b t v :=
  box_apart (box_apart (box_apart (box_apart h hn x) hn p) hn y) hn q
theorem froz_set4 {b i g : Nat} {W : World} (h : W.frozen? ⟨b, i, none⟩ = false) (x p y q : Value) : (set4 W g x p y q).frozen? ⟨b, i, none⟩ = false := by
  unfold set4; simp only [World.frozen?_setCell]; exact h

set_option maxRecDepth 100000 in
set_option maxHeartbeats 8000000 in
theorem find_some (b off n cap : Nat) (l : List (Int × Int)) (x : Int) (i : Nat) (w : World) (n0 : 2 ≤ n) (n1 : n ≤ 1000) (hn : n = l.length) (hb : b < w.heap.size)
    (hc : Hid (∀ j, j < n → w.cell? ⟨b, off + j * 2, none⟩ = some (.int .i64 (gX l j)) ∧ w.cell? ⟨b, off + j * 2 + 1, none⟩ = some (.int .i64 (gR l j))))
    (hi : Hid (IsPc l x i)) :
    Calls Try.prog 104 #[.slice (some ⟨b, off, none⟩) n cap, .int .i64 x] w fun e w' => e = .returned (.tuple #[.agg #[.int .i64 (gX l (i - 1)), .int .i64 (gR l (i - 1)), .int .i64 (gX l i), .int .i64 (gR l i)], .int .i64 i]) ∧ Below w.heap.size w w' := by
  have HN := Lib.hid hn
  clear hn
  refine (callsIn_wide (n := 10)).1 ?_
  refine callsIn_of_wp_marks Try.func104 rfl trivial ?_ rfl
  simp only [Try.ntmps104, List.size_toArray, List.length_cons, List.length_nil, Nat.reduceAdd, Nat.reduceSub, Array.replicate_succ, Array.replicate_zero, List.push_toArray, List.append_toArray, List.nil_append, List.cons_append]
  gi_wp2_with fail
  refine ⟨trivial, (callsIn_wide.2 (pieces_any _ _ _ _)).mono ?_⟩
  rintro e w3 ⟨rfl, rfl⟩
  gi_wp2_with fail
  have BA : Hid (Boxed (w.alloc (.cells #[.int .i64 x] 3)) w.heap.size 3 (.int .i64 x)) := Boxed.new w 3 (.int .i64 x)
  have BP : Hid (FourF (w.heap.size + 1) ((w.alloc (.cells #[.int .i64 x] 3)).alloc (.cells #[.int .i64 0, .int .i64 0, .int .i64 0, .int .i64 0] 118)) (.int .i64 0) (.int .i64 0) (.int .i64 0) (.int .i64 0)) := by
    have := FourF.new (w.alloc (.cells #[.int .i64 x] 3)) (.int .i64 0) (.int .i64 0) (.int .i64 0) (.int .i64 0) 118
    rwa [World.size_alloc] at this
  have BI : Hid (Boxed (((w.alloc (.cells #[.int .i64 x] 3)).alloc (.cells #[.int .i64 0, .int .i64 0, .int .i64 0, .int .i64 0] 118)).alloc (.cells #[.int .i64 0] 3)) (w.heap.size + 1 + 1) 3 (.int .i64 0)) := by
    have := Boxed.new ((w.alloc (.cells #[.int .i64 x] 3)).alloc (.cells #[.int .i64 0, .int .i64 0, .int .i64 0, .int .i64 0] 118)) 3 (.int .i64 0)
    rwa [World.size_alloc, World.size_alloc] at this
  have BX : Hid (Boxed ((((w.alloc (.cells #[.int .i64 x] 3)).alloc (.cells #[.int .i64 0, .int .i64 0, .int .i64 0, .int .i64 0] 118)).alloc (.cells #[.int .i64 0] 3)).alloc (.cells #[.slice (some ⟨b, off, none⟩) n cap] 22)) (w.heap.size + 1 + 1 + 1) 22 (.slice (some ⟨b, off, none⟩) n cap)) := by
    have := Boxed.new (((w.alloc (.cells #[.int .i64 x] 3)).alloc (.cells #[.int .i64 0, .int .i64 0, .int .i64 0, .int .i64 0] 118)).alloc (.cells #[.int .i64 0] 3)) 22 (.slice (some ⟨b, off, none⟩) n cap)
    rwa [World.size_alloc, World.size_alloc, World.size_alloc] at this
  replace BA := Lib.hid (((BA.out.alloc (.cells #[.int .i64 0, .int .i64 0, .int .i64 0, .int .i64 0] 118)).alloc (.cells #[.int .i64 0] 3)).alloc (.cells #[.slice (some ⟨b, off, none⟩) n cap] 22))
  replace BP := Lib.hid ((BP.out.alloc (.cells #[.int .i64 0] 3)).alloc (.cells #[.slice (some ⟨b, off, none⟩) n cap] 22))
  replace BI := Lib.hid (BI.out.alloc (.cells #[.slice (some ⟨b, off, none⟩) n cap] 22))
  have X1 : Hid (Below w.heap.size w ((((w.alloc (.cells #[.int .i64 x] 3)).alloc (.cells #[.int .i64 0, .int .i64 0, .int .i64 0, .int .i64 0] 118)).alloc (.cells #[.int .i64 0] 3)).alloc (.cells #[.slice (some ⟨b, off, none⟩) n cap] 22))) := bel_alloc (bel_alloc (bel_alloc (bel_alloc (Below.refl _ _))))
  obtain ⟨W0, hW0⟩ : ∃ W0, ((((w.alloc (.cells #[.int .i64 x] 3)).alloc (.cells #[.int .i64 0, .int .i64 0, .int .i64 0, .int .i64 0] 118)).alloc (.cells #[.int .i64 0] 3)).alloc (.cells #[.slice (some ⟨b, off, none⟩) n cap] 22)) = W0 := ⟨_, rfl⟩
  have hsz : W0.heap.size = w.heap.size + 1 + 1 + 1 + 1 := by rw [← hW0]; simp
  rw [hW0] at BA BP BI BX X1 ⊢
  clear hW0
  have hl1 : ∀ j, j < n → W0.cell? ⟨b, off + j * 2, none⟩ = some (.int .i64 (gX l j)) ∧ W0.cell? ⟨b, off + j * 2 + 1, none⟩ = some (.int .i64 (gR l j)) := fun j hj => by rw [(bcell X1.out).1 _ _ hb, (bcell X1.out).1 _ _ hb]; exact hc.out j hj
  refine wpIn_rangeFunc_ownH rfl (by omega) (gf := 100) (lb := #[.pointer (some ⟨w.heap.size + 1 + 1 + 1, 0, none⟩)]) rfl trivial (enters_of Try.func100 (by kernel_rfl) rfl)
    (pieces_stops 9 (w.heap.size + 1 + 1 + 1) w.heap.size b off n cap l (by omega) (by omega) hb W0 X1.out.size BX.out.cell hl1) kpB_t (kpB_b X1.out.size) (Below.refl _ _) (fun _ => rfl)
    (fun pre W => (∀ j ∈ pre, gX l (j.val + 1) < x) ∧ Boxed W w.heap.size 3 (.int .i64 x) ∧ FourF (w.heap.size + 1) W (.int .i64 0) (.int .i64 0) (.int .i64 0) (.int .i64 0) ∧ Boxed W (w.heap.size + 1 + 1) 3 (.int .i64 0) ∧ Boxed W (w.heap.size + 1 + 1 + 1) 22 (.slice (some ⟨b, off, none⟩) n cap) ∧ Below w.heap.size w W)
    (fun c pre W => c = .ret ∧ (∃ pre' j, pre = pre' ++ [j] ∧ (∀ i ∈ pre', gX l (i.val + 1) < x) ∧ x ≤ gX l (j.val + 1) ∧ Four (w.heap.size + 1) W (.int .i64 (gX l j.val)) (.int .i64 (gR l j.val)) (.int .i64 (gX l (j.val + 1))) (.int .i64 (gR l (j.val + 1))) ∧ W.cell? ⟨w.heap.size + 1 + 1, 0, none⟩ = some (.int .i64 ((j.val : Int) + 1))) ∧ Below w.heap.size w W)
    (fun s A B row ⟨i1, i2, i3, i4, i5, i6⟩ hg hr => ⟨i1, box_kept i2 hg (fun r e => (hr r e).2), fourF_kept i3 hg (fun r e => (hr r e).2), box_kept i4 hg (fun r e => (hr r e).2), box_kept i5 hg (fun r e => (hr r e).2), ownFrom_below (β := Unit) (Nat.le_refl _) X1.out.size () A B row i6 hg hr⟩)
    (fun c s A B row ⟨i1, ⟨pre', j, h1, h2, h3, h4, h5⟩, i6⟩ hg hr => ⟨i1, ⟨pre', j, h1, h2, h3, four_kept h4 hg (fun r e => (hr r e).2), cell_kept h5 hg (fun r e => (hr r e).2)⟩, ownFrom_below (β := Unit) (Nat.le_refl _) X1.out.size () A B row i6 hg hr⟩)
    ⟨(fun j hj => by cases hj), BA.out, BP.out, BI.out, BX.out, X1.out⟩
    (fun y a' W => ∃ Bx : Nat, w.heap.size + 1 + 1 + 1 < Bx ∧ Four Bx W (.int .i64 (gX l y.val)) (.int .i64 (gR l y.val)) (.int .i64 (gX l (y.val + 1))) (.int .i64 (gR l (y.val + 1))) ∧ a' = { tmps := #[.slice (some ⟨b, off, none⟩) n cap, .int .i64 x, undef, .pointer (some ⟨w.heap.size, 0, none⟩), .pointer (some ⟨w.heap.size + 1, 0, none⟩), .pointer (some ⟨w.heap.size + 1 + 1, 0, none⟩), .int .i64 ((y.val : Int) + 1), .pointer (some ⟨Bx, 0, none⟩), .slice (some ⟨b, off, none⟩) n cap, .func (.func 100) #[] #[.pointer (some ⟨w.heap.size + 1 + 1 + 1, 0, none⟩)], .int .i64 ((y.val : Int) + 1), .agg #[.int .i64 (gX l y.val), .int .i64 (gR l y.val), .int .i64 (gX l (y.val + 1)), .int .i64 (gR l (y.val + 1))], undef, undef, undef, undef, undef, undef, undef, undef], defers := [] })
    (fun y a' _ A B row ⟨Bx, h1, h2, h3⟩ hg hr => ⟨Bx, h1, four_kept h2 hg (fun r e => (hr r e).2), h3⟩) ?assign ?body ?done ?stop
  case assign =>
    rintro lp pre y W K ⟨i1, i2, i3, i4, i5, i6⟩ hK
    dsimp only [encP]
    generalize gX l y.val = u at *
    generalize gR l y.val = p at *
    generalize gX l (y.val + 1) = v at *
    generalize gR l (y.val + 1) = q at *
    gi_wp2
    exact hK _ _ ((KeepsOthers.alloc _ _).from _) ⟨(Below.refl _ W).alloc i6.size _, fun v e => (cell_al _ e)⟩ ⟨i1, i2.alloc _, i3.alloc _, i4.alloc _, i5.alloc _, bA i6 _⟩ ⟨W.heap.size, i5.lt, Four.new _ _ _ _ _ _, rfl⟩
  case body =>
    rintro lp pre y aa W hlp ⟨rr, hrr⟩ ⟨i1, i2, i3, i4, i5, i6⟩ ⟨Bx, hBx, iX, rfl⟩ hlen
    have hyl := y.isLt
    have hcx := i2.cell
    have hci := i4.cell
    have hfi := i4.frozen
    have FF := Lib.hid iX
    by_cases hq : x ≤ gX l (y.val + 1)
    · have hq2 : Hid (x ≤ gX l (y.val + 1)) := hq
      have e1 : Hid (∀ (W' : World), Four (w.heap.size + 1) W' (.int .i64 (gX l y.val)) (.int .i64 (gR l y.val)) (.int .i64 (gX l (y.val + 1))) (.int .i64 (gR l (y.val + 1))) → W'.cell? ⟨w.heap.size + 1 + 1, 0, none⟩ = some (.int .i64 ((y.val : Int) + 1)) → ∃ pre' j, pre ++ [y] = pre' ++ [j] ∧ (∀ i ∈ pre', gX l (i.val + 1) < x) ∧ x ≤ gX l (j.val + 1) ∧ Four (w.heap.size + 1) W' (.int .i64 (gX l j.val)) (.int .i64 (gR l j.val)) (.int .i64 (gX l (j.val + 1))) (.int .i64 (gR l (j.val + 1))) ∧ W'.cell? ⟨w.heap.size + 1 + 1, 0, none⟩ = some (.int .i64 ((j.val : Int) + 1))) := fun W' h4 h5 => ⟨pre, y, rfl, i1, hq2.out, h4, h5⟩
      clear hq2
      generalize gX l y.val = u at *
      generalize gR l y.val = p at *
      generalize gX l (y.val + 1) = v at *
      generalize gR l (y.val + 1) = q at *
      obtain ⟨f0, f1, f2, f3⟩ := iX
      obtain ⟨⟨z0, z1, z2, z3⟩, zf0, zf1, zf2, zf3⟩ := i3
      gi_wp2
      refine ⟨((keeps_set4 W (w.heap.size + 1) (.int .i64 u) (.int .i64 p) (.int .i64 v) (.int .i64 q)).trans (KeepsOthers.setCell _ ⟨w.heap.size + 1 + 1, 0, none⟩ (.int .i64 ((y.val : Int) + 1)))).from _, rfl, e1.out _ ?_ ?_, (bel_set4 i6 (w.heap.size + 1) (by omega) _ _ _ _).setCell (p := ⟨w.heap.size + 1 + 1, 0, none⟩) (by show w.heap.size ≤ w.heap.size + 1 + 1; omega) _⟩
      · exact four_apart (four_set ⟨z0, z1, z2, z3⟩ _ _ _ _) _ (by omega)
      · exact World.cell?_setCell_same _ _ _ (box_set4 (g := w.heap.size + 1) i4 (by omega) (.int .i64 u) (.int .i64 p) (.int .i64 v) (.int .i64 q)).cell
    · have e1 : ∀ j ∈ pre ++ [y], gX l (j.val + 1) < x := fun j hj => by
        rcases List.mem_append.1 hj with h | h
        · exact i1 j h
        · rw [List.mem_singleton.1 h]; omega
      generalize gX l y.val = u at *
      generalize gR l y.val = p at *
      generalize gX l (y.val + 1) = v at *
      generalize gR l (y.val + 1) = q at *
      obtain ⟨f0, f1, f2, f3⟩ := iX
      gi_wp2
      exact ⟨(KeepsOthers.refl _).from _, kpB_refl _ _ _, e1, i2, i3, i4, i5, i6⟩
  case done =>
    rintro D ys W hD rfl ⟨i1, _⟩ hK
    exfalso
    have hp := hi.out
    have h2 := hp.h2
    have h1 := hp.h1
    rw [← HN.out] at h2
    have := i1 ⟨i - 1, by omega⟩ (by
      have hv := ups_val (m := n - 1) (Nat.le_refl _)
      have : i - 1 ∈ (ups (n - 1) (n - 1)).map (fun j => j.val) := by rw [hv]; exact List.mem_range.2 (by omega)
      obtain ⟨y, hy, he⟩ := List.mem_map.1 this
      have : y = ⟨i - 1, by omega⟩ := Fin.ext he
      rwa [this] at hy)
    simp only [show i - 1 + 1 = i by omega] at this
    have := hp.h3
    omega
  case stop =>
    rintro D cc pre W hD ⟨k, hk, hpre⟩ ⟨rfl, ⟨pre', j, hpj, h2, h3, h4, h5⟩, i6⟩ hK
    have hji : j.val + 1 = i := by
      have hv := ups_val hk
      rw [← hpre, hpj, List.map_append] at hv
      have hlen := congrArg List.length hv
      simp only [List.length_append, List.length_map, List.length_cons, List.length_nil, List.length_range] at hlen
      obtain ⟨k', rfl⟩ : ∃ k', k = k' + 1 := ⟨k - 1, by omega⟩
      rw [List.range_succ] at hv
      have hinj := List.append_inj hv (by simp; omega)
      have hj : j.val = k' := by have := hinj.2; simpa using this
      have hm : pre'.map (fun j => j.val) = List.range k' := hinj.1
      refine (IsPc.one (x := x) (l := l) ⟨by omega, ?_, h3, fun m m1 m2 => ?_⟩ hi.out)
      · have := j.isLt; have := HN.out; omega
      · have : m - 1 ∈ pre'.map (fun j => j.val) := by rw [hm]; exact List.mem_range.2 (by omega)
        obtain ⟨y, hy, he⟩ := List.mem_map.1 this
        have h := h2 y hy
        have he' : y.val = m - 1 := he
        rwa [show y.val + 1 = m by omega] at h
    have ei : ((j.val : Int) + 1) = (i : Int) := by omega
    obtain ⟨k0, k1, k2, k3⟩ := h4
    gi_wp2
    refine ⟨by simp, .inl ⟨_, _, rfl, run_takeDeferred hK, ?_⟩⟩
    have c0 := cell_kept k0 (grownBy_putObj' _ D (.deferred none)) (fun r e => by cases e; exact ⟨_, hK, rfl⟩)
    have c1 := cell_kept k1 (grownBy_putObj' _ D (.deferred none)) (fun r e => by cases e; exact ⟨_, hK, rfl⟩)
    have c2 := cell_kept k2 (grownBy_putObj' _ D (.deferred none)) (fun r e => by cases e; exact ⟨_, hK, rfl⟩)
    have c3 := cell_kept k3 (grownBy_putObj' _ D (.deferred none)) (fun r e => by cases e; exact ⟨_, hK, rfl⟩)
    have c4 := cell_kept h5 (grownBy_putObj' _ D (.deferred none)) (fun r e => by cases e; exact ⟨_, hK, rfl⟩)
    refine ⟨.tuple #[.agg #[.int .i64 (gX l j.val), .int .i64 (gR l j.val), .int .i64 (gX l (j.val + 1)), .int .i64 (gR l (j.val + 1))], .int .i64 ((j.val : Int) + 1)], ?_, by subst hji; simp, i6.trans (belowK_b (w := w) (Nat.le_refl _) _ D _ _ (by omega) hK rfl rfl)⟩
    simp [results, Try.results104, go_sem, c0, c1, c2, c3, c4]
end Go.Proofs.Ytgjdopjolokaiaa

/- Plain arithmetic: amounts, and the steps of the division of two words by one. No program stands in this text. -/
namespace Go.Proofs.Ytgjdopjolokaiaa

/-- an amount -/
def isAm (n : Int) : Bool := decide (0 ≤ n) && decide (n ≤ 128849018880000)

theorem isAm_iff (n : Int) : isAm n = true ↔ 0 ≤ n ∧ n ≤ 128849018880000 := by simp [isAm]
theorem isAm_not (n : Int) : isAm n = false ↔ n < 0 ∨ 128849018880000 < n := by
  rw [Bool.eq_false_iff, ne_eq, isAm_iff]; omega

theorem all_take_succ (zs : List Int) (k : Nat) (hk : k < zs.length) : ((zs.take (k + 1)).all isAm) = ((zs.take k).all isAm && isAm (zs.getD k 0)) := by
  rw [List.take_add_one, List.all_append]
  simp [List.getD, List.getElem?_eq_getElem hk]

theorem all_false_at (zs : List Int) (k : Nat) (hk : k < zs.length) (h : isAm (zs.getD k 0) = false) : zs.all isAm = false := by
  rw [Bool.eq_false_iff]; intro hall
  rw [List.all_eq_true] at hall
  have := hall (zs.getD k 0) (by simp [List.getD, List.getElem?_eq_getElem hk])
  rw [this] at h; cases h

/-! the division of two words by one -/

theorem norm_shift (y : Nat) (h1 : 1 ≤ y) (h2 : y < 2 ^ 47) : ∃ s : Nat, 64 - Lib.bitLen y = s ∧ 17 ≤ s ∧ s ≤ 63 ∧ Lib.bitLen y ≤ 64 ∧ 2 ^ 63 ≤ y * 2 ^ s ∧ y * 2 ^ s < 2 ^ 64 := by
  obtain ⟨a, b, c⟩ := Lib.bitLenAux_bounds 64 y (by omega) (by omega)
  have hle := Lib.bitLen_le y 47 (by omega) h2
  unfold Lib.bitLen at *
  generalize hL : Lib.bitLenAux 64 y = L at *
  refine ⟨64 - L, rfl, by omega, by omega, by omega, ?_, ?_⟩
  · have : 2 ^ (L - 1) * 2 ^ (64 - L) ≤ y * 2 ^ (64 - L) := Nat.mul_le_mul_right _ b
    rw [← Nat.pow_add, show L - 1 + (64 - L) = 63 by omega] at this
    exact this
  · have : y * 2 ^ (64 - L) < 2 ^ L * 2 ^ (64 - L) := Nat.mul_lt_mul_of_pos_right c (Nat.two_pow_pos _)
    rw [← Nat.pow_add, show L + (64 - L) = 64 by omega] at this
    exact this

theorem split_prod (q Y a c : Int) (hY : Y = a * 4294967296 + c) : q * Y = q * a * 4294967296 + q * c := by
  rw [hY, Int.mul_add, Int.mul_assoc]

/-- the first guess is not too small -/
theorem dig_start (U u Y a c : Int) (hY : Y = a * 4294967296 + c) (c0 : 0 ≤ c) (ha : 1 ≤ a) (hU : 0 ≤ U) (u0 : 0 ≤ u) (u1 : u < 4294967296) :
    (U * 4294967296 + u) / Y ≤ U / a := by
  have hYp : 0 < Y := by omega
  apply Int.le_ediv_of_mul_le (by omega)
  have h1 : (U * 4294967296 + u) / Y * Y ≤ U * 4294967296 + u := Int.ediv_mul_le _ (by omega)
  have hq : 0 ≤ (U * 4294967296 + u) / Y := Int.ediv_nonneg (by omega) (by omega)
  generalize (U * 4294967296 + u) / Y = q at *
  rw [split_prod q Y a c hY] at h1
  have := Int.mul_nonneg hq c0
  omega

/-- if the guess's test says 'too great', the next one is not too small -/
theorem dig_next (U u Y a c q1 r : Int) (hY : Y = a * 4294967296 + c) (hYp : 0 < Y) (hU : U < Y) (u1 : u < 4294967296) (hr : q1 * a + r = U)
    (ht : 4294967296 ≤ q1 ∨ 4294967296 * r + u < q1 * c) : (U * 4294967296 + u) / Y ≤ q1 - 1 := by
  have h1 : (U * 4294967296 + u) / Y < q1 := by
    apply Int.ediv_lt_of_lt_mul hYp
    rcases ht with ht | ht
    · have : 4294967296 * Y ≤ q1 * Y := Int.mul_le_mul_of_nonneg_right ht (by omega)
      omega
    · rw [split_prod q1 Y a c hY]; omega
  omega

/-- if the guess's test says 'not too great', it is right -/
theorem dig_done (U u Y a c q1 r : Int) (hY : Y = a * 4294967296 + c) (hYp : 0 < Y) (hr : q1 * a + r = U)
    (hq : (U * 4294967296 + u) / Y ≤ q1) (ht : q1 * c ≤ 4294967296 * r + u) : q1 = (U * 4294967296 + u) / Y := by
  have : q1 ≤ (U * 4294967296 + u) / Y := by
    apply Int.le_ediv_of_mul_le hYp
    rw [split_prod q1 Y a c hY]; omega
  omega

/-- where the rest has become as great as 2^32, the guess is right -/
theorem dig_stop (U u Y a c q1 r : Int) (hY : Y = a * 4294967296 + c) (c0 : 0 ≤ c) (c1 : c < 4294967296) (ha : 1 ≤ a) (hU : U < Y) (hr : q1 * a + r = U) (hq0 : 0 ≤ q1)
    (u0 : 0 ≤ u) (hrb : 4294967296 ≤ r) (hq : (U * 4294967296 + u) / Y ≤ q1) : q1 = (U * 4294967296 + u) / Y := by
  have hlt : q1 < 4294967296 := by
    apply Int.not_le.1; intro hge
    have := Int.mul_le_mul_of_nonneg_right hge (show 0 ≤ a by omega)
    omega
  apply dig_done U u Y a c q1 r hY (by omega) hr hq
  have h1 : q1 * c ≤ 4294967295 * 4294967295 := Int.mul_le_mul (by omega) (by omega) c0 (by omega)
  omega

/-- the digit fits 32 bits -/
theorem dig_lt (U u Y : Int) (hU0 : 0 ≤ U) (hU : U < Y) (u0 : 0 ≤ u) (u1 : u < 4294967296) : 0 ≤ (U * 4294967296 + u) / Y ∧ (U * 4294967296 + u) / Y < 4294967296 := by
  constructor
  · exact Int.ediv_nonneg (by omega) (by omega)
  · apply Int.ediv_lt_of_lt_mul (by omega); omega

/-- what is left behind a digit, in wrapped words -/
theorem dig_rest (U u Y q : Int) (hY : 0 < Y) (hY1 : Y ≤ 18446744073709551616) (hq : q = (U * 4294967296 + u) / Y) :
    IntKind.u64.wrap (IntKind.u64.wrap (IntKind.u64.wrap (U * 4294967296) + u) - IntKind.u64.wrap (q * Y)) = (U * 4294967296 + u) % Y := by
  have h1 := Int.emod_add_mul_ediv (U * 4294967296 + u) Y
  have h2 := Int.emod_nonneg (U * 4294967296 + u) (show Y ≠ 0 by omega)
  have h3 := Int.emod_lt_of_pos (U * 4294967296 + u) hY
  rw [← hq, Int.mul_comm Y q] at h1
  simp only [IntKind.wrap_u64]
  omega

theorem dig_quot (U u0 u1 Y : Int) (hY : 0 < Y) :
    (U * 4294967296 + u1) / Y * 4294967296 + ((U * 4294967296 + u1) % Y * 4294967296 + u0) / Y = ((U * 4294967296 + u1) * 4294967296 + u0) / Y := by
  have h1 := Int.emod_add_mul_ediv (U * 4294967296 + u1) Y
  generalize U * 4294967296 + u1 = N at *
  have : N * 4294967296 + u0 = (N % Y * 4294967296 + u0) + (N / Y * 4294967296) * Y := by
    have e : N / Y * 4294967296 * Y = Y * (N / Y) * 4294967296 := by
      rw [Int.mul_right_comm, Int.mul_comm (N / Y) Y]
    rw [e]; omega
  rw [this, Int.add_mul_ediv_right _ _ (by omega)]
  omega

theorem dig_rem (U u0 u1 Y : Int) :
    ((U * 4294967296 + u1) % Y * 4294967296 + u0) % Y = ((U * 4294967296 + u1) * 4294967296 + u0) % Y := by
  have h1 := Int.emod_add_mul_ediv (U * 4294967296 + u1) Y
  generalize U * 4294967296 + u1 = N at *
  have : N * 4294967296 + u0 = (N % Y * 4294967296 + u0) + (N / Y * 4294967296) * Y := by
    have e : N / Y * 4294967296 * Y = Y * (N / Y) * 4294967296 := by
      rw [Int.mul_right_comm, Int.mul_comm (N / Y) Y]
    rw [e]; omega
  rw [this, Int.add_mul_emod_self_right]

/-- two words as one number -/
def twoW (hi lo : Int) : Int := hi * 18446744073709551616 + lo

/-- the upper and the lower word -/
def hiW (p : Int) : Int := p / 18446744073709551616
def loW (p : Int) : Int := p % 18446744073709551616
theorem hiW_big (p c : Int) (h : 128849018880000 * c < p) (hp : p < 18446744073709551616 * c) (hc : 0 < c): hiW p < c := by unfold hiW; exact Int.ediv_lt_of_lt_mul (by omega) (by rw [Int.mul_comm]; omega)
theorem hiW_ge (p c : Int) (h : c ≤ hiW p) (hc : 0 < c) : 18446744073709551616 ≤ p / c := by
  apply Int.le_ediv_of_mul_le hc
  unfold hiW at h; rw [Int.mul_comm]; omega
theorem twoW_split (p : Int) : twoW (hiW p) (loW p) = p := by unfold twoW hiW loW; omega
theorem loW_nonneg (p : Int) : 0 ≤ loW p := by unfold loW; omega
theorem loW_le (p : Int) : loW p ≤ 18446744073709551615 := by unfold loW; omega
theorem hiW_nonneg (p : Int) (h : 0 ≤ p) : 0 ≤ hiW p := by unfold hiW; omega

theorem or_add (h g : Int) (s : Nat) (h0 : 0 ≤ h) (g0 : 0 ≤ g) (gs : g < 2 ^ s) (b : h * 2 ^ s + g < 18446744073709551616) : bits .or .u64 (h * 2 ^ s) g = h * 2 ^ s + g := by
  obtain ⟨A, rfl⟩ := Int.eq_ofNat_of_zero_le h0
  obtain ⟨B, rfl⟩ := Int.eq_ofNat_of_zero_le g0
  have e : ((A : Int) * 2 ^ s) = ((A * 2 ^ s : Nat) : Int) := by simp
  have gs' : B < 2 ^ s := by exact_mod_cast gs
  rw [e] at b ⊢
  rw [u64_or_nat _ _ (by omega) (by omega), Nat.mul_comm A, ← Nat.two_pow_add_eq_or_of_lt gs']
  omega

theorem and_low (n : Int) (h0 : 0 ≤ n) (h1 : n ≤ 18446744073709551615) : bits .and .u64 n 4294967295 = n % 4294967296 := by
  obtain ⟨A, rfl⟩ := Int.eq_ofNat_of_zero_le h0
  have := u64_and_nat A 4294967295 (by omega) (by omega)
  rw [nat_mask32] at this
  simpa using this

theorem shift_low (lo : Int) (s : Nat) (h0 : 0 ≤ lo) (hs : s ≤ 64) :
    lo * 2 ^ s = lo / 2 ^ (64 - s) * 18446744073709551616 + lo * 2 ^ s % 18446744073709551616 := by
  have hp : (2 : Int) ^ (64 - s) * 2 ^ s = 18446744073709551616 := by
    rw [← Int.pow_add, show 64 - s + s = 64 by omega]; rfl
  have hs0 : (0 : Int) < 2 ^ s := Int.pow_pos (by omega)
  have hs1 : (0 : Int) < 2 ^ (64 - s) := Int.pow_pos (by omega)
  have e1 := Int.emod_add_mul_ediv lo (2 ^ (64 - s))
  have e2 := Int.emod_nonneg lo (show (2 : Int) ^ (64 - s) ≠ 0 by omega)
  have e3 := Int.emod_lt_of_pos lo hs1
  generalize lo / 2 ^ (64 - s) = G at *
  generalize lo % 2 ^ (64 - s) = t at *
  have e4 : lo * 2 ^ s = t * 2 ^ s + G * 18446744073709551616 := by
    rw [← e1, Int.add_mul, Int.mul_right_comm, hp, Int.mul_comm G]
  have e5 : 0 ≤ t * 2 ^ s := Int.mul_nonneg e2 (by omega)
  have e6 : t * 2 ^ s < 18446744073709551616 := by
    rw [← hp]; exact Int.mul_lt_mul_of_pos_right e3 hs0
  rw [e4]; omega

/-- all that the walk of Div64 has to be told of its numbers -/
structure Shifted (hi lo y : Int) (s : Nat) (H G L U : Int) : Prop where
  G0 : 0 ≤ G
  Gs : G < 2 ^ s
  H0 : 0 ≤ H
  sum : U = H + G
  L0 : 0 ≤ L
  L1 : L < 18446744073709551616
  tot : U * 18446744073709551616 + L = twoW hi lo * 2 ^ s
  lt : U < y * 2 ^ s

theorem Shifted.mk' (hi lo y : Int) (s : Nat) (h0 : 0 ≤ hi) (h1 : hi < y) (h2 : 0 ≤ lo) (h3 : lo ≤ 18446744073709551615) (hs : s ≤ 64) :
    Shifted hi lo y s (hi * 2 ^ s) (lo / 2 ^ (64 - s)) (lo * 2 ^ s % 18446744073709551616) (hi * 2 ^ s + lo / 2 ^ (64 - s)) := by
  have hs0 : (0 : Int) < 2 ^ s := Int.pow_pos (by omega)
  have hs1 : (0 : Int) < 2 ^ (64 - s) := Int.pow_pos (by omega)
  have hp : (2 : Int) ^ s * 2 ^ (64 - s) = 18446744073709551616 := by
    rw [← Int.pow_add, show s + (64 - s) = 64 by omega]; rfl
  have tot : (hi * 2 ^ s + lo / 2 ^ (64 - s)) * 18446744073709551616 + lo * 2 ^ s % 18446744073709551616 = twoW hi lo * 2 ^ s := by
    have := shift_low lo s h2 hs
    unfold twoW
    rw [Int.add_mul, Int.add_mul, Int.mul_right_comm hi]
    omega
  have hL0 := Int.emod_nonneg (lo * 2 ^ s) (show (18446744073709551616 : Int) ≠ 0 by omega)
  have hL1 := Int.emod_lt_of_pos (lo * 2 ^ s) (show (0 : Int) < 18446744073709551616 by omega)
  refine ⟨Int.ediv_nonneg h2 (by omega), ?_, Int.mul_nonneg h0 (by omega), rfl, hL0, hL1, tot, ?_⟩
  · apply Int.ediv_lt_of_lt_mul hs1; rw [hp]; omega
  · have hlt : twoW hi lo * 2 ^ s < y * 18446744073709551616 * 2 ^ s := by
      apply Int.mul_lt_mul_of_pos_right _ hs0
      unfold twoW; omega
    rw [Int.mul_right_comm y] at hlt
    generalize hi * 2 ^ s + lo / 2 ^ (64 - s) = U at *
    generalize y * 2 ^ s = Y at *
    generalize lo * 2 ^ s % 18446744073709551616 = L at *
    omega

theorem fin_quot (U L Y N y : Int) (s : Nat) (hY : Y = y * 2 ^ s) (hYp : 0 < Y) (hU0 : 0 ≤ U) (hU : U < Y) (hY1 : Y ≤ 18446744073709551616) (L0 : 0 ≤ L) (L1 : L < 18446744073709551616)
    (tot : U * 18446744073709551616 + L = N * 2 ^ s) :
    IntKind.u64.wrap (IntKind.u64.wrap ((U * 4294967296 + L / 4294967296) / Y * 4294967296) + ((U * 4294967296 + L / 4294967296) % Y * 4294967296 + L % 4294967296) / Y) = N / y := by
  have a1 := dig_lt U (L / 4294967296) Y hU0 hU (by omega) (by omega)
  have b0 := Int.emod_nonneg (U * 4294967296 + L / 4294967296) (show Y ≠ 0 by omega)
  have b1 := Int.emod_lt_of_pos (U * 4294967296 + L / 4294967296) hYp
  have a2 := dig_lt ((U * 4294967296 + L / 4294967296) % Y) (L % 4294967296) Y b0 b1 (by omega) (by omega)
  have e := dig_quot U (L % 4294967296) (L / 4294967296) Y hYp
  have e2 : (U * 4294967296 + L / 4294967296) * 4294967296 + L % 4294967296 = N * 2 ^ s := by omega
  have hs0 : (0 : Int) < 2 ^ s := Int.pow_pos (by omega)
  rw [e2] at e
  have e3 : N * 2 ^ s / Y = N / y := by rw [hY, Int.mul_ediv_mul_of_pos_left _ _ hs0]
  rw [e3] at e
  rw [← e]
  simp only [IntKind.wrap_u64]
  omega

theorem fin_rest (U L Y N y : Int) (s : Nat) (hY : Y = y * 2 ^ s) (hYp : 0 < Y) (hY1 : Y ≤ 18446744073709551616)
    (tot : U * 18446744073709551616 + L = N * 2 ^ s) :
    IntKind.u64.wrap (IntKind.u64.wrap (IntKind.u64.wrap ((U * 4294967296 + L / 4294967296) % Y * 4294967296) + L % 4294967296) - IntKind.u64.wrap (((U * 4294967296 + L / 4294967296) % Y * 4294967296 + L % 4294967296) / Y * Y)) / 2 ^ s = N % y := by
  rw [dig_rest _ (L % 4294967296) Y _ hYp hY1 rfl, dig_rem]
  have e2 : (U * 4294967296 + L / 4294967296) * 4294967296 + L % 4294967296 = N * 2 ^ s := by omega
  have hs0 : (0 : Int) < 2 ^ s := Int.pow_pos (by omega)
  rw [e2, hY, Int.mul_comm N, Int.mul_comm y, Int.mul_emod_mul_of_pos _ _ hs0, Int.mul_ediv_cancel_left _ (by omega)]

/-- what proportion.Of returns: the error, the quotient, the remainder -/
def ofE (a b c : Int) : Int :=
  if isAm a && isAm b && isAm c then (if c = 0 then 16 else if a * b / c ≤ 128849018880000 then 0 else 15) else 2
def ofQ (a b c : Int) : Int := if ofE a b c = 0 then a * b / c else 0
def ofR (a b c : Int) : Int := if ofE a b c = 0 then a * b % c else 0

/-- what Up makes of what Of returns -/
def upE (q r e : Int) : Int := if e = 0 then (if q + (if 0 < r then 1 else 0) ≤ 128849018880000 then 0 else 15) else e
def upQ (q r e : Int) : Int := if upE q r e = 0 then q + (if 0 < r then 1 else 0) else 0
/-- what Compare returns -/
def cmpE (a b c d : Int) : Int := if isAm a && isAm b && isAm c && isAm d then (if b = 0 then 16 else if d = 0 then 16 else 0) else 2
def cmpN (x y : Int) : Int := if x < y then -1 else if y < x then 1 else 0
def cmpC (a b c d : Int) : Int := if cmpE a b c d = 0 then cmpN (a * d) (c * b) else 0

theorem ofQ_bd (a b c : Int) : 0 ≤ ofQ a b c ∧ ofQ a b c ≤ 128849018880000 := by
  unfold ofQ
  by_cases h : ofE a b c = 0
  · rw [if_pos h]
    unfold ofE at h
    split at h
    · rename_i h1
      simp only [Bool.and_eq_true, isAm_iff] at h1
      split at h
      · omega
      · split at h
        · exact ⟨Int.ediv_nonneg (Int.mul_nonneg h1.1.1.1 h1.1.2.1) h1.2.1, by assumption⟩
        · omega
    · omega
  · rw [if_neg h]; omega
theorem ofR_bd (a b c : Int) : 0 ≤ ofR a b c ∧ ofR a b c ≤ 128849018880000 := by
  unfold ofR
  by_cases h : ofE a b c = 0
  · rw [if_pos h]
    unfold ofE at h
    split at h
    · rename_i h1
      simp only [Bool.and_eq_true, isAm_iff] at h1
      split at h
      · omega
      · have := Int.emod_nonneg (a * b) (show c ≠ 0 by assumption)
        have := Int.emod_lt_of_pos (a * b) (show 0 < c by omega)
        omega
    · omega
  · rw [if_neg h]; omega

end Go.Proofs.Ytgjdopjolokaiaa

/- math/bits.Div64: what it returns where the upper word is less than the divisor. -/
namespace Go.Proofs.Ytgjdopjolokaiaa
open Go.RowKit

/-- what the guess's loop has to be told of a digit: 'D' is the digit -/
structure Dig (a c U u D : Int) : Prop where
  next : ∀ q r : Int, D ≤ q → q * a + r = U → (4294967296 ≤ q ∨ 4294967296 * r + u < q * c) → D ≤ q - 1
  done : ∀ q r : Int, D ≤ q → q * a + r = U → q * c ≤ 4294967296 * r + u → q = D
  stop : ∀ q r : Int, D ≤ q → q * a + r = U → 4294967296 ≤ r → q = D
  prod : ∀ q : Int, 0 ≤ q → q < 4294967296 → 0 ≤ q * c ∧ q * c ≤ 18446744073709551615
  pos : 0 ≤ D

theorem Dig.mk' (U u Y a c : Int) (hY : Y = a * 4294967296 + c) (c0 : 0 ≤ c) (c1 : c < 4294967296) (ha : 1 ≤ a) (hU0 : 0 ≤ U) (hU : U < Y) (u0 : 0 ≤ u) (u1 : u < 4294967296) :
    Dig a c U u ((U * 4294967296 + u) / Y) where
  next q r _ hr ht := dig_next U u Y a c q r hY (by omega) hU u1 hr ht
  done q r hq hr ht := dig_done U u Y a c q r hY (by omega) hr hq ht
  stop q r hq hr ht := dig_stop U u Y a c q r hY c0 c1 ha hU hr (by have := (dig_lt U u Y hU0 hU u0 u1).1; omega) u0 ht hq
  prod q h0 h1 := by
    have a1 := Int.mul_nonneg h0 c0
    have a2 : q * c ≤ 4294967295 * 4294967295 := Int.mul_le_mul (by omega) (by omega) c0 (by omega)
    omega
  pos := (dig_lt U u Y hU0 hU u0 u1).1

theorem ret_two {k l : IntKind} {a b c d : Int} (h : a = b) (g : c = d) : Ending.returned (.tuple #[.int k a, .int l c]) = .returned (.tuple #[.int k b, .int l d]) := by rw [h, g]

theorem mul_pred (q a r U : Int) (h : q * a + r = U) : (q - 1) * a + (r + a) = U := by
  rw [Int.sub_mul]; omega

set_option maxHeartbeats 1000000 in
set_option maxRecDepth 100000 in
theorem div64_core (hi lo y : Int) (s : Nat) (Y a c H G U L u1 u0 g r g2 r2 Q1 R1 Q0 Q R : Int) (w : World) (h0 : 1 ≤ hi) (h1 : hi < y) (h2 : 0 ≤ lo) (h3 : lo ≤ 18446744073709551615) (h4 : y ≤ 140737488355327)
   (hs0 : 17 ≤ s) (hs1 : s ≤ 63)
   (lz : Hid (Calls Try.prog 119 #[.int .u64 y] w fun e w' => e = .returned (.int .i64 s) ∧ w = w'))
   (yb0 : 0 ≤ y * 2 ^ s) (yb1 : y * 2 ^ s ≤ 18446744073709551615) (hb0 : 0 ≤ hi * 2 ^ s) (hb1 : hi * 2 ^ s ≤ 18446744073709551615)
   (eY : y * 2 ^ s = Y) (ea : Y / 4294967296 = a) (ec : bits .and .u64 Y 4294967295 = c) (eH : hi * 2 ^ s = H) (eG : lo / 2 ^ (64 - s) = G) (eU : bits .or .u64 H G = U)
   (eL : IntKind.u64.wrap (lo * 2 ^ s) = L) (e1 : L / 4294967296 = u1) (e0 : bits .and .u64 L 4294967295 = u0) (eg : U / a = g) (er : U - g * a = r) 
   (b1 : 2147483648 ≤ a) (b2 : 0 ≤ U) (b3 : U ≤ 18446744073709551615) (b4 : a ≤ 4294967295) (b5 : 0 ≤ c) (b6 : c ≤ 4294967295) (b7 : 0 ≤ u1) (b8 : u1 ≤ 4294967295) (b9 : 0 ≤ u0) (b10 : u0 ≤ 4294967295) (b11 : 9223372036854775808 ≤ Y) (b12 : Y ≤ 18446744073709551615) (b13 : 0 ≤ g * a) (b14 : g * a ≤ U)
   (hR1 : Hid (IntKind.u64.wrap (IntKind.u64.wrap (IntKind.u64.wrap (U * 4294967296) + u1) - IntKind.u64.wrap (Q1 * Y)) = R1)) (c1 : 0 ≤ R1) (c2 : R1 ≤ 18446744073709551615) (eg2 : Hid (R1 / a = g2)) (er2 : Hid (R1 - R1 / a * a = r2)) (b15 : 0 ≤ R1 / a * a) (b16 : R1 / a * a ≤ R1)
   (dg2 : Dig a c R1 u0 Q0) (st2 : Q0 ≤ g2 ∧ 0 ≤ g2 ∧ g2 ≤ 18446744073709551615 ∧ 0 ≤ r2 ∧ r2 < 4294967296 ∧ Hid (g2 * a + r2 = R1))
   (dg1 : Dig a c U u1 Q1) (st1 : Q1 ≤ g ∧ 0 ≤ g ∧ g ≤ 18446744073709551615 ∧ 0 ≤ r ∧ r < 4294967296 ∧ Hid (g * a + r = U))
   (hQ : Hid (IntKind.u64.wrap (IntKind.u64.wrap (Q1 * 4294967296) + Q0) = Q)) (hR : Hid (IntKind.u64.wrap (IntKind.u64.wrap (IntKind.u64.wrap (R1 * 4294967296) + u0) - IntKind.u64.wrap (Q0 * Y)) / 2 ^ s = R)) :
    Calls Try.prog 116 #[.int .u64 hi, .int .u64 lo, .int .u64 y] w fun e w' => e = .returned (.tuple #[.int .u64 Q, .int .u64 R]) ∧ w' = w := by
  go_enter Try.func116, Try.ntmps116
  go_upto_region 16 with (go_at_call 119; refine (lz.out).mono ?_; rintro e w' ⟨rfl, rfl⟩)
  go_cut [2, 8, 9, 10, 11, 13, 14, 15, 16] (fun s2 s8 s9 s10 s11 s13 s14 s15 s16 wx => s2 = .int .u64 Y ∧ s8 = .int .u64 s ∧ s9 = .int .u64 a ∧ s10 = .int .u64 c ∧ s11 = .int .u64 U ∧ s13 = .int .u64 u1 ∧ s14 = .int .u64 u0 ∧ s15 = .int .u64 g ∧ s16 = .int .u64 r ∧ w = wx)
  case first =>
    go_wp2
    go_meet
    case rel => exact ⟨rfl, rfl, rfl, rfl, rfl, rfl, rfl, by rw [eg], rfl, rfl⟩
  case rest =>
  obtain ⟨rfl, rfl, rfl, rfl, rfl, rfl, rfl, rfl, rfl, rfl⟩ := hcut
  clear eY ea ec eH eG eU eL e1 e0 eg er
  go_upto_block 0 with fail
  go_cut [15] (fun s15 wx => s15 = .int .u64 Q1 ∧ w = wx)
  case first =>
    go_wp2_with fail
    go_loop [15, 16] (fun q r => ∃ q1 r1 : Int, q = .int .u64 q1 ∧ r = .int .u64 r1 ∧ Q1 ≤ q1 ∧ 0 ≤ q1 ∧ q1 ≤ 18446744073709551615 ∧ 0 ≤ r1 ∧ r1 < 4294967296 ∧ Hid (q1 * a + r1 = U)) (fun q _ => (intOf q).toNat)
    case atStart => exact ⟨g, r, rfl, rfl, st1.1, st1.2.1, st1.2.2.1, st1.2.2.2.1, st1.2.2.2.2.1, st1.2.2.2.2.2⟩
    case round =>
      obtain ⟨q1, r1, rfl, rfl, p1, p2, p2', p3, p4, p5⟩ := hrel
      by_cases t1 : 4294967296 ≤ q1
      · have HN := Lib.hid (dg1.next q1 r1 p1 p5.out (Or.inl t1))
        have HS := Lib.hid (dg1.stop (q1 - 1) (r1 + a) HN.out (mul_pred _ _ _ _ p5.out))
        have HR := Lib.hid (mul_pred _ _ _ _ p5.out)
        go_wp2
        · have ht : 4294967296 ≤ r1 + a := by assumption
          go_meet
          case rel => exact ⟨by rw [HS.out ht], rfl⟩
        · have ht : r1 + a < 4294967296 := by assumption
          go_round
          case rel => exact ⟨q1 - 1, r1 + a, rfl, rfl, HN.out, by omega, by omega, by omega, ht, HR.out⟩
          case measure => simp [intOf]; omega
      · obtain ⟨m1, m2⟩ := dg1.prod q1 p2 (by omega)
        by_cases t2 : 4294967296 * r1 + u1 < q1 * c
        · have HN := Lib.hid (dg1.next q1 r1 p1 p5.out (Or.inr t2))
          have HS := Lib.hid (dg1.stop (q1 - 1) (r1 + a) HN.out (mul_pred _ _ _ _ p5.out))
          have HR := Lib.hid (mul_pred _ _ _ _ p5.out)
          have q1p : 1 ≤ q1 := by have := dg1.pos; have := HN.out; omega
          go_wp2
          · have ht : 4294967296 ≤ r1 + a := by assumption
            go_meet
            case rel => exact ⟨by rw [HS.out ht], rfl⟩
          · have ht : r1 + a < 4294967296 := by assumption
            go_round
            case rel => exact ⟨q1 - 1, r1 + a, rfl, rfl, HN.out, by omega, by omega, by omega, ht, HR.out⟩
            case measure => simp [intOf]; omega
        · have HD := Lib.hid (dg1.done q1 r1 p1 p5.out (by omega))
          go_wp2
          go_meet
          case rel => exact ⟨by rw [HD.out], rfl⟩
  case rest =>
  obtain ⟨rfl, rfl⟩ := hcut
  clear st1 b13 b14
  go_upto_region 21 with fail
  go_cut [17] (fun s17 wx => s17 = .int .u64 R1 ∧ w = wx)
  case first =>
    go_wp2
    go_meet
    case rel => exact ⟨by rw [← hR1.out], rfl⟩
  case rest =>
  obtain ⟨rfl, rfl⟩ := hcut
  go_upto_region 23 with fail
  go_cut [18, 16] (fun s18 s16 wx => s18 = .int .u64 g2 ∧ s16 = .int .u64 r2 ∧ w = wx)
  case first =>
    go_wp2
    go_meet
    case rel => exact ⟨by rw [← eg2.out], by rw [← er2.out], rfl⟩
  case rest =>
  obtain ⟨rfl, rfl, rfl⟩ := hcut
  clear b15 b16
  go_upto_block 2 with fail
  go_cut [18] (fun s18 wx => s18 = .int .u64 Q0 ∧ w = wx)
  case first =>
    go_wp2_with fail
    go_loop [18, 16] (fun q r => ∃ q1 r1 : Int, q = .int .u64 q1 ∧ r = .int .u64 r1 ∧ Q0 ≤ q1 ∧ 0 ≤ q1 ∧ q1 ≤ 18446744073709551615 ∧ 0 ≤ r1 ∧ r1 < 4294967296 ∧ Hid (q1 * a + r1 = R1)) (fun q _ => (intOf q).toNat)
    case atStart => exact ⟨g2, r2, rfl, rfl, st2.1, st2.2.1, st2.2.2.1, st2.2.2.2.1, st2.2.2.2.2.1, st2.2.2.2.2.2⟩
    case round =>
      obtain ⟨q1, r1, rfl, rfl, p1, p2, p2', p3, p4, p5⟩ := hrel
      by_cases t1 : 4294967296 ≤ q1
      · have HN := Lib.hid (dg2.next q1 r1 p1 p5.out (Or.inl t1))
        have HS := Lib.hid (dg2.stop (q1 - 1) (r1 + a) HN.out (mul_pred _ _ _ _ p5.out))
        have HR := Lib.hid (mul_pred _ _ _ _ p5.out)
        go_wp2
        · have ht : 4294967296 ≤ r1 + a := by assumption
          go_meet
          case rel => exact ⟨by rw [HS.out ht], rfl⟩
        · have ht : r1 + a < 4294967296 := by assumption
          go_round
          case rel => exact ⟨q1 - 1, r1 + a, rfl, rfl, HN.out, by omega, by omega, by omega, ht, HR.out⟩
          case measure => simp [intOf]; omega
      · obtain ⟨m1, m2⟩ := dg2.prod q1 p2 (by omega)
        by_cases t2 : 4294967296 * r1 + u0 < q1 * c
        · have HN := Lib.hid (dg2.next q1 r1 p1 p5.out (Or.inr t2))
          have HS := Lib.hid (dg2.stop (q1 - 1) (r1 + a) HN.out (mul_pred _ _ _ _ p5.out))
          have HR := Lib.hid (mul_pred _ _ _ _ p5.out)
          have q1p : 1 ≤ q1 := by have := dg2.pos; have := HN.out; omega
          go_wp2
          · have ht : 4294967296 ≤ r1 + a := by assumption
            go_meet
            case rel => exact ⟨by rw [HS.out ht], rfl⟩
          · have ht : r1 + a < 4294967296 := by assumption
            go_round
            case rel => exact ⟨q1 - 1, r1 + a, rfl, rfl, HN.out, by omega, by omega, by omega, ht, HR.out⟩
            case measure => simp [intOf]; omega
        · have HD := Lib.hid (dg2.done q1 r1 p1 p5.out (by omega))
          go_wp2
          go_meet
          case rel => exact ⟨by rw [HD.out], rfl⟩
  case rest =>
  obtain ⟨rfl, rfl⟩ := hcut
  clear st2
  go_wp2
  go_ret2
  exact ⟨ret_two hQ.out hR.out, rfl⟩

theorem div64_pos (hi lo y : Int) (w : World) (h0 : 1 ≤ hi) (h1 : hi < y) (h2 : 0 ≤ lo) (h3 : lo ≤ 18446744073709551615) (h4 : y ≤ 140737488355327) :
    Calls Try.prog 116 #[.int .u64 hi, .int .u64 lo, .int .u64 y] w fun e w' => e = .returned (.tuple #[.int .u64 (twoW hi lo / y), .int .u64 (twoW hi lo % y)]) ∧ w' = w := by
  obtain ⟨s, e1, s0, s1, hL, n0, n1⟩ := norm_shift y.toNat (by omega) (by omega)
  have lz := Try.bits_LeadingZeros64 y w (by omega) (by omega)
  rw [show (64 - (Lib.bitLen y.toNat : Int)) = (s : Int) by omega] at lz
  have lz' : Calls Try.prog 119 #[.int .u64 y] w fun e w' => e = .returned (.int .i64 s) ∧ w = w' := lz.mono fun _ _ h => ⟨h.1, h.2.symm⟩
  have hy : ((y.toNat * 2 ^ s : Nat) : Int) = y * 2 ^ s := by rw [Int.natCast_mul, Int.toNat_of_nonneg (by omega)]; simp
  have m0 : 9223372036854775808 ≤ y * 2 ^ s := by rw [← hy]; have : 2 ^ 63 = 9223372036854775808 := rfl; omega
  have m1 : y * 2 ^ s ≤ 18446744073709551615 := by rw [← hy]; have : 2 ^ 64 = 18446744073709551616 := rfl; omega
  have sh := Shifted.mk' hi lo y s (by omega) h1 h2 h3 (by omega)
  have or := or_add hi (lo / 2 ^ (64 - s)) s (by omega) sh.G0 sh.Gs (by have := sh.lt; omega)
  have g0 := sh.G0
  have H0 := sh.H0
  have L0 := sh.L0
  have L1 := sh.L1
  have tot := sh.tot
  have lt := sh.lt
  clear sh e1 hL n0 n1 hy lz
  generalize hY : y * 2 ^ s = Y at *
  generalize hG : lo / 2 ^ (64 - s) = G at *
  generalize hLL : lo * 2 ^ s % 18446744073709551616 = L at *
  generalize hH : hi * 2 ^ s = H at *
  generalize hU : H + G = U at *
  have lt0 := and_low Y (by omega) (by omega)
  have lt1 := and_low L (by omega) (by omega)
  have u0 : 0 ≤ U := by omega
  have a0 : 2147483648 ≤ Y / 4294967296 := by omega
  have p0 : 0 ≤ U / (Y / 4294967296) * (Y / 4294967296) := Int.mul_nonneg (Int.ediv_nonneg u0 (by omega)) (by omega)
  have p1 : U / (Y / 4294967296) * (Y / 4294967296) ≤ U := Int.ediv_mul_le _ (by omega)
  have p2 : U % (Y / 4294967296) = U - U / (Y / 4294967296) * (Y / 4294967296) := by
    have := Int.emod_add_mul_ediv U (Y / 4294967296); rw [Int.mul_comm] at this; omega
  have p3 := Int.emod_nonneg U (show Y / 4294967296 ≠ 0 by omega)
  have p4 := Int.emod_lt_of_pos U (show 0 < Y / 4294967296 by omega)
  have p5 : U / (Y / 4294967296) ≤ U := Int.ediv_le_self _ u0
  have hYs : Y = Y / 4294967296 * 4294967296 + Y % 4294967296 := by omega
  have r0 := Int.emod_nonneg (U * 4294967296 + L / 4294967296) (show Y ≠ 0 by omega)
  have r1 := Int.emod_lt_of_pos (U * 4294967296 + L / 4294967296) (show 0 < Y by omega)
  have dg1 := Dig.mk' U (L / 4294967296) Y (Y / 4294967296) (Y % 4294967296) hYs (by omega) (by omega) (by omega) u0 lt (by omega) (by omega)
  have st1 := dig_start U (L / 4294967296) Y (Y / 4294967296) (Y % 4294967296) hYs (by omega) (by omega) u0 (by omega) (by omega)
  have rest := dig_rest U (L / 4294967296) Y _ (by omega) (by omega) rfl
  have fq := fin_quot U L Y (twoW hi lo) y s hY.symm (by omega) u0 lt (by omega) L0 (by omega) tot
  have fr := fin_rest U L Y (twoW hi lo) y s hY.symm (by omega) (by omega) tot
  generalize hR1 : (U * 4294967296 + L / 4294967296) % Y = R1 at *
  have dg2 := Dig.mk' R1 (L % 4294967296) Y (Y / 4294967296) (Y % 4294967296) hYs (by omega) (by omega) (by omega) r0 r1 (by omega) (by omega)
  have st2 := dig_start R1 (L % 4294967296) Y (Y / 4294967296) (Y % 4294967296) hYs (by omega) (by omega) r0 (by omega) (by omega)
  have q0 : 0 ≤ R1 / (Y / 4294967296) * (Y / 4294967296) := Int.mul_nonneg (Int.ediv_nonneg r0 (by omega)) (by omega)
  have q1 : R1 / (Y / 4294967296) * (Y / 4294967296) ≤ R1 := Int.ediv_mul_le _ (by omega)
  have q2 : R1 % (Y / 4294967296) = R1 - R1 / (Y / 4294967296) * (Y / 4294967296) := by
    have := Int.emod_add_mul_ediv R1 (Y / 4294967296); rw [Int.mul_comm] at this; omega
  have q3 := Int.emod_nonneg R1 (show Y / 4294967296 ≠ 0 by omega)
  have q4 := Int.emod_lt_of_pos R1 (show 0 < Y / 4294967296 by omega)
  have q5 : R1 / (Y / 4294967296) ≤ R1 := Int.ediv_le_self _ r0
  exact div64_core hi lo y s Y (Y / 4294967296) (Y % 4294967296) H G U L (L / 4294967296) (L % 4294967296) (U / (Y / 4294967296)) (U - U / (Y / 4294967296) * (Y / 4294967296)) (R1 / (Y / 4294967296)) (R1 - R1 / (Y / 4294967296) * (Y / 4294967296))
    ((U * 4294967296 + L / 4294967296) / Y) R1 ((R1 * 4294967296 + L % 4294967296) / Y) _ _ w h0 h1 h2 h3 h4 s0 s1 lz' (by rw [hY]; omega) (by rw [hY]; omega) (by rw [hH]; omega) (by rw [hH]; omega)
    hY rfl lt0 hH hG (by rw [or]) (by rw [IntKind.wrap_u64]; exact hLL) rfl lt1 rfl rfl a0 u0 (by omega) (by omega) (by omega) (by omega) (by omega) (by omega) (by omega) (by omega) (by omega) (by omega) p0 p1
    rest r0 (by omega) rfl rfl q0 q1 dg2 ⟨st2, Int.ediv_nonneg r0 (by omega), by omega, by omega, by omega, by show _ = _; omega⟩
    dg1 ⟨st1, Int.ediv_nonneg u0 (by omega), by omega, by omega, by omega, by show _ = _; omega⟩ fq fr

set_option maxHeartbeats 1000000 in
set_option maxRecDepth 100000 in
theorem div64_zero (lo y : Int) (w : World) (h1 : 0 < y) (h2 : 0 ≤ lo) (h3 : lo ≤ 18446744073709551615) (h4 : y ≤ 140737488355327) :
    Calls Try.prog 116 #[.int .u64 0, .int .u64 lo, .int .u64 y] w fun e w' => e = .returned (.tuple #[.int .u64 (lo / y), .int .u64 (lo % y)]) ∧ ∃ n, w' = w.drewN n := by
  go_enter Try.func116, Try.ntmps116
  go_wp2_with fail
  go_quiet (fail)
  go_wp2
  go_ret2
  exact ⟨rfl, _, rfl⟩

theorem div64_any (hi lo y : Int) (w : World) (h0 : 0 ≤ hi) (h1 : hi < y) (h2 : 0 ≤ lo) (h3 : lo ≤ 18446744073709551615) (h4 : y ≤ 140737488355327) :
    Calls Try.prog 116 #[.int .u64 hi, .int .u64 lo, .int .u64 y] w fun e w' => e = .returned (.tuple #[.int .u64 (twoW hi lo / y), .int .u64 (twoW hi lo % y)]) ∧ ∃ n, w' = w.drewN n := by
  by_cases hz : hi = 0
  · subst hz
    rw [show twoW 0 lo = lo by unfold twoW; omega]
    exact div64_zero lo y w (by omega) h2 h3 h4
  · exact (div64_pos hi lo y w (by omega) h1 h2 h3 h4).mono fun _ _ h => ⟨h.1, 0, h.2⟩

end Go.Proofs.Ytgjdopjolokaiaa

/- Package proportion: what Of, Up and Compare return, for every input. -/
namespace Go.Proofs.Ytgjdopjolokaiaa
open Go.RowKit

theorem amounts_any (b off len cap : Nat) (zs : List Int) (w : World) (hz : len = zs.length) (hbig : len ≤ 9223372036854775807) (hc : ∀ j, j < zs.length → w.cell? ⟨b, off + j, none⟩ = some (.int .i64 (zs.getD j 0))) :
    Calls Try.prog 114 #[.slice (some ⟨b, off, none⟩) len cap] w fun e w' => e = .returned (.bool (zs.all isAm)) ∧ w' = w := by
  have HC := Lib.hid hc; clear hc
  have HZ := Lib.hid hz; clear hz
  go_enter Try.func114, Try.ntmps114
  go_wp2
  go_loop [7] (fun i => ∃ k : Nat, k ≤ len ∧ i = .int .i64 k ∧ (zs.take k).all isAm = true) (fun i => len - (intOf i).toNat)
  case atStart => exact ⟨0, Nat.zero_le _, rfl, by simp⟩
  case round =>
    obtain ⟨k, hk, rfl, hall⟩ := hrel
    have HA := Lib.hid hall; clear hall
    by_cases hlt : k < len
    · have hkz : k < zs.length := by rw [← HZ.out]; exact hlt
      have hcell : w.cell? ⟨b, off + k, none⟩ = some (.int .i64 (zs.getD k 0)) := HC.out k hkz
      have HS := Lib.hid (all_take_succ zs k hkz)
      have HF := Lib.hid (all_false_at zs k hkz)
      generalize zs.getD k 0 = z at *
      by_cases hb : 0 ≤ z ∧ z ≤ 128849018880000
      · have HB := Lib.hid ((isAm_iff z).2 hb)
        obtain ⟨hb1, hb2⟩ := hb
        clear hkz
        go_wp2
        go_round
        case rel => exact ⟨k + 1, by omega, by go_num, by rw [HS.out, HA.out, HB.out]; rfl⟩
        case measure => simp [intOf]; omega
      · have HB := Lib.hid (HF.out (by rw [isAm_not]; omega))
        by_cases hz0 : z < 0
        · clear hb hkz
          go_wp2
          go_ret
          rw [HB.out]; exact ⟨rfl, rfl⟩
        · have hz1 : 128849018880000 < z := by omega
          clear hb hkz
          go_wp2
          go_ret
          rw [HB.out]; exact ⟨rfl, rfl⟩
    · have HT : RowKit.Hid (zs.take k = zs) := by
        show zs.take k = zs
        exact List.take_of_length_le (by have := HZ.out; omega)
      go_wp2
      go_ret
      rw [← HA.out, HT.out]; exact ⟨rfl, rfl⟩

theorem mul64_int (x y : Int) (w : World) (hx0 : 0 ≤ x) (hx : x ≤ 9223372036854775807) (hy0 : 0 ≤ y) (hy : y ≤ 9223372036854775807) :
    Calls Try.prog 118 #[.int .u64 x, .int .u64 y] w fun e w' => e = .returned (.tuple #[.int .u64 (hiW (x * y)), .int .u64 (loW (x * y))]) ∧ w = w' := by
  obtain ⟨A, rfl⟩ := Int.eq_ofNat_of_zero_le hx0
  obtain ⟨B, rfl⟩ := Int.eq_ofNat_of_zero_le hy0
  refine (Try.bits_Mul64 A B (by omega) (by omega) w).mono fun e w' h => ⟨?_, h.2.symm⟩
  rw [h.1, hiW, loW]; simp

theorem multiply_any (a b : Int) (w : World) (ha0 : 0 ≤ a) (ha : a ≤ 9223372036854775807) (hb0 : 0 ≤ b) (hb : b ≤ 9223372036854775807) :
    Calls Try.prog 115 #[.int .i64 a, .int .i64 b] w fun e w' => e = .returned (.agg #[.int .u64 (hiW (a * b)), .int .u64 (loW (a * b))]) ∧ Below w.heap.size w w' := by
  go_enter Try.func115, Try.ntmps115
  go_wp2_with (go_at_call 118; refine (mul64_int a b _ ha0 ha hb0 hb).mono ?_; rintro e w' ⟨rfl, rfl⟩)
  go_returns
  exact ⟨rfl, by go_grown⟩

theorem amounts_row (zs : List Int) (vs : List Value) (w : World) (hv : vs = zs.map (Value.int .i64)) (hl : zs.length ≤ 1000) (r : Bool) (h : zs.all isAm = r) :
    Calls Try.prog 114 #[.slice (some ⟨w.heap.size, 0, none⟩) zs.length zs.length] (w.alloc (.cells vs.toArray 3)) fun e w' => e = .returned (.bool r) ∧ (w.alloc (.cells vs.toArray 3)) = w' := by
  refine (amounts_any _ 0 zs.length zs.length zs _ rfl (by omega) ?_).mono fun e w' g => ⟨by rw [g.1, h], g.2.symm⟩
  intro j hj
  subst hv
  rw [World.cell?_alloc_new]
  simp [List.getD, List.getElem?_eq_getElem hj]

theorem amounts1 (a : Int) (w : World) (r : Bool) (h : isAm a = r) :
    Calls Try.prog 114 #[.slice (some ⟨w.heap.size, 0, none⟩) 1 1] (w.alloc (.cells #[.int .i64 a] 3)) fun e w' => e = .returned (.bool r) ∧ (w.alloc (.cells #[.int .i64 a] 3)) = w' :=
  amounts_row [a] [.int .i64 a] w rfl (by simp) r (by simpa using h)
theorem amounts2 (a b : Int) (w : World) (r : Bool) (h : (isAm a && isAm b) = r) :
    Calls Try.prog 114 #[.slice (some ⟨w.heap.size, 0, none⟩) 2 2] (w.alloc (.cells #[.int .i64 a, .int .i64 b] 3)) fun e w' => e = .returned (.bool r) ∧ (w.alloc (.cells #[.int .i64 a, .int .i64 b] 3)) = w' :=
  amounts_row [a, b] [.int .i64 a, .int .i64 b] w rfl (by simp) r (by simpa using h)
theorem amounts3 (a b c : Int) (w : World) (r : Bool) (h : (isAm a && isAm b && isAm c) = r) :
    Calls Try.prog 114 #[.slice (some ⟨w.heap.size, 0, none⟩) 3 3] (w.alloc (.cells #[.int .i64 a, .int .i64 b, .int .i64 c] 3)) fun e w' => e = .returned (.bool r) ∧ (w.alloc (.cells #[.int .i64 a, .int .i64 b, .int .i64 c] 3)) = w' :=
  amounts_row [a, b, c] [.int .i64 a, .int .i64 b, .int .i64 c] w rfl (by simp) r (by simpa [Bool.and_assoc] using h)
theorem amounts4 (a b c d : Int) (w : World) (r : Bool) (h : (isAm a && isAm b && isAm c && isAm d) = r) :
    Calls Try.prog 114 #[.slice (some ⟨w.heap.size, 0, none⟩) 4 4] (w.alloc (.cells #[.int .i64 a, .int .i64 b, .int .i64 c, .int .i64 d] 3)) fun e w' => e = .returned (.bool r) ∧ (w.alloc (.cells #[.int .i64 a, .int .i64 b, .int .i64 c, .int .i64 d] 3)) = w' :=
  amounts_row [a, b, c, d] [.int .i64 a, .int .i64 b, .int .i64 c, .int .i64 d] w rfl (by simp) r (by simpa [Bool.and_assoc] using h)

theorem of_bad (a b c : Int) (w : World) (h : (isAm a && isAm b && isAm c) = false) :
    Calls Try.prog 110 #[.int .i64 a, .int .i64 b, .int .i64 c] w fun e w' => e = .returned (.tuple #[.int .i64 0, .int .i64 0, .int .i64 2]) ∧ Below w.heap.size w w' := by
  have H := Lib.hid h; clear h
  go_enter Try.func110, Try.ntmps110
  go_wp2_with (go_at_call 114; refine (amounts3 _ _ _ _ _ H.out).mono ?_; rintro e w' ⟨rfl, rfl⟩)
  go_returns
  exact ⟨rfl, by go_grown⟩

theorem of_zero (a b : Int) (w : World) (h : (isAm a && isAm b && isAm 0) = true) :
    Calls Try.prog 110 #[.int .i64 a, .int .i64 b, .int .i64 0] w fun e w' => e = .returned (.tuple #[.int .i64 0, .int .i64 0, .int .i64 16]) ∧ Below w.heap.size w w' := by
  have H := Lib.hid h; clear h
  go_enter Try.func110, Try.ntmps110
  go_wp2_with (go_at_call 114; refine (amounts3 _ _ _ _ _ H.out).mono ?_; rintro e w' ⟨rfl, rfl⟩)
  go_returns
  exact ⟨rfl, by go_grown⟩

theorem of_ok (a b c Q R : Int) (w : World) (h : (isAm a && isAm b && isAm c) = true) (hc : 1 ≤ c) (hQ : Hid (a * b / c = Q)) (hR : Hid (a * b % c = R)) (hq : Q ≤ 128849018880000) :
    Calls Try.prog 110 #[.int .i64 a, .int .i64 b, .int .i64 c] w fun e w' => e = .returned (.tuple #[.int .i64 Q, .int .i64 R, .int .i64 0]) ∧ Below w.heap.size w w' := by
  have h' := h
  simp only [Bool.and_eq_true, isAm_iff] at h'
  obtain ⟨⟨⟨a0, a1⟩, b0, b1⟩, c0, c1⟩ := h'
  have H := Lib.hid h; clear h
  have p0 : 0 ≤ a * b := Int.mul_nonneg a0 b0
  have q0 : 0 ≤ Q := by rw [← hQ.out]; exact Int.ediv_nonneg p0 c0
  have r0 : 0 ≤ R := by rw [← hR.out]; exact Int.emod_nonneg _ (by omega)
  have r1 : R < c := by rw [← hR.out]; exact Int.emod_lt_of_pos _ (by omega)
  have k : hiW (a * b) < c := by
    rcases Int.lt_or_le (hiW (a * b)) c with k | k
    · exact k
    · have := hiW_ge _ _ k (by omega); rw [hQ.out] at this; omega
  have k0 := hiW_nonneg _ p0
  clear p0
  go_enter Try.func110, Try.ntmps110
  go_wp2_with (go_at_call 114; refine (amounts3 _ _ _ _ _ H.out).mono ?_; rintro e w' ⟨rfl, rfl⟩)
  refine (multiply_any a b _ a0 (by omega) b0 (by omega)).mono ?_
  rintro e w1 ⟨rfl, hb1⟩
  go_wp2_with fail
  refine (div64_any (hiW (a * b)) (loW (a * b)) c _ k0 k (loW_nonneg _) (loW_le _) (by omega)).mono ?_
  rw [twoW_split, hQ.out, hR.out]
  rintro e w2 ⟨rfl, n, rfl⟩
  go_wp2
  go_returns
  exact ⟨rfl, bel_trans (bel_alloc hb1) (bel_alloc (bel_drewN _ _))⟩

theorem of_big (a b c Q R : Int) (w : World) (h : (isAm a && isAm b && isAm c) = true) (hc : 1 ≤ c) (hQ : Hid (a * b / c = Q)) (hR : Hid (a * b % c = R)) (hq : 128849018880000 < Q) :
    Calls Try.prog 110 #[.int .i64 a, .int .i64 b, .int .i64 c] w fun e w' => e = .returned (.tuple #[.int .i64 0, .int .i64 0, .int .i64 15]) ∧ Below w.heap.size w w' := by
  have h' := h
  simp only [Bool.and_eq_true, isAm_iff] at h'
  obtain ⟨⟨⟨a0, a1⟩, b0, b1⟩, c0, c1⟩ := h'
  have H := Lib.hid h; clear h
  have p0 : 0 ≤ a * b := Int.mul_nonneg a0 b0
  have k0 := hiW_nonneg _ p0
  by_cases k : hiW (a * b) < c
  · have q1 : Q ≤ 18446744073709551615 := by
      rw [← hQ.out]
      have : a * b / c < 18446744073709551616 := by
        apply Int.ediv_lt_of_lt_mul (by omega)
        unfold hiW at k; omega
      omega
    have r0 : 0 ≤ R := by rw [← hR.out]; exact Int.emod_nonneg _ (by omega)
    have r1 : R < c := by rw [← hR.out]; exact Int.emod_lt_of_pos _ (by omega)
    clear p0
    go_enter Try.func110, Try.ntmps110
    go_wp2_with (go_at_call 114; refine (amounts3 _ _ _ _ _ H.out).mono ?_; rintro e w' ⟨rfl, rfl⟩)
    refine (multiply_any a b _ a0 (by omega) b0 (by omega)).mono ?_
    rintro e w1 ⟨rfl, hb1⟩
    go_wp2_with fail
    refine (div64_any (hiW (a * b)) (loW (a * b)) c _ k0 k (loW_nonneg _) (loW_le _) (by omega)).mono ?_
    rw [twoW_split, hQ.out, hR.out]
    rintro e w2 ⟨rfl, n, rfl⟩
    go_wp2
    go_returns
    exact ⟨rfl, bel_trans (bel_alloc hb1) (bel_alloc (bel_drewN _ _))⟩
  · clear p0
    go_enter Try.func110, Try.ntmps110
    go_wp2_with (go_at_call 114; refine (amounts3 _ _ _ _ _ H.out).mono ?_; rintro e w' ⟨rfl, rfl⟩)
    refine (multiply_any a b _ a0 (by omega) b0 (by omega)).mono ?_
    rintro e w1 ⟨rfl, hb1⟩
    go_wp2
    go_returns
    exact ⟨rfl, bel_trans (bel_alloc hb1) (bel_alloc (Below.refl _ _))⟩

/-- 'Of', whatever it is handed -/
theorem of_any (a b c : Int) (w : World) :
    Calls Try.prog 110 #[.int .i64 a, .int .i64 b, .int .i64 c] w fun e w' => e = .returned (.tuple #[.int .i64 (ofQ a b c), .int .i64 (ofR a b c), .int .i64 (ofE a b c)]) ∧ Below w.heap.size w w' := by
  unfold ofQ ofR
  cases h : (isAm a && isAm b && isAm c) with
  | false =>
    have e : ofE a b c = 2 := by unfold ofE; rw [h]; rfl
    rw [e]; exact of_bad a b c w h
  | true =>
    by_cases hc : c = 0
    · subst hc
      have e : ofE a b 0 = 16 := by unfold ofE; rw [h]; rfl
      rw [e]; exact of_zero a b w h
    · have h' := h
      simp only [Bool.and_eq_true, isAm_iff] at h'
      by_cases hq : a * b / c ≤ 128849018880000
      · have e : ofE a b c = 0 := by unfold ofE; rw [h, if_pos rfl, if_neg hc, if_pos hq]
        rw [e]; exact of_ok a b c _ _ w h (by omega) rfl rfl hq
      · have e : ofE a b c = 15 := by unfold ofE; rw [h, if_pos rfl, if_neg hc, if_neg hq]
        rw [e]; exact of_big a b c _ _ w h (by omega) rfl rfl (by omega)

end Go.Proofs.Ytgjdopjolokaiaa

/- Package proportion: Up. -/
namespace Go.Proofs.Ytgjdopjolokaiaa
open Go.RowKit


theorem up_walk (a b c q r x : Int) (w : World) (q0 : 0 ≤ q) (q1 : q ≤ 128849018880000) (hof : Hid (∀ W, Calls Try.prog 110 #[.int .i64 a, .int .i64 b, .int .i64 c] W fun e w' => e = .returned (.tuple #[.int .i64 q, .int .i64 r, .int .i64 x]) ∧ Below W.heap.size W w')) :
    Calls Try.prog 111 #[.int .i64 a, .int .i64 b, .int .i64 c] w fun e w' => e = .returned (.tuple #[.int .i64 (upQ q r x), .int .i64 (upE q r x)]) ∧ Below w.heap.size w w' := by
  go_enter Try.func111, Try.ntmps111
  go_wp2_with fail
  refine (hof.out _).mono ?_
  rintro e w1 ⟨rfl, hb1⟩
  go_wp2
  all_goals
    go_returns
    refine ⟨ret_two ?_ ?_, hb1⟩
  all_goals (simp only [upQ, upE]; grind)

theorem up_any (a b c : Int) (w : World) :
    Calls Try.prog 111 #[.int .i64 a, .int .i64 b, .int .i64 c] w fun e w' => e = .returned (.tuple #[.int .i64 (upQ (ofQ a b c) (ofR a b c) (ofE a b c)), .int .i64 (upE (ofQ a b c) (ofR a b c) (ofE a b c))]) ∧ Below w.heap.size w w' :=
  up_walk a b c _ _ _ w (ofQ_bd a b c).1 (ofQ_bd a b c).2 (fun W => of_any a b c W)

end Go.Proofs.Ytgjdopjolokaiaa

/- Package profile: distances, the radius on a piece, At. -/
namespace Go.Proofs.Ytgjdopjolokaiaa
open Go.RowKit

theorem cdv_of {n d : Int} (h : 0 < d) : cdv n d = n / d + (if 0 < n % d then 1 else 0) := by
  have h1 := Int.emod_add_mul_ediv n d
  have h2 := Int.emod_lt_of_pos n h
  have h3 := Int.emod_nonneg n (show d ≠ 0 by omega)
  rw [Int.mul_comm] at h1
  apply Int.le_antisymm
  · rw [cl_iff _ _ _ h, Int.add_mul]
    by_cases g : 0 < n % d
    · rw [if_pos g]; omega
    · rw [if_neg g]; omega
  · by_cases g : 0 < n % d
    · rw [if_pos g]
      have : ¬ cdv n d ≤ n / d := fun hh => by
        rw [cl_iff _ _ _ h] at hh
        omega
      omega
    · rw [if_neg g]
      have := (fl_cl n d h).1
      omega
theorem cdv_add (m p d : Int) (h : 0 < d) : cdv (m + p * d) d = cdv m d + p := by
  unfold cdv
  rw [show m + p * d + d - 1 = m + d - 1 + p * d by omega]
  exact Int.add_mul_ediv_right _ _ (by omega)
theorem ln_up {a p b q x : Int} (hab : a < b) : lnL a p b q x = p + (q - p) * (x - a) / (b - a) ∧ lnH a p b q x = p + cdv ((q - p) * (x - a)) (b - a) := by
  unfold lnL lnH lnN
  rw [Int.add_comm (p * (b - a)), Int.add_mul_ediv_right _ _ (by omega), cdv_add _ _ _ (by omega)]
  omega
theorem ln_dn {a p b q x : Int} (hab : a < b) : lnL a p b q x = q + (p - q) * (b - x) / (b - a) ∧ lnH a p b q x = q + cdv ((p - q) * (b - x)) (b - a) := by
  have e : lnN a p b q x = (p - q) * (b - x) + q * (b - a) := by unfold lnN; grind
  unfold lnL lnH
  rw [e, Int.add_mul_ediv_right _ _ (by omega), cdv_add _ _ _ (by omega)]
  omega
theorem prop_facts {a b c : Int} (ha : 0 ≤ a ∧ a ≤ 100000) (hb : 0 ≤ b ∧ b ≤ 100000) (hc : 1 ≤ c ∧ c ≤ 100000) :
    ofE a b c = 0 ∧ ofQ a b c = a * b / c ∧ upQ (ofQ a b c) (ofR a b c) (ofE a b c) = cdv (a * b) c ∧ upE (ofQ a b c) (ofR a b c) (ofE a b c) = 0 := by
  have m0 : 0 ≤ a * b := Int.mul_nonneg ha.1 hb.1
  have m1 : a * b ≤ 100000 * 100000 := Int.mul_le_mul ha.2 hb.2 hb.1 (by omega)
  have q1 : a * b / c ≤ a * b := Int.ediv_le_self _ m0
  have i : (isAm a && isAm b && isAm c) = true := by
    simp only [isAm, Bool.and_eq_true, decide_eq_true_eq]
    omega
  have e : ofE a b c = 0 := by
    unfold ofE
    rw [if_pos i, if_neg (by omega), if_pos (by omega)]
  have eq : ofQ a b c = a * b / c := by unfold ofQ; rw [if_pos e]
  have er : ofR a b c = a * b % c := by unfold ofR; rw [if_pos e]
  have ue : upE (ofQ a b c) (ofR a b c) (ofE a b c) = 0 := by
    unfold upE
    rw [if_pos e, if_pos]
    rw [eq]
    split <;> omega
  refine ⟨e, eq, ?_, ue⟩
  unfold upQ
  rw [if_pos ue, eq, er, cdv_of (by omega)]

theorem dist_any (a b : Int) (w : World) (a0 : 0 ≤ a) (a1 : a ≤ 100000) (b0 : 0 ≤ b) (b1 : b ≤ 100000) :
    Calls Try.prog 109 #[.int .i64 a, .int .i64 b] w fun e w' => e = .returned (.int .i64 (max (a - b) (b - a))) ∧ w' = w := by
  have w1 : IntKind.i64.wrap (a - b) = a - b := wrap_in _ ⟨by omega, by omega⟩
  have w2 : IntKind.i64.wrap (b - a) = b - a := wrap_in _ ⟨by omega, by omega⟩
  go_enter Try.func109, Try.ntmps109
  go_wp2
  go_ret
  exact ⟨rfl, rfl⟩

set_option maxRecDepth 100000 in
set_option maxHeartbeats 16000000 in
theorem at_up (a p b q x Q V : Int) (w : World) (a0 : 0 ≤ a) (ab : a < b) (b1 : b ≤ 100000) (p0 : 0 ≤ p) (p1 : p ≤ 100000) (q0 : 0 ≤ q) (pq : p ≤ q) (q1 : q ≤ 100000) (hQ0 : 0 ≤ Q) (hQ : Q ≤ 100000) (hV0 : 0 ≤ V) (hV : V ≤ 100000)
    (x0 : a ≤ x) (x1 : x ≤ b) (m1 : max (a - x) (x - a) = (x - a)) (m2 : max (a - b) (b - a) = b - a)
    (HD : Hid (∀ u v W, (0 ≤ u ∧ u ≤ 100000 ∧ 0 ≤ v ∧ v ≤ 100000) → Calls Try.prog 109 #[.int .i64 u, .int .i64 v] W fun e w' => e = .returned (.int .i64 (max (u - v) (v - u))) ∧ w' = W))
    (H3 : Hid (∀ W, Calls Try.prog 110 #[.int .i64 (q - p), .int .i64 (x - a), .int .i64 (b - a)] W fun e w' => ∃ R, e = .returned (.tuple #[.int .i64 Q, .int .i64 R, .int .i64 0]) ∧ Below W.heap.size W w'))
    (H4 : Hid (∀ W, Calls Try.prog 111 #[.int .i64 (q - p), .int .i64 (x - a), .int .i64 (b - a)] W fun e w' => e = .returned (.tuple #[.int .i64 V, .int .i64 0]) ∧ Below W.heap.size W w')) :
    Calls Try.prog 105 #[.agg #[.int .i64 a, .int .i64 p, .int .i64 b, .int .i64 q], .int .i64 x] w fun e w' => e = .returned (.agg #[.int .i64 (p + Q), .int .i64 (p + V)]) ∧ Below w.heap.size w w' := by
  have w1 : IntKind.i64.wrap (q - p) = (q - p) := wrap_in _ ⟨by omega, by omega⟩
  have w2 : IntKind.i64.wrap (p + Q) = p + Q := wrap_in _ ⟨by omega, by omega⟩
  have w3 : IntKind.i64.wrap (p + V) = p + V := wrap_in _ ⟨by omega, by omega⟩
  go_enter Try.func105, Try.ntmps105
  go_wp2_with fail
  go_region
  · have TR : Hid (Two (w.heap.size + 1) ((((w.alloc (.cells #[.int .i64 a, .int .i64 p, .int .i64 b, .int .i64 q] 118)).alloc (.cells #[.int .i64 0, .int .i64 0] 40)).alloc (.cells #[.int .i64 a, .int .i64 p] 33)).alloc (.cells #[.int .i64 b, .int .i64 q] 33)) (.int .i64 0) (.int .i64 0)) := by
      have := ((Two.new (w.alloc (.cells #[.int .i64 a, .int .i64 p, .int .i64 b, .int .i64 q] 118)) (.int .i64 0) (.int .i64 0) 40).alloc (.cells #[.int .i64 a, .int .i64 p] 33)).alloc (.cells #[.int .i64 b, .int .i64 q] 33)
      rwa [World.size_alloc] at this
    have T1 : Hid (Two (w.heap.size + 1 + 1) ((((w.alloc (.cells #[.int .i64 a, .int .i64 p, .int .i64 b, .int .i64 q] 118)).alloc (.cells #[.int .i64 0, .int .i64 0] 40)).alloc (.cells #[.int .i64 a, .int .i64 p] 33)).alloc (.cells #[.int .i64 b, .int .i64 q] 33)) (.int .i64 a) (.int .i64 p)) := by
      have := (Two.new ((w.alloc (.cells #[.int .i64 a, .int .i64 p, .int .i64 b, .int .i64 q] 118)).alloc (.cells #[.int .i64 0, .int .i64 0] 40)) (.int .i64 a) (.int .i64 p) 33).alloc (.cells #[.int .i64 b, .int .i64 q] 33)
      rwa [World.size_alloc, World.size_alloc] at this
    have T2 : Hid (Two (w.heap.size + 1 + 1 + 1) ((((w.alloc (.cells #[.int .i64 a, .int .i64 p, .int .i64 b, .int .i64 q] 118)).alloc (.cells #[.int .i64 0, .int .i64 0] 40)).alloc (.cells #[.int .i64 a, .int .i64 p] 33)).alloc (.cells #[.int .i64 b, .int .i64 q] 33)) (.int .i64 b) (.int .i64 q)) := by
      have := Two.new (((w.alloc (.cells #[.int .i64 a, .int .i64 p, .int .i64 b, .int .i64 q] 118)).alloc (.cells #[.int .i64 0, .int .i64 0] 40)).alloc (.cells #[.int .i64 a, .int .i64 p] 33)) (.int .i64 b) (.int .i64 q) 33
      rwa [World.size_alloc, World.size_alloc, World.size_alloc] at this
    have HB : Hid (Below w.heap.size w ((((w.alloc (.cells #[.int .i64 a, .int .i64 p, .int .i64 b, .int .i64 q] 118)).alloc (.cells #[.int .i64 0, .int .i64 0] 40)).alloc (.cells #[.int .i64 a, .int .i64 p] 33)).alloc (.cells #[.int .i64 b, .int .i64 q] 33))) := bel_alloc (bel_alloc (bel_alloc (bel_alloc (Below.refl _ _))))
    replace TR := Lib.hid (TR.out.below (bel_drew _))
    replace T1 := Lib.hid (T1.out.below (bel_drew _))
    replace T2 := Lib.hid (T2.out.below (bel_drew _))
    replace HB := Lib.hid (bel_trans HB.out (bel_drew _))
    generalize ((((w.alloc (.cells #[.int .i64 a, .int .i64 p, .int .i64 b, .int .i64 q] 118)).alloc (.cells #[.int .i64 0, .int .i64 0] 40)).alloc (.cells #[.int .i64 a, .int .i64 p] 33)).alloc (.cells #[.int .i64 b, .int .i64 q] 33)).drew = wa at *
    obtain ⟨t0, t1, t2, t3, t4⟩ := T1.out
    obtain ⟨s0, s1, s2, s3, s4⟩ := T2.out
    go_wp2_with fail
    go_quiet ((go_at_call 109; refine Calls.quiet_of_same (HD.out _ _ _ ⟨by omega, by omega, by omega, by omega⟩)))
    replace TR := Lib.hid (TR.out.below (bel_drewN _ nq))
    replace T1 := Lib.hid (T1.out.below (bel_drewN _ nq))
    replace HB := Lib.hid (bel_trans HB.out (bel_drewN _ nq))
    generalize wa.drewN nq = wb at *
    clear t0 t1 t2 t3 t4 s0 s1 s2 s3 s4
    go_wp2_with fail
    refine (H3.out _).mono ?_
    rintro e w4 ⟨R, rfl, h1⟩
    replace TR := Lib.hid (TR.out.below h1)
    replace T1 := Lib.hid (T1.out.below h1)
    replace HB := Lib.hid (bel_trans HB.out h1); clear h1
    go_wp2_with fail
    refine (H4.out _).mono ?_
    rintro e w5 ⟨rfl, h1⟩
    replace TR := Lib.hid (TR.out.below h1)
    replace T1 := Lib.hid (T1.out.below h1)
    replace HB := Lib.hid (bel_trans HB.out h1); clear h1
    obtain ⟨t0, t1, _, _, _⟩ := T1.out
    obtain ⟨r0, r1, r2, r3, _⟩ := TR.out
    go_wp2
    obtain ⟨z0, z1⟩ := two_read w5 (w.heap.size + 1) (.int .i64 (p + Q)) (.int .i64 (p + V)) r0 r1
    refine bodyPost_ret (v := .agg #[.int .i64 (p + Q), .int .i64 (p + V)]) (by simp [results, Try.results105, go_sem, z0, z1]) rfl ?_
    exact ⟨rfl, (HB.out.setCell (p := ⟨w.heap.size + 1, 0, none⟩) (Nat.le_succ _) _).setCell (p := ⟨w.heap.size + 1, 1, none⟩) (Nat.le_succ _) _⟩
  · have TR : Hid (Two (w.heap.size + 1) ((((w.alloc (.cells #[.int .i64 a, .int .i64 p, .int .i64 b, .int .i64 q] 118)).alloc (.cells #[.int .i64 0, .int .i64 0] 40)).alloc (.cells #[.int .i64 b, .int .i64 q] 33)).alloc (.cells #[.int .i64 a, .int .i64 p] 33)) (.int .i64 0) (.int .i64 0)) := by
      have := ((Two.new (w.alloc (.cells #[.int .i64 a, .int .i64 p, .int .i64 b, .int .i64 q] 118)) (.int .i64 0) (.int .i64 0) 40).alloc (.cells #[.int .i64 b, .int .i64 q] 33)).alloc (.cells #[.int .i64 a, .int .i64 p] 33)
      rwa [World.size_alloc] at this
    have T1 : Hid (Two (w.heap.size + 1 + 1) ((((w.alloc (.cells #[.int .i64 a, .int .i64 p, .int .i64 b, .int .i64 q] 118)).alloc (.cells #[.int .i64 0, .int .i64 0] 40)).alloc (.cells #[.int .i64 b, .int .i64 q] 33)).alloc (.cells #[.int .i64 a, .int .i64 p] 33)) (.int .i64 b) (.int .i64 q)) := by
      have := (Two.new ((w.alloc (.cells #[.int .i64 a, .int .i64 p, .int .i64 b, .int .i64 q] 118)).alloc (.cells #[.int .i64 0, .int .i64 0] 40)) (.int .i64 b) (.int .i64 q) 33).alloc (.cells #[.int .i64 a, .int .i64 p] 33)
      rwa [World.size_alloc, World.size_alloc] at this
    have T2 : Hid (Two (w.heap.size + 1 + 1 + 1) ((((w.alloc (.cells #[.int .i64 a, .int .i64 p, .int .i64 b, .int .i64 q] 118)).alloc (.cells #[.int .i64 0, .int .i64 0] 40)).alloc (.cells #[.int .i64 b, .int .i64 q] 33)).alloc (.cells #[.int .i64 a, .int .i64 p] 33)) (.int .i64 a) (.int .i64 p)) := by
      have := Two.new (((w.alloc (.cells #[.int .i64 a, .int .i64 p, .int .i64 b, .int .i64 q] 118)).alloc (.cells #[.int .i64 0, .int .i64 0] 40)).alloc (.cells #[.int .i64 b, .int .i64 q] 33)) (.int .i64 a) (.int .i64 p) 33
      rwa [World.size_alloc, World.size_alloc, World.size_alloc] at this
    have HB : Hid (Below w.heap.size w ((((w.alloc (.cells #[.int .i64 a, .int .i64 p, .int .i64 b, .int .i64 q] 118)).alloc (.cells #[.int .i64 0, .int .i64 0] 40)).alloc (.cells #[.int .i64 b, .int .i64 q] 33)).alloc (.cells #[.int .i64 a, .int .i64 p] 33))) := bel_alloc (bel_alloc (bel_alloc (bel_alloc (Below.refl _ _))))
    replace TR := Lib.hid (TR.out.below (bel_drew _))
    replace T1 := Lib.hid (T1.out.below (bel_drew _))
    replace T2 := Lib.hid (T2.out.below (bel_drew _))
    replace HB := Lib.hid (bel_trans HB.out (bel_drew _))
    generalize ((((w.alloc (.cells #[.int .i64 a, .int .i64 p, .int .i64 b, .int .i64 q] 118)).alloc (.cells #[.int .i64 0, .int .i64 0] 40)).alloc (.cells #[.int .i64 b, .int .i64 q] 33)).alloc (.cells #[.int .i64 a, .int .i64 p] 33)).drew = wa at *
    obtain ⟨t0, t1, t2, t3, t4⟩ := T1.out
    obtain ⟨s0, s1, s2, s3, s4⟩ := T2.out
    go_wp2_with fail
    go_quiet ((go_at_call 109; refine Calls.quiet_of_same (HD.out _ _ _ ⟨by omega, by omega, by omega, by omega⟩)))
    replace TR := Lib.hid (TR.out.below (bel_drewN _ nq))
    replace T2 := Lib.hid (T2.out.below (bel_drewN _ nq))
    replace HB := Lib.hid (bel_trans HB.out (bel_drewN _ nq))
    generalize wa.drewN nq = wb at *
    clear t0 t1 t2 t3 t4 s0 s1 s2 s3 s4
    go_wp2_with fail
    refine (H3.out _).mono ?_
    rintro e w4 ⟨R, rfl, h1⟩
    replace TR := Lib.hid (TR.out.below h1)
    replace T2 := Lib.hid (T2.out.below h1)
    replace HB := Lib.hid (bel_trans HB.out h1); clear h1
    go_wp2_with fail
    refine (H4.out _).mono ?_
    rintro e w5 ⟨rfl, h1⟩
    replace TR := Lib.hid (TR.out.below h1)
    replace T2 := Lib.hid (T2.out.below h1)
    replace HB := Lib.hid (bel_trans HB.out h1); clear h1
    obtain ⟨t0, t1, _, _, _⟩ := T2.out
    obtain ⟨r0, r1, r2, r3, _⟩ := TR.out
    go_wp2
    obtain ⟨z0, z1⟩ := two_read w5 (w.heap.size + 1) (.int .i64 (p + Q)) (.int .i64 (p + V)) r0 r1
    refine bodyPost_ret (v := .agg #[.int .i64 (p + Q), .int .i64 (p + V)]) (by simp [results, Try.results105, go_sem, z0, z1]) rfl ?_
    exact ⟨rfl, (HB.out.setCell (p := ⟨w.heap.size + 1, 0, none⟩) (Nat.le_succ _) _).setCell (p := ⟨w.heap.size + 1, 1, none⟩) (Nat.le_succ _) _⟩
set_option maxRecDepth 100000 in
set_option maxHeartbeats 16000000 in
theorem at_dn (a p b q x Q V : Int) (w : World) (a0 : 0 ≤ a) (ab : a < b) (b1 : b ≤ 100000) (p0 : 0 ≤ p) (p1 : p ≤ 100000) (q0 : 0 ≤ q) (pq : q < p) (q1 : q ≤ 100000) (hQ0 : 0 ≤ Q) (hQ : Q ≤ 100000) (hV0 : 0 ≤ V) (hV : V ≤ 100000)
    (x0 : a ≤ x) (x1 : x ≤ b) (m1 : max (b - x) (x - b) = (b - x)) (m2 : max (b - a) (a - b) = b - a)
    (HD : Hid (∀ u v W, (0 ≤ u ∧ u ≤ 100000 ∧ 0 ≤ v ∧ v ≤ 100000) → Calls Try.prog 109 #[.int .i64 u, .int .i64 v] W fun e w' => e = .returned (.int .i64 (max (u - v) (v - u))) ∧ w' = W))
    (H3 : Hid (∀ W, Calls Try.prog 110 #[.int .i64 (p - q), .int .i64 (b - x), .int .i64 (b - a)] W fun e w' => ∃ R, e = .returned (.tuple #[.int .i64 Q, .int .i64 R, .int .i64 0]) ∧ Below W.heap.size W w'))
    (H4 : Hid (∀ W, Calls Try.prog 111 #[.int .i64 (p - q), .int .i64 (b - x), .int .i64 (b - a)] W fun e w' => e = .returned (.tuple #[.int .i64 V, .int .i64 0]) ∧ Below W.heap.size W w')) :
    Calls Try.prog 105 #[.agg #[.int .i64 a, .int .i64 p, .int .i64 b, .int .i64 q], .int .i64 x] w fun e w' => e = .returned (.agg #[.int .i64 (q + Q), .int .i64 (q + V)]) ∧ Below w.heap.size w w' := by
  have w1 : IntKind.i64.wrap (p - q) = (p - q) := wrap_in _ ⟨by omega, by omega⟩
  have w2 : IntKind.i64.wrap (q + Q) = q + Q := wrap_in _ ⟨by omega, by omega⟩
  have w3 : IntKind.i64.wrap (q + V) = q + V := wrap_in _ ⟨by omega, by omega⟩
  go_enter Try.func105, Try.ntmps105
  go_wp2_with fail
  go_region
  · have TR : Hid (Two (w.heap.size + 1) ((((w.alloc (.cells #[.int .i64 a, .int .i64 p, .int .i64 b, .int .i64 q] 118)).alloc (.cells #[.int .i64 0, .int .i64 0] 40)).alloc (.cells #[.int .i64 a, .int .i64 p] 33)).alloc (.cells #[.int .i64 b, .int .i64 q] 33)) (.int .i64 0) (.int .i64 0)) := by
      have := ((Two.new (w.alloc (.cells #[.int .i64 a, .int .i64 p, .int .i64 b, .int .i64 q] 118)) (.int .i64 0) (.int .i64 0) 40).alloc (.cells #[.int .i64 a, .int .i64 p] 33)).alloc (.cells #[.int .i64 b, .int .i64 q] 33)
      rwa [World.size_alloc] at this
    have T1 : Hid (Two (w.heap.size + 1 + 1) ((((w.alloc (.cells #[.int .i64 a, .int .i64 p, .int .i64 b, .int .i64 q] 118)).alloc (.cells #[.int .i64 0, .int .i64 0] 40)).alloc (.cells #[.int .i64 a, .int .i64 p] 33)).alloc (.cells #[.int .i64 b, .int .i64 q] 33)) (.int .i64 a) (.int .i64 p)) := by
      have := (Two.new ((w.alloc (.cells #[.int .i64 a, .int .i64 p, .int .i64 b, .int .i64 q] 118)).alloc (.cells #[.int .i64 0, .int .i64 0] 40)) (.int .i64 a) (.int .i64 p) 33).alloc (.cells #[.int .i64 b, .int .i64 q] 33)
      rwa [World.size_alloc, World.size_alloc] at this
    have T2 : Hid (Two (w.heap.size + 1 + 1 + 1) ((((w.alloc (.cells #[.int .i64 a, .int .i64 p, .int .i64 b, .int .i64 q] 118)).alloc (.cells #[.int .i64 0, .int .i64 0] 40)).alloc (.cells #[.int .i64 a, .int .i64 p] 33)).alloc (.cells #[.int .i64 b, .int .i64 q] 33)) (.int .i64 b) (.int .i64 q)) := by
      have := Two.new (((w.alloc (.cells #[.int .i64 a, .int .i64 p, .int .i64 b, .int .i64 q] 118)).alloc (.cells #[.int .i64 0, .int .i64 0] 40)).alloc (.cells #[.int .i64 a, .int .i64 p] 33)) (.int .i64 b) (.int .i64 q) 33
      rwa [World.size_alloc, World.size_alloc, World.size_alloc] at this
    have HB : Hid (Below w.heap.size w ((((w.alloc (.cells #[.int .i64 a, .int .i64 p, .int .i64 b, .int .i64 q] 118)).alloc (.cells #[.int .i64 0, .int .i64 0] 40)).alloc (.cells #[.int .i64 a, .int .i64 p] 33)).alloc (.cells #[.int .i64 b, .int .i64 q] 33))) := bel_alloc (bel_alloc (bel_alloc (bel_alloc (Below.refl _ _))))
    replace TR := Lib.hid (TR.out.below (bel_drew _))
    replace T1 := Lib.hid (T1.out.below (bel_drew _))
    replace T2 := Lib.hid (T2.out.below (bel_drew _))
    replace HB := Lib.hid (bel_trans HB.out (bel_drew _))
    generalize ((((w.alloc (.cells #[.int .i64 a, .int .i64 p, .int .i64 b, .int .i64 q] 118)).alloc (.cells #[.int .i64 0, .int .i64 0] 40)).alloc (.cells #[.int .i64 a, .int .i64 p] 33)).alloc (.cells #[.int .i64 b, .int .i64 q] 33)).drew = wa at *
    obtain ⟨t0, t1, t2, t3, t4⟩ := T1.out
    obtain ⟨s0, s1, s2, s3, s4⟩ := T2.out
    go_wp2_with fail
    replace TR := Lib.hid ((((TR.out.apart (w.heap.size + 1 + 1) 0 (.int .i64 b) (by omega)).apart (w.heap.size + 1 + 1) 1 (.int .i64 q) (by omega)).apart (w.heap.size + 1 + 1 + 1) 0 (.int .i64 a) (by omega)).apart (w.heap.size + 1 + 1 + 1) 1 (.int .i64 p) (by omega))
    replace T1 := Lib.hid ((T1.out.both (.int .i64 b) (.int .i64 q)).apart (w.heap.size + 1 + 1 + 1) 0 (.int .i64 a) (by omega) |>.apart (w.heap.size + 1 + 1 + 1) 1 (.int .i64 p) (by omega))
    replace T2 := Lib.hid (((T2.out.apart (w.heap.size + 1 + 1) 0 (.int .i64 b) (by omega)).apart (w.heap.size + 1 + 1) 1 (.int .i64 q) (by omega)).both (.int .i64 a) (.int .i64 p))
    replace HB := Lib.hid ((((HB.out.setCell (p := ⟨w.heap.size + 1 + 1, 0, none⟩) (by show w.heap.size ≤ w.heap.size + 1 + 1; omega) (.int .i64 b)).setCell (p := ⟨w.heap.size + 1 + 1, 1, none⟩) (by show w.heap.size ≤ w.heap.size + 1 + 1; omega) (.int .i64 q)).setCell (p := ⟨w.heap.size + 1 + 1 + 1, 0, none⟩) (by show w.heap.size ≤ w.heap.size + 1 + 1 + 1; omega) (.int .i64 a)).setCell (p := ⟨w.heap.size + 1 + 1 + 1, 1, none⟩) (by show w.heap.size ≤ w.heap.size + 1 + 1 + 1; omega) (.int .i64 p))
    clear t0 t1 t2 t3 t4 s0 s1 s2 s3 s4
    generalize ((((wa.setCell ⟨w.heap.size + 1 + 1, 0, none⟩ (.int .i64 b)).setCell ⟨w.heap.size + 1 + 1, 1, none⟩ (.int .i64 q)).setCell ⟨w.heap.size + 1 + 1 + 1, 0, none⟩ (.int .i64 a)).setCell ⟨w.heap.size + 1 + 1 + 1, 1, none⟩ (.int .i64 p)) = wc at *
    obtain ⟨t0, t1, t2, t3, t4⟩ := T1.out
    obtain ⟨s0, s1, s2, s3, s4⟩ := T2.out
    go_quiet ((go_at_call 109; refine Calls.quiet_of_same (HD.out _ _ _ ⟨by omega, by omega, by omega, by omega⟩)))
    replace TR := Lib.hid (TR.out.below (bel_drewN _ nq))
    replace T1 := Lib.hid (T1.out.below (bel_drewN _ nq))
    replace HB := Lib.hid (bel_trans HB.out (bel_drewN _ nq))
    generalize wc.drewN nq = wb at *
    clear t0 t1 t2 t3 t4 s0 s1 s2 s3 s4
    go_wp2_with fail
    refine (H3.out _).mono ?_
    rintro e w4 ⟨R, rfl, h1⟩
    replace TR := Lib.hid (TR.out.below h1)
    replace T1 := Lib.hid (T1.out.below h1)
    replace HB := Lib.hid (bel_trans HB.out h1); clear h1
    go_wp2_with fail
    refine (H4.out _).mono ?_
    rintro e w5 ⟨rfl, h1⟩
    replace TR := Lib.hid (TR.out.below h1)
    replace T1 := Lib.hid (T1.out.below h1)
    replace HB := Lib.hid (bel_trans HB.out h1); clear h1
    obtain ⟨t0, t1, _, _, _⟩ := T1.out
    obtain ⟨r0, r1, r2, r3, _⟩ := TR.out
    go_wp2
    obtain ⟨z0, z1⟩ := two_read w5 (w.heap.size + 1) (.int .i64 (q + Q)) (.int .i64 (q + V)) r0 r1
    refine bodyPost_ret (v := .agg #[.int .i64 (q + Q), .int .i64 (q + V)]) (by simp [results, Try.results105, go_sem, z0, z1]) rfl ?_
    exact ⟨rfl, (HB.out.setCell (p := ⟨w.heap.size + 1, 0, none⟩) (Nat.le_succ _) _).setCell (p := ⟨w.heap.size + 1, 1, none⟩) (Nat.le_succ _) _⟩
  · have TR : Hid (Two (w.heap.size + 1) ((((w.alloc (.cells #[.int .i64 a, .int .i64 p, .int .i64 b, .int .i64 q] 118)).alloc (.cells #[.int .i64 0, .int .i64 0] 40)).alloc (.cells #[.int .i64 b, .int .i64 q] 33)).alloc (.cells #[.int .i64 a, .int .i64 p] 33)) (.int .i64 0) (.int .i64 0)) := by
      have := ((Two.new (w.alloc (.cells #[.int .i64 a, .int .i64 p, .int .i64 b, .int .i64 q] 118)) (.int .i64 0) (.int .i64 0) 40).alloc (.cells #[.int .i64 b, .int .i64 q] 33)).alloc (.cells #[.int .i64 a, .int .i64 p] 33)
      rwa [World.size_alloc] at this
    have T1 : Hid (Two (w.heap.size + 1 + 1) ((((w.alloc (.cells #[.int .i64 a, .int .i64 p, .int .i64 b, .int .i64 q] 118)).alloc (.cells #[.int .i64 0, .int .i64 0] 40)).alloc (.cells #[.int .i64 b, .int .i64 q] 33)).alloc (.cells #[.int .i64 a, .int .i64 p] 33)) (.int .i64 b) (.int .i64 q)) := by
      have := (Two.new ((w.alloc (.cells #[.int .i64 a, .int .i64 p, .int .i64 b, .int .i64 q] 118)).alloc (.cells #[.int .i64 0, .int .i64 0] 40)) (.int .i64 b) (.int .i64 q) 33).alloc (.cells #[.int .i64 a, .int .i64 p] 33)
      rwa [World.size_alloc, World.size_alloc] at this
    have T2 : Hid (Two (w.heap.size + 1 + 1 + 1) ((((w.alloc (.cells #[.int .i64 a, .int .i64 p, .int .i64 b, .int .i64 q] 118)).alloc (.cells #[.int .i64 0, .int .i64 0] 40)).alloc (.cells #[.int .i64 b, .int .i64 q] 33)).alloc (.cells #[.int .i64 a, .int .i64 p] 33)) (.int .i64 a) (.int .i64 p)) := by
      have := Two.new (((w.alloc (.cells #[.int .i64 a, .int .i64 p, .int .i64 b, .int .i64 q] 118)).alloc (.cells #[.int .i64 0, .int .i64 0] 40)).alloc (.cells #[.int .i64 b, .int .i64 q] 33)) (.int .i64 a) (.int .i64 p) 33
      rwa [World.size_alloc, World.size_alloc, World.size_alloc] at this
    have HB : Hid (Below w.heap.size w ((((w.alloc (.cells #[.int .i64 a, .int .i64 p, .int .i64 b, .int .i64 q] 118)).alloc (.cells #[.int .i64 0, .int .i64 0] 40)).alloc (.cells #[.int .i64 b, .int .i64 q] 33)).alloc (.cells #[.int .i64 a, .int .i64 p] 33))) := bel_alloc (bel_alloc (bel_alloc (bel_alloc (Below.refl _ _))))
    replace TR := Lib.hid (TR.out.below (bel_drew _))
    replace T1 := Lib.hid (T1.out.below (bel_drew _))
    replace T2 := Lib.hid (T2.out.below (bel_drew _))
    replace HB := Lib.hid (bel_trans HB.out (bel_drew _))
    generalize ((((w.alloc (.cells #[.int .i64 a, .int .i64 p, .int .i64 b, .int .i64 q] 118)).alloc (.cells #[.int .i64 0, .int .i64 0] 40)).alloc (.cells #[.int .i64 b, .int .i64 q] 33)).alloc (.cells #[.int .i64 a, .int .i64 p] 33)).drew = wa at *
    obtain ⟨t0, t1, t2, t3, t4⟩ := T1.out
    obtain ⟨s0, s1, s2, s3, s4⟩ := T2.out
    go_wp2_with fail
    replace TR := Lib.hid ((((TR.out.apart (w.heap.size + 1 + 1 + 1) 0 (.int .i64 b) (by omega)).apart (w.heap.size + 1 + 1 + 1) 1 (.int .i64 q) (by omega)).apart (w.heap.size + 1 + 1) 0 (.int .i64 a) (by omega)).apart (w.heap.size + 1 + 1) 1 (.int .i64 p) (by omega))
    replace T2 := Lib.hid ((T2.out.both (.int .i64 b) (.int .i64 q)).apart (w.heap.size + 1 + 1) 0 (.int .i64 a) (by omega) |>.apart (w.heap.size + 1 + 1) 1 (.int .i64 p) (by omega))
    replace T1 := Lib.hid (((T1.out.apart (w.heap.size + 1 + 1 + 1) 0 (.int .i64 b) (by omega)).apart (w.heap.size + 1 + 1 + 1) 1 (.int .i64 q) (by omega)).both (.int .i64 a) (.int .i64 p))
    replace HB := Lib.hid ((((HB.out.setCell (p := ⟨w.heap.size + 1 + 1 + 1, 0, none⟩) (by show w.heap.size ≤ w.heap.size + 1 + 1 + 1; omega) (.int .i64 b)).setCell (p := ⟨w.heap.size + 1 + 1 + 1, 1, none⟩) (by show w.heap.size ≤ w.heap.size + 1 + 1 + 1; omega) (.int .i64 q)).setCell (p := ⟨w.heap.size + 1 + 1, 0, none⟩) (by show w.heap.size ≤ w.heap.size + 1 + 1; omega) (.int .i64 a)).setCell (p := ⟨w.heap.size + 1 + 1, 1, none⟩) (by show w.heap.size ≤ w.heap.size + 1 + 1; omega) (.int .i64 p))
    clear t0 t1 t2 t3 t4 s0 s1 s2 s3 s4
    generalize ((((wa.setCell ⟨w.heap.size + 1 + 1 + 1, 0, none⟩ (.int .i64 b)).setCell ⟨w.heap.size + 1 + 1 + 1, 1, none⟩ (.int .i64 q)).setCell ⟨w.heap.size + 1 + 1, 0, none⟩ (.int .i64 a)).setCell ⟨w.heap.size + 1 + 1, 1, none⟩ (.int .i64 p)) = wc at *
    obtain ⟨t0, t1, t2, t3, t4⟩ := T1.out
    obtain ⟨s0, s1, s2, s3, s4⟩ := T2.out
    go_quiet ((go_at_call 109; refine Calls.quiet_of_same (HD.out _ _ _ ⟨by omega, by omega, by omega, by omega⟩)))
    replace TR := Lib.hid (TR.out.below (bel_drewN _ nq))
    replace T2 := Lib.hid (T2.out.below (bel_drewN _ nq))
    replace HB := Lib.hid (bel_trans HB.out (bel_drewN _ nq))
    generalize wc.drewN nq = wb at *
    clear t0 t1 t2 t3 t4 s0 s1 s2 s3 s4
    go_wp2_with fail
    refine (H3.out _).mono ?_
    rintro e w4 ⟨R, rfl, h1⟩
    replace TR := Lib.hid (TR.out.below h1)
    replace T2 := Lib.hid (T2.out.below h1)
    replace HB := Lib.hid (bel_trans HB.out h1); clear h1
    go_wp2_with fail
    refine (H4.out _).mono ?_
    rintro e w5 ⟨rfl, h1⟩
    replace TR := Lib.hid (TR.out.below h1)
    replace T2 := Lib.hid (T2.out.below h1)
    replace HB := Lib.hid (bel_trans HB.out h1); clear h1
    obtain ⟨t0, t1, _, _, _⟩ := T2.out
    obtain ⟨r0, r1, r2, r3, _⟩ := TR.out
    go_wp2
    obtain ⟨z0, z1⟩ := two_read w5 (w.heap.size + 1) (.int .i64 (q + Q)) (.int .i64 (q + V)) r0 r1
    refine bodyPost_ret (v := .agg #[.int .i64 (q + Q), .int .i64 (q + V)]) (by simp [results, Try.results105, go_sem, z0, z1]) rfl ?_
    exact ⟨rfl, (HB.out.setCell (p := ⟨w.heap.size + 1, 0, none⟩) (Nat.le_succ _) _).setCell (p := ⟨w.heap.size + 1, 1, none⟩) (Nat.le_succ _) _⟩
theorem at_any (a p b q x : Int) (w : World) (a0 : 0 ≤ a) (ab : a < b) (b1 : b ≤ 100000) (p0 : 0 ≤ p) (p1 : p ≤ 100000) (q0 : 0 ≤ q) (q1 : q ≤ 100000) (x0 : a ≤ x) (x1 : x ≤ b) :
    Calls Try.prog 105 #[.agg #[.int .i64 a, .int .i64 p, .int .i64 b, .int .i64 q], .int .i64 x] w fun e w' => e = .returned (.agg #[.int .i64 (lnL a p b q x), .int .i64 (lnH a p b q x)]) ∧ Below w.heap.size w w' := by
  have hd : 1 ≤ b - a ∧ b - a ≤ 100000 := by omega
  by_cases h : p ≤ q
  · obtain ⟨f1, f2, f3, f4⟩ := prop_facts (a := q - p) (b := x - a) (c := b - a) (by omega) (by omega) hd
    have bt := ln_between (p := p) (q := q) ab x0 x1
    have e := ln_up (p := p) (q := q) (x := x) ab
    have e1 : lnL a p b q x = lnN a p b q x / (b - a) := rfl
    have e2 : lnH a p b q x = cdv (lnN a p b q x) (b - a) := rfl
    have fc := fl_cl (lnN a p b q x) (b - a) (by omega)
    rw [e.1, e.2]
    refine at_up a p b q x _ _ w a0 ab b1 p0 p1 q0 h q1 (by omega) (by omega) (by omega) (by omega) x0 x1 (by omega) (by omega) (Lib.hid fun u v W h => dist_any u v W h.1 h.2.1 h.2.2.1 h.2.2.2) (fun W => ?_) (fun W => ?_)
    · have := of_any (q - p) (x - a) (b - a) W
      rw [f1, f2] at this
      exact this.mono fun _ _ g => ⟨_, g.1, g.2⟩
    · have := up_any (q - p) (x - a) (b - a) W
      rw [f3, f4] at this
      exact this
  · obtain ⟨f1, f2, f3, f4⟩ := prop_facts (a := p - q) (b := b - x) (c := b - a) (by omega) (by omega) hd
    have bt := ln_between (p := p) (q := q) ab x0 x1
    have e := ln_dn (p := p) (q := q) (x := x) ab
    have e1 : lnL a p b q x = lnN a p b q x / (b - a) := rfl
    have e2 : lnH a p b q x = cdv (lnN a p b q x) (b - a) := rfl
    have fc := fl_cl (lnN a p b q x) (b - a) (by omega)
    rw [e.1, e.2]
    refine at_dn a p b q x _ _ w a0 ab b1 p0 p1 q0 (by omega) q1 (by omega) (by omega) (by omega) (by omega) x0 x1 (by omega) (by omega) (Lib.hid fun u v W h => dist_any u v W h.1 h.2.1 h.2.2.1 h.2.2.2) (fun W => ?_) (fun W => ?_)
    · have := of_any (p - q) (b - x) (b - a) W
      rw [f1, f2] at this
      exact this.mono fun _ _ g => ⟨_, g.1, g.2⟩
    · have := up_any (p - q) (b - x) (b - a) W
      rw [f3, f4] at this
      exact this
end Go.Proofs.Ytgjdopjolokaiaa

/- Package profile: a place on its piece. -/
namespace Go.Proofs.Ytgjdopjolokaiaa
open Go.RowKit

theorem find_of {v : Value} {l : List (Int × Int)} {w : World} (hv : Pts w v l) (h : RP l) (x : Int) (i : Nat) (hi : IsPc l x i) :
    Calls Try.prog 104 #[v, .int .i64 x] w fun e w' => e = .returned (.tuple #[.agg #[.int .i64 (gX l (i - 1)), .int .i64 (gR l (i - 1)), .int .i64 (gX l i), .int .i64 (gR l i)], .int .i64 i]) ∧ Below w.heap.size w w' := by
  have n0 := h.n0
  have n1 := h.n1
  obtain ⟨a, cap, rfl, hl, hh⟩ := hv
  rcases hh with hh | ⟨b, off, rfl, hb, hc⟩
  · omega
  · exact find_some b off l.length cap l x i w n0 (by omega) rfl hb (Lib.hid hc) (Lib.hid hi)
/-- the radius on the piece -/
theorem at_of {l : List (Int × Int)} {x : Int} {i : Nat} (h : RP l) (x0 : 0 ≤ x) (hi : IsPc l x i) (w : World) :
    Calls Try.prog 105 #[.agg #[.int .i64 (gX l (i - 1)), .int .i64 (gR l (i - 1)), .int .i64 (gX l i), .int .i64 (gR l i)], .int .i64 x] w fun e w' => e = .returned (.agg #[.int .i64 (rdL l x), .int .i64 (rdH l x)]) ∧ Below w.heap.size w w' := by
  obtain ⟨h1, h2, ⟨b0, b1, b2⟩, ⟨c0, c1⟩, ⟨d0, d1⟩, g0, g1⟩ := pc_bd h x0 hi
  have e := pc_of hi
  unfold rdL rdH
  rw [e]
  exact at_any _ _ _ _ x w b0 b1 b2 (by omega) c1 (by omega) d1 g0 g1

theorem plE_zero {l : List (Int × Int)} {x : Int} : plE l x = 0 ↔ RP l ∧ 0 ≤ x ∧ x ≤ gX l (l.length - 1) := by
  unfold plE
  by_cases h : ckE l = 0
  · rw [if_pos h]
    have := (ckE_iff l).1 h
    by_cases g : x < 0 ∨ gX l (l.length - 1) < x
    · rw [if_pos g]; exact ⟨fun e => by omega, fun e => by omega⟩
    · rw [if_neg g]; exact ⟨fun _ => ⟨this, by omega, by omega⟩, fun _ => rfl⟩
  · rw [if_neg h]
    exact ⟨fun e => by omega, fun e => absurd ((ckE_iff l).2 e.1) h⟩
end Go.Proofs.Ytgjdopjolokaiaa

/- Package profile: At. -/
namespace Go.Proofs.Ytgjdopjolokaiaa
open Go.RowKit

theorem At_bad (v : Value) (x E : Int) (w : World) (e1 : (E == 0) = false) (e2 : (E != 0) = true)
    (H1 : Hid (∀ W, Below w.heap.size w W → Calls Try.prog 103 #[v, .int .i64 x] W fun e w' => e = .returned (.int .i64 E) ∧ Below W.heap.size W w')) :
    Calls Try.prog 98 #[v, .int .i64 x] w fun e w' => e = .returned (.tuple #[.agg #[.int .i64 0, .int .i64 0], .int .i64 E]) ∧ Below w.heap.size w w' := by
  have T0 := Lib.hid (Two.new w (.int .i64 0) (.int .i64 0) 40)
  go_enter Try.func98, Try.ntmps98
  go_wp2_with fail
  refine (H1.out _ (bel_alloc (Below.refl _ _))).mono ?_
  rintro e w1 ⟨rfl, gg⟩
  replace T0 := Lib.hid (T0.out.below gg)
  have X1 := Lib.hid (bel_alloc gg); clear gg
  obtain ⟨z0, z1, f0, f1, hlt⟩ := T0.out
  go_wp2
  obtain ⟨t0, t1⟩ := two_read w1 w.heap.size (.int .i64 0) (.int .i64 0) z0 z1
  refine bodyPost_ret (v := .tuple #[.agg #[.int .i64 0, .int .i64 0], .int .i64 E]) (by simp [results, Try.results98, go_sem, t0, t1]) rfl ?_
  exact ⟨rfl, (X1.out.setCell (Nat.le_refl _) _).setCell (Nat.le_refl _) _⟩
set_option maxHeartbeats 4000000 in
theorem At_ok (v : Value) (x a p b q i L H : Int) (w : World)
    (H1 : Hid (∀ W, Below w.heap.size w W → Calls Try.prog 103 #[v, .int .i64 x] W fun e w' => e = .returned (.int .i64 0) ∧ Below W.heap.size W w'))
    (H2 : Hid (∀ W, Below w.heap.size w W → Calls Try.prog 104 #[v, .int .i64 x] W fun e w' => e = .returned (.tuple #[.agg #[.int .i64 a, .int .i64 p, .int .i64 b, .int .i64 q], .int .i64 i]) ∧ Below W.heap.size W w'))
    (H3 : Hid (∀ W, Calls Try.prog 105 #[.agg #[.int .i64 a, .int .i64 p, .int .i64 b, .int .i64 q], .int .i64 x] W fun e w' => e = .returned (.agg #[.int .i64 L, .int .i64 H]) ∧ Below W.heap.size W w')) :
    Calls Try.prog 98 #[v, .int .i64 x] w fun e w' => e = .returned (.tuple #[.agg #[.int .i64 L, .int .i64 H], .int .i64 0]) ∧ Below w.heap.size w w' := by
  have T0 := Lib.hid (Two.new w (.int .i64 0) (.int .i64 0) 40)
  go_enter Try.func98, Try.ntmps98
  go_wp2_with fail
  refine (H1.out _ (bel_alloc (Below.refl _ _))).mono ?_
  rintro e w1 ⟨rfl, gg⟩
  replace T0 := Lib.hid (T0.out.below gg)
  have X1 := Lib.hid (bel_alloc gg); clear gg
  go_wp2_with fail
  refine (H2.out _ X1.out).mono ?_
  rintro e w2 ⟨rfl, gg⟩
  replace T0 := Lib.hid (T0.out.below gg)
  replace X1 := Lib.hid (bel_trans X1.out gg); clear gg
  go_wp2_with fail
  refine (H3.out _).mono ?_
  rintro e w3 ⟨rfl, gg⟩
  replace T0 := Lib.hid ((T0.out.alloc _).below gg)
  replace X1 := Lib.hid (bel_trans X1.out (bel_alloc gg)); clear gg
  obtain ⟨z0, z1, f0, f1, hlt⟩ := T0.out
  go_wp2
  obtain ⟨t0, t1⟩ := two_read w3 w.heap.size (.int .i64 L) (.int .i64 H) z0 z1
  refine bodyPost_ret (v := .tuple #[.agg #[.int .i64 L, .int .i64 H], .int .i64 0]) (by simp [results, Try.results98, go_sem, t0, t1]) rfl ?_
  exact ⟨rfl, (X1.out.setCell (Nat.le_refl _) _).setCell (Nat.le_refl _) _⟩
theorem At_any (v : Value) (l : List (Int × Int)) (x : Int) (w : World) (hv : Pts w v l) :
    Calls Try.prog 98 #[v, .int .i64 x] w fun e w' => e = .returned (.tuple #[.agg #[.int .i64 (atL l x), .int .i64 (atH l x)], .int .i64 (plE l x)]) ∧ Below w.heap.size w w' := by
  have HC : Hid (∀ W, Below w.heap.size w W → _) := fun W hW => place_any v l x W (hv.below hW)
  unfold atL atH
  by_cases h : plE l x = 0
  · obtain ⟨hR, x0, x1⟩ := plE_zero.1 h
    have hi := pc_is hR.n0 x1
    rw [if_pos h, if_pos h, h]
    rw [h] at HC
    exact At_ok v x _ _ _ _ _ _ _ w HC (Lib.hid fun W hW => find_of (hv.below hW) hR x _ hi) (Lib.hid fun W => at_of hR x0 hi W)
  · rw [if_neg h, if_neg h]
    exact At_bad v x _ w (by simpa using h) (by simpa using h) HC
end Go.Proofs.Ytgjdopjolokaiaa
