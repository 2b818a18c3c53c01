/- Package gauge: Report as a whole; the example. -/
import Derived.Test.YtdpkochkpcjioabDoorGJ

namespace Go.Proofs.YtdpkochkpcjioabDoor
open Go.RowKit

/-- what Report returns -/
def rpE (t : List (Int × Int)) (tol d p h s rise : Int) : Int := if rdE t tol p ≠ 0 then rdE t tol p else if rdgE d p h s ≠ 0 then rdgE d p h s else btE (wtL t tol p) (wtH t tol p) h h rise
def rpR (t : List (Int × Int)) (tol d p h s rise : Int) : Rp := if rpE t tol d p h s rise = 0 then ⟨d, p, h, s, btL (wtL t tol p) (wtH t tol p) h h rise, btH (wtL t tol p) (wtH t tol p) h h rise, btL (wtL t tol p) (wtH t tol p) h h rise * s, btH (wtL t tol p) (wtH t tol p) h h rise * s⟩ else ⟨0, 0, 0, 0, 0, 0, 0, 0⟩
theorem gRep_any (v : Value) (t : List (Int × Int)) (tol d p h s rise : Int) (w : World) (hv : TbV w v t tol) (hw : WordsIs w) :
    Calls Tryd.prog 15 #[v, .agg #[.int .i64 d, .int .i64 p, .int .i64 h, .int .i64 s], .int .i64 rise] w fun e w' => e = .returned (.tuple #[.agg #[.int .i64 (rpR t tol d p h s rise).dy, .int .i64 (rpR t tol d p h s rise).dp, .int .i64 (rpR t tol d p h s rise).ht, .int .i64 (rpR t tol d p h s rise).st, .int .i64 (rpR t tol d p h s rise).vl, .int .i64 (rpR t tol d p h s rise).vh, .int .i64 (rpR t tol d p h s rise).al, .int .i64 (rpR t tol d p h s rise).ah], .int .i64 (rpE t tol d p h s rise)]) ∧ Below w.heap.size w w' := by
  have H1 : Hid (∀ W, Below w.heap.size w W → _) := Lib.hid fun W hW => gWet_any v t tol p W (hv.below hW)
  obtain ⟨a, cap, rfl, hp⟩ := hv
  refine gRep_core a _ cap tol d p h s rise (wtL t tol p) (wtH t tol p) (rdE t tol p) (rdgE d p h s) (btL (wtL t tol p) (wtH t tol p) h h rise) (btH (wtL t tol p) (wtH t tol p) h h rise) (btE (wtL t tol p) (wtH t tol p) h h rise) (rpE t tol d p h s rise) _ _ _ _ _ _ _ _ w (Lib.hid fun h0 => ?_) (Lib.hid fun h0 => ?_) ?_ H1 (Lib.hid fun W => gChk_any d p h s W) (Lib.hid fun W hW => thBetween_any _ _ h h rise W (hw.below hW))
  · unfold rpR; rw [if_neg h0]; exact ⟨rfl, rfl, rfl, rfl, rfl, rfl, rfl, rfl⟩
  · unfold rpR; rw [if_pos h0]; exact ⟨rfl, rfl, rfl, rfl, rfl, rfl, rfl, rfl⟩
  · by_cases e1 : rdE t tol p = 0
    · right
      by_cases e2 : rdgE d p h s = 0
      · right
        have eE : rpE t tol d p h s rise = btE (wtL t tol p) (wtH t tol p) h h rise := by unfold rpE; rw [if_neg (by omega), if_neg (by omega)]
        by_cases e3 : btE (wtL t tol p) (wtH t tol p) h h rise = 0
        · right
          obtain ⟨_, _, t1, t2, t3, t4⟩ := bt_zero e3
          obtain ⟨_, q1, q2, q3⟩ := to_zero t1
          obtain ⟨_, r1, r2, r3⟩ := to_zero t2
          have hs := (rdgB_iff.1 (rdgE_zero.1 e2)).2.2.2
          rw [t3, t4]
          have m1 := Int.mul_nonneg q3 hs.1
          have m2 := Int.mul_nonneg r3 hs.1
          have m3 := Int.mul_le_mul (show toQ (wtL t tol p) rise h 1 ≤ 128849018880000 by omega) hs.2 hs.1 (by omega)
          have m4 := Int.mul_le_mul (show toQ (wtH t tol p) rise h 2 ≤ 128849018880000 by omega) hs.2 hs.1 (by omega)
          exact ⟨e1, e2, e3, by rw [eE]; exact e3, ⟨by omega, by omega⟩, by omega, by omega⟩
        · left
          exact ⟨e1, e2, by simpa using e3, eE⟩
      · left
        exact ⟨e1, by simpa using e2, by unfold rpE; rw [if_neg (by omega), if_pos e2]⟩
    · left
      exact ⟨by simpa using e1, by unfold rpE; rw [if_pos e1]⟩
end Go.Proofs.YtdpkochkpcjioabDoor

