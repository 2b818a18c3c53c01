/- How the arguments of a statement are opened; the listed variables. -/
import Derived.Test.YtdhckbjebccdbabDoorAwakeC
import Derived.ProofKit
import Derived.OpenShut
import Derived.ShutString
import Derived.ChangeOld
import Derived.Lib.SmallJoins
import Derived.Lay
import Derived.MakeChecks
namespace Go.Proofs.YtdhckbjebccdbabDoor
open Go.ChangeShapes Go.WideShapes Go.ChangeAt Go.RowKit Go.Joins

theorem own : ownKnob Tryd.prog.godebug = none := by kernel_rfl
theorem laidOut : laidOutB Tryd.prog = true := by kernel_rfl

theorem wf_bd {n : Int} (h : (Lit.int .i64 n).wf = true) : -9223372036854775808 ≤ n ∧ n ≤ 9223372036854775807 := by
  have := bounds_i64 h
  omega

/-- a date by value -/
theorem open_date {H : Type} {enc : TypeId × Value → H} {w : World} {r : Reach} {b0 base : Nat} {spare : Nat → Bool} {held : Bool} {v : Value} {d : DataW H} {p : List MemPlace}
    (hv : Value.okWide Tryd.prog w r b0 23 v) (h : DataW.Trod enc Tryd.prog w base spare held 23 v d p) :
    ∃ y m z : Int, v = .agg #[.int .i64 y, .int .i64 m, .int .i64 z] ∧ (-9223372036854775808 ≤ y ∧ y ≤ 9223372036854775807) ∧ (-9223372036854775808 ≤ m ∧ m ≤ 9223372036854775807) ∧ (-9223372036854775808 ≤ z ∧ z ≤ 9223372036854775807) := by
  obtain ⟨v0, v1, v2, y0, y1, y2, n, rfl, _, _, h0, h1, h2⟩ := open_agg3 Tryd.underlying23 (by kernel_rfl) (by kernel_rfl) hv h
  obtain ⟨a, ea, _, wa⟩ := DataW.trod_int (k := .i64) Tryd.underlying3 h0
  obtain ⟨b, eb, _, wb⟩ := DataW.trod_int (k := .i64) Tryd.underlying3 h1
  obtain ⟨c, ec, _, wc⟩ := DataW.trod_int (k := .i64) Tryd.underlying3 h2
  simp only [List.cons.injEq, and_true] at ea eb ec
  subst ea eb ec
  exact ⟨a, b, c, rfl, wf_bd wa, wf_bd wb, wf_bd wc⟩

theorem laid_of {W : World} {l : List (String × DataW Unit)} (hp : l = [("math/bits.deBruijn32tab", Rows.laid_math_bits_deBruijn32tab), ("math/bits.deBruijn64tab", Rows.laid_math_bits_deBruijn64tab), ("internal/strconv.uint64pow10", Rows.laid_internal_strconv_uint64pow10), ("spile/calendar.lengths", Rows.laid_spile_calendar_lengths)]) (h : laidMetH Tryd.prog l W) : LaidC W := by
  subst hp
  rw [MakeChecks.laidMetH_plain _ _ _ (by kernel_rfl)] at h
  exact ⟨tab_of h (.tail _ (.tail _ (.head _))) (by kernel_rfl) gPow (by kernel_rfl) (t := 84) Tryd.underlying84 Tryd.underlying71 (by kernel_rfl) (by kernel_rfl),
    tab_of h (.tail _ (.tail _ (.tail _ (.head _)))) (by kernel_rfl) gLens (by kernel_rfl) (t := 48) Tryd.underlying48 Tryd.underlying3 (by kernel_rfl) (by kernel_rfl)⟩
end Go.Proofs.YtdhckbjebccdbabDoor
