/- How the arguments of a statement are opened; the listed variables. -/
import Derived.Test.YtdhckbjebccdbaaDoorUAwake
import Derived.ProofKit
import Derived.OpenShut
import Derived.ShutString
import Derived.ChangeOld
import Derived.Lib.SmallJoins
import Derived.Lay
import Derived.MakeChecks
import Derived.Deep.Slices
import Derived.Deep.Fields
import Derived.ChangeSame
namespace Go.Proofs.YtdhckbjebccdbaaDoor
open Go.ChangeShapes Go.WideShapes Go.ChangeAt Go.RowKit Go.Joins

theorem own : ownKnob Tryd.prog.godebug = none := by kernel_rfl
theorem laidOut : laidOutB Tryd.prog = true := by kernel_rfl

theorem wf_bd {n : Int} (h : (Lit.int .i64 n).wf = true) : -9223372036854775808 ≤ n ∧ n ≤ 9223372036854775807 := by
  have := bounds_i64 h
  omega

set_option maxRecDepth 100000 in
/-- a quantity by value -/
theorem open_qty {H : Type} {enc : TypeId × Value → H} {w : World} {r : Reach} {b0 base : Nat} {spare : Nat → Bool} {held : Bool} {v : Value} {d : DataW H} {p : List MemPlace}
    (hv : Value.okWide Tryd.prog w r b0 23 v) (h : DataW.Trod enc Tryd.prog w base spare held 23 v d p) :
    ∃ k a : Int, v = .agg #[.int .i64 k, .int .i64 a] ∧ (-9223372036854775808 ≤ k ∧ k ≤ 9223372036854775807) ∧ (-9223372036854775808 ≤ a ∧ a ≤ 9223372036854775807) := by
  obtain ⟨v0, v1, y0, y1, n, rfl, _, _, h0, h1⟩ := open_agg2 Tryd.underlying23 (by kernel_rfl) (by kernel_rfl) hv h
  obtain ⟨a, ea, _, wa⟩ := DataW.trod_int (k := .i64) Tryd.underlying3 h0
  obtain ⟨b, eb, _, wb⟩ := DataW.trod_int (k := .i64) Tryd.underlying3 h1
  simp only [List.cons.injEq, and_true] at ea eb
  subst ea eb
  exact ⟨a, b, rfl, wf_bd wa, wf_bd wb⟩

/-- the ranges, as numbers -/
def rngs : List (List Int) := [[0, 0], [0, 1073741824], [0, 10000], [0, 10737418240000], [0, 128849018880000], [-400, 600], [0, 100000], [0, 1125899906842624]]
theorem rngs_eq : (Rows.laid_spile_unit_ranges : DataW Unit) = .agg (rngs.map fun zs => .agg (zs.map fun z => .lit (.int .i64 z))) := by kernel_rfl
theorem rngs_at (i : Nat) (i1 : 1 ≤ i) (i2 : i ≤ 7) : rngs[i]? = some [loK i, hiK i] := by
  have h : i = 1 ∨ i = 2 ∨ i = 3 ∨ i = 4 ∨ i = 5 ∨ i = 6 ∨ i = 7 := by omega
  rcases h with rfl | rfl | rfl | rfl | rfl | rfl | rfl <;> decide
theorem ranges_of {W : World} (h : Lib.VarReads Tryd.prog W "spile/unit.ranges" Rows.laid_spile_unit_ranges) (i : Nat) (i1 : 1 ≤ i) (i2 : i ≤ 7) :
    W.cell? ⟨0, i * 2, none⟩ = some (.int .i64 (loK i)) ∧ W.cell? ⟨0, i * 2 + 1, none⟩ = some (.int .i64 (hiK i)) := by
  obtain ⟨g, t, cs, fuel, p, hg, ht, hv, hr⟩ := h
  obtain rfl := Option.some.inj (gRng.symm.trans hg)
  obtain rfl := Option.some.inj ((show (Tryd.prog.globals[0]?).map (·.type) = some 59 by kernel_rfl).symm.trans ht)
  obtain ⟨fuel', d, q, hd, ht'⟩ := Lib.array_elem Tryd.underlying59 (rngs_eq ▸ hr) i (by omega)
  rw [List.getElem?_map, rngs_at i i1 i2] at hd
  cases hd
  have hc : Tryd.prog.cellsOf 58 = 2 := by kernel_rfl
  rw [hc] at ht'
  have h2 := Lib.ints_of_struct (k := .i64) Tryd.underlying58 (fun j f hj => ⟨?_, (Go.Deep.hone_of (P := Tryd.prog) (by kernel_rfl) j f hj).1, (Go.Deep.hone_of (P := Tryd.prog) (by kernel_rfl) j f hj).2⟩) (by kernel_rfl) ht'
  · have c0 := World.var?_cell gRng hv (i * 2)
    have c1 := World.var?_cell gRng hv (i * 2 + 1)
    have e0 := congrArg (fun l : List Value => l[0]?) h2
    have e1 := congrArg (fun l : List Value => l[1]?) h2
    simp [List.getElem?_drop] at e0 e1
    rw [c0, c1, e0, e1]
    exact ⟨rfl, rfl⟩
  · rcases j with _ | _ | j
    · simp at hj; subst hj; exact Tryd.underlying3
    · simp at hj; subst hj; exact Tryd.underlying3
    · simp at hj

theorem laid_of {W : World} {l : List (String × DataW Unit)} (hp : l = [("math/bits.deBruijn32tab", Rows.laid_math_bits_deBruijn32tab), ("math/bits.deBruijn64tab", Rows.laid_math_bits_deBruijn64tab), ("internal/strconv.uint64pow10", Rows.laid_internal_strconv_uint64pow10), ("unicode/utf8.acceptRanges", Rows.laid_unicode_utf8_acceptRanges), ("spile/unit.ranges", Rows.laid_spile_unit_ranges), ("unicode/utf8.first", Rows.laid_unicode_utf8_first)]) (h : laidMetH Tryd.prog l W) (hS : W.ShapedOpen Tryd.prog) : LaidU W := by
  subst hp
  rw [MakeChecks.laidMetH_plain _ _ _ (by kernel_rfl)] at h
  exact ⟨tab_of h (.tail _ (.tail _ (.head _))) (by kernel_rfl) gPow (by kernel_rfl) (t := 107) Tryd.underlying107 Tryd.underlying99 (by kernel_rfl) (by kernel_rfl),
    ranges_of (Lib.laidMet.reads h (.tail _ (.tail _ (.tail _ (.tail _ (.head _)))))),
    Tryd.laysM145.s1_3 W hS⟩
end Go.Proofs.YtdhckbjebccdbaaDoor
