/- Texts that the proofs of this seat share, one behind the other: RXO, G2O. -/
import Derived.Test.YtbaiekoedmhhaaaDoorRows
import Derived.Test.YtbaiekoedmhhaaaDoorM2
import Derived.ProofKit
import Derived.OpenShut
import Derived.ShutString
import Derived.ChangeOld
import Derived.Lib.SmallJoins
import Derived.MakeChecks
import Derived.Deep.Slices
import Derived.Deep.Fields
import Derived.ChangeSame
import Derived.Deep.SlicePairs
import Derived.Lib.LaidTab
import Derived.OneCell
import Derived.HandedShaped

set_option linter.unusedVariables false
set_option linter.unusedSimpArgs false

/- How the arguments of the statements about layer 15 are opened; the listed variable. -/
namespace Go.Proofs.YtbaiekoedmhhaaaDoor
open Go.ChangeShapes Go.WideShapes Go.ChangeAt Go.RowKit Go.Joins

theorem own : ownKnob Tryd.prog.godebug = none := by kernel_rfl
theorem laidOut : laidOutB Tryd.prog = true := by kernel_rfl
theorem wf_bd {n : Int} (h : (Lit.int .i64 n).wf = true) : -9223372036854775808 ≤ n ∧ n ≤ 9223372036854775807 := by
  have := bounds_i64 h
  omega
set_option maxRecDepth 100000 in
theorem open_mks_at {H : Type} {enc : TypeId × Value → H} {w : World} {base fuel : Nat} {spare : Nat → Bool} {held : Bool} {v : Value} {y : DataW H × List MemPlace} (hs : ∀ k, spare k = true)
    (hf : DataW.trod enc Tryd.prog w base spare held fuel 39 [v] = some y) :
    ∃ l : List (Int × Int), Pts w v l := by
  rcases Deep.open_slice_pairs Tryd.underlying39 Tryd.underlying48 (by kernel_rfl) rfl rfl (by kernel_rfl) (by kernel_rfl) hf with ⟨hcs, _⟩ | ⟨x, len0, cap0, m, n, V0, V1, D0, D1, P0, P1, hcs, _, hl, hm, hmm, _, hi⟩
  · simp only [List.cons.injEq, and_true] at hcs
    subst hcs
    exact ⟨[], none, 0, rfl, ⟨by simp, by omega⟩, .inl rfl⟩
  · simp only [List.cons.injEq, and_true] at hcs
    subst hcs
    unfold maxLen at hm
    rw [hs] at hmm
    simp only [if_true] at hmm
    subst hmm
    have hint : ∀ i, i < len0 → ∃ q : Int × Int, w.cell? (x.add (i * 2)) = some (.int .i64 q.1) ∧ w.cell? (x.add (i * 2 + 1)) = some (.int .i64 q.2) := by
      intro i hlt
      obtain ⟨h0, h1, h2, h3⟩ := hi i (by omega)
      obtain ⟨a, ea, _, _⟩ := DataW.trod_int (k := .i64) Tryd.underlying3 h2
      obtain ⟨b, eb, _, _⟩ := DataW.trod_int (k := .i64) Tryd.underlying3 h3
      simp only [List.cons.injEq, and_true] at ea eb
      exact ⟨(a, b), by rw [h0, ea], by rw [h1, eb]⟩
    let f : Nat → Int × Int := fun i => if hlt : i < len0 then (hint i hlt).choose else (0, 0)
    have hf2 : ∀ i, i < len0 → w.cell? (x.add (i * 2)) = some (.int .i64 (f i).1) ∧ w.cell? (x.add (i * 2 + 1)) = some (.int .i64 (f i).2) := by
      intro i hlt
      have := (hint i hlt).choose_spec
      simp only [f, dif_pos hlt]
      exact this
    have hlen : ((List.range len0).map f).length = len0 := by simp
    refine ⟨(List.range len0).map f, some x, m, by rw [hlen], by rw [hlen]; omega, ?_⟩
    rw [hlen]
    by_cases h0 : len0 = 0
    · exact .inl h0
    · right
      obtain ⟨b, off, spot⟩ := x
      have hspot : spot = none := by simpa [Addr.add] using World.cell?_spot (hf2 0 (by omega)).1
      subst hspot
      have hb := World.block_lt_of_cell? w _ (hf2 0 (by omega)).1
      refine ⟨b, off, rfl, by simpa [Addr.add] using hb, fun j hj => ?_⟩
      obtain ⟨g0, g1⟩ := hf2 j hj
      rw [Go.WideShapes.add_plain] at g0 g1
      unfold gX gR
      rw [List.getD_eq_getElem?_getD, List.getElem?_map, List.getElem?_range hj]
      exact ⟨g0, by rw [Nat.add_assoc]; exact g1⟩
set_option maxRecDepth 100000 in
theorem open_mks {H : Type} {enc : TypeId × Value → H} {w : World} {r : Reach} {b0 : Nat} {v : Value} {d : DataW H} {p : List MemPlace}
    (hv : Value.okWide Tryd.prog w r b0 39 v) (h : DataW.Trod enc Tryd.prog w 0 (fun _ => true) true 39 v d p) :
    ∃ l : List (Int × Int), Pts w v l := by
  obtain ⟨a0, len0, cap0, rfl⟩ := okWide_slice Tryd.underlying39 hv
  obtain ⟨fuel, hf⟩ := h
  exact open_mks_at (fun _ => rfl) hf
set_option maxRecDepth 100000 in
/-- a table by value -/
theorem open_tbl {H : Type} {enc : TypeId × Value → H} {w : World} {r : Reach} {b0 : Nat} {v : Value} {d : DataW H} {p : List MemPlace}
    (hv : Value.okWide Tryd.prog w r b0 41 v) (h : DataW.Trod enc Tryd.prog w 0 (fun _ => true) true 41 v d p) : ∃ z : List (Int × Int) × Int, TbV w v z.1 z.2 ∧ -9223372036854775808 ≤ z.2 ∧ z.2 ≤ 9223372036854775807 := by
  obtain ⟨v0, v1, y0, y1, n, rfl, _, _, h0, h1⟩ := open_agg2 Tryd.underlying41 (by kernel_rfl) (by kernel_rfl) hv h
  obtain ⟨l, hl⟩ := open_mks_at (fun _ => rfl) h0
  obtain ⟨a, e1, _, wa⟩ := DataW.trod_int (k := .i64) Tryd.underlying3 h1
  simp only [List.cons.injEq, and_true] at e1
  subst e1
  obtain ⟨ad, cap, rfl, q, r⟩ := hl
  exact ⟨(l, a), ⟨ad, cap, rfl, ad, cap, rfl, q, r⟩, wf_bd wa⟩
set_option maxRecDepth 100000 in
/-- the four cells of a reading -/
theorem cells_rdg {H : Type} {enc : TypeId × Value → H} {w : World} {base fuel : Nat} {spare : Nat → Bool} {held : Bool} {c0 c1 c2 c3 : Value} {y : DataW H × List MemPlace}
    (hf : DataW.trod enc Tryd.prog w base spare held fuel 31 [c0, c1, c2, c3] = some y) :
    ∃ a b c d : Int, (c0 = .int .i64 a ∧ c1 = .int .i64 b ∧ c2 = .int .i64 c ∧ c3 = .int .i64 d) ∧ (-9223372036854775808 ≤ a ∧ a ≤ 9223372036854775807) ∧ (-9223372036854775808 ≤ b ∧ b ≤ 9223372036854775807) ∧ (-9223372036854775808 ≤ c ∧ c ≤ 9223372036854775807) ∧ (-9223372036854775808 ≤ d ∧ d ≤ 9223372036854775807) := by
  obtain ⟨y0, y1, y2, y3, n, _, _, h0, h1, h2, h3⟩ := trod_struct4 Tryd.underlying31 hf
  obtain ⟨a, e0, _, w0⟩ := DataW.trod_int (k := .i64) Tryd.underlying3 h0
  obtain ⟨b, e1, _, w1⟩ := DataW.trod_int (k := .i64) Tryd.underlying3 h1
  obtain ⟨c, e2, _, w2⟩ := DataW.trod_int (k := .i64) Tryd.underlying3 h2
  obtain ⟨d, e3, _, w3⟩ := DataW.trod_int (k := .i64) Tryd.underlying3 h3
  rw [show Tryd.prog.cellsOf 3 = 1 by kernel_rfl] at e0 e1 e2 e3
  refine ⟨a, b, c, d, ⟨?_, ?_, ?_, ?_⟩, wf_bd w0, wf_bd w1, wf_bd w2, wf_bd w3⟩
  · simpa using e0
  · simpa using e1
  · simpa using e2
  · simpa using e3
set_option maxRecDepth 100000 in
/-- the two cells of bounds -/
theorem cells_bnd {H : Type} {enc : TypeId × Value → H} {w : World} {base fuel : Nat} {spare : Nat → Bool} {held : Bool} {c0 c1 : Value} {y : DataW H × List MemPlace}
    (hf : DataW.trod enc Tryd.prog w base spare held fuel 25 [c0, c1] = some y) :
    ∃ a b : Int, (c0 = .int .i64 a ∧ c1 = .int .i64 b) ∧ (-9223372036854775808 ≤ a ∧ a ≤ 9223372036854775807) ∧ (-9223372036854775808 ≤ b ∧ b ≤ 9223372036854775807) := by
  obtain ⟨y0, y1, n, _, _, h0, h1⟩ := trod_struct2 Tryd.underlying25 hf
  obtain ⟨a, e0, _, w0⟩ := DataW.trod_int (k := .i64) Tryd.underlying3 h0
  obtain ⟨b, e1, _, w1⟩ := DataW.trod_int (k := .i64) Tryd.underlying3 h1
  rw [show Tryd.prog.cellsOf 3 = 1 by kernel_rfl] at e0 e1
  refine ⟨a, b, ⟨?_, ?_⟩, wf_bd w0, wf_bd w1⟩
  · simpa using e0
  · simpa using e1
/-- the numbers of a report fit -/
def RpBd (r : Rp) : Prop := (-9223372036854775808 ≤ r.dy ∧ r.dy ≤ 9223372036854775807) ∧ (-9223372036854775808 ≤ r.dp ∧ r.dp ≤ 9223372036854775807) ∧ (-9223372036854775808 ≤ r.ht ∧ r.ht ≤ 9223372036854775807) ∧ (-9223372036854775808 ≤ r.st ∧ r.st ≤ 9223372036854775807) ∧ (-9223372036854775808 ≤ r.vl ∧ r.vl ≤ 9223372036854775807) ∧ (-9223372036854775808 ≤ r.vh ∧ r.vh ≤ 9223372036854775807) ∧ (-9223372036854775808 ≤ r.al ∧ r.al ≤ 9223372036854775807) ∧ (-9223372036854775808 ≤ r.ah ∧ r.ah ≤ 9223372036854775807)
set_option maxRecDepth 100000 in
/-- the eight cells of a report -/
theorem cells_rpt {H : Type} {enc : TypeId × Value → H} {w : World} {base fuel : Nat} {spare : Nat → Bool} {held : Bool} {c0 c1 c2 c3 c4 c5 c6 c7 : Value} {y : DataW H × List MemPlace}
    (hf : DataW.trod enc Tryd.prog w base spare held fuel 33 [c0, c1, c2, c3, c4, c5, c6, c7] = some y) :
    ∃ r : Rp, (c0 = .int .i64 r.dy ∧ c1 = .int .i64 r.dp ∧ c2 = .int .i64 r.ht ∧ c3 = .int .i64 r.st ∧ c4 = .int .i64 r.vl ∧ c5 = .int .i64 r.vh ∧ c6 = .int .i64 r.al ∧ c7 = .int .i64 r.ah) ∧ RpBd r := by
  obtain ⟨y0, y1, y2, n, _, _, h0, h1, h2⟩ := Deep.trod_struct3 Tryd.underlying33 hf
  have k0 : DataW.trod enc Tryd.prog w base spare held n 31 [c0, c1, c2, c3] = some y0 := by
    have := h0
    simpa [show Tryd.prog.cellsOf 31 = 4 by kernel_rfl] using this
  have k1 : DataW.trod enc Tryd.prog w base spare held n 25 [c4, c5] = some y1 := by
    have := h1
    simpa [show Tryd.prog.cellsOf 25 = 2 by kernel_rfl] using this
  have k2 : DataW.trod enc Tryd.prog w base spare held n 25 [c6, c7] = some y2 := by
    have := h2
    simpa [show Tryd.prog.cellsOf 25 = 2 by kernel_rfl] using this
  obtain ⟨dy, dp, ht, st, ⟨rfl, rfl, rfl, rfl⟩, b0, b1, b2, b3⟩ := cells_rdg k0
  obtain ⟨vl, vh, ⟨rfl, rfl⟩, b4, b5⟩ := cells_bnd k1
  obtain ⟨al, ah, ⟨rfl, rfl⟩, b6, b7⟩ := cells_bnd k2
  exact ⟨⟨dy, dp, ht, st, vl, vh, al, ah⟩, ⟨rfl, rfl, rfl, rfl, rfl, rfl, rfl, rfl⟩, b0, b1, b2, b3, b4, b5, b6, b7⟩
theorem array8 {α : Type} {cs : Array α} (h : cs.size = 8) : ∃ c0 c1 c2 c3 c4 c5 c6 c7, cs = #[c0, c1, c2, c3, c4, c5, c6, c7] := by
  obtain ⟨l⟩ := cs
  match l, h with
  | [c0, c1, c2, c3, c4, c5, c6, c7], _ => exact ⟨c0, c1, c2, c3, c4, c5, c6, c7, rfl⟩
/-- a report as a value -/
def rpV (r : Rp) : Value := .agg #[.int .i64 r.dy, .int .i64 r.dp, .int .i64 r.ht, .int .i64 r.st, .int .i64 r.vl, .int .i64 r.vh, .int .i64 r.al, .int .i64 r.ah]
set_option maxRecDepth 100000 in
theorem open_rpt {H : Type} {enc : TypeId × Value → H} {w : World} {r : Reach} {b0 : Nat} {v : Value} {d : DataW H} {p : List MemPlace}
    (hv : Value.okWide Tryd.prog w r b0 33 v) (h : DataW.Trod enc Tryd.prog w 0 (fun _ => true) true 33 v d p) : ∃ r : Rp, v = rpV r ∧ RpBd r := by
  obtain ⟨cs, rfl, hsz⟩ := okWide_struct Tryd.underlying33 hv
  obtain ⟨c0, c1, c2, c3, c4, c5, c6, c7, rfl⟩ := array8 (hsz.trans (by kernel_rfl))
  obtain ⟨fuel, hf⟩ := h
  obtain ⟨r, ⟨rfl, rfl, rfl, rfl, rfl, rfl, rfl, rfl⟩, b⟩ := cells_rpt hf
  exact ⟨r, rfl, b⟩
set_option maxRecDepth 100000 in
theorem open_rdg {H : Type} {enc : TypeId × Value → H} {w : World} {r : Reach} {b0 : Nat} {v : Value} {d : DataW H} {p : List MemPlace}
    (hv : Value.okWide Tryd.prog w r b0 31 v) (h : DataW.Trod enc Tryd.prog w 0 (fun _ => true) true 31 v d p) :
    ∃ a b c e : Int, v = .agg #[.int .i64 a, .int .i64 b, .int .i64 c, .int .i64 e] ∧ (-9223372036854775808 ≤ a ∧ a ≤ 9223372036854775807) ∧ (-9223372036854775808 ≤ b ∧ b ≤ 9223372036854775807) ∧ (-9223372036854775808 ≤ c ∧ c ≤ 9223372036854775807) ∧ (-9223372036854775808 ≤ e ∧ e ≤ 9223372036854775807) := by
  obtain ⟨cs, rfl, hsz⟩ := okWide_struct Tryd.underlying31 hv
  obtain ⟨c0, c1, c2, c3, rfl⟩ := array4 (hsz.trans (by kernel_rfl))
  obtain ⟨fuel, hf⟩ := h
  obtain ⟨a, b, c, e, ⟨rfl, rfl, rfl, rfl⟩, b0, b1, b2, b3⟩ := cells_rdg hf
  exact ⟨a, b, c, e, rfl, b0, b1, b2, b3⟩
theorem laid_of {W : World} {l : List (String × DataW Unit)} (hp : l = [("spile/rounding.words", Rows.laid_spile_rounding_words)]) (h : laidMetH Tryd.prog l W) (hS : W.ShapedOpen Tryd.prog) : WordsIs W := by
  subst hp
  exact words_of h
end Go.Proofs.YtbaiekoedmhhaaaDoor

/- A slice of reports, opened. -/
namespace Go.Proofs.YtbaiekoedmhhaaaDoor
open Go.ChangeShapes Go.WideShapes Go.ChangeAt Go.RowKit Go.Joins

theorem list8 {α : Type} {cs : List α} (h : cs.length = 8) : ∃ c0 c1 c2 c3 c4 c5 c6 c7, cs = [c0, c1, c2, c3, c4, c5, c6, c7] := by
  match cs, h with
  | [c0, c1, c2, c3, c4, c5, c6, c7], _ => exact ⟨c0, c1, c2, c3, c4, c5, c6, c7, rfl⟩
set_option maxRecDepth 100000 in
theorem open_rps_at {H : Type} {enc : TypeId × Value → H} {w : World} {base fuel : Nat} {held : Bool} {v : Value} {y : DataW H × List MemPlace}
    (hf : DataW.trod enc Tryd.prog w base (fun _ => true) held fuel 22 [v] = some y) :
    ∃ l : List Rp, Rps w v l ∧ ∀ r ∈ l, RpBd r := by
  rcases Deep.open_slice Tryd.underlying22 hf with ⟨hcs, _⟩ | ⟨x, len, cap, m, n, D, Pl, hcs, _, hl, hm, hmm, _, hi⟩
  · simp only [List.cons.injEq, and_true] at hcs
    subst hcs
    exact ⟨[], ⟨none, 0, rfl, ⟨by simp, by omega⟩, .inl rfl⟩, by simp⟩
  · simp only [List.cons.injEq, and_true] at hcs
    subst hcs
    clear hf
    unfold maxLen at hm
    simp only [if_true] at hmm
    subst hmm
    have hint : ∀ i, i < len → ∃ q : Rp, (∀ k u, [q.dy, q.dp, q.ht, q.st, q.vl, q.vh, q.al, q.ah][k]? = some u → w.cell? (x.add (i * 8 + k)) = some (.int .i64 u)) ∧ RpBd q := by
      intro i hlt
      obtain ⟨cs', h0, h1⟩ := hi i (by omega)
      rw [show Tryd.prog.cellsOf 33 = 8 by kernel_rfl] at h0
      obtain ⟨_, hlen, hcell⟩ := World.cells?_some h0
      obtain ⟨c0, c1, c2, c3, c4, c5, c6, c7, rfl⟩ := list8 hlen
      obtain ⟨q, ⟨rfl, rfl, rfl, rfl, rfl, rfl, rfl, rfl⟩, b⟩ := cells_rpt h1
      refine ⟨q, fun k u hk => ?_, b⟩
      have hk8 : k < 8 := by
        have := (List.getElem?_eq_some_iff.1 hk).1
        simpa using this
      rw [← Deep.add_add, hcell k hk8]
      match k, hk8 with
      | 0, _ => simp at hk ⊢; exact hk
      | 1, _ => simp at hk ⊢; exact hk
      | 2, _ => simp at hk ⊢; exact hk
      | 3, _ => simp at hk ⊢; exact hk
      | 4, _ => simp at hk ⊢; exact hk
      | 5, _ => simp at hk ⊢; exact hk
      | 6, _ => simp at hk ⊢; exact hk
      | 7, _ => simp at hk ⊢; exact hk
    obtain ⟨f, hf⟩ : ∃ f : Nat → Rp, ∀ i, i < len → (∀ k u, [(f i).dy, (f i).dp, (f i).ht, (f i).st, (f i).vl, (f i).vh, (f i).al, (f i).ah][k]? = some u → w.cell? (x.add (i * 8 + k)) = some (.int .i64 u)) ∧ RpBd (f i) := by
      classical
      refine ⟨fun i => if hlt : i < len then (hint i hlt).choose else default, fun i hlt => ?_⟩
      simp only [dif_pos hlt]
      exact (hint i hlt).choose_spec
    refine ⟨(List.range len).map f, ⟨some x, m, by simp, ⟨by simpa using hl, by omega⟩, ?_⟩, fun r hr => ?_⟩
    · by_cases h0 : len = 0
      · left; simpa using h0
      · right
        obtain ⟨b, off, spot⟩ := x
        have c0 := (hf 0 (by omega)).1 0 _ rfl
        have hspot : spot = none := by simpa [Addr.add] using World.cell?_spot c0
        subst hspot
        have hb := World.block_lt_of_cell? w _ c0
        refine ⟨b, off, rfl, by simpa [Addr.add] using hb, fun j hj => ?_⟩
        have hj' : j < len := by simpa using hj
        obtain ⟨g, _⟩ := hf j hj'
        have e : gP ((List.range len).map f) j = f j := by
          unfold gP
          rw [List.getD_eq_getElem?_getD, List.getElem?_map, List.getElem?_range hj']
          rfl
        rw [e]
        have g' : ∀ k u, [(f j).dy, (f j).dp, (f j).ht, (f j).st, (f j).vl, (f j).vh, (f j).al, (f j).ah][k]? = some u → w.cell? ⟨b, off + j * 8 + k, none⟩ = some (.int .i64 u) := fun k u hk => by
          have := g k u hk
          rw [Go.WideShapes.add_plain] at this
          rw [Nat.add_assoc]; exact this
        exact ⟨g' 0 _ rfl, g' 1 _ rfl, g' 2 _ rfl, g' 3 _ rfl, g' 4 _ rfl, g' 5 _ rfl, g' 6 _ rfl, g' 7 _ rfl⟩
    · obtain ⟨i, hi', rfl⟩ := List.mem_map.1 hr
      exact (hf i (List.mem_range.1 hi')).2
set_option maxRecDepth 100000 in
theorem open_rps {H : Type} {enc : TypeId × Value → H} {w : World} {r : Reach} {b0 : Nat} {v : Value} {d : DataW H} {p : List MemPlace}
    (hv : Value.okWide Tryd.prog w r b0 22 v) (h : DataW.Trod enc Tryd.prog w 0 (fun _ => true) true 22 v d p) :
    ∃ l : List Rp, Rps w v l ∧ ∀ r ∈ l, RpBd r := by
  obtain ⟨a0, len0, cap0, rfl⟩ := okWide_slice Tryd.underlying22 hv
  obtain ⟨fuel, hf⟩ := h
  exact open_rps_at hf
end Go.Proofs.YtbaiekoedmhhaaaDoor
