/- How the arguments of the statements about layer 22 are opened; the listed variables. -/
import Derived.Test.YtfpdanjhlepckaaDoorRows
import Derived.Test.YtfpdanjhlepckaaDoorLTW
import Derived.ProofKit
import Derived.OpenShut
import Derived.ShutString
import Derived.ChangeOld
import Derived.Lib.SmallJoins
import Derived.MakeChecks
import Derived.Deep.Slices
import Derived.Deep.Fields
import Derived.Deep.Strs
import Derived.ChangeSame
import Derived.Deep.SlicePairs
import Derived.Lib.LaidTab
import Derived.OneCell
import Derived.HandedShaped
namespace Go.Proofs.YtfpdanjhlepckaaDoor
open Go.ChangeShapes Go.WideShapes Go.ChangeAt Go.RowKit Go.Joins

theorem own : ownKnob Tryd.prog.godebug = none := by kernel_rfl
theorem laidOut : laidOutB Tryd.prog = true := by kernel_rfl
theorem wf_bd {n : Int} (h : (Lit.int .i64 n).wf = true) : -9223372036854775808 ≤ n ∧ n ≤ 9223372036854775807 := by
  have := bounds_i64 h
  omega
set_option maxRecDepth 100000 in
theorem open_shs_at {H : Type} {enc : TypeId × Value → H} {w : World} {base fuel : Nat} {spare : Nat → Bool} {held : Bool} {v : Value} {y : DataW H × List MemPlace} (hs : ∀ k, spare k = true)
    (hf : DataW.trod enc Tryd.prog w base spare held fuel 30 [v] = some y) :
    ∃ l : List (Int × Int), Pts w v l := by
  rcases Deep.open_slice_pairs Tryd.underlying30 Tryd.underlying52 (by kernel_rfl) rfl rfl (by kernel_rfl) (by kernel_rfl) hf with ⟨hcs, _⟩ | ⟨x, len0, cap0, m, n, V0, V1, D0, D1, P0, P1, hcs, _, hl, hm, hmm, _, hi⟩
  · simp only [List.cons.injEq, and_true] at hcs
    subst hcs
    exact ⟨[], none, 0, rfl, ⟨by simp, by omega⟩, .inl rfl⟩
  · simp only [List.cons.injEq, and_true] at hcs
    subst hcs
    unfold maxLen at hm
    rw [hs] at hmm
    simp only [if_true] at hmm
    subst hmm
    have hint : ∀ i, i < len0 → ∃ q : Int × Int, w.cell? (x.add (i * 2)) = some (.int .i64 q.1) ∧ w.cell? (x.add (i * 2 + 1)) = some (.int .i64 q.2) := by
      intro i hlt
      obtain ⟨h0, h1, h2, h3⟩ := hi i (by omega)
      obtain ⟨a, ea, _, _⟩ := DataW.trod_int (k := .i64) Tryd.underlying3 h2
      obtain ⟨b, eb, _, _⟩ := DataW.trod_int (k := .i64) Tryd.underlying3 h3
      simp only [List.cons.injEq, and_true] at ea eb
      exact ⟨(a, b), by rw [h0, ea], by rw [h1, eb]⟩
    let f : Nat → Int × Int := fun i => if hlt : i < len0 then (hint i hlt).choose else (0, 0)
    have hf2 : ∀ i, i < len0 → w.cell? (x.add (i * 2)) = some (.int .i64 (f i).1) ∧ w.cell? (x.add (i * 2 + 1)) = some (.int .i64 (f i).2) := by
      intro i hlt
      have := (hint i hlt).choose_spec
      simp only [f, dif_pos hlt]
      exact this
    have hlen : ((List.range len0).map f).length = len0 := by simp
    refine ⟨(List.range len0).map f, some x, m, by rw [hlen], by rw [hlen]; omega, ?_⟩
    rw [hlen]
    by_cases h0 : len0 = 0
    · exact .inl h0
    · right
      obtain ⟨b, off, spot⟩ := x
      have hspot : spot = none := by simpa [Addr.add] using World.cell?_spot (hf2 0 (by omega)).1
      subst hspot
      have hb := World.block_lt_of_cell? w _ (hf2 0 (by omega)).1
      refine ⟨b, off, rfl, by simpa [Addr.add] using hb, fun j hj => ?_⟩
      obtain ⟨g0, g1⟩ := hf2 j hj
      rw [Go.WideShapes.add_plain] at g0 g1
      unfold gX gR
      rw [List.getD_eq_getElem?_getD, List.getElem?_map, List.getElem?_range hj]
      exact ⟨g0, by rw [Nat.add_assoc]; exact g1⟩
set_option maxRecDepth 100000 in
theorem open_shs {H : Type} {enc : TypeId × Value → H} {w : World} {r : Reach} {b0 : Nat} {v : Value} {d : DataW H} {p : List MemPlace}
    (hv : Value.okWide Tryd.prog w r b0 30 v) (h : DataW.Trod enc Tryd.prog w 0 (fun _ => true) true 30 v d p) :
    ∃ l : List (Int × Int), Pts w v l := by
  obtain ⟨a0, len0, cap0, rfl⟩ := okWide_slice Tryd.underlying30 hv
  obtain ⟨fuel, hf⟩ := h
  exact open_shs_at (fun _ => rfl) hf
theorem gPow : Tryd.prog.globalNamed "internal/strconv.uint64pow10" = some 0 := by kernel_rfl
theorem laid_of {W : World} {l : List (String × DataW Unit)} (hp : l = [("math/bits.deBruijn32tab", Rows.laid_math_bits_deBruijn32tab), ("math/bits.deBruijn64tab", Rows.laid_math_bits_deBruijn64tab), ("internal/strconv.uint64pow10", Rows.laid_internal_strconv_uint64pow10)]) (h : laidMetH Tryd.prog l W) (hS : W.ShapedOpen Tryd.prog) : CV W := by
  subst hp
  rw [MakeChecks.laidMetH_plain _ _ _ (by kernel_rfl)] at h
  exact ⟨tab_of h (.tail _ (.tail _ (.head _))) (by kernel_rfl) gPow (by kernel_rfl) (t := 125) Tryd.underlying125 Tryd.underlying115 (by kernel_rfl) (by kernel_rfl), Tryd.laysM138.s1_3 W hS⟩
set_option maxRecDepth 100000 in
/-- the four cells of a lot -/
theorem cells_lot {H : Type} {enc : TypeId × Value → H} {w : World} {base fuel : Nat} {spare : Nat → Bool} {held : Bool} {c0 c1 c2 c3 : Value} {y : DataW H × List MemPlace} (hs : ∀ k, spare k = true)
    (hf : DataW.trod enc Tryd.prog w base spare held fuel 32 [c0, c1, c2, c3] = some y) :
    ∃ c : Lt, ∃ a cap, (c0 = .int .i64 c.id ∧ c1 = .int .i64 c.al ∧ c2 = .int .i64 c.ms ∧ c3 = .slice a c.sh.length cap) ∧ Pts w (.slice a c.sh.length cap) c.sh := by
  obtain ⟨y0, y1, y2, n, _, _, h0, h1, h2⟩ := Deep.trod_struct3 Tryd.underlying32 hf
  have k0 : DataW.trod enc Tryd.prog w base spare held n 3 [c0] = some y0 := by
    have := h0
    simpa [show Tryd.prog.cellsOf 3 = 1 by kernel_rfl] using this
  have k1 : DataW.trod enc Tryd.prog w base spare held n 29 [c1, c2] = some y1 := by
    have := h1
    simpa [show Tryd.prog.cellsOf 29 = 2 by kernel_rfl] using this
  have k2 : DataW.trod enc Tryd.prog w base spare held n 30 [c3] = some y2 := by
    have := h2
    simpa [show Tryd.prog.cellsOf 30 = 1 by kernel_rfl] using this
  obtain ⟨z0, z1, n', _, _, g0, g1⟩ := trod_struct2 Tryd.underlying29 k1
  obtain ⟨d, e0, _, w0⟩ := DataW.trod_int (k := .i64) Tryd.underlying3 k0
  obtain ⟨A, e1, _, w1⟩ := DataW.trod_int (k := .i64) Tryd.underlying3 g0
  obtain ⟨M, e2, _, w2⟩ := DataW.trod_int (k := .i64) Tryd.underlying3 g1
  obtain ⟨l, hl⟩ := open_shs_at hs k2
  rw [show Tryd.prog.cellsOf 3 = 1 by kernel_rfl] at e1 e2
  obtain ⟨a, cap, rfl, _, _⟩ := hl.shape
  exact ⟨⟨d, A, M, l⟩, a, cap, ⟨by simpa using e0, by simpa using e1, by simpa using e2, rfl⟩, hl⟩
set_option maxRecDepth 100000 in
/-- a lot by value -/
theorem open_lot {H : Type} {enc : TypeId × Value → H} {w : World} {r : Reach} {b0 : Nat} {v : Value} {d : DataW H} {p : List MemPlace}
    (hv : Value.okWide Tryd.prog w r b0 32 v) (h : DataW.Trod enc Tryd.prog w 0 (fun _ => true) true 32 v d p) : ∃ c : Lt, ∃ a cap, v = ltV c a cap ∧ Pts w (.slice a c.sh.length cap) c.sh := by
  obtain ⟨cs, rfl, hsz⟩ := okWide_struct Tryd.underlying32 hv
  obtain ⟨c0, c1, c2, c3, rfl⟩ : ∃ c0 c1 c2 c3, cs = #[c0, c1, c2, c3] := by
    have h4 : cs.size = 4 := hsz.trans (by kernel_rfl)
    obtain ⟨l⟩ := cs
    match l, h4 with
    | [c0, c1, c2, c3], _ => exact ⟨c0, c1, c2, c3, rfl⟩
  obtain ⟨fuel, hf⟩ := h
  obtain ⟨c, a, cap, ⟨rfl, rfl, rfl, rfl⟩, hp⟩ := cells_lot (fun _ => rfl) hf
  exact ⟨c, a, cap, rfl, hp⟩
set_option maxRecDepth 100000 in
/-- a slice of lots -/
theorem open_lts {H : Type} {enc : TypeId × Value → H} {w : World} {r : Reach} {b0 : Nat} {v : Value} {d : DataW H} {p : List MemPlace}
    (hv : Value.okWide Tryd.prog w r b0 22 v) (h : DataW.Trod enc Tryd.prog w 0 (fun _ => true) true 22 v d p) : ∃ l : List Lt, Lts w v l := by
  obtain ⟨a0, len0, cap0, rfl⟩ := okWide_slice Tryd.underlying22 hv
  obtain ⟨fuel, hf⟩ := h
  rcases Deep.open_slice Tryd.underlying22 hf with ⟨hcs, _⟩ | ⟨x, l, c, m, n, D, Pl, hcs, _, hl, hm, hmm, _, hi⟩
  · simp [Value.cells] at hcs
    obtain ⟨rfl, rfl, rfl⟩ := hcs
    exact ⟨[], none, 0, rfl, ⟨by simp, by omega⟩, .inl rfl⟩
  · simp [Value.cells] at hcs
    obtain ⟨rfl, rfl, rfl⟩ := hcs
    unfold maxLen at hm
    simp only [if_true] at hmm
    subst hmm
    have ce : Tryd.prog.cellsOf 32 = 4 := by kernel_rfl
    rw [ce] at hi
    have hint : ∀ i, i < len0 → ∃ c : Lt, ∃ a cap, w.cell? (x.add (i * 4)) = some (.int .i64 c.id) ∧ w.cell? (x.add (i * 4 + 1)) = some (.int .i64 c.al) ∧ w.cell? (x.add (i * 4 + 2)) = some (.int .i64 c.ms) ∧ w.cell? (x.add (i * 4 + 3)) = some (.slice a c.sh.length cap) ∧ Pts w (.slice a c.sh.length cap) c.sh := by
      intro i hlt
      obtain ⟨cs', h1, h2⟩ := hi i (by omega)
      obtain ⟨_, hlen, hcell⟩ := World.cells?_some h1
      match cs', hlen with
      | [v0, v1, v2, v3], _ =>
        have e0 := hcell 0 (by omega)
        have e1 := hcell 1 (by omega)
        have e2 := hcell 2 (by omega)
        have e3 := hcell 3 (by omega)
        rw [Deep.add_add] at e0 e1 e2 e3
        obtain ⟨c, a, cap, ⟨rfl, rfl, rfl, rfl⟩, hp⟩ := cells_lot (fun _ => rfl) h2
        exact ⟨c, a, cap, by simpa using e0, by simpa using e1, by simpa using e2, by simpa using e3, hp⟩
    let f : Nat → Lt := fun i => if hlt : i < len0 then (hint i hlt).choose else zL
    have hf2 : ∀ i, i < len0 → ∃ a cap, w.cell? (x.add (i * 4)) = some (.int .i64 (f i).id) ∧ w.cell? (x.add (i * 4 + 1)) = some (.int .i64 (f i).al) ∧ w.cell? (x.add (i * 4 + 2)) = some (.int .i64 (f i).ms) ∧ w.cell? (x.add (i * 4 + 3)) = some (.slice a (f i).sh.length cap) ∧ Pts w (.slice a (f i).sh.length cap) (f i).sh := by
      intro i hlt
      have := (hint i hlt).choose_spec
      simp only [f, dif_pos hlt]
      exact this
    have hlen : ((List.range len0).map f).length = len0 := by simp
    refine ⟨(List.range len0).map f, some x, m, by rw [hlen], by rw [hlen]; omega, ?_⟩
    rw [hlen]
    by_cases h0 : len0 = 0
    · exact .inl h0
    · right
      obtain ⟨b, off, spot⟩ := x
      obtain ⟨_, _, q0, _⟩ := hf2 0 (by omega)
      have hspot : spot = none := by simpa [Addr.add] using World.cell?_spot q0
      subst hspot
      have hb := World.block_lt_of_cell? w _ q0
      refine ⟨b, off, rfl, by simpa [Addr.add] using hb, fun j hj => ?_⟩
      obtain ⟨a, cap, g0, g1, g2, g3, g⟩ := hf2 j hj
      rw [Go.WideShapes.add_plain] at g0 g1 g2 g3
      have e : gL ((List.range len0).map f) j = f j := by
        unfold gL
        rw [List.getD_eq_getElem?_getD, List.getElem?_map, List.getElem?_range hj]
        rfl
      rw [e]
      exact ⟨a, cap, g0, by rw [Nat.add_assoc]; exact g1, by rw [Nat.add_assoc]; exact g2, by rw [Nat.add_assoc]; exact g3, g⟩
end Go.Proofs.YtfpdanjhlepckaaDoor

