/- Texts that the proofs of this seat share, one behind the other: Kit, Two, Quad, Eig, PPL0, DPA, CB0, DPB, DPC, DPD, GA, GB, GC, DPE, RDA, RDB, RDC, RDD, GD, Num, Div, OfK, Rnd. -/
import Derived.Test.YtbaiekoedmhhaaaDoorProg
import Derived.Test.YtbaiekoedmhhaaaDoorRows
import Derived.Test.YtbaiekoedmhhaaaDoorShelf
import Derived.WalkKit
import Derived.Handy
import Derived.Lib.Hide
import Derived.Lib.LaidTab
import Derived.Lib.LaidU8
import Derived.Lib.ItoaNum
import Derived.Outline
import Derived.Deep.DeepCutAuto
import Derived.Deep.CutBlock
import Derived.Deep.QuietTactic
import Derived.BigQuiet
import Derived.Lib.OwnBridge
import Derived.OwnWalk
import Derived.Shelf.SlicesQ.Reverse
import Derived.Ground.SlgnProg
import Derived.FnLit
import Derived.RangeFuncBox
import Derived.StillTailTactics
import Derived.Deep.RegionHeld3
import Derived.Deep.RegionLaw
import Derived.Maps.AppendAt
import Derived.Lib.BitFns
import Derived.Laws.Bits64
import Derived.Laws.BitsAllLaws
import Derived.Laws.EntriesVeiled
import Derived.Deep.RegionWith

set_option linter.unusedVariables false
set_option linter.unusedSimpArgs false

/- What every text of this seat needs: worlds that only grow, the listed variables. -/
namespace Go.Proofs.YtbaiekoedmhhaaaDoor
open Go.RowKit

theorem bel_alloc {w w' : World} {o : Obj} (h : Below (w.alloc o).heap.size (w.alloc o) w') : Below w.heap.size w w' :=
  ((Below.refl _ _).alloc (Nat.le_refl _) o).trans (h.mono (by simp))
theorem bel_trans {w w1 w2 : World} (h : Below w.heap.size w w1) (h2 : Below w1.heap.size w1 w2) : Below w.heap.size w w2 := h.trans (h2.mono h.size)
theorem bel_drewN (w : World) (n : Nat) : Below w.heap.size w (w.drewN n) := ⟨rfl, rfl, rfl, Nat.le_refl _, fun _ _ => rfl⟩
theorem bel_drew (w : World) : Below w.heap.size w w.drew := ⟨rfl, rfl, rfl, Nat.le_refl _, fun _ _ => rfl⟩
theorem bcell {W w1 : World} (hb : Below W.heap.size W w1) : (∀ b o, b < W.heap.size → w1.cell? ⟨b, o, none⟩ = W.cell? ⟨b, o, none⟩) ∧ (∀ b o, b < W.heap.size → w1.frozen? ⟨b, o, none⟩ = W.frozen? ⟨b, o, none⟩) :=
  ⟨fun b o h => hb.cell (p := ⟨b, o, none⟩) h, fun b o h => hb.frozen (p := ⟨b, o, none⟩) h⟩

theorem var_keep {P : Program} {w w' : World} {n : String} (g : Nat) (hg : P.globalNamed n = some g) (hlt : g < w.heap.size) (hb : Below w.heap.size w w') : w'.var? P n = w.var? P n := by
  simp only [World.var?, hg, Option.bind_some]
  rw [hb.block g hlt]
theorem tab_keep {P : Program} {w w' : World} {n : String} {k : IntKind} {zs : List Int} (g : Nat) (hg : P.globalNamed n = some g) (hz : 0 < zs.length) (h : Lib.TabIs P w n k zs) (hb : Below w.heap.size w w') : Lib.TabIs P w' n k zs := by
  unfold Lib.TabIs at *
  rw [var_keep g hg ?_ hb, h]
  have := Lib.TabIs.cell (P := P) (W := w) h hg 0 hz
  exact World.block_lt_of_cell? w ⟨g, 0, none⟩ this

/-- a listed table of integers -/
theorem tab_of {P : Program} {W : World} {l : List (String × DataW Unit)} {name : String} {d : DataW Unit} {k : IntKind} {zs : List Int} {g : Nat} {t e : TypeId} {n : Nat}
    (h : laidMet P l W) (hm : (name, d) ∈ l) (hd : d = Lib.tabData k zs)
    (hg : P.globalNamed name = some g) (hty : (P.globals[g]?).map (·.type) = some t) (ht : P.underlying t = some (.array n e)) (he : P.underlying e = some (.int k)) (hce : P.cellsOf e = 1) (hct : P.cellsOf t = n) : Lib.TabIs P W name k zs := by
  subst hd
  obtain ⟨g', t', cs, fuel, p, hg', ht', hvar, hr⟩ := Lib.laidMet.reads h hm
  obtain rfl := Option.some.inj (hg.symm.trans hg')
  obtain rfl := Option.some.inj (hty.symm.trans ht')
  unfold Lib.TabIs
  rw [hvar, ← Lib.cells_of_tab ht he hce hct hr]

theorem wrap_wrap_add (a b : Int) : IntKind.i64.wrap (IntKind.i64.wrap a + b) = IntKind.i64.wrap (a + b) := by simp only [IntKind.wrap_i64]; omega
theorem wrap_wrap_sub (a b : Int) : IntKind.i64.wrap (IntKind.i64.wrap a - b) = IntKind.i64.wrap (a - b) := by simp only [IntKind.wrap_i64]; omega
theorem wrap_add_wrap (a b : Int) : IntKind.i64.wrap (a + IntKind.i64.wrap b) = IntKind.i64.wrap (a + b) := by simp only [IntKind.wrap_i64]; omega
theorem wrap_sub_wrap (a b : Int) : IntKind.i64.wrap (a - IntKind.i64.wrap b) = IntKind.i64.wrap (a - b) := by simp only [IntKind.wrap_i64]; omega
theorem wrap_bd (a : Int) : -9223372036854775808 ≤ IntKind.i64.wrap a ∧ IntKind.i64.wrap a ≤ 9223372036854775807 := by simp only [IntKind.wrap_i64]; omega
theorem wrap_in (a : Int) (h : -9223372036854775808 ≤ a ∧ a ≤ 9223372036854775807) : IntKind.i64.wrap a = a := by simp only [IntKind.wrap_i64]; omega

theorem ret_int {k : IntKind} {a b : Int} (h : a = b) : Ending.returned (.int k a) = .returned (.int k b) := by rw [h]
theorem ret_bool {a b : Bool} (h : a = b) : Ending.returned (.bool a) = .returned (.bool b) := by rw [h]
end Go.Proofs.YtbaiekoedmhhaaaDoor

/- A block with two cells. -/
namespace Go.Proofs.YtbaiekoedmhhaaaDoor
open Go.RowKit

def Two (b : Nat) (W : World) (x y : Value) : Prop := W.cell? ⟨b, 0, none⟩ = some x ∧ W.cell? ⟨b, 1, none⟩ = some y ∧ W.frozen? ⟨b, 0, none⟩ = false ∧ W.frozen? ⟨b, 1, none⟩ = false ∧ b < W.heap.size
theorem Two.below {b : Nat} {W W' : World} {x y : Value} (h : Two b W x y) (hb : Below W.heap.size W W') : Two b W' x y := by
  obtain ⟨h0, h1, h2, h3, h4⟩ := h
  exact ⟨by rw [(bcell hb).1 _ _ h4]; exact h0, by rw [(bcell hb).1 _ _ h4]; exact h1, by rw [(bcell hb).2 _ _ h4]; exact h2, by rw [(bcell hb).2 _ _ h4]; exact h3, Nat.lt_of_lt_of_le h4 hb.size⟩
theorem Two.alloc {b : Nat} {W : World} {x y : Value} (h : Two b W x y) (o : Obj) : Two b (W.alloc o) x y := h.below (bel_alloc (Below.refl _ _))
theorem Two.new (W : World) (x y : Value) (T : TypeId) : Two W.heap.size (W.alloc (.cells #[x, y] T)) x y := ⟨by simp [go_sem], by simp [go_sem], by simp [go_sem], by simp [go_sem], by simp⟩
theorem two_read (w : World) (b : Nat) (u v : Value) {a c : Value} (h0 : w.cell? ⟨b, 0, none⟩ = some a) (h1 : w.cell? ⟨b, 1, none⟩ = some c) :
    ((w.setCell ⟨b, 0, none⟩ u).setCell ⟨b, 1, none⟩ v).cell? ⟨b, 0, none⟩ = some u ∧ ((w.setCell ⟨b, 0, none⟩ u).setCell ⟨b, 1, none⟩ v).cell? ⟨b, 1, none⟩ = some v := by
  refine ⟨?_, ?_⟩
  · rw [World.cell?_setCell_other _ _ _ _ (by simp), World.cell?_setCell_same _ _ _ h0]
  · rw [World.cell?_setCell_same (u := c)]
    rw [World.cell?_setCell_other _ _ _ _ (by simp), h1]
theorem Two.set1 {b : Nat} {W : World} {x y : Value} (h : Two b W x y) (z : Value) : Two b (W.setCell ⟨b, 1, none⟩ z) x z := by
  obtain ⟨h0, h1, h2, h3, h4⟩ := h
  refine ⟨?_, ?_, ?_, ?_, ?_⟩
  · rw [World.cell?_setCell_other _ _ _ _ (by simp)]; exact h0
  · exact World.cell?_setCell_same _ _ _ h1
  · rw [World.frozen?_setCell]; exact h2
  · rw [World.frozen?_setCell]; exact h3
  · simpa [World.setCell] using h4
theorem Two.other {b : Nat} {W : World} {x y : Value} (h : Two b W x y) (p : Addr) (hp : p.block ≠ b) (z : Value) : Two b (W.setCell p z) x y := by
  obtain ⟨h0, h1, h2, h3, h4⟩ := h
  refine ⟨?_, ?_, ?_, ?_, ?_⟩
  · rw [World.cell?_setCell_other _ _ _ _ (by intro e; apply hp; rw [e])]; exact h0
  · rw [World.cell?_setCell_other _ _ _ _ (by intro e; apply hp; rw [e])]; exact h1
  · rw [World.frozen?_setCell]; exact h2
  · rw [World.frozen?_setCell]; exact h3
  · simpa [World.setCell] using h4
theorem Two.set0 {b : Nat} {W : World} {x y : Value} (h : Two b W x y) (z : Value) : Two b (W.setCell ⟨b, 0, none⟩ z) z y := by
  obtain ⟨h0, h1, h2, h3, h4⟩ := h
  refine ⟨?_, ?_, ?_, ?_, ?_⟩
  · exact World.cell?_setCell_same _ _ _ h0
  · rw [World.cell?_setCell_other _ _ _ _ (by simp)]; exact h1
  · rw [World.frozen?_setCell]; exact h2
  · rw [World.frozen?_setCell]; exact h3
  · simpa [World.setCell] using h4
end Go.Proofs.YtbaiekoedmhhaaaDoor

/- A block with four cells. -/
namespace Go.Proofs.YtbaiekoedmhhaaaDoor
open Go.RowKit

def Quad (b : Nat) (W : World) (x y z u : Value) : Prop := W.cell? ⟨b, 0, none⟩ = some x ∧ W.cell? ⟨b, 1, none⟩ = some y ∧ W.cell? ⟨b, 2, none⟩ = some z ∧ W.cell? ⟨b, 3, none⟩ = some u ∧ (∀ k, k < 4 → W.frozen? ⟨b, k, none⟩ = false) ∧ b < W.heap.size
theorem Quad.below {b : Nat} {W W' : World} {x y z u : Value} (h : Quad b W x y z u) (hb : Below W.heap.size W W') : Quad b W' x y z u := by
  obtain ⟨h0, h1, h2, h3, h4, h5⟩ := h
  exact ⟨by rw [(bcell hb).1 _ _ h5]; exact h0, by rw [(bcell hb).1 _ _ h5]; exact h1, by rw [(bcell hb).1 _ _ h5]; exact h2, by rw [(bcell hb).1 _ _ h5]; exact h3, fun k hk => by rw [(bcell hb).2 _ _ h5]; exact h4 k hk, Nat.lt_of_lt_of_le h5 hb.size⟩
theorem Quad.alloc {b : Nat} {W : World} {x y z u : Value} (h : Quad b W x y z u) (o : Obj) : Quad b (W.alloc o) x y z u := h.below (bel_alloc (Below.refl _ _))
theorem Quad.new (W : World) (x y z u : Value) (T : TypeId) : Quad W.heap.size (W.alloc (.cells #[x, y, z, u] T)) x y z u :=
  ⟨by simp [go_sem], by simp [go_sem], by simp [go_sem], by simp [go_sem], fun k _ => by simp [go_sem], by simp⟩
theorem quad_read (w : World) (b : Nat) (x y z u : Value) {a0 a1 a2 a3 : Value} (h0 : w.cell? ⟨b, 0, none⟩ = some a0) (h1 : w.cell? ⟨b, 1, none⟩ = some a1) (h2 : w.cell? ⟨b, 2, none⟩ = some a2) (h3 : w.cell? ⟨b, 3, none⟩ = some a3) :
    ((((w.setCell ⟨b, 0, none⟩ x).setCell ⟨b, 1, none⟩ y).setCell ⟨b, 2, none⟩ z).setCell ⟨b, 3, none⟩ u).cell? ⟨b, 0, none⟩ = some x ∧ ((((w.setCell ⟨b, 0, none⟩ x).setCell ⟨b, 1, none⟩ y).setCell ⟨b, 2, none⟩ z).setCell ⟨b, 3, none⟩ u).cell? ⟨b, 1, none⟩ = some y ∧ ((((w.setCell ⟨b, 0, none⟩ x).setCell ⟨b, 1, none⟩ y).setCell ⟨b, 2, none⟩ z).setCell ⟨b, 3, none⟩ u).cell? ⟨b, 2, none⟩ = some z ∧ ((((w.setCell ⟨b, 0, none⟩ x).setCell ⟨b, 1, none⟩ y).setCell ⟨b, 2, none⟩ z).setCell ⟨b, 3, none⟩ u).cell? ⟨b, 3, none⟩ = some u := by
  have o : ∀ (W : World) (i j : Nat) (v : Value), i ≠ j → (W.setCell ⟨b, j, none⟩ v).cell? ⟨b, i, none⟩ = W.cell? ⟨b, i, none⟩ := fun W i j v h => World.cell?_setCell_other _ _ _ _ (by simp)
  refine ⟨?_, ?_, ?_, ?_⟩
  · rw [o _ 0 3 _ (by decide), o _ 0 2 _ (by decide), o _ 0 1 _ (by decide)]; exact World.cell?_setCell_same _ _ _ h0
  · rw [o _ 1 3 _ (by decide), o _ 1 2 _ (by decide)]; exact World.cell?_setCell_same (u := a1) _ _ _ (by rw [o _ 1 0 _ (by decide)]; exact h1)
  · rw [o _ 2 3 _ (by decide)]; exact World.cell?_setCell_same (u := a2) _ _ _ (by rw [o _ 2 1 _ (by decide), o _ 2 0 _ (by decide)]; exact h2)
  · exact World.cell?_setCell_same (u := a3) _ _ _ (by rw [o _ 3 2 _ (by decide), o _ 3 1 _ (by decide), o _ 3 0 _ (by decide)]; exact h3)
end Go.Proofs.YtbaiekoedmhhaaaDoor

/- A block with eight cells; reports as eight numbers. -/
namespace Go.Proofs.YtbaiekoedmhhaaaDoor
open Go.RowKit

def Eig (b : Nat) (W : World) (x0 x1 x2 x3 x4 x5 x6 x7 : Value) : Prop := W.cell? ⟨b, 0, none⟩ = some x0 ∧ W.cell? ⟨b, 1, none⟩ = some x1 ∧ W.cell? ⟨b, 2, none⟩ = some x2 ∧ W.cell? ⟨b, 3, none⟩ = some x3 ∧ W.cell? ⟨b, 4, none⟩ = some x4 ∧ W.cell? ⟨b, 5, none⟩ = some x5 ∧ W.cell? ⟨b, 6, none⟩ = some x6 ∧ W.cell? ⟨b, 7, none⟩ = some x7 ∧ (∀ k, k < 8 → W.frozen? ⟨b, k, none⟩ = false) ∧ b < W.heap.size
theorem Eig.below {b : Nat} {W W' : World} {x0 x1 x2 x3 x4 x5 x6 x7 : Value} (h : Eig b W x0 x1 x2 x3 x4 x5 x6 x7) (hb : Below W.heap.size W W') : Eig b W' x0 x1 x2 x3 x4 x5 x6 x7 := by
  obtain ⟨h0, h1, h2, h3, h4, h5, h6, h7, hf, hl⟩ := h
  exact ⟨by rw [(bcell hb).1 _ _ hl]; exact h0, by rw [(bcell hb).1 _ _ hl]; exact h1, by rw [(bcell hb).1 _ _ hl]; exact h2, by rw [(bcell hb).1 _ _ hl]; exact h3, by rw [(bcell hb).1 _ _ hl]; exact h4, by rw [(bcell hb).1 _ _ hl]; exact h5, by rw [(bcell hb).1 _ _ hl]; exact h6, by rw [(bcell hb).1 _ _ hl]; exact h7, fun k hk => by rw [(bcell hb).2 _ _ hl]; exact hf k hk, Nat.lt_of_lt_of_le hl hb.size⟩
theorem Eig.alloc {b : Nat} {W : World} {x0 x1 x2 x3 x4 x5 x6 x7 : Value} (h : Eig b W x0 x1 x2 x3 x4 x5 x6 x7) (o : Obj) : Eig b (W.alloc o) x0 x1 x2 x3 x4 x5 x6 x7 := h.below (bel_alloc (Below.refl _ _))
theorem Eig.new (W : World) (x0 x1 x2 x3 x4 x5 x6 x7 : Value) (T : TypeId) : Eig W.heap.size (W.alloc (.cells #[x0, x1, x2, x3, x4, x5, x6, x7] T)) x0 x1 x2 x3 x4 x5 x6 x7 :=
  ⟨by simp [go_sem], by simp [go_sem], by simp [go_sem], by simp [go_sem], by simp [go_sem], by simp [go_sem], by simp [go_sem], by simp [go_sem], fun k _ => by simp [go_sem], by simp⟩
/-- eight stores to a block, read -/
theorem Eig.put {b : Nat} {W : World} {x0 x1 x2 x3 x4 x5 x6 x7 : Value} (h : Eig b W x0 x1 x2 x3 x4 x5 x6 x7) (y0 y1 y2 y3 y4 y5 y6 y7 : Value) : Eig b ((((((((W.setCell ⟨b, 0, none⟩ y0).setCell ⟨b, 1, none⟩ y1).setCell ⟨b, 2, none⟩ y2).setCell ⟨b, 3, none⟩ y3).setCell ⟨b, 4, none⟩ y4).setCell ⟨b, 5, none⟩ y5).setCell ⟨b, 6, none⟩ y6).setCell ⟨b, 7, none⟩ y7) y0 y1 y2 y3 y4 y5 y6 y7 := by
  obtain ⟨h0, h1, h2, h3, h4, h5, h6, h7, hf, hl⟩ := h
  have o : ∀ (W : World) (i j : Nat) (v : Value), i ≠ j → (W.setCell ⟨b, j, none⟩ v).cell? ⟨b, i, none⟩ = W.cell? ⟨b, i, none⟩ := fun W i j v h => World.cell?_setCell_other _ _ _ _ (by simp)
  have s : ∀ (W : World) (i : Nat) (v u : Value), W.cell? ⟨b, i, none⟩ = some u → (W.setCell ⟨b, i, none⟩ v).cell? ⟨b, i, none⟩ = some v := fun W i v u h => World.cell?_setCell_same _ _ _ h
  refine ⟨?_, ?_, ?_, ?_, ?_, ?_, ?_, ?_, fun k hk => ?_, ?_⟩
  · rw [o _ 0 7 _ (by decide), o _ 0 6 _ (by decide), o _ 0 5 _ (by decide), o _ 0 4 _ (by decide), o _ 0 3 _ (by decide), o _ 0 2 _ (by decide), o _ 0 1 _ (by decide)]; exact s _ 0 _ x0 (by exact h0)
  · rw [o _ 1 7 _ (by decide), o _ 1 6 _ (by decide), o _ 1 5 _ (by decide), o _ 1 4 _ (by decide), o _ 1 3 _ (by decide), o _ 1 2 _ (by decide)]; exact s _ 1 _ x1 (by rw [o _ 1 0 _ (by decide)]; exact h1)
  · rw [o _ 2 7 _ (by decide), o _ 2 6 _ (by decide), o _ 2 5 _ (by decide), o _ 2 4 _ (by decide), o _ 2 3 _ (by decide)]; exact s _ 2 _ x2 (by rw [o _ 2 1 _ (by decide), o _ 2 0 _ (by decide)]; exact h2)
  · rw [o _ 3 7 _ (by decide), o _ 3 6 _ (by decide), o _ 3 5 _ (by decide), o _ 3 4 _ (by decide)]; exact s _ 3 _ x3 (by rw [o _ 3 2 _ (by decide), o _ 3 1 _ (by decide), o _ 3 0 _ (by decide)]; exact h3)
  · rw [o _ 4 7 _ (by decide), o _ 4 6 _ (by decide), o _ 4 5 _ (by decide)]; exact s _ 4 _ x4 (by rw [o _ 4 3 _ (by decide), o _ 4 2 _ (by decide), o _ 4 1 _ (by decide), o _ 4 0 _ (by decide)]; exact h4)
  · rw [o _ 5 7 _ (by decide), o _ 5 6 _ (by decide)]; exact s _ 5 _ x5 (by rw [o _ 5 4 _ (by decide), o _ 5 3 _ (by decide), o _ 5 2 _ (by decide), o _ 5 1 _ (by decide), o _ 5 0 _ (by decide)]; exact h5)
  · rw [o _ 6 7 _ (by decide)]; exact s _ 6 _ x6 (by rw [o _ 6 5 _ (by decide), o _ 6 4 _ (by decide), o _ 6 3 _ (by decide), o _ 6 2 _ (by decide), o _ 6 1 _ (by decide), o _ 6 0 _ (by decide)]; exact h6)
  · exact s _ 7 _ x7 (by rw [o _ 7 6 _ (by decide), o _ 7 5 _ (by decide), o _ 7 4 _ (by decide), o _ 7 3 _ (by decide), o _ 7 2 _ (by decide), o _ 7 1 _ (by decide), o _ 7 0 _ (by decide)]; exact h7)
  · simp only [World.frozen?_setCell]; exact hf k hk
  · simpa [World.setCell] using hl
theorem Eig.putB {b B : Nat} {w W : World} (h : Below B w W) (hb : B ≤ b) (y0 y1 y2 y3 y4 y5 y6 y7 : Value) : Below B w ((((((((W.setCell ⟨b, 0, none⟩ y0).setCell ⟨b, 1, none⟩ y1).setCell ⟨b, 2, none⟩ y2).setCell ⟨b, 3, none⟩ y3).setCell ⟨b, 4, none⟩ y4).setCell ⟨b, 5, none⟩ y5).setCell ⟨b, 6, none⟩ y6).setCell ⟨b, 7, none⟩ y7) :=
  ((((((((h.setCell (p := ⟨b, 0, none⟩) hb _).setCell (p := ⟨b, 1, none⟩) hb _).setCell (p := ⟨b, 2, none⟩) hb _).setCell (p := ⟨b, 3, none⟩) hb _).setCell (p := ⟨b, 4, none⟩) hb _).setCell (p := ⟨b, 5, none⟩) hb _).setCell (p := ⟨b, 6, none⟩) hb _).setCell (p := ⟨b, 7, none⟩) hb _)
end Go.Proofs.YtbaiekoedmhhaaaDoor

/- Slices that read as lists of points; comparisons. -/
namespace Go.Proofs.YtbaiekoedmhhaaaDoor
open Go.RowKit Go.Sort

/-- the point at a place of a list -/
def gX (l : List (Int × Int)) (j : Nat) : Int := (l.getD j (0, 0)).1
def gR (l : List (Int × Int)) (j : Nat) : Int := (l.getD j (0, 0)).2

/-- a value is a slice that reads as a list of points -/
def Pts (w : World) (v : Value) (l : List (Int × Int)) : Prop :=
  ∃ a cap, v = .slice a l.length cap ∧ (l.length ≤ cap ∧ cap ≤ 9223372036854775807) ∧
    (l.length = 0 ∨ ∃ b off, a = some ⟨b, off, none⟩ ∧ b < w.heap.size ∧ ∀ j, j < l.length → w.cell? ⟨b, off + j * 2, none⟩ = some (.int .i64 (gX l j)) ∧ w.cell? ⟨b, off + j * 2 + 1, none⟩ = some (.int .i64 (gR l j)))
theorem Pts.below {w w' : World} {v : Value} {l : List (Int × Int)} (h : Pts w v l) (hb : Below w.heap.size w w') : Pts w' v l := by
  obtain ⟨a, cap, rfl, hl, h | ⟨b, off, rfl, hlt, hc⟩⟩ := h
  · exact ⟨a, cap, rfl, hl, .inl h⟩
  · exact ⟨_, cap, rfl, hl, .inr ⟨b, off, rfl, Nat.lt_of_lt_of_le hlt hb.size, fun j hj => by rw [(bcell hb).1 _ _ hlt, (bcell hb).1 _ _ hlt]; exact hc j hj⟩⟩
theorem Pts.alloc {w : World} {v : Value} {l : List (Int × Int)} (h : Pts w v l) (o : Obj) : Pts (w.alloc o) v l := h.below (bel_alloc (Below.refl _ _))
theorem Pts.shape {W : World} {v : Value} {l : List (Int × Int)} (h : Pts W v l) : ∃ a cap, v = .slice a l.length cap ∧ l.length ≤ cap ∧ cap ≤ 9223372036854775807 := by
  obtain ⟨a, cap, e, ⟨h1, h2⟩, _⟩ := h
  exact ⟨a, cap, e, h1, h2⟩
theorem Pts.len {W : World} {a : Option Addr} {n cap : Nat} {l : List (Int × Int)} (h : Pts W (.slice a n cap) l) : n = l.length := by
  obtain ⟨a', c', e, _⟩ := h
  simp only [Value.slice.injEq] at e
  exact e.2.1
theorem Pts.at {W : World} {a : Option Addr} {n cap : Nat} {l : List (Int × Int)} (h : Pts W (.slice a n cap) l) (h0 : 0 < n) :
    ∃ b off, a = some ⟨b, off, none⟩ ∧ b < W.heap.size ∧ ∀ j, j < n → W.cell? ⟨b, off + j * 2, none⟩ = some (.int .i64 (gX l j)) ∧ W.cell? ⟨b, off + j * 2 + 1, none⟩ = some (.int .i64 (gR l j)) := by
  have hl := h.len
  obtain ⟨a', c', e, _, hh⟩ := h
  simp only [Value.slice.injEq] at e
  obtain ⟨rfl, rfl, rfl⟩ := e
  rcases hh with hh | hh
  · omega
  · exact hh
theorem pts_nil (w : World) : Pts w (.slice none 0 0) [] := ⟨none, 0, rfl, by simp, .inl rfl⟩

/-- the cells of a list of points -/
def flat : List (Int × Int) → List Value
  | [] => []
  | q :: l => .int .i64 q.1 :: .int .i64 q.2 :: flat l
theorem flat_len (l : List (Int × Int)) : (flat l).length = l.length * 2 := by
  induction l with
  | nil => rfl
  | cons q l ih => simp only [flat, List.length_cons, ih]; omega
theorem flat_app (l m : List (Int × Int)) : flat (l ++ m) = flat l ++ flat m := by
  induction l with
  | nil => rfl
  | cons q l ih => simp only [List.cons_append, flat, ih]
theorem flat_at (l : List (Int × Int)) (j : Nat) (h : j < l.length) : (flat l)[j * 2]? = some (.int .i64 (gX l j)) ∧ (flat l)[j * 2 + 1]? = some (.int .i64 (gR l j)) := by
  induction l generalizing j with
  | nil => simp at h
  | cons q l ih =>
    cases j with
    | zero => simp [flat, gX, gR]
    | succ j =>
      have := ih j (by simpa using h)
      rw [show (j + 1) * 2 = j * 2 + 1 + 1 by omega]
      simp only [flat, List.getElem?_cons_succ, gX, gR, List.getD_cons_succ]
      exact this
theorem flat_one (l : List (Int × Int)) : ∀ u ∈ flat l, u.oneCell' = true := by
  induction l with
  | nil => intro u h; cases h
  | cons q l ih =>
    intro u h
    simp only [flat, List.mem_cons] at h
    rcases h with rfl | rfl | h
    · rfl
    · rfl
    · exact ih u h
theorem flat_inv (l : List (Int × Int)) (j : Nat) (u : Value) (h : (flat l)[j]? = some u) : ∃ i, i < l.length ∧ ((j = i * 2 ∧ u = .int .i64 (gX l i)) ∨ (j = i * 2 + 1 ∧ u = .int .i64 (gR l i))) := by
  have hj : j < (flat l).length := (List.getElem?_eq_some_iff.1 h).1
  rw [flat_len] at hj
  refine ⟨j / 2, by omega, ?_⟩
  have := flat_at l (j / 2) (by omega)
  rcases Nat.mod_two_eq_zero_or_one j with e | e
  · left
    have hj2 : j = j / 2 * 2 := by omega
    refine ⟨hj2, ?_⟩
    have h' := h
    rw [hj2, this.1] at h'
    exact (Option.some.inj h').symm
  · right
    have hj2 : j = j / 2 * 2 + 1 := by omega
    refine ⟨hj2, ?_⟩
    have h' := h
    rw [hj2, this.2] at h'
    exact (Option.some.inj h').symm

/-! ### points, compared -/
def samP (a b x y : Int) : Bool := a == x && b == y
/-! ### bounds, compared -/
def samB (a b x y : Int) : Bool := a == x && b == y
theorem run_same_bounds (a b x y : Int) (w : World) :
    (Op.equalIn 10000 25 (.agg #[.int .i64 a, .int .i64 b]) (.agg #[.int .i64 x, .int .i64 y])).run Tryd.prog w = .ok (samB a b x y) w := by
  rw [show (10000 : Nat) = 9999 + 1 from rfl, run_equalIn_agg w 9999 25 _ _ (by kernel_rfl) (by kernel_rfl)]
  have hf : (Tryd.prog.fieldsOf 25).toList.map (fun f => (f.name, f.type, f.offset)) = [("Low", 3, 0), ("High", 3, 1)] := by kernel_rfl
  generalize (Tryd.prog.fieldsOf 25).toList = fs at *
  obtain ⟨f, g, rfl⟩ : ∃ f g, fs = [f, g] := by
    have hl := congrArg List.length hf
    rw [List.length_map] at hl
    rcases fs with _ | ⟨f, _ | ⟨g, _ | ⟨h, fs⟩⟩⟩ <;> simp at hl
    exact ⟨f, g, rfl⟩
  simp only [List.map_cons, List.map_nil, List.cons.injEq, Prod.mk.injEq, and_true] at hf
  obtain ⟨⟨f1, f2, f3⟩, g1, g2, g3⟩ := hf
  have eq : ∀ (u v : Int) (W : World), (Op.equalIn 9999 3 (.int .i64 u) (.int .i64 v)).run Tryd.prog W = .ok (u == v) W := fun u v W => run_equalIn_int W 9998 3 .i64 .i64 u v Tryd.underlying3
  by_cases e1 : a = x <;> by_cases e2 : b = y <;> simp [Op.eqFields, f1, f2, f3, g1, g2, g3, go_sem, samB, eq, e1, e2]
theorem run_neq_bounds (a b x y : Int) (w : World) :
    (binOp .neq 25 (.agg #[.int .i64 a, .int .i64 b]) (.agg #[.int .i64 x, .int .i64 y])).run Tryd.prog w = .ok (.bool (!samB a b x y)) w := by
  rw [run_neq_struct, run_same_bounds]; rfl
theorem run_eql_bounds (a b x y : Int) (w : World) :
    (binOp .eql 25 (.agg #[.int .i64 a, .int .i64 b]) (.agg #[.int .i64 x, .int .i64 y])).run Tryd.prog w = .ok (.bool (samB a b x y)) w := by
  rw [run_eql_struct, run_same_bounds]; rfl
end Go.Proofs.YtbaiekoedmhhaaaDoor

/- Plain facts of layer 13: right tables, the volume at a height, the heights of a volume. No program stands in this text. -/
namespace Go.Proofs.YtbaiekoedmhhaaaDoor

/-- the first place below n at which p holds; n if there is none -/
def fst (p : Nat → Bool) : Nat → Nat
  | 0 => 0
  | n + 1 => if fst p n < n then fst p n else if p n then n else n + 1
theorem fst_le (p : Nat → Bool) (n : Nat) : fst p n ≤ n := by
  induction n with
  | zero => exact Nat.le_refl _
  | succ n ih => unfold fst; split <;> (try split) <;> omega
theorem fst_spec (p : Nat → Bool) (n : Nat) : (∀ j, j < fst p n → p j = false) ∧ (fst p n < n → p (fst p n) = true) := by
  induction n with
  | zero => exact ⟨fun j hj => by simp [fst] at hj, fun h => by omega⟩
  | succ n ih =>
    obtain ⟨i1, i2⟩ := ih
    have le := fst_le p n
    unfold fst
    by_cases h : fst p n < n
    · rw [if_pos h]; exact ⟨i1, fun _ => i2 h⟩
    · rw [if_neg h]
      have e : fst p n = n := by omega
      rw [e] at i1
      cases hp : p n with
      | true => simp only [if_true]; exact ⟨i1, fun _ => hp⟩
      | false =>
        simp only [Bool.false_eq_true, if_false]
        refine ⟨fun j hj => ?_, fun h => by omega⟩
        by_cases g : j = n
        · rw [g]; exact hp
        · exact i1 j (by omega)
theorem fst_is {p : Nat → Bool} {n k : Nat} (hk : k ≤ n) (h1 : ∀ j, j < k → p j = false) (h2 : k < n → p k = true) : fst p n = k := by
  obtain ⟨s1, s2⟩ := fst_spec p n
  have le := fst_le p n
  rcases Nat.lt_trichotomy (fst p n) k with h | h | h
  · have := h1 _ h; have := s2 (by omega); simp_all
  · exact h
  · have := s1 _ h; have := h2 (by omega); simp_all
theorem fst_iff {p : Nat → Bool} {n : Nat} (hm : ∀ a b, a ≤ b → b < n → p a = true → p b = true) {i : Nat} (hi : i < n) : p i = true ↔ fst p n ≤ i := by
  obtain ⟨s1, s2⟩ := fst_spec p n
  constructor
  · intro h
    rcases Nat.lt_or_ge i (fst p n) with g | g
    · rw [s1 i g] at h; cases h
    · exact g
  · intro h
    exact hm _ i h hi (s2 (by omega))

/-- a right table -/
structure MR (l : List (Int × Int)) : Prop where
  n0 : 2 ≤ l.length
  n1 : l.length ≤ 128
  bh : ∀ i, i < l.length → 0 ≤ gX l i ∧ gX l i ≤ 200000
  bv : ∀ i, i < l.length → 0 ≤ gR l i ∧ gR l i ≤ 4294967296
  asc : ∀ i, i + 1 < l.length → gX l i < gX l (i + 1)
  up : ∀ i, i + 1 < l.length → gR l i ≤ gR l (i + 1)
def mkOut (q : Int × Int) : Bool := decide (q.1 < 0) || decide (200000 < q.1) || decide (q.2 < 0) || decide (4294967296 < q.2)
/-- the first k + 1 marks rise -/
def risB (l : List (Int × Int)) : Nat → Bool
  | 0 => true
  | k + 1 => risB l k && (decide (gX l k < gX l (k + 1)) && decide (gR l k ≤ gR l (k + 1)))
theorem risB_iff (l : List (Int × Int)) (k : Nat) : risB l k = true ↔ ∀ i, i < k → gX l i < gX l (i + 1) ∧ gR l i ≤ gR l (i + 1) := by
  induction k with
  | zero => simp [risB]
  | succ k ih =>
    rw [risB, Bool.and_eq_true, ih, Bool.and_eq_true, decide_eq_true_eq, decide_eq_true_eq]
    constructor
    · rintro ⟨h1, h2⟩ i hi
      by_cases e : i = k
      · rw [e]; exact h2
      · exact h1 i (by omega)
    · intro h
      exact ⟨fun i hi => h i (by omega), h k (by omega)⟩
/-- the first error of a table -/
def tbE (l : List (Int × Int)) (tol : Int) : Int :=
  if l.length < 2 then 9 else if 128 < l.length then 8 else if (decide (tol < 0) || decide (4294967296 < tol) || l.any mkOut) = true then 2 else if risB l (l.length - 1) = false then 5 else 0
theorem anyq_at {p : Int × Int → Bool} {l : List (Int × Int)} : l.any p = true ↔ ∃ i, i < l.length ∧ p (l.getD i (0, 0)) = true := by
  rw [List.any_eq_true]
  constructor
  · rintro ⟨x, hx, hp⟩
    obtain ⟨i, hi, rfl⟩ := List.getElem_of_mem hx
    exact ⟨i, hi, by rw [List.getD_eq_getElem?_getD, List.getElem?_eq_getElem hi]; exact hp⟩
  · rintro ⟨i, hi, hp⟩
    rw [List.getD_eq_getElem?_getD, List.getElem?_eq_getElem hi, Option.getD_some] at hp
    exact ⟨_, List.getElem_mem hi, hp⟩
theorem mkOut_not {q : Int × Int} : mkOut q = false ↔ (0 ≤ q.1 ∧ q.1 ≤ 200000) ∧ 0 ≤ q.2 ∧ q.2 ≤ 4294967296 := by
  unfold mkOut
  rw [Bool.or_eq_false_iff, Bool.or_eq_false_iff, Bool.or_eq_false_iff, decide_eq_false_iff_not, decide_eq_false_iff_not, decide_eq_false_iff_not, decide_eq_false_iff_not]
  omega
theorem tbE_iff {l : List (Int × Int)} {tol : Int} : tbE l tol = 0 ↔ MR l ∧ 0 ≤ tol ∧ tol ≤ 4294967296 := by
  unfold tbE
  constructor
  · intro h
    split at h
    · omega
    · split at h
      · omega
      · split at h
        · omega
        · split at h
          · omega
          · rename_i h1 h2 h3 h4
            rw [Bool.not_eq_true, Bool.or_eq_false_iff, Bool.or_eq_false_iff, decide_eq_false_iff_not, decide_eq_false_iff_not] at h3
            obtain ⟨⟨t0, t1⟩, h3⟩ := h3
            have hb : ∀ i, i < l.length → (0 ≤ gX l i ∧ gX l i ≤ 200000) ∧ 0 ≤ gR l i ∧ gR l i ≤ 4294967296 := fun i hi => by
              refine mkOut_not.1 ?_
              cases hq : mkOut (l.getD i (0, 0)) with
              | false => rfl
              | true => rw [anyq_at.2 ⟨i, hi, hq⟩] at h3; cases h3
            have hr := (risB_iff l (l.length - 1)).1 (by simpa using h4)
            exact ⟨⟨by omega, by omega, fun i hi => (hb i hi).1, fun i hi => (hb i hi).2, fun i hi => (hr i (by omega)).1, fun i hi => (hr i (by omega)).2⟩, by omega, by omega⟩
  · rintro ⟨h, t0, t1⟩
    have n0 := h.n0
    have n1 := h.n1
    rw [if_neg (by omega), if_neg (by omega), if_neg, if_neg]
    · rw [Bool.not_eq_false]
      exact (risB_iff _ _).2 fun i hi => ⟨h.asc i (by omega), h.up i (by omega)⟩
    · rw [Bool.not_eq_true, Bool.or_eq_false_iff, Bool.or_eq_false_iff, decide_eq_false_iff_not, decide_eq_false_iff_not]
      refine ⟨⟨by omega, by omega⟩, ?_⟩
      cases hq : l.any mkOut with
      | false => rfl
      | true =>
        obtain ⟨i, hi, hp⟩ := anyq_at.1 hq
        rw [mkOut_not.2 ⟨h.bh i hi, h.bv i hi⟩] at hp
        cases hp
theorem MR.lt {l : List (Int × Int)} (h : MR l) {i j : Nat} (hij : i < j) (hj : j < l.length) : gX l i < gX l j := by
  induction j with
  | zero => omega
  | succ j ih =>
    have := h.asc j hj
    by_cases e : i = j
    · rw [e]; exact this
    · have := ih (by omega) (by omega); omega
theorem MR.le {l : List (Int × Int)} (h : MR l) {i j : Nat} (hij : i ≤ j) (hj : j < l.length) : gX l i ≤ gX l j := by
  by_cases e : i = j
  · rw [e]; exact Int.le_refl _
  · have := h.lt (show i < j by omega) hj; omega
theorem MR.rle {l : List (Int × Int)} (h : MR l) {i j : Nat} (hij : i ≤ j) (hj : j < l.length) : gR l i ≤ gR l j := by
  induction j with
  | zero => rw [show i = 0 by omega]; exact Int.le_refl _
  | succ j ih =>
    by_cases e : i = j + 1
    · rw [e]; exact Int.le_refl _
    · have := ih (by omega) (by omega); have := h.up j hj; omega
/-- the mark behind the first one that is not below a height -/
def tpc (l : List (Int × Int)) (x : Int) : Nat := 1 + fst (fun i => decide (x ≤ gX l (i + 1))) (l.length - 1)
/-- the volume of a piece at a height -/
def vlF (l : List (Int × Int)) (i : Nat) (x : Int) : Int := gR l (i - 1) + (gR l i - gR l (i - 1)) * (x - gX l (i - 1)) / (gX l i - gX l (i - 1))
/-- the volume at a height -/
def vl (l : List (Int × Int)) (x : Int) : Int := vlF l (tpc l x) x
structure IsT (l : List (Int × Int)) (x : Int) (i : Nat) : Prop where
  h1 : 1 ≤ i
  h2 : i < l.length
  h3 : x ≤ gX l i
  h4 : ∀ j, 1 ≤ j → j < i → gX l j < x
theorem tpc_of {l : List (Int × Int)} {x : Int} {i : Nat} (h : IsT l x i) : tpc l x = i := by
  obtain ⟨h1, h2, h3, h4⟩ := h
  unfold tpc
  rw [fst_is (k := i - 1) (by omega) (fun j hj => decide_eq_false (by have := h4 (j + 1) (by omega) (by omega); omega)) (fun _ => by rw [Nat.sub_add_cancel h1]; exact decide_eq_true h3)]
  omega
theorem tpc_is {l : List (Int × Int)} (h : MR l) {x : Int} (hx : x ≤ gX l (l.length - 1)) : IsT l x (tpc l x) := by
  have n0 := h.n0
  obtain ⟨s1, s2⟩ := fst_spec (fun i => decide (x ≤ gX l (i + 1))) (l.length - 1)
  have le := fst_le (fun i => decide (x ≤ gX l (i + 1))) (l.length - 1)
  unfold tpc
  generalize fst (fun i => decide (x ≤ gX l (i + 1))) (l.length - 1) = k at *
  have hk : k < l.length - 1 := by
    rcases Nat.lt_or_ge k (l.length - 1) with g | g
    · exact g
    · have := of_decide_eq_false (s1 (l.length - 2) (by omega))
      rw [show l.length - 2 + 1 = l.length - 1 by omega] at this
      exact absurd hx this
  refine ⟨by omega, by omega, ?_, fun j hj hj2 => ?_⟩
  · have := of_decide_eq_true (s2 hk)
    rwa [Nat.add_comm] at this
  · have := of_decide_eq_false (s1 (j - 1) (by omega))
    rw [Nat.sub_add_cancel hj] at this
    omega
/-- between two marks -/
theorem vlF_bd {l : List (Int × Int)} (h : MR l) {i : Nat} (i1 : 1 ≤ i) (hi : i < l.length) {x : Int} (x0 : gX l (i - 1) ≤ x) (x1 : x ≤ gX l i) :
    (0 ≤ (gR l i - gR l (i - 1)) * (x - gX l (i - 1)) ∧ (gR l i - gR l (i - 1)) * (x - gX l (i - 1)) ≤ 4294967296 * 200000) ∧ gR l (i - 1) ≤ vlF l i x ∧ vlF l i x ≤ gR l i := by
  have a := h.asc (i - 1) (by omega)
  have u := h.up (i - 1) (by omega)
  have b0 := h.bh (i - 1) (by omega)
  have b1 := h.bh i hi
  have v0 := h.bv (i - 1) (by omega)
  have v1 := h.bv i hi
  rw [Nat.sub_add_cancel i1] at a u
  unfold vlF
  generalize gR l i = R at *
  generalize gR l (i - 1) = Q at *
  generalize gX l i = B at *
  generalize gX l (i - 1) = A at *
  have m0 := Int.mul_nonneg (show 0 ≤ R - Q by omega) (show 0 ≤ x - A by omega)
  have m1 := Int.mul_le_mul (show R - Q ≤ 4294967296 by omega) (show x - A ≤ 200000 by omega) (by omega) (by omega)
  have m2 := Int.mul_le_mul_of_nonneg_left (show x - A ≤ B - A by omega) (show 0 ≤ R - Q by omega)
  have d0 := Int.ediv_nonneg m0 (show 0 ≤ B - A by omega)
  have d1 : (R - Q) * (x - A) / (B - A) ≤ R - Q := by
    have := Int.ediv_le_ediv (show 0 < B - A by omega) m2
    rwa [Int.mul_ediv_cancel _ (by omega)] at this
  exact ⟨⟨m0, m1⟩, by omega, by omega⟩
theorem vlF_mono {l : List (Int × Int)} (h : MR l) {i : Nat} (i1 : 1 ≤ i) (hi : i < l.length) {x y : Int} (xy : x ≤ y) : vlF l i x ≤ vlF l i y := by
  have a := h.asc (i - 1) (by omega)
  have u := h.up (i - 1) (by omega)
  rw [Nat.sub_add_cancel i1] at a u
  unfold vlF
  have := Int.ediv_le_ediv (show 0 < gX l i - gX l (i - 1) by omega) (Int.mul_le_mul_of_nonneg_left (show x - gX l (i - 1) ≤ y - gX l (i - 1) by omega) (show 0 ≤ gR l i - gR l (i - 1) by omega))
  omega
theorem IsT.from {l : List (Int × Int)} {x : Int} {i : Nat} (h : IsT l x i) (x0 : gX l 0 ≤ x) : gX l (i - 1) ≤ x := by
  by_cases e : i = 1
  · subst e; exact x0
  · have := h.h4 (i - 1) (by have := h.h1; omega) (by have := h.h1; omega); omega
theorem vl_end {l : List (Int × Int)} (h : MR l) {i : Nat} (i1 : 1 ≤ i) (hi : i < l.length) : vlF l i (gX l i) = gR l i := by
  have a := h.asc (i - 1) (by omega)
  rw [Nat.sub_add_cancel i1] at a
  unfold vlF
  rw [Int.mul_ediv_cancel _ (by omega)]
  omega
theorem vl_begin (l : List (Int × Int)) (i : Nat) : vlF l i (gX l (i - 1)) = gR l (i - 1) := by
  unfold vlF; simp
theorem vl_bd {l : List (Int × Int)} (h : MR l) {x : Int} (x0 : gX l 0 ≤ x) (x1 : x ≤ gX l (l.length - 1)) : gR l 0 ≤ vl l x ∧ vl l x ≤ gR l (l.length - 1) := by
  have t := tpc_is h x1
  obtain ⟨_, b0, b1⟩ := vlF_bd h t.h1 t.h2 (t.from x0) t.h3
  have := h.rle (Nat.zero_le (tpc l x - 1)) (by have := t.h2; omega)
  have := h.rle (show tpc l x ≤ l.length - 1 by have := t.h2; omega) (by have := h.n0; omega)
  unfold vl
  omega
theorem vl_mark {l : List (Int × Int)} (h : MR l) {i : Nat} (hi : i < l.length) : vl l (gX l i) = gR l i := by
  unfold vl
  by_cases e : i = 0
  · subst e
    rw [tpc_of (i := 1) ⟨by omega, by have := h.n0; omega, h.le (by omega) (by have := h.n0; omega), fun j h1 h2 => by omega⟩]
    exact vl_begin l 1
  · rw [tpc_of (i := i) ⟨by omega, hi, Int.le_refl _, fun j h1 h2 => h.lt h2 hi⟩]
    exact vl_end h (by omega) hi
theorem vl_mono {l : List (Int × Int)} (h : MR l) {x y : Int} (x0 : gX l 0 ≤ x) (xy : x ≤ y) (y1 : y ≤ gX l (l.length - 1)) : vl l x ≤ vl l y := by
  have t := tpc_is h (show x ≤ gX l (l.length - 1) by omega)
  have s := tpc_is h y1
  unfold vl
  by_cases e : tpc l x = tpc l y
  · rw [e]; exact vlF_mono h s.h1 s.h2 xy
  · have lt : tpc l x < tpc l y := by
      rcases Nat.lt_trichotomy (tpc l x) (tpc l y) with g | g | g
      · exact g
      · exact absurd g e
      · have := t.h4 _ s.h1 g; have := s.h3; omega
    obtain ⟨_, _, b1⟩ := vlF_bd h t.h1 t.h2 (t.from x0) t.h3
    obtain ⟨_, b0, _⟩ := vlF_bd h s.h1 s.h2 (s.from (by omega)) s.h3
    have := h.rle (show tpc l x ≤ tpc l y - 1 by omega) (by have := s.h2; omega)
    omega
/-- the least height with at least a volume; one above the last mark, if there is none -/
def lsA (l : List (Int × Int)) (v : Int) : Int := gX l 0 + (fst (fun i => decide (v ≤ vl l (gX l 0 + i))) (gX l (l.length - 1) - gX l 0 + 1).toNat : Nat)
theorem MR.span {l : List (Int × Int)} (h : MR l) : 0 ≤ gX l 0 ∧ gX l 0 < gX l (l.length - 1) ∧ gX l (l.length - 1) ≤ 200000 := by
  have n0 := h.n0
  exact ⟨(h.bh 0 (by omega)).1, h.lt (by omega) (by omega), (h.bh (l.length - 1) (by omega)).2⟩
theorem ls_mono {l : List (Int × Int)} (h : MR l) (v : Int) : ∀ a b : Nat, a ≤ b → b < (gX l (l.length - 1) - gX l 0 + 1).toNat → decide (v ≤ vl l (gX l 0 + a)) = true → decide (v ≤ vl l (gX l 0 + b)) = true := fun a b hab hb ha => by
  have s := h.span
  have := vl_mono h (x := gX l 0 + a) (y := gX l 0 + b) (by omega) (by omega) (by omega)
  have := of_decide_eq_true ha
  exact decide_eq_true (by omega)
theorem ls_bd {l : List (Int × Int)} (h : MR l) (v : Int) : gX l 0 ≤ lsA l v ∧ lsA l v ≤ gX l (l.length - 1) + 1 := by
  have s := h.span
  have := fst_le (fun i => decide (v ≤ vl l (gX l 0 + i))) (gX l (l.length - 1) - gX l 0 + 1).toNat
  unfold lsA
  omega
theorem ls_iff {l : List (Int × Int)} (h : MR l) (v : Int) {x : Int} (x0 : gX l 0 ≤ x) (x1 : x ≤ gX l (l.length - 1)) : v ≤ vl l x ↔ lsA l v ≤ x := by
  have s := h.span
  have := fst_iff (ls_mono h v) (i := (x - gX l 0).toNat) (by omega)
  rw [show gX l 0 + (((x - gX l 0).toNat : Nat) : Int) = x by omega, decide_eq_true_eq] at this
  rw [this]
  unfold lsA
  omega
theorem ls_of {l : List (Int × Int)} (h : MR l) (v : Int) {y : Int} (y0 : gX l 0 ≤ y) (y1 : y ≤ gX l (l.length - 1) + 1) (hy : ∀ x, gX l 0 ≤ x → x ≤ gX l (l.length - 1) → (v ≤ vl l x ↔ y ≤ x)) : lsA l v = y := by
  have b := ls_bd h v
  rcases Int.lt_trichotomy (lsA l v) y with g | g | g
  · have := (hy (lsA l v) b.1 (by omega)).1 ((ls_iff h v b.1 (by omega)).2 (Int.le_refl _)); omega
  · exact g
  · have := (ls_iff h v y0 (by omega)).1 ((hy y y0 (by omega)).2 (Int.le_refl _)); omega
/-- the greatest height with at most a volume -/
theorem ls_top {l : List (Int × Int)} (h : MR l) {v : Int} (v0 : gR l 0 ≤ v) : gX l 0 ≤ lsA l (v + 1) - 1 := by
  have s := h.span
  have b := ls_bd h (v + 1)
  have m := vl_mark h (i := 0) (by have := h.n0; omega)
  have : ¬ lsA l (v + 1) ≤ gX l 0 := fun g => by
    have := (ls_iff h (v + 1) (Int.le_refl _) (by omega)).2 g
    omega
  omega
theorem ls_up {l : List (Int × Int)} (h : MR l) {u v : Int} (huv : u ≤ v) : lsA l u ≤ lsA l v := by
  have b := ls_bd h v
  by_cases g : lsA l v ≤ gX l (l.length - 1)
  · have := (ls_iff h v b.1 g).2 (Int.le_refl _)
    exact (ls_iff h u b.1 g).1 (by omega)
  · have := ls_bd h u; omega
/-- what Heights returns -/
def htE (l : List (Int × Int)) (tol v : Int) : Int := if tbE l tol ≠ 0 then 1 else if v < gR l 0 ∨ gR l (l.length - 1) < v then 2 else 0
def htH (l : List (Int × Int)) (v : Int) : Int := lsA l (v + 1) - 1
def htL (l : List (Int × Int)) (v : Int) : Int := min (lsA l v) (lsA l (v + 1) - 1)
/-- what Read returns -/
def rdE (l : List (Int × Int)) (tol x : Int) : Int := if tbE l tol ≠ 0 then 1 else if x < gX l 0 ∨ gX l (l.length - 1) < x then 2 else 0
def rdQ (l : List (Int × Int)) (tol x : Int) : Int := if rdE l tol x = 0 then vl l x else 0
theorem rdE_zero {l : List (Int × Int)} {tol x : Int} : rdE l tol x = 0 ↔ tbE l tol = 0 ∧ gX l 0 ≤ x ∧ x ≤ gX l (l.length - 1) := by
  unfold rdE
  by_cases h : tbE l tol = 0
  · rw [if_neg (by simpa using h)]
    split <;> omega
  · rw [if_pos h]; omega
theorem htE_zero {l : List (Int × Int)} {tol v : Int} : htE l tol v = 0 ↔ tbE l tol = 0 ∧ gR l 0 ≤ v ∧ v ≤ gR l (l.length - 1) := by
  unfold htE
  by_cases h : tbE l tol = 0
  · rw [if_neg (by simpa using h)]
    split <;> omega
  · rw [if_pos h]; omega
end Go.Proofs.YtbaiekoedmhhaaaDoor

/- A cell below. -/
namespace Go.Proofs.YtbaiekoedmhhaaaDoor
open Go.RowKit

theorem cell_bel {w w' : World} {p : Addr} {v : Value} (h : w.cell? p = some v) (hb : Below w.heap.size w w') : w'.cell? p = some v := by
  rw [hb.cell (World.block_lt_of_cell? w _ h)]; exact h
end Go.Proofs.YtbaiekoedmhhaaaDoor

/- sort.Search with a closure; package dip: at. -/
namespace Go.Proofs.YtbaiekoedmhhaaaDoor
open Go.RowKit

set_option maxHeartbeats 8000000 in
set_option maxRecDepth 100000 in
theorem search_bel (g : Nat) (cb : Array Value) (n : Nat) (p : Nat → Bool) (w : World) (eg : ∀ args w, (callFunc g args).run Tryd.prog w = .ok (.enter g args) w) (hsz : n ≤ 1000000)
    (hf : Hid (∀ (i : Nat) W, i < n → Below w.heap.size w W → Calls Tryd.prog g (#[.int .i64 i] ++ cb) W fun e w' => e = .returned (.bool (p i)) ∧ Below W.heap.size W w'))
    (hm : Hid (∀ a b, a ≤ b → b < n → p a = true → p b = true)) :
    Calls Tryd.prog 39 #[.int .i64 n, .func (.func g) #[] cb] w fun e w' => e = .returned (.int .i64 (fst p n : Nat)) ∧ Below w.heap.size w w' := by
  go_enter Tryd.func39, Tryd.ntmps39
  go_wp2_with fail
  go_loopw [5, 6] (fun s5 s6 wr => ∃ lo hi : Nat, s5 = .int .i64 lo ∧ s6 = .int .i64 hi ∧ lo ≤ hi ∧ hi ≤ n ∧ Hid (Below w.heap.size w wr) ∧ Hid ((∀ t, t < lo → p t = false) ∧ (∀ t, hi ≤ t → t < n → p t = true))) (fun s5 s6 _ => (intOf s6).toNat - (intOf s5).toNat)
  case atStart => exact ⟨0, n, rfl, rfl, Nat.zero_le _, Nat.le_refl _, Below.refl _ _, ⟨fun t ht => absurd ht (Nat.not_lt_zero _), fun t h1 h2 => by omega⟩⟩
  case round =>
    obtain ⟨lo, hi, rfl, rfl, hlh, hin, hB, I⟩ := hrel
    by_cases hlt : lo < hi
    · have hc := hf.out ((lo + hi) / 2)
      have HM := Lib.hid (fun t (h1 : (lo + hi) / 2 ≤ t) (h2 : t < n) (h3 : p ((lo + hi) / 2) = true) => hm.out ((lo + hi) / 2) t h1 h2 h3)
      have HN := Lib.hid (fun t (h1 : t ≤ (lo + hi) / 2) (h3 : p ((lo + hi) / 2) = false) => show p t = false by
        cases hp : p t with
        | false => rfl
        | true => rw [hm.out t ((lo + hi) / 2) h1 (by omega) hp] at h3; cases h3)
      rw [show (((lo + hi) / 2 : Nat) : Int) = ((lo : Int) + (hi : Int)) / 2 by omega] at hc
      have HC := Lib.hid (fun W hW => hc W (by omega) hW)
      clear hc
      have l0 : (lo : Int) < (hi : Int) := by omega
      have m1 : (lo + hi) / 2 < hi := by omega
      have m2 : lo ≤ (lo + hi) / 2 := by omega
      have me : ((lo : Int) + (hi : Int)) / 2 = (((lo + hi) / 2 : Nat) : Int) := by omega
      replace me := Lib.hid me
      cases hp : p ((lo + hi) / 2) with
      | false =>
        rw [hp] at HC
        replace hp := Lib.hid hp
        go_wp2_with fail
        refine (HC.out _ hB.out).mono ?_
        rintro e w2 ⟨rfl, gg⟩
        have X := Lib.hid (bel_trans hB.out gg); clear gg
        go_wp2
        go_roundw
        case rel => exact ⟨(lo + hi) / 2 + 1, hi, by rw [me.out]; go_num, rfl, by omega, hin, X, ⟨fun t ht => HN.out t (by omega) hp.out, I.out.2⟩⟩
        case measure => simp [intOf]; omega
      | true =>
        rw [hp] at HC
        replace hp := Lib.hid hp
        go_wp2_with fail
        refine (HC.out _ hB.out).mono ?_
        rintro e w2 ⟨rfl, gg⟩
        have X := Lib.hid (bel_trans hB.out gg); clear gg
        go_wp2
        go_roundw
        case rel => exact ⟨lo, (lo + hi) / 2, rfl, by rw [me.out], m2, by omega, X, ⟨I.out.1, fun t h1 h2 => HM.out t h1 h2 hp.out⟩⟩
        case measure => simp [intOf]; omega
    · obtain rfl : lo = hi := by omega
      have e : fst p n = lo := fst_is hin I.out.1 (fun h => I.out.2 lo (Nat.le_refl _) h)
      replace e := Lib.hid e
      go_wp2
      go_returns
      exact ⟨by show Ending.returned (.int .i64 (lo : Int)) = _; rw [e.out], hB.out⟩
theorem MR.find {l : List (Int × Int)} (h : MR l) {x : Int} (x1 : x ≤ gX l (l.length - 1)) :
    fst (fun i => decide (x ≤ gX l i)) l.length < l.length ∧ x ≤ gX l (fst (fun i => decide (x ≤ gX l i)) l.length) ∧ ∀ j, j < fst (fun i => decide (x ≤ gX l i)) l.length → gX l j < x := by
  have n0 := h.n0
  obtain ⟨s1, s2⟩ := fst_spec (fun i => decide (x ≤ gX l i)) l.length
  have lt : fst (fun i => decide (x ≤ gX l i)) l.length < l.length := by
    rcases Nat.lt_or_ge (fst (fun i => decide (x ≤ gX l i)) l.length) l.length with g | g
    · exact g
    · have := of_decide_eq_false (s1 (l.length - 1) (by omega)); omega
  exact ⟨lt, of_decide_eq_true (s2 lt), fun j hj => by have := of_decide_eq_false (s1 j hj); omega⟩
theorem bxd_below {W W' : World} {b : Nat} {t : TypeId} {v : Value} (h : Boxed W b t v) (hb : Below W.heap.size W W') : Boxed W' b t v := by
  show W'.heap[b]? = _
  rw [hb.block _ h.lt]
  exact h
end Go.Proofs.YtbaiekoedmhhaaaDoor

/- slices.IndexFunc and ContainsFunc over marks; package dip: Check. -/
namespace Go.Proofs.YtbaiekoedmhhaaaDoor
open Go.RowKit

/-- the index of the first place at which p holds; -1 if there is none -/
def ixR (p : Nat → Bool) (n : Nat) : Int := if fst p n < n then (fst p n : Int) else -1
theorem ixR_at {p : Nat → Bool} {n k : Nat} (hk : k < n) (h1 : ∀ j, j < k → p j = false) (h2 : p k = true) : ixR p n = k := by
  unfold ixR
  rw [fst_is (by omega) h1 (fun _ => h2), if_pos hk]
theorem ixR_no {p : Nat → Bool} {n : Nat} (h1 : ∀ j, j < n → p j = false) : ixR p n = -1 := by
  unfold ixR
  rw [fst_is (Nat.le_refl _) h1 (fun h => by omega), if_neg (by omega)]
theorem ixR_iff (p : Nat → Bool) (n : Nat) : 0 ≤ ixR p n ↔ ∃ j, j < n ∧ p j = true := by
  unfold ixR
  obtain ⟨s1, s2⟩ := fst_spec p n
  by_cases h : fst p n < n
  · rw [if_pos h]
    exact ⟨fun _ => ⟨_, h, s2 h⟩, fun _ => by omega⟩
  · rw [if_neg h]
    refine ⟨fun h => by omega, ?_⟩
    rintro ⟨j, hj, e⟩
    rw [s1 j (by omega)] at e
    cases e
set_option maxHeartbeats 8000000 in
set_option maxRecDepth 100000 in
theorem idxm_some (f : Nat) (cb : Array Value) (p : Nat → Bool) (eg : ∀ args w, (callFunc f args).run Tryd.prog w = .ok (.enter f args) w)
    (b off n cap : Nat) (l : List (Int × Int)) (w : World) (n1 : n ≤ 1000) (hb : b < w.heap.size)
    (hc : Hid (∀ j, j < n → w.cell? ⟨b, off + j * 2, none⟩ = some (.int .i64 (gX l j)) ∧ w.cell? ⟨b, off + j * 2 + 1, none⟩ = some (.int .i64 (gR l j))))
    (hp : Hid (∀ j W, j < n → Below w.heap.size w W → Calls Tryd.prog f (#[.agg #[.int .i64 (gX l j), .int .i64 (gR l j)]] ++ cb) W fun e w' => e = .returned (.bool (p j)) ∧ Below W.heap.size W w')) :
    Calls Tryd.prog 50 #[.slice (some ⟨b, off, none⟩) n cap, .func (.func f) #[] cb] w fun e w' => e = .returned (.int .i64 (ixR p n)) ∧ Below w.heap.size w w' := by
  go_enter Tryd.func50, Tryd.ntmps50
  go_wp2_with fail
  go_loopw [5, 8] (fun _ i wr => ∃ k : Nat, k ≤ n ∧ i = .int .i64 k ∧ Hid (Below w.heap.size w wr) ∧ Hid (∀ j, j < k → p j = false)) (fun _ i _ => n - (intOf i).toNat)
  case atStart => exact ⟨0, Nat.zero_le _, rfl, Below.refl _ _, fun j hj => by omega⟩
  case round =>
    obtain ⟨k, hk, rfl, hB, ha⟩ := hrel
    by_cases hlt : k < n
    · have c0 : wr.cell? ⟨b, off + k * 2, none⟩ = some (.int .i64 (gX l k)) := by rw [(bcell hB.out).1 _ _ hb]; exact (hc.out k hlt).1
      have c1 : wr.cell? ⟨b, off + k * 2 + 1, none⟩ = some (.int .i64 (gR l k)) := by rw [(bcell hB.out).1 _ _ hb]; exact (hc.out k hlt).2
      have HP := Lib.hid (fun W (hW : Below wr.heap.size wr W) => hp.out k W hlt (bel_trans hB.out hW))
      cases hq : p k with
      | true =>
        have hBt := Lib.hid (ixR_at hlt ha.out hq)
        rw [hq] at HP
        clear hq
        generalize gX l k = x at *
        generalize gR l k = r at *
        go_wp2_with fail
        refine (HP.out _ (by first | exact Below.refl _ _ | exact bel_alloc (Below.refl _ _) | exact bel_drew _ | exact bel_alloc (bel_alloc (Below.refl _ _)))).mono ?_
        rintro e w2 ⟨rfl, gg⟩
        have X := Lib.hid (bel_trans hB.out gg); clear gg
        go_wp2
        go_returns
        exact ⟨by rw [hBt.out]; rfl, X.out⟩
      | false =>
        have ha2 : Hid (∀ j, j < k + 1 → p j = false) := fun j hj => by
          by_cases e : j = k
          · rw [e]; exact hq
          · exact ha.out j (by omega)
        rw [hq] at HP
        clear hq ha
        generalize gX l k = x at c0 HP
        generalize gR l k = r at c1 HP
        go_wp2_with fail
        refine (HP.out _ (by first | exact Below.refl _ _ | exact bel_alloc (Below.refl _ _) | exact bel_drew _ | exact bel_alloc (bel_alloc (Below.refl _ _)))).mono ?_
        rintro e w2 ⟨rfl, gg⟩
        have X := Lib.hid (bel_trans hB.out gg); clear gg
        go_wp2
        go_roundw
        case rel => exact ⟨k + 1, by omega, by go_num, X, ha2⟩
        case measure => simp [intOf]; omega
    · obtain rfl : k = n := by omega
      have hBf := Lib.hid (ixR_no ha.out)
      go_wp2
      go_returns
      exact ⟨by rw [hBf.out]; rfl, hB.out⟩
set_option maxHeartbeats 8000000 in
theorem idxm_nil (f : Value) (a : Option Addr) (cap : Nat) (p : Nat → Bool) (w : World) :
    Calls Tryd.prog 50 #[.slice a 0 cap, f] w fun e w' => e = .returned (.int .i64 (ixR p 0)) ∧ Below w.heap.size w w' := by
  have hBf : Hid (ixR p 0 = -1) := Lib.hid (ixR_no fun j hj => by omega)
  go_enter Tryd.func50, Tryd.ntmps50
  go_wp2_with fail
  go_loopw [5, 8] (fun _ i wr => i = .int .i64 0 ∧ Hid (Below w.heap.size w wr)) (fun _ _ _ => 0)
  case atStart => exact ⟨rfl, Below.refl _ _⟩
  case round =>
    obtain ⟨rfl, hB⟩ := hrel
    go_wp2
    go_returns
    exact ⟨by rw [hBf.out]; rfl, hB.out⟩
theorem conm_of (f : Value) (v : Value) (a : Option Addr) (n cap : Nat) (hv : v = .slice a n cap) (p : Nat → Bool) (B : Bool) (w : World)
    (HI : Hid (Calls Tryd.prog 50 #[v, f] w fun e w' => e = .returned (.int .i64 (ixR p n)) ∧ Below w.heap.size w w'))
    (hB : Hid (B = true ↔ ∃ j, j < n ∧ p j = true)) :
    Calls Tryd.prog 45 #[v, f] w fun e w' => e = .returned (.bool B) ∧ Below w.heap.size w w' := by
  subst hv
  have h : decide (0 ≤ ixR p n) = B := by
    rw [Bool.eq_iff_iff, decide_eq_true_eq, ixR_iff]; exact hB.out.symm
  clear hB
  generalize ixR p n = k at *
  subst h
  go_enter Tryd.func45, Tryd.ntmps45
  go_wp2_with fail
  refine HI.out.mono ?_
  rintro e w1 ⟨rfl, hb⟩
  have HB := Lib.hid hb; clear hb
  go_wp2
  all_goals
    go_ret
    exact ⟨by simp_all, HB.out⟩
/-- IndexFunc over a slice that reads as marks -/
theorem idxm_any (f : Nat) (cb : Array Value) (p : Nat → Bool) (eg : ∀ args w, (callFunc f args).run Tryd.prog w = .ok (.enter f args) w)
    (v : Value) (l : List (Int × Int)) (w : World) (n1 : l.length ≤ 1000) (hv : Pts w v l)
    (hp : Hid (∀ j W, j < l.length → Below w.heap.size w W → Calls Tryd.prog f (#[.agg #[.int .i64 (gX l j), .int .i64 (gR l j)]] ++ cb) W fun e w' => e = .returned (.bool (p j)) ∧ Below W.heap.size W w')) :
    Calls Tryd.prog 50 #[v, .func (.func f) #[] cb] w fun e w' => e = .returned (.int .i64 (ixR p l.length)) ∧ Below w.heap.size w w' := by
  obtain ⟨a, cap, rfl, hcap, hh⟩ := hv
  rcases hh with h0 | ⟨b, off, rfl, hb, hc⟩
  · rw [h0]; exact idxm_nil _ a cap p w
  · exact idxm_some f cb p eg b off _ cap l w n1 hb (Lib.hid hc) hp
/-! ### Check -/
set_option maxHeartbeats 4000000 in
theorem dipOut_any (x v : Int) (w : World) :
    Calls Tryd.prog 46 #[.agg #[.int .i64 x, .int .i64 v]] w fun e w' => e = .returned (.bool (mkOut (x, v))) ∧ Below w.heap.size w w' := by
  unfold mkOut
  have X := Lib.hid (bel_alloc (o := .cells #[.int .i64 x, .int .i64 v] 48) (Below.refl _ (w.alloc (.cells #[.int .i64 x, .int .i64 v] 48))))
  show Calls _ _ _ _ fun e w' => e = .returned (.bool (decide (x < 0) || decide (200000 < x) || decide (v < 0) || decide (4294967296 < v))) ∧ _
  by_cases h0 : x < 0
  · have d0 : decide (x < 0) = true := decide_eq_true h0
    rw [d0, Bool.true_or, Bool.true_or, Bool.true_or]
    clear h0
    go_enter Tryd.func46, Tryd.ntmps46
    go_wp2
    go_returns
    exact ⟨rfl, X.out⟩
  have d0 : decide (x < 0) = false := decide_eq_false h0
  by_cases h1 : 200000 < x
  · have d1 : decide (200000 < x) = true := decide_eq_true h1
    rw [d0, d1, Bool.false_or, Bool.true_or, Bool.true_or]
    clear h0 h1
    go_enter Tryd.func46, Tryd.ntmps46
    go_wp2
    go_returns
    exact ⟨rfl, X.out⟩
  have d1 : decide (200000 < x) = false := decide_eq_false h1
  by_cases h2 : v < 0
  · have d2 : decide (v < 0) = true := decide_eq_true h2
    rw [d0, d1, d2, Bool.false_or, Bool.false_or, Bool.true_or]
    clear h0 h1 h2
    go_enter Tryd.func46, Tryd.ntmps46
    go_wp2
    go_returns
    exact ⟨rfl, X.out⟩
  have d2 : decide (v < 0) = false := decide_eq_false h2
  rw [d0, d1, d2, Bool.false_or, Bool.false_or, Bool.false_or]
  clear h0 h1 h2
  generalize hB : decide (4294967296 < v) = B
  go_enter Tryd.func46, Tryd.ntmps46
  go_wp2
  go_returns
  exact ⟨rfl, X.out⟩
set_option maxHeartbeats 8000000 in
set_option maxRecDepth 100000 in
theorem dipRis_some (b off q cap : Nat) (l : List (Int × Int)) (A : Bool) (w : World) (n0 : 1 ≤ q) (n1 : q ≤ 200) (hb : b < w.heap.size) (hcap : q + 1 ≤ cap)
    (hc : Hid (∀ j, j < q + 1 → w.cell? ⟨b, off + j * 2, none⟩ = some (.int .i64 (gX l j)) ∧ w.cell? ⟨b, off + j * 2 + 1, none⟩ = some (.int .i64 (gR l j))))
    (h5 : Hid ((∃ i, i < q ∧ ¬ (gX l i < gX l (i + 1) ∧ gR l i ≤ gR l (i + 1))) → A = false)) (h6 : Hid ((∀ i, i < q → gX l i < gX l (i + 1) ∧ gR l i ≤ gR l (i + 1)) → A = true)) :
    Calls Tryd.prog 47 #[.slice (some ⟨b, off, none⟩) (q + 1) cap] w fun e w' => e = .returned (.bool A) ∧ Below w.heap.size w w' := by
  have hc1 : ¬ cap = 1 := by omega
  go_enter Tryd.func47, Tryd.ntmps47
  go_wp2_with fail
  go_loopw [8] (fun ii wr => ∃ j : Nat, j ≤ q ∧ ii = .int .i64 (j : Int) ∧ Hid (Below w.heap.size w wr) ∧ Hid (∀ i, i < j → gX l i < gX l (i + 1) ∧ gR l i ≤ gR l (i + 1))) (fun ii _ => q - (intOf ii).toNat)
  case atStart => exact ⟨0, by omega, rfl, Below.refl _ _, fun i hi => by omega⟩
  case round =>
    obtain ⟨j, hj, rfl, hB, hs⟩ := hrel
    by_cases hlt : j < q
    · have bb : b < wr.heap.size := Nat.lt_of_lt_of_le hb hB.out.size
      have c0 : wr.cell? ⟨b, off + j * 2, none⟩ = some (.int .i64 (gX l j)) := by rw [(bcell hB.out).1 _ _ hb]; exact (hc.out j (by omega)).1
      have c1 : wr.cell? ⟨b, off + j * 2 + 1, none⟩ = some (.int .i64 (gR l j)) := by rw [(bcell hB.out).1 _ _ hb]; exact (hc.out j (by omega)).2
      have c2 : wr.cell? ⟨b, off + 2 + j * 2, none⟩ = some (.int .i64 (gX l (j + 1))) := by rw [show off + 2 + j * 2 = off + (j + 1) * 2 by omega, (bcell hB.out).1 _ _ hb]; exact (hc.out (j + 1) (by omega)).1
      have c3 : wr.cell? ⟨b, off + 2 + j * 2 + 1, none⟩ = some (.int .i64 (gR l (j + 1))) := by rw [show off + 2 + j * 2 + 1 = off + (j + 1) * 2 + 1 by omega, (bcell hB.out).1 _ _ hb]; exact (hc.out (j + 1) (by omega)).2
      have HG : Hid (gX l j < gX l (j + 1) ∧ gR l j ≤ gR l (j + 1) → ∀ i, i < j + 1 → gX l i < gX l (i + 1) ∧ gR l i ≤ gR l (i + 1)) := fun h i hi => by
        by_cases e : i = j
        · rw [e]; exact h
        · exact hs.out i (by omega)
      have HN : Hid (¬ (gX l j < gX l (j + 1) ∧ gR l j ≤ gR l (j + 1)) → A = false) := fun h => h5.out ⟨j, hlt, h⟩
      generalize gX l j = x at *
      generalize gR l j = u at *
      generalize gX l (j + 1) = y at *
      generalize gR l (j + 1) = v at *
      have l0 : (j : Int) < (q : Int) + 1 := by omega
      have d0 : (wr.alloc (.cells #[.int .i64 y, .int .i64 v] 48)).cell? ⟨b, off + j * 2, none⟩ = some (.int .i64 x) := by rw [World.cell?_alloc_lt wr _ _ bb]; exact c0
      have d1 : (wr.alloc (.cells #[.int .i64 y, .int .i64 v] 48)).cell? ⟨b, off + j * 2 + 1, none⟩ = some (.int .i64 u) := by rw [World.cell?_alloc_lt wr _ _ bb]; exact c1
      have X := Lib.hid (bel_trans hB.out (bel_alloc (o := .cells #[.int .i64 y, .int .i64 v] 48) (Below.refl _ _)))
      have X2 : Hid (∀ m, Below w.heap.size w ((wr.alloc (.cells #[.int .i64 y, .int .i64 v] 48)).drewN m)) := Lib.hid fun m => ⟨X.out.os, X.out.tape, X.out.output, X.out.size, X.out.block⟩
      by_cases hxy : y ≤ x
      · obtain rfl := HN.out (by omega)
        have hd : decide (y ≤ x) = true := decide_eq_true hxy
        clear HN HG h5 h6 hxy
        go_wp2_with fail
        go_quiet (fail)
        go_wp2
        go_returns
        exact ⟨rfl, X2.out _⟩
      · have hd : decide (y ≤ x) = false := decide_eq_false hxy
        by_cases huv : v < u
        · obtain rfl := HN.out (by omega)
          have hd2 : decide (v < u) = true := decide_eq_true huv
          clear HN HG h5 h6 hxy huv
          go_wp2_with fail
          go_quiet (fail)
          go_wp2
          go_returns
          exact ⟨rfl, X2.out _⟩
        · have hd2 : decide (v < u) = false := decide_eq_false huv
          replace HG := Lib.hid (HG.out (by omega))
          clear HN hxy huv
          go_wp2_with fail
          go_quiet (fail)
          go_wp2
          go_roundw
          case rel => exact ⟨j + 1, by omega, by go_num, X2.out _, HG.out⟩
          case measure => simp [intOf]; omega
    · obtain rfl : j = q := by omega
      obtain rfl := h6.out hs.out
      clear h5 h6
      go_wp2
      go_returns
      exact ⟨rfl, hB.out⟩
end Go.Proofs.YtbaiekoedmhhaaaDoor

/- Package dip: Check, ends, Read. -/
namespace Go.Proofs.YtbaiekoedmhhaaaDoor
open Go.RowKit

/-- a value that reads as a table -/
def TbV (w : World) (v : Value) (l : List (Int × Int)) (tol : Int) : Prop := ∃ a cap, v = .agg #[.slice a l.length cap, .int .i64 tol] ∧ Pts w (.slice a l.length cap) l
theorem TbV.below {w w' : World} {v : Value} {l : List (Int × Int)} {tol : Int} (h : TbV w v l tol) (hb : Below w.heap.size w w') : TbV w' v l tol := by
  obtain ⟨a, cap, e, hp⟩ := h
  exact ⟨a, cap, e, hp.below hb⟩
set_option maxHeartbeats 8000000 in
theorem dipChk_len (a : Option Addr) (n cap : Nat) (tol V : Int) (w : World) (h : (n < 2 ∧ V = 9) ∨ (¬ n < 2 ∧ 128 < n ∧ n ≤ 9223372036854775807 ∧ V = 8)) :
    Calls Tryd.prog 38 #[.agg #[.slice a n cap, .int .i64 tol]] w fun e w' => e = .returned (.int .i64 V) ∧ Below w.heap.size w w' := by
  have X1 : Hid (Below w.heap.size w (w.alloc (.cells #[.slice a n cap, .int .i64 tol] 41))) := Lib.hid (bel_alloc (Below.refl _ _))
  rcases h with ⟨h, rfl⟩ | ⟨h, h2, h3, rfl⟩
  all_goals
    go_enter Tryd.func38, Tryd.ntmps38
    go_wp2
    go_returns
    exact ⟨rfl, X1.out⟩
set_option maxHeartbeats 8000000 in
theorem dipChk_tol (a : Option Addr) (n cap : Nat) (tol : Int) (w : World) (n0 : 2 ≤ n) (n1 : n ≤ 128) (h : tol < 0 ∨ (¬ tol < 0 ∧ 4294967296 < tol)) :
    Calls Tryd.prog 38 #[.agg #[.slice a n cap, .int .i64 tol]] w fun e w' => e = .returned (.int .i64 2) ∧ Below w.heap.size w w' := by
  have X1 : Hid (Below w.heap.size w (w.alloc (.cells #[.slice a n cap, .int .i64 tol] 41))) := Lib.hid (bel_alloc (Below.refl _ _))
  rcases h with h | ⟨h, h2⟩
  · have d1 : decide (tol < 0) = true := decide_eq_true h
    go_enter Tryd.func38, Tryd.ntmps38
    go_wp2
    go_returns
    exact ⟨rfl, X1.out⟩
  · have d1 : decide (tol < 0) = false := decide_eq_false h
    have d2 : decide (4294967296 < tol) = true := decide_eq_true h2
    go_enter Tryd.func38, Tryd.ntmps38
    go_wp2
    go_returns
    exact ⟨rfl, X1.out⟩
set_option maxHeartbeats 8000000 in
theorem dipChk_core (a : Option Addr) (n cap : Nat) (tol V : Int) (O A : Bool) (w : World) (n0 : 2 ≤ n) (n1 : n ≤ 128) (h0 : ¬ tol < 0) (h1 : ¬ 4294967296 < tol) (hV : (O = true ∧ V = 2) ∨ (O = false ∧ A = false ∧ V = 5) ∨ (O = false ∧ A = true ∧ V = 0))
    (H3 : Hid (∀ W, Below w.heap.size w W → Calls Tryd.prog 45 #[.slice a n cap, .func (.func 46) #[] #[]] W fun e w' => e = .returned (.bool O) ∧ Below W.heap.size W w'))
    (H4 : Hid (∀ W, Below w.heap.size w W → Calls Tryd.prog 47 #[.slice a n cap] W fun e w' => e = .returned (.bool A) ∧ Below W.heap.size W w')) :
    Calls Tryd.prog 38 #[.agg #[.slice a n cap, .int .i64 tol]] w fun e w' => e = .returned (.int .i64 V) ∧ Below w.heap.size w w' := by
  have d1 : decide (tol < 0) = false := decide_eq_false h0
  have d2 : decide (4294967296 < tol) = false := decide_eq_false h1
  have T0 := Lib.hid (Two.new w (.slice a n cap) (.int .i64 tol) 41)
  clear h0 h1
  go_enter Tryd.func38, Tryd.ntmps38
  go_wp2_with fail
  refine (H3.out _ (bel_alloc (Below.refl _ _))).mono ?_
  rintro e w1 ⟨rfl, gg⟩
  replace T0 := Lib.hid (T0.out.below gg)
  have X1 := Lib.hid (bel_alloc gg); clear gg
  obtain ⟨t0, t1, _, _, _⟩ := T0.out
  rcases hV with ⟨rfl, rfl⟩ | hV
  · go_wp2
    go_returns
    exact ⟨rfl, X1.out⟩
  rcases hV with ⟨rfl, rfl, rfl⟩ | ⟨rfl, rfl, rfl⟩
  all_goals
    go_wp2_with fail
    refine (H4.out _ X1.out).mono ?_
    rintro e w2 ⟨rfl, gg⟩
    replace X1 := Lib.hid (bel_trans X1.out gg); clear gg t0 t1
    go_wp2
    go_returns
    exact ⟨rfl, X1.out⟩
theorem dipChk_any (v : Value) (l : List (Int × Int)) (tol : Int) (w : World) (hv : TbV w v l tol) :
    Calls Tryd.prog 38 #[v] w fun e w' => e = .returned (.int .i64 (tbE l tol)) ∧ Below w.heap.size w w' := by
  obtain ⟨a, cap, rfl, hp⟩ := hv
  unfold tbE
  by_cases g1 : l.length < 2
  · rw [if_pos g1]
    exact dipChk_len a _ cap tol _ w (.inl ⟨g1, rfl⟩)
  · rw [if_neg g1]
    by_cases g2 : 128 < l.length
    · rw [if_pos g2]
      obtain ⟨_, _, e, hc, _⟩ := hp
      simp only [Value.slice.injEq, true_and] at e
      obtain ⟨rfl, rfl⟩ := e
      exact dipChk_len _ _ cap tol _ w (.inr ⟨g1, g2, by omega, rfl⟩)
    · rw [if_neg g2]
      by_cases g3 : tol < 0 ∨ 4294967296 < tol
      · rw [if_pos (by rw [Bool.or_eq_true, Bool.or_eq_true, decide_eq_true_eq, decide_eq_true_eq]; exact .inl g3)]
        exact dipChk_tol a _ cap tol w (by omega) (by omega) (by omega)
      · have e3 : (decide (tol < 0) || decide (4294967296 < tol)) = false := by rw [Bool.or_eq_false_iff, decide_eq_false_iff_not, decide_eq_false_iff_not]; omega
        rw [e3, Bool.false_or]
        have H3 : Hid (∀ W, Below w.heap.size w W → Calls Tryd.prog 45 #[.slice a l.length cap, .func (.func 46) #[] #[]] W fun e w' => e = .returned (.bool (l.any mkOut)) ∧ Below W.heap.size W w') := Lib.hid fun W hW => by
          refine conm_of _ _ a _ cap rfl (fun j => mkOut (gX l j, gR l j)) _ W (Lib.hid (idxm_any 46 #[] _ (enters_of Tryd.func46 (by kernel_rfl) rfl) _ l W (by omega) (hp.below hW) (Lib.hid fun j W2 hj hW2 => dipOut_any _ _ W2))) (Lib.hid ?_)
          exact anyq_at
        obtain ⟨b, off, rfl, hb, hc⟩ := hp.at (by omega)
        have hcp : l.length ≤ cap := by
          obtain ⟨_, _, e, hcp, _⟩ := hp
          simp only [Value.slice.injEq, true_and] at e
          omega
        obtain ⟨q, hq⟩ : ∃ q, l.length = q + 1 := ⟨l.length - 1, by omega⟩
        rw [hq] at H3 hc hcp ⊢
        rw [Nat.add_sub_cancel]
        refine dipChk_core _ _ cap tol _ (l.any mkOut) (risB l q) w (by omega) (by omega) (by omega) (by omega) ?_ H3 (Lib.hid fun W hW => dipRis_some b off q cap l _ W (by omega) (by omega) (Nat.lt_of_lt_of_le hb hW.size) hcp (Lib.hid fun j hj => ⟨by rw [(bcell hW).1 _ _ hb]; exact (hc j hj).1, by rw [(bcell hW).1 _ _ hb]; exact (hc j hj).2⟩) (Lib.hid fun ⟨i, hi, hx⟩ => ?_) (Lib.hid fun h => (risB_iff l q).2 h))
        · cases l.any mkOut with
          | true => left; simp
          | false =>
            right
            cases risB l q with
            | false => left; simp
            | true => right; simp
        · rw [Bool.eq_false_iff]
          intro h
          exact hx ((risB_iff l q).1 h i hi)
/-! ### ends -/
def EnI (w : World) (x y : Value) (W : World) : Prop :=
  Two w.heap.size W x y ∧ Two (w.heap.size + 1) W (.int .i64 0) (.int .i64 0) ∧ Two (w.heap.size + 1 + 1) W (.int .i64 0) (.int .i64 0) ∧ Below w.heap.size w W
theorem EnI.below {w : World} {x y : Value} {W W' : World} (h : EnI w x y W) (hb : Below W.heap.size W W') : EnI w x y W' := ⟨h.1.below hb, h.2.1.below hb, h.2.2.1.below hb, bel_trans h.2.2.2 hb⟩
theorem EnI.init (w : World) (x y : Value) (T U : TypeId) : EnI w x y (((w.alloc (.cells #[x, y] T)).alloc (.cells #[.int .i64 0, .int .i64 0] U)).alloc (.cells #[.int .i64 0, .int .i64 0] U)) := by
  have h2 := Two.new (w.alloc (.cells #[x, y] T)) (.int .i64 0) (.int .i64 0) U
  have h3 := Two.new ((w.alloc (.cells #[x, y] T)).alloc (.cells #[.int .i64 0, .int .i64 0] U)) (.int .i64 0) (.int .i64 0) U
  rw [World.size_alloc] at h2
  rw [World.size_alloc, World.size_alloc] at h3
  exact ⟨((Two.new w x y T).alloc _).alloc _, h2.alloc _, h3, bel_alloc (bel_alloc (bel_alloc (Below.refl _ _)))⟩
/-- the two marks are written -/
theorem EnI.put {w : World} {x y : Value} {W : World} (h : EnI w x y W) (p q r s : Value) :
    Two (w.heap.size + 1) ((((W.setCell ⟨w.heap.size + 1, 0, none⟩ p).setCell ⟨w.heap.size + 1, 1, none⟩ q).setCell ⟨w.heap.size + 1 + 1, 0, none⟩ r).setCell ⟨w.heap.size + 1 + 1, 1, none⟩ s) p q ∧
    Two (w.heap.size + 1 + 1) ((((W.setCell ⟨w.heap.size + 1, 0, none⟩ p).setCell ⟨w.heap.size + 1, 1, none⟩ q).setCell ⟨w.heap.size + 1 + 1, 0, none⟩ r).setCell ⟨w.heap.size + 1 + 1, 1, none⟩ s) r s ∧
    Below w.heap.size w ((((W.setCell ⟨w.heap.size + 1, 0, none⟩ p).setCell ⟨w.heap.size + 1, 1, none⟩ q).setCell ⟨w.heap.size + 1 + 1, 0, none⟩ r).setCell ⟨w.heap.size + 1 + 1, 1, none⟩ s) := by
  refine ⟨(((h.2.1.set0 p).set1 q).other ⟨w.heap.size + 1 + 1, 0, none⟩ (by show w.heap.size + 1 + 1 ≠ w.heap.size + 1; omega) r).other ⟨w.heap.size + 1 + 1, 1, none⟩ (by show w.heap.size + 1 + 1 ≠ w.heap.size + 1; omega) s, (((h.2.2.1.other ⟨w.heap.size + 1, 0, none⟩ (by show w.heap.size + 1 ≠ w.heap.size + 1 + 1; omega) p).other ⟨w.heap.size + 1, 1, none⟩ (by show w.heap.size + 1 ≠ w.heap.size + 1 + 1; omega) q).set0 r).set1 s, ?_⟩
  exact (((h.2.2.2.setCell (p := ⟨w.heap.size + 1, 0, none⟩) (by show w.heap.size ≤ w.heap.size + 1; omega) _).setCell (p := ⟨w.heap.size + 1, 1, none⟩) (by show w.heap.size ≤ w.heap.size + 1; omega) _).setCell (p := ⟨w.heap.size + 1 + 1, 0, none⟩) (by show w.heap.size ≤ w.heap.size + 1 + 1; omega) _).setCell (p := ⟨w.heap.size + 1 + 1, 1, none⟩) (by show w.heap.size ≤ w.heap.size + 1 + 1; omega) _
/-- what ends returns -/
def enF (l : List (Int × Int)) (tol : Int) : Int × Int := if tbE l tol = 0 then (gX l 0, gR l 0) else (0, 0)
def enZ (l : List (Int × Int)) (tol : Int) : Int × Int := if tbE l tol = 0 then (gX l (l.length - 1), gR l (l.length - 1)) else (0, 0)
def enE (l : List (Int × Int)) (tol : Int) : Int := if tbE l tol = 0 then 0 else 1
/-! ### Read -/
end Go.Proofs.YtbaiekoedmhhaaaDoor

/- Package gauge: isFrom, Check, times, Right, Differ. -/
namespace Go.Proofs.YtbaiekoedmhhaaaDoor
open Go.RowKit

theorem isFrom_any (n a b : Int) (w : World) :
    Calls Tryd.prog 35 #[.int .i64 n, .int .i64 a, .int .i64 b] w fun e w' => e = .returned (.bool (decide (a ≤ n) && decide (n ≤ b))) ∧ w' = w := by
  by_cases h : a ≤ n
  · have d : decide (a ≤ n) = true := decide_eq_true h
    generalize hB : decide (n ≤ b) = B
    go_enter Tryd.func35, Tryd.ntmps35
    go_wp2
    go_returns
    exact ⟨by first | rfl | simp_all, rfl⟩
  · have d : decide (a ≤ n) = false := decide_eq_false h
    go_enter Tryd.func35, Tryd.ntmps35
    go_wp2
    go_returns
    exact ⟨by first | rfl | simp_all, rfl⟩
/-- a reading that is right -/
def rdgB (d p h s : Int) : Bool := (decide (0 ≤ d) && decide (d ≤ 100000)) && (decide (0 ≤ p) && decide (p ≤ 200000)) && (decide (-400 ≤ h) && decide (h ≤ 600)) && (decide (0 ≤ s) && decide (s ≤ 10000))
def rdgE (d p h s : Int) : Int := if rdgB d p h s = true then 0 else 2
theorem rdgB_iff {d p h s : Int} : rdgB d p h s = true ↔ (0 ≤ d ∧ d ≤ 100000) ∧ (0 ≤ p ∧ p ≤ 200000) ∧ (-400 ≤ h ∧ h ≤ 600) ∧ 0 ≤ s ∧ s ≤ 10000 := by
  unfold rdgB
  simp only [Bool.and_eq_true, decide_eq_true_eq]
  omega
theorem rdgE_zero {d p h s : Int} : rdgE d p h s = 0 ↔ rdgB d p h s = true := by
  unfold rdgE
  split <;> simp_all
set_option maxHeartbeats 4000000 in
theorem gChk_core (d p h s V : Int) (b1 b2 b3 b4 : Bool) (w : World) (hV : V = if (b1 && b2 && b3 && b4) = true then 0 else 2)
    (H1 : Hid (∀ W, Calls Tryd.prog 35 #[.int .i64 d, .int .i64 0, .int .i64 100000] W fun e w' => e = .returned (.bool b1) ∧ w' = W))
    (H2 : Hid (∀ W, Calls Tryd.prog 35 #[.int .i64 p, .int .i64 0, .int .i64 200000] W fun e w' => e = .returned (.bool b2) ∧ w' = W))
    (H3 : Hid (∀ W, Calls Tryd.prog 35 #[.int .i64 h, .int .i64 (-400), .int .i64 600] W fun e w' => e = .returned (.bool b3) ∧ w' = W))
    (H4 : Hid (∀ W, Calls Tryd.prog 35 #[.int .i64 s, .int .i64 0, .int .i64 10000] W fun e w' => e = .returned (.bool b4) ∧ w' = W)) :
    Calls Tryd.prog 25 #[.agg #[.int .i64 d, .int .i64 p, .int .i64 h, .int .i64 s]] w fun e w' => e = .returned (.int .i64 V) ∧ Below w.heap.size w w' := by
  have Q0 := Lib.hid (Quad.new w (.int .i64 d) (.int .i64 p) (.int .i64 h) (.int .i64 s) 31)
  have X0 := Lib.hid (bel_alloc (w := w) (o := .cells #[.int .i64 d, .int .i64 p, .int .i64 h, .int .i64 s] 31) (Below.refl _ _))
  obtain ⟨q0, q1, q2, q3, _, _⟩ := Q0.out
  go_enter Tryd.func25, Tryd.ntmps25
  go_wp2_with fail
  refine (H1.out _).mono ?_
  rintro e w1 ⟨rfl, rfl⟩
  cases b1 with
  | false =>
    go_wp2
    go_returns
    exact ⟨by rw [hV]; rfl, X0.out⟩
  | true =>
    go_wp2_with fail
    refine (H2.out _).mono ?_
    rintro e w2 ⟨rfl, rfl⟩
    cases b2 with
    | false =>
      go_wp2
      go_returns
      exact ⟨by rw [hV]; rfl, X0.out⟩
    | true =>
      go_wp2_with fail
      refine (H3.out _).mono ?_
      rintro e w3 ⟨rfl, rfl⟩
      cases b3 with
      | false =>
        go_wp2
        go_returns
        exact ⟨by rw [hV]; rfl, X0.out⟩
      | true =>
        go_wp2_with fail
        refine (H4.out _).mono ?_
        rintro e w4 ⟨rfl, rfl⟩
        cases b4
        all_goals
          go_wp2
          go_returns
          exact ⟨by rw [hV]; rfl, X0.out⟩
theorem gChk_any (d p h s : Int) (w : World) :
    Calls Tryd.prog 25 #[.agg #[.int .i64 d, .int .i64 p, .int .i64 h, .int .i64 s]] w fun e w' => e = .returned (.int .i64 (rdgE d p h s)) ∧ Below w.heap.size w w' :=
  gChk_core d p h s _ _ _ _ _ w rfl (Lib.hid fun W => isFrom_any _ _ _ W) (Lib.hid fun W => isFrom_any _ _ _ W) (Lib.hid fun W => isFrom_any _ _ _ W) (Lib.hid fun W => isFrom_any _ _ _ W)
set_option maxHeartbeats 4000000 in
theorem gTimes_any (a b s : Int) (w : World) (h1 : -9223372036854775808 ≤ a * s ∧ a * s ≤ 9223372036854775807) (h2 : -9223372036854775808 ≤ b * s ∧ b * s ≤ 9223372036854775807) :
    Calls Tryd.prog 36 #[.agg #[.int .i64 a, .int .i64 b], .int .i64 s] w fun e w' => e = .returned (.agg #[.int .i64 (a * s), .int .i64 (b * s)]) ∧ Below w.heap.size w w' := by
  have w1 : IntKind.i64.wrap (a * s) = a * s := wrap_in _ h1
  have w2 : IntKind.i64.wrap (b * s) = b * s := wrap_in _ h2
  have T0 := Lib.hid ((Two.new w (.int .i64 a) (.int .i64 b) 25).alloc (.cells #[.int .i64 0, .int .i64 0] 25))
  have T1 := Two.new (w.alloc (.cells #[.int .i64 a, .int .i64 b] 25)) (.int .i64 0) (.int .i64 0) 25
  rw [World.size_alloc] at T1
  replace T1 := Lib.hid T1
  have X0 : Hid (Below w.heap.size w ((w.alloc (.cells #[.int .i64 a, .int .i64 b] 25)).alloc (.cells #[.int .i64 0, .int .i64 0] 25))) := Lib.hid (bel_alloc (bel_alloc (Below.refl _ _)))
  obtain ⟨t0, t1, _, _, _⟩ := T0.out
  obtain ⟨u0, u1, f0, f1, _⟩ := T1.out
  have T2 := Two.new (w.alloc (.cells #[.int .i64 a, .int .i64 b] 25)) (.int .i64 (a * s)) (.int .i64 (b * s)) 25
  rw [World.size_alloc] at T2
  obtain ⟨p0, p1, _, _, _⟩ := T2
  go_enter Tryd.func36, Tryd.ntmps36
  go_wp2
  refine bodyPost_ret (v := .agg #[.int .i64 (a * s), .int .i64 (b * s)]) (by simp [results, Tryd.results36, go_sem, w1, w2]) rfl ?_
  exact ⟨rfl, by first | exact bel_alloc (bel_alloc (Below.refl _ _)) | (rw [w1, w2]; exact bel_alloc (bel_alloc (Below.refl _ _)))⟩
end Go.Proofs.YtbaiekoedmhhaaaDoor

/- Package gauge: Right, Differ, Wet. -/
namespace Go.Proofs.YtbaiekoedmhhaaaDoor
open Go.RowKit

/-- a report: day, dip, heat, strength, bounds of the volume and of the alcohol -/
structure Rp where
  dy : Int
  dp : Int
  ht : Int
  st : Int
  vl : Int
  vh : Int
  al : Int
  ah : Int
def rgtB (r : Rp) : Bool := rdgB r.dy r.dp r.ht r.st && (decide (0 ≤ r.vl) && (decide (r.vl ≤ r.vh) && (decide (r.vh ≤ 34359738368) && (decide (r.al = r.vl * r.st) && decide (r.ah = r.vh * r.st)))))
theorem rgtB_iff {r : Rp} : rgtB r = true ↔ rdgB r.dy r.dp r.ht r.st = true ∧ 0 ≤ r.vl ∧ r.vl ≤ r.vh ∧ r.vh ≤ 34359738368 ∧ r.al = r.vl * r.st ∧ r.ah = r.vh * r.st := by
  unfold rgtB
  simp only [Bool.and_eq_true, decide_eq_true_eq]
def EigR (b : Nat) (W : World) (r : Rp) : Prop := Eig b W (.int .i64 r.dy) (.int .i64 r.dp) (.int .i64 r.ht) (.int .i64 r.st) (.int .i64 r.vl) (.int .i64 r.vh) (.int .i64 r.al) (.int .i64 r.ah)
theorem mul_fit {v s : Int} (hv : 0 ≤ v ∧ v ≤ 34359738368) (hs : 0 ≤ s ∧ s ≤ 10000) : 0 ≤ v * s ∧ v * s ≤ 343597383680000 := by
  have a := Int.mul_nonneg hv.1 hs.1
  have b := Int.mul_le_mul hv.2 hs.2 hs.1 (by omega)
  omega
/-- what stands in Right -/
def RgI8 (w : World) (x0 x1 x2 x3 x4 x5 x6 x7 : Int) (W : World) : Prop := Below w.heap.size w W ∧ Eig w.heap.size W (.int .i64 x0) (.int .i64 x1) (.int .i64 x2) (.int .i64 x3) (.int .i64 x4) (.int .i64 x5) (.int .i64 x6) (.int .i64 x7) ∧ Two (w.heap.size + 1) W (.int .i64 x4) (.int .i64 x5)
theorem RgI8.below {w : World} {x0 x1 x2 x3 x4 x5 x6 x7 : Int} {W W' : World} (h : RgI8 w x0 x1 x2 x3 x4 x5 x6 x7 W) (hb : Below W.heap.size W W') : RgI8 w x0 x1 x2 x3 x4 x5 x6 x7 W' := ⟨bel_trans h.1 hb, h.2.1.below hb, h.2.2.below hb⟩
set_option maxHeartbeats 16000000 in
set_option maxRecDepth 100000 in
theorem gRight_core (d p h s vl vh al ah : Int) (B : Bool) (w : World)
    (hB : ((rdgE d p h s != 0) = true ∧ B = false) ∨ (rdgE d p h s = 0 ∧ vl < 0 ∧ B = false) ∨ (rdgE d p h s = 0 ∧ ¬ vl < 0 ∧ vh < vl ∧ B = false) ∨ (rdgE d p h s = 0 ∧ ¬ vl < 0 ∧ ¬ vh < vl ∧ 34359738368 < vh ∧ B = false) ∨
      (rdgE d p h s = 0 ∧ ¬ vl < 0 ∧ ¬ vh < vl ∧ ¬ 34359738368 < vh ∧ Hid (B = samB al ah (vl * s) (vh * s))))
    (hs : Hid (rdgE d p h s = 0 → 0 ≤ s ∧ s ≤ 10000)) :
    Calls Tryd.prog 16 #[.agg #[.int .i64 d, .int .i64 p, .int .i64 h, .int .i64 s, .int .i64 vl, .int .i64 vh, .int .i64 al, .int .i64 ah]] w fun e w' => e = .returned (.bool B) ∧ Below w.heap.size w w' := by
  have E0 := (Eig.new w (.int .i64 d) (.int .i64 p) (.int .i64 h) (.int .i64 s) (.int .i64 vl) (.int .i64 vh) (.int .i64 al) (.int .i64 ah) 33).alloc (.cells #[.int .i64 vl, .int .i64 vh] 25)
  have T0 := Two.new (w.alloc (.cells #[.int .i64 d, .int .i64 p, .int .i64 h, .int .i64 s, .int .i64 vl, .int .i64 vh, .int .i64 al, .int .i64 ah] 33)) (.int .i64 vl) (.int .i64 vh) 25
  rw [World.size_alloc] at T0
  have S0 : Hid (RgI8 w d p h s vl vh al ah ((w.alloc (.cells #[.int .i64 d, .int .i64 p, .int .i64 h, .int .i64 s, .int .i64 vl, .int .i64 vh, .int .i64 al, .int .i64 ah] 33)).alloc (.cells #[.int .i64 vl, .int .i64 vh] 25))) := Lib.hid ⟨bel_alloc (bel_alloc (Below.refl _ _)), E0, T0⟩
  have HC := Lib.hid (fun W => gChk_any d p h s W)
  obtain ⟨e0, e1, e2, e3, e4, e5, e6, e7, _, _⟩ := Eig.new w (.int .i64 d) (.int .i64 p) (.int .i64 h) (.int .i64 s) (.int .i64 vl) (.int .i64 vh) (.int .i64 al) (.int .i64 ah) 33
  obtain ⟨_, ⟨c0, c1, c2, c3, c4, c5, c6, c7, _, _⟩, t0, t1, _, _, _⟩ := S0.out
  clear E0 T0
  go_enter Tryd.func16, Tryd.ntmps16
  go_wp2_with fail
  refine (HC.out _).mono ?_
  rintro e w1 ⟨rfl, gg⟩
  replace S0 := Lib.hid (S0.out.below gg); clear gg c0 c1 c2 c3 c4 c5 c6 c7 t0 t1 e0 e1 e2 e3 e4 e5 e6 e7
  have X := Lib.hid S0.out.1
  obtain ⟨_, ⟨c0, c1, c2, c3, c4, c5, c6, c7, _, _⟩, t0, t1, _, _, _⟩ := S0.out
  generalize rdgE d p h s = E at *
  rcases hB with ⟨g, rfl⟩ | ⟨rfl, g, rfl⟩ | ⟨rfl, g, g2, rfl⟩ | ⟨rfl, g, g2, g3, rfl⟩ | ⟨rfl, g, g2, g3, hB⟩
  · go_wp2
    go_returns
    exact ⟨rfl, X.out⟩
  · have d1 : decide (vl < 0) = true := decide_eq_true (by omega)
    go_wp2
    go_returns
    exact ⟨rfl, X.out⟩
  · have d1 : decide (vl < 0) = false := decide_eq_false (by omega)
    have d2 : decide (vh < vl) = true := decide_eq_true (by omega)
    go_wp2
    go_returns
    exact ⟨rfl, X.out⟩
  · have d1 : decide (vl < 0) = false := decide_eq_false (by omega)
    have d2 : decide (vh < vl) = false := decide_eq_false (by omega)
    have d3 : decide (34359738368 < vh) = true := decide_eq_true (by omega)
    go_wp2
    go_returns
    exact ⟨rfl, X.out⟩
  · have d1 : decide (vl < 0) = false := decide_eq_false (by omega)
    have d2 : decide (vh < vl) = false := decide_eq_false (by omega)
    have d3 : decide (34359738368 < vh) = false := decide_eq_false (by omega)
    have hs' := hs.out (by trivial)
    have m1 := mul_fit (v := vl) (s := s) ⟨by omega, by omega⟩ hs'
    have m2 := mul_fit (v := vh) (s := s) ⟨by omega, by omega⟩ hs'
    have HT := Lib.hid (fun W => gTimes_any vl vh s W ⟨by omega, by omega⟩ ⟨by omega, by omega⟩)
    have Q1 : ∀ (a b c d : Int) W, _ := fun a b c d W => run_eql_bounds a b c d W
    clear hs hs' m1 m2 g g2 g3
    generalize vl * s = pl at *
    generalize vh * s = ph at *
    go_wp2_with fail
    replace S0 := Lib.hid (S0.out.below (bel_drew _))
    go_region_held3 (fun w' => w'.cell? ⟨w.heap.size, 3, none⟩ = some (.int .i64 s) ∧ w'.cell? ⟨w.heap.size, 6, none⟩ = some (.int .i64 al) ∧ w'.cell? ⟨w.heap.size, 7, none⟩ = some (.int .i64 ah) ∧ w'.cell? ⟨w.heap.size + 1, 0, none⟩ = some (.int .i64 vl) ∧ w'.cell? ⟨w.heap.size + 1, 1, none⟩ = some (.int .i64 vh)) (go_keep) (first
      | (go_at_call 36; (refine (HT.out _).mono ?_); rintro e w2 ⟨rfl, gg⟩; replace S0 := Lib.hid (S0.out.below gg); obtain ⟨_, ⟨c0, c1, c2, c3, c4, c5, c6, c7, _, _⟩, t0, t1, _, _, _⟩ := S0.out; clear gg))
    have X := Lib.hid S0.out.1
    obtain rfl := hB.out
    go_wp2
    go_returns
    exact ⟨rfl, X.out⟩
theorem gRight_any (r : Rp) (w : World) :
    Calls Tryd.prog 16 #[.agg #[.int .i64 r.dy, .int .i64 r.dp, .int .i64 r.ht, .int .i64 r.st, .int .i64 r.vl, .int .i64 r.vh, .int .i64 r.al, .int .i64 r.ah]] w fun e w' => e = .returned (.bool (rgtB r)) ∧ Below w.heap.size w w' := by
  have no : ¬ rgtB r = true → rgtB r = false := fun h => by simpa using h
  refine gRight_core r.dy r.dp r.ht r.st r.vl r.vh r.al r.ah _ w ?_ (Lib.hid fun h => ((rdgB_iff.1 (rdgE_zero.1 h)).2.2.2))
  by_cases h : rdgE r.dy r.dp r.ht r.st = 0
  · right
    by_cases g : r.vl < 0
    · left; exact ⟨h, g, no fun q => by have := (rgtB_iff.1 q).2.1; omega⟩
    · right
      by_cases g2 : r.vh < r.vl
      · left; exact ⟨h, g, g2, no fun q => by have := (rgtB_iff.1 q).2.2.1; omega⟩
      · right
        by_cases g3 : 34359738368 < r.vh
        · left; exact ⟨h, g, g2, g3, no fun q => by have := (rgtB_iff.1 q).2.2.2.1; omega⟩
        · right
          refine ⟨h, g, g2, g3, Lib.hid ?_⟩
          rw [Bool.eq_iff_iff, rgtB_iff]
          simp only [samB, Bool.and_eq_true, beq_iff_eq]
          constructor
          · rintro ⟨_, _, _, _, h1, h2⟩; exact ⟨h1, h2⟩
          · rintro ⟨h1, h2⟩; exact ⟨rdgE_zero.1 h, by omega, by omega, by omega, h1, h2⟩
  · left
    exact ⟨by simpa using h, no fun q => h (rdgE_zero.2 (rgtB_iff.1 q).1)⟩
end Go.Proofs.YtbaiekoedmhhaaaDoor

/- Package gauge: Differ; Wet. -/
namespace Go.Proofs.YtbaiekoedmhhaaaDoor
open Go.RowKit

/-- what Differ returns -/
def dfE (r : Rp) (a : Int) : Int := if rgtB r = false then 1 else if a < 0 ∨ 343597383680000 < a then 2 else 0
def dfL (r : Rp) (a : Int) : Int := if dfE r a = 0 then a - r.ah else 0
def dfH (r : Rp) (a : Int) : Int := if dfE r a = 0 then a - r.al else 0
def dfN (r : Rp) (a : Int) : Int := if dfE r a = 0 then (if dfL r a ≤ 0 ∧ 0 ≤ dfH r a then 1 else 2) else 0
/-- what stands in Differ -/
def DfI (w : World) (x0 x1 x2 x3 x4 x5 x6 x7 : Int) (W : World) : Prop := Below w.heap.size w W ∧ Eig w.heap.size W (.int .i64 x0) (.int .i64 x1) (.int .i64 x2) (.int .i64 x3) (.int .i64 x4) (.int .i64 x5) (.int .i64 x6) (.int .i64 x7) ∧ Two (w.heap.size + 1) W (.int .i64 0) (.int .i64 0)
theorem DfI.below {w : World} {x0 x1 x2 x3 x4 x5 x6 x7 : Int} {W W' : World} (h : DfI w x0 x1 x2 x3 x4 x5 x6 x7 W) (hb : Below W.heap.size W W') : DfI w x0 x1 x2 x3 x4 x5 x6 x7 W' := ⟨bel_trans h.1 hb, h.2.1.below hb, h.2.2.below hb⟩
theorem DfI.put {w : World} {x0 x1 x2 x3 x4 x5 x6 x7 : Int} {W : World} (h : DfI w x0 x1 x2 x3 x4 x5 x6 x7 W) (a b : Value) :
    Two (w.heap.size + 1) ((W.setCell ⟨w.heap.size + 1, 0, none⟩ a).setCell ⟨w.heap.size + 1, 1, none⟩ b) a b ∧ Below w.heap.size w ((W.setCell ⟨w.heap.size + 1, 0, none⟩ a).setCell ⟨w.heap.size + 1, 1, none⟩ b) :=
  ⟨(h.2.2.set0 a).set1 b, (h.1.setCell (p := ⟨w.heap.size + 1, 0, none⟩) (Nat.le_succ _) _).setCell (p := ⟨w.heap.size + 1, 1, none⟩) (Nat.le_succ _) _⟩
set_option maxHeartbeats 16000000 in
set_option maxRecDepth 100000 in
theorem gDiff_core (d p h s vl vh al ah a : Int) (B : Bool) (L H N E : Int) (w : World)
    (hB : (B = false ∧ L = 0 ∧ H = 0 ∧ N = 0 ∧ E = 1) ∨ (B = true ∧ (decide (0 ≤ a) && decide (a ≤ 343597383680000)) = false ∧ L = 0 ∧ H = 0 ∧ N = 0 ∧ E = 2) ∨
      (B = true ∧ (decide (0 ≤ a) && decide (a ≤ 343597383680000)) = true ∧ L = a - ah ∧ H = a - al ∧ E = 0 ∧ (((decide (a - ah ≤ 0) && decide (0 ≤ a - al)) = true ∧ N = 1) ∨ ((decide (a - ah ≤ 0) && decide (0 ≤ a - al)) = false ∧ N = 2)) ∧ (0 ≤ al ∧ al ≤ 343597383680000) ∧ 0 ≤ ah ∧ ah ≤ 343597383680000 ∧ 0 ≤ a ∧ a ≤ 343597383680000))
    (H1 : Hid (∀ W, Calls Tryd.prog 16 #[.agg #[.int .i64 d, .int .i64 p, .int .i64 h, .int .i64 s, .int .i64 vl, .int .i64 vh, .int .i64 al, .int .i64 ah]] W fun e w' => e = .returned (.bool B) ∧ Below W.heap.size W w')) :
    Calls Tryd.prog 14 #[.agg #[.int .i64 d, .int .i64 p, .int .i64 h, .int .i64 s, .int .i64 vl, .int .i64 vh, .int .i64 al, .int .i64 ah], .int .i64 a] w fun e w' => e = .returned (.tuple #[.agg #[.int .i64 L, .int .i64 H], .int .i64 N, .int .i64 E]) ∧ Below w.heap.size w w' := by
  have E0 := (Eig.new w (.int .i64 d) (.int .i64 p) (.int .i64 h) (.int .i64 s) (.int .i64 vl) (.int .i64 vh) (.int .i64 al) (.int .i64 ah) 33).alloc (.cells #[.int .i64 0, .int .i64 0] 25)
  have T0 := Two.new (w.alloc (.cells #[.int .i64 d, .int .i64 p, .int .i64 h, .int .i64 s, .int .i64 vl, .int .i64 vh, .int .i64 al, .int .i64 ah] 33)) (.int .i64 0) (.int .i64 0) 25
  rw [World.size_alloc] at T0
  have S0 : Hid (DfI w d p h s vl vh al ah ((w.alloc (.cells #[.int .i64 d, .int .i64 p, .int .i64 h, .int .i64 s, .int .i64 vl, .int .i64 vh, .int .i64 al, .int .i64 ah] 33)).alloc (.cells #[.int .i64 0, .int .i64 0] 25))) := Lib.hid ⟨bel_alloc (bel_alloc (Below.refl _ _)), E0, T0⟩
  have HF := Lib.hid (fun n x y W => isFrom_any n x y W)
  obtain ⟨_, ⟨c0, c1, c2, c3, c4, c5, c6, c7, _, _⟩, _⟩ := S0.out
  clear E0 T0
  go_enter Tryd.func14, Tryd.ntmps14
  go_wp2_with fail
  refine (H1.out _).mono ?_
  rintro e w1 ⟨rfl, gg⟩
  replace S0 := Lib.hid (S0.out.below gg); clear gg c0 c1 c2 c3 c4 c5 c6 c7
  obtain ⟨_, ⟨c0, c1, c2, c3, c4, c5, c6, c7, _, _⟩, t0, t1, f0, f1, _⟩ := S0.out
  rcases hB with ⟨rfl, rfl, rfl, rfl, rfl⟩ | ⟨rfl, hq, rfl, rfl, rfl, rfl⟩ | ⟨rfl, hq, rfl, rfl, rfl, hN, ba, bh, bb⟩
  · go_wp2
    obtain ⟨⟨p0, p1, _, _, _⟩, BB⟩ := S0.out.put (.int .i64 0) (.int .i64 0)
    refine bodyPost_ret (v := .tuple #[.agg #[.int .i64 0, .int .i64 0], .int .i64 0, .int .i64 1]) (by simp [results, Tryd.results14, go_sem, p0, p1]) rfl ?_
    exact ⟨rfl, BB⟩
  · go_wp2_with fail
    refine (HF.out _ _ _ _).mono ?_
    rintro e w2 ⟨rfl, hw2⟩
    rw [hw2]; clear hw2
    rw [hq]
    go_wp2
    obtain ⟨⟨p0, p1, _, _, _⟩, BB⟩ := S0.out.put (.int .i64 0) (.int .i64 0)
    refine bodyPost_ret (v := .tuple #[.agg #[.int .i64 0, .int .i64 0], .int .i64 0, .int .i64 2]) (by simp [results, Tryd.results14, go_sem, p0, p1]) rfl ?_
    exact ⟨rfl, BB⟩
  · have k1 : IntKind.i64.wrap (a - ah) = a - ah := wrap_in _ ⟨by omega, by omega⟩
    have k2 : IntKind.i64.wrap (a - al) = a - al := wrap_in _ ⟨by omega, by omega⟩
    go_wp2_with fail
    refine (HF.out _ _ _ _).mono ?_
    rintro e w2 ⟨rfl, hw2⟩
    rw [hw2]; clear hw2
    rw [hq]
    have S1 := Lib.hid (S0.out.below (bel_alloc (o := .cells #[.int .i64 (a - ah), .int .i64 (a - al)] 25) (Below.refl _ _)))
    obtain ⟨y0, y1, _, _, _⟩ := Two.new w1 (.int .i64 (a - ah)) (.int .i64 (a - al)) 25
    go_wp2_with fail
    refine (HF.out _ _ _ _).mono ?_
    rintro e w2 ⟨rfl, hw2⟩
    rw [hw2]; clear hw2
    obtain ⟨_, _, t0, t1, f0, f1, _⟩ := S1.out
    rcases hN with ⟨hN, rfl⟩ | ⟨hN, rfl⟩
    · rw [hN]
      go_wp2
      obtain ⟨TT, BB⟩ := S0.out.put (.int .i64 (a - ah)) (.int .i64 (a - al))
      obtain ⟨p0, p1, _, _, _⟩ := TT.alloc (.cells #[.int .i64 (a - ah), .int .i64 (a - al)] 25)
      replace BB := bel_trans BB (bel_alloc (o := .cells #[.int .i64 (a - ah), .int .i64 (a - al)] 25) (Below.refl _ _))
      refine bodyPost_ret (v := .tuple #[.agg #[.int .i64 (a - ah), .int .i64 (a - al)], .int .i64 1, .int .i64 0]) (by simp [results, Tryd.results14, go_sem, p0, p1]) rfl ?_
      exact ⟨rfl, BB⟩
    · rw [hN]
      go_wp2
      obtain ⟨TT, BB⟩ := S0.out.put (.int .i64 (a - ah)) (.int .i64 (a - al))
      obtain ⟨p0, p1, _, _, _⟩ := TT.alloc (.cells #[.int .i64 (a - ah), .int .i64 (a - al)] 25)
      replace BB := bel_trans BB (bel_alloc (o := .cells #[.int .i64 (a - ah), .int .i64 (a - al)] 25) (Below.refl _ _))
      refine bodyPost_ret (v := .tuple #[.agg #[.int .i64 (a - ah), .int .i64 (a - al)], .int .i64 2, .int .i64 0]) (by simp [results, Tryd.results14, go_sem, p0, p1]) rfl ?_
      exact ⟨rfl, BB⟩
theorem rgt_bd {r : Rp} (h : rgtB r = true) : (0 ≤ r.al ∧ r.al ≤ 343597383680000) ∧ 0 ≤ r.ah ∧ r.ah ≤ 343597383680000 := by
  obtain ⟨h0, h1, h2, h3, h4, h5⟩ := rgtB_iff.1 h
  have hs := (rdgB_iff.1 h0).2.2.2
  have a := mul_fit (v := r.vl) (s := r.st) ⟨h1, by omega⟩ hs
  have b := mul_fit (v := r.vh) (s := r.st) ⟨by omega, h3⟩ hs
  omega
theorem gDiff_any (r : Rp) (a : Int) (w : World) :
    Calls Tryd.prog 14 #[.agg #[.int .i64 r.dy, .int .i64 r.dp, .int .i64 r.ht, .int .i64 r.st, .int .i64 r.vl, .int .i64 r.vh, .int .i64 r.al, .int .i64 r.ah], .int .i64 a] w fun e w' => e = .returned (.tuple #[.agg #[.int .i64 (dfL r a), .int .i64 (dfH r a)], .int .i64 (dfN r a), .int .i64 (dfE r a)]) ∧ Below w.heap.size w w' := by
  refine gDiff_core r.dy r.dp r.ht r.st r.vl r.vh r.al r.ah a (rgtB r) _ _ _ _ w ?_ (Lib.hid fun W => gRight_any r W)
  cases h : rgtB r with
  | false =>
    left
    have e : dfE r a = 1 := by unfold dfE; rw [if_pos h]
    exact ⟨rfl, by unfold dfL; rw [e]; rfl, by unfold dfH; rw [e]; rfl, by unfold dfN; rw [e]; rfl, e⟩
  | true =>
    right
    by_cases g : a < 0 ∨ 343597383680000 < a
    · left
      have e : dfE r a = 2 := by unfold dfE; rw [if_neg (by rw [h]; simp), if_pos g]
      refine ⟨rfl, ?_, by unfold dfL; rw [e]; rfl, by unfold dfH; rw [e]; rfl, by unfold dfN; rw [e]; rfl, e⟩
      rw [Bool.and_eq_false_iff, decide_eq_false_iff_not, decide_eq_false_iff_not]; omega
    · right
      have e : dfE r a = 0 := by unfold dfE; rw [if_neg (by rw [h]; simp), if_neg g]
      have e1 : dfL r a = a - r.ah := by unfold dfL; rw [if_pos e]
      have e2 : dfH r a = a - r.al := by unfold dfH; rw [if_pos e]
      have e3 : dfN r a = if a - r.ah ≤ 0 ∧ 0 ≤ a - r.al then 1 else 2 := by unfold dfN; rw [if_pos e, e1, e2]
      obtain ⟨b1, b2⟩ := rgt_bd h
      refine ⟨rfl, ?_, e1, e2, e, ?_, b1, b2.1, b2.2, by omega, by omega⟩
      · rw [Bool.and_eq_true, decide_eq_true_eq, decide_eq_true_eq]; omega
      · rw [e3]
        by_cases q : a - r.ah ≤ 0 ∧ 0 ≤ a - r.al
        · left; exact ⟨by rw [Bool.and_eq_true, decide_eq_true_eq, decide_eq_true_eq]; exact q, if_pos q⟩
        · right; refine ⟨?_, if_neg q⟩
          rw [Bool.and_eq_false_iff, decide_eq_false_iff_not, decide_eq_false_iff_not]; omega
end Go.Proofs.YtbaiekoedmhhaaaDoor

/- Package dip: Heights. -/
namespace Go.Proofs.YtbaiekoedmhhaaaDoor
open Go.RowKit

/-- what Heights keeps -/
def HtI (w : World) (x y : Value) (W : World) : Prop :=
  Two w.heap.size W x y ∧ Two (w.heap.size + 1) W (.int .i64 0) (.int .i64 0) ∧ Below w.heap.size w W
theorem HtI.below {w : World} {x y : Value} {W W' : World} (h : HtI w x y W) (hb : Below W.heap.size W W') : HtI w x y W' := ⟨h.1.below hb, h.2.1.below hb, bel_trans h.2.2 hb⟩
theorem HtI.init (w : World) (x y : Value) (T U : TypeId) : HtI w x y ((w.alloc (.cells #[x, y] T)).alloc (.cells #[.int .i64 0, .int .i64 0] U)) := by
  have h2 := Two.new (w.alloc (.cells #[x, y] T)) (.int .i64 0) (.int .i64 0) U
  rw [World.size_alloc] at h2
  exact ⟨(Two.new w x y T).alloc _, h2, bel_alloc (bel_alloc (Below.refl _ _))⟩
theorem HtI.put {w : World} {x y : Value} {W : World} (h : HtI w x y W) (p q : Value) :
    Two (w.heap.size + 1) ((W.setCell ⟨w.heap.size + 1, 0, none⟩ p).setCell ⟨w.heap.size + 1, 1, none⟩ q) p q ∧ Below w.heap.size w ((W.setCell ⟨w.heap.size + 1, 0, none⟩ p).setCell ⟨w.heap.size + 1, 1, none⟩ q) :=
  ⟨(h.2.1.set0 p).set1 q, (h.2.2.setCell (p := ⟨w.heap.size + 1, 0, none⟩) (by show w.heap.size ≤ w.heap.size + 1; omega) _).setCell (p := ⟨w.heap.size + 1, 1, none⟩) (by show w.heap.size ≤ w.heap.size + 1; omega) _⟩
/-- what Heights returns -/
def htA (l : List (Int × Int)) (tol v : Int) : Int := if htE l tol v = 0 then htL l v else 0
def htB (l : List (Int × Int)) (tol v : Int) : Int := if htE l tol v = 0 then htH l v else 0
end Go.Proofs.YtbaiekoedmhhaaaDoor

/- Plain facts of layer 14: rods. No program stands in this text. -/
namespace Go.Proofs.YtbaiekoedmhhaaaDoor

/-- a right rod -/
structure RR (l : List (Int × Int)) : Prop where
  n0 : 1 ≤ l.length
  n1 : l.length ≤ 128
  bh : ∀ i, i < l.length → 0 ≤ gX l i ∧ gX l i ≤ 200000
  bv : ∀ i, i < l.length → 1 ≤ gR l i ∧ gR l i ≤ 4294967296
  asc : ∀ i, i + 1 < l.length → gX l i < gX l (i + 1)
  up : ∀ i, i + 1 < l.length → gR l i < gR l (i + 1)
def rkOut (q : Int × Int) : Bool := decide (q.1 < 0) || decide (200000 < q.1) || decide (q.2 < 1) || decide (4294967296 < q.2)
def rrB (l : List (Int × Int)) : Nat → Bool
  | 0 => true
  | k + 1 => rrB l k && (decide (gX l k < gX l (k + 1)) && decide (gR l k < gR l (k + 1)))
theorem rrB_iff (l : List (Int × Int)) (k : Nat) : rrB l k = true ↔ ∀ i, i < k → gX l i < gX l (i + 1) ∧ gR l i < gR l (i + 1) := by
  induction k with
  | zero => simp [rrB]
  | succ k ih =>
    rw [rrB, Bool.and_eq_true, ih, Bool.and_eq_true, decide_eq_true_eq, decide_eq_true_eq]
    constructor
    · rintro ⟨h1, h2⟩ i hi
      by_cases e : i = k
      · rw [e]; exact h2
      · exact h1 i (by omega)
    · intro h
      exact ⟨fun i hi => h i (by omega), h k (by omega)⟩
/-- the first error of a rod -/
def roE (l : List (Int × Int)) : Int := if l.length = 0 then 9 else if 128 < l.length then 8 else if l.any rkOut = true then 2 else if rrB l (l.length - 1) = false then 5 else 0
theorem rkOut_not {q : Int × Int} : rkOut q = false ↔ (0 ≤ q.1 ∧ q.1 ≤ 200000) ∧ 1 ≤ q.2 ∧ q.2 ≤ 4294967296 := by
  unfold rkOut
  rw [Bool.or_eq_false_iff, Bool.or_eq_false_iff, Bool.or_eq_false_iff, decide_eq_false_iff_not, decide_eq_false_iff_not, decide_eq_false_iff_not, decide_eq_false_iff_not]
  omega
theorem roE_iff {l : List (Int × Int)} : roE l = 0 ↔ RR l := by
  unfold roE
  constructor
  · intro h
    split at h
    · omega
    · split at h
      · omega
      · split at h
        · omega
        · split at h
          · omega
          · rename_i h1 h2 h3 h4
            have hb : ∀ i, i < l.length → (0 ≤ gX l i ∧ gX l i ≤ 200000) ∧ 1 ≤ gR l i ∧ gR l i ≤ 4294967296 := fun i hi => by
              refine rkOut_not.1 ?_
              cases hq : rkOut (l.getD i (0, 0)) with
              | false => rfl
              | true => exact absurd (anyq_at.2 ⟨i, hi, hq⟩) h3
            have hr := (rrB_iff l (l.length - 1)).1 (by simpa using h4)
            exact ⟨by omega, by omega, fun i hi => (hb i hi).1, fun i hi => (hb i hi).2, fun i hi => (hr i (by omega)).1, fun i hi => (hr i (by omega)).2⟩
  · intro h
    have n0 := h.n0
    have n1 := h.n1
    rw [if_neg (by omega), if_neg (by omega), if_neg, if_neg]
    · rw [Bool.not_eq_false]
      exact (rrB_iff _ _).2 fun i hi => ⟨h.asc i (by omega), h.up i (by omega)⟩
    · intro hq
      obtain ⟨i, hi, hp⟩ := anyq_at.1 hq
      rw [rkOut_not.2 ⟨h.bh i hi, h.bv i hi⟩] at hp
      cases hp
/-! ### multiples -/
theorem dvs (v : Int) {s : Int} (hs : 1 ≤ s) : v / s * s ≤ v ∧ v < v / s * s + s := by
  have := Int.mul_ediv_add_emod v s
  have a := Int.emod_nonneg v (show s ≠ 0 by omega)
  have b := Int.emod_lt_of_pos v (show 0 < s by omega)
  rw [Int.mul_comm] at this
  omega
theorem dvs_le {u v s t : Int} (hs : 1 ≤ s) (e : u = t * s) (h : u ≤ v) : u ≤ v / s * s := by
  have := Int.le_ediv_of_mul_le (show 0 < s by omega) (show t * s ≤ v by omega)
  have := Int.mul_le_mul_of_nonneg_right this (show 0 ≤ s by omega)
  omega
theorem mul_next {a b s : Int} (hs : 1 ≤ s) (h : a * s < b * s) : a * s + s ≤ b * s := by
  have h1 : a < b := by
    rcases Int.lt_or_le a b with g | g
    · exact g
    · have := Int.mul_le_mul_of_nonneg_right g (show 0 ≤ s by omega); omega
  have := Int.mul_le_mul_of_nonneg_right (show a + 1 ≤ b by omega) (show 0 ≤ s by omega)
  rw [Int.add_mul, Int.one_mul] at this
  exact this
/-- the multiple that the k-th mark is looked for with -/
def rdV (l : List (Int × Int)) (s : Int) : Nat → Int
  | 0 => s
  | k + 1 => vl l (lsA l (rdV l s k)) / s * s + s
/-- the k-th mark -/
def rdM (l : List (Int × Int)) (s : Int) (k : Nat) : Int × Int := (lsA l (rdV l s k), vl l (lsA l (rdV l s k)) / s * s)
def rdS (l : List (Int × Int)) (s : Int) (k : Nat) : List (Int × Int) := (List.range k).map (rdM l s)
/-- how many marks there are, up to 129 -/
def rdC (l : List (Int × Int)) (s : Int) : Nat := fst (fun k => decide (gR l (l.length - 1) < rdV l s k)) 129
/-- what Make returns -/
def rmE (l : List (Int × Int)) (tol s : Int) : Int := if tbE l tol ≠ 0 then 1 else if s < 1 ∨ 1073741824 < s then 2 else if rdC l s = 0 then 9 else if 128 < rdC l s then 8 else 0
def rmL (l : List (Int × Int)) (tol s : Int) : List (Int × Int) := if rmE l tol s = 0 then rdS l s (rdC l s) else []
theorem rdV_mul (l : List (Int × Int)) (s : Int) (k : Nat) : ∃ t, rdV l s k = t * s := by
  cases k with
  | zero => exact ⟨1, by simp [rdV]⟩
  | succ k => exact ⟨vl l (lsA l (rdV l s k)) / s + 1, by rw [Int.add_mul, Int.one_mul]; rfl⟩
structure RdK (l : List (Int × Int)) (s : Int) (k : Nat) : Prop where
  h0 : gX l 0 ≤ lsA l (rdV l s k)
  h1 : lsA l (rdV l s k) ≤ gX l (l.length - 1)
  v0 : rdV l s k ≤ vl l (lsA l (rdV l s k))
  v1 : vl l (lsA l (rdV l s k)) ≤ gR l (l.length - 1)
  m0 : rdV l s k ≤ (rdM l s k).2
  m1 : (rdM l s k).2 ≤ vl l (lsA l (rdV l s k))
  m2 : vl l (lsA l (rdV l s k)) < (rdM l s k).2 + s
  nx : rdV l s (k + 1) = (rdM l s k).2 + s
  below : ∀ x, gX l 0 ≤ x → x < lsA l (rdV l s k) → vl l x < rdV l s k
theorem rd_k {l : List (Int × Int)} (h : MR l) {s : Int} (hs : 1 ≤ s) {k : Nat} (hk : rdV l s k ≤ gR l (l.length - 1)) : RdK l s k := by
  have sp := h.span
  have b := ls_bd h (rdV l s k)
  have e := vl_mark h (i := l.length - 1) (by have := h.n0; omega)
  have t := (ls_iff h (rdV l s k) (x := gX l (l.length - 1)) (by omega) (Int.le_refl _)).1 (by omega)
  have v := (ls_iff h (rdV l s k) b.1 t).2 (Int.le_refl _)
  have vb := vl_bd h b.1 t
  obtain ⟨q, hq⟩ := rdV_mul l s k
  have d := dvs (vl l (lsA l (rdV l s k))) hs
  refine ⟨b.1, t, v, vb.2, dvs_le hs hq v, d.1, d.2, rfl, fun x x0 x1 => ?_⟩
  have := ls_iff h (rdV l s k) x0 (show x ≤ gX l (l.length - 1) by omega)
  omega
theorem rd_lt {l : List (Int × Int)} {s : Int} {k : Nat} (hk : k < rdC l s) : rdV l s k ≤ gR l (l.length - 1) := by
  have := (fst_spec (fun k => decide (gR l (l.length - 1) < rdV l s k)) 129).1 k hk
  have := of_decide_eq_false this
  omega
theorem rd_up {l : List (Int × Int)} (h : MR l) {s : Int} (hs : 1 ≤ s) {k : Nat} (hk : rdV l s k ≤ gR l (l.length - 1)) : rdV l s k + s ≤ rdV l s (k + 1) := by
  have r := rd_k h hs hk
  have := r.nx; have := r.m0; omega
theorem rd_ge {l : List (Int × Int)} (h : MR l) {s : Int} (hs : 1 ≤ s) {k : Nat} (hk : k ≤ rdC l s) : s ≤ rdV l s k := by
  induction k with
  | zero => exact Int.le_refl _
  | succ k ih =>
    have := rd_up h hs (rd_lt (show k < rdC l s by omega))
    have := ih (by omega)
    omega
theorem rdS_at {l : List (Int × Int)} {s : Int} {n k : Nat} (hk : k < n) : gX (rdS l s n) k = lsA l (rdV l s k) ∧ gR (rdS l s n) k = (rdM l s k).2 := by
  have : (rdS l s n).getD k (0, 0) = rdM l s k := by
    unfold rdS
    rw [List.getD_eq_getElem?_getD, List.getElem?_map, List.getElem?_range hk]; rfl
  exact ⟨congrArg Prod.fst this, congrArg Prod.snd this⟩
theorem rdS_len (l : List (Int × Int)) (s : Int) (n : Nat) : (rdS l s n).length = n := by unfold rdS; rw [List.length_map, List.length_range]
theorem rdS_next (l : List (Int × Int)) (s : Int) (n : Nat) : rdS l s (n + 1) = rdS l s n ++ [rdM l s n] := by
  unfold rdS; rw [List.range_succ, List.map_append]; rfl
theorem rdM_mul (l : List (Int × Int)) (s : Int) (k : Nat) : (rdM l s k).2 = vl l (lsA l (rdV l s k)) / s * s := rfl
/-- the height of a later mark is greater -/
theorem rd_asc {l : List (Int × Int)} (h : MR l) {s : Int} (hs : 1 ≤ s) {k : Nat} (hk : k + 1 < rdC l s) : lsA l (rdV l s k) < lsA l (rdV l s (k + 1)) ∧ (rdM l s k).2 < (rdM l s (k + 1)).2 := by
  have a := rd_k h hs (rd_lt (show k < rdC l s by omega))
  have b := rd_k h hs (rd_lt hk)
  have a1 := a.nx
  have a2 := a.m2
  have b1 := b.m0
  refine ⟨?_, by omega⟩
  rcases Int.lt_or_le (lsA l (rdV l s k)) (lsA l (rdV l s (k + 1))) with g | g
  · exact g
  · have := (ls_iff h (rdV l s (k + 1)) a.h0 a.h1).2 g
    omega
theorem rd_right {l : List (Int × Int)} (h : MR l) {s : Int} (hs : 1 ≤ s) (h0 : rdC l s ≠ 0) (h1 : rdC l s ≤ 128) : RR (rdS l s (rdC l s)) := by
  have ln := rdS_len l s (rdC l s)
  have sp := h.span
  refine ⟨by omega, by omega, fun i hi => ?_, fun i hi => ?_, fun i hi => ?_, fun i hi => ?_⟩
  · rw [ln] at hi
    have r := rd_k h hs (rd_lt hi)
    rw [(rdS_at hi).1]
    have := r.h0; have := r.h1; omega
  · rw [ln] at hi
    have r := rd_k h hs (rd_lt hi)
    have g := rd_ge h hs (show i ≤ rdC l s by omega)
    have b := h.bv (l.length - 1) (by have := h.n0; omega)
    rw [(rdS_at hi).2]
    have := r.m0; have := r.m1; have := r.v1; omega
  · rw [ln] at hi
    rw [(rdS_at hi).1, (rdS_at (show i < rdC l s by omega)).1]
    exact (rd_asc h hs hi).1
  · rw [ln] at hi
    rw [(rdS_at hi).2, (rdS_at (show i < rdC l s by omega)).2]
    exact (rd_asc h hs hi).2
/-- behind the last mark there is no multiple -/
theorem rd_end {l : List (Int × Int)} {s : Int} (h1 : rdC l s ≤ 128) : gR l (l.length - 1) < rdV l s (rdC l s) :=
  of_decide_eq_true ((fst_spec (fun k => decide (gR l (l.length - 1) < rdV l s k)) 129).2 (show rdC l s < 129 by omega))
theorem rd_last {l : List (Int × Int)} (h : MR l) {s : Int} (hs : 1 ≤ s) (h0 : rdC l s ≠ 0) (h1 : rdC l s ≤ 128) : (rdM l s (rdC l s - 1)).2 = gR l (l.length - 1) / s * s := by
  have r := rd_k h hs (rd_lt (show rdC l s - 1 < rdC l s by omega))
  have e := rd_end h1
  have n := r.nx
  rw [Nat.sub_add_cancel (by omega)] at n
  have a := r.m1
  have b := r.v1
  have d := dvs (gR l (l.length - 1)) hs
  have u := dvs_le (v := gR l (l.length - 1)) hs (rdM_mul l s (rdC l s - 1)) (by omega)
  rcases Int.lt_or_le (rdM l s (rdC l s - 1)).2 (gR l (l.length - 1) / s * s) with g | g
  · have := mul_next hs (show (vl l (lsA l (rdV l s (rdC l s - 1))) / s) * s < (gR l (l.length - 1) / s) * s from g)
    have m := rdM_mul l s (rdC l s - 1)
    omega
  · omega
/-- each multiple has the height of a mark, whose volume is the greatest multiple there -/
theorem rd_each {l : List (Int × Int)} (h : MR l) {s : Int} (hs : 1 ≤ s) (h0 : rdC l s ≠ 0) (h1 : rdC l s ≤ 128) {v t : Int} (e : v = t * s) (v0 : s ≤ v) (v1 : v ≤ gR l (l.length - 1)) :
    ∃ j, j < rdC l s ∧ lsA l v = lsA l (rdV l s j) := by
  have la := rd_last h hs h0 h1
  have vl' := dvs_le hs e v1
  have ex : ∀ k, k < rdC l s → v ≤ (rdM l s k).2 → ∃ j, j < rdC l s ∧ v ≤ (rdM l s j).2 ∧ rdV l s j ≤ v := by
    intro k
    induction k with
    | zero => intro hk hv; exact ⟨0, hk, hv, v0⟩
    | succ k ih =>
      intro hk hv
      by_cases g : v ≤ (rdM l s k).2
      · exact ih (by omega) g
      · refine ⟨k + 1, hk, hv, ?_⟩
        have r := rd_k h hs (rd_lt (show k < rdC l s by omega))
        have n := r.nx
        have m := rdM_mul l s k
        have := mul_next hs (show (vl l (lsA l (rdV l s k)) / s) * s < t * s by omega)
        omega
  obtain ⟨j, hj, j1, j2⟩ := ex (rdC l s - 1) (by omega) (by omega)
  refine ⟨j, hj, ?_⟩
  have r := rd_k h hs (rd_lt hj)
  have a := (ls_iff h v r.h0 r.h1).1 (by have := r.m1; omega)
  have b := ls_up h j2
  omega
theorem rmE_zero {l : List (Int × Int)} {tol s : Int} : rmE l tol s = 0 ↔ tbE l tol = 0 ∧ (1 ≤ s ∧ s ≤ 1073741824) ∧ rdC l s ≠ 0 ∧ rdC l s ≤ 128 := by
  unfold rmE
  by_cases h : tbE l tol = 0
  · rw [if_neg (by simpa using h)]
    split
    · omega
    · split
      · omega
      · split <;> omega
  · rw [if_pos h]; omega
end Go.Proofs.YtbaiekoedmhhaaaDoor

/- Package rod: reach. -/
namespace Go.Proofs.YtbaiekoedmhhaaaDoor
open Go.RowKit

end Go.Proofs.YtbaiekoedmhhaaaDoor

/- Rows of marks of the call's own. -/
namespace Go.Proofs.YtbaiekoedmhhaaaDoor
open Go.RowKit

namespace RM
theorem info_parts {P : Program} {t : TypeId} {z : Value} {s by' : Nat} (h : (P.info? t).map (fun i => (i.zero, i.size, i.bytes)) = some (some z, s, by')) : ∃ i, P.info? t = some i ∧ i.zero = some z ∧ i.size = s ∧ i.bytes = by' := by
  cases hi : P.info? t with
  | none => rw [hi] at h; cases h
  | some i => rw [hi] at h; simp at h; exact ⟨i, rfl, h.1, h.2.1, h.2.2⟩
theorem mk_info : (Tryd.prog.info? 48).map (fun i => (i.zero, i.size, i.bytes)) = some (some (.agg #[.int .i64 0, .int .i64 0]), 2, 16) := by kernel_rfl
theorem row_belM {W W' : World} {B n size : Nat} {e : TypeId} {v : Value} {xs : List Value} (h : W.ownsRow B e size v n xs) (hb : Below W.heap.size W W') : W'.ownsRow B e size v n xs := by
  obtain ⟨h1, h2⟩ := h
  refine ⟨h1, ?_⟩
  rcases h2 with ⟨h2, h3⟩ | ⟨g, cap, cur, h2, hg, hh, r⟩
  · exact .inl ⟨h2, h3⟩
  · refine .inr ⟨g, cap, cur, h2, hg, ?_, r⟩
    rw [hb.block _ (Array.getElem?_eq_some_iff.1 hh).1]
    exact hh
def OwnM (w : World) (B : Nat) (v : Value) (l : List (Int × Int)) : Prop := w.ownsRow B 48 2 v l.length (flat l)
theorem nil (W : World) (B : Nat) : OwnM W B (.slice none 0 0) [] := World.ownsRow_nil _ _ _ _
theorem below {W W' : World} {B : Nat} {v : Value} {l : List (Int × Int)} (h : OwnM W B v l) (hb : Below W.heap.size W W') : OwnM W' B v l := row_belM h hb
theorem pts {w : World} {B : Nat} {v : Value} {l : List (Int × Int)} (h : OwnM w B v l) : Pts w v l := by
  have h' := h
  obtain ⟨_, h2⟩ := h
  rcases h2 with ⟨rfl, hn⟩ | ⟨g, cap, cur, rfl, hg, hh, hc, hm, hs, ht⟩
  · exact ⟨none, 0, by rw [hn], by omega, .inl hn⟩
  · have hlt : g < w.heap.size := (Array.getElem?_eq_some_iff.1 hh).1
    unfold maxLen at hm
    refine ⟨_, cap, rfl, ⟨hc, by omega⟩, .inr ⟨g, 0, rfl, hlt, fun j hj => ?_⟩⟩
    have hcell := World.ownsRow.cells h' (g := g) rfl
    have hf := flat_at l j hj
    have c0 := hcell _ _ hf.1
    have c1 := hcell _ _ hf.2
    rw [Go.WideShapes.add_plain] at c0 c1
    exact ⟨c0, by rw [Nat.add_assoc]; exact c1⟩
theorem flat_two (x y : Int) : flat [(x, y)] = [.int .i64 x, .int .i64 y] := rfl
theorem pair_new (w : World) (y0 y1 : Int) (T : TypeId) (j : Nat) (u : Value) (hj : [Value.int .i64 y0, .int .i64 y1][j]? = some u) : (w.alloc (.cells #[.int .i64 y0, .int .i64 y1] T)).cell? ((⟨w.heap.size, 0, none⟩ : Addr).add j) = some u := by
  obtain ⟨n0, n1, _, _, _⟩ := Two.new w (.int .i64 y0) (.int .i64 y1) T
  rw [Go.WideShapes.add_plain, Nat.zero_add]
  match j, hj with
  | 0, hj => simp at hj; rw [← hj]; exact n0
  | 1, hj => simp at hj; rw [← hj]; exact n1
  | j + 2, hj => simp at hj
theorem pair_one (y0 y1 : Int) : ∀ u ∈ [Value.int .i64 y0, .int .i64 y1], u.oneCell' = true := by
  intro u hu; simp at hu; rcases hu with rfl | rfl <;> rfl
theorem push {W : World} {B k : Nat} {v : Value} {l m : List (Int × Int)} {y0 y1 : Int} (e : m = l ++ [(y0, y1)]) (hk : l.length = k) (h : W.ownsRow B 48 2 v (k + 1) (flat l ++ [.int .i64 y0, .int .i64 y1])) : OwnM W B v m := by
  rw [e]
  unfold OwnM
  rw [flat_app, flat_two, List.length_append, hk]
  exact h
/-- what the loop of Make keeps -/
def MkI (w1 : World) (v : Value) (L : List (Int × Int)) (W : World) : Prop := Below w1.heap.size w1 W ∧ OwnM W w1.heap.size v L
theorem MkI.below {w1 : World} {v : Value} {L : List (Int × Int)} {W W' : World} (h : MkI w1 v L W) (hb : Below W.heap.size W W') : MkI w1 v L W' := ⟨bel_trans h.1 hb, RM.below h.2 hb⟩
theorem shape {W : World} {B : Nat} {v : Value} {L : List (Int × Int)} (h : OwnM W B v L) : ∃ a cap, v = .slice a L.length cap := by
  obtain ⟨a, cap, e, _⟩ := pts h
  exact ⟨a, cap, e⟩
end RM
open RM
end Go.Proofs.YtbaiekoedmhhaaaDoor

/- Package rod: Check, Reading, Compare. -/
namespace Go.Proofs.YtbaiekoedmhhaaaDoor
open Go.RowKit

/-! ### Check of a rod -/
/-! ### Reading -/
def rgE (l : List (Int × Int)) (x : Int) : Int := if roE l ≠ 0 then 1 else if x < 0 ∨ gX l (l.length - 1) < x then 2 else 0
/-- the first mark above a height -/
def rgK (l : List (Int × Int)) (x : Int) : Nat := fst (fun j => decide (x < gX l j)) l.length
def rgL (l : List (Int × Int)) (x : Int) : Int := if rgE l x ≠ 0 then 0 else if x = gX l (l.length - 1) then gR l (l.length - 1) else if rgK l x = 0 then 0 else gR l (rgK l x - 1)
def rgH (l : List (Int × Int)) (x : Int) : Int := if rgE l x ≠ 0 then 0 else if x = gX l (l.length - 1) then gR l (l.length - 1) else gR l (rgK l x) - 1
def RgI (w : World) (x : Value) (W : World) : Prop :=
  Boxed W w.heap.size 3 x ∧ Two (w.heap.size + 1) W (.int .i64 0) (.int .i64 0) ∧ Below w.heap.size w W
theorem rbx_below {W W' : World} {b : Nat} {t : TypeId} {v : Value} (h : Boxed W b t v) (hb : Below W.heap.size W W') : Boxed W' b t v := by
  show W'.heap[b]? = _
  rw [hb.block _ h.lt]
  exact h
theorem RgI.below {w : World} {x : Value} {W W' : World} (h : RgI w x W) (hb : Below W.heap.size W W') : RgI w x W' := ⟨rbx_below h.1 hb, h.2.1.below hb, bel_trans h.2.2 hb⟩
theorem RgI.init (w : World) (x : Value) (U : TypeId) : RgI w x ((w.alloc (.cells #[x] 3)).alloc (.cells #[.int .i64 0, .int .i64 0] U)) := by
  have h2 := Two.new (w.alloc (.cells #[x] 3)) (.int .i64 0) (.int .i64 0) U
  rw [World.size_alloc] at h2
  exact ⟨(Boxed.new w 3 x).alloc _, h2, bel_alloc (bel_alloc (Below.refl _ _))⟩
theorem RgI.put {w : World} {x : Value} {W : World} (h : RgI w x W) (p q : Value) :
    Two (w.heap.size + 1) ((W.setCell ⟨w.heap.size + 1, 0, none⟩ p).setCell ⟨w.heap.size + 1, 1, none⟩ q) p q ∧ Below w.heap.size w ((W.setCell ⟨w.heap.size + 1, 0, none⟩ p).setCell ⟨w.heap.size + 1, 1, none⟩ q) :=
  ⟨(h.2.1.set0 p).set1 q, (h.2.2.setCell (p := ⟨w.heap.size + 1, 0, none⟩) (by show w.heap.size ≤ w.heap.size + 1; omega) _).setCell (p := ⟨w.heap.size + 1, 1, none⟩) (by show w.heap.size ≤ w.heap.size + 1; omega) _⟩
end Go.Proofs.YtbaiekoedmhhaaaDoor

/- Package gauge: Wet. -/
namespace Go.Proofs.YtbaiekoedmhhaaaDoor
open Go.RowKit

set_option maxHeartbeats 8000000 in
theorem gWet1_any (i q1 q2 b off n cap : Nat) (x tol : Int) (l : List (Int × Int)) (w : World) (hi : i < n) (n1 : n ≤ 1000) (c1 : w.cell? ⟨q1, 0, none⟩ = some (.slice (some ⟨b, off, none⟩) n cap)) (c2 : w.cell? ⟨q2, 0, none⟩ = some (.int .i64 x))
    (c3 : w.cell? ⟨b, off + i * 2, none⟩ = some (.int .i64 (gX l i))) :
    Calls Tryd.prog 40 #[.int .i64 i, .pointer (some ⟨q1, 0, none⟩), .pointer (some ⟨q2, 0, none⟩)] w fun e w' => e = .returned (.bool (decide (x ≤ gX l i))) ∧ Below w.heap.size w w' := by
  have l0 : (i : Int) < (n : Int) := by omega
  have X1 : Hid (∀ m, Below w.heap.size w (w.drewN m)) := Lib.hid fun m => bel_drewN _ _
  generalize gX l i = y at *
  go_enter Tryd.func40, Tryd.ntmps40
  go_wp2_with fail
  go_quiet (fail)
  go_wp2
  go_returns
  exact ⟨rfl, X1.out _⟩
/-- what stands in Wet -/
def WtI (w : World) (z : Nat) (a : Option Addr) (n cap : Nat) (tol x : Int) (W : World) : Prop := Below w.heap.size w W ∧ Two w.heap.size W (.slice a n cap) (.int .i64 tol) ∧ Boxed W (w.heap.size + 1) 3 (.int .i64 x) ∧ Two z W (.int .i64 0) (.int .i64 0)
theorem WtI.below {w : World} {z : Nat} {a : Option Addr} {n cap : Nat} {tol x : Int} {W W' : World} (h : WtI w z a n cap tol x W) (hb : Below W.heap.size W W') : WtI w z a n cap tol x W' := ⟨bel_trans h.1 hb, h.2.1.below hb, rbx_below h.2.2.1 hb, h.2.2.2.below hb⟩
theorem WtI.init (w : World) (a : Option Addr) (n cap : Nat) (tol x : Int) : WtI w (w.heap.size + 1 + 1) a n cap tol x (((w.alloc (.cells #[.slice a n cap, .int .i64 tol] 41)).alloc (.cells #[.int .i64 x] 3)).alloc (.cells #[.int .i64 0, .int .i64 0] 25)) := by
  have h2 := Boxed.new (w.alloc (.cells #[.slice a n cap, .int .i64 tol] 41)) 3 (.int .i64 x)
  have h3 := Two.new ((w.alloc (.cells #[.slice a n cap, .int .i64 tol] 41)).alloc (.cells #[.int .i64 x] 3)) (.int .i64 0) (.int .i64 0) 25
  rw [World.size_alloc] at h2
  rw [World.size_alloc, World.size_alloc] at h3
  exact ⟨bel_alloc (bel_alloc (bel_alloc (Below.refl _ _))), ((Two.new w _ _ _).alloc _).alloc _, h2.alloc _, h3⟩
theorem WtI.put {w : World} {z : Nat} {a : Option Addr} {n cap : Nat} {tol x : Int} {W : World} (h : WtI w z a n cap tol x W) (hz : w.heap.size ≤ z) (p q : Value) :
    Two z ((W.setCell ⟨z, 0, none⟩ p).setCell ⟨z, 1, none⟩ q) p q ∧ Below w.heap.size w ((W.setCell ⟨z, 0, none⟩ p).setCell ⟨z, 1, none⟩ q) :=
  ⟨(h.2.2.2.set0 p).set1 q, (h.1.setCell (p := ⟨z, 0, none⟩) hz _).setCell (p := ⟨z, 1, none⟩) hz _⟩
set_option maxHeartbeats 8000000 in
theorem gWet_bad (a : Option Addr) (n cap : Nat) (tol x E : Int) (w : World) (e2 : (E != 0) = true)
    (H1 : Hid (∀ W, Below w.heap.size w W → Calls Tryd.prog 38 #[.agg #[.slice a n cap, .int .i64 tol]] W fun e w' => e = .returned (.int .i64 E) ∧ Below W.heap.size W w')) :
    Calls Tryd.prog 19 #[.agg #[.slice a n cap, .int .i64 tol], .int .i64 x] w fun e w' => e = .returned (.tuple #[.agg #[.int .i64 0, .int .i64 0], .int .i64 1]) ∧ Below w.heap.size w w' := by
  have S0 := Lib.hid (WtI.init w a n cap tol x)
  obtain ⟨_, ⟨t0, t1, _, _, _⟩, _⟩ := S0.out
  go_enter Tryd.func19, Tryd.ntmps19
  go_wp2_with fail
  have hz1 : w.heap.size ≤ w.heap.size + 1 + 1 := by omega
  have hz2 : w.heap.size + 1 < w.heap.size + 1 + 1 := by omega
  generalize w.heap.size + 1 + 1 = z at *
  replace hz1 := Lib.hid hz1
  replace hz2 := Lib.hid hz2
  refine (H1.out _ S0.out.1).mono ?_
  rintro e w1 ⟨rfl, gg⟩
  replace S0 := Lib.hid (S0.out.below gg); clear gg t0 t1
  obtain ⟨_, _, _, z0, z1, f0, f1, _⟩ := S0.out
  go_wp2
  obtain ⟨⟨p0, p1, _, _, _⟩, BB⟩ := S0.out.put hz1.out (.int .i64 0) (.int .i64 0)
  refine bodyPost_ret (v := .tuple #[.agg #[.int .i64 0, .int .i64 0], .int .i64 1]) (by simp [results, Tryd.results19, go_sem, p0, p1]) rfl ?_
  exact ⟨rfl, BB⟩
set_option maxHeartbeats 16000000 in
set_option maxRecDepth 100000 in
theorem gWet_core (b off m cap k : Nat) (tol x X0 X1 H V A Q L R E : Int) (l : List (Int × Int)) (w : World) (m1 : m ≤ 1000) (hb : b < w.heap.size) (hk : k < m + 1)
    (hc : Hid (∀ j, j < m + 1 → w.cell? ⟨b, off + j * 2, none⟩ = some (.int .i64 (gX l j)) ∧ w.cell? ⟨b, off + j * 2 + 1, none⟩ = some (.int .i64 (gR l j))))
    (hx : Hid (gX l 0 = X0 ∧ gX l m = X1)) (hk1 : Hid (gX l k = H ∧ gR l k = V)) (hk2 : Hid (k ≠ 0 → gX l (k - 1) = A ∧ gR l (k - 1) = Q)) (bt : 0 ≤ tol ∧ tol ≤ 4294967296) (bV : 0 ≤ V ∧ V ≤ 4294967296)
    (hE : ((decide (X0 ≤ x) && decide (x ≤ X1)) = false ∧ L = 0 ∧ R = 0 ∧ E = 2) ∨ ((decide (X0 ≤ x) && decide (x ≤ X1)) = true ∧ R = V + tol ∧ E = 0 ∧ ((H ≤ x ∧ L = V) ∨ (x < H ∧ k ≠ 0 ∧ L = Q))))
    (H1 : Hid (∀ W, Below w.heap.size w W → Calls Tryd.prog 38 #[.agg #[.slice (some ⟨b, off, none⟩) (m + 1) cap, .int .i64 tol]] W fun e w' => e = .returned (.int .i64 0) ∧ Below W.heap.size W w'))
    (HS : Hid ((decide (X0 ≤ x) && decide (x ≤ X1)) = true → ∀ W z, WtI w z (some ⟨b, off, none⟩) (m + 1) cap tol x W → Calls Tryd.prog 39 #[.int .i64 ((m : Int) + 1), .func (.func 40) #[] #[.pointer (some ⟨w.heap.size, 0, none⟩), .pointer (some ⟨w.heap.size + 1, 0, none⟩)]] W fun e w' => e = .returned (.int .i64 k) ∧ Below W.heap.size W w')) :
    Calls Tryd.prog 19 #[.agg #[.slice (some ⟨b, off, none⟩) (m + 1) cap, .int .i64 tol], .int .i64 x] w fun e w' => e = .returned (.tuple #[.agg #[.int .i64 L, .int .i64 R], .int .i64 E]) ∧ Below w.heap.size w w' := by
  have hmf : ∀ (fn : Fn) (first cap : Array Value) (w : World), (Instr.makeFunc fn first cap).run Tryd.prog w = .ok (.func fn first cap) w := fun _ _ _ _ => rfl
  have S0 := Lib.hid (WtI.init w (some ⟨b, off, none⟩) (m + 1) cap tol x)
  have HF := Lib.hid (fun n x y W => isFrom_any n x y W)
  have CC : Hid (∀ W, Below w.heap.size w W → ∀ j, j < m + 1 → W.cell? ⟨b, off + j * 2, none⟩ = some (.int .i64 (gX l j)) ∧ W.cell? ⟨b, off + j * 2 + 1, none⟩ = some (.int .i64 (gR l j))) := Lib.hid fun W hW j hj => ⟨cell_bel (hc.out j hj).1 hW, cell_bel (hc.out j hj).2 hW⟩
  have wk : IntKind.i64.wrap (((m + 1 : Nat) : Int) - 1) = (m : Int) := by rw [wrap_in _ ⟨by omega, by omega⟩]; omega
  have wk1 : IntKind.i64.wrap ((m : Int) + 1 - 1) = (m : Int) := by rw [wrap_in _ ⟨by omega, by omega⟩]; omega
  have wk1' : IntKind.i64.wrap (m : Int) = (m : Int) := wrap_in _ ⟨by omega, by omega⟩
  have wk2 : (m : Int) < ((m + 1 : Nat) : Int) := by omega
  have wk3 : (m : Int) < (m : Int) + 1 := by omega
  have wk4 : (0 : Int) < (m : Int) + 1 := by omega
  have wk5 : (0 : Int) < ((m + 1 : Nat) : Int) := by omega
  clear hc
  obtain ⟨_, ⟨t0, t1, _, _, _⟩, _⟩ := S0.out
  go_enter Tryd.func19, Tryd.ntmps19
  go_wp2_with fail
  have hz1 : w.heap.size ≤ w.heap.size + 1 + 1 := by omega
  have hz2 : w.heap.size + 1 < w.heap.size + 1 + 1 := by omega
  generalize w.heap.size + 1 + 1 = z at *
  replace hz1 := Lib.hid hz1
  replace hz2 := Lib.hid hz2
  refine (H1.out _ S0.out.1).mono ?_
  rintro e w1 ⟨rfl, gg⟩
  replace S0 := Lib.hid (S0.out.below gg); clear gg t0 t1
  obtain ⟨_, ⟨t0, t1, _, _, _⟩, y0', _⟩ := S0.out
  have y0 := y0'.cell
  have d0 := (CC.out _ S0.out.1 0 (by omega)).1
  have d1 := (CC.out _ S0.out.1 m (by omega)).1
  rw [hx.out.1, show off + 0 * 2 = off by omega] at d0
  rw [hx.out.2] at d1
  rcases hE with ⟨hq, rfl, rfl, rfl⟩ | ⟨hq, rfl, rfl, hL⟩
  · have HQ0 : Hid (∀ W, Calls Tryd.prog 35 #[.int .i64 x, .int .i64 X0, .int .i64 X1] W fun e w' => e = .returned (.bool false) ∧ w' = W) := Lib.hid fun W => by have := isFrom_any x X0 X1 W; rwa [hq] at this
    clear hq
    go_upto_region 3 with fail
    have SW := S0
    replace S0 := Lib.hid (S0.out.below (bel_drew _))
    go_region_held3 (fun w' => w'.cell? ⟨w.heap.size, 0, none⟩ = some (.slice (some ⟨b, off, none⟩) (m + 1) cap) ∧ w'.cell? ⟨w.heap.size + 1, 0, none⟩ = some (.int .i64 x) ∧ w'.cell? ⟨b, off, none⟩ = some (.int .i64 X0) ∧ w'.cell? ⟨b, off + m * 2, none⟩ = some (.int .i64 X1)) (go_keep) (first
      | (go_at_call 35; (refine (HQ0.out _).mono ?_); rintro e w2 ⟨rfl, gg⟩; rw [gg]; clear gg))
    clear y0 y0' d0 d1 t0 t1
    obtain ⟨_, _, _, z0, z1, f0, f1, _⟩ := SW.out
    go_wp2
    obtain ⟨TT, BB⟩ := SW.out.put hz1.out (.int .i64 0) (.int .i64 0)
    obtain ⟨p0, p1, _, _, _⟩ := TT.below (bel_drew _)
    replace BB := bel_trans BB (bel_drew _)
    refine bodyPost_ret (v := .tuple #[.agg #[.int .i64 0, .int .i64 0], .int .i64 2]) (by simp [results, Tryd.results19, go_sem, p0, p1]) rfl ?_
    exact ⟨rfl, BB⟩
  · have HQ0 : Hid (∀ W, Calls Tryd.prog 35 #[.int .i64 x, .int .i64 X0, .int .i64 X1] W fun e w' => e = .returned (.bool true) ∧ w' = W) := Lib.hid fun W => by have := isFrom_any x X0 X1 W; rwa [hq] at this
    replace HS := Lib.hid (HS.out hq)
    clear hq
    go_upto_region 3 with fail
    have SW := S0
    replace S0 := Lib.hid (S0.out.below (bel_drew _))
    go_region_held3 (fun w' => w'.cell? ⟨w.heap.size, 0, none⟩ = some (.slice (some ⟨b, off, none⟩) (m + 1) cap) ∧ w'.cell? ⟨w.heap.size + 1, 0, none⟩ = some (.int .i64 x) ∧ w'.cell? ⟨b, off, none⟩ = some (.int .i64 X0) ∧ w'.cell? ⟨b, off + m * 2, none⟩ = some (.int .i64 X1)) (go_keep) (first
      | (go_at_call 35; (refine (HQ0.out _).mono ?_); rintro e w2 ⟨rfl, gg⟩; rw [gg]; clear gg))
    clear y0 y0' d0 d1 t0 t1
    have HQ := Lib.hid (HS.out _ _ S0.out)
    obtain ⟨_, ⟨t0, t1, _, _, _⟩, y0', _⟩ := S0.out
    have y0 := y0'.cell
    go_wp2_with fail
    refine HQ.out.mono ?_
    rintro e w3 ⟨rfl, gg⟩
    replace S0 := Lib.hid (S0.out.below gg); clear gg y0 y0' t0 t1 HQ
    obtain ⟨d0, d1⟩ := CC.out _ S0.out.1 k hk
    rw [hk1.out.1] at d0
    rw [hk1.out.2] at d1
    have lk : (k : Int) < (m : Int) + 1 := by omega
    have wV : IntKind.i64.wrap (V + tol) = V + tol := wrap_in _ ⟨by omega, by omega⟩
    have S1 := Lib.hid ((S0.out.below (bel_alloc (o := .cells #[.int .i64 H, .int .i64 V] 48) (Below.refl _ _))).below (bel_alloc (o := .cells #[.int .i64 H, .int .i64 V] 48) (Below.refl _ _)))
    have SZ := S0.out.2.2.2.2.2.2.2
    have z2 := hz2.out
    have m1 : w.heap.size + 1 ≠ w3.heap.size := by omega
    have m2 : w3.heap.size ≠ w.heap.size + 1 := by omega
    have m3 : w.heap.size ≠ w3.heap.size := by omega
    have m4 : w3.heap.size ≠ w.heap.size := by omega
    have m5 : w.heap.size ≠ w3.heap.size + 1 := by omega
    have m6 : w3.heap.size + 1 ≠ w.heap.size := by omega
    have n1 : z ≠ w3.heap.size := by omega
    have n2 : w3.heap.size ≠ z := by omega
    have n3 : z ≠ w3.heap.size + 1 := by omega
    have n4 : w3.heap.size + 1 ≠ z := by omega
    have P1 := Lib.hid ((Two.new w3 (.int .i64 H) (.int .i64 V) 48).alloc (.cells #[.int .i64 H, .int .i64 V] 48))
    have hb3 : b < w3.heap.size := Nat.lt_of_lt_of_le hb S0.out.1.size
    obtain ⟨_, ⟨t0, t1, _, _, _⟩, y0', z0, z1, f0, f1, _⟩ := S0.out
    have y0 := y0'.cell
    have ya : ∀ o, (w3.alloc o).cell? ⟨w.heap.size + 1, 0, none⟩ = some (.int .i64 x) := fun o => cell_bel y0 (bel_alloc (Below.refl _ _))
    have yb : ∀ o o2, ((w3.alloc o).alloc o2).cell? ⟨w.heap.size + 1, 0, none⟩ = some (.int .i64 x) := fun o o2 => cell_bel y0 (bel_alloc (bel_alloc (Below.refl _ _)))
    have ta : ∀ o o2, ((w3.alloc o).alloc o2).cell? ⟨w.heap.size, 0, none⟩ = some (.slice (some ⟨b, off, none⟩) (m + 1) cap) := fun o o2 => cell_bel t0 (bel_alloc (bel_alloc (Below.refl _ _)))
    have tb : ∀ o o2, ((w3.alloc o).alloc o2).cell? ⟨w.heap.size, 1, none⟩ = some (.int .i64 tol) := fun o o2 => cell_bel t1 (bel_alloc (bel_alloc (Below.refl _ _)))
    rcases hL with ⟨g, rfl⟩ | ⟨g, k0, rfl⟩
    · have dg : decide (x < H) = false := decide_eq_false (by omega)
      clear g SZ z2
      go_wp2
      obtain ⟨TT, BB⟩ := S0.out.put hz1.out (.int .i64 L) (.int .i64 (L + tol))
      obtain ⟨p0, p1, _, _, _⟩ := (TT.alloc (.cells #[.int .i64 H, .int .i64 L] 48)).alloc (.cells #[.int .i64 H, .int .i64 L] 48)
      replace BB := bel_trans BB (bel_alloc (o := .cells #[.int .i64 H, .int .i64 L] 48) (bel_alloc (o := .cells #[.int .i64 H, .int .i64 L] 48) (Below.refl _ _)))
      refine bodyPost_ret (v := .tuple #[.agg #[.int .i64 L, .int .i64 (L + tol)], .int .i64 0]) (by simp [results, Tryd.results19, go_sem, p0, p1]) rfl ?_
      exact ⟨rfl, BB⟩
    · obtain ⟨j, rfl⟩ : ∃ j, k = j + 1 := ⟨k - 1, by omega⟩
      have dg : decide (x < H) = true := decide_eq_true g
      have hj := hk2.out (by omega)
      rw [Nat.add_sub_cancel] at hj
      obtain ⟨d2, d3⟩ := CC.out _ S0.out.1 j (by omega)
      rw [hj.1] at d2
      rw [hj.2] at d3
      have e2 : ∀ o o2, ((w3.alloc o).alloc o2).cell? ⟨b, off + j * 2, none⟩ = some (.int .i64 A) := fun o o2 => cell_bel d2 (bel_alloc (bel_alloc (Below.refl _ _)))
      have e3 : ∀ o o2, ((w3.alloc o).alloc o2).cell? ⟨b, off + j * 2 + 1, none⟩ = some (.int .i64 L) := fun o o2 => cell_bel d3 (bel_alloc (bel_alloc (Below.refl _ _)))
      have wj : IntKind.i64.wrap ((j : Int) + 1 - 1) = (j : Int) := by rw [wrap_in _ ⟨by omega, by omega⟩]; omega
      have wj2 : IntKind.i64.wrap (j : Int) = (j : Int) := wrap_in _ ⟨by omega, by omega⟩
      have l2 : (j : Int) < (m : Int) + 1 := by omega
      have l4 : 0 ≤ (j : Int) + 1 := by omega
      have l5 : ((j : Int) + 1).toNat = j + 1 := by omega
      have l6 : (j : Int) + 1 < (m : Int) + 1 := by omega
      clear g SZ z2 hj
      go_wp2
      obtain ⟨TT, BB⟩ := S0.out.put hz1.out (.int .i64 L) (.int .i64 (V + tol))
      obtain ⟨p0, p1, _, _, _⟩ := (TT.alloc (.cells #[.int .i64 H, .int .i64 V] 48)).alloc (.cells #[.int .i64 A, .int .i64 L] 48)
      replace BB := bel_trans BB (bel_alloc (o := .cells #[.int .i64 H, .int .i64 V] 48) (bel_alloc (o := .cells #[.int .i64 A, .int .i64 L] 48) (Below.refl _ _)))
      refine bodyPost_ret (v := .tuple #[.agg #[.int .i64 L, .int .i64 (V + tol)], .int .i64 0]) (by simp [results, Tryd.results19, go_sem, p0, p1]) rfl ?_
      exact ⟨rfl, BB⟩
/-- the first mark that is not below a height; the bounds of the wet volume -/
def wtK (l : List (Int × Int)) (x : Int) : Nat := fst (fun i => decide (x ≤ gX l i)) l.length
def wtL (l : List (Int × Int)) (tol x : Int) : Int := if rdE l tol x = 0 then (if gX l (wtK l x) ≤ x then gR l (wtK l x) else gR l (wtK l x - 1)) else 0
def wtH (l : List (Int × Int)) (tol x : Int) : Int := if rdE l tol x = 0 then gR l (wtK l x) + tol else 0
theorem gWet_any (v : Value) (l : List (Int × Int)) (tol x : Int) (w : World) (hv : TbV w v l tol) :
    Calls Tryd.prog 19 #[v, .int .i64 x] w fun e w' => e = .returned (.tuple #[.agg #[.int .i64 (wtL l tol x), .int .i64 (wtH l tol x)], .int .i64 (rdE l tol x)]) ∧ Below w.heap.size w w' := by
  have H1 : Hid (∀ W, Below w.heap.size w W → _) := Lib.hid fun W hW => dipChk_any v l tol W (hv.below hW)
  obtain ⟨a, cap, rfl, hp⟩ := hv
  by_cases h : tbE l tol = 0
  · rw [h] at H1
    obtain ⟨hR, ht⟩ := tbE_iff.1 h
    have n0 := hR.n0
    have n1 := hR.n1
    have eE : rdE l tol x = if x < gX l 0 ∨ gX l (l.length - 1) < x then 2 else 0 := by unfold rdE; rw [if_neg (by omega)]
    obtain ⟨b, off, rfl, hb, hc⟩ := hp.at (by omega)
    obtain ⟨m, hm⟩ : ∃ m, l.length = m + 1 := ⟨l.length - 1, by omega⟩
    have el : l.length - 1 = m := by omega
    rw [el] at eE
    have hcut : (decide (gX l 0 ≤ x) && decide (x ≤ gX l m)) = true ↔ ¬ (x < gX l 0 ∨ gX l m < x) := by
      rw [Bool.and_eq_true, decide_eq_true_eq, decide_eq_true_eq]; omega
    have hf := fun g : x ≤ gX l m => hR.find (x := x) (by rw [el]; exact g)
    have hle : (decide (gX l 0 ≤ x) && decide (x ≤ gX l m)) = true → wtK l x < m + 1 := fun g => by
      have := (hf (by have := hcut.1 g; omega)).1
      unfold wtK; omega
    rw [hm] at H1 ⊢
    by_cases g : (decide (gX l 0 ≤ x) && decide (x ≤ gX l m)) = true
    · have g' := hcut.1 g
      rw [if_neg g'] at eE
      have f := hf (by omega)
      have bk := hR.bv (wtK l x) (by have := hle g; omega)
      have eL : wtL l tol x = if gX l (wtK l x) ≤ x then gR l (wtK l x) else gR l (wtK l x - 1) := by unfold wtL; rw [if_pos eE]
      have eH : wtH l tol x = gR l (wtK l x) + tol := by unfold wtH; rw [if_pos eE]
      rw [eE, eH, eL]
      refine gWet_core b off m cap (wtK l x) tol x (gX l 0) (gX l m) (gX l (wtK l x)) (gR l (wtK l x)) (gX l (wtK l x - 1)) (gR l (wtK l x - 1)) _ _ 0 l w (by omega) hb (hle g) (Lib.hid fun j hj => hc j (by omega)) (Lib.hid ⟨rfl, rfl⟩) (Lib.hid ⟨rfl, rfl⟩) (Lib.hid fun _ => ⟨rfl, rfl⟩) ht bk (.inr ⟨g, rfl, rfl, ?_⟩) H1 (Lib.hid fun _ W z hW => ?_)
      · by_cases q : gX l (wtK l x) ≤ x
        · left; exact ⟨q, if_pos q⟩
        · right
          refine ⟨by omega, fun e => ?_, if_neg q⟩
          rw [e] at q
          omega
      · have e1 : ((m : Int) + 1) = ((m + 1 : Nat) : Int) := by omega
        rw [e1]
        unfold wtK
        rw [hm]
        refine search_bel 40 #[.pointer (some ⟨w.heap.size, 0, none⟩), .pointer (some ⟨w.heap.size + 1, 0, none⟩)] (m + 1) (fun i => decide (x ≤ gX l i)) W (enters_of Tryd.func40 (by kernel_rfl) rfl) (by omega) (Lib.hid fun i W2 hi hW2 => ?_) (Lib.hid fun i j hij hj hi => ?_)
        · have S := hW.below hW2
          exact gWet1_any i _ _ b off (m + 1) cap x tol l W2 (by omega) (by omega) S.2.1.1 S.2.2.1.cell (cell_bel (hc i (by omega)).1 S.1)
        · have := of_decide_eq_true hi
          have := hR.le (i := i) (j := j) hij (by omega)
          exact decide_eq_true (by omega)
    · have g' : (x < gX l 0 ∨ gX l m < x) := by
        rcases Classical.em (x < gX l 0 ∨ gX l m < x) with q | q
        · exact q
        · exact absurd (hcut.2 q) g
      rw [if_pos g'] at eE
      have eL : wtL l tol x = 0 := by unfold wtL; rw [eE]; rfl
      have eH : wtH l tol x = 0 := by unfold wtH; rw [eE]; rfl
      rw [eE, eH, eL]
      have bk := hR.bv 0 (by omega)
      exact gWet_core b off m cap 0 tol x (gX l 0) (gX l m) (gX l 0) (gR l 0) (gX l 0) (gR l 0) 0 0 2 l w (by omega) hb (by omega) (Lib.hid fun j hj => hc j (by omega)) (Lib.hid ⟨rfl, rfl⟩) (Lib.hid ⟨rfl, rfl⟩) (Lib.hid fun h => absurd rfl h) ht bk (.inl ⟨by simpa using g, rfl, rfl, rfl⟩) H1 (Lib.hid fun q => absurd q g)
  · have e : rdE l tol x = 1 := by unfold rdE; rw [if_pos (by omega)]
    have eL : wtL l tol x = 0 := by unfold wtL; rw [e]; rfl
    have eH : wtH l tol x = 0 := by unfold wtH; rw [e]; rfl
    rw [e, eL, eH]
    exact gWet_bad a _ cap tol x _ w (by simpa using h) H1
end Go.Proofs.YtbaiekoedmhhaaaDoor

/- Plain arithmetic: amounts, and the steps of the division of two words by one. No program stands in this text. -/
namespace Go.Proofs.YtbaiekoedmhhaaaDoor

/-- an amount -/
def isAm (n : Int) : Bool := decide (0 ≤ n) && decide (n ≤ 128849018880000)

theorem isAm_iff (n : Int) : isAm n = true ↔ 0 ≤ n ∧ n ≤ 128849018880000 := by simp [isAm]
theorem isAm_not (n : Int) : isAm n = false ↔ n < 0 ∨ 128849018880000 < n := by
  rw [Bool.eq_false_iff, ne_eq, isAm_iff]; omega

theorem all_take_succ (zs : List Int) (k : Nat) (hk : k < zs.length) : ((zs.take (k + 1)).all isAm) = ((zs.take k).all isAm && isAm (zs.getD k 0)) := by
  rw [List.take_add_one, List.all_append]
  simp [List.getD, List.getElem?_eq_getElem hk]

theorem all_false_at (zs : List Int) (k : Nat) (hk : k < zs.length) (h : isAm (zs.getD k 0) = false) : zs.all isAm = false := by
  rw [Bool.eq_false_iff]; intro hall
  rw [List.all_eq_true] at hall
  have := hall (zs.getD k 0) (by simp [List.getD, List.getElem?_eq_getElem hk])
  rw [this] at h; cases h

/-! the division of two words by one -/

theorem norm_shift (y : Nat) (h1 : 1 ≤ y) (h2 : y < 2 ^ 47) : ∃ s : Nat, 64 - Lib.bitLen y = s ∧ 17 ≤ s ∧ s ≤ 63 ∧ Lib.bitLen y ≤ 64 ∧ 2 ^ 63 ≤ y * 2 ^ s ∧ y * 2 ^ s < 2 ^ 64 := by
  obtain ⟨a, b, c⟩ := Lib.bitLenAux_bounds 64 y (by omega) (by omega)
  have hle := Lib.bitLen_le y 47 (by omega) h2
  unfold Lib.bitLen at *
  generalize hL : Lib.bitLenAux 64 y = L at *
  refine ⟨64 - L, rfl, by omega, by omega, by omega, ?_, ?_⟩
  · have : 2 ^ (L - 1) * 2 ^ (64 - L) ≤ y * 2 ^ (64 - L) := Nat.mul_le_mul_right _ b
    rw [← Nat.pow_add, show L - 1 + (64 - L) = 63 by omega] at this
    exact this
  · have : y * 2 ^ (64 - L) < 2 ^ L * 2 ^ (64 - L) := Nat.mul_lt_mul_of_pos_right c (Nat.two_pow_pos _)
    rw [← Nat.pow_add, show L + (64 - L) = 64 by omega] at this
    exact this

theorem split_prod (q Y a c : Int) (hY : Y = a * 4294967296 + c) : q * Y = q * a * 4294967296 + q * c := by
  rw [hY, Int.mul_add, Int.mul_assoc]

/-- the first guess is not too small -/
theorem dig_start (U u Y a c : Int) (hY : Y = a * 4294967296 + c) (c0 : 0 ≤ c) (ha : 1 ≤ a) (hU : 0 ≤ U) (u0 : 0 ≤ u) (u1 : u < 4294967296) :
    (U * 4294967296 + u) / Y ≤ U / a := by
  have hYp : 0 < Y := by omega
  apply Int.le_ediv_of_mul_le (by omega)
  have h1 : (U * 4294967296 + u) / Y * Y ≤ U * 4294967296 + u := Int.ediv_mul_le _ (by omega)
  have hq : 0 ≤ (U * 4294967296 + u) / Y := Int.ediv_nonneg (by omega) (by omega)
  generalize (U * 4294967296 + u) / Y = q at *
  rw [split_prod q Y a c hY] at h1
  have := Int.mul_nonneg hq c0
  omega

/-- if the guess's test says 'too great', the next one is not too small -/
theorem dig_next (U u Y a c q1 r : Int) (hY : Y = a * 4294967296 + c) (hYp : 0 < Y) (hU : U < Y) (u1 : u < 4294967296) (hr : q1 * a + r = U)
    (ht : 4294967296 ≤ q1 ∨ 4294967296 * r + u < q1 * c) : (U * 4294967296 + u) / Y ≤ q1 - 1 := by
  have h1 : (U * 4294967296 + u) / Y < q1 := by
    apply Int.ediv_lt_of_lt_mul hYp
    rcases ht with ht | ht
    · have : 4294967296 * Y ≤ q1 * Y := Int.mul_le_mul_of_nonneg_right ht (by omega)
      omega
    · rw [split_prod q1 Y a c hY]; omega
  omega

/-- if the guess's test says 'not too great', it is right -/
theorem dig_done (U u Y a c q1 r : Int) (hY : Y = a * 4294967296 + c) (hYp : 0 < Y) (hr : q1 * a + r = U)
    (hq : (U * 4294967296 + u) / Y ≤ q1) (ht : q1 * c ≤ 4294967296 * r + u) : q1 = (U * 4294967296 + u) / Y := by
  have : q1 ≤ (U * 4294967296 + u) / Y := by
    apply Int.le_ediv_of_mul_le hYp
    rw [split_prod q1 Y a c hY]; omega
  omega

/-- where the rest has become as great as 2^32, the guess is right -/
theorem dig_stop (U u Y a c q1 r : Int) (hY : Y = a * 4294967296 + c) (c0 : 0 ≤ c) (c1 : c < 4294967296) (ha : 1 ≤ a) (hU : U < Y) (hr : q1 * a + r = U) (hq0 : 0 ≤ q1)
    (u0 : 0 ≤ u) (hrb : 4294967296 ≤ r) (hq : (U * 4294967296 + u) / Y ≤ q1) : q1 = (U * 4294967296 + u) / Y := by
  have hlt : q1 < 4294967296 := by
    apply Int.not_le.1; intro hge
    have := Int.mul_le_mul_of_nonneg_right hge (show 0 ≤ a by omega)
    omega
  apply dig_done U u Y a c q1 r hY (by omega) hr hq
  have h1 : q1 * c ≤ 4294967295 * 4294967295 := Int.mul_le_mul (by omega) (by omega) c0 (by omega)
  omega

/-- the digit fits 32 bits -/
theorem dig_lt (U u Y : Int) (hU0 : 0 ≤ U) (hU : U < Y) (u0 : 0 ≤ u) (u1 : u < 4294967296) : 0 ≤ (U * 4294967296 + u) / Y ∧ (U * 4294967296 + u) / Y < 4294967296 := by
  constructor
  · exact Int.ediv_nonneg (by omega) (by omega)
  · apply Int.ediv_lt_of_lt_mul (by omega); omega

/-- what is left behind a digit, in wrapped words -/
theorem dig_rest (U u Y q : Int) (hY : 0 < Y) (hY1 : Y ≤ 18446744073709551616) (hq : q = (U * 4294967296 + u) / Y) :
    IntKind.u64.wrap (IntKind.u64.wrap (IntKind.u64.wrap (U * 4294967296) + u) - IntKind.u64.wrap (q * Y)) = (U * 4294967296 + u) % Y := by
  have h1 := Int.emod_add_mul_ediv (U * 4294967296 + u) Y
  have h2 := Int.emod_nonneg (U * 4294967296 + u) (show Y ≠ 0 by omega)
  have h3 := Int.emod_lt_of_pos (U * 4294967296 + u) hY
  rw [← hq, Int.mul_comm Y q] at h1
  simp only [IntKind.wrap_u64]
  omega

theorem dig_quot (U u0 u1 Y : Int) (hY : 0 < Y) :
    (U * 4294967296 + u1) / Y * 4294967296 + ((U * 4294967296 + u1) % Y * 4294967296 + u0) / Y = ((U * 4294967296 + u1) * 4294967296 + u0) / Y := by
  have h1 := Int.emod_add_mul_ediv (U * 4294967296 + u1) Y
  generalize U * 4294967296 + u1 = N at *
  have : N * 4294967296 + u0 = (N % Y * 4294967296 + u0) + (N / Y * 4294967296) * Y := by
    have e : N / Y * 4294967296 * Y = Y * (N / Y) * 4294967296 := by
      rw [Int.mul_right_comm, Int.mul_comm (N / Y) Y]
    rw [e]; omega
  rw [this, Int.add_mul_ediv_right _ _ (by omega)]
  omega

theorem dig_rem (U u0 u1 Y : Int) :
    ((U * 4294967296 + u1) % Y * 4294967296 + u0) % Y = ((U * 4294967296 + u1) * 4294967296 + u0) % Y := by
  have h1 := Int.emod_add_mul_ediv (U * 4294967296 + u1) Y
  generalize U * 4294967296 + u1 = N at *
  have : N * 4294967296 + u0 = (N % Y * 4294967296 + u0) + (N / Y * 4294967296) * Y := by
    have e : N / Y * 4294967296 * Y = Y * (N / Y) * 4294967296 := by
      rw [Int.mul_right_comm, Int.mul_comm (N / Y) Y]
    rw [e]; omega
  rw [this, Int.add_mul_emod_self_right]

/-- two words as one number -/
def twoW (hi lo : Int) : Int := hi * 18446744073709551616 + lo

/-- the upper and the lower word -/
def hiW (p : Int) : Int := p / 18446744073709551616
def loW (p : Int) : Int := p % 18446744073709551616
theorem hiW_big (p c : Int) (h : 128849018880000 * c < p) (hp : p < 18446744073709551616 * c) (hc : 0 < c): hiW p < c := by unfold hiW; exact Int.ediv_lt_of_lt_mul (by omega) (by rw [Int.mul_comm]; omega)
theorem hiW_ge (p c : Int) (h : c ≤ hiW p) (hc : 0 < c) : 18446744073709551616 ≤ p / c := by
  apply Int.le_ediv_of_mul_le hc
  unfold hiW at h; rw [Int.mul_comm]; omega
theorem twoW_split (p : Int) : twoW (hiW p) (loW p) = p := by unfold twoW hiW loW; omega
theorem loW_nonneg (p : Int) : 0 ≤ loW p := by unfold loW; omega
theorem loW_le (p : Int) : loW p ≤ 18446744073709551615 := by unfold loW; omega
theorem hiW_nonneg (p : Int) (h : 0 ≤ p) : 0 ≤ hiW p := by unfold hiW; omega

theorem or_add (h g : Int) (s : Nat) (h0 : 0 ≤ h) (g0 : 0 ≤ g) (gs : g < 2 ^ s) (b : h * 2 ^ s + g < 18446744073709551616) : bits .or .u64 (h * 2 ^ s) g = h * 2 ^ s + g := by
  obtain ⟨A, rfl⟩ := Int.eq_ofNat_of_zero_le h0
  obtain ⟨B, rfl⟩ := Int.eq_ofNat_of_zero_le g0
  have e : ((A : Int) * 2 ^ s) = ((A * 2 ^ s : Nat) : Int) := by simp
  have gs' : B < 2 ^ s := by exact_mod_cast gs
  rw [e] at b ⊢
  rw [u64_or_nat _ _ (by omega) (by omega), Nat.mul_comm A, ← Nat.two_pow_add_eq_or_of_lt gs']
  omega

theorem and_low (n : Int) (h0 : 0 ≤ n) (h1 : n ≤ 18446744073709551615) : bits .and .u64 n 4294967295 = n % 4294967296 := by
  obtain ⟨A, rfl⟩ := Int.eq_ofNat_of_zero_le h0
  have := u64_and_nat A 4294967295 (by omega) (by omega)
  rw [nat_mask32] at this
  simpa using this

theorem shift_low (lo : Int) (s : Nat) (h0 : 0 ≤ lo) (hs : s ≤ 64) :
    lo * 2 ^ s = lo / 2 ^ (64 - s) * 18446744073709551616 + lo * 2 ^ s % 18446744073709551616 := by
  have hp : (2 : Int) ^ (64 - s) * 2 ^ s = 18446744073709551616 := by
    rw [← Int.pow_add, show 64 - s + s = 64 by omega]; rfl
  have hs0 : (0 : Int) < 2 ^ s := Int.pow_pos (by omega)
  have hs1 : (0 : Int) < 2 ^ (64 - s) := Int.pow_pos (by omega)
  have e1 := Int.emod_add_mul_ediv lo (2 ^ (64 - s))
  have e2 := Int.emod_nonneg lo (show (2 : Int) ^ (64 - s) ≠ 0 by omega)
  have e3 := Int.emod_lt_of_pos lo hs1
  generalize lo / 2 ^ (64 - s) = G at *
  generalize lo % 2 ^ (64 - s) = t at *
  have e4 : lo * 2 ^ s = t * 2 ^ s + G * 18446744073709551616 := by
    rw [← e1, Int.add_mul, Int.mul_right_comm, hp, Int.mul_comm G]
  have e5 : 0 ≤ t * 2 ^ s := Int.mul_nonneg e2 (by omega)
  have e6 : t * 2 ^ s < 18446744073709551616 := by
    rw [← hp]; exact Int.mul_lt_mul_of_pos_right e3 hs0
  rw [e4]; omega

/-- all that the walk of Div64 has to be told of its numbers -/
structure Shifted (hi lo y : Int) (s : Nat) (H G L U : Int) : Prop where
  G0 : 0 ≤ G
  Gs : G < 2 ^ s
  H0 : 0 ≤ H
  sum : U = H + G
  L0 : 0 ≤ L
  L1 : L < 18446744073709551616
  tot : U * 18446744073709551616 + L = twoW hi lo * 2 ^ s
  lt : U < y * 2 ^ s

theorem Shifted.mk' (hi lo y : Int) (s : Nat) (h0 : 0 ≤ hi) (h1 : hi < y) (h2 : 0 ≤ lo) (h3 : lo ≤ 18446744073709551615) (hs : s ≤ 64) :
    Shifted hi lo y s (hi * 2 ^ s) (lo / 2 ^ (64 - s)) (lo * 2 ^ s % 18446744073709551616) (hi * 2 ^ s + lo / 2 ^ (64 - s)) := by
  have hs0 : (0 : Int) < 2 ^ s := Int.pow_pos (by omega)
  have hs1 : (0 : Int) < 2 ^ (64 - s) := Int.pow_pos (by omega)
  have hp : (2 : Int) ^ s * 2 ^ (64 - s) = 18446744073709551616 := by
    rw [← Int.pow_add, show s + (64 - s) = 64 by omega]; rfl
  have tot : (hi * 2 ^ s + lo / 2 ^ (64 - s)) * 18446744073709551616 + lo * 2 ^ s % 18446744073709551616 = twoW hi lo * 2 ^ s := by
    have := shift_low lo s h2 hs
    unfold twoW
    rw [Int.add_mul, Int.add_mul, Int.mul_right_comm hi]
    omega
  have hL0 := Int.emod_nonneg (lo * 2 ^ s) (show (18446744073709551616 : Int) ≠ 0 by omega)
  have hL1 := Int.emod_lt_of_pos (lo * 2 ^ s) (show (0 : Int) < 18446744073709551616 by omega)
  refine ⟨Int.ediv_nonneg h2 (by omega), ?_, Int.mul_nonneg h0 (by omega), rfl, hL0, hL1, tot, ?_⟩
  · apply Int.ediv_lt_of_lt_mul hs1; rw [hp]; omega
  · have hlt : twoW hi lo * 2 ^ s < y * 18446744073709551616 * 2 ^ s := by
      apply Int.mul_lt_mul_of_pos_right _ hs0
      unfold twoW; omega
    rw [Int.mul_right_comm y] at hlt
    generalize hi * 2 ^ s + lo / 2 ^ (64 - s) = U at *
    generalize y * 2 ^ s = Y at *
    generalize lo * 2 ^ s % 18446744073709551616 = L at *
    omega

theorem fin_quot (U L Y N y : Int) (s : Nat) (hY : Y = y * 2 ^ s) (hYp : 0 < Y) (hU0 : 0 ≤ U) (hU : U < Y) (hY1 : Y ≤ 18446744073709551616) (L0 : 0 ≤ L) (L1 : L < 18446744073709551616)
    (tot : U * 18446744073709551616 + L = N * 2 ^ s) :
    IntKind.u64.wrap (IntKind.u64.wrap ((U * 4294967296 + L / 4294967296) / Y * 4294967296) + ((U * 4294967296 + L / 4294967296) % Y * 4294967296 + L % 4294967296) / Y) = N / y := by
  have a1 := dig_lt U (L / 4294967296) Y hU0 hU (by omega) (by omega)
  have b0 := Int.emod_nonneg (U * 4294967296 + L / 4294967296) (show Y ≠ 0 by omega)
  have b1 := Int.emod_lt_of_pos (U * 4294967296 + L / 4294967296) hYp
  have a2 := dig_lt ((U * 4294967296 + L / 4294967296) % Y) (L % 4294967296) Y b0 b1 (by omega) (by omega)
  have e := dig_quot U (L % 4294967296) (L / 4294967296) Y hYp
  have e2 : (U * 4294967296 + L / 4294967296) * 4294967296 + L % 4294967296 = N * 2 ^ s := by omega
  have hs0 : (0 : Int) < 2 ^ s := Int.pow_pos (by omega)
  rw [e2] at e
  have e3 : N * 2 ^ s / Y = N / y := by rw [hY, Int.mul_ediv_mul_of_pos_left _ _ hs0]
  rw [e3] at e
  rw [← e]
  simp only [IntKind.wrap_u64]
  omega

theorem fin_rest (U L Y N y : Int) (s : Nat) (hY : Y = y * 2 ^ s) (hYp : 0 < Y) (hY1 : Y ≤ 18446744073709551616)
    (tot : U * 18446744073709551616 + L = N * 2 ^ s) :
    IntKind.u64.wrap (IntKind.u64.wrap (IntKind.u64.wrap ((U * 4294967296 + L / 4294967296) % Y * 4294967296) + L % 4294967296) - IntKind.u64.wrap (((U * 4294967296 + L / 4294967296) % Y * 4294967296 + L % 4294967296) / Y * Y)) / 2 ^ s = N % y := by
  rw [dig_rest _ (L % 4294967296) Y _ hYp hY1 rfl, dig_rem]
  have e2 : (U * 4294967296 + L / 4294967296) * 4294967296 + L % 4294967296 = N * 2 ^ s := by omega
  have hs0 : (0 : Int) < 2 ^ s := Int.pow_pos (by omega)
  rw [e2, hY, Int.mul_comm N, Int.mul_comm y, Int.mul_emod_mul_of_pos _ _ hs0, Int.mul_ediv_cancel_left _ (by omega)]

/-- what proportion.Of returns: the error, the quotient, the remainder -/
def ofE (a b c : Int) : Int :=
  if isAm a && isAm b && isAm c then (if c = 0 then 16 else if a * b / c ≤ 128849018880000 then 0 else 15) else 2
def ofQ (a b c : Int) : Int := if ofE a b c = 0 then a * b / c else 0
def ofR (a b c : Int) : Int := if ofE a b c = 0 then a * b % c else 0

/-- what Up makes of what Of returns -/
def upE (q r e : Int) : Int := if e = 0 then (if q + (if 0 < r then 1 else 0) ≤ 128849018880000 then 0 else 15) else e
def upQ (q r e : Int) : Int := if upE q r e = 0 then q + (if 0 < r then 1 else 0) else 0
/-- what Compare returns -/
def cmpE (a b c d : Int) : Int := if isAm a && isAm b && isAm c && isAm d then (if b = 0 then 16 else if d = 0 then 16 else 0) else 2
def cmpN (x y : Int) : Int := if x < y then -1 else if y < x then 1 else 0
def cmpC (a b c d : Int) : Int := if cmpE a b c d = 0 then cmpN (a * d) (c * b) else 0

theorem ofQ_bd (a b c : Int) : 0 ≤ ofQ a b c ∧ ofQ a b c ≤ 128849018880000 := by
  unfold ofQ
  by_cases h : ofE a b c = 0
  · rw [if_pos h]
    unfold ofE at h
    split at h
    · rename_i h1
      simp only [Bool.and_eq_true, isAm_iff] at h1
      split at h
      · omega
      · split at h
        · exact ⟨Int.ediv_nonneg (Int.mul_nonneg h1.1.1.1 h1.1.2.1) h1.2.1, by assumption⟩
        · omega
    · omega
  · rw [if_neg h]; omega
theorem ofR_bd (a b c : Int) : 0 ≤ ofR a b c ∧ ofR a b c ≤ 128849018880000 := by
  unfold ofR
  by_cases h : ofE a b c = 0
  · rw [if_pos h]
    unfold ofE at h
    split at h
    · rename_i h1
      simp only [Bool.and_eq_true, isAm_iff] at h1
      split at h
      · omega
      · have := Int.emod_nonneg (a * b) (show c ≠ 0 by assumption)
        have := Int.emod_lt_of_pos (a * b) (show 0 < c by omega)
        omega
    · omega
  · rw [if_neg h]; omega

end Go.Proofs.YtbaiekoedmhhaaaDoor

/- math/bits.Div64: what it returns where the upper word is less than the divisor. -/
namespace Go.Proofs.YtbaiekoedmhhaaaDoor
open Go.RowKit

/-- what the guess's loop has to be told of a digit: 'D' is the digit -/
structure Dig (a c U u D : Int) : Prop where
  next : ∀ q r : Int, D ≤ q → q * a + r = U → (4294967296 ≤ q ∨ 4294967296 * r + u < q * c) → D ≤ q - 1
  done : ∀ q r : Int, D ≤ q → q * a + r = U → q * c ≤ 4294967296 * r + u → q = D
  stop : ∀ q r : Int, D ≤ q → q * a + r = U → 4294967296 ≤ r → q = D
  prod : ∀ q : Int, 0 ≤ q → q < 4294967296 → 0 ≤ q * c ∧ q * c ≤ 18446744073709551615
  pos : 0 ≤ D

theorem Dig.mk' (U u Y a c : Int) (hY : Y = a * 4294967296 + c) (c0 : 0 ≤ c) (c1 : c < 4294967296) (ha : 1 ≤ a) (hU0 : 0 ≤ U) (hU : U < Y) (u0 : 0 ≤ u) (u1 : u < 4294967296) :
    Dig a c U u ((U * 4294967296 + u) / Y) where
  next q r _ hr ht := dig_next U u Y a c q r hY (by omega) hU u1 hr ht
  done q r hq hr ht := dig_done U u Y a c q r hY (by omega) hr hq ht
  stop q r hq hr ht := dig_stop U u Y a c q r hY c0 c1 ha hU hr (by have := (dig_lt U u Y hU0 hU u0 u1).1; omega) u0 ht hq
  prod q h0 h1 := by
    have a1 := Int.mul_nonneg h0 c0
    have a2 : q * c ≤ 4294967295 * 4294967295 := Int.mul_le_mul (by omega) (by omega) c0 (by omega)
    omega
  pos := (dig_lt U u Y hU0 hU u0 u1).1

theorem ret_two {k l : IntKind} {a b c d : Int} (h : a = b) (g : c = d) : Ending.returned (.tuple #[.int k a, .int l c]) = .returned (.tuple #[.int k b, .int l d]) := by rw [h, g]

theorem mul_pred (q a r U : Int) (h : q * a + r = U) : (q - 1) * a + (r + a) = U := by
  rw [Int.sub_mul]; omega

set_option maxHeartbeats 1000000 in
set_option maxRecDepth 100000 in
theorem div64_core (hi lo y : Int) (s : Nat) (Y a c H G U L u1 u0 g r g2 r2 Q1 R1 Q0 Q R : Int) (w : World) (h0 : 1 ≤ hi) (h1 : hi < y) (h2 : 0 ≤ lo) (h3 : lo ≤ 18446744073709551615) (h4 : y ≤ 140737488355327)
   (hs0 : 17 ≤ s) (hs1 : s ≤ 63)
   (lz : Hid (Calls Tryd.prog 65 #[.int .u64 y] w fun e w' => e = .returned (.int .i64 s) ∧ w = w'))
   (yb0 : 0 ≤ y * 2 ^ s) (yb1 : y * 2 ^ s ≤ 18446744073709551615) (hb0 : 0 ≤ hi * 2 ^ s) (hb1 : hi * 2 ^ s ≤ 18446744073709551615)
   (eY : y * 2 ^ s = Y) (ea : Y / 4294967296 = a) (ec : bits .and .u64 Y 4294967295 = c) (eH : hi * 2 ^ s = H) (eG : lo / 2 ^ (64 - s) = G) (eU : bits .or .u64 H G = U)
   (eL : IntKind.u64.wrap (lo * 2 ^ s) = L) (e1 : L / 4294967296 = u1) (e0 : bits .and .u64 L 4294967295 = u0) (eg : U / a = g) (er : U - g * a = r) 
   (b1 : 2147483648 ≤ a) (b2 : 0 ≤ U) (b3 : U ≤ 18446744073709551615) (b4 : a ≤ 4294967295) (b5 : 0 ≤ c) (b6 : c ≤ 4294967295) (b7 : 0 ≤ u1) (b8 : u1 ≤ 4294967295) (b9 : 0 ≤ u0) (b10 : u0 ≤ 4294967295) (b11 : 9223372036854775808 ≤ Y) (b12 : Y ≤ 18446744073709551615) (b13 : 0 ≤ g * a) (b14 : g * a ≤ U)
   (hR1 : Hid (IntKind.u64.wrap (IntKind.u64.wrap (IntKind.u64.wrap (U * 4294967296) + u1) - IntKind.u64.wrap (Q1 * Y)) = R1)) (c1 : 0 ≤ R1) (c2 : R1 ≤ 18446744073709551615) (eg2 : Hid (R1 / a = g2)) (er2 : Hid (R1 - R1 / a * a = r2)) (b15 : 0 ≤ R1 / a * a) (b16 : R1 / a * a ≤ R1)
   (dg2 : Dig a c R1 u0 Q0) (st2 : Q0 ≤ g2 ∧ 0 ≤ g2 ∧ g2 ≤ 18446744073709551615 ∧ 0 ≤ r2 ∧ r2 < 4294967296 ∧ Hid (g2 * a + r2 = R1))
   (dg1 : Dig a c U u1 Q1) (st1 : Q1 ≤ g ∧ 0 ≤ g ∧ g ≤ 18446744073709551615 ∧ 0 ≤ r ∧ r < 4294967296 ∧ Hid (g * a + r = U))
   (hQ : Hid (IntKind.u64.wrap (IntKind.u64.wrap (Q1 * 4294967296) + Q0) = Q)) (hR : Hid (IntKind.u64.wrap (IntKind.u64.wrap (IntKind.u64.wrap (R1 * 4294967296) + u0) - IntKind.u64.wrap (Q0 * Y)) / 2 ^ s = R)) :
    Calls Tryd.prog 62 #[.int .u64 hi, .int .u64 lo, .int .u64 y] w fun e w' => e = .returned (.tuple #[.int .u64 Q, .int .u64 R]) ∧ w' = w := by
  go_enter Tryd.func62, Tryd.ntmps62
  go_upto_region 16 with (go_at_call 65; refine (lz.out).mono ?_; rintro e w' ⟨rfl, rfl⟩)
  go_cut [2, 8, 9, 10, 11, 13, 14, 15, 16] (fun s2 s8 s9 s10 s11 s13 s14 s15 s16 wx => s2 = .int .u64 Y ∧ s8 = .int .u64 s ∧ s9 = .int .u64 a ∧ s10 = .int .u64 c ∧ s11 = .int .u64 U ∧ s13 = .int .u64 u1 ∧ s14 = .int .u64 u0 ∧ s15 = .int .u64 g ∧ s16 = .int .u64 r ∧ w = wx)
  case first =>
    go_wp2
    go_meet
    case rel => exact ⟨rfl, rfl, rfl, rfl, rfl, rfl, rfl, by rw [eg], rfl, rfl⟩
  case rest =>
  obtain ⟨rfl, rfl, rfl, rfl, rfl, rfl, rfl, rfl, rfl, rfl⟩ := hcut
  clear eY ea ec eH eG eU eL e1 e0 eg er
  go_upto_block 0 with fail
  go_cut [15] (fun s15 wx => s15 = .int .u64 Q1 ∧ w = wx)
  case first =>
    go_wp2_with fail
    go_loop [15, 16] (fun q r => ∃ q1 r1 : Int, q = .int .u64 q1 ∧ r = .int .u64 r1 ∧ Q1 ≤ q1 ∧ 0 ≤ q1 ∧ q1 ≤ 18446744073709551615 ∧ 0 ≤ r1 ∧ r1 < 4294967296 ∧ Hid (q1 * a + r1 = U)) (fun q _ => (intOf q).toNat)
    case atStart => exact ⟨g, r, rfl, rfl, st1.1, st1.2.1, st1.2.2.1, st1.2.2.2.1, st1.2.2.2.2.1, st1.2.2.2.2.2⟩
    case round =>
      obtain ⟨q1, r1, rfl, rfl, p1, p2, p2', p3, p4, p5⟩ := hrel
      by_cases t1 : 4294967296 ≤ q1
      · have HN := Lib.hid (dg1.next q1 r1 p1 p5.out (Or.inl t1))
        have HS := Lib.hid (dg1.stop (q1 - 1) (r1 + a) HN.out (mul_pred _ _ _ _ p5.out))
        have HR := Lib.hid (mul_pred _ _ _ _ p5.out)
        go_wp2
        · have ht : 4294967296 ≤ r1 + a := by assumption
          go_meet
          case rel => exact ⟨by rw [HS.out ht], rfl⟩
        · have ht : r1 + a < 4294967296 := by assumption
          go_round
          case rel => exact ⟨q1 - 1, r1 + a, rfl, rfl, HN.out, by omega, by omega, by omega, ht, HR.out⟩
          case measure => simp [intOf]; omega
      · obtain ⟨m1, m2⟩ := dg1.prod q1 p2 (by omega)
        by_cases t2 : 4294967296 * r1 + u1 < q1 * c
        · have HN := Lib.hid (dg1.next q1 r1 p1 p5.out (Or.inr t2))
          have HS := Lib.hid (dg1.stop (q1 - 1) (r1 + a) HN.out (mul_pred _ _ _ _ p5.out))
          have HR := Lib.hid (mul_pred _ _ _ _ p5.out)
          have q1p : 1 ≤ q1 := by have := dg1.pos; have := HN.out; omega
          go_wp2
          · have ht : 4294967296 ≤ r1 + a := by assumption
            go_meet
            case rel => exact ⟨by rw [HS.out ht], rfl⟩
          · have ht : r1 + a < 4294967296 := by assumption
            go_round
            case rel => exact ⟨q1 - 1, r1 + a, rfl, rfl, HN.out, by omega, by omega, by omega, ht, HR.out⟩
            case measure => simp [intOf]; omega
        · have HD := Lib.hid (dg1.done q1 r1 p1 p5.out (by omega))
          go_wp2
          go_meet
          case rel => exact ⟨by rw [HD.out], rfl⟩
  case rest =>
  obtain ⟨rfl, rfl⟩ := hcut
  clear st1 b13 b14
  go_upto_region 21 with fail
  go_cut [17] (fun s17 wx => s17 = .int .u64 R1 ∧ w = wx)
  case first =>
    go_wp2
    go_meet
    case rel => exact ⟨by rw [← hR1.out], rfl⟩
  case rest =>
  obtain ⟨rfl, rfl⟩ := hcut
  go_upto_region 23 with fail
  go_cut [18, 16] (fun s18 s16 wx => s18 = .int .u64 g2 ∧ s16 = .int .u64 r2 ∧ w = wx)
  case first =>
    go_wp2
    go_meet
    case rel => exact ⟨by rw [← eg2.out], by rw [← er2.out], rfl⟩
  case rest =>
  obtain ⟨rfl, rfl, rfl⟩ := hcut
  clear b15 b16
  go_upto_block 2 with fail
  go_cut [18] (fun s18 wx => s18 = .int .u64 Q0 ∧ w = wx)
  case first =>
    go_wp2_with fail
    go_loop [18, 16] (fun q r => ∃ q1 r1 : Int, q = .int .u64 q1 ∧ r = .int .u64 r1 ∧ Q0 ≤ q1 ∧ 0 ≤ q1 ∧ q1 ≤ 18446744073709551615 ∧ 0 ≤ r1 ∧ r1 < 4294967296 ∧ Hid (q1 * a + r1 = R1)) (fun q _ => (intOf q).toNat)
    case atStart => exact ⟨g2, r2, rfl, rfl, st2.1, st2.2.1, st2.2.2.1, st2.2.2.2.1, st2.2.2.2.2.1, st2.2.2.2.2.2⟩
    case round =>
      obtain ⟨q1, r1, rfl, rfl, p1, p2, p2', p3, p4, p5⟩ := hrel
      by_cases t1 : 4294967296 ≤ q1
      · have HN := Lib.hid (dg2.next q1 r1 p1 p5.out (Or.inl t1))
        have HS := Lib.hid (dg2.stop (q1 - 1) (r1 + a) HN.out (mul_pred _ _ _ _ p5.out))
        have HR := Lib.hid (mul_pred _ _ _ _ p5.out)
        go_wp2
        · have ht : 4294967296 ≤ r1 + a := by assumption
          go_meet
          case rel => exact ⟨by rw [HS.out ht], rfl⟩
        · have ht : r1 + a < 4294967296 := by assumption
          go_round
          case rel => exact ⟨q1 - 1, r1 + a, rfl, rfl, HN.out, by omega, by omega, by omega, ht, HR.out⟩
          case measure => simp [intOf]; omega
      · obtain ⟨m1, m2⟩ := dg2.prod q1 p2 (by omega)
        by_cases t2 : 4294967296 * r1 + u0 < q1 * c
        · have HN := Lib.hid (dg2.next q1 r1 p1 p5.out (Or.inr t2))
          have HS := Lib.hid (dg2.stop (q1 - 1) (r1 + a) HN.out (mul_pred _ _ _ _ p5.out))
          have HR := Lib.hid (mul_pred _ _ _ _ p5.out)
          have q1p : 1 ≤ q1 := by have := dg2.pos; have := HN.out; omega
          go_wp2
          · have ht : 4294967296 ≤ r1 + a := by assumption
            go_meet
            case rel => exact ⟨by rw [HS.out ht], rfl⟩
          · have ht : r1 + a < 4294967296 := by assumption
            go_round
            case rel => exact ⟨q1 - 1, r1 + a, rfl, rfl, HN.out, by omega, by omega, by omega, ht, HR.out⟩
            case measure => simp [intOf]; omega
        · have HD := Lib.hid (dg2.done q1 r1 p1 p5.out (by omega))
          go_wp2
          go_meet
          case rel => exact ⟨by rw [HD.out], rfl⟩
  case rest =>
  obtain ⟨rfl, rfl⟩ := hcut
  clear st2
  go_wp2
  go_ret2
  exact ⟨ret_two hQ.out hR.out, rfl⟩

theorem div64_pos (hi lo y : Int) (w : World) (h0 : 1 ≤ hi) (h1 : hi < y) (h2 : 0 ≤ lo) (h3 : lo ≤ 18446744073709551615) (h4 : y ≤ 140737488355327) :
    Calls Tryd.prog 62 #[.int .u64 hi, .int .u64 lo, .int .u64 y] w fun e w' => e = .returned (.tuple #[.int .u64 (twoW hi lo / y), .int .u64 (twoW hi lo % y)]) ∧ w' = w := by
  obtain ⟨s, e1, s0, s1, hL, n0, n1⟩ := norm_shift y.toNat (by omega) (by omega)
  have lz := Tryd.bits_LeadingZeros64 y w (by omega) (by omega)
  rw [show (64 - (Lib.bitLen y.toNat : Int)) = (s : Int) by omega] at lz
  have lz' : Calls Tryd.prog 65 #[.int .u64 y] w fun e w' => e = .returned (.int .i64 s) ∧ w = w' := lz.mono fun _ _ h => ⟨h.1, h.2.symm⟩
  have hy : ((y.toNat * 2 ^ s : Nat) : Int) = y * 2 ^ s := by rw [Int.natCast_mul, Int.toNat_of_nonneg (by omega)]; simp
  have m0 : 9223372036854775808 ≤ y * 2 ^ s := by rw [← hy]; have : 2 ^ 63 = 9223372036854775808 := rfl; omega
  have m1 : y * 2 ^ s ≤ 18446744073709551615 := by rw [← hy]; have : 2 ^ 64 = 18446744073709551616 := rfl; omega
  have sh := Shifted.mk' hi lo y s (by omega) h1 h2 h3 (by omega)
  have or := or_add hi (lo / 2 ^ (64 - s)) s (by omega) sh.G0 sh.Gs (by have := sh.lt; omega)
  have g0 := sh.G0
  have H0 := sh.H0
  have L0 := sh.L0
  have L1 := sh.L1
  have tot := sh.tot
  have lt := sh.lt
  clear sh e1 hL n0 n1 hy lz
  generalize hY : y * 2 ^ s = Y at *
  generalize hG : lo / 2 ^ (64 - s) = G at *
  generalize hLL : lo * 2 ^ s % 18446744073709551616 = L at *
  generalize hH : hi * 2 ^ s = H at *
  generalize hU : H + G = U at *
  have lt0 := and_low Y (by omega) (by omega)
  have lt1 := and_low L (by omega) (by omega)
  have u0 : 0 ≤ U := by omega
  have a0 : 2147483648 ≤ Y / 4294967296 := by omega
  have p0 : 0 ≤ U / (Y / 4294967296) * (Y / 4294967296) := Int.mul_nonneg (Int.ediv_nonneg u0 (by omega)) (by omega)
  have p1 : U / (Y / 4294967296) * (Y / 4294967296) ≤ U := Int.ediv_mul_le _ (by omega)
  have p2 : U % (Y / 4294967296) = U - U / (Y / 4294967296) * (Y / 4294967296) := by
    have := Int.emod_add_mul_ediv U (Y / 4294967296); rw [Int.mul_comm] at this; omega
  have p3 := Int.emod_nonneg U (show Y / 4294967296 ≠ 0 by omega)
  have p4 := Int.emod_lt_of_pos U (show 0 < Y / 4294967296 by omega)
  have p5 : U / (Y / 4294967296) ≤ U := Int.ediv_le_self _ u0
  have hYs : Y = Y / 4294967296 * 4294967296 + Y % 4294967296 := by omega
  have r0 := Int.emod_nonneg (U * 4294967296 + L / 4294967296) (show Y ≠ 0 by omega)
  have r1 := Int.emod_lt_of_pos (U * 4294967296 + L / 4294967296) (show 0 < Y by omega)
  have dg1 := Dig.mk' U (L / 4294967296) Y (Y / 4294967296) (Y % 4294967296) hYs (by omega) (by omega) (by omega) u0 lt (by omega) (by omega)
  have st1 := dig_start U (L / 4294967296) Y (Y / 4294967296) (Y % 4294967296) hYs (by omega) (by omega) u0 (by omega) (by omega)
  have rest := dig_rest U (L / 4294967296) Y _ (by omega) (by omega) rfl
  have fq := fin_quot U L Y (twoW hi lo) y s hY.symm (by omega) u0 lt (by omega) L0 (by omega) tot
  have fr := fin_rest U L Y (twoW hi lo) y s hY.symm (by omega) (by omega) tot
  generalize hR1 : (U * 4294967296 + L / 4294967296) % Y = R1 at *
  have dg2 := Dig.mk' R1 (L % 4294967296) Y (Y / 4294967296) (Y % 4294967296) hYs (by omega) (by omega) (by omega) r0 r1 (by omega) (by omega)
  have st2 := dig_start R1 (L % 4294967296) Y (Y / 4294967296) (Y % 4294967296) hYs (by omega) (by omega) r0 (by omega) (by omega)
  have q0 : 0 ≤ R1 / (Y / 4294967296) * (Y / 4294967296) := Int.mul_nonneg (Int.ediv_nonneg r0 (by omega)) (by omega)
  have q1 : R1 / (Y / 4294967296) * (Y / 4294967296) ≤ R1 := Int.ediv_mul_le _ (by omega)
  have q2 : R1 % (Y / 4294967296) = R1 - R1 / (Y / 4294967296) * (Y / 4294967296) := by
    have := Int.emod_add_mul_ediv R1 (Y / 4294967296); rw [Int.mul_comm] at this; omega
  have q3 := Int.emod_nonneg R1 (show Y / 4294967296 ≠ 0 by omega)
  have q4 := Int.emod_lt_of_pos R1 (show 0 < Y / 4294967296 by omega)
  have q5 : R1 / (Y / 4294967296) ≤ R1 := Int.ediv_le_self _ r0
  exact div64_core hi lo y s Y (Y / 4294967296) (Y % 4294967296) H G U L (L / 4294967296) (L % 4294967296) (U / (Y / 4294967296)) (U - U / (Y / 4294967296) * (Y / 4294967296)) (R1 / (Y / 4294967296)) (R1 - R1 / (Y / 4294967296) * (Y / 4294967296))
    ((U * 4294967296 + L / 4294967296) / Y) R1 ((R1 * 4294967296 + L % 4294967296) / Y) _ _ w h0 h1 h2 h3 h4 s0 s1 lz' (by rw [hY]; omega) (by rw [hY]; omega) (by rw [hH]; omega) (by rw [hH]; omega)
    hY rfl lt0 hH hG (by rw [or]) (by rw [IntKind.wrap_u64]; exact hLL) rfl lt1 rfl rfl a0 u0 (by omega) (by omega) (by omega) (by omega) (by omega) (by omega) (by omega) (by omega) (by omega) (by omega) p0 p1
    rest r0 (by omega) rfl rfl q0 q1 dg2 ⟨st2, Int.ediv_nonneg r0 (by omega), by omega, by omega, by omega, by show _ = _; omega⟩
    dg1 ⟨st1, Int.ediv_nonneg u0 (by omega), by omega, by omega, by omega, by show _ = _; omega⟩ fq fr

set_option maxHeartbeats 1000000 in
set_option maxRecDepth 100000 in
theorem div64_zero (lo y : Int) (w : World) (h1 : 0 < y) (h2 : 0 ≤ lo) (h3 : lo ≤ 18446744073709551615) (h4 : y ≤ 140737488355327) :
    Calls Tryd.prog 62 #[.int .u64 0, .int .u64 lo, .int .u64 y] w fun e w' => e = .returned (.tuple #[.int .u64 (lo / y), .int .u64 (lo % y)]) ∧ ∃ n, w' = w.drewN n := by
  go_enter Tryd.func62, Tryd.ntmps62
  go_wp2_with fail
  go_quiet (fail)
  go_wp2
  go_ret2
  exact ⟨rfl, _, rfl⟩

theorem div64_any (hi lo y : Int) (w : World) (h0 : 0 ≤ hi) (h1 : hi < y) (h2 : 0 ≤ lo) (h3 : lo ≤ 18446744073709551615) (h4 : y ≤ 140737488355327) :
    Calls Tryd.prog 62 #[.int .u64 hi, .int .u64 lo, .int .u64 y] w fun e w' => e = .returned (.tuple #[.int .u64 (twoW hi lo / y), .int .u64 (twoW hi lo % y)]) ∧ ∃ n, w' = w.drewN n := by
  by_cases hz : hi = 0
  · subst hz
    rw [show twoW 0 lo = lo by unfold twoW; omega]
    exact div64_zero lo y w (by omega) h2 h3 h4
  · exact (div64_pos hi lo y w (by omega) h1 h2 h3 h4).mono fun _ _ h => ⟨h.1, 0, h.2⟩

end Go.Proofs.YtbaiekoedmhhaaaDoor

/- Package proportion: what Of, Up and Compare return, for every input. -/
namespace Go.Proofs.YtbaiekoedmhhaaaDoor
open Go.RowKit

theorem amounts_any (b off len cap : Nat) (zs : List Int) (w : World) (hz : len = zs.length) (hbig : len ≤ 9223372036854775807) (hc : ∀ j, j < zs.length → w.cell? ⟨b, off + j, none⟩ = some (.int .i64 (zs.getD j 0))) :
    Calls Tryd.prog 60 #[.slice (some ⟨b, off, none⟩) len cap] w fun e w' => e = .returned (.bool (zs.all isAm)) ∧ w' = w := by
  have HC := Lib.hid hc; clear hc
  have HZ := Lib.hid hz; clear hz
  go_enter Tryd.func60, Tryd.ntmps60
  go_wp2
  go_loop [7] (fun i => ∃ k : Nat, k ≤ len ∧ i = .int .i64 k ∧ (zs.take k).all isAm = true) (fun i => len - (intOf i).toNat)
  case atStart => exact ⟨0, Nat.zero_le _, rfl, by simp⟩
  case round =>
    obtain ⟨k, hk, rfl, hall⟩ := hrel
    have HA := Lib.hid hall; clear hall
    by_cases hlt : k < len
    · have hkz : k < zs.length := by rw [← HZ.out]; exact hlt
      have hcell : w.cell? ⟨b, off + k, none⟩ = some (.int .i64 (zs.getD k 0)) := HC.out k hkz
      have HS := Lib.hid (all_take_succ zs k hkz)
      have HF := Lib.hid (all_false_at zs k hkz)
      generalize zs.getD k 0 = z at *
      by_cases hb : 0 ≤ z ∧ z ≤ 128849018880000
      · have HB := Lib.hid ((isAm_iff z).2 hb)
        obtain ⟨hb1, hb2⟩ := hb
        clear hkz
        go_wp2
        go_round
        case rel => exact ⟨k + 1, by omega, by go_num, by rw [HS.out, HA.out, HB.out]; rfl⟩
        case measure => simp [intOf]; omega
      · have HB := Lib.hid (HF.out (by rw [isAm_not]; omega))
        by_cases hz0 : z < 0
        · clear hb hkz
          go_wp2
          go_ret
          rw [HB.out]; exact ⟨rfl, rfl⟩
        · have hz1 : 128849018880000 < z := by omega
          clear hb hkz
          go_wp2
          go_ret
          rw [HB.out]; exact ⟨rfl, rfl⟩
    · have HT : RowKit.Hid (zs.take k = zs) := by
        show zs.take k = zs
        exact List.take_of_length_le (by have := HZ.out; omega)
      go_wp2
      go_ret
      rw [← HA.out, HT.out]; exact ⟨rfl, rfl⟩

theorem mul64_int (x y : Int) (w : World) (hx0 : 0 ≤ x) (hx : x ≤ 9223372036854775807) (hy0 : 0 ≤ y) (hy : y ≤ 9223372036854775807) :
    Calls Tryd.prog 64 #[.int .u64 x, .int .u64 y] w fun e w' => e = .returned (.tuple #[.int .u64 (hiW (x * y)), .int .u64 (loW (x * y))]) ∧ w = w' := by
  obtain ⟨A, rfl⟩ := Int.eq_ofNat_of_zero_le hx0
  obtain ⟨B, rfl⟩ := Int.eq_ofNat_of_zero_le hy0
  refine (Tryd.bits_Mul64 A B (by omega) (by omega) w).mono fun e w' h => ⟨?_, h.2.symm⟩
  rw [h.1, hiW, loW]; simp

theorem multiply_any (a b : Int) (w : World) (ha0 : 0 ≤ a) (ha : a ≤ 9223372036854775807) (hb0 : 0 ≤ b) (hb : b ≤ 9223372036854775807) :
    Calls Tryd.prog 61 #[.int .i64 a, .int .i64 b] w fun e w' => e = .returned (.agg #[.int .u64 (hiW (a * b)), .int .u64 (loW (a * b))]) ∧ Below w.heap.size w w' := by
  go_enter Tryd.func61, Tryd.ntmps61
  go_wp2_with (go_at_call 64; refine (mul64_int a b _ ha0 ha hb0 hb).mono ?_; rintro e w' ⟨rfl, rfl⟩)
  go_returns
  exact ⟨rfl, by go_grown⟩

theorem amounts_row (zs : List Int) (vs : List Value) (w : World) (hv : vs = zs.map (Value.int .i64)) (hl : zs.length ≤ 1000) (r : Bool) (h : zs.all isAm = r) :
    Calls Tryd.prog 60 #[.slice (some ⟨w.heap.size, 0, none⟩) zs.length zs.length] (w.alloc (.cells vs.toArray 3)) fun e w' => e = .returned (.bool r) ∧ (w.alloc (.cells vs.toArray 3)) = w' := by
  refine (amounts_any _ 0 zs.length zs.length zs _ rfl (by omega) ?_).mono fun e w' g => ⟨by rw [g.1, h], g.2.symm⟩
  intro j hj
  subst hv
  rw [World.cell?_alloc_new]
  simp [List.getD, List.getElem?_eq_getElem hj]

theorem amounts1 (a : Int) (w : World) (r : Bool) (h : isAm a = r) :
    Calls Tryd.prog 60 #[.slice (some ⟨w.heap.size, 0, none⟩) 1 1] (w.alloc (.cells #[.int .i64 a] 3)) fun e w' => e = .returned (.bool r) ∧ (w.alloc (.cells #[.int .i64 a] 3)) = w' :=
  amounts_row [a] [.int .i64 a] w rfl (by simp) r (by simpa using h)
theorem amounts2 (a b : Int) (w : World) (r : Bool) (h : (isAm a && isAm b) = r) :
    Calls Tryd.prog 60 #[.slice (some ⟨w.heap.size, 0, none⟩) 2 2] (w.alloc (.cells #[.int .i64 a, .int .i64 b] 3)) fun e w' => e = .returned (.bool r) ∧ (w.alloc (.cells #[.int .i64 a, .int .i64 b] 3)) = w' :=
  amounts_row [a, b] [.int .i64 a, .int .i64 b] w rfl (by simp) r (by simpa using h)
theorem amounts3 (a b c : Int) (w : World) (r : Bool) (h : (isAm a && isAm b && isAm c) = r) :
    Calls Tryd.prog 60 #[.slice (some ⟨w.heap.size, 0, none⟩) 3 3] (w.alloc (.cells #[.int .i64 a, .int .i64 b, .int .i64 c] 3)) fun e w' => e = .returned (.bool r) ∧ (w.alloc (.cells #[.int .i64 a, .int .i64 b, .int .i64 c] 3)) = w' :=
  amounts_row [a, b, c] [.int .i64 a, .int .i64 b, .int .i64 c] w rfl (by simp) r (by simpa [Bool.and_assoc] using h)
theorem amounts4 (a b c d : Int) (w : World) (r : Bool) (h : (isAm a && isAm b && isAm c && isAm d) = r) :
    Calls Tryd.prog 60 #[.slice (some ⟨w.heap.size, 0, none⟩) 4 4] (w.alloc (.cells #[.int .i64 a, .int .i64 b, .int .i64 c, .int .i64 d] 3)) fun e w' => e = .returned (.bool r) ∧ (w.alloc (.cells #[.int .i64 a, .int .i64 b, .int .i64 c, .int .i64 d] 3)) = w' :=
  amounts_row [a, b, c, d] [.int .i64 a, .int .i64 b, .int .i64 c, .int .i64 d] w rfl (by simp) r (by simpa [Bool.and_assoc] using h)

theorem of_bad (a b c : Int) (w : World) (h : (isAm a && isAm b && isAm c) = false) :
    Calls Tryd.prog 56 #[.int .i64 a, .int .i64 b, .int .i64 c] w fun e w' => e = .returned (.tuple #[.int .i64 0, .int .i64 0, .int .i64 2]) ∧ Below w.heap.size w w' := by
  have H := Lib.hid h; clear h
  go_enter Tryd.func56, Tryd.ntmps56
  go_wp2_with (go_at_call 60; refine (amounts3 _ _ _ _ _ H.out).mono ?_; rintro e w' ⟨rfl, rfl⟩)
  go_returns
  exact ⟨rfl, by go_grown⟩

theorem of_zero (a b : Int) (w : World) (h : (isAm a && isAm b && isAm 0) = true) :
    Calls Tryd.prog 56 #[.int .i64 a, .int .i64 b, .int .i64 0] w fun e w' => e = .returned (.tuple #[.int .i64 0, .int .i64 0, .int .i64 16]) ∧ Below w.heap.size w w' := by
  have H := Lib.hid h; clear h
  go_enter Tryd.func56, Tryd.ntmps56
  go_wp2_with (go_at_call 60; refine (amounts3 _ _ _ _ _ H.out).mono ?_; rintro e w' ⟨rfl, rfl⟩)
  go_returns
  exact ⟨rfl, by go_grown⟩

theorem of_ok (a b c Q R : Int) (w : World) (h : (isAm a && isAm b && isAm c) = true) (hc : 1 ≤ c) (hQ : Hid (a * b / c = Q)) (hR : Hid (a * b % c = R)) (hq : Q ≤ 128849018880000) :
    Calls Tryd.prog 56 #[.int .i64 a, .int .i64 b, .int .i64 c] w fun e w' => e = .returned (.tuple #[.int .i64 Q, .int .i64 R, .int .i64 0]) ∧ Below w.heap.size w w' := by
  have h' := h
  simp only [Bool.and_eq_true, isAm_iff] at h'
  obtain ⟨⟨⟨a0, a1⟩, b0, b1⟩, c0, c1⟩ := h'
  have H := Lib.hid h; clear h
  have p0 : 0 ≤ a * b := Int.mul_nonneg a0 b0
  have q0 : 0 ≤ Q := by rw [← hQ.out]; exact Int.ediv_nonneg p0 c0
  have r0 : 0 ≤ R := by rw [← hR.out]; exact Int.emod_nonneg _ (by omega)
  have r1 : R < c := by rw [← hR.out]; exact Int.emod_lt_of_pos _ (by omega)
  have k : hiW (a * b) < c := by
    rcases Int.lt_or_le (hiW (a * b)) c with k | k
    · exact k
    · have := hiW_ge _ _ k (by omega); rw [hQ.out] at this; omega
  have k0 := hiW_nonneg _ p0
  clear p0
  go_enter Tryd.func56, Tryd.ntmps56
  go_wp2_with (go_at_call 60; refine (amounts3 _ _ _ _ _ H.out).mono ?_; rintro e w' ⟨rfl, rfl⟩)
  refine (multiply_any a b _ a0 (by omega) b0 (by omega)).mono ?_
  rintro e w1 ⟨rfl, hb1⟩
  go_wp2_with fail
  refine (div64_any (hiW (a * b)) (loW (a * b)) c _ k0 k (loW_nonneg _) (loW_le _) (by omega)).mono ?_
  rw [twoW_split, hQ.out, hR.out]
  rintro e w2 ⟨rfl, n, rfl⟩
  go_wp2
  go_returns
  exact ⟨rfl, bel_trans (bel_alloc hb1) (bel_alloc (bel_drewN _ _))⟩

theorem of_big (a b c Q R : Int) (w : World) (h : (isAm a && isAm b && isAm c) = true) (hc : 1 ≤ c) (hQ : Hid (a * b / c = Q)) (hR : Hid (a * b % c = R)) (hq : 128849018880000 < Q) :
    Calls Tryd.prog 56 #[.int .i64 a, .int .i64 b, .int .i64 c] w fun e w' => e = .returned (.tuple #[.int .i64 0, .int .i64 0, .int .i64 15]) ∧ Below w.heap.size w w' := by
  have h' := h
  simp only [Bool.and_eq_true, isAm_iff] at h'
  obtain ⟨⟨⟨a0, a1⟩, b0, b1⟩, c0, c1⟩ := h'
  have H := Lib.hid h; clear h
  have p0 : 0 ≤ a * b := Int.mul_nonneg a0 b0
  have k0 := hiW_nonneg _ p0
  by_cases k : hiW (a * b) < c
  · have q1 : Q ≤ 18446744073709551615 := by
      rw [← hQ.out]
      have : a * b / c < 18446744073709551616 := by
        apply Int.ediv_lt_of_lt_mul (by omega)
        unfold hiW at k; omega
      omega
    have r0 : 0 ≤ R := by rw [← hR.out]; exact Int.emod_nonneg _ (by omega)
    have r1 : R < c := by rw [← hR.out]; exact Int.emod_lt_of_pos _ (by omega)
    clear p0
    go_enter Tryd.func56, Tryd.ntmps56
    go_wp2_with (go_at_call 60; refine (amounts3 _ _ _ _ _ H.out).mono ?_; rintro e w' ⟨rfl, rfl⟩)
    refine (multiply_any a b _ a0 (by omega) b0 (by omega)).mono ?_
    rintro e w1 ⟨rfl, hb1⟩
    go_wp2_with fail
    refine (div64_any (hiW (a * b)) (loW (a * b)) c _ k0 k (loW_nonneg _) (loW_le _) (by omega)).mono ?_
    rw [twoW_split, hQ.out, hR.out]
    rintro e w2 ⟨rfl, n, rfl⟩
    go_wp2
    go_returns
    exact ⟨rfl, bel_trans (bel_alloc hb1) (bel_alloc (bel_drewN _ _))⟩
  · clear p0
    go_enter Tryd.func56, Tryd.ntmps56
    go_wp2_with (go_at_call 60; refine (amounts3 _ _ _ _ _ H.out).mono ?_; rintro e w' ⟨rfl, rfl⟩)
    refine (multiply_any a b _ a0 (by omega) b0 (by omega)).mono ?_
    rintro e w1 ⟨rfl, hb1⟩
    go_wp2
    go_returns
    exact ⟨rfl, bel_trans (bel_alloc hb1) (bel_alloc (Below.refl _ _))⟩

/-- 'Of', whatever it is handed -/
theorem of_any (a b c : Int) (w : World) :
    Calls Tryd.prog 56 #[.int .i64 a, .int .i64 b, .int .i64 c] w fun e w' => e = .returned (.tuple #[.int .i64 (ofQ a b c), .int .i64 (ofR a b c), .int .i64 (ofE a b c)]) ∧ Below w.heap.size w w' := by
  unfold ofQ ofR
  cases h : (isAm a && isAm b && isAm c) with
  | false =>
    have e : ofE a b c = 2 := by unfold ofE; rw [h]; rfl
    rw [e]; exact of_bad a b c w h
  | true =>
    by_cases hc : c = 0
    · subst hc
      have e : ofE a b 0 = 16 := by unfold ofE; rw [h]; rfl
      rw [e]; exact of_zero a b w h
    · have h' := h
      simp only [Bool.and_eq_true, isAm_iff] at h'
      by_cases hq : a * b / c ≤ 128849018880000
      · have e : ofE a b c = 0 := by unfold ofE; rw [h, if_pos rfl, if_neg hc, if_pos hq]
        rw [e]; exact of_ok a b c _ _ w h (by omega) rfl rfl hq
      · have e : ofE a b c = 15 := by unfold ofE; rw [h, if_pos rfl, if_neg hc, if_neg hq]
        rw [e]; exact of_big a b c _ _ w h (by omega) rfl rfl (by omega)

end Go.Proofs.YtbaiekoedmhhaaaDoor

/- Package rounding: the rules' decisions, and what they make of a quotient. -/
namespace Go.Proofs.YtbaiekoedmhhaaaDoor
open Go.RowKit

theorem bneq {x y : Int} (h : x ≠ y) : (x != y) = true := by rw [bne_iff_ne]; exact h

/-- a division as a value -/
abbrev dvn (q r b : Int) : Value := .agg #[.int .i64 q, .int .i64 r, .int .i64 b]
/-- a function without captured variables, as a value -/
abbrev fv (f : FuncId) : Value := .func (.func f) #[] #[]

theorem nearest_any (f : FuncId) (w : World) :
    Calls Tryd.prog 68 #[fv f] w fun e w' => e = .returned (.func (.func 72) #[] #[.pointer (some ⟨w.heap.size, 0, none⟩)]) ∧ w.alloc (.cells #[fv f] 97) = w' := by
  go_enter Tryd.func68, Tryd.ntmps68
  go_wp2
  go_returns
  exact ⟨rfl, rfl⟩

theorem choosers_any (w : World) :
    Calls Tryd.prog 63 #[] w fun e w' => ∃ b1 b2, e = .returned (.agg #[.nilFunc, fv 66, fv 67, .func (.func 72) #[] #[.pointer (some ⟨b1, 0, none⟩)], .func (.func 72) #[] #[.pointer (some ⟨b2, 0, none⟩)]])
      ∧ w'.cell? ⟨b1, 0, none⟩ = some (fv 69) ∧ w'.cell? ⟨b2, 0, none⟩ = some (fv 70) ∧ Below w.heap.size w w' := by
  go_enter Tryd.func63, Tryd.ntmps63
  go_wp2_with (go_at_call 68; refine (nearest_any _ _).mono ?_; rintro e w' ⟨rfl, rfl⟩)
  go_returns
  exact ⟨_, _, rfl, by simp [go_sem], by simp [go_sem], by go_grown⟩

theorem down_any (q r b : Int) (w : World) :
    Calls Tryd.prog 66 #[dvn q r b] w fun e w' => e = .returned (.bool false) ∧ Below w.heap.size w w' := by
  go_enter Tryd.func66, Tryd.ntmps66
  go_wp2
  go_ret
  exact ⟨rfl, by go_grown⟩
theorem up_any (q r b : Int) (w : World) :
    Calls Tryd.prog 67 #[dvn q r b] w fun e w' => e = .returned (.bool (decide (0 < r))) ∧ Below w.heap.size w w' := by
  go_enter Tryd.func67, Tryd.ntmps67
  go_wp2
  go_ret
  exact ⟨rfl, by go_grown⟩
theorem tieUp_any (q r b : Int) (w : World) :
    Calls Tryd.prog 69 #[dvn q r b] w fun e w' => e = .returned (.bool true) ∧ Below w.heap.size w w' := by
  go_enter Tryd.func69, Tryd.ntmps69
  go_wp2
  go_ret
  exact ⟨rfl, by go_grown⟩
theorem tieEven_any (q r b : Int) (w : World) :
    Calls Tryd.prog 70 #[dvn q r b] w fun e w' => e = .returned (.bool (q.tmod 2 != 0)) ∧ Below w.heap.size w w' := by
  go_enter Tryd.func70, Tryd.ntmps70
  go_wp2
  go_ret
  exact ⟨rfl, by go_grown⟩

/-- the decision for the nearest quotient; t decides between two of them -/
def nearB (r b : Int) (t : Bool) : Bool := decide (b - r < r) || (decide (b - r = r) && t)

theorem nearUp_any (q r b : Int) (g : Nat) (w : World) (hr0 : 0 ≤ r) (hr1 : r ≤ 9223372036854775807) (hb0 : 1 ≤ b) (hb1 : b ≤ 9223372036854775807) (hlt : r < b)
    (hc : w.cell? ⟨g, 0, none⟩ = some (fv 69)) :
    Calls Tryd.prog 72 #[dvn q r b, .pointer (some ⟨g, 0, none⟩)] w fun e w' => e = .returned (.bool (nearB r b true)) ∧ Below w.heap.size w w' := by
  have hg := World.block_lt_of_cell? w _ hc
  have hc2 := fun o => ((bcell ((Below.refl w.heap.size w).alloc (Nat.le_refl _) o)).1 g 0 hg).trans hc
  clear hc
  by_cases h1 : b - r < r
  · have hn : Hid (nearB r b true = true) := by show _ = _; unfold nearB; rw [decide_eq_true h1]; rfl
    rw [hn.out]
    go_enter Tryd.func72, Tryd.ntmps72
    go_wp2_with fail
    go_quiet (fail)
    go_wp2
    go_ret
    exact ⟨rfl, bel_alloc (bel_drewN _ _)⟩
  · by_cases h2 : b - r = r
    · have hn : Hid (nearB r b true = true) := by show _ = _; unfold nearB; rw [decide_eq_false h1, decide_eq_true h2]; simp
      rw [hn.out]
      have h3 : (b - r == r) = true := by rw [beq_iff_eq]; exact h2
      have H2 := Lib.hid h2; clear h2
      go_enter Tryd.func72, Tryd.ntmps72
      go_wp2_with fail
      go_quiet (fail)
      go_wp2_with fail
      refine (tieUp_any q r b _).mono ?_
      rintro e w' ⟨rfl, hb⟩
      go_wp2
      go_ret
      exact ⟨ret_bool (by first | rfl | (rw [decide_eq_false (show ¬ b - r < r by omega)]; done) | (rw [decide_eq_false (show ¬ b - r < r by omega)]; simp)), bel_trans (bel_alloc (bel_drewN _ _)) hb⟩
    · have hn : Hid (nearB r b true = false) := by show _ = _; unfold nearB; rw [decide_eq_false h1, decide_eq_false h2]; rfl
      rw [hn.out]
      have h3 : (b - r == r) = false := by rw [beq_eq_false_iff_ne]; exact h2
      go_enter Tryd.func72, Tryd.ntmps72
      go_wp2_with fail
      go_quiet (fail)
      go_wp2
      go_ret
      exact ⟨ret_bool (by first | rfl | (rw [decide_eq_false (show ¬ b - r < r by omega)]; done) | (rw [decide_eq_false (show ¬ b - r < r by omega)]; simp)), bel_alloc (bel_drewN _ _)⟩

theorem nearEven_any (q r b : Int) (g : Nat) (w : World) (hr0 : 0 ≤ r) (hr1 : r ≤ 9223372036854775807) (hb0 : 1 ≤ b) (hb1 : b ≤ 9223372036854775807) (hlt : r < b)
    (hc : w.cell? ⟨g, 0, none⟩ = some (fv 70)) :
    Calls Tryd.prog 72 #[dvn q r b, .pointer (some ⟨g, 0, none⟩)] w fun e w' => e = .returned (.bool (nearB r b (q.tmod 2 != 0))) ∧ Below w.heap.size w w' := by
  have hg := World.block_lt_of_cell? w _ hc
  have hc2 := fun o => ((bcell ((Below.refl w.heap.size w).alloc (Nat.le_refl _) o)).1 g 0 hg).trans hc
  clear hc
  by_cases h1 : b - r < r
  · have hn : Hid (nearB r b (q.tmod 2 != 0) = true) := by show _ = _; unfold nearB; rw [decide_eq_true h1]; rfl
    rw [hn.out]
    go_enter Tryd.func72, Tryd.ntmps72
    go_wp2_with fail
    go_quiet (fail)
    go_wp2
    go_ret
    exact ⟨rfl, bel_alloc (bel_drewN _ _)⟩
  · by_cases h2 : b - r = r
    · have hn : Hid (nearB r b (q.tmod 2 != 0) = (q.tmod 2 != 0)) := by show _ = _; unfold nearB; rw [decide_eq_false h1, decide_eq_true h2]; simp
      rw [hn.out]
      have h3 : (b - r == r) = true := by rw [beq_iff_eq]; exact h2
      have H2 := Lib.hid h2; clear h2
      go_enter Tryd.func72, Tryd.ntmps72
      go_wp2_with fail
      go_quiet (fail)
      go_wp2_with fail
      refine (tieEven_any q r b _).mono ?_
      rintro e w' ⟨rfl, hb⟩
      go_wp2
      go_ret
      exact ⟨ret_bool (by first | rfl | (rw [decide_eq_false (show ¬ b - r < r by omega)]; done) | (rw [decide_eq_false (show ¬ b - r < r by omega)]; simp)), bel_trans (bel_alloc (bel_drewN _ _)) hb⟩
    · have hn : Hid (nearB r b (q.tmod 2 != 0) = false) := by show _ = _; unfold nearB; rw [decide_eq_false h1, decide_eq_false h2]; rfl
      rw [hn.out]
      have h3 : (b - r == r) = false := by rw [beq_eq_false_iff_ne]; exact h2
      go_enter Tryd.func72, Tryd.ntmps72
      go_wp2_with fail
      go_quiet (fail)
      go_wp2
      go_ret
      exact ⟨ret_bool (by first | rfl | (rw [decide_eq_false (show ¬ b - r < r by omega)]; done) | (rw [decide_eq_false (show ¬ b - r < r by omega)]; simp)), bel_alloc (bel_drewN _ _)⟩


/-- whether a quotient that was rounded down has to be greater by 1 -/
def moreB (rule q r b : Int) : Bool :=
  if rule = 1 then false else if rule = 2 then decide (0 < r) else if rule = 3 then nearB r b true else nearB r b (q.tmod 2 != 0)

theorem idx1 (a b c d e : Value) (w : World) : (Instr.index 98 (.agg #[a, b, c, d, e]) (.int .i64 1)).run Tryd.prog w = .ok b w := by kernel_rfl
theorem idx2 (a b c d e : Value) (w : World) : (Instr.index 98 (.agg #[a, b, c, d, e]) (.int .i64 2)).run Tryd.prog w = .ok c w := by kernel_rfl
theorem idx3 (a b c d e : Value) (w : World) : (Instr.index 98 (.agg #[a, b, c, d, e]) (.int .i64 3)).run Tryd.prog w = .ok d w := by kernel_rfl
theorem idx4 (a b c d e : Value) (w : World) : (Instr.index 98 (.agg #[a, b, c, d, e]) (.int .i64 4)).run Tryd.prog w = .ok e w := by kernel_rfl

theorem round1_false (q r b : Int) (w : World) (q0 : -9223372036854775808 ≤ q) (q1 : q < 9223372036854775807) (hr0 : 0 ≤ r) (hb1 : b ≤ 9223372036854775807) (hlt : r < b) (ht : Hid (false = false)) :
    Calls Tryd.prog 57 #[dvn q r b, .int .i64 1] w fun e w' => e = .returned (.tuple #[.int .i64 (q), .int .i64 (r)]) ∧ Below w.heap.size w w' := by
  have hi := idx1
  have S0 : (w.alloc (.cells #[.int .i64 q, .int .i64 r, .int .i64 b] 87)).cell? ⟨w.heap.size, 0, none⟩ = some (.int .i64 q) := by simp [World.cell?_alloc_new]
  have S1 : (w.alloc (.cells #[.int .i64 q, .int .i64 r, .int .i64 b] 87)).cell? ⟨w.heap.size, 1, none⟩ = some (.int .i64 r) := by simp [World.cell?_alloc_new]
  have S2 : (w.alloc (.cells #[.int .i64 q, .int .i64 r, .int .i64 b] 87)).cell? ⟨w.heap.size, 2, none⟩ = some (.int .i64 b) := by simp [World.cell?_alloc_new]
  go_enter Tryd.func57, Tryd.ntmps57
  go_wp2_with fail
  have HB : Hid (Below w.heap.size w (w.alloc (.cells #[.int .i64 q, .int .i64 r, .int .i64 b] 87)).drew) := (bel_alloc (Below.refl _ _)).drew
  go_region_held3 (fun w' => w'.cell? ⟨w.heap.size, 0, none⟩ = some (.int .i64 q) ∧ w'.cell? ⟨w.heap.size, 1, none⟩ = some (.int .i64 r) ∧ w'.cell? ⟨w.heap.size, 2, none⟩ = some (.int .i64 b)) (go_keep)
    (first
      | (go_at_call 63; refine (choosers_any _).mono ?_; rintro e w2 ⟨b1, b2, rfl, k1, k2, hb⟩; have hs := fun o => (bcell hb).1 w.heap.size o (by simp); have z2 := hb.size; (try simp at z2); replace HB := Lib.hid (bel_trans HB.out hb); clear hb)
      | (go_at_call 66; refine (down_any q r b _).mono ?_; rintro e w3 ⟨rfl, hb⟩; have hs := fun o => (bcell hb).1 w.heap.size o (by omega); replace HB := Lib.hid (bel_trans HB.out hb); clear hb))
  go_wp2_with fail
  go_quiet (fail)
  go_wp2
  go_returns
  exact ⟨rfl, bel_trans HB.out (bel_drewN _ _)⟩

theorem round2_true (q r b : Int) (w : World) (q0 : -9223372036854775808 ≤ q) (q1 : q < 9223372036854775807) (hr0 : 0 ≤ r) (hb1 : b ≤ 9223372036854775807) (hlt : r < b) (ht : Hid (decide (0 < r) = true)) :
    Calls Tryd.prog 57 #[dvn q r b, .int .i64 2] w fun e w' => e = .returned (.tuple #[.int .i64 (q + 1), .int .i64 (r - b)]) ∧ Below w.heap.size w w' := by
  have hi := idx2
  have S0 : (w.alloc (.cells #[.int .i64 q, .int .i64 r, .int .i64 b] 87)).cell? ⟨w.heap.size, 0, none⟩ = some (.int .i64 q) := by simp [World.cell?_alloc_new]
  have S1 : (w.alloc (.cells #[.int .i64 q, .int .i64 r, .int .i64 b] 87)).cell? ⟨w.heap.size, 1, none⟩ = some (.int .i64 r) := by simp [World.cell?_alloc_new]
  have S2 : (w.alloc (.cells #[.int .i64 q, .int .i64 r, .int .i64 b] 87)).cell? ⟨w.heap.size, 2, none⟩ = some (.int .i64 b) := by simp [World.cell?_alloc_new]
  go_enter Tryd.func57, Tryd.ntmps57
  go_wp2_with fail
  have HB : Hid (Below w.heap.size w (w.alloc (.cells #[.int .i64 q, .int .i64 r, .int .i64 b] 87)).drew) := (bel_alloc (Below.refl _ _)).drew
  go_region_held3 (fun w' => w'.cell? ⟨w.heap.size, 0, none⟩ = some (.int .i64 q) ∧ w'.cell? ⟨w.heap.size, 1, none⟩ = some (.int .i64 r) ∧ w'.cell? ⟨w.heap.size, 2, none⟩ = some (.int .i64 b)) (go_keep)
    (first
      | (go_at_call 63; refine (choosers_any _).mono ?_; rintro e w2 ⟨b1, b2, rfl, k1, k2, hb⟩; have hs := fun o => (bcell hb).1 w.heap.size o (by simp); have z2 := hb.size; (try simp at z2); replace HB := Lib.hid (bel_trans HB.out hb); clear hb)
      | (go_at_call 67; refine (up_any q r b _).mono ?_; rw [ht.out]; rintro e w3 ⟨rfl, hb⟩; have hs := fun o => (bcell hb).1 w.heap.size o (by omega); replace HB := Lib.hid (bel_trans HB.out hb); clear hb))
  go_wp2_with fail
  go_quiet (fail)
  go_wp2
  go_returns
  exact ⟨rfl, bel_trans HB.out (bel_drewN _ _)⟩

theorem round2_false (q r b : Int) (w : World) (q0 : -9223372036854775808 ≤ q) (q1 : q < 9223372036854775807) (hr0 : 0 ≤ r) (hb1 : b ≤ 9223372036854775807) (hlt : r < b) (ht : Hid (decide (0 < r) = false)) :
    Calls Tryd.prog 57 #[dvn q r b, .int .i64 2] w fun e w' => e = .returned (.tuple #[.int .i64 (q), .int .i64 (r)]) ∧ Below w.heap.size w w' := by
  have hi := idx2
  have S0 : (w.alloc (.cells #[.int .i64 q, .int .i64 r, .int .i64 b] 87)).cell? ⟨w.heap.size, 0, none⟩ = some (.int .i64 q) := by simp [World.cell?_alloc_new]
  have S1 : (w.alloc (.cells #[.int .i64 q, .int .i64 r, .int .i64 b] 87)).cell? ⟨w.heap.size, 1, none⟩ = some (.int .i64 r) := by simp [World.cell?_alloc_new]
  have S2 : (w.alloc (.cells #[.int .i64 q, .int .i64 r, .int .i64 b] 87)).cell? ⟨w.heap.size, 2, none⟩ = some (.int .i64 b) := by simp [World.cell?_alloc_new]
  go_enter Tryd.func57, Tryd.ntmps57
  go_wp2_with fail
  have HB : Hid (Below w.heap.size w (w.alloc (.cells #[.int .i64 q, .int .i64 r, .int .i64 b] 87)).drew) := (bel_alloc (Below.refl _ _)).drew
  go_region_held3 (fun w' => w'.cell? ⟨w.heap.size, 0, none⟩ = some (.int .i64 q) ∧ w'.cell? ⟨w.heap.size, 1, none⟩ = some (.int .i64 r) ∧ w'.cell? ⟨w.heap.size, 2, none⟩ = some (.int .i64 b)) (go_keep)
    (first
      | (go_at_call 63; refine (choosers_any _).mono ?_; rintro e w2 ⟨b1, b2, rfl, k1, k2, hb⟩; have hs := fun o => (bcell hb).1 w.heap.size o (by simp); have z2 := hb.size; (try simp at z2); replace HB := Lib.hid (bel_trans HB.out hb); clear hb)
      | (go_at_call 67; refine (up_any q r b _).mono ?_; rw [ht.out]; rintro e w3 ⟨rfl, hb⟩; have hs := fun o => (bcell hb).1 w.heap.size o (by omega); replace HB := Lib.hid (bel_trans HB.out hb); clear hb))
  go_wp2_with fail
  go_quiet (fail)
  go_wp2
  go_returns
  exact ⟨rfl, bel_trans HB.out (bel_drewN _ _)⟩

theorem round3_true (q r b : Int) (w : World) (q0 : -9223372036854775808 ≤ q) (q1 : q < 9223372036854775807) (hr0 : 0 ≤ r) (hb1 : b ≤ 9223372036854775807) (hlt : r < b) (ht : Hid (nearB r b true = true)) :
    Calls Tryd.prog 57 #[dvn q r b, .int .i64 3] w fun e w' => e = .returned (.tuple #[.int .i64 (q + 1), .int .i64 (r - b)]) ∧ Below w.heap.size w w' := by
  have hi := idx3
  have S0 : (w.alloc (.cells #[.int .i64 q, .int .i64 r, .int .i64 b] 87)).cell? ⟨w.heap.size, 0, none⟩ = some (.int .i64 q) := by simp [World.cell?_alloc_new]
  have S1 : (w.alloc (.cells #[.int .i64 q, .int .i64 r, .int .i64 b] 87)).cell? ⟨w.heap.size, 1, none⟩ = some (.int .i64 r) := by simp [World.cell?_alloc_new]
  have S2 : (w.alloc (.cells #[.int .i64 q, .int .i64 r, .int .i64 b] 87)).cell? ⟨w.heap.size, 2, none⟩ = some (.int .i64 b) := by simp [World.cell?_alloc_new]
  go_enter Tryd.func57, Tryd.ntmps57
  go_wp2_with fail
  have HB : Hid (Below w.heap.size w (w.alloc (.cells #[.int .i64 q, .int .i64 r, .int .i64 b] 87)).drew) := (bel_alloc (Below.refl _ _)).drew
  go_region_held3 (fun w' => w'.cell? ⟨w.heap.size, 0, none⟩ = some (.int .i64 q) ∧ w'.cell? ⟨w.heap.size, 1, none⟩ = some (.int .i64 r) ∧ w'.cell? ⟨w.heap.size, 2, none⟩ = some (.int .i64 b)) (go_keep)
    (first
      | (go_at_call 63; refine (choosers_any _).mono ?_; rintro e w2 ⟨b1, b2, rfl, k1, k2, hb⟩; have hs := fun o => (bcell hb).1 w.heap.size o (by simp); have z2 := hb.size; (try simp at z2); replace HB := Lib.hid (bel_trans HB.out hb); clear hb)
      | (go_at_call 72; refine (nearUp_any q r b _ _ (by omega) (by omega) (by omega) (by omega) (by omega) (by assumption)).mono ?_; rw [ht.out]; rintro e w3 ⟨rfl, hb⟩; have hs := fun o => (bcell hb).1 w.heap.size o (by omega); replace HB := Lib.hid (bel_trans HB.out hb); clear hb))
  go_wp2_with fail
  go_quiet (fail)
  go_wp2
  go_returns
  exact ⟨rfl, bel_trans HB.out (bel_drewN _ _)⟩

theorem round3_false (q r b : Int) (w : World) (q0 : -9223372036854775808 ≤ q) (q1 : q < 9223372036854775807) (hr0 : 0 ≤ r) (hb1 : b ≤ 9223372036854775807) (hlt : r < b) (ht : Hid (nearB r b true = false)) :
    Calls Tryd.prog 57 #[dvn q r b, .int .i64 3] w fun e w' => e = .returned (.tuple #[.int .i64 (q), .int .i64 (r)]) ∧ Below w.heap.size w w' := by
  have hi := idx3
  have S0 : (w.alloc (.cells #[.int .i64 q, .int .i64 r, .int .i64 b] 87)).cell? ⟨w.heap.size, 0, none⟩ = some (.int .i64 q) := by simp [World.cell?_alloc_new]
  have S1 : (w.alloc (.cells #[.int .i64 q, .int .i64 r, .int .i64 b] 87)).cell? ⟨w.heap.size, 1, none⟩ = some (.int .i64 r) := by simp [World.cell?_alloc_new]
  have S2 : (w.alloc (.cells #[.int .i64 q, .int .i64 r, .int .i64 b] 87)).cell? ⟨w.heap.size, 2, none⟩ = some (.int .i64 b) := by simp [World.cell?_alloc_new]
  go_enter Tryd.func57, Tryd.ntmps57
  go_wp2_with fail
  have HB : Hid (Below w.heap.size w (w.alloc (.cells #[.int .i64 q, .int .i64 r, .int .i64 b] 87)).drew) := (bel_alloc (Below.refl _ _)).drew
  go_region_held3 (fun w' => w'.cell? ⟨w.heap.size, 0, none⟩ = some (.int .i64 q) ∧ w'.cell? ⟨w.heap.size, 1, none⟩ = some (.int .i64 r) ∧ w'.cell? ⟨w.heap.size, 2, none⟩ = some (.int .i64 b)) (go_keep)
    (first
      | (go_at_call 63; refine (choosers_any _).mono ?_; rintro e w2 ⟨b1, b2, rfl, k1, k2, hb⟩; have hs := fun o => (bcell hb).1 w.heap.size o (by simp); have z2 := hb.size; (try simp at z2); replace HB := Lib.hid (bel_trans HB.out hb); clear hb)
      | (go_at_call 72; refine (nearUp_any q r b _ _ (by omega) (by omega) (by omega) (by omega) (by omega) (by assumption)).mono ?_; rw [ht.out]; rintro e w3 ⟨rfl, hb⟩; have hs := fun o => (bcell hb).1 w.heap.size o (by omega); replace HB := Lib.hid (bel_trans HB.out hb); clear hb))
  go_wp2_with fail
  go_quiet (fail)
  go_wp2
  go_returns
  exact ⟨rfl, bel_trans HB.out (bel_drewN _ _)⟩

theorem round4_true (q r b : Int) (w : World) (q0 : -9223372036854775808 ≤ q) (q1 : q < 9223372036854775807) (hr0 : 0 ≤ r) (hb1 : b ≤ 9223372036854775807) (hlt : r < b) (ht : Hid (nearB r b (q.tmod 2 != 0) = true)) :
    Calls Tryd.prog 57 #[dvn q r b, .int .i64 4] w fun e w' => e = .returned (.tuple #[.int .i64 (q + 1), .int .i64 (r - b)]) ∧ Below w.heap.size w w' := by
  have hi := idx4
  have S0 : (w.alloc (.cells #[.int .i64 q, .int .i64 r, .int .i64 b] 87)).cell? ⟨w.heap.size, 0, none⟩ = some (.int .i64 q) := by simp [World.cell?_alloc_new]
  have S1 : (w.alloc (.cells #[.int .i64 q, .int .i64 r, .int .i64 b] 87)).cell? ⟨w.heap.size, 1, none⟩ = some (.int .i64 r) := by simp [World.cell?_alloc_new]
  have S2 : (w.alloc (.cells #[.int .i64 q, .int .i64 r, .int .i64 b] 87)).cell? ⟨w.heap.size, 2, none⟩ = some (.int .i64 b) := by simp [World.cell?_alloc_new]
  go_enter Tryd.func57, Tryd.ntmps57
  go_wp2_with fail
  have HB : Hid (Below w.heap.size w (w.alloc (.cells #[.int .i64 q, .int .i64 r, .int .i64 b] 87)).drew) := (bel_alloc (Below.refl _ _)).drew
  go_region_held3 (fun w' => w'.cell? ⟨w.heap.size, 0, none⟩ = some (.int .i64 q) ∧ w'.cell? ⟨w.heap.size, 1, none⟩ = some (.int .i64 r) ∧ w'.cell? ⟨w.heap.size, 2, none⟩ = some (.int .i64 b)) (go_keep)
    (first
      | (go_at_call 63; refine (choosers_any _).mono ?_; rintro e w2 ⟨b1, b2, rfl, k1, k2, hb⟩; have hs := fun o => (bcell hb).1 w.heap.size o (by simp); have z2 := hb.size; (try simp at z2); replace HB := Lib.hid (bel_trans HB.out hb); clear hb)
      | (go_at_call 72; refine (nearEven_any q r b _ _ (by omega) (by omega) (by omega) (by omega) (by omega) (by assumption)).mono ?_; rw [ht.out]; rintro e w3 ⟨rfl, hb⟩; have hs := fun o => (bcell hb).1 w.heap.size o (by omega); replace HB := Lib.hid (bel_trans HB.out hb); clear hb))
  go_wp2_with fail
  go_quiet (fail)
  go_wp2
  go_returns
  exact ⟨rfl, bel_trans HB.out (bel_drewN _ _)⟩

theorem round4_false (q r b : Int) (w : World) (q0 : -9223372036854775808 ≤ q) (q1 : q < 9223372036854775807) (hr0 : 0 ≤ r) (hb1 : b ≤ 9223372036854775807) (hlt : r < b) (ht : Hid (nearB r b (q.tmod 2 != 0) = false)) :
    Calls Tryd.prog 57 #[dvn q r b, .int .i64 4] w fun e w' => e = .returned (.tuple #[.int .i64 (q), .int .i64 (r)]) ∧ Below w.heap.size w w' := by
  have hi := idx4
  have S0 : (w.alloc (.cells #[.int .i64 q, .int .i64 r, .int .i64 b] 87)).cell? ⟨w.heap.size, 0, none⟩ = some (.int .i64 q) := by simp [World.cell?_alloc_new]
  have S1 : (w.alloc (.cells #[.int .i64 q, .int .i64 r, .int .i64 b] 87)).cell? ⟨w.heap.size, 1, none⟩ = some (.int .i64 r) := by simp [World.cell?_alloc_new]
  have S2 : (w.alloc (.cells #[.int .i64 q, .int .i64 r, .int .i64 b] 87)).cell? ⟨w.heap.size, 2, none⟩ = some (.int .i64 b) := by simp [World.cell?_alloc_new]
  go_enter Tryd.func57, Tryd.ntmps57
  go_wp2_with fail
  have HB : Hid (Below w.heap.size w (w.alloc (.cells #[.int .i64 q, .int .i64 r, .int .i64 b] 87)).drew) := (bel_alloc (Below.refl _ _)).drew
  go_region_held3 (fun w' => w'.cell? ⟨w.heap.size, 0, none⟩ = some (.int .i64 q) ∧ w'.cell? ⟨w.heap.size, 1, none⟩ = some (.int .i64 r) ∧ w'.cell? ⟨w.heap.size, 2, none⟩ = some (.int .i64 b)) (go_keep)
    (first
      | (go_at_call 63; refine (choosers_any _).mono ?_; rintro e w2 ⟨b1, b2, rfl, k1, k2, hb⟩; have hs := fun o => (bcell hb).1 w.heap.size o (by simp); have z2 := hb.size; (try simp at z2); replace HB := Lib.hid (bel_trans HB.out hb); clear hb)
      | (go_at_call 72; refine (nearEven_any q r b _ _ (by omega) (by omega) (by omega) (by omega) (by omega) (by assumption)).mono ?_; rw [ht.out]; rintro e w3 ⟨rfl, hb⟩; have hs := fun o => (bcell hb).1 w.heap.size o (by omega); replace HB := Lib.hid (bel_trans HB.out hb); clear hb))
  go_wp2_with fail
  go_quiet (fail)
  go_wp2
  go_returns
  exact ⟨rfl, bel_trans HB.out (bel_drewN _ _)⟩


end Go.Proofs.YtbaiekoedmhhaaaDoor
