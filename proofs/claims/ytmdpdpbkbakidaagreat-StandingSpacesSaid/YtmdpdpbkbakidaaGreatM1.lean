/- Texts that the proofs of this seat share, one behind the other: Kit, Two, PPL0, PM, LB0, PPM, PRA, PRB, Txt, Quad, CKL, CRB, CRC, CRD, KT, Nums, CRA, PRU, CEP, CRH, RM, SM, SW, SG, SP, SQ, SX. -/
import Derived.Test.YtmdpdpbkbakidaaGreatProg
import Derived.Test.YtmdpdpbkbakidaaGreatRows
import Derived.Test.YtmdpdpbkbakidaaGreatShelf
import Derived.WalkKit
import Derived.Handy
import Derived.Lib.Hide
import Derived.Lib.LaidTab
import Derived.Lib.LaidU8
import Derived.Lib.ItoaNum
import Derived.Outline
import Derived.Deep.DeepCutAuto
import Derived.Deep.CutBlock
import Derived.Deep.QuietTactic
import Derived.BigQuiet
import Derived.Lib.OwnBridge
import Derived.OwnWalk
import Derived.Shelf.SlicesQ.Reverse
import Derived.Ground.SlgnProg
import Derived.RangeFuncBox
import Derived.Maps.AppendAt
import Derived.Deep.Upon
import Derived.StillTailTactics

set_option linter.unusedVariables false
set_option linter.unusedSimpArgs false

/- What every text of this seat needs: worlds that only grow, the listed variables. -/
namespace Go.Proofs.YtmdpdpbkbakidaaGreat
open Go.RowKit

theorem bel_alloc {w w' : World} {o : Obj} (h : Below (w.alloc o).heap.size (w.alloc o) w') : Below w.heap.size w w' :=
  ((Below.refl _ _).alloc (Nat.le_refl _) o).trans (h.mono (by simp))
theorem bel_trans {w w1 w2 : World} (h : Below w.heap.size w w1) (h2 : Below w1.heap.size w1 w2) : Below w.heap.size w w2 := h.trans (h2.mono h.size)
theorem bel_drewN (w : World) (n : Nat) : Below w.heap.size w (w.drewN n) := ⟨rfl, rfl, rfl, Nat.le_refl _, fun _ _ => rfl⟩
theorem bel_drew (w : World) : Below w.heap.size w w.drew := ⟨rfl, rfl, rfl, Nat.le_refl _, fun _ _ => rfl⟩
theorem bcell {W w1 : World} (hb : Below W.heap.size W w1) : (∀ b o, b < W.heap.size → w1.cell? ⟨b, o, none⟩ = W.cell? ⟨b, o, none⟩) ∧ (∀ b o, b < W.heap.size → w1.frozen? ⟨b, o, none⟩ = W.frozen? ⟨b, o, none⟩) :=
  ⟨fun b o h => hb.cell (p := ⟨b, o, none⟩) h, fun b o h => hb.frozen (p := ⟨b, o, none⟩) h⟩

theorem var_keep {P : Program} {w w' : World} {n : String} (g : Nat) (hg : P.globalNamed n = some g) (hlt : g < w.heap.size) (hb : Below w.heap.size w w') : w'.var? P n = w.var? P n := by
  simp only [World.var?, hg, Option.bind_some]
  rw [hb.block g hlt]
theorem tab_keep {P : Program} {w w' : World} {n : String} {k : IntKind} {zs : List Int} (g : Nat) (hg : P.globalNamed n = some g) (hz : 0 < zs.length) (h : Lib.TabIs P w n k zs) (hb : Below w.heap.size w w') : Lib.TabIs P w' n k zs := by
  unfold Lib.TabIs at *
  rw [var_keep g hg ?_ hb, h]
  have := Lib.TabIs.cell (P := P) (W := w) h hg 0 hz
  exact World.block_lt_of_cell? w ⟨g, 0, none⟩ this

/-- a listed table of integers -/
theorem tab_of {P : Program} {W : World} {l : List (String × DataW Unit)} {name : String} {d : DataW Unit} {k : IntKind} {zs : List Int} {g : Nat} {t e : TypeId} {n : Nat}
    (h : laidMet P l W) (hm : (name, d) ∈ l) (hd : d = Lib.tabData k zs)
    (hg : P.globalNamed name = some g) (hty : (P.globals[g]?).map (·.type) = some t) (ht : P.underlying t = some (.array n e)) (he : P.underlying e = some (.int k)) (hce : P.cellsOf e = 1) (hct : P.cellsOf t = n) : Lib.TabIs P W name k zs := by
  subst hd
  obtain ⟨g', t', cs, fuel, p, hg', ht', hvar, hr⟩ := Lib.laidMet.reads h hm
  obtain rfl := Option.some.inj (hg.symm.trans hg')
  obtain rfl := Option.some.inj (hty.symm.trans ht')
  unfold Lib.TabIs
  rw [hvar, ← Lib.cells_of_tab ht he hce hct hr]

theorem wrap_wrap_add (a b : Int) : IntKind.i64.wrap (IntKind.i64.wrap a + b) = IntKind.i64.wrap (a + b) := by simp only [IntKind.wrap_i64]; omega
theorem wrap_wrap_sub (a b : Int) : IntKind.i64.wrap (IntKind.i64.wrap a - b) = IntKind.i64.wrap (a - b) := by simp only [IntKind.wrap_i64]; omega
theorem wrap_add_wrap (a b : Int) : IntKind.i64.wrap (a + IntKind.i64.wrap b) = IntKind.i64.wrap (a + b) := by simp only [IntKind.wrap_i64]; omega
theorem wrap_sub_wrap (a b : Int) : IntKind.i64.wrap (a - IntKind.i64.wrap b) = IntKind.i64.wrap (a - b) := by simp only [IntKind.wrap_i64]; omega
theorem wrap_bd (a : Int) : -9223372036854775808 ≤ IntKind.i64.wrap a ∧ IntKind.i64.wrap a ≤ 9223372036854775807 := by simp only [IntKind.wrap_i64]; omega
theorem wrap_in (a : Int) (h : -9223372036854775808 ≤ a ∧ a ≤ 9223372036854775807) : IntKind.i64.wrap a = a := by simp only [IntKind.wrap_i64]; omega

theorem ret_int {k : IntKind} {a b : Int} (h : a = b) : Ending.returned (.int k a) = .returned (.int k b) := by rw [h]
theorem ret_bool {a b : Bool} (h : a = b) : Ending.returned (.bool a) = .returned (.bool b) := by rw [h]
end Go.Proofs.YtmdpdpbkbakidaaGreat

/- A block with two cells. -/
namespace Go.Proofs.YtmdpdpbkbakidaaGreat
open Go.RowKit

def Two (b : Nat) (W : World) (x y : Value) : Prop := W.cell? ⟨b, 0, none⟩ = some x ∧ W.cell? ⟨b, 1, none⟩ = some y ∧ W.frozen? ⟨b, 0, none⟩ = false ∧ W.frozen? ⟨b, 1, none⟩ = false ∧ b < W.heap.size
theorem Two.below {b : Nat} {W W' : World} {x y : Value} (h : Two b W x y) (hb : Below W.heap.size W W') : Two b W' x y := by
  obtain ⟨h0, h1, h2, h3, h4⟩ := h
  exact ⟨by rw [(bcell hb).1 _ _ h4]; exact h0, by rw [(bcell hb).1 _ _ h4]; exact h1, by rw [(bcell hb).2 _ _ h4]; exact h2, by rw [(bcell hb).2 _ _ h4]; exact h3, Nat.lt_of_lt_of_le h4 hb.size⟩
theorem Two.alloc {b : Nat} {W : World} {x y : Value} (h : Two b W x y) (o : Obj) : Two b (W.alloc o) x y := h.below (bel_alloc (Below.refl _ _))
theorem Two.new (W : World) (x y : Value) (T : TypeId) : Two W.heap.size (W.alloc (.cells #[x, y] T)) x y := ⟨by simp [go_sem], by simp [go_sem], by simp [go_sem], by simp [go_sem], by simp⟩
theorem two_read (w : World) (b : Nat) (u v : Value) {a c : Value} (h0 : w.cell? ⟨b, 0, none⟩ = some a) (h1 : w.cell? ⟨b, 1, none⟩ = some c) :
    ((w.setCell ⟨b, 0, none⟩ u).setCell ⟨b, 1, none⟩ v).cell? ⟨b, 0, none⟩ = some u ∧ ((w.setCell ⟨b, 0, none⟩ u).setCell ⟨b, 1, none⟩ v).cell? ⟨b, 1, none⟩ = some v := by
  refine ⟨?_, ?_⟩
  · rw [World.cell?_setCell_other _ _ _ _ (by simp), World.cell?_setCell_same _ _ _ h0]
  · rw [World.cell?_setCell_same (u := c)]
    rw [World.cell?_setCell_other _ _ _ _ (by simp), h1]
theorem Two.set1 {b : Nat} {W : World} {x y : Value} (h : Two b W x y) (z : Value) : Two b (W.setCell ⟨b, 1, none⟩ z) x z := by
  obtain ⟨h0, h1, h2, h3, h4⟩ := h
  refine ⟨?_, ?_, ?_, ?_, ?_⟩
  · rw [World.cell?_setCell_other _ _ _ _ (by simp)]; exact h0
  · exact World.cell?_setCell_same _ _ _ h1
  · rw [World.frozen?_setCell]; exact h2
  · rw [World.frozen?_setCell]; exact h3
  · simpa [World.setCell] using h4
theorem Two.other {b : Nat} {W : World} {x y : Value} (h : Two b W x y) (p : Addr) (hp : p.block ≠ b) (z : Value) : Two b (W.setCell p z) x y := by
  obtain ⟨h0, h1, h2, h3, h4⟩ := h
  refine ⟨?_, ?_, ?_, ?_, ?_⟩
  · rw [World.cell?_setCell_other _ _ _ _ (by intro e; apply hp; rw [e])]; exact h0
  · rw [World.cell?_setCell_other _ _ _ _ (by intro e; apply hp; rw [e])]; exact h1
  · rw [World.frozen?_setCell]; exact h2
  · rw [World.frozen?_setCell]; exact h3
  · simpa [World.setCell] using h4
theorem Two.set0 {b : Nat} {W : World} {x y : Value} (h : Two b W x y) (z : Value) : Two b (W.setCell ⟨b, 0, none⟩ z) z y := by
  obtain ⟨h0, h1, h2, h3, h4⟩ := h
  refine ⟨?_, ?_, ?_, ?_, ?_⟩
  · exact World.cell?_setCell_same _ _ _ h0
  · rw [World.cell?_setCell_other _ _ _ _ (by simp)]; exact h1
  · rw [World.frozen?_setCell]; exact h2
  · rw [World.frozen?_setCell]; exact h3
  · simpa [World.setCell] using h4
end Go.Proofs.YtmdpdpbkbakidaaGreat

/- Slices that read as lists of points; comparisons. -/
namespace Go.Proofs.YtmdpdpbkbakidaaGreat
open Go.RowKit Go.Sort

/-- the point at a place of a list -/
def gX (l : List (Int × Int)) (j : Nat) : Int := (l.getD j (0, 0)).1
def gR (l : List (Int × Int)) (j : Nat) : Int := (l.getD j (0, 0)).2

/-- a value is a slice that reads as a list of points -/
def Pts (w : World) (v : Value) (l : List (Int × Int)) : Prop :=
  ∃ a cap, v = .slice a l.length cap ∧ (l.length ≤ cap ∧ cap ≤ 9223372036854775807) ∧
    (l.length = 0 ∨ ∃ b off, a = some ⟨b, off, none⟩ ∧ b < w.heap.size ∧ ∀ j, j < l.length → w.cell? ⟨b, off + j * 2, none⟩ = some (.int .i64 (gX l j)) ∧ w.cell? ⟨b, off + j * 2 + 1, none⟩ = some (.int .i64 (gR l j)))
theorem Pts.below {w w' : World} {v : Value} {l : List (Int × Int)} (h : Pts w v l) (hb : Below w.heap.size w w') : Pts w' v l := by
  obtain ⟨a, cap, rfl, hl, h | ⟨b, off, rfl, hlt, hc⟩⟩ := h
  · exact ⟨a, cap, rfl, hl, .inl h⟩
  · exact ⟨_, cap, rfl, hl, .inr ⟨b, off, rfl, Nat.lt_of_lt_of_le hlt hb.size, fun j hj => by rw [(bcell hb).1 _ _ hlt, (bcell hb).1 _ _ hlt]; exact hc j hj⟩⟩
theorem Pts.alloc {w : World} {v : Value} {l : List (Int × Int)} (h : Pts w v l) (o : Obj) : Pts (w.alloc o) v l := h.below (bel_alloc (Below.refl _ _))
theorem Pts.shape {W : World} {v : Value} {l : List (Int × Int)} (h : Pts W v l) : ∃ a cap, v = .slice a l.length cap ∧ l.length ≤ cap ∧ cap ≤ 9223372036854775807 := by
  obtain ⟨a, cap, e, ⟨h1, h2⟩, _⟩ := h
  exact ⟨a, cap, e, h1, h2⟩
theorem Pts.len {W : World} {a : Option Addr} {n cap : Nat} {l : List (Int × Int)} (h : Pts W (.slice a n cap) l) : n = l.length := by
  obtain ⟨a', c', e, _⟩ := h
  simp only [Value.slice.injEq] at e
  exact e.2.1
theorem Pts.at {W : World} {a : Option Addr} {n cap : Nat} {l : List (Int × Int)} (h : Pts W (.slice a n cap) l) (h0 : 0 < n) :
    ∃ b off, a = some ⟨b, off, none⟩ ∧ b < W.heap.size ∧ ∀ j, j < n → W.cell? ⟨b, off + j * 2, none⟩ = some (.int .i64 (gX l j)) ∧ W.cell? ⟨b, off + j * 2 + 1, none⟩ = some (.int .i64 (gR l j)) := by
  have hl := h.len
  obtain ⟨a', c', e, _, hh⟩ := h
  simp only [Value.slice.injEq] at e
  obtain ⟨rfl, rfl, rfl⟩ := e
  rcases hh with hh | hh
  · omega
  · exact hh
theorem pts_nil (w : World) : Pts w (.slice none 0 0) [] := ⟨none, 0, rfl, by simp, .inl rfl⟩

/-- the cells of a list of points -/
def flat : List (Int × Int) → List Value
  | [] => []
  | q :: l => .int .i64 q.1 :: .int .i64 q.2 :: flat l
theorem flat_len (l : List (Int × Int)) : (flat l).length = l.length * 2 := by
  induction l with
  | nil => rfl
  | cons q l ih => simp only [flat, List.length_cons, ih]; omega
theorem flat_app (l m : List (Int × Int)) : flat (l ++ m) = flat l ++ flat m := by
  induction l with
  | nil => rfl
  | cons q l ih => simp only [List.cons_append, flat, ih]
theorem flat_at (l : List (Int × Int)) (j : Nat) (h : j < l.length) : (flat l)[j * 2]? = some (.int .i64 (gX l j)) ∧ (flat l)[j * 2 + 1]? = some (.int .i64 (gR l j)) := by
  induction l generalizing j with
  | nil => simp at h
  | cons q l ih =>
    cases j with
    | zero => simp [flat, gX, gR]
    | succ j =>
      have := ih j (by simpa using h)
      rw [show (j + 1) * 2 = j * 2 + 1 + 1 by omega]
      simp only [flat, List.getElem?_cons_succ, gX, gR, List.getD_cons_succ]
      exact this
theorem flat_one (l : List (Int × Int)) : ∀ u ∈ flat l, u.oneCell' = true := by
  induction l with
  | nil => intro u h; cases h
  | cons q l ih =>
    intro u h
    simp only [flat, List.mem_cons] at h
    rcases h with rfl | rfl | h
    · rfl
    · rfl
    · exact ih u h
theorem flat_inv (l : List (Int × Int)) (j : Nat) (u : Value) (h : (flat l)[j]? = some u) : ∃ i, i < l.length ∧ ((j = i * 2 ∧ u = .int .i64 (gX l i)) ∨ (j = i * 2 + 1 ∧ u = .int .i64 (gR l i))) := by
  have hj : j < (flat l).length := (List.getElem?_eq_some_iff.1 h).1
  rw [flat_len] at hj
  refine ⟨j / 2, by omega, ?_⟩
  have := flat_at l (j / 2) (by omega)
  rcases Nat.mod_two_eq_zero_or_one j with e | e
  · left
    have hj2 : j = j / 2 * 2 := by omega
    refine ⟨hj2, ?_⟩
    have h' := h
    rw [hj2, this.1] at h'
    exact (Option.some.inj h').symm
  · right
    have hj2 : j = j / 2 * 2 + 1 := by omega
    refine ⟨hj2, ?_⟩
    have h' := h
    rw [hj2, this.2] at h'
    exact (Option.some.inj h').symm

/-- a slice of the call's own holds the points -/
def OwnP (w : World) (B : Nat) (v : Value) (l : List (Int × Int)) : Prop := w.ownsRow B 43 2 v l.length (flat l)
theorem OwnP.pts {w : World} {B : Nat} {v : Value} {l : List (Int × Int)} (h : OwnP w B v l) : Pts w v l := by
  have h' := h
  obtain ⟨_, h2⟩ := h
  rcases h2 with ⟨rfl, hn⟩ | ⟨g, cap, cur, rfl, hg, hh, hc, hm, hs, ht⟩
  · exact ⟨none, 0, by rw [hn], by omega, .inl hn⟩
  · have hlt : g < w.heap.size := by
      rcases Nat.lt_or_ge g w.heap.size with h | h
      · exact h
      · rw [Array.getElem?_eq_none h] at hh; cases hh
    unfold maxLen at hm
    refine ⟨_, cap, rfl, ⟨hc, by omega⟩, .inr ⟨g, 0, rfl, hlt, fun j hj => ?_⟩⟩
    have hcell := World.ownsRow.cells h' (g := g) rfl
    have hf := flat_at l j hj
    have c0 := hcell _ _ hf.1
    have c1 := hcell _ _ hf.2
    rw [Go.WideShapes.add_plain] at c0 c1
    exact ⟨c0, by rw [Nat.add_assoc]; exact c1⟩
theorem pts_lit (w : World) (l : List (Int × Int)) (cs : List Value) (h : cs = flat l) (hn : l.length ≤ 1000) :
    Pts (w.alloc (.cells cs.toArray 43)) (.slice (some ⟨w.heap.size, 0, none⟩) l.length l.length) l := by
  refine ⟨_, _, rfl, by omega, .inr ⟨w.heap.size, 0, rfl, by simp, fun j hj => ?_⟩⟩
  subst h
  have hf := flat_at l j hj
  have hl := flat_len l
  rw [World.cell?_alloc_new, World.cell?_alloc_new]
  simp only [Nat.zero_add]
  exact ⟨by simpa using hf.1, by simpa using hf.2⟩

theorem pt_info : (Tryz.prog.info? 43).map (fun i => (i.zero, i.size, i.bytes)) = some (some (.agg #[.int .i64 0, .int .i64 0]), 2, 16) := by kernel_rfl

/-! ### points, compared -/
def samP (a b x y : Int) : Bool := a == x && b == y
theorem run_same_point (a b x y : Int) (w : World) :
    (Op.equalIn 10000 43 (.agg #[.int .i64 a, .int .i64 b]) (.agg #[.int .i64 x, .int .i64 y])).run Tryz.prog w = .ok (samP a b x y) w := by
  rw [show (10000 : Nat) = 9999 + 1 from rfl, run_equalIn_agg w 9999 43 _ _ (by kernel_rfl) (by kernel_rfl)]
  have hf : (Tryz.prog.fieldsOf 43).toList.map (fun f => (f.name, f.type, f.offset)) = [("X", 3, 0), ("Radius", 3, 1)] := by kernel_rfl
  generalize (Tryz.prog.fieldsOf 43).toList = fs at *
  obtain ⟨f, g, rfl⟩ : ∃ f g, fs = [f, g] := by
    have hl := congrArg List.length hf
    rw [List.length_map] at hl
    rcases fs with _ | ⟨f, _ | ⟨g, _ | ⟨h, fs⟩⟩⟩ <;> simp at hl
    exact ⟨f, g, rfl⟩
  simp only [List.map_cons, List.map_nil, List.cons.injEq, Prod.mk.injEq, and_true] at hf
  obtain ⟨⟨f1, f2, f3⟩, g1, g2, g3⟩ := hf
  have eq : ∀ (u v : Int) (W : World), (Op.equalIn 9999 3 (.int .i64 u) (.int .i64 v)).run Tryz.prog W = .ok (u == v) W := fun u v W => run_equalIn_int W 9998 3 .i64 .i64 u v Tryz.underlying3
  by_cases e1 : a = x <;> by_cases e2 : b = y <;> simp [Op.eqFields, f1, f2, f3, g1, g2, g3, go_sem, samP, eq, e1, e2]
theorem run_neq_point (a b x y : Int) (w : World) :
    (binOp .neq 43 (.agg #[.int .i64 a, .int .i64 b]) (.agg #[.int .i64 x, .int .i64 y])).run Tryz.prog w = .ok (.bool (!samP a b x y)) w := by
  rw [run_neq_struct, run_same_point]; rfl
theorem run_eql_point (a b x y : Int) (w : World) :
    (binOp .eql 43 (.agg #[.int .i64 a, .int .i64 b]) (.agg #[.int .i64 x, .int .i64 y])).run Tryz.prog w = .ok (.bool (samP a b x y)) w := by
  rw [run_eql_struct, run_same_point]; rfl
/-! ### bounds, compared -/
def samB (a b x y : Int) : Bool := a == x && b == y
theorem run_same_bounds (a b x y : Int) (w : World) :
    (Op.equalIn 10000 29 (.agg #[.int .i64 a, .int .i64 b]) (.agg #[.int .i64 x, .int .i64 y])).run Tryz.prog w = .ok (samB a b x y) w := by
  rw [show (10000 : Nat) = 9999 + 1 from rfl, run_equalIn_agg w 9999 29 _ _ (by kernel_rfl) (by kernel_rfl)]
  have hf : (Tryz.prog.fieldsOf 29).toList.map (fun f => (f.name, f.type, f.offset)) = [("Low", 3, 0), ("High", 3, 1)] := by kernel_rfl
  generalize (Tryz.prog.fieldsOf 29).toList = fs at *
  obtain ⟨f, g, rfl⟩ : ∃ f g, fs = [f, g] := by
    have hl := congrArg List.length hf
    rw [List.length_map] at hl
    rcases fs with _ | ⟨f, _ | ⟨g, _ | ⟨h, fs⟩⟩⟩ <;> simp at hl
    exact ⟨f, g, rfl⟩
  simp only [List.map_cons, List.map_nil, List.cons.injEq, Prod.mk.injEq, and_true] at hf
  obtain ⟨⟨f1, f2, f3⟩, g1, g2, g3⟩ := hf
  have eq : ∀ (u v : Int) (W : World), (Op.equalIn 9999 3 (.int .i64 u) (.int .i64 v)).run Tryz.prog W = .ok (u == v) W := fun u v W => run_equalIn_int W 9998 3 .i64 .i64 u v Tryz.underlying3
  by_cases e1 : a = x <;> by_cases e2 : b = y <;> simp [Op.eqFields, f1, f2, f3, g1, g2, g3, go_sem, samB, eq, e1, e2]
theorem run_neq_bounds (a b x y : Int) (w : World) :
    (binOp .neq 29 (.agg #[.int .i64 a, .int .i64 b]) (.agg #[.int .i64 x, .int .i64 y])).run Tryz.prog w = .ok (.bool (!samB a b x y)) w := by
  rw [run_neq_struct, run_same_bounds]; rfl
theorem run_eql_bounds (a b x y : Int) (w : World) :
    (binOp .eql 29 (.agg #[.int .i64 a, .int .i64 b]) (.agg #[.int .i64 x, .int .i64 y])).run Tryz.prog w = .ok (.bool (samB a b x y)) w := by
  rw [run_eql_struct, run_same_bounds]; rfl
end Go.Proofs.YtmdpdpbkbakidaaGreat

/- Plain facts on a line between two points: its heights rounded down and up. No program stands in this text. -/
namespace Go.Proofs.YtmdpdpbkbakidaaGreat

/-- a ratio, rounded up -/
def cdv (n d : Int) : Int := (n + d - 1) / d
theorem fl_iff (n d k : Int) (h : 0 < d) : k ≤ n / d ↔ k * d ≤ n := Int.le_ediv_iff_mul_le h
theorem cl_iff (n d k : Int) (h : 0 < d) : cdv n d ≤ k ↔ n ≤ k * d := by
  unfold cdv
  have e : (k + 1) * d = k * d + d := by rw [Int.add_mul]; omega
  constructor
  · intro hk
    have : (n + d - 1) / d < k + 1 := by omega
    have := Int.lt_mul_of_ediv_lt h this
    rw [e] at this
    omega
  · intro hk
    have : (n + d - 1) / d < k + 1 := Int.ediv_lt_of_lt_mul h (by rw [e]; omega)
    omega
/-- m / b ≤ n / c, as ratios -/
theorem fl_mono {m b n c : Int} (hb : 0 < b) (hc : 0 < c) (h : m * c ≤ n * b) : m / b ≤ n / c := by
  rw [fl_iff _ _ _ hc]
  have h1 := Int.ediv_mul_le m (show b ≠ 0 by omega)
  have h2 := Int.mul_le_mul_of_nonneg_right h1 (show 0 ≤ c by omega)
  have h3 : (m / b * c) * b ≤ n * b := by
    have : m / b * c * b = m / b * b * c := by rw [Int.mul_right_comm]
    omega
  exact Int.le_of_mul_le_mul_right h3 hb
theorem cl_ge (n d : Int) (h : 0 < d) : n ≤ cdv n d * d := (cl_iff n d _ h).1 (Int.le_refl _)
theorem cl_mono {m b n c : Int} (hb : 0 < b) (hc : 0 < c) (h : m * c ≤ n * b) : cdv m b ≤ cdv n c := by
  rw [cl_iff _ _ _ hb]
  have h1 := cl_ge n c hc
  have h2 := Int.mul_le_mul_of_nonneg_right h1 (show 0 ≤ b by omega)
  have h3 : m * c ≤ (cdv n c * b) * c := by
    have : cdv n c * b * c = cdv n c * c * b := by rw [Int.mul_right_comm]
    omega
  exact Int.le_of_mul_le_mul_right h3 hc
theorem fl_same {m b n c : Int} (hb : 0 < b) (hc : 0 < c) (h : m * c = n * b) : m / b = n / c :=
  Int.le_antisymm (fl_mono hb hc (by omega)) (fl_mono hc hb (by omega))
theorem cl_same {m b n c : Int} (hb : 0 < b) (hc : 0 < c) (h : m * c = n * b) : cdv m b = cdv n c :=
  Int.le_antisymm (cl_mono hb hc (by omega)) (cl_mono hc hb (by omega))
theorem fl_cl (n d : Int) (h : 0 < d) : n / d ≤ cdv n d ∧ cdv n d ≤ n / d + 1 := by
  constructor
  · have h1 := Int.ediv_mul_le n (show d ≠ 0 by omega)
    have h2 := cl_ge n d h
    exact Int.le_of_mul_le_mul_right (show n / d * d ≤ cdv n d * d by omega) h
  · rw [cl_iff _ _ _ h, Int.add_mul]
    have h1 := Int.emod_add_mul_ediv n d
    have h2 := Int.emod_lt_of_pos n h
    rw [Int.mul_comm] at h1
    omega
theorem fl_int (k d : Int) (h : 0 < d) : k * d / d = k := Int.mul_ediv_cancel k (by omega)
theorem cl_int (k d : Int) (h : 0 < d) : cdv (k * d) d = k := by
  have h1 := (cl_iff (k * d) d k h).2 (Int.le_refl _)
  have h2 := cl_ge (k * d) d h
  have := Int.le_of_mul_le_mul_right h2 h
  omega

/-! ### a line from (a, p) to (b, q) -/
def lnN (a p b q x : Int) : Int := p * (b - a) + (q - p) * (x - a)
theorem lnN_left (a p b q : Int) : lnN a p b q a = p * (b - a) := by unfold lnN; simp
theorem lnN_right (a p b q : Int) : lnN a p b q b = q * (b - a) := by unfold lnN; grind
theorem lnN_up {a p b q x y : Int} (h : p ≤ q) (hx : x ≤ y) : lnN a p b q x ≤ lnN a p b q y := by
  unfold lnN
  have := Int.mul_le_mul_of_nonneg_left (show x - a ≤ y - a by omega) (show 0 ≤ q - p by omega)
  omega
theorem lnN_down {a p b q x y : Int} (h : q ≤ p) (hx : x ≤ y) : lnN a p b q y ≤ lnN a p b q x := by
  unfold lnN
  have := Int.mul_le_mul_of_nonneg_left (show x - a ≤ y - a by omega) (show 0 ≤ p - q by omega)
  have e : ∀ z, (q - p) * z = -((p - q) * z) := fun z => by grind
  rw [e, e]
  omega
theorem ln_between {a p b q x : Int} (hab : a < b) (h1 : a ≤ x) (h2 : x ≤ b) : min p q ≤ lnN a p b q x / (b - a) ∧ cdv (lnN a p b q x) (b - a) ≤ max p q := by
  have hd : 0 < b - a := by omega
  rw [fl_iff _ _ _ hd, cl_iff _ _ _ hd]
  by_cases h : p ≤ q
  · have u1 := lnN_up (a := a) (b := b) h h1
    have u2 := lnN_up (a := a) (b := b) h h2
    rw [lnN_left] at u1
    rw [lnN_right] at u2
    rw [show min p q = p by omega, show max p q = q by omega]
    exact ⟨u1, u2⟩
  · have u1 := lnN_down (a := a) (b := b) (show q ≤ p by omega) h1
    have u2 := lnN_down (a := a) (b := b) (show q ≤ p by omega) h2
    rw [lnN_left] at u1
    rw [lnN_right] at u2
    rw [show min p q = q by omega, show max p q = p by omega]
    exact ⟨u2, u1⟩
/-- a point (m, s) on the line: both parts are the line -/
theorem ln_part1 {a p b q m s x : Int} (hab : a < b) (hm : a < m) (hs : s * (b - a) = lnN a p b q m) :
    lnN a p m s x / (m - a) = lnN a p b q x / (b - a) ∧ cdv (lnN a p m s x) (m - a) = cdv (lnN a p b q x) (b - a) := by
  have e : lnN a p m s x * (b - a) = lnN a p b q x * (m - a) := by unfold lnN at *; grind
  exact ⟨fl_same (by omega) (by omega) e, cl_same (by omega) (by omega) e⟩
theorem ln_part2 {a p b q m s x : Int} (hab : a < b) (hm : m < b) (hs : s * (b - a) = lnN a p b q m) :
    lnN m s b q x / (b - m) = lnN a p b q x / (b - a) ∧ cdv (lnN m s b q x) (b - m) = cdv (lnN a p b q x) (b - a) := by
  have e : lnN m s b q x * (b - a) = lnN a p b q x * (b - m) := by unfold lnN at *; grind
  exact ⟨fl_same (by omega) (by omega) e, cl_same (by omega) (by omega) e⟩
/-- the line from the other end -/
theorem ln_turn (a p b q x L : Int) : lnN (L - b) q (L - a) p (L - x) = lnN a p b q x ∧ (L - a) - (L - b) = b - a := by
  refine ⟨?_, by omega⟩
  unfold lnN; grind
/-- a line that lies at both ends of a part by t below another one lies so between them -/
theorem ln_below {a p b q c u d v x t : Int} (hab : a < b) (hcd : c < d) (h1 : c ≤ x) (h2 : x ≤ d) (hu : (u + t) * (b - a) ≤ lnN a p b q c) (hv : (v + t) * (b - a) ≤ lnN a p b q d) :
    lnN c u d v x / (d - c) ≤ lnN a p b q x / (b - a) - t ∧ cdv (lnN c u d v x) (d - c) ≤ cdv (lnN a p b q x) (b - a) - t := by
  have m1 := Int.mul_le_mul_of_nonneg_right hu (show 0 ≤ d - x by omega)
  have m2 := Int.mul_le_mul_of_nonneg_right hv (show 0 ≤ x - c by omega)
  have e1 : (lnN c u d v x + t * (d - c)) * (b - a) = (u + t) * (b - a) * (d - x) + (v + t) * (b - a) * (x - c) := by unfold lnN; grind
  have e2 : lnN a p b q x * (d - c) = lnN a p b q c * (d - x) + lnN a p b q d * (x - c) := by unfold lnN; grind
  have key : (lnN c u d v x + t * (d - c)) * (b - a) ≤ lnN a p b q x * (d - c) := by omega
  have hd : 0 < d - c := by omega
  have f1 := fl_mono hd (show 0 < b - a by omega) key
  have f2 := cl_mono hd (show 0 < b - a by omega) key
  have g1 : (lnN c u d v x + t * (d - c)) / (d - c) = lnN c u d v x / (d - c) + t := Int.add_mul_ediv_right _ _ (by omega)
  have g2 : cdv (lnN c u d v x + t * (d - c)) (d - c) = cdv (lnN c u d v x) (d - c) + t := by
    unfold cdv
    rw [show lnN c u d v x + t * (d - c) + (d - c) - 1 = lnN c u d v x + (d - c) - 1 + t * (d - c) by omega]
    exact Int.add_mul_ediv_right _ _ (by omega)
  omega
end Go.Proofs.YtmdpdpbkbakidaaGreat

/- Plain facts: lengths. -/
namespace Go.Proofs.YtmdpdpbkbakidaaGreat

def lenB (n : Int) : Bool := decide (0 ≤ n) && decide (n ≤ 100000)
theorem lenB_iff (n : Int) : lenB n = true ↔ 0 ≤ n ∧ n ≤ 100000 := by simp [lenB]
end Go.Proofs.YtmdpdpbkbakidaaGreat

/- Plain facts of profiles: the first fault, the bung, the pieces. -/
namespace Go.Proofs.YtmdpdpbkbakidaaGreat

def ptOut (q : Int × Int) : Bool := !(lenB q.1 && lenB q.2)
def ptCl (q : Int × Int) : Bool := q.2 == 0
/-- the X of the first k + 1 points increase -/
def adv (l : List (Int × Int)) : Nat → Bool
  | 0 => true
  | k + 1 => adv l k && decide (gX l k < gX l (k + 1))
/-- one of the first k pieces falls -/
def fal (l : List (Int × Int)) : Nat → Bool
  | 0 => false
  | k + 1 => fal l k || decide (gR l (k + 1) < gR l k)
/-- one of the first k pieces rises behind one that falls -/
def swl (l : List (Int × Int)) : Nat → Bool
  | 0 => false
  | k + 1 => swl l k || (fal l k && decide (gR l k < gR l (k + 1)))
/-- the first fault -/
def ckE (l : List (Int × Int)) : Int :=
  if l.length < 2 then 9 else if 32 < l.length then 8 else if l.any ptOut then 2 else if (adv l (l.length - 1) && (gX l 0 == 0)) = false then 5 else if l.any ptCl then 16 else if swl l (l.length - 1) then 10 else 0
/-- a right profile -/
structure RP (l : List (Int × Int)) : Prop where
  n0 : 2 ≤ l.length
  n1 : l.length ≤ 32
  bx : ∀ i, i < l.length → 0 ≤ gX l i ∧ gX l i ≤ 100000
  br : ∀ i, i < l.length → 1 ≤ gR l i ∧ gR l i ≤ 100000
  x0 : gX l 0 = 0
  asc : ∀ i, i + 1 < l.length → gX l i < gX l (i + 1)
  ns : ∀ i j, i ≤ j → j + 1 < l.length → gR l (i + 1) < gR l i → gR l (j + 1) ≤ gR l j

theorem any_of {p : Int × Int → Bool} {l : List (Int × Int)} {i : Nat} (h : i < l.length) (hp : p (l.getD i (0, 0)) = true) : l.any p = true := by
  rw [List.any_eq_true]
  rw [List.getD_eq_getElem?_getD, List.getElem?_eq_getElem h, Option.getD_some] at hp
  exact ⟨_, List.getElem_mem h, hp⟩
theorem any_not {p : Int × Int → Bool} {l : List (Int × Int)} (h : ∀ i, i < l.length → p (l.getD i (0, 0)) = false) : l.any p = false := by
  rw [List.any_eq_false]
  intro x hx
  obtain ⟨i, hi, rfl⟩ := List.getElem_of_mem hx
  have := h i hi
  rw [List.getD_eq_getElem?_getD, List.getElem?_eq_getElem hi, Option.getD_some] at this
  rw [this]; simp
theorem not_any {p : Int × Int → Bool} {l : List (Int × Int)} (h : l.any p = false) {i : Nat} (hi : i < l.length) : p (l.getD i (0, 0)) = false := by
  cases hq : p (l.getD i (0, 0)) with
  | false => rfl
  | true => rw [any_of hi hq] at h; cases h
theorem adv_iff (l : List (Int × Int)) (k : Nat) : adv l k = true ↔ ∀ i, i < k → gX l i < gX l (i + 1) := by
  induction k with
  | zero => simp [adv]
  | succ k ih =>
    rw [adv, Bool.and_eq_true, ih, decide_eq_true_eq]
    constructor
    · rintro ⟨h1, h2⟩ i hi
      by_cases e : i = k
      · rw [e]; exact h2
      · exact h1 i (by omega)
    · intro h
      exact ⟨fun i hi => h i (by omega), h k (by omega)⟩
theorem fal_iff (l : List (Int × Int)) (k : Nat) : fal l k = true ↔ ∃ i, i < k ∧ gR l (i + 1) < gR l i := by
  induction k with
  | zero => simp [fal]
  | succ k ih =>
    rw [fal, Bool.or_eq_true, ih, decide_eq_true_eq]
    constructor
    · rintro (⟨i, h1, h2⟩ | h)
      · exact ⟨i, by omega, h2⟩
      · exact ⟨k, by omega, h⟩
    · rintro ⟨i, h1, h2⟩
      by_cases e : i = k
      · right; rw [← e]; exact h2
      · left; exact ⟨i, by omega, h2⟩
theorem swl_iff (l : List (Int × Int)) (k : Nat) : swl l k = true ↔ ∃ i j, i < j ∧ j < k ∧ gR l (i + 1) < gR l i ∧ gR l j < gR l (j + 1) := by
  induction k with
  | zero => simp [swl]
  | succ k ih =>
    rw [swl, Bool.or_eq_true, ih, Bool.and_eq_true, fal_iff, decide_eq_true_eq]
    constructor
    · rintro (⟨i, j, h1, h2, h3⟩ | ⟨⟨i, h1, h2⟩, h3⟩)
      · exact ⟨i, j, h1, by omega, h3⟩
      · exact ⟨i, k, h1, by omega, h2, h3⟩
    · rintro ⟨i, j, h1, h2, h3, h4⟩
      by_cases e : j = k
      · right; rw [e] at h1 h4; exact ⟨⟨i, h1, h3⟩, h4⟩
      · left; exact ⟨i, j, h1, by omega, h3, h4⟩
theorem ckE_iff (l : List (Int × Int)) : ckE l = 0 ↔ RP l := by
  unfold ckE
  constructor
  · intro h
    split at h
    · omega
    · split at h
      · omega
      · split at h
        · omega
        · split at h
          · omega
          · split at h
            · omega
            · split at h
              · omega
              · rename_i g1 g2 g3 g4 g5 g6
                have g3' : l.any ptOut = false := by simpa using g3
                have g5' : l.any ptCl = false := by simpa using g5
                have g4' : adv l (l.length - 1) = true ∧ (gX l 0 == 0) = true := by simpa using g4
                have o : ∀ i, i < l.length → (0 ≤ gX l i ∧ gX l i ≤ 100000) ∧ 0 ≤ gR l i ∧ gR l i ≤ 100000 := fun i hi => by
                  have := not_any g3' hi
                  simp only [ptOut, Bool.not_eq_false', Bool.and_eq_true, lenB_iff] at this
                  exact this
                refine ⟨by omega, by omega, fun i hi => (o i hi).1, fun i hi => ?_, by simpa using g4'.2, fun i hi => (adv_iff _ _).1 g4'.1 i (by omega), fun i j h1 h2 h3 => ?_⟩
                · have := not_any g5' hi
                  have e : gR l i ≠ 0 := by
                    have t : (gR l i == 0) = false := this
                    simpa using t
                  have := (o i hi).2
                  omega
                · by_cases e : gR l j < gR l (j + 1)
                  · by_cases hij : i = j
                    · subst hij; omega
                    · exact absurd ((swl_iff _ _).2 ⟨i, j, by omega, by omega, h3, e⟩) g6
                  · omega
  · intro h
    have g3 : l.any ptOut = false := any_not fun i hi => by
      have a := (lenB_iff _).2 (h.bx i hi)
      have b := h.br i hi
      have b2 := (lenB_iff (gR l i)).2 (by omega)
      show (!(lenB (gX l i) && lenB (gR l i))) = false
      rw [a, b2]; rfl
    have g5 : l.any ptCl = false := any_not fun i hi => by
      have b := h.br i hi
      show (gR l i == 0) = false
      rw [beq_eq_false_iff_ne]; omega
    have g6 : ¬ swl l (l.length - 1) = true := fun hs => by
      obtain ⟨i, j, h1, h2, h3, h4⟩ := (swl_iff _ _).1 hs
      have := h.ns i j (by omega) (by omega) h3
      omega
    have g4 : (adv l (l.length - 1) && (gX l 0 == 0)) = true := by
      rw [Bool.and_eq_true]
      exact ⟨(adv_iff _ _).2 fun i hi => h.asc i (by omega), by rw [h.x0]; rfl⟩
    rw [if_neg (by have := h.n0; omega), if_neg (by have := h.n1; omega), if_neg (by rw [g3]; simp), if_neg (by rw [g4]; simp), if_neg (by rw [g5]; simp), if_neg g6]

/-! ### the bung -/
def bg (l : List (Int × Int)) : Nat → Nat
  | 0 => 0
  | k + 1 => if gR l (bg l k) < gR l k then k else bg l k
theorem bg_lt (l : List (Int × Int)) (k : Nat) : bg l k = 0 ∨ bg l k < k := by
  induction k with
  | zero => exact .inl rfl
  | succ k ih =>
    unfold bg
    split
    · right; omega
    · omega
theorem bg_max (l : List (Int × Int)) (k : Nat) : ∀ i, i < k → gR l i ≤ gR l (bg l k) := by
  induction k with
  | zero => intro i hi; omega
  | succ k ih =>
    intro i hi
    unfold bg
    by_cases h : gR l (bg l k) < gR l k
    · rw [if_pos h]
      by_cases e : i = k
      · rw [e]; exact Int.le_refl _
      · have := ih i (by omega); omega
    · rw [if_neg h]
      by_cases e : i = k
      · rw [e]; omega
      · exact ih i (by omega)
/-- what Length and Bung return -/
def lgQ (l : List (Int × Int)) : Int := if ckE l = 0 then gX l (l.length - 1) else 0
def buQ (l : List (Int × Int)) : Int := if ckE l = 0 then (bg l l.length : Int) else 0

/-! ### the piece that reaches to x -/
structure IsPc (l : List (Int × Int)) (x : Int) (i : Nat) : Prop where
  h1 : 1 ≤ i
  h2 : i < l.length
  h3 : x ≤ gX l i
  h4 : ∀ j, 1 ≤ j → j < i → gX l j < x
theorem IsPc.one {l : List (Int × Int)} {x : Int} {i j : Nat} (a : IsPc l x i) (b : IsPc l x j) : i = j := by
  rcases Nat.lt_trichotomy i j with h | h | h
  · have := b.h4 i a.h1 h; have := a.h3; omega
  · exact h
  · have := a.h4 j b.h1 h; have := b.h3; omega
theorem pc_ex {l : List (Int × Int)} {x : Int} (n0 : 2 ≤ l.length) (h : x ≤ gX l (l.length - 1)) : ∃ i, IsPc l x i := by
  suffices ∀ k, 1 ≤ k → k < l.length → x ≤ gX l k → ∃ i, IsPc l x i from this (l.length - 1) (by omega) (by omega) h
  intro k
  induction k with
  | zero => intro h; omega
  | succ k ih =>
    intro _ h2 h3
    by_cases hk : 1 ≤ k ∧ x ≤ gX l k
    · exact ih hk.1 (by omega) hk.2
    · by_cases he : ∃ j, 1 ≤ j ∧ j < k + 1 ∧ x ≤ gX l j
      · obtain ⟨j, j1, j2, j3⟩ := he
        have : ∀ m, ∀ j, j ≤ m → 1 ≤ j → j < l.length → x ≤ gX l j → ∃ i, IsPc l x i := by
          intro m
          induction m with
          | zero => intro j h1 h2; omega
          | succ m im =>
            intro j h1 h2 h3 h4
            by_cases hc : ∃ i, 1 ≤ i ∧ i < j ∧ x ≤ gX l i
            · obtain ⟨i, i1, i2, i3⟩ := hc
              exact im i (by omega) i1 (by omega) i3
            · exact ⟨j, h2, h3, h4, fun i i1 i2 => by
                by_cases hi : x ≤ gX l i
                · exact absurd ⟨i, i1, i2, hi⟩ hc
                · omega⟩
        exact this j j (Nat.le_refl _) j1 (by omega) j3
      · exact ⟨k + 1, by omega, h2, h3, fun j j1 j2 => by
          by_cases hj : x ≤ gX l j
          · exact absurd ⟨j, j1, j2, hj⟩ he
          · omega⟩
open Classical in
noncomputable def pc (l : List (Int × Int)) (x : Int) : Nat := if h : ∃ i, IsPc l x i then h.choose else 0
theorem pc_is {l : List (Int × Int)} {x : Int} (n0 : 2 ≤ l.length) (h : x ≤ gX l (l.length - 1)) : IsPc l x (pc l x) := by
  have he := pc_ex n0 h
  unfold pc
  rw [dif_pos he]
  exact he.choose_spec
theorem pc_of {l : List (Int × Int)} {x : Int} {i : Nat} (h : IsPc l x i) : pc l x = i := by
  have he : ∃ i, IsPc l x i := ⟨i, h⟩
  unfold pc
  rw [dif_pos he]
  exact he.choose_spec.one h
/-- the radius between two points, rounded down and up -/
def lnL (a p b q x : Int) : Int := lnN a p b q x / (b - a)
def lnH (a p b q x : Int) : Int := cdv (lnN a p b q x) (b - a)
noncomputable def rdL (l : List (Int × Int)) (x : Int) : Int := lnL (gX l (pc l x - 1)) (gR l (pc l x - 1)) (gX l (pc l x)) (gR l (pc l x)) x
noncomputable def rdH (l : List (Int × Int)) (x : Int) : Int := lnH (gX l (pc l x - 1)) (gR l (pc l x - 1)) (gX l (pc l x)) (gR l (pc l x)) x
/-- what place and At return -/
def plE (l : List (Int × Int)) (x : Int) : Int := if ckE l = 0 then (if x < 0 ∨ gX l (l.length - 1) < x then 2 else 0) else 1
noncomputable def atL (l : List (Int × Int)) (x : Int) : Int := if plE l x = 0 then rdL l x else 0
noncomputable def atH (l : List (Int × Int)) (x : Int) : Int := if plE l x = 0 then rdH l x else 0
end Go.Proofs.YtmdpdpbkbakidaaGreat

/- The reference of layer 8: Few. -/
namespace Go.Proofs.YtmdpdpbkbakidaaGreat
open Go.RowKit

theorem few_any (v : Value) (l : List (Int × Int)) (w : World) (hv : Pts w v l) :
    Calls Tryz.prog 40 #[v] w fun e w' => e = .returned (.bool (decide (l.length ≤ 33))) ∧ w' = w := by
  obtain ⟨a, cap, rfl, h1, h2⟩ := hv.shape
  go_enter Tryz.func40, Tryz.ntmps40
  go_wp2
  go_ret
  exact ⟨ret_bool (decide_eq_decide.2 (by omega)), rfl⟩
theorem refLen_any (n : Int) (w : World) : Calls Tryz.prog 67 #[.int .i64 n] w fun e w' => e = .returned (.bool (lenB n)) ∧ w = w' := by
  by_cases h0 : 0 ≤ n <;> by_cases h1 : n ≤ 100000
  all_goals
    go_enter Tryz.func67, Tryz.ntmps67
    go_wp2
    go_ret
    exact ⟨by simp [lenB, h0, h1], rfl⟩

theorem sam_eq {l m : List (Int × Int)} (hl : l.length = m.length) (h : ∀ j, j < l.length → samP (gX l j) (gR l j) (gX m j) (gR m j) = true) : l = m := by
  apply List.ext_getElem hl
  intro i h1 h2
  have := h i h1
  simp only [samP, Bool.and_eq_true, beq_iff_eq, gX, gR, List.getD_eq_getElem?_getD, List.getElem?_eq_getElem h1, List.getElem?_eq_getElem h2, Option.getD_some] at this
  exact Prod.ext this.1 this.2
end Go.Proofs.YtmdpdpbkbakidaaGreat

/- The reference of layer 8: Check. -/
namespace Go.Proofs.YtmdpdpbkbakidaaGreat
open Go.RowKit

theorem refCk_few (a : Option Addr) (n cap : Nat) (w : World) (h : n < 2) :
    Calls Tryz.prog 49 #[.slice a n cap] w fun e w' => e = .returned (.int .i64 9) ∧ Below w.heap.size w w' := by
  go_enter Tryz.func49, Tryz.ntmps49
  go_wp2
  go_returns
  exact ⟨rfl, Below.refl _ _⟩
theorem refCk_many (a : Option Addr) (n cap : Nat) (w : World) (h : 32 < n) (h2 : n ≤ 9223372036854775807) :
    Calls Tryz.prog 49 #[.slice a n cap] w fun e w' => e = .returned (.int .i64 8) ∧ Below w.heap.size w w' := by
  go_enter Tryz.func49, Tryz.ntmps49
  go_wp2
  go_returns
  exact ⟨rfl, Below.refl _ _⟩
set_option maxRecDepth 100000 in
set_option maxHeartbeats 16000000 in
theorem refCk_some (b off n cap : Nat) (l : List (Int × Int)) (E : Int) (w : World) (n0 : 2 ≤ n) (n1 : n ≤ 32) (hb : b < w.heap.size)
    (hc : Hid (∀ j, j < n → w.cell? ⟨b, off + j * 2, none⟩ = some (.int .i64 (gX l j)) ∧ w.cell? ⟨b, off + j * 2 + 1, none⟩ = some (.int .i64 (gR l j))))
    (h1 : Hid ((∃ j, j < n ∧ (lenB (gX l j) && lenB (gR l j)) = false) → E = 2))
    (h2 : Hid ((∀ j, j < n → (lenB (gX l j) && lenB (gR l j)) = true) → (gX l 0 ≠ 0 ∨ ∃ j, j + 1 < n ∧ gX l (j + 1) ≤ gX l j) → E = 5))
    (h3 : Hid ((∀ j, j < n → (lenB (gX l j) && lenB (gR l j)) = true) → gX l 0 = 0 → (∀ j, j + 1 < n → gX l j < gX l (j + 1)) → (∃ j, j < n ∧ gR l j = 0) → E = 16))
    (h4 : Hid ((∀ j, j < n → (lenB (gX l j) && lenB (gR l j)) = true) → gX l 0 = 0 → (∀ j, j + 1 < n → gX l j < gX l (j + 1)) → (∀ j, j < n → gR l j ≠ 0) → E = (if swl l (n - 1) = true then 10 else 0))) :
    Calls Tryz.prog 49 #[.slice (some ⟨b, off, none⟩) n cap] w fun e w' => e = .returned (.int .i64 E) ∧ Below w.heap.size w w' := by
  go_enter Tryz.func49, Tryz.ntmps49
  go_wp2_with fail
  go_loopw [3] (fun ii wr => ∃ (k : Nat), k ≤ n ∧ ii = .int .i64 k ∧ Hid (Below w.heap.size w wr) ∧ Hid (∀ j, j < k → (lenB (gX l j) && lenB (gR l j)) = true)) (fun ii _ => n - (intOf ii).toNat)
  case atStart => exact ⟨0, by omega, rfl, Below.refl _ _, fun j hj => by omega⟩
  case round =>
    obtain ⟨k, hk, rfl, hB, ha⟩ := hrel
    by_cases hlt : k < n
    · have c0 : wr.cell? ⟨b, off + k * 2, none⟩ = some (.int .i64 (gX l k)) := by rw [(bcell hB.out).1 _ _ hb]; exact (hc.out k hlt).1
      have c1 : wr.cell? ⟨b, off + k * 2 + 1, none⟩ = some (.int .i64 (gR l k)) := by rw [(bcell hB.out).1 _ _ hb]; exact (hc.out k hlt).2
      have HF : Hid ((lenB (gX l k) && lenB (gR l k)) = false → E = 2) := fun h => h1.out ⟨k, hlt, h⟩
      have HT : Hid ((lenB (gX l k) && lenB (gR l k)) = true → ∀ j, j < k + 1 → (lenB (gX l j) && lenB (gR l j)) = true) := fun h j hj => by
        by_cases e : j = k
        · rw [e]; exact h
        · exact ha.out j (by omega)
      have L1 := Lib.hid (fun W => refLen_any (gX l k) W)
      have L2 := Lib.hid (fun W => refLen_any (gR l k) W)
      have l1 : (k : Int) < (n : Int) := by omega
      generalize gX l k = x at *
      generalize gR l k = r at *
      cases hx : lenB x with
      | false =>
        obtain rfl := HF.out (by rw [hx]; rfl)
        rw [hx] at L1
        clear HF HT hx
        go_wp2_with fail
        refine (L1.out _).mono ?_
        rintro e w1 ⟨rfl, hw⟩
        subst hw
        go_wp2
        go_returns
        exact ⟨rfl, hB.out⟩
      | true =>
        rw [hx] at L1
        cases hr : lenB r with
        | false =>
          obtain rfl := HF.out (by rw [hx, hr]; rfl)
          rw [hr] at L2
          clear HF HT hx hr
          go_wp2_with fail
          refine (L1.out _).mono ?_
          rintro e w1 ⟨rfl, hw⟩
          subst hw
          go_wp2_with fail
          refine (L2.out _).mono ?_
          rintro e w1 ⟨rfl, hw⟩
          subst hw
          go_wp2
          go_returns
          exact ⟨rfl, hB.out⟩
        | true =>
          have ha2 := Lib.hid (HT.out (by rw [hx, hr]; rfl))
          rw [hr] at L2
          clear HF HT hx hr
          go_wp2_with fail
          refine (L1.out _).mono ?_
          rintro e w1 ⟨rfl, hw⟩
          subst hw
          go_wp2_with fail
          refine (L2.out _).mono ?_
          rintro e w1 ⟨rfl, hw⟩
          subst hw
          go_wp2
          go_roundw
          case rel => exact ⟨k + 1, by omega, by go_num, hB, ha2⟩
          case measure => simp [intOf]; omega
    · obtain rfl : k = n := by omega
      have H2 := Lib.hid (h2.out ha.out)
      have H3 := Lib.hid (h3.out ha.out)
      have H4 := Lib.hid (h4.out ha.out)
      have hB0 := hB
      clear h1 h2 h3 h4 ha
      go_wp2_with fail
      clear hB
      go_loopw [4] (fun ii wz => ∃ (j : Nat), j ≤ k ∧ ii = .int .i64 j ∧ Hid (Below w.heap.size w wz) ∧ Hid (0 < j → gX l 0 = 0) ∧ Hid (∀ i, i + 1 < j → gX l i < gX l (i + 1))) (fun ii _ => k - (intOf ii).toNat)
      case atStart => exact ⟨0, by omega, rfl, hB0, fun h => by omega, fun i hi => by omega⟩
      case round =>
        obtain ⟨j, hj, rfl, hB, hz, ha⟩ := hrel
        by_cases hlt : j < k
        · have l1 : (j : Int) < (k : Int) := by omega
          by_cases hj0 : j = 0
          · subst hj0
            have c0 : wr.cell? ⟨b, off, none⟩ = some (.int .i64 (gX l 0)) := by rw [(bcell hB.out).1 _ _ hb]; simpa using (hc.out 0 (by omega)).1
            have HF : Hid (gX l 0 ≠ 0 → E = 5) := fun h => H2.out (.inl h)
            have HT : Hid (gX l 0 = 0 → gX l 0 = 0) := id
            generalize hx0 : gX l 0 = x at c0 HF
            by_cases hx : x = 0
            · subst hx
              have ex : Hid (gX l 0 = 0) := hx0
              clear HF HT hx0
              go_wp2_with fail
              go_quiet (fail)
              go_wp2
              go_roundw
              case rel => exact ⟨1, by omega, by go_num, bel_trans hB.out (bel_drewN _ _), fun _ => (by first | trivial | exact ex.out), fun i hi => by omega⟩
              case measure => simp [intOf]; omega
            · obtain rfl := HF.out hx
              have q1 : (x != 0) = true := by simpa using hx
              clear HF HT hx0
              go_wp2_with fail
              go_quiet (fail)
              go_wp2
              go_returns
              exact ⟨rfl, bel_trans hB.out (bel_drewN _ _)⟩
          · obtain ⟨m, rfl⟩ : ∃ m, j = m + 1 := ⟨j - 1, by omega⟩
            have c0 : wr.cell? ⟨b, off + m * 2, none⟩ = some (.int .i64 (gX l m)) := by rw [(bcell hB.out).1 _ _ hb]; exact (hc.out m (by omega)).1
            have c1 : wr.cell? ⟨b, off + (m + 1) * 2, none⟩ = some (.int .i64 (gX l (m + 1))) := by rw [(bcell hB.out).1 _ _ hb]; exact (hc.out (m + 1) (by omega)).1
            have HF : Hid (gX l (m + 1) ≤ gX l m → E = 5) := fun h => H2.out (.inr ⟨m, hlt, h⟩)
            have HT : Hid (gX l m < gX l (m + 1) → ∀ i, i + 1 < m + 1 + 1 → gX l i < gX l (i + 1)) := fun h i hi => by
              by_cases e : i = m
              · rw [e]; exact h
              · exact ha.out i (by omega)
            have hz2 : Hid (gX l 0 = 0) := hz.out (by omega)
            have l2 : m < k := by omega
            have l3 : (m : Int) < (k : Int) := by omega
            have l4 : m + 1 < k := by omega
            have l5 : (m : Int) + 1 < (k : Int) := by omega
            have g0 : ((m : Int) + 1 == 0) = false := by rw [beq_eq_false_iff_ne]; omega
            have g1 : decide ((0 : Int) < (m : Int) + 1) = true := decide_eq_true (by omega)
            have wj : IntKind.i64.wrap ((m : Int) + 1 - 1) = (m : Int) := by simp only [IntKind.wrap_i64]; omega
            have wk : IntKind.i64.wrap (m : Int) = (m : Int) := by simp only [IntKind.wrap_i64]; omega
            have l6 : 0 ≤ (m : Int) + 1 := by omega
            have l7 : ((m : Int) + 1).toNat = m + 1 := by omega
            generalize gX l m = x at *
            generalize gX l (m + 1) = y at *
            clear hz hj0
            by_cases hxy : y ≤ x
            · obtain rfl := HF.out hxy
              have hd : decide (y ≤ x) = true := decide_eq_true hxy
              clear HF HT
              go_wp2_with fail
              go_quiet (fail)
              go_wp2
              go_returns
              exact ⟨rfl, bel_trans hB.out (bel_drewN _ _)⟩
            · have ha2 := Lib.hid (HT.out (by omega))
              have hd : decide (y ≤ x) = false := decide_eq_false hxy
              clear HF HT
              go_wp2_with fail
              go_quiet (fail)
              go_wp2
              go_roundw
              case rel => exact ⟨m + 1 + 1, by omega, by go_num, bel_trans hB.out (bel_drewN _ _), fun _ => hz2.out, ha2.out⟩
              case measure => simp [intOf]; omega
        · obtain rfl : j = k := by omega
          have H3' := Lib.hid (H3.out (hz.out (by omega)) (fun i hi => ha.out i hi))
          have H4' := Lib.hid (H4.out (hz.out (by omega)) (fun i hi => ha.out i hi))
          have hB1 := hB
          clear H2 H3 H4 ha hz hB0
          go_wp2_with fail
          clear hB
          go_loopw [5] (fun ii wy => ∃ (i : Nat), i ≤ j ∧ ii = .int .i64 i ∧ Hid (Below w.heap.size w wy) ∧ Hid (∀ m, m < i → gR l m ≠ 0)) (fun ii _ => j - (intOf ii).toNat)
          case atStart => exact ⟨0, by omega, rfl, hB1, fun m hm => by omega⟩
          case round =>
            obtain ⟨i, hi, rfl, hB, ha⟩ := hrel
            by_cases hlt : i < j
            · have c1 : wr.cell? ⟨b, off + i * 2 + 1, none⟩ = some (.int .i64 (gR l i)) := by rw [(bcell hB.out).1 _ _ hb]; exact (hc.out i hlt).2
              have HF : Hid (gR l i = 0 → E = 16) := fun h => H3'.out ⟨i, hlt, h⟩
              have HT : Hid (gR l i ≠ 0 → ∀ m, m < i + 1 → gR l m ≠ 0) := fun h m hm => by
                by_cases e : m = i
                · rw [e]; exact h
                · exact ha.out m (by omega)
              have l1 : (i : Int) < (j : Int) := by omega
              generalize gR l i = r at *
              by_cases hr : r = 0
              · obtain rfl := HF.out hr
                have q1 : (r == 0) = true := by simpa using hr
                clear HF HT
                go_wp2
                go_returns
                exact ⟨rfl, hB.out⟩
              · have ha2 := Lib.hid (HT.out hr)
                have q1 : (r == 0) = false := by simpa using hr
                clear HF HT
                go_wp2
                go_roundw
                case rel => exact ⟨i + 1, by omega, by go_num, hB, ha2⟩
                case measure => simp [intOf]; omega
            · obtain rfl : i = j := by omega
              have H5 := Lib.hid (H4'.out ha.out)
              have hB2 := hB
              clear H3' H4' ha hB1
              go_wp2_with fail
              clear hB
              go_loopw [6, 7] (fun ff ii wx => ∃ (m : Nat), m + 1 ≤ i ∧ ii = .int .i64 ((m : Int) + 1) ∧ ff = .bool (fal l m) ∧ Hid (Below w.heap.size w wx) ∧ Hid (swl l m = false)) (fun _ ii _ => i - (intOf ii).toNat)
              case atStart => exact ⟨0, by omega, rfl, rfl, hB2, rfl⟩
              case round =>
                obtain ⟨m, hm, rfl, rfl, hB, hs⟩ := hrel
                by_cases hlt : m + 1 < i
                · have c0 : wr.cell? ⟨b, off + m * 2 + 1, none⟩ = some (.int .i64 (gR l m)) := by rw [(bcell hB.out).1 _ _ hb]; exact (hc.out m (by omega)).2
                  have c1 : wr.cell? ⟨b, off + (m + 1) * 2 + 1, none⟩ = some (.int .i64 (gR l (m + 1))) := by rw [(bcell hB.out).1 _ _ hb]; exact (hc.out (m + 1) (by omega)).2
                  have EF : Hid (fal l (m + 1) = (fal l m || decide (gR l (m + 1) < gR l m))) := rfl
                  have ES : Hid (swl l (m + 1) = (swl l m || (fal l m && decide (gR l m < gR l (m + 1))))) := rfl
                  have HF : Hid (swl l (m + 1) = true → E = 10) := fun h => by
                    have : swl l (i - 1) = true := by
                      obtain ⟨p, q, a1, a2, a3⟩ := (swl_iff _ _).1 h
                      exact (swl_iff _ _).2 ⟨p, q, a1, by omega, a3⟩
                    rw [H5.out, if_pos this]
                  rw [hs.out] at ES
                  have l2 : m < i := by omega
                  have l3 : (m : Int) < (i : Int) := by omega
                  have l5 : (m : Int) + 1 < (i : Int) := by omega
                  have wj : IntKind.i64.wrap ((m : Int) + 1 - 1) = (m : Int) := by simp only [IntKind.wrap_i64]; omega
                  have wk : IntKind.i64.wrap (m : Int) = (m : Int) := by simp only [IntKind.wrap_i64]; omega
                  have l6 : 0 ≤ (m : Int) + 1 := by omega
                  have l7 : ((m : Int) + 1).toNat = m + 1 := by omega
                  generalize fal l m = s at *
                  generalize gR l m = p at *
                  generalize gR l (m + 1) = q at *
                  clear hs
                  by_cases g1 : p < q
                  · have g2 : ¬ q < p := by omega
                    have d1 : decide (p < q) = true := decide_eq_true g1
                    have d2 : decide (q < p) = false := decide_eq_false g2
                    rw [d1] at ES
                    rw [d2] at EF
                    cases s with
                    | true =>
                      obtain rfl := HF.out (by rw [ES.out]; rfl)
                      clear EF ES HF H5
                      go_wp2_with fail
                      go_quiet (fail)
                      go_wp2
                      go_returns
                      exact ⟨rfl, bel_trans hB.out (bel_drewN _ _)⟩
                    | false =>
                      clear HF
                      go_wp2_with fail
                      go_quiet (fail)
                      go_wp2_with fail
                      go_quiet (fail)
                      go_wp2
                      go_roundw
                      case rel => exact ⟨m + 1, by omega, by go_num, by rw [EF.out]; rfl, bel_trans hB.out (bel_drewN _ _), by show _ = _; rw [ES.out]; rfl⟩
                      case measure => simp [intOf]; omega
                  · have d1 : decide (p < q) = false := decide_eq_false g1
                    rw [d1] at ES
                    cases s with
                    | true =>
                      clear HF
                      go_wp2_with fail
                      go_quiet (fail)
                      go_wp2_with fail
                      go_quiet (fail)
                      go_wp2
                      go_roundw
                      case rel => exact ⟨m + 1, by omega, by go_num, by rw [EF.out]; rfl, bel_trans hB.out (bel_drewN _ _), by show _ = _; rw [ES.out]; rfl⟩
                      case measure => simp [intOf]; omega
                    | false =>
                      clear HF
                      by_cases g2 : q < p
                      · have d2 : decide (q < p) = true := decide_eq_true g2
                        rw [d2] at EF
                        go_wp2_with fail
                        go_quiet (fail)
                        go_wp2_with fail
                        go_quiet (fail)
                        go_wp2
                        go_roundw
                        case rel => exact ⟨m + 1, by omega, by go_num, by rw [EF.out]; rfl, bel_trans hB.out (bel_drewN _ _), by show _ = _; rw [ES.out]; rfl⟩
                        case measure => simp [intOf]; omega
                      · have d2 : decide (q < p) = false := decide_eq_false g2
                        rw [d2] at EF
                        go_wp2_with fail
                        go_quiet (fail)
                        go_wp2_with fail
                        go_quiet (fail)
                        go_wp2
                        go_roundw
                        case rel => exact ⟨m + 1, by omega, by go_num, by rw [EF.out]; rfl, bel_trans hB.out (bel_drewN _ _), by show _ = _; rw [ES.out]; rfl⟩
                        case measure => simp [intOf]; omega
                · obtain rfl : i = m + 1 := by omega
                  have e : E = 0 := by rw [H5.out, show m + 1 - 1 = m by omega, if_neg (by rw [hs.out]; simp)]
                  subst e
                  go_wp2
                  go_returns
                  exact ⟨rfl, hB.out⟩
theorem refCk_any (v : Value) (l : List (Int × Int)) (w : World) (hv : Pts w v l) :
    Calls Tryz.prog 49 #[v] w fun e w' => e = .returned (.int .i64 (ckE l)) ∧ Below w.heap.size w w' := by
  obtain ⟨a, cap, rfl, hl, hh⟩ := hv
  by_cases h0 : l.length < 2
  · rw [show ckE l = 9 by unfold ckE; rw [if_pos h0]]
    exact refCk_few a l.length cap w h0
  · by_cases h1 : 32 < l.length
    · rw [show ckE l = 8 by unfold ckE; rw [if_neg h0, if_pos h1]]
      exact refCk_many a l.length cap w h1 (by omega)
    · rcases hh with hh | ⟨b, off, rfl, hb, hc⟩
      · omega
      · have e : ckE l = (if l.any ptOut = true then 2 else if (adv l (l.length - 1) && (gX l 0 == 0)) = false then 5 else if l.any ptCl = true then 16 else if swl l (l.length - 1) = true then 10 else 0) := by unfold ckE; rw [if_neg h0, if_neg h1]
        have o1 : (∀ j, j < l.length → (lenB (gX l j) && lenB (gR l j)) = true) → ¬ l.any ptOut = true := fun h => by
          rw [any_not fun i hi => ?_]
          · simp
          · show (!(lenB (gX l i) && lenB (gR l i))) = false
            rw [h i hi]; rfl
        have o2 : gX l 0 = 0 → (∀ j, j + 1 < l.length → gX l j < gX l (j + 1)) → ¬ (adv l (l.length - 1) && (gX l 0 == 0)) = false := fun h1 h2 => by
          rw [(adv_iff l _).2 fun i hi => h2 i (by omega), h1]; simp
        refine refCk_some b off l.length cap l _ w (by omega) (by omega) hb hc (fun ⟨j, hj, h⟩ => ?_) (fun h g => ?_) (fun h g1 g2 ⟨j, hj, h3⟩ => ?_) (fun h g1 g2 g3 => ?_)
        · rw [e, if_pos]
          refine any_of hj ?_
          show (!(lenB (gX l j) && lenB (gR l j))) = true
          rw [h]; rfl
        · rw [e, if_neg (o1 h), if_pos]
          rcases g with g | ⟨j, hj, g⟩
          · rw [show (gX l 0 == 0) = false by simpa using g, Bool.and_false]
          · have : adv l (l.length - 1) = false := by
              rw [Bool.eq_false_iff]
              intro ha
              have := (adv_iff l _).1 ha j (by omega)
              omega
            rw [this, Bool.false_and]
        · rw [e, if_neg (o1 h), if_neg (o2 g1 g2), if_pos]
          refine any_of hj ?_
          show (gR l j == 0) = true
          rw [h3]; rfl
        · rw [e, if_neg (o1 h), if_neg (o2 g1 g2), if_neg]
          rw [any_not fun i hi => ?_]
          · simp
          · show (gR l i == 0) = false
            simpa using g3 i hi
end Go.Proofs.YtmdpdpbkbakidaaGreat

/- Plain facts on decimal digits. No program stands in this text. -/
namespace Go.Proofs.YtmdpdpbkbakidaaGreat

/-- a decimal digit -/
def isDg (c : UInt8) : Bool := decide (48 ≤ c.toNat) && decide (c.toNat ≤ 57)
theorem isDg_iff (c : UInt8) : isDg c = true ↔ 48 ≤ c.toNat ∧ c.toNat ≤ 57 := by simp [isDg]
theorem isDg_not (c : UInt8) : isDg c = false ↔ c.toNat < 48 ∨ 57 < c.toNat := by rw [Bool.eq_false_iff, ne_eq, isDg_iff]; omega
def dgs (l : List UInt8) : Bool := l.all isDg
/-- the number with some digits -/
def val (l : List UInt8) : Int := l.foldl (fun a c => 10 * a + ((c.toNat : Int) - 48)) 0
theorem val_snoc (l : List UInt8) (c : UInt8) : val (l ++ [c]) = 10 * val l + ((c.toNat : Int) - 48) := by simp [val]
theorem dgs_snoc (l : List UInt8) (c : UInt8) : dgs (l ++ [c]) = (dgs l && isDg c) := by simp [dgs]
theorem val_bd (l : List UInt8) (h : dgs l = true) : 0 ≤ val l ∧ val l < 10 ^ l.length := by
  have key : ∀ (n : Nat) (l : List UInt8), l.length = n → dgs l = true → 0 ≤ val l ∧ val l < 10 ^ l.length := by
    intro n
    induction n with
    | zero => intro l hl _; rw [List.length_eq_zero_iff.1 hl]; simp [val]
    | succ n ih =>
      intro l hl h
      have hne : l ≠ [] := fun e => by subst e; simp at hl
      have e := List.dropLast_concat_getLast hne
      rw [← e] at h ⊢
      rw [dgs_snoc, Bool.and_eq_true, isDg_iff] at h
      obtain ⟨a, b⟩ := ih l.dropLast (by simp; omega) h.1
      rw [val_snoc, List.length_append, List.length_singleton, Int.pow_succ]
      omega
  exact key _ l rfl h
theorem val_small (l : List UInt8) (h : dgs l = true) (hl : l.length ≤ 15) : 0 ≤ val l ∧ val l ≤ 999999999999999 := by
  obtain ⟨a, b⟩ := val_bd l h
  have : (10 : Int) ^ l.length ≤ 10 ^ 15 := by
    have := Nat.pow_le_pow_right (show 0 < 10 by omega) hl
    exact_mod_cast this
  omega

theorem take_snoc (s : ByteArray) (k : Nat) (h : k < s.size) : s.data.toList.take (k + 1) = s.data.toList.take k ++ [s[k]] := by
  rw [List.take_succ_eq_append_getElem (by simpa using h)]; rfl
theorem dgs_take (s : ByteArray) (k : Nat) (h : k < s.size) (hd : isDg s[k] = false) : dgs s.data.toList = false := by
  rw [Bool.eq_false_iff]; intro hall
  unfold dgs at hall
  rw [List.all_eq_true] at hall
  have hm : s[k] ∈ s.data.toList := by
    show s.data[k] ∈ s.data.toList
    exact List.getElem_mem (l := s.data.toList) (by simpa using h)
  rw [hall _ hm] at hd; cases hd
theorem take_all (s : ByteArray) (k : Nat) (h : s.size ≤ k) : s.data.toList.take k = s.data.toList := List.take_of_length_le (by simpa using h)

/-- the last decimal digit of a number -/
def dg (n : Int) : UInt8 := UInt8.ofNat (48 + (n % 10).toNat)
theorem dg_nat (n : Int) : (dg n).toNat = 48 + (n % 10).toNat := by
  have : (n % 10).toNat < 10 := by omega
  unfold dg
  rw [UInt8.toNat_ofNat']
  omega
theorem dg_is (n : Int) : isDg (dg n) = true := by
  rw [isDg_iff, dg_nat]; omega
theorem dg_val (n : Int) : ((dg n).toNat : Int) - 48 = n % 10 := by rw [dg_nat]; omega
def two (n : Int) : List UInt8 := [dg (n / 10), dg n]
def four (n : Int) : List UInt8 := [dg (n / 1000), dg (n / 100), dg (n / 10), dg n]
theorem dgs_two (n : Int) : dgs (two n) = true := by simp [dgs, two, dg_is]
theorem dgs_four (n : Int) : dgs (four n) = true := by simp [dgs, four, dg_is]
theorem val_two (n : Int) (h0 : 0 ≤ n) (h1 : n ≤ 99) : val (two n) = n := by
  simp only [val, two, List.foldl_cons, List.foldl_nil, dg_val]; omega
theorem val_four (n : Int) (h0 : 0 ≤ n) (h1 : n ≤ 9999) : val (four n) = n := by
  simp only [val, four, List.foldl_cons, List.foldl_nil, dg_val]; omega
theorem dec_four (n : Int) (h0 : 1000 ≤ n) (h1 : n ≤ 9999) : Lib.decDigits n.toNat = four n := by
  have d1 : Lib.decDigits n.toNat = Lib.decDigits (n.toNat / 10) ++ [UInt8.ofNat (48 + n.toNat % 10)] := by rw [Lib.decDigits, dif_neg (by omega)]
  have d2 : Lib.decDigits (n.toNat / 10) = Lib.decDigits (n.toNat / 10 / 10) ++ [UInt8.ofNat (48 + n.toNat / 10 % 10)] := by rw [Lib.decDigits, dif_neg (by omega)]
  rw [d1, d2, Lib.decDigits_two (by omega) (by omega)]
  simp only [four, dg, List.cons_append, List.nil_append]
  rw [show n.toNat / 10 / 10 / 10 = (n / 1000 % 10).toNat by omega, show n.toNat / 10 / 10 % 10 = (n / 100 % 10).toNat by omega, show n.toNat / 10 % 10 = (n / 10 % 10).toNat by omega, show n.toNat % 10 = (n % 10).toNat by omega]
theorem dec_one (n : Int) (h0 : 0 ≤ n) (h1 : n ≤ 9) : 48 :: Lib.decDigits n.toNat = two n := by
  rw [Lib.decDigits_one (by omega)]
  simp only [two, dg]
  rw [show n / 10 % 10 = 0 by omega, show n.toNat = (n % 10).toNat by omega]; rfl
theorem dec_two (n : Int) (h0 : 10 ≤ n) (h1 : n ≤ 99) : Lib.decDigits n.toNat = two n := by
  rw [Lib.decDigits_two (by omega) (by omega)]
  simp only [two, dg]
  rw [show n.toNat / 10 = (n / 10 % 10).toNat by omega, show n.toNat % 10 = (n % 10).toNat by omega]
end Go.Proofs.YtmdpdpbkbakidaaGreat

/- A block with four cells. -/
namespace Go.Proofs.YtmdpdpbkbakidaaGreat
open Go.RowKit

def Quad (b : Nat) (W : World) (x y z u : Value) : Prop := W.cell? ⟨b, 0, none⟩ = some x ∧ W.cell? ⟨b, 1, none⟩ = some y ∧ W.cell? ⟨b, 2, none⟩ = some z ∧ W.cell? ⟨b, 3, none⟩ = some u ∧ (∀ k, k < 4 → W.frozen? ⟨b, k, none⟩ = false) ∧ b < W.heap.size
theorem Quad.below {b : Nat} {W W' : World} {x y z u : Value} (h : Quad b W x y z u) (hb : Below W.heap.size W W') : Quad b W' x y z u := by
  obtain ⟨h0, h1, h2, h3, h4, h5⟩ := h
  exact ⟨by rw [(bcell hb).1 _ _ h5]; exact h0, by rw [(bcell hb).1 _ _ h5]; exact h1, by rw [(bcell hb).1 _ _ h5]; exact h2, by rw [(bcell hb).1 _ _ h5]; exact h3, fun k hk => by rw [(bcell hb).2 _ _ h5]; exact h4 k hk, Nat.lt_of_lt_of_le h5 hb.size⟩
theorem Quad.alloc {b : Nat} {W : World} {x y z u : Value} (h : Quad b W x y z u) (o : Obj) : Quad b (W.alloc o) x y z u := h.below (bel_alloc (Below.refl _ _))
theorem Quad.new (W : World) (x y z u : Value) (T : TypeId) : Quad W.heap.size (W.alloc (.cells #[x, y, z, u] T)) x y z u :=
  ⟨by simp [go_sem], by simp [go_sem], by simp [go_sem], by simp [go_sem], fun k _ => by simp [go_sem], by simp⟩
theorem quad_read (w : World) (b : Nat) (x y z u : Value) {a0 a1 a2 a3 : Value} (h0 : w.cell? ⟨b, 0, none⟩ = some a0) (h1 : w.cell? ⟨b, 1, none⟩ = some a1) (h2 : w.cell? ⟨b, 2, none⟩ = some a2) (h3 : w.cell? ⟨b, 3, none⟩ = some a3) :
    ((((w.setCell ⟨b, 0, none⟩ x).setCell ⟨b, 1, none⟩ y).setCell ⟨b, 2, none⟩ z).setCell ⟨b, 3, none⟩ u).cell? ⟨b, 0, none⟩ = some x ∧ ((((w.setCell ⟨b, 0, none⟩ x).setCell ⟨b, 1, none⟩ y).setCell ⟨b, 2, none⟩ z).setCell ⟨b, 3, none⟩ u).cell? ⟨b, 1, none⟩ = some y ∧ ((((w.setCell ⟨b, 0, none⟩ x).setCell ⟨b, 1, none⟩ y).setCell ⟨b, 2, none⟩ z).setCell ⟨b, 3, none⟩ u).cell? ⟨b, 2, none⟩ = some z ∧ ((((w.setCell ⟨b, 0, none⟩ x).setCell ⟨b, 1, none⟩ y).setCell ⟨b, 2, none⟩ z).setCell ⟨b, 3, none⟩ u).cell? ⟨b, 3, none⟩ = some u := by
  have o : ∀ (W : World) (i j : Nat) (v : Value), i ≠ j → (W.setCell ⟨b, j, none⟩ v).cell? ⟨b, i, none⟩ = W.cell? ⟨b, i, none⟩ := fun W i j v h => World.cell?_setCell_other _ _ _ _ (by simp)
  refine ⟨?_, ?_, ?_, ?_⟩
  · rw [o _ 0 3 _ (by decide), o _ 0 2 _ (by decide), o _ 0 1 _ (by decide)]; exact World.cell?_setCell_same _ _ _ h0
  · rw [o _ 1 3 _ (by decide), o _ 1 2 _ (by decide)]; exact World.cell?_setCell_same (u := a1) _ _ _ (by rw [o _ 1 0 _ (by decide)]; exact h1)
  · rw [o _ 2 3 _ (by decide)]; exact World.cell?_setCell_same (u := a2) _ _ _ (by rw [o _ 2 1 _ (by decide), o _ 2 0 _ (by decide)]; exact h2)
  · exact World.cell?_setCell_same (u := a3) _ _ _ (by rw [o _ 3 2 _ (by decide), o _ 3 1 _ (by decide), o _ 3 0 _ (by decide)]; exact h3)
end Go.Proofs.YtmdpdpbkbakidaaGreat

/- Casks: names, values that read as casks, the first fault of a cask. -/
namespace Go.Proofs.YtmdpdpbkbakidaaGreat
open Go.RowKit

structure Ck where
  nm : ByteArray
  ps : Int
  pf : List (Int × Int)
  dc : Int

/-- a letter of a name -/
def nmC (c : UInt8) : Bool := decide (97 ≤ c.toNat ∧ c.toNat ≤ 122) || decide (65 ≤ c.toNat ∧ c.toNat ≤ 90) || decide (48 ≤ c.toNat ∧ c.toNat ≤ 57) || decide (c.toNat = 45) || decide (c.toNat = 46)
theorem nmC_iff (c : UInt8) : nmC c = true ↔ (97 ≤ c.toNat ∧ c.toNat ≤ 122) ∨ (65 ≤ c.toNat ∧ c.toNat ≤ 90) ∨ (48 ≤ c.toNat ∧ c.toNat ≤ 57) ∨ c.toNat = 45 ∨ c.toNat = 46 := by
  simp [nmC, or_assoc]
/-- a name -/
def isNm (s : ByteArray) : Bool := s.data.toList.all nmC && decide (1 ≤ s.size) && decide (s.size ≤ 64)
theorem all_snoc {p : UInt8 → Bool} (l : List UInt8) (c : UInt8) : (l ++ [c]).all p = (l.all p && p c) := by simp
theorem all_take {p : UInt8 → Bool} (s : ByteArray) (k : Nat) (h : k < s.size) (hd : p s[k] = false) : s.data.toList.all p = false := by
  rw [Bool.eq_false_iff]; intro hall
  rw [List.all_eq_true] at hall
  have hm : s[k] ∈ s.data.toList := by
    show s.data[k] ∈ s.data.toList
    exact List.getElem_mem (l := s.data.toList) (by simpa using h)
  rw [hall _ hm] at hd; cases hd
/-- the first fault of a cask -/
def ccE (c : Ck) : Int :=
  if isNm c.nm = true then (if (c.ps ≠ 1 ∧ c.ps ≠ 2) ∨ c.dc < 0 ∨ 1073741824 < c.dc then 2 else ckE c.pf) else 4
/-- a value reads as a cask -/
def CkV (w : World) (v : Value) (c : Ck) : Prop :=
  ∃ a cap, v = .agg #[.string c.nm, .int .i64 c.ps, .slice a c.pf.length cap, .int .i64 c.dc] ∧ Pts w (.slice a c.pf.length cap) c.pf ∧ c.nm.size ≤ 9223372036854775807 ∧ (-9223372036854775808 ≤ c.ps ∧ c.ps ≤ 9223372036854775807) ∧ (-9223372036854775808 ≤ c.dc ∧ c.dc ≤ 9223372036854775807)
theorem CkV.below {w w' : World} {v : Value} {c : Ck} (h : CkV w v c) (hb : Below w.heap.size w w') : CkV w' v c := by
  obtain ⟨a, cap, e, hp, r⟩ := h
  exact ⟨a, cap, e, hp.below hb, r⟩
theorem CkV.alloc {w : World} {v : Value} {c : Ck} (h : CkV w v c) (o : Obj) : CkV (w.alloc o) v c := h.below (bel_alloc (Below.refl _ _))
/-- a slice reads as a list of casks -/
def Cks (w : World) (v : Value) (l : List Ck) : Prop :=
  ∃ a cap, v = .slice a l.length cap ∧ (l.length ≤ cap ∧ cap ≤ 9223372036854775807) ∧
    (l.length = 0 ∨ ∃ b off, a = some ⟨b, off, none⟩ ∧ b < w.heap.size ∧ ∀ j (hj : j < l.length), ∃ x0 x1 x2 x3, w.cell? ⟨b, off + j * 4, none⟩ = some x0 ∧ w.cell? ⟨b, off + j * 4 + 1, none⟩ = some x1 ∧ w.cell? ⟨b, off + j * 4 + 2, none⟩ = some x2 ∧ w.cell? ⟨b, off + j * 4 + 3, none⟩ = some x3 ∧ CkV w (.agg #[x0, x1, x2, x3]) l[j])
theorem Cks.below {w w' : World} {v : Value} {l : List Ck} (h : Cks w v l) (hb : Below w.heap.size w w') : Cks w' v l := by
  obtain ⟨a, cap, rfl, hl, h | ⟨b, off, rfl, hlt, hc⟩⟩ := h
  · exact ⟨a, cap, rfl, hl, .inl h⟩
  · refine ⟨_, cap, rfl, hl, .inr ⟨b, off, rfl, Nat.lt_of_lt_of_le hlt hb.size, fun j hj => ?_⟩⟩
    obtain ⟨x0, x1, x2, x3, g0, g1, g2, g3, g⟩ := hc j hj
    exact ⟨x0, x1, x2, x3, by rw [(bcell hb).1 _ _ hlt]; exact g0, by rw [(bcell hb).1 _ _ hlt]; exact g1, by rw [(bcell hb).1 _ _ hlt]; exact g2, by rw [(bcell hb).1 _ _ hlt]; exact g3, g.below hb⟩
theorem Cks.alloc {w : World} {v : Value} {l : List Ck} (h : Cks w v l) (o : Obj) : Cks (w.alloc o) v l := h.below (bel_alloc (Below.refl _ _))
theorem Cks.shape {W : World} {v : Value} {l : List Ck} (h : Cks W v l) : ∃ a cap, v = .slice a l.length cap ∧ l.length ≤ cap ∧ cap ≤ 9223372036854775807 := by
  obtain ⟨a, cap, e, ⟨h1, h2⟩, _⟩ := h
  exact ⟨a, cap, e, h1, h2⟩
/-- the casks' cells, written out -/
def CkAt (w : World) (b off j : Nat) (c : Ck) : Prop :=
  ∃ a cap, w.cell? ⟨b, off + j * 4, none⟩ = some (.string c.nm) ∧ w.cell? ⟨b, off + j * 4 + 1, none⟩ = some (.int .i64 c.ps) ∧ w.cell? ⟨b, off + j * 4 + 2, none⟩ = some (.slice a c.pf.length cap) ∧ w.cell? ⟨b, off + j * 4 + 3, none⟩ = some (.int .i64 c.dc) ∧ Pts w (.slice a c.pf.length cap) c.pf ∧ c.nm.size ≤ 9223372036854775807 ∧ (-9223372036854775808 ≤ c.ps ∧ c.ps ≤ 9223372036854775807) ∧ (-9223372036854775808 ≤ c.dc ∧ c.dc ≤ 9223372036854775807)
theorem CkAt.below {w w' : World} {b off j : Nat} {c : Ck} (h : CkAt w b off j c) (hlt : b < w.heap.size) (hb : Below w.heap.size w w') : CkAt w' b off j c := by
  obtain ⟨a, cap, g0, g1, g2, g3, hp, r⟩ := h
  exact ⟨a, cap, by rw [(bcell hb).1 _ _ hlt]; exact g0, by rw [(bcell hb).1 _ _ hlt]; exact g1, by rw [(bcell hb).1 _ _ hlt]; exact g2, by rw [(bcell hb).1 _ _ hlt]; exact g3, hp.below hb, r⟩
theorem Cks.cks {W : World} {v : Value} {l : List Ck} (h : Cks W v l) (h0 : 0 < l.length) : ∃ b off cap, v = .slice (some ⟨b, off, none⟩) l.length cap ∧ b < W.heap.size ∧ (l.length ≤ cap ∧ cap ≤ 9223372036854775807) ∧ ∀ j (hj : j < l.length), CkAt W b off j l[j] := by
  obtain ⟨a, cap, rfl, hl, h | ⟨b, off, rfl, hlt, hc⟩⟩ := h
  · omega
  · refine ⟨b, off, cap, rfl, hlt, hl, fun j hj => ?_⟩
    obtain ⟨x0, x1, x2, x3, g0, g1, g2, g3, a, c, e, r⟩ := hc j hj
    simp only [Value.agg.injEq, Array.mk.injEq, List.cons.injEq, and_true] at e
    obtain ⟨rfl, rfl, rfl, rfl⟩ := e
    exact ⟨a, c, g0, g1, g2, g3, r⟩
theorem cks_nil (w : World) : Cks w (.slice none 0 0) [] := ⟨none, 0, rfl, by simp, .inl rfl⟩
/-- no cask -/
def zCk : Ck := ⟨ByteArray.empty, 0, [], 0⟩
end Go.Proofs.YtmdpdpbkbakidaaGreat

/- The reference of layer 9: Copy. -/
namespace Go.Proofs.YtmdpdpbkbakidaaGreat
open Go.RowKit

theorem ck_info : (Tryz.prog.info? 24).map (fun i => (i.zero, i.size, i.bytes)) = some (some (.agg #[.string ByteArray.empty, .int .i64 0, .slice none 0 0, .int .i64 0]), 4, 56) := by kernel_rfl
/-- the cells of a cask -/
def ckCells (c : Ck) (pv : Value) : List Value := [.string c.nm, .int .i64 c.ps, pv, .int .i64 c.dc]
def flatC : List (Ck × Value) → List Value
  | [] => []
  | q :: l => ckCells q.1 q.2 ++ flatC l
theorem flatC_len (l : List (Ck × Value)) : (flatC l).length = l.length * 4 := by
  induction l with
  | nil => rfl
  | cons q l ih => simp only [flatC, ckCells, List.length_append, List.length_cons, List.length_nil, ih]; omega
theorem flatC_app (l m : List (Ck × Value)) : flatC (l ++ m) = flatC l ++ flatC m := by
  induction l with
  | nil => rfl
  | cons q l ih => simp only [List.cons_append, flatC, ih, List.append_assoc]
theorem flatC_at (l : List (Ck × Value)) (j : Nat) (h : j < l.length) : (flatC l)[j * 4]? = some (.string l[j].1.nm) ∧ (flatC l)[j * 4 + 1]? = some (.int .i64 l[j].1.ps) ∧ (flatC l)[j * 4 + 2]? = some l[j].2 ∧ (flatC l)[j * 4 + 3]? = some (.int .i64 l[j].1.dc) := by
  induction l generalizing j with
  | nil => simp at h
  | cons q l ih =>
    cases j with
    | zero => simp [flatC, ckCells]
    | succ j =>
      have := ih j (by simpa using h)
      rw [show (j + 1) * 4 = j * 4 + 1 + 1 + 1 + 1 by omega]
      simp only [flatC, ckCells, List.cons_append, List.nil_append, List.getElem?_cons_succ, List.getElem_cons_succ]
      exact this
theorem own_apart {w : World} {B B' n m size size' : Nat} {e e' : TypeId} {p v : Value} {xs ys : List Value} (he : e ≠ e') (h : w.ownsRow B e size p n xs) (h' : w.ownsRow B' e' size' v m ys) : p.ownBlock = none ∨ p.ownBlock ≠ v.ownBlock := by
  rcases h.2 with ⟨rfl, _⟩ | ⟨g, c, cur, rfl, _, hg, _⟩
  · exact .inl rfl
  · rcases h'.2 with ⟨rfl, _⟩ | ⟨g', c', cur', rfl, _, hg', _⟩
    · right; simp [Value.ownBlock]
    · right
      simp only [Value.ownBlock, ne_eq, Option.some.injEq]
      intro hgg
      rw [hgg, hg'] at hg
      simp only [Option.some.injEq, Obj.cells.injEq] at hg
      exact he hg.2.1.symm
/-- casks of the call's own: the row, and a list of points of one's own for each -/
def OwnC (w : World) (B : Nat) (v : Value) (l : List Ck) : Prop :=
  ∃ ps : List Value, ps.length = l.length ∧ w.ownsRow B 24 4 v l.length (flatC (l.zip ps)) ∧ ∀ q ∈ l.zip ps, OwnP w B q.2 q.1.pf
theorem own_one {w : World} {B n size : Nat} {e : TypeId} {v : Value} {xs : List Value} (h : w.ownsRow B e size v n xs) (B' : Nat) (hB : B' ≤ B) : w.ownsRow B' e size v n xs := by
  obtain ⟨h1, h2⟩ := h
  refine ⟨h1, ?_⟩
  rcases h2 with h2 | ⟨g, c, cur, hv, hg, r⟩
  · exact .inl h2
  · exact .inr ⟨g, c, cur, hv, Nat.le_trans hB hg, r⟩
/-- one more cask -/
theorem OwnC.snoc {W W' : World} {B : Nat} {v v' : Value} {l : List Ck} {c : Ck} {p : Value} {ps : List Value} (h1 : ps.length = l.length) (h2 : W.ownsRow B 24 4 v l.length (flatC (l.zip ps))) (h3 : ∀ q ∈ l.zip ps, OwnP W B q.2 q.1.pf) (hg : W.grownBy W' v.ownBlock) (hp : OwnP W B p c.pf)
    (h4 : W'.ownsRow B 24 4 v' (l.length + 1) (flatC (l.zip ps) ++ ckCells c p)) : OwnC W' B v' (l ++ [c]) := by
  have hz : (l ++ [c]).zip (ps ++ [p]) = l.zip ps ++ [(c, p)] := by
    rw [List.zip_append h1.symm]; rfl
  refine ⟨ps ++ [p], by simp [h1], ?_, ?_⟩
  · rw [hz, flatC_app, List.length_append]
    exact h4
  · rw [hz]
    intro q hq
    have k : OwnP W B q.2 q.1.pf := by
      rcases List.mem_append.1 hq with hq | hq
      · exact h3 q hq
      · rw [List.mem_singleton] at hq; subst hq; exact hp
    exact World.ownsRow.kept k hg (own_apart (by decide) k h2)
theorem row_bel {W W' : World} {B n size : Nat} {e : TypeId} {v : Value} {xs : List Value} (h : W.ownsRow B e size v n xs) (hb : Below W.heap.size W W') : W'.ownsRow B e size v n xs := by
  obtain ⟨h1, h2⟩ := h
  refine ⟨h1, ?_⟩
  rcases h2 with h2 | ⟨g, c, cur, hv, hg, hh, r⟩
  · exact .inl h2
  · refine .inr ⟨g, c, cur, hv, hg, ?_, r⟩
    rw [hb.block g (Array.getElem?_eq_some_iff.1 hh).1]; exact hh
theorem OwnC.below {W W' : World} {B : Nat} {v : Value} {l : List Ck} (h : OwnC W B v l) (hb : Below W.heap.size W W') : OwnC W' B v l := by
  obtain ⟨ps, h1, h2, h3⟩ := h
  exact ⟨ps, h1, row_bel h2 hb, fun q hq => row_bel (h3 q hq) hb⟩
theorem Quad.grown {b : Nat} {W W' : World} {row : Option Nat} {x y z u : Value} (h : Quad b W x y z u) (hg : W.grownBy W' row) (hr : some b ≠ row) : Quad b W' x y z u := by
  obtain ⟨h0, h1, h2, h3, h4, h5⟩ := h
  have e := hg.block b h5 hr
  have f : ∀ k, W'.cell? ⟨b, k, none⟩ = W.cell? ⟨b, k, none⟩ := fun k => World.cell?_of_block (a := ⟨b, k, none⟩) e
  exact ⟨by rw [f]; exact h0, by rw [f]; exact h1, by rw [f]; exact h2, by rw [f]; exact h3, fun k hk => by rw [World.frozen?_of_block (a := ⟨b, k, none⟩) e]; exact h4 k hk, Nat.lt_of_lt_of_le h5 hg.size⟩
theorem Quad.set2 {b : Nat} {W : World} {x y z u : Value} (h : Quad b W x y z u) (t : Value) : Quad b (W.setCell ⟨b, 2, none⟩ t) x y t u := by
  obtain ⟨h0, h1, h2, h3, h4, h5⟩ := h
  refine ⟨?_, ?_, ?_, ?_, fun k hk => ?_, ?_⟩
  · rw [World.cell?_setCell_other _ _ _ _ (by simp)]; exact h0
  · rw [World.cell?_setCell_other _ _ _ _ (by simp)]; exact h1
  · exact World.cell?_setCell_same _ _ _ h2
  · rw [World.cell?_setCell_other _ _ _ _ (by simp)]; exact h3
  · rw [World.frozen?_setCell]; exact h4 k hk
  · simpa [World.setCell] using h5
theorem grown_set (W : World) (b i : Nat) (v : Value) : W.grownBy (W.setCell ⟨b, i, none⟩ v) (some b) :=
  ⟨rfl, rfl, rfl, by simp [World.setCell], fun k _ hne => Below.heap_setCell _ _ _ _ (by intro e; exact hne (by rw [e]))⟩
theorem OwnC.cks {W : World} {B : Nat} {v : Value} {l : List Ck} (h : OwnC W B v l) (hn : ∀ c ∈ l, c.nm.size ≤ 9223372036854775807 ∧ (-9223372036854775808 ≤ c.ps ∧ c.ps ≤ 9223372036854775807) ∧ (-9223372036854775808 ≤ c.dc ∧ c.dc ≤ 9223372036854775807)) : Cks W v l := by
  obtain ⟨ps, h1, h2, h3⟩ := h
  have h2' := h2
  obtain ⟨_, h4⟩ := h2
  rcases h4 with ⟨rfl, h0⟩ | ⟨g, cap, cur, rfl, hg, hh, hc, hm, _⟩
  · exact ⟨none, 0, by rw [h0], by omega, .inl h0⟩
  · have hlt : g < W.heap.size := (Array.getElem?_eq_some_iff.1 hh).1
    unfold maxLen at hm
    refine ⟨_, cap, rfl, ⟨hc, by omega⟩, .inr ⟨g, 0, rfl, hlt, fun j hj => ?_⟩⟩
    have hcell := World.ownsRow.cells h2' (g := g) rfl
    have hjz : j < (l.zip ps).length := by simp; omega
    have hf := flatC_at (l.zip ps) j hjz
    have hz : (l.zip ps)[j] = (l[j], ps[j]'(by omega)) := by simp
    rw [hz] at hf
    obtain ⟨f0, f1, f2, f3⟩ := hf
    have c0 := hcell _ _ f0
    have c1 := hcell _ _ f1
    have c2 := hcell _ _ f2
    have c3 := hcell _ _ f3
    rw [Go.WideShapes.add_plain] at c0 c1 c2 c3
    have hp := OwnP.pts (h3 (l[j], ps[j]'(by omega)) (by rw [← hz]; exact List.getElem_mem _))
    obtain ⟨a, cp, e, _, _⟩ := hp.shape
    simp only at e hp
    rw [e] at hp c2
    exact ⟨_, _, _, _, c0, by rw [Nat.add_assoc]; exact c1, by rw [Nat.add_assoc]; exact c2, by rw [Nat.add_assoc]; exact c3, a, cp, rfl, hp, hn _ (List.getElem_mem _)⟩
theorem own_far {w : World} {B n size b i : Nat} {e : TypeId} {v z : Value} {xs : List Value} (h : w.ownsRow B e size v n xs) (hb : b < B) : (w.setCell ⟨b, i, none⟩ z).ownsRow B e size v n xs :=
  World.ownsRow.kept h (grown_set w b i z) (by
    by_cases q : v.ownBlock = some b
    · have := (h.lt b q).1; omega
    · exact .inr q)
theorem OwnC.one {W : World} {B : Nat} {u : Value} {c : Ck} (h : OwnC W B u [c]) : ∃ g cap a cp, u = .slice (some ⟨g, 0, none⟩) 1 cap ∧ B ≤ g ∧ W.cell? ⟨g, 0, none⟩ = some (.string c.nm) ∧ W.cell? ⟨g, 1, none⟩ = some (.int .i64 c.ps) ∧ W.cell? ⟨g, 2, none⟩ = some (.slice a c.pf.length cp) ∧ W.cell? ⟨g, 3, none⟩ = some (.int .i64 c.dc) ∧ OwnP W B (.slice a c.pf.length cp) c.pf := by
  obtain ⟨ps, h1, h2, h3⟩ := h
  obtain ⟨p, rfl⟩ : ∃ p, ps = [p] := by
    rcases ps with _ | ⟨p, _ | ⟨q, ps⟩⟩ <;> simp at h1
    exact ⟨p, rfl⟩
  have hP : OwnP W B p c.pf := h3 (c, p) (by simp)
  obtain ⟨a, cp, rfl, _, _⟩ := hP.pts.shape
  have h2' := h2
  obtain ⟨_, h4⟩ := h2
  rcases h4 with ⟨_, h0⟩ | ⟨g, cap, cur, rfl, hg, _⟩
  · simp at h0
  · have hcell := World.ownsRow.cells h2' (g := g) rfl
    have c0 := hcell 0 (.string c.nm) (by simp [flatC, ckCells])
    have c1 := hcell 1 (.int .i64 c.ps) (by simp [flatC, ckCells])
    have c2 := hcell 2 (.slice a c.pf.length cp) (by simp [flatC, ckCells])
    have c3 := hcell 3 (.int .i64 c.dc) (by simp [flatC, ckCells])
    rw [Go.WideShapes.add_plain] at c0 c1 c2 c3
    exact ⟨g, cap, a, cp, rfl, hg, c0, c1, c2, c3, hP⟩
end Go.Proofs.YtmdpdpbkbakidaaGreat

/- The reference of layer 9: Copy, walked. -/
namespace Go.Proofs.YtmdpdpbkbakidaaGreat
open Go.RowKit

theorem wpList_append_run {P : Program} {w : World} {ops : Array Oper} {rest : List Oper} {o : Oper} {a : Act} {Q : Exit → Act → World → Prop} (hgd : o.guard = none) (s x : Operand) (t : TypeId)
    (ho : o.op = .call { callee := .builtin .append, args := #[s, x], argTypes := #[t, t] }) (v x' v' : Value) (w' : World) (hs : a.eval s = v) (hx : a.eval x = x')
    (hr : (Builtin.append_ #[t, t] o.type #[v, x']).run P w = .ok v' w') (h : wpList P ops Q rest (a.put o.dst v') w') : wpList P ops Q (o :: rest) a w := by
  refine wpList_plain hgd fun K hK => ?_
  unfold Oper.wp execOp
  simp only [ho, resolve, invoke, builtin, Sem.run_bind, Sem.run_pure, Result.andThen_ok, List.map_toArray, List.map_cons, List.map_nil, hs, hx, hr]
  exact hK _ _ h
theorem ckCells_one (c : Ck) (p : Value) (hp : p.oneCell' = true) : ∀ u ∈ ckCells c p, u.oneCell' = true := by
  intro u hu
  simp only [ckCells, List.mem_cons, List.not_mem_nil, or_false] at hu
  rcases hu with rfl | rfl | rfl | rfl <;> first | rfl | exact hp
theorem own_oneCell {W : World} {B n size : Nat} {e : TypeId} {v : Value} {xs : List Value} (h : W.ownsRow B e size v n xs) : v.oneCell' = true := by
  rcases h.2 with ⟨rfl, _⟩ | ⟨g, c, cur, rfl, _⟩ <;> rfl
/-- a block of four cells that was laid, as what is appended -/
theorem quad_news (w : World) (x y z u : Value) (t : TypeId) : ∀ j v, [x, y, z, u][j]? = some v → (w.alloc (.cells #[x, y, z, u] t)).cell? ((⟨w.heap.size, 0, none⟩ : Addr).add j) = some v := by
  intro j v hj
  have hlt : j < 4 := by have := (List.getElem?_eq_some_iff.1 hj).1; simpa using this
  rw [Go.WideShapes.add_plain, World.cell?_alloc_new]
  simpa using hj
set_option maxHeartbeats 16000000 in
set_option maxRecDepth 100000 in
theorem refCopy_some (b off n cap : Nat) (l : List Ck) (w : World) (n1 : n ≤ 1000) (hn : Hid (n = l.length)) (hb : b < w.heap.size) (hp : Hid (∀ c ∈ l, c.pf.length ≤ 1000))
    (hc : Hid (∀ j (hj : j < l.length), CkAt w b off j l[j])) :
    Calls Tryz.prog 22 #[.slice (some ⟨b, off, none⟩) n cap] w fun e w' => ∃ u, e = .returned u ∧ OwnC w' w.heap.size u l ∧ Below w.heap.size w w' := by
  obtain ⟨i0, hi0, hz0, hz1, hz2⟩ := info_parts pt_info
  obtain ⟨j0, hj0, gz0, gz1, gz2⟩ := info_parts ck_info
  have hi0 := Lib.hid hi0
  have hz0 := Lib.hid hz0
  have hz1 := Lib.hid hz1
  have hz2 := Lib.hid hz2
  have hj0 := Lib.hid hj0
  have gz0 := Lib.hid gz0
  have gz1 := Lib.hid gz1
  have gz2 := Lib.hid gz2
  go_enter Tryz.func22, Tryz.ntmps22
  go_wp2_with fail
  go_loopw [3, 4] (fun out ii wr => ∃ k : Nat, k ≤ n ∧ ii = .int .i64 k ∧ Hid (OwnC wr w.heap.size out (l.take k)) ∧ Hid (Below w.heap.size w wr)) (fun _ ii _ => n - (intOf ii).toNat)
  case atStart => exact ⟨0, by omega, rfl, ⟨[], rfl, World.ownsRow_nil _ _ _ _, fun q hq => by simp at hq⟩, Below.refl _ _⟩
  case round =>
    obtain ⟨k, hk, rfl, hO, hB⟩ := hrel
    by_cases hlt : k < n
    · have hkl : k < l.length := by rw [← hn.out]; exact hlt
      obtain ⟨a, cp, c0, c1, c2, c3, hP, _⟩ := (hc.out k hkl).below hb hB.out
      have hP := Lib.hid hP
      have hs := hp.out _ (List.getElem_mem hkl)
      have eT : l.take (k + 1) = l.take k ++ [l[k]] := by rw [List.take_succ_eq_append_getElem hkl]
      have eT := Lib.hid eT
      have hT : (l.take k).length = k := by simp; omega
      have hT := Lib.hid hT
      have l1 : (k : Int) < (n : Int) := by omega
      generalize hcc : l[k] = c at *
      have HB0 := hB.out
      have HS := Lib.hid HB0.size
      cases a with
      | none =>
        have hL : c.pf = [] := by
          obtain ⟨a', cp', e, _, hh⟩ := hP.out
          rcases hh with hh | ⟨pb, poff, e2, _⟩
          · exact List.length_eq_zero_iff.1 hh
          · simp only [Value.slice.injEq] at e
            rw [e2] at e; cases e.1
        have hL0 : c.pf.length = 0 := by rw [hL]; rfl
        rw [hL0] at c2
        have AN : ∀ W : World, (Builtin.append_ #[22, 22] 22 #[.slice (some ⟨wr.heap.size + 1, 0, none⟩) 0 0, .slice none 0 cp]).run Tryz.prog W = .ok (.slice (some ⟨wr.heap.size + 1, 0, none⟩) 0 0) W := fun W => run_append_nothing W _ _ _ 43 i0 Tryz.underlying22 hi0.out _ 0 0 (Nat.le_refl _) _ (Src.ofNil W Tryz.underlying22 cp)
        have oc : (Value.slice (some ⟨wr.heap.size + 1, 0, none⟩) 0 0).oneCell' = true := rfl
        clear hP
        generalize hnm : c.nm = nm at *
        generalize hps : c.ps = ps at *
        generalize hdc : c.dc = dc at *
        have OP2 : Hid (OwnP ((wr.alloc (.cells #[.string nm, .int .i64 ps, .slice (some ⟨wr.heap.size + 1, 0, none⟩) 0 0, .int .i64 dc] 24)).alloc (.cells #[] 43)) w.heap.size (.slice (some ⟨wr.heap.size + 1, 0, none⟩) 0 0) c.pf) := by
          have := World.ownsRow_made (e := 43) (size := 2) (base := w.heap.size) (wr.alloc (.cells #[.string nm, .int .i64 ps, .slice (some ⟨wr.heap.size + 1, 0, none⟩) 0 0, .int .i64 dc] 24)) #[] 0 (by have := HB0.size; simp; omega) (Nat.zero_le _) (by simp)
          simp only [World.size_alloc] at this
          exact Lib.hid (by unfold OwnP; rw [hL]; exact this)
        have X2 : Hid (Below wr.heap.size wr ((wr.alloc (.cells #[.string nm, .int .i64 ps, .slice (some ⟨wr.heap.size + 1, 0, none⟩) 0 0, .int .i64 dc] 24)).alloc (.cells #[] 43))) := Lib.hid (bel_alloc (bel_alloc (Below.refl _ _)))
        clear HB0
        have FN : Hid (∀ j u, (ckCells c (.slice (some ⟨wr.heap.size + 1, 0, none⟩) 0 0))[j]? = some u → (((wr.alloc (.cells #[.string nm, .int .i64 ps, .slice (some ⟨wr.heap.size + 1, 0, none⟩) 0 0, .int .i64 dc] 24)).alloc (.cells #[] 43)).alloc (.cells #[.string nm, .int .i64 ps, (.slice (some ⟨wr.heap.size + 1, 0, none⟩) 0 0), .int .i64 dc] 24)).cell? ((⟨wr.heap.size + 1 + 1, 0, none⟩ : Addr).add j) = some u) := by
          have := quad_news ((wr.alloc (.cells #[.string nm, .int .i64 ps, .slice (some ⟨wr.heap.size + 1, 0, none⟩) 0 0, .int .i64 dc] 24)).alloc (.cells #[] 43)) (.string nm) (.int .i64 ps) (.slice (some ⟨wr.heap.size + 1, 0, none⟩) 0 0) (.int .i64 dc) 24
          have e : ((wr.alloc (.cells #[.string nm, .int .i64 ps, .slice (some ⟨wr.heap.size + 1, 0, none⟩) 0 0, .int .i64 dc] 24)).alloc (.cells #[] 43)).heap.size = wr.heap.size + 1 + 1 := by simp [World.setCell]
          rw [e] at this
          exact Lib.hid (by rw [← hnm, ← hps, ← hdc] at *; exact this)
        have X3 := X2.out.alloc X2.out.size (.cells #[.string nm, .int .i64 ps, (.slice (some ⟨wr.heap.size + 1, 0, none⟩) 0 0), .int .i64 dc] 24)
        obtain ⟨qs, o1, o2, o3⟩ := hO.out.below X3
        rw [hT.out] at o2
        have OP3 := row_bel OP2.out (bel_alloc (o := .cells #[.string nm, .int .i64 ps, (.slice (some ⟨wr.heap.size + 1, 0, none⟩) 0 0), .int .i64 dc] 24) (Below.refl _ _))
        have BS : Hid (w.heap.size ≤ (((wr.alloc (.cells #[.string nm, .int .i64 ps, .slice (some ⟨wr.heap.size + 1, 0, none⟩) 0 0, .int .i64 dc] 24)).alloc (.cells #[] 43)).alloc (.cells #[.string nm, .int .i64 ps, (.slice (some ⟨wr.heap.size + 1, 0, none⟩) 0 0), .int .i64 dc] 24)).heap.size) := Lib.hid (Nat.le_trans HS.out X3.size)
        have O1 := Lib.hid o1
        have O2 := Lib.hid o2
        have O3 := Lib.hid o3
        have Y3 := Lib.hid X3
        have P3 := Lib.hid OP3
        have OC := Lib.hid oc
        clear o1 o2 o3 X3 OP3 oc X2 OP2
        go_wp2_with (at_builtin; first | (refine wpList_append_run rfl _ _ 22 rfl _ _ _ _ rfl rfl (AN _) ?_) | (refine wpList_append_own_at _ rfl _ _ 49 rfl w.heap.size 24 j0 (.agg #[.string ByteArray.empty, .int .i64 0, .slice none 0 0, .int .i64 0]) 4 56 Tryz.underlying49 hj0.out gz0.out gz1.out gz2.out rfl (by omega) _ _ _ rfl O2.out ⟨wr.heap.size + 1 + 1, 0, none⟩ 1 1 (ckCells c (.slice (some ⟨wr.heap.size + 1, 0, none⟩) 0 0)) rfl rfl FN.out (ckCells_one c (.slice (some ⟨wr.heap.size + 1, 0, none⟩) 0 0) OC.out) ?qd4 ?qd5 BS.out ?_))
        case qd4 => unfold maxLen; omega
        case qd5 => omega
        intro v2 w2 hown hgrow _ hat
        have SN := Lib.hid (OwnC.snoc (c := c) O1.out (by rw [hT.out]; exact O2.out) O3.out hgrow P3.out (by rw [hT.out]; exact hown))
        rw [← eT.out] at SN
        have B2 := Lib.hid ((bel_trans hB.out Y3.out).grown hgrow BS.out (fun q hq => (World.ownsRow.lt O2.out q hq).1))
        clear hown hgrow hat O1 O2 O3 P3 FN
        go_wp2
        go_roundw
        case rel => exact ⟨k + 1, by omega, by go_num, SN, B2⟩
        case measure => simp [intOf]; omega
      | some ad =>
        have NW : Hid (∀ W, Below wr.heap.size wr W → ∀ j u, (flat c.pf)[j]? = some u → W.cell? (ad.add j) = some u) := fun W hW j u hj => by
          have hq := hP.out.below hW
          obtain ⟨a', cp', e, _, hh⟩ := hq
          simp only [Value.slice.injEq] at e
          obtain ⟨rfl, _, rfl⟩ := e
          rcases hh with hh | ⟨pb, poff, e, _, hcl⟩
          · obtain h0 := List.length_eq_zero_iff.1 hh
            rw [h0] at hj; simp [flat] at hj
          · obtain rfl := Option.some.inj e
            obtain ⟨i, hi, ⟨rfl, rfl⟩ | ⟨rfl, rfl⟩⟩ := flat_inv c.pf j u hj
            · rw [Go.WideShapes.add_plain]; exact (hcl i hi).1
            · rw [Go.WideShapes.add_plain, ← Nat.add_assoc]; exact (hcl i hi).2
        have OM : Hid (((wr.alloc (.cells #[.string c.nm, .int .i64 c.ps, .slice (some ad) c.pf.length cp, .int .i64 c.dc] 24)).alloc (.cells #[] 43)).ownsRow w.heap.size 43 2 (.slice (some ⟨wr.heap.size + 1, 0, none⟩) 0 0) 0 []) := by
          have := World.ownsRow_made (e := 43) (size := 2) (base := w.heap.size) (wr.alloc (.cells #[.string c.nm, .int .i64 c.ps, .slice (some ad) c.pf.length cp, .int .i64 c.dc] 24)) #[] 0 (by have := HB0.size; simp; omega) (Nat.zero_le _) (by simp)
          exact Lib.hid (by simpa using this)
        have F0 := Lib.hid ((Quad.new wr (.string c.nm) (.int .i64 c.ps) (.slice (some ad) c.pf.length cp) (.int .i64 c.dc) 24).alloc (.cells #[] 43))
        have fl := Lib.hid (flat_len c.pf)
        have fo := Lib.hid (flat_one c.pf)
        clear HB0 hP
        generalize hL : c.pf.length = L at *
        generalize hnm : c.nm = nm at *
        generalize hps : c.ps = ps at *
        generalize hdc : c.dc = dc at *
        go_wp2_with (at_builtin; refine wpList_append_own_at _ rfl _ _ 22 rfl w.heap.size 43 i0 (.agg #[.int .i64 0, .int .i64 0]) 2 16 Tryz.underlying22 hi0.out hz0.out hz1.out hz2.out rfl (by omega) _ _ _ rfl OM.out ad L cp (flat c.pf) rfl ?qc1 ?qc2 ?qc3 ?qc4 ?qc5 ?qc6 ?_)
        case qc1 => exact fl.out
        case qc2 => exact NW.out _ (bel_alloc (bel_alloc (Below.refl _ _)))
        case qc3 => exact fo.out
        case qc4 => rw [Nat.zero_add]; unfold maxLen; omega
        case qc5 => rw [Nat.zero_add]; omega
        case qc6 => have := HS.out; simp; omega
        intro v0 w1 hown hgrow hnil hat
        obtain ⟨g', cap', hv0⟩ : ∃ g' cap', v0 = .slice (some ⟨g', 0, none⟩) L cap' := by
          rcases hown.2 with ⟨h0, _⟩ | ⟨g', cap', _, h0, _⟩
          · exact absurd h0 (by simpa using hnil)
          · exact ⟨g', cap', by simpa using h0⟩
        subst hv0
        clear hnil
        have hvb : (Value.slice (some ⟨g', 0, none⟩) L cap').ownBlock ≠ some wr.heap.size := by
          rcases hat with hat | hat
          · rw [hat]; simp [Value.ownBlock]
          · rw [hat]; simp; omega
        have F1 := Lib.hid (F0.out.grown hgrow (by simp [Value.ownBlock]))
        have X1 := Lib.hid ((bel_alloc (bel_alloc (Below.refl _ _)) : Below wr.heap.size wr _).grown hgrow (by simp; omega) (by intro q hq; simp [Value.ownBlock] at hq; omega))
        have OP : Hid (OwnP w1 w.heap.size (.slice (some ⟨g', 0, none⟩) L cap') c.pf) := Lib.hid (by unfold OwnP; rw [hL]; simpa using hown)
        have oc := own_oneCell hown
        clear hown hgrow hat F0 OM NW fl fo
        obtain ⟨f0, f1, f2, f3, f4, f5⟩ := F1.out
        have f42 := f4 2 (by omega)
        obtain ⟨g0, g1, g2, g3, _, _⟩ := F1.out.set2 (.slice (some ⟨g', 0, none⟩) L cap')
        have OP2 : Hid (OwnP (w1.setCell ⟨wr.heap.size, 2, none⟩ (.slice (some ⟨g', 0, none⟩) L cap')) w.heap.size (.slice (some ⟨g', 0, none⟩) L cap') c.pf) := Lib.hid (World.ownsRow.kept OP.out (grown_set w1 wr.heap.size 2 (.slice (some ⟨g', 0, none⟩) L cap')) (.inr hvb))
        have X2 := Lib.hid (X1.out.setCell (p := ⟨wr.heap.size, 2, none⟩) (Nat.le_refl _) (.slice (some ⟨g', 0, none⟩) L cap'))
        clear f4
        have FN : Hid (∀ j u, (ckCells c (.slice (some ⟨g', 0, none⟩) L cap'))[j]? = some u → ((w1.setCell ⟨wr.heap.size, 2, none⟩ (.slice (some ⟨g', 0, none⟩) L cap')).alloc (.cells #[.string nm, .int .i64 ps, (.slice (some ⟨g', 0, none⟩) L cap'), .int .i64 dc] 24)).cell? ((⟨w1.heap.size, 0, none⟩ : Addr).add j) = some u) := by
          have := quad_news (w1.setCell ⟨wr.heap.size, 2, none⟩ (.slice (some ⟨g', 0, none⟩) L cap')) (.string nm) (.int .i64 ps) (.slice (some ⟨g', 0, none⟩) L cap') (.int .i64 dc) 24
          have e : (w1.setCell ⟨wr.heap.size, 2, none⟩ (.slice (some ⟨g', 0, none⟩) L cap')).heap.size = w1.heap.size := by simp [World.setCell]
          rw [e] at this
          exact Lib.hid (by rw [← hnm, ← hps, ← hdc] at *; exact this)
        have X3 := X2.out.alloc X2.out.size (.cells #[.string nm, .int .i64 ps, (.slice (some ⟨g', 0, none⟩) L cap'), .int .i64 dc] 24)
        obtain ⟨qs, o1, o2, o3⟩ := hO.out.below X3
        rw [hT.out] at o2
        have OP3 := row_bel OP2.out (bel_alloc (o := .cells #[.string nm, .int .i64 ps, (.slice (some ⟨g', 0, none⟩) L cap'), .int .i64 dc] 24) (Below.refl _ _))
        have BS : Hid (w.heap.size ≤ ((w1.setCell ⟨wr.heap.size, 2, none⟩ (.slice (some ⟨g', 0, none⟩) L cap')).alloc (.cells #[.string nm, .int .i64 ps, (.slice (some ⟨g', 0, none⟩) L cap'), .int .i64 dc] 24)).heap.size) := Lib.hid (Nat.le_trans HS.out X3.size)
        have O1 := Lib.hid o1
        have O2 := Lib.hid o2
        have O3 := Lib.hid o3
        have Y3 := Lib.hid X3
        have P3 := Lib.hid OP3
        have OC := Lib.hid oc
        clear o1 o2 o3 X3 OP3 oc X1 X2 OP OP2 F1
        go_wp2_with (at_builtin; refine wpList_append_own_at _ rfl _ _ 49 rfl w.heap.size 24 j0 (.agg #[.string ByteArray.empty, .int .i64 0, .slice none 0 0, .int .i64 0]) 4 56 Tryz.underlying49 hj0.out gz0.out gz1.out gz2.out rfl (by omega) _ _ _ rfl O2.out ⟨w1.heap.size, 0, none⟩ 1 1 (ckCells c (.slice (some ⟨g', 0, none⟩) L cap')) rfl rfl FN.out (ckCells_one c (.slice (some ⟨g', 0, none⟩) L cap') OC.out) ?qd4 ?qd5 BS.out ?_)
        case qd4 => unfold maxLen; omega
        case qd5 => omega
        intro v2 w2 hown hgrow _ hat
        have SN := Lib.hid (OwnC.snoc (c := c) O1.out (by rw [hT.out]; exact O2.out) O3.out hgrow P3.out (by rw [hT.out]; exact hown))
        rw [← eT.out] at SN
        have B2 := Lib.hid ((bel_trans hB.out Y3.out).grown hgrow BS.out (fun q hq => (World.ownsRow.lt O2.out q hq).1))
        clear hown hgrow hat O1 O2 O3 P3 FN
        go_wp2
        go_roundw
        case rel => exact ⟨k + 1, by omega, by go_num, SN, B2⟩
        case measure => simp [intOf]; omega
    · obtain rfl : k = n := by omega
      go_wp2
      go_returns
      exact ⟨_, rfl, by have := hO.out; rwa [hn.out, List.take_length] at this, hB.out⟩
theorem refCopy_nil (a : Option Addr) (cap : Nat) (w : World) :
    Calls Tryz.prog 22 #[.slice a 0 cap] w fun e w' => ∃ u, e = .returned u ∧ OwnC w' w.heap.size u [] ∧ Below w.heap.size w w' := by
  have H0 : Hid (OwnC w w.heap.size (.slice none 0 0) []) := ⟨[], rfl, World.ownsRow_nil _ _ _ _, fun q hq => by simp at hq⟩
  go_enter Tryz.func22, Tryz.ntmps22
  go_wp2_with fail
  go_loopw [3, 4] (fun out ii wr => ii = .int .i64 0 ∧ out = .slice none 0 0 ∧ wr = w) (fun _ _ _ => 0)
  case atStart => exact ⟨rfl, rfl, rfl⟩
  case round =>
    obtain ⟨rfl, rfl, rfl⟩ := hrel
    go_wp2
    go_returns
    exact ⟨_, rfl, H0.out, Below.refl _ _⟩
theorem refCopy_any (v : Value) (l : List Ck) (w : World) (hv : Cks w v l) (hl : l.length ≤ 1000) (hp : ∀ c ∈ l, c.pf.length ≤ 1000) :
    Calls Tryz.prog 22 #[v] w fun e w' => ∃ u, e = .returned u ∧ OwnC w' w.heap.size u l ∧ Below w.heap.size w w' := by
  by_cases h0 : 0 < l.length
  · obtain ⟨b, off, cap, rfl, hb, _, hc⟩ := hv.cks h0
    exact refCopy_some b off _ cap l w hl rfl hb hp hc
  · obtain ⟨a, cap, rfl, _⟩ := hv.shape
    obtain rfl : l = [] := List.length_eq_zero_iff.1 (by omega)
    exact refCopy_nil a cap w
/-- the numbers of a cask are in the machine's range -/
def CkW (c : Ck) : Prop := c.nm.size ≤ 9223372036854775807 ∧ (-9223372036854775808 ≤ c.ps ∧ c.ps ≤ 9223372036854775807) ∧ (-9223372036854775808 ≤ c.dc ∧ c.dc ≤ 9223372036854775807)
theorem Cks.wide {W : World} {v : Value} {l : List Ck} (h : Cks W v l) : ∀ c ∈ l, CkW c := by
  intro c hc
  obtain ⟨j, hj, rfl⟩ := List.getElem_of_mem hc
  obtain ⟨b, off, cap, _, _, _, g⟩ := h.cks (by omega)
  obtain ⟨_, _, _, _, _, _, _, r⟩ := g j hj
  exact r
end Go.Proofs.YtmdpdpbkbakidaaGreat

/- The reference of layer 9: Few. -/
namespace Go.Proofs.YtmdpdpbkbakidaaGreat
open Go.RowKit

def fewC (c : Ck) : Bool := decide (c.pf.length ≤ 33) && decide (c.nm.size ≤ 70)
def fewB (l : List Ck) : Bool := l.all fewC && decide (l.length ≤ 33)
set_option maxHeartbeats 8000000 in
theorem refFew_some (b off n cap : Nat) (l : List Ck) (B : Bool) (w : World) (hn : Hid (n = l.length)) (nc : n ≤ 9223372036854775807) (hb : b < w.heap.size)
    (hc : Hid (∀ j (hj : j < l.length), CkAt w b off j l[j]))
    (h1 : Hid ((∃ c ∈ l, fewC c = false) → B = false)) (h2 : Hid ((∀ c ∈ l, fewC c = true) → B = decide (n ≤ 33))) :
    Calls Tryz.prog 20 #[.slice (some ⟨b, off, none⟩) n cap] w fun e w' => e = .returned (.bool B) ∧ w' = w := by
  go_enter Tryz.func20, Tryz.ntmps20
  go_wp2_with fail
  go_loopw [3] (fun ii wr => ∃ k : Nat, k ≤ n ∧ ii = .int .i64 k ∧ wr = w ∧ Hid (∀ j (hj : j < l.length), j < k → fewC l[j] = true)) (fun ii _ => n - (intOf ii).toNat)
  case atStart => exact ⟨0, by omega, rfl, rfl, fun j hj h => by omega⟩
  case round =>
    obtain ⟨k, hk, rfl, rfl, ha⟩ := hrel
    by_cases hlt : k < n
    · have hkl : k < l.length := by rw [← hn.out]; exact hlt
      obtain ⟨a, cp, c0, c1, c2, c3, hP, hs, _⟩ := hc.out k hkl
      have HT : Hid (fewC l[k] = true → ∀ j (hj : j < l.length), j < k + 1 → fewC l[j] = true) := fun h j hj hj2 => by
        by_cases e : j = k
        · subst e; exact h
        · exact ha.out j hj (by omega)
      have HF : Hid (fewC l[k] = false → B = false) := fun h => h1.out ⟨_, List.getElem_mem hkl, h⟩
      have FW := Lib.hid (few_any _ _ wr hP)
      have HP := Lib.hid hP
      have l1 : (k : Int) < (n : Int) := by omega
      generalize l[k] = c at *
      unfold fewC at HT HF
      clear ha h1 h2 hc
      by_cases q1 : c.pf.length ≤ 33
      · rw [decide_eq_true q1] at FW HT HF
        have fe := FW
        clear hP
        by_cases q2 : c.nm.size ≤ 70
        · have d0 : decide ((70 : Int) < (c.nm.size : Int)) = false := decide_eq_false (by omega)
          rw [decide_eq_true q2] at HT
          have hx := Lib.hid (HT.out rfl)
          clear HT HF q1 q2
          generalize c.pf.length = L at *
          go_wp2_with fail
          refine FW.out.mono ?_
          rintro e w1 ⟨rfl, hw⟩
          subst hw
          go_wp2
          go_roundw
          case rel => exact ⟨k + 1, by omega, by go_num, by first | rfl | trivial, hx⟩
          case measure => simp [intOf]; omega
        · have d0 : decide ((70 : Int) < (c.nm.size : Int)) = true := decide_eq_true (by omega)
          rw [decide_eq_false q2] at HF
          obtain rfl := HF.out rfl
          clear HT HF q1 q2
          generalize c.pf.length = L at *
          go_wp2_with fail
          refine FW.out.mono ?_
          rintro e w1 ⟨rfl, hw⟩
          subst hw
          go_wp2
          go_returns
          exact ⟨rfl, rfl⟩
      · rw [decide_eq_false q1] at FW HF
        obtain rfl := HF.out rfl
        clear HT HF q1 hP
        generalize c.pf.length = L at *
        go_wp2_with fail
        refine FW.out.mono ?_
        rintro e w1 ⟨rfl, hw⟩
        subst hw
        go_wp2
        go_returns
        exact ⟨rfl, rfl⟩
    · obtain rfl : k = n := by omega
      have hB := h2.out (fun c hc => by
        obtain ⟨j, hj, rfl⟩ := List.getElem_of_mem hc
        exact ha.out j hj (by rw [hn.out]; exact hj))
      have hB2 : B = decide ((k : Int) ≤ 33) := by rw [hB]; exact decide_eq_decide.2 (by omega)
      clear hB h1 h2 ha hc
      subst hB2
      go_wp2
      go_returns
      exact ⟨by first | rfl | simp, rfl⟩
theorem refFew_nil (a : Option Addr) (cap : Nat) (w : World) :
    Calls Tryz.prog 20 #[.slice a 0 cap] w fun e w' => e = .returned (.bool true) ∧ w' = w := by
  go_enter Tryz.func20, Tryz.ntmps20
  go_wp2_with fail
  go_loopw [3] (fun ii wr => ii = .int .i64 0 ∧ wr = w) (fun _ _ => 0)
  case atStart => exact ⟨rfl, rfl⟩
  case round =>
    obtain ⟨rfl, rfl⟩ := hrel
    go_wp2
    go_returns
    exact ⟨rfl, rfl⟩
theorem refFew_any (v : Value) (l : List Ck) (w : World) (hv : Cks w v l) :
    Calls Tryz.prog 20 #[v] w fun e w' => e = .returned (.bool (fewB l)) ∧ w' = w := by
  by_cases h0 : 0 < l.length
  · obtain ⟨b, off, cap, rfl, hb, hl, hc⟩ := hv.cks h0
    refine refFew_some b off _ cap l _ w rfl (by omega) hb hc (fun ⟨c, hc, h⟩ => ?_) (fun h => ?_)
    · show fewB l = false
      unfold fewB
      rw [show l.all fewC = false by rw [List.all_eq_false]; exact ⟨c, hc, by rw [h]; simp⟩]; rfl
    · show fewB l = _
      unfold fewB
      rw [show l.all fewC = true by rw [List.all_eq_true]; exact h]; simp
  · obtain ⟨a, cap, rfl, _⟩ := hv.shape
    obtain rfl : l = [] := List.length_eq_zero_iff.1 (by omega)
    exact refFew_nil a cap w
end Go.Proofs.YtmdpdpbkbakidaaGreat

/- A cask in a box: copies of it by a closure, and as a list of one. -/
namespace Go.Proofs.YtmdpdpbkbakidaaGreat
open Go.RowKit

/-- a cask in a block of the call's own -/
def CkB (q : Nat) (W : World) (c : Ck) : Prop :=
  ∃ a cap, Quad q W (.string c.nm) (.int .i64 c.ps) (.slice a c.pf.length cap) (.int .i64 c.dc) ∧ Pts W (.slice a c.pf.length cap) c.pf ∧ CkW c
theorem CkB.below {q : Nat} {W W' : World} {c : Ck} (h : CkB q W c) (hb : Below W.heap.size W W') : CkB q W' c := by
  obtain ⟨a, cap, h1, h2, h3⟩ := h
  exact ⟨a, cap, h1.below hb, h2.below hb, h3⟩
theorem CkB.alloc {q : Nat} {W : World} {c : Ck} (h : CkB q W c) (o : Obj) : CkB q (W.alloc o) c := h.below (bel_alloc (Below.refl _ _))
theorem CkB.val {q : Nat} {W : World} {c : Ck} (h : CkB q W c) : ∃ a cap, W.cell? ⟨q, 0, none⟩ = some (.string c.nm) ∧ W.cell? ⟨q, 1, none⟩ = some (.int .i64 c.ps) ∧ W.cell? ⟨q, 2, none⟩ = some (.slice a c.pf.length cap) ∧ W.cell? ⟨q, 3, none⟩ = some (.int .i64 c.dc) ∧ CkV W (.agg #[.string c.nm, .int .i64 c.ps, .slice a c.pf.length cap, .int .i64 c.dc]) c := by
  obtain ⟨a, cap, ⟨h0, h1, h2, h3, _, _⟩, hp, hw⟩ := h
  exact ⟨a, cap, h0, h1, h2, h3, a, cap, rfl, hp, hw⟩
theorem CkB.new {W : World} {c : Ck} {a : Option Addr} {cap : Nat} (hp : Pts W (.slice a c.pf.length cap) c.pf) (hw : CkW c) : CkB W.heap.size (W.alloc (.cells #[.string c.nm, .int .i64 c.ps, .slice a c.pf.length cap, .int .i64 c.dc] 24)) c :=
  ⟨a, cap, Quad.new _ _ _ _ _ _, hp.alloc _, hw⟩
/-- a list of one, laid now -/
theorem cks_one {W : World} {c : Ck} {a : Option Addr} {cap : Nat} (hp : Pts W (.slice a c.pf.length cap) c.pf) (hw : CkW c) : Cks (W.alloc (.cells #[.string c.nm, .int .i64 c.ps, .slice a c.pf.length cap, .int .i64 c.dc] 24)) (.slice (some ⟨W.heap.size, 0, none⟩) 1 1) [c] := by
  obtain ⟨h0, h1, h2, h3, _, h5⟩ := Quad.new W (.string c.nm) (.int .i64 c.ps) (.slice a c.pf.length cap) (.int .i64 c.dc) 24
  refine ⟨_, 1, rfl, by simp, .inr ⟨W.heap.size, 0, rfl, h5, fun j hj => ?_⟩⟩
  obtain rfl : j = 0 := by simpa using hj
  exact ⟨_, _, _, _, h0, h1, h2, h3, a, cap, rfl, hp.alloc _, hw⟩
theorem few_one (c : Ck) : fewB [c] = fewC c := by unfold fewB; simp
theorem fewC_pf {c : Ck} (h : fewC c = true) : c.pf.length ≤ 33 ∧ c.nm.size ≤ 70 := by
  unfold fewC at h; simpa using h
end Go.Proofs.YtmdpdpbkbakidaaGreat

/- A slice that reads as a list of integers. -/
namespace Go.Proofs.YtmdpdpbkbakidaaGreat
open Go.RowKit

def Nums (w : World) (v : Value) (zs : List Int) : Prop :=
  ∃ a cap, v = .slice a zs.length cap ∧ (zs.length ≤ cap ∧ cap ≤ 9223372036854775807) ∧
    (zs.length = 0 ∨ ∃ b off, a = some ⟨b, off, none⟩ ∧ b < w.heap.size ∧ ∀ j, j < zs.length → w.cell? ⟨b, off + j, none⟩ = some (.int .i64 (zs.getD j 0)))
theorem Nums.below {w w' : World} {v : Value} {zs : List Int} (h : Nums w v zs) (hb : Below w.heap.size w w') : Nums w' v zs := by
  obtain ⟨a, cap, rfl, hl, h | ⟨b, off, rfl, hlt, hc⟩⟩ := h
  · exact ⟨a, cap, rfl, hl, .inl h⟩
  · exact ⟨_, cap, rfl, hl, .inr ⟨b, off, rfl, Nat.lt_of_lt_of_le hlt hb.size, fun j hj => by rw [(bcell hb).1 _ _ hlt]; exact hc j hj⟩⟩
theorem sum_next (zs : List Int) (k : Nat) (hk : k < zs.length) : (zs.take (k + 1)).sum = (zs.take k).sum + zs.getD k 0 := by
  rw [List.take_succ_eq_append_getElem hk, List.sum_append, List.getD_eq_getElem?_getD, List.getElem?_eq_getElem hk]
  simp
theorem all_next (p : Int → Bool) (zs : List Int) (k : Nat) (hk : k < zs.length) : (zs.take (k + 1)).all p = ((zs.take k).all p && p (zs.getD k 0)) := by
  rw [List.take_succ_eq_append_getElem hk, List.all_append, List.getD_eq_getElem?_getD, List.getElem?_eq_getElem hk]
  simp
theorem all_not (p : Int → Bool) (zs : List Int) (k : Nat) (hk : k < zs.length) (h : p (zs.getD k 0) = false) : zs.all p = false := by
  rw [Bool.eq_false_iff]
  intro ha
  rw [List.all_eq_true] at ha
  rw [List.getD_eq_getElem?_getD, List.getElem?_eq_getElem hk, Option.getD_some] at h
  rw [ha _ (List.getElem_mem hk)] at h
  cases h
end Go.Proofs.YtmdpdpbkbakidaaGreat

/- The reference of layer 9: IsName, Check, Few, SameCask. -/
namespace Go.Proofs.YtmdpdpbkbakidaaGreat
open Go.RowKit

set_option maxHeartbeats 8000000 in
set_option maxRecDepth 100000 in
theorem refIsName_core (s : ByteArray) (B : Bool) (w : World) (hs : s.size ≤ 9223372036854775807)
    (h1 : Hid (s.data.toList.all nmC = false → B = false)) (h2 : Hid (s.data.toList.all nmC = true → B = (decide (1 ≤ s.size) && decide (s.size ≤ 64)))) :
    Calls Tryz.prog 66 #[.string s] w fun e w' => e = .returned (.bool B) ∧ w' = w := by
  go_enter Tryz.func66, Tryz.ntmps66
  go_wp2_with fail
  go_loopw [3] (fun ii wr => ∃ i : Nat, i ≤ s.size ∧ ii = .int .i64 i ∧ wr = w ∧ Hid ((s.data.toList.take i).all nmC = true)) (fun ii _ => s.size - (intOf ii).toNat)
  case atStart => exact ⟨0, by omega, rfl, rfl, rfl⟩
  case round =>
    obtain ⟨i, hi, rfl, rfl, ha⟩ := hrel
    by_cases hlt : i < s.size
    · have cs : (97 ≤ s[i].toNat ∧ s[i].toNat ≤ 122) ∨ (65 ≤ s[i].toNat ∧ s[i].toNat ≤ 90) ∨ (48 ≤ s[i].toNat ∧ s[i].toNat ≤ 57) ∨ (45 ≤ s[i].toNat ∧ s[i].toNat ≤ 45) ∨ (46 ≤ s[i].toNat ∧ s[i].toNat ≤ 46) ∨ (0 ≤ s[i].toNat ∧ s[i].toNat ≤ 44) ∨ (47 ≤ s[i].toNat ∧ s[i].toNat ≤ 47) ∨ (58 ≤ s[i].toNat ∧ s[i].toNat ≤ 64) ∨ (91 ≤ s[i].toNat ∧ s[i].toNat ≤ 96) ∨ (123 ≤ s[i].toNat ∧ s[i].toNat ≤ 255) := by
        have := s[i].toNat_lt
        omega
      have HT : Hid (nmC s[i] = true → (s.data.toList.take (i + 1)).all nmC = true) := fun h => by show _ = _; rw [take_snoc s i hlt, all_snoc, ha.out, h]; rfl
      have HF : Hid (nmC s[i] = false → B = false) := fun h => h1.out (all_take s i hlt h)
      clear ha h1 h2
      rcases cs with cs | cs | cs | cs | cs | cs | cs | cs | cs | cs
      · have hx := Lib.hid (HT.out ((nmC_iff _).2 (by omega)))
        clear HT HF
        have za0 : decide ((97 : Int) ≤ (s[i].toNat : Int)) = true := decide_eq_true (by omega)
        have za1 : decide ((s[i].toNat : Int) ≤ 122) = true := decide_eq_true (by omega)
        have zb0 : decide ((65 : Int) ≤ (s[i].toNat : Int)) = true := decide_eq_true (by omega)
        have zb1 : decide ((s[i].toNat : Int) ≤ 90) = false := decide_eq_false (by omega)
        have zc0 : decide ((48 : Int) ≤ (s[i].toNat : Int)) = true := decide_eq_true (by omega)
        have zc1 : decide ((s[i].toNat : Int) ≤ 57) = false := decide_eq_false (by omega)
        have ze : ((s[i].toNat : Int) == 45) = false := by simp only [beq_eq_false_iff_ne, ne_eq]; omega
        have zf : ((s[i].toNat : Int) == 46) = false := by simp only [beq_eq_false_iff_ne, ne_eq]; omega
        clear cs
        go_wp2
        go_roundw
        case rel => exact ⟨i + 1, by omega, by go_num, by first | rfl | trivial, hx⟩
        case measure => simp [intOf]; omega
      · have hx := Lib.hid (HT.out ((nmC_iff _).2 (by omega)))
        clear HT HF
        have za0 : decide ((97 : Int) ≤ (s[i].toNat : Int)) = false := decide_eq_false (by omega)
        have za1 : decide ((s[i].toNat : Int) ≤ 122) = true := decide_eq_true (by omega)
        have zb0 : decide ((65 : Int) ≤ (s[i].toNat : Int)) = true := decide_eq_true (by omega)
        have zb1 : decide ((s[i].toNat : Int) ≤ 90) = true := decide_eq_true (by omega)
        have zc0 : decide ((48 : Int) ≤ (s[i].toNat : Int)) = true := decide_eq_true (by omega)
        have zc1 : decide ((s[i].toNat : Int) ≤ 57) = false := decide_eq_false (by omega)
        have ze : ((s[i].toNat : Int) == 45) = false := by simp only [beq_eq_false_iff_ne, ne_eq]; omega
        have zf : ((s[i].toNat : Int) == 46) = false := by simp only [beq_eq_false_iff_ne, ne_eq]; omega
        clear cs
        go_wp2
        go_roundw
        case rel => exact ⟨i + 1, by omega, by go_num, by first | rfl | trivial, hx⟩
        case measure => simp [intOf]; omega
      · have hx := Lib.hid (HT.out ((nmC_iff _).2 (by omega)))
        clear HT HF
        have za0 : decide ((97 : Int) ≤ (s[i].toNat : Int)) = false := decide_eq_false (by omega)
        have za1 : decide ((s[i].toNat : Int) ≤ 122) = true := decide_eq_true (by omega)
        have zb0 : decide ((65 : Int) ≤ (s[i].toNat : Int)) = false := decide_eq_false (by omega)
        have zb1 : decide ((s[i].toNat : Int) ≤ 90) = true := decide_eq_true (by omega)
        have zc0 : decide ((48 : Int) ≤ (s[i].toNat : Int)) = true := decide_eq_true (by omega)
        have zc1 : decide ((s[i].toNat : Int) ≤ 57) = true := decide_eq_true (by omega)
        have ze : ((s[i].toNat : Int) == 45) = false := by simp only [beq_eq_false_iff_ne, ne_eq]; omega
        have zf : ((s[i].toNat : Int) == 46) = false := by simp only [beq_eq_false_iff_ne, ne_eq]; omega
        clear cs
        go_wp2
        go_roundw
        case rel => exact ⟨i + 1, by omega, by go_num, by first | rfl | trivial, hx⟩
        case measure => simp [intOf]; omega
      · have hx := Lib.hid (HT.out ((nmC_iff _).2 (by omega)))
        clear HT HF
        have za0 : decide ((97 : Int) ≤ (s[i].toNat : Int)) = false := decide_eq_false (by omega)
        have za1 : decide ((s[i].toNat : Int) ≤ 122) = true := decide_eq_true (by omega)
        have zb0 : decide ((65 : Int) ≤ (s[i].toNat : Int)) = false := decide_eq_false (by omega)
        have zb1 : decide ((s[i].toNat : Int) ≤ 90) = true := decide_eq_true (by omega)
        have zc0 : decide ((48 : Int) ≤ (s[i].toNat : Int)) = false := decide_eq_false (by omega)
        have zc1 : decide ((s[i].toNat : Int) ≤ 57) = true := decide_eq_true (by omega)
        have ze : ((s[i].toNat : Int) == 45) = true := by simp only [beq_iff_eq]; omega
        have zf : ((s[i].toNat : Int) == 46) = false := by simp only [beq_eq_false_iff_ne, ne_eq]; omega
        clear cs
        go_wp2
        go_roundw
        case rel => exact ⟨i + 1, by omega, by go_num, by first | rfl | trivial, hx⟩
        case measure => simp [intOf]; omega
      · have hx := Lib.hid (HT.out ((nmC_iff _).2 (by omega)))
        clear HT HF
        have za0 : decide ((97 : Int) ≤ (s[i].toNat : Int)) = false := decide_eq_false (by omega)
        have za1 : decide ((s[i].toNat : Int) ≤ 122) = true := decide_eq_true (by omega)
        have zb0 : decide ((65 : Int) ≤ (s[i].toNat : Int)) = false := decide_eq_false (by omega)
        have zb1 : decide ((s[i].toNat : Int) ≤ 90) = true := decide_eq_true (by omega)
        have zc0 : decide ((48 : Int) ≤ (s[i].toNat : Int)) = false := decide_eq_false (by omega)
        have zc1 : decide ((s[i].toNat : Int) ≤ 57) = true := decide_eq_true (by omega)
        have ze : ((s[i].toNat : Int) == 45) = false := by simp only [beq_eq_false_iff_ne, ne_eq]; omega
        have zf : ((s[i].toNat : Int) == 46) = true := by simp only [beq_iff_eq]; omega
        clear cs
        go_wp2
        go_roundw
        case rel => exact ⟨i + 1, by omega, by go_num, by first | rfl | trivial, hx⟩
        case measure => simp [intOf]; omega
      · obtain rfl := HF.out (by rw [Bool.eq_false_iff, ne_eq, nmC_iff]; omega)
        clear HT HF
        have za0 : decide ((97 : Int) ≤ (s[i].toNat : Int)) = false := decide_eq_false (by omega)
        have za1 : decide ((s[i].toNat : Int) ≤ 122) = true := decide_eq_true (by omega)
        have zb0 : decide ((65 : Int) ≤ (s[i].toNat : Int)) = false := decide_eq_false (by omega)
        have zb1 : decide ((s[i].toNat : Int) ≤ 90) = true := decide_eq_true (by omega)
        have zc0 : decide ((48 : Int) ≤ (s[i].toNat : Int)) = false := decide_eq_false (by omega)
        have zc1 : decide ((s[i].toNat : Int) ≤ 57) = true := decide_eq_true (by omega)
        have ze : ((s[i].toNat : Int) == 45) = false := by simp only [beq_eq_false_iff_ne, ne_eq]; omega
        have zf : ((s[i].toNat : Int) == 46) = false := by simp only [beq_eq_false_iff_ne, ne_eq]; omega
        clear cs
        go_wp2
        go_returns
        exact ⟨rfl, rfl⟩
      · obtain rfl := HF.out (by rw [Bool.eq_false_iff, ne_eq, nmC_iff]; omega)
        clear HT HF
        have za0 : decide ((97 : Int) ≤ (s[i].toNat : Int)) = false := decide_eq_false (by omega)
        have za1 : decide ((s[i].toNat : Int) ≤ 122) = true := decide_eq_true (by omega)
        have zb0 : decide ((65 : Int) ≤ (s[i].toNat : Int)) = false := decide_eq_false (by omega)
        have zb1 : decide ((s[i].toNat : Int) ≤ 90) = true := decide_eq_true (by omega)
        have zc0 : decide ((48 : Int) ≤ (s[i].toNat : Int)) = false := decide_eq_false (by omega)
        have zc1 : decide ((s[i].toNat : Int) ≤ 57) = true := decide_eq_true (by omega)
        have ze : ((s[i].toNat : Int) == 45) = false := by simp only [beq_eq_false_iff_ne, ne_eq]; omega
        have zf : ((s[i].toNat : Int) == 46) = false := by simp only [beq_eq_false_iff_ne, ne_eq]; omega
        clear cs
        go_wp2
        go_returns
        exact ⟨rfl, rfl⟩
      · obtain rfl := HF.out (by rw [Bool.eq_false_iff, ne_eq, nmC_iff]; omega)
        clear HT HF
        have za0 : decide ((97 : Int) ≤ (s[i].toNat : Int)) = false := decide_eq_false (by omega)
        have za1 : decide ((s[i].toNat : Int) ≤ 122) = true := decide_eq_true (by omega)
        have zb0 : decide ((65 : Int) ≤ (s[i].toNat : Int)) = false := decide_eq_false (by omega)
        have zb1 : decide ((s[i].toNat : Int) ≤ 90) = true := decide_eq_true (by omega)
        have zc0 : decide ((48 : Int) ≤ (s[i].toNat : Int)) = true := decide_eq_true (by omega)
        have zc1 : decide ((s[i].toNat : Int) ≤ 57) = false := decide_eq_false (by omega)
        have ze : ((s[i].toNat : Int) == 45) = false := by simp only [beq_eq_false_iff_ne, ne_eq]; omega
        have zf : ((s[i].toNat : Int) == 46) = false := by simp only [beq_eq_false_iff_ne, ne_eq]; omega
        clear cs
        go_wp2
        go_returns
        exact ⟨rfl, rfl⟩
      · obtain rfl := HF.out (by rw [Bool.eq_false_iff, ne_eq, nmC_iff]; omega)
        clear HT HF
        have za0 : decide ((97 : Int) ≤ (s[i].toNat : Int)) = false := decide_eq_false (by omega)
        have za1 : decide ((s[i].toNat : Int) ≤ 122) = true := decide_eq_true (by omega)
        have zb0 : decide ((65 : Int) ≤ (s[i].toNat : Int)) = true := decide_eq_true (by omega)
        have zb1 : decide ((s[i].toNat : Int) ≤ 90) = false := decide_eq_false (by omega)
        have zc0 : decide ((48 : Int) ≤ (s[i].toNat : Int)) = true := decide_eq_true (by omega)
        have zc1 : decide ((s[i].toNat : Int) ≤ 57) = false := decide_eq_false (by omega)
        have ze : ((s[i].toNat : Int) == 45) = false := by simp only [beq_eq_false_iff_ne, ne_eq]; omega
        have zf : ((s[i].toNat : Int) == 46) = false := by simp only [beq_eq_false_iff_ne, ne_eq]; omega
        clear cs
        go_wp2
        go_returns
        exact ⟨rfl, rfl⟩
      · obtain rfl := HF.out (by rw [Bool.eq_false_iff, ne_eq, nmC_iff]; omega)
        clear HT HF
        have za0 : decide ((97 : Int) ≤ (s[i].toNat : Int)) = true := decide_eq_true (by omega)
        have za1 : decide ((s[i].toNat : Int) ≤ 122) = false := decide_eq_false (by omega)
        have zb0 : decide ((65 : Int) ≤ (s[i].toNat : Int)) = true := decide_eq_true (by omega)
        have zb1 : decide ((s[i].toNat : Int) ≤ 90) = false := decide_eq_false (by omega)
        have zc0 : decide ((48 : Int) ≤ (s[i].toNat : Int)) = true := decide_eq_true (by omega)
        have zc1 : decide ((s[i].toNat : Int) ≤ 57) = false := decide_eq_false (by omega)
        have ze : ((s[i].toNat : Int) == 45) = false := by simp only [beq_eq_false_iff_ne, ne_eq]; omega
        have zf : ((s[i].toNat : Int) == 46) = false := by simp only [beq_eq_false_iff_ne, ne_eq]; omega
        clear cs
        go_wp2
        go_returns
        exact ⟨rfl, rfl⟩
    · obtain rfl : i = s.size := by omega
      have ha' := ha.out
      rw [take_all s s.size (Nat.le_refl _)] at ha'
      have hB := h2.out ha'
      clear ha' h1 h2 ha
      by_cases g1 : 1 ≤ s.size
      · by_cases g2 : s.size ≤ 64
        · obtain rfl : B = true := by rw [hB]; simp [g1, g2]
          have d0 : decide ((1 : Int) ≤ (s.size : Int)) = true := decide_eq_true (by omega)
          have d1 : decide ((s.size : Int) ≤ 64) = true := decide_eq_true (by omega)
          clear g1 g2 hB hlt hi hs
          go_wp2
          go_returns
          exact ⟨rfl, rfl⟩
        · obtain rfl : B = false := by rw [hB]; simp [g2]
          have d0 : decide ((1 : Int) ≤ (s.size : Int)) = true := decide_eq_true (by omega)
          have d1 : decide ((s.size : Int) ≤ 64) = false := decide_eq_false (by omega)
          clear g1 g2 hB hlt hi hs
          go_wp2
          go_returns
          exact ⟨rfl, rfl⟩
      · obtain rfl : B = false := by rw [hB]; simp [g1]
        have d0 : decide ((1 : Int) ≤ (s.size : Int)) = false := decide_eq_false (by omega)
        clear g1 hB hlt hi hs
        go_wp2
        go_returns
        exact ⟨rfl, rfl⟩
theorem refIsName_any (s : ByteArray) (w : World) (hs : s.size ≤ 9223372036854775807) :
    Calls Tryz.prog 66 #[.string s] w fun e w' => e = .returned (.bool (isNm s)) ∧ w' = w :=
  refIsName_core s _ w hs (fun h => by show _ = _; unfold isNm; rw [h]; rfl) (fun h => by show _ = _; unfold isNm; rw [h]; simp)

set_option maxHeartbeats 4000000 in
theorem refCkk_core (nm : ByteArray) (ps dc : Int) (a : Option Addr) (n cap : Nat) (B : Bool) (E : Int) (w : World)
    (H1 : Hid (∀ W, Calls Tryz.prog 66 #[.string nm] W fun e w' => e = .returned (.bool B) ∧ w' = W))
    (H2 : Hid (∀ W, Below w.heap.size w W → Calls Tryz.prog 49 #[.slice a n cap] W fun e w' => e = .returned (.int .i64 E) ∧ Below W.heap.size W w')) :
    Calls Tryz.prog 48 #[.agg #[.string nm, .int .i64 ps, .slice a n cap, .int .i64 dc]] w fun e w' => e = .returned (.int .i64 (if B = true then (if (ps ≠ 1 ∧ ps ≠ 2) ∨ dc < 0 ∨ 1073741824 < dc then 2 else E) else 4)) ∧ Below w.heap.size w w' := by
  have F0 := Lib.hid (Quad.new w (.string nm) (.int .i64 ps) (.slice a n cap) (.int .i64 dc) 24)
  cases B with
  | false =>
    go_enter Tryz.func48, Tryz.ntmps48
    go_wp2_with fail
    refine (H1.out _).mono ?_
    rintro e w1 ⟨rfl, hw⟩
    subst hw
    go_wp2
    go_returns
    exact ⟨by simp, bel_alloc (Below.refl _ _)⟩
  | true =>
    rw [if_pos rfl]
    have q : (ps = 1 ∨ ps = 2 ∨ (ps ≠ 1 ∧ ps ≠ 2)) := by omega
    have X1 : Hid (Below w.heap.size w (w.alloc (.cells #[.string nm, .int .i64 ps, .slice a n cap, .int .i64 dc] 24))) := Lib.hid (bel_alloc (Below.refl _ _))
    have fin : ∀ (P : Prop) [Decidable P], P → (if P then (2 : Int) else E) = 2 := fun P _ h => if_pos h
    have fin2 : ∀ (P : Prop) [Decidable P], ¬ P → (if P then (2 : Int) else E) = E := fun P _ h => if_neg h
    rcases q with rfl | rfl | ⟨h, h'⟩
    · by_cases d0 : dc < 0
      · rw [fin _ (by omega)]
        have y0 : decide (dc < 0) = true := decide_eq_true d0
        clear F0
        go_enter Tryz.func48, Tryz.ntmps48
        go_wp2_with fail
        refine (H1.out _).mono ?_
        rintro e w1 ⟨rfl, hw⟩
        subst hw
        go_wp2
        go_returns
        exact ⟨rfl, X1.out⟩
      · by_cases d1 : 1073741824 < dc
        · rw [fin _ (by omega)]
          have y0 : decide (dc < 0) = false := decide_eq_false d0
          have y1 : decide (1073741824 < dc) = true := decide_eq_true d1
          clear F0
          go_enter Tryz.func48, Tryz.ntmps48
          go_wp2_with fail
          refine (H1.out _).mono ?_
          rintro e w1 ⟨rfl, hw⟩
          subst hw
          go_wp2
          go_returns
          exact ⟨rfl, X1.out⟩
        · rw [fin2 _ (by omega)]
          have y0 : decide (dc < 0) = false := decide_eq_false d0
          have y1 : decide (1073741824 < dc) = false := decide_eq_false d1
          clear F0
          go_enter Tryz.func48, Tryz.ntmps48
          go_wp2_with fail
          refine (H1.out _).mono ?_
          rintro e w1 ⟨rfl, hw⟩
          subst hw
          go_wp2_with fail
          refine (H2.out _ X1.out).mono ?_
          rintro e w2 ⟨rfl, gg⟩
          replace X1 := Lib.hid (bel_trans X1.out gg); clear gg
          go_wp2
          go_returns
          exact ⟨rfl, X1.out⟩
    · by_cases d0 : dc < 0
      · rw [fin _ (by omega)]
        have y0 : decide (dc < 0) = true := decide_eq_true d0
        clear F0
        go_enter Tryz.func48, Tryz.ntmps48
        go_wp2_with fail
        refine (H1.out _).mono ?_
        rintro e w1 ⟨rfl, hw⟩
        subst hw
        go_wp2
        go_returns
        exact ⟨rfl, X1.out⟩
      · by_cases d1 : 1073741824 < dc
        · rw [fin _ (by omega)]
          have y0 : decide (dc < 0) = false := decide_eq_false d0
          have y1 : decide (1073741824 < dc) = true := decide_eq_true d1
          clear F0
          go_enter Tryz.func48, Tryz.ntmps48
          go_wp2_with fail
          refine (H1.out _).mono ?_
          rintro e w1 ⟨rfl, hw⟩
          subst hw
          go_wp2
          go_returns
          exact ⟨rfl, X1.out⟩
        · rw [fin2 _ (by omega)]
          have y0 : decide (dc < 0) = false := decide_eq_false d0
          have y1 : decide (1073741824 < dc) = false := decide_eq_false d1
          clear F0
          go_enter Tryz.func48, Tryz.ntmps48
          go_wp2_with fail
          refine (H1.out _).mono ?_
          rintro e w1 ⟨rfl, hw⟩
          subst hw
          go_wp2_with fail
          refine (H2.out _ X1.out).mono ?_
          rintro e w2 ⟨rfl, gg⟩
          replace X1 := Lib.hid (bel_trans X1.out gg); clear gg
          go_wp2
          go_returns
          exact ⟨rfl, X1.out⟩
    · rw [fin _ (by omega)]
      have z1 : (ps != 1) = true := by simpa using h
      have z2 : (ps != 2) = true := by simpa using h'
      clear F0
      go_enter Tryz.func48, Tryz.ntmps48
      go_wp2_with fail
      refine (H1.out _).mono ?_
      rintro e w1 ⟨rfl, hw⟩
      subst hw
      go_wp2
      go_returns
      exact ⟨rfl, X1.out⟩
theorem refCkk_any (v : Value) (c : Ck) (w : World) (hv : CkV w v c) :
    Calls Tryz.prog 48 #[v] w fun e w' => e = .returned (.int .i64 (ccE c)) ∧ Below w.heap.size w w' := by
  obtain ⟨a, cap, rfl, hp, hs, _⟩ := hv
  exact refCkk_core c.nm c.ps c.dc a _ cap (isNm c.nm) (ckE c.pf) w (Lib.hid fun W => refIsName_any c.nm W hs) (Lib.hid fun W hW => refCk_any _ c.pf W (hp.below hW))

end Go.Proofs.YtmdpdpbkbakidaaGreat

/- The reference of layer 8: Bung. -/
namespace Go.Proofs.YtmdpdpbkbakidaaGreat
open Go.RowKit

end Go.Proofs.YtmdpdpbkbakidaaGreat

/- What a cask without a fault is. -/
namespace Go.Proofs.YtmdpdpbkbakidaaGreat

theorem ccE_pf {c : Ck} (h : ccE c = 0) : isNm c.nm = true ∧ (c.ps = 1 ∨ c.ps = 2) ∧ (0 ≤ c.dc ∧ c.dc ≤ 1073741824) ∧ RP c.pf := by
  unfold ccE at h
  split at h
  · rename_i g
    split at h
    · omega
    · exact ⟨g, by omega, by omega, (ckE_iff _).1 h⟩
  · omega
end Go.Proofs.YtmdpdpbkbakidaaGreat

/- The reference of layer 9: Radius, Depth. -/
namespace Go.Proofs.YtmdpdpbkbakidaaGreat
open Go.RowKit

/-- the radius of the bung -/
def brQ (c : Ck) : Int := gR c.pf (bg c.pf c.pf.length)
/-- what Depth returns -/
def deQ (c : Ck) : Int := if ccE c = 0 then (if c.ps = 1 then 2 * brQ c else gX c.pf (c.pf.length - 1)) else 0
end Go.Proofs.YtmdpdpbkbakidaaGreat

/- Plain facts on square roots. No program stands in this text. -/
namespace Go.Proofs.YtmdpdpbkbakidaaGreat

theorem sq_mono {a b : Int} (h0 : 0 ≤ a) (h : a ≤ b) : a * a ≤ b * b := Int.mul_le_mul h h h0 (Int.le_trans h0 h)
theorem sq_lt {a b : Int} (h0 : 0 ≤ b) (h : a * a < b * b) : a < b := by
  apply Classical.byContradiction
  intro hn
  have := sq_mono h0 (show b ≤ a by omega)
  omega
theorem sq_le {a b : Int} (h0 : 0 ≤ b) (h : a * a ≤ b * b) : a ≤ b := by
  apply Classical.byContradiction
  intro hn
  have h1 : b + 1 ≤ a := by omega
  have h2 := sq_mono (show 0 ≤ b + 1 by omega) h1
  have h3 : (b + 1) * (b + 1) = b * b + b + b + 1 := by rw [Int.add_mul, Int.mul_add]; omega
  omega
theorem rt_ex (n : Nat) : ∃ r : Nat, (r : Int) * r ≤ n ∧ (n : Int) < (r + 1) * (r + 1) := by
  induction n with
  | zero => exact ⟨0, by decide, by decide⟩
  | succ n ih =>
    obtain ⟨r, h1, h2⟩ := ih
    by_cases h : (n : Int) + 1 < (r + 1) * (r + 1)
    · exact ⟨r, by omega, by push_cast; exact h⟩
    · refine ⟨r + 1, by push_cast; omega, ?_⟩
      push_cast
      have h3 : ((r : Int) + 1 + 1) * (r + 1 + 1) = (r + 1) * (r + 1) + (r + 1) + (r + 1) + 1 := by
        rw [Int.add_mul ((r : Int) + 1), Int.mul_add ((r : Int) + 1)]; omega
      rw [h3]; omega
/-- the root of a number that is not negative, rounded down -/
noncomputable def rt (n : Int) : Int := ((rt_ex n.toNat).choose : Int)
theorem rt_spec (n : Int) (h : 0 ≤ n) : 0 ≤ rt n ∧ rt n * rt n ≤ n ∧ n < (rt n + 1) * (rt n + 1) := by
  have h2 : rt n * rt n ≤ (n.toNat : Int) ∧ (n.toNat : Int) < (rt n + 1) * (rt n + 1) := (rt_ex n.toNat).choose_spec
  have e : (n.toNat : Int) = n := Int.toNat_of_nonneg h
  exact ⟨by unfold rt; omega, Int.le_trans h2.1 (by omega), Int.lt_of_le_of_lt (by omega) h2.2⟩
theorem rt_of {n r : Int} (h0 : 0 ≤ r) (h1 : r * r ≤ n) (h2 : n < (r + 1) * (r + 1)) : rt n = r := by
  have hn : 0 ≤ n := Int.le_trans (Int.mul_nonneg h0 h0) h1
  obtain ⟨g0, g1, g2⟩ := rt_spec n hn
  have a := sq_lt (show 0 ≤ r + 1 by omega) (show rt n * rt n < (r + 1) * (r + 1) by omega)
  have b := sq_lt (show 0 ≤ rt n + 1 by omega) (show r * r < (rt n + 1) * (rt n + 1) by omega)
  omega
theorem rt_mono {m n : Int} (h0 : 0 ≤ m) (h : m ≤ n) : rt m ≤ rt n := by
  obtain ⟨a0, a1, a2⟩ := rt_spec m h0
  obtain ⟨b0, b1, b2⟩ := rt_spec n (by omega)
  have := sq_lt (show 0 ≤ rt n + 1 by omega) (show rt m * rt m < (rt n + 1) * (rt n + 1) by omega)
  omega
theorem rt_sq (k : Int) (h : 0 ≤ k) : rt (k * k) = k := by
  refine rt_of h (Int.le_refl _) ?_
  have : (k + 1) * (k + 1) = k * k + k + k + 1 := by rw [Int.add_mul, Int.mul_add]; omega
  omega
theorem rt_le {n b : Int} (h0 : 0 ≤ n) (hb : 0 ≤ b) (h : n ≤ b * b) : rt n ≤ b := by
  have := rt_mono h0 h
  rw [rt_sq b hb] at this
  exact this
/-- the root, rounded up -/
noncomputable def ce (n : Int) : Int := if rt n * rt n < n then rt n + 1 else rt n
theorem ce_spec (n : Int) (h : 0 ≤ n) : rt n ≤ ce n ∧ ce n ≤ rt n + 1 ∧ n ≤ ce n * ce n ∧ (ce n = rt n ↔ rt n * rt n = n) := by
  obtain ⟨a0, a1, a2⟩ := rt_spec n h
  unfold ce
  by_cases hl : rt n * rt n < n
  · rw [if_pos hl]; exact ⟨by omega, by omega, by omega, by omega, by omega⟩
  · rw [if_neg hl]; exact ⟨by omega, by omega, by omega, by omega, by omega⟩
theorem ce_le {n c : Int} (h : 0 ≤ n) (h0 : 0 ≤ c) (hc : n ≤ c * c) : ce n ≤ c := by
  obtain ⟨a0, a1, a2⟩ := rt_spec n h
  have h1 := rt_le h h0 hc
  unfold ce
  split
  · rename_i hl
    apply Classical.byContradiction
    intro hn
    have : rt n = c := by omega
    rw [this] at hl
    omega
  · exact h1
theorem ce_mono {m n : Int} (h0 : 0 ≤ m) (h : m ≤ n) : ce m ≤ ce n := by
  obtain ⟨b0, b1, b2, _⟩ := ce_spec n (by omega)
  have := (rt_spec n (by omega)).1
  exact ce_le h0 (by omega) (by omega)
theorem ce_sq (k : Int) (h : 0 ≤ k) : ce (k * k) = k := by
  unfold ce
  rw [rt_sq k h, if_neg (by omega)]
theorem rt_fold (n k : Int) (h : 0 ≤ n) (hk : 0 ≤ k) : k * rt n ≤ rt (n * k * k) ∧ rt (n * k * k) ≤ k * ce n := by
  obtain ⟨a0, a1, a2⟩ := rt_spec n h
  obtain ⟨b0, b1, b2, _⟩ := ce_spec n h
  have hkk : 0 ≤ k * k := Int.mul_nonneg hk hk
  have e : ∀ x : Int, k * x * (k * x) = x * x * (k * k) := fun x => by
    rw [Int.mul_comm k x, Int.mul_assoc, Int.mul_assoc, ← Int.mul_assoc k x k, Int.mul_comm k x, Int.mul_assoc]
  have hn : 0 ≤ n * k * k := Int.mul_nonneg (Int.mul_nonneg h hk) hk
  constructor
  · have h1 : k * rt n * (k * rt n) ≤ n * k * k := by
      rw [e, Int.mul_assoc n]
      exact Int.mul_le_mul_of_nonneg_right a1 hkk
    have := rt_mono (Int.mul_nonneg (Int.mul_nonneg hk a0) (Int.mul_nonneg hk a0)) h1
    rw [rt_sq _ (Int.mul_nonneg hk a0)] at this
    exact this
  · refine rt_le hn (Int.mul_nonneg hk (by omega)) ?_
    rw [e, Int.mul_assoc n]
    exact Int.mul_le_mul_of_nonneg_right b2 hkk

/-! ### half chords -/
noncomputable def hcL (r y : Int) : Int := if r < y ∨ y < -r then 0 else rt (r * r - y * y)
noncomputable def hcH (r y : Int) : Int := if r < y ∨ y < -r then 0 else ce (r * r - y * y)
theorem sq_abs {r y : Int} (h : ¬ (r < y ∨ y < -r)) : 0 ≤ r * r - y * y := by
  by_cases h0 : 0 ≤ y
  · have := sq_mono h0 (show y ≤ r by omega); omega
  · have := sq_mono (show 0 ≤ -y by omega) (show -y ≤ r by omega)
    rw [Int.neg_mul_neg] at this; omega
theorem hc_bd (r y : Int) (hr : 0 ≤ r) : 0 ≤ hcL r y ∧ hcL r y ≤ hcH r y ∧ hcH r y ≤ hcL r y + 1 ∧ hcH r y ≤ r := by
  unfold hcL hcH
  by_cases h : r < y ∨ y < -r
  · rw [if_pos h, if_pos h]; omega
  · rw [if_neg h, if_neg h]
    have h0 := sq_abs h
    obtain ⟨a0, a1, a2⟩ := rt_spec _ h0
    obtain ⟨b0, b1, b2, _⟩ := ce_spec _ h0
    refine ⟨a0, b0, b1, ce_le h0 hr ?_⟩
    have : 0 ≤ y * y := by
      by_cases hy : 0 ≤ y
      · exact Int.mul_nonneg hy hy
      · rw [← Int.neg_mul_neg]; exact Int.mul_nonneg (by omega) (by omega)
    omega
theorem hc_neg (r y : Int) : hcL r (-y) = hcL r y ∧ hcH r (-y) = hcH r y := by
  unfold hcL hcH
  rw [Int.neg_mul_neg]
  by_cases h : r < y ∨ y < -r
  · rw [if_pos h, if_pos (by omega), if_pos h, if_pos (by omega)]; exact ⟨rfl, rfl⟩
  · rw [if_neg h, if_neg (by omega), if_neg h, if_neg (by omega)]; exact ⟨rfl, rfl⟩
theorem hc_zero (r : Int) (h : 0 ≤ r) : hcL r 0 = r ∧ hcH r 0 = r := by
  unfold hcL hcH
  rw [if_neg (by omega), if_neg (by omega), Int.mul_zero, Int.sub_zero, rt_sq r h, ce_sq r h]
  exact ⟨rfl, rfl⟩
theorem hc_wider (r s y : Int) (h0 : 0 ≤ r) (h : r ≤ s) : hcL r y ≤ hcL s y ∧ hcH r y ≤ hcH s y := by
  have hs := hc_bd s y (by omega)
  by_cases g : r < y ∨ y < -r
  · have e1 : hcL r y = 0 := by unfold hcL; rw [if_pos g]
    have e2 : hcH r y = 0 := by unfold hcH; rw [if_pos g]
    rw [e1, e2]; omega
  · have g2 : ¬ (s < y ∨ y < -s) := by omega
    have q := sq_abs g
    have m := sq_mono h0 h
    unfold hcL hcH
    rw [if_neg g, if_neg g, if_neg g2, if_neg g2]
    exact ⟨rt_mono q (by omega), ce_mono q (by omega)⟩
theorem hc_further (r x y : Int) (hr : 0 ≤ r) (h0 : 0 ≤ x) (h : x ≤ y) : hcL r y ≤ hcL r x ∧ hcH r y ≤ hcH r x := by
  have hs := hc_bd r x hr
  by_cases g : r < y ∨ y < -r
  · have e1 : hcL r y = 0 := by unfold hcL; rw [if_pos g]
    have e2 : hcH r y = 0 := by unfold hcH; rw [if_pos g]
    rw [e1, e2]; omega
  · have g2 : ¬ (r < x ∨ x < -r) := by omega
    have q := sq_abs g
    have m := sq_mono h0 h
    unfold hcL hcH
    rw [if_neg g, if_neg g, if_neg g2, if_neg g2]
    exact ⟨rt_mono q (by omega), ce_mono q (by omega)⟩
theorem hc_abs (r y : Int) : hcL r y = hcL r (max y (-y)) ∧ hcH r y = hcH r (max y (-y)) := by
  by_cases h : 0 ≤ y
  · rw [show max y (-y) = y by omega]; exact ⟨rfl, rfl⟩
  · rw [show max y (-y) = -y by omega]
    have := hc_neg r y
    exact ⟨this.1.symm, this.2.symm⟩
theorem hc_circle (r y : Int) (h : ¬ (r < y ∨ y < -r)) : hcL r y * hcL r y + y * y ≤ r * r ∧ r * r ≤ hcH r y * hcH r y + y * y := by
  have q := sq_abs h
  obtain ⟨a0, a1, a2⟩ := rt_spec _ q
  obtain ⟨b0, b1, b2, _⟩ := ce_spec _ q
  unfold hcL hcH
  rw [if_neg h, if_neg h]
  omega
end Go.Proofs.YtmdpdpbkbakidaaGreat

/- Plain facts on areas of circles between heights. No program stands in this text. -/
namespace Go.Proofs.YtmdpdpbkbakidaaGreat

/-! ### half chords at a distance: more on them -/
theorem hc_le (r y : Int) (hr : 0 ≤ r) : 0 ≤ hcL r y ∧ hcL r y ≤ hcH r y ∧ hcH r y ≤ r := by
  have := hc_bd r y hr
  omega
/-- the nearer to the centre the greater -/
theorem hc_near (r y z : Int) (hr : 0 ≤ r) (h : max y (-y) ≤ max z (-z)) : hcL r z ≤ hcL r y ∧ hcH r z ≤ hcH r y := by
  rw [(hc_abs r y).1, (hc_abs r y).2, (hc_abs r z).1, (hc_abs r z).2]
  exact hc_further r _ _ hr (by omega) h

/-! ### a strip -/
/-- the bounds of the area of a circle in a strip -/
noncomputable def ofL (r c a b : Int) : Int := (b - a) * min (2 * hcL r (a - c)) (2 * hcL r (b - c))
noncomputable def ofH (r c a b : Int) : Int := (b - a) * (if a ≤ c ∧ c ≤ b then 2 * r else max (2 * hcH r (a - c)) (2 * hcH r (b - c)))
theorem wid_mono {w x y : Int} (hw : 0 ≤ w) (h : x ≤ y) : w * x ≤ w * y := Int.mul_le_mul_of_nonneg_left h hw
theorem of_bd (r c a b : Int) (hr : 0 ≤ r) (h : a ≤ b) : 0 ≤ ofL r c a b ∧ ofL r c a b ≤ ofH r c a b ∧ ofH r c a b ≤ (b - a) * (2 * r) := by
  have h1 := hc_le r (a - c) hr
  have h2 := hc_le r (b - c) hr
  unfold ofL ofH
  refine ⟨Int.mul_nonneg (by omega) (by omega), wid_mono (by omega) ?_, wid_mono (by omega) ?_⟩ <;> split <;> omega
/-- a greater radius -/
theorem of_wider (r s c a b : Int) (hr : 0 ≤ r) (hs : r ≤ s) (h : a ≤ b) : ofL r c a b ≤ ofL s c a b ∧ ofH r c a b ≤ ofH s c a b := by
  have h1 := hc_wider r s (a - c) hr hs
  have h2 := hc_wider r s (b - c) hr hs
  unfold ofL ofH
  refine ⟨wid_mono (by omega) (by omega), wid_mono (by omega) ?_⟩
  split <;> omega
/-- a strip that is cut in two -/
theorem of_cut (r c a m b : Int) (hr : 0 ≤ r) (h1 : a ≤ m) (h2 : m ≤ b) : ofL r c a b ≤ ofL r c a m + ofL r c m b ∧ ofH r c a m + ofH r c m b ≤ ofH r c a b := by
  have ha := hc_le r (a - c) hr
  have hb := hc_le r (b - c) hr
  have hm := hc_le r (m - c) hr
  -- the lesser chord: m is no further from the centre than one of both ends
  have hlow : min (2 * hcL r (a - c)) (2 * hcL r (b - c)) ≤ 2 * hcL r (m - c) := by
    by_cases h : max (m - c) (-(m - c)) ≤ max (a - c) (-(a - c))
    · have := (hc_near r (m - c) (a - c) hr h).1; omega
    · have := (hc_near r (m - c) (b - c) hr (by omega)).1; omega
  have e : ∀ x : Int, (b - a) * x = (m - a) * x + (b - m) * x := fun x => by rw [← Int.add_mul]; congr 1; omega
  constructor
  · unfold ofL
    rw [e]
    have q1 := wid_mono (w := m - a) (by omega) (show min (2 * hcL r (a - c)) (2 * hcL r (b - c)) ≤ min (2 * hcL r (a - c)) (2 * hcL r (m - c)) by omega)
    have q2 := wid_mono (w := b - m) (by omega) (show min (2 * hcL r (a - c)) (2 * hcL r (b - c)) ≤ min (2 * hcL r (m - c)) (2 * hcL r (b - c)) by omega)
    omega
  · unfold ofH
    rw [e]
    have q1 := wid_mono (w := m - a) (by omega) (show (if a ≤ c ∧ c ≤ m then 2 * r else max (2 * hcH r (a - c)) (2 * hcH r (m - c))) ≤ (if a ≤ c ∧ c ≤ b then 2 * r else max (2 * hcH r (a - c)) (2 * hcH r (b - c))) by
      by_cases hc : a ≤ c ∧ c ≤ b
      · rw [if_pos hc]; split <;> omega
      · rw [if_neg hc, if_neg (by omega)]
        by_cases h : max (a - c) (-(a - c)) ≤ max (m - c) (-(m - c))
        · have := (hc_near r (a - c) (m - c) hr h).2; omega
        · have := (hc_near r (b - c) (m - c) hr (by omega)).2; omega)
    have q2 := wid_mono (w := b - m) (by omega) (show (if m ≤ c ∧ c ≤ b then 2 * r else max (2 * hcH r (m - c)) (2 * hcH r (b - c))) ≤ (if a ≤ c ∧ c ≤ b then 2 * r else max (2 * hcH r (a - c)) (2 * hcH r (b - c))) by
      by_cases hc : a ≤ c ∧ c ≤ b
      · rw [if_pos hc]; split <;> omega
      · rw [if_neg hc, if_neg (by omega)]
        by_cases h : max (a - c) (-(a - c)) ≤ max (m - c) (-(m - c))
        · have := (hc_near r (a - c) (m - c) hr h).2; omega
        · have := (hc_near r (b - c) (m - c) hr (by omega)).2; omega)
    omega

/-! ### heights -/
/-- the first error of heights -/
def hB (n : Int) : Bool := decide (0 ≤ n) && decide (n ≤ 200000)
def ascB (l : List Int) : Bool := (List.range (l.length - 1)).all fun i => decide (l.getD i 0 ≤ l.getD (i + 1) 0)
def hcE (l : List Int) : Int := if l.length < 2 then 9 else if 65 < l.length then 8 else if l.all hB = false then 2 else if ascB l = false then 5 else 0
structure HR (l : List Int) : Prop where
  n0 : 2 ≤ l.length
  n1 : l.length ≤ 65
  bd : ∀ i, i < l.length → 0 ≤ l.getD i 0 ∧ l.getD i 0 ≤ 200000
  asc : ∀ i, i + 1 < l.length → l.getD i 0 ≤ l.getD (i + 1) 0
theorem ascB_iff (l : List Int) : ascB l = true ↔ ∀ i, i + 1 < l.length → l.getD i 0 ≤ l.getD (i + 1) 0 := by
  unfold ascB
  rw [List.all_eq_true]
  constructor
  · intro h i hi
    have := h i (List.mem_range.2 (by omega))
    simpa using this
  · intro h i hi
    have := h i (by have := List.mem_range.1 hi; omega)
    simpa using this
theorem allB_iff (l : List Int) : l.all hB = true ↔ ∀ i, i < l.length → 0 ≤ l.getD i 0 ∧ l.getD i 0 ≤ 200000 := by
  rw [List.all_eq_true]
  constructor
  · intro h i hi
    have := h (l.getD i 0) (by rw [List.getD_eq_getElem?_getD, List.getElem?_eq_getElem hi]; exact List.getElem_mem hi)
    simpa [hB] using this
  · intro h x hx
    obtain ⟨i, hi, rfl⟩ := List.getElem_of_mem hx
    have := h i hi
    rw [List.getD_eq_getElem?_getD, List.getElem?_eq_getElem hi] at this
    simpa [hB] using this
theorem hcE_iff (l : List Int) : hcE l = 0 ↔ HR l := by
  unfold hcE
  constructor
  · intro h
    split at h
    · omega
    · split at h
      · omega
      · split at h
        · omega
        · split at h
          · omega
          · rename_i g1 g2 g3 g4
            exact ⟨by omega, by omega, (allB_iff l).1 (by simpa using g3), (ascB_iff l).1 (by simpa using g4)⟩
  · intro h
    rw [if_neg (by have := h.n0; omega), if_neg (by have := h.n1; omega), if_neg (by rw [(allB_iff l).2 h.bd]; simp), if_neg (by rw [(ascB_iff l).2 h.asc]; simp)]

/-! ### sums over strips -/
noncomputable def prL (r c : Int) (l : List Int) : Nat → Int
  | 0 => 0
  | k + 1 => prL r c l k + ofL r c (l.getD k 0) (l.getD (k + 1) 0)
noncomputable def prH (r c : Int) (l : List Int) : Nat → Int
  | 0 => 0
  | k + 1 => prH r c l k + ofH r c (l.getD k 0) (l.getD (k + 1) 0)
theorem pr_bd {r c : Int} {l : List Int} (hr : 0 ≤ r) (h : HR l) (k : Nat) (hk : k < l.length) : 0 ≤ prL r c l k ∧ prL r c l k ≤ prH r c l k ∧ prH r c l k ≤ (l.getD k 0 - l.getD 0 0) * (2 * r) := by
  induction k with
  | zero => simp [prL, prH]
  | succ k ih =>
    obtain ⟨i1, i2, i3⟩ := ih (by omega)
    obtain ⟨b1, b2, b3⟩ := of_bd r c _ _ hr (h.asc k hk)
    have e : (l.getD (k + 1) 0 - l.getD 0 0) * (2 * r) = (l.getD k 0 - l.getD 0 0) * (2 * r) + (l.getD (k + 1) 0 - l.getD k 0) * (2 * r) := by
      rw [← Int.add_mul]; congr 1; omega
    rw [e]
    show 0 ≤ prL r c l k + _ ∧ prL r c l k + _ ≤ prH r c l k + _ ∧ prH r c l k + _ ≤ _
    omega
theorem pr_le {r c : Int} {l : List Int} (hr : 0 ≤ r) (hr2 : r ≤ 100000) (h : HR l) (k : Nat) (hk : k < l.length) : 0 ≤ prL r c l k ∧ prL r c l k ≤ prH r c l k ∧ prH r c l k ≤ 40000000000 := by
  obtain ⟨b1, b2, b3⟩ := pr_bd (c := c) hr h k hk
  have q1 := h.bd k hk
  have q2 := h.bd 0 (by omega)
  have q3 : (l.getD k 0 - l.getD 0 0) * (2 * r) ≤ 200000 * 200000 := by
    by_cases hn : 0 ≤ l.getD k 0 - l.getD 0 0
    · exact Int.mul_le_mul (by omega) (by omega) (by omega) (by omega)
    · have := Int.mul_le_mul_of_nonneg_right (show l.getD k 0 - l.getD 0 0 ≤ 0 by omega) (show 0 ≤ 2 * r by omega)
      omega
  omega
theorem pr_wider {r s c : Int} {l : List Int} (hr : 0 ≤ r) (hs : r ≤ s) (h : HR l) (k : Nat) (hk : k < l.length) : prL r c l k ≤ prL s c l k ∧ prH r c l k ≤ prH s c l k := by
  induction k with
  | zero => simp [prL, prH]
  | succ k ih =>
    have i := ih (by omega)
    have b := of_wider r s c _ _ hr hs (h.asc k hk)
    show prL r c l k + _ ≤ prL s c l k + _ ∧ prH r c l k + _ ≤ prH s c l k + _
    omega
/-- sums look at the first heights alone -/
theorem pr_same {r c : Int} {l m : List Int} (k : Nat) (h : ∀ i, i ≤ k → l.getD i 0 = m.getD i 0) : prL r c l k = prL r c m k ∧ prH r c l k = prH r c m k := by
  induction k with
  | zero => simp [prL, prH]
  | succ k ih =>
    have i := ih (fun i hi => h i (by omega))
    unfold prL prH
    rw [i.1, i.2, h k (by omega), h (k + 1) (by omega)]
    exact ⟨rfl, rfl⟩
/-- sums from a height on -/
theorem pr_from {r c : Int} {l m : List Int} (k : Nat) (n : Nat) (h : ∀ i, i ≤ n → m.getD i 0 = l.getD (k + i) 0) : prL r c l (k + n) = prL r c l k + prL r c m n ∧ prH r c l (k + n) = prH r c l k + prH r c m n := by
  induction n with
  | zero => simp [prL, prH]
  | succ n ih =>
    have i := ih (fun i hi => h i (by omega))
    show prL r c l (k + n) + ofL r c (l.getD (k + n) 0) (l.getD (k + n + 1) 0) = prL r c l k + (prL r c m n + ofL r c (m.getD n 0) (m.getD (n + 1) 0)) ∧ prH r c l (k + n) + ofH r c (l.getD (k + n) 0) (l.getD (k + n + 1) 0) = prH r c l k + (prH r c m n + ofH r c (m.getD n 0) (m.getD (n + 1) 0))
    rw [h n (by omega), h (n + 1) (by omega), i.1, i.2, show k + (n + 1) = k + n + 1 by omega]
    omega
/-- m has, between each two heights of l, one more -/
theorem pr_finer {r c : Int} {l m : List Int} (hr : 0 ≤ r) (h : HR l) (h1 : ∀ i, i < l.length → m.getD (2 * i) 0 = l.getD i 0) (h2 : ∀ i, i + 1 < l.length → l.getD i 0 ≤ m.getD (2 * i + 1) 0 ∧ m.getD (2 * i + 1) 0 ≤ l.getD (i + 1) 0) (k : Nat) (hk : k < l.length) :
    prL r c l k ≤ prL r c m (2 * k) ∧ prH r c m (2 * k) ≤ prH r c l k := by
  induction k with
  | zero => simp [prL, prH]
  | succ k ih =>
    have i := ih (by omega)
    have g := h2 k hk
    have b := of_cut r c _ _ _ hr g.1 g.2
    have e0 := h1 k (by omega)
    have e1 := h1 (k + 1) hk
    rw [show 2 * (k + 1) = 2 * k + 1 + 1 by omega] at e1 ⊢
    show prL r c l k + _ ≤ prL r c m (2 * k) + ofL r c (m.getD (2 * k) 0) (m.getD (2 * k + 1) 0) + ofL r c (m.getD (2 * k + 1) 0) (m.getD (2 * k + 1 + 1) 0) ∧ prH r c m (2 * k) + ofH r c (m.getD (2 * k) 0) (m.getD (2 * k + 1) 0) + ofH r c (m.getD (2 * k + 1) 0) (m.getD (2 * k + 1 + 1) 0) ≤ prH r c l k + _
    rw [e0, e1]
    omega
end Go.Proofs.YtmdpdpbkbakidaaGreat

/- Plain facts: sums over strips, bounded by a potential. No program stands in this text. -/
namespace Go.Proofs.YtmdpdpbkbakidaaGreat

/-- a potential on distances from the centre, for both sides -/
def od (F : Int → Int) (r y : Int) : Int := if 0 ≤ y then F (min y r) else -F (min (-y) r)
theorem od_pos (F : Int → Int) (r y : Int) (h : 0 ≤ y) : od F r y = F (min y r) := by unfold od; rw [if_pos h]
theorem od_neg (F : Int → Int) (r y : Int) (h : y < 0) : od F r y = -F (min (-y) r) := by unfold od; rw [if_neg (by omega)]

structure LowP (V r d : Int) (F : Int → Int) : Prop where
  step : ∀ a b, 0 ≤ a → a ≤ b → b ≤ r → d ≤ b - a → V * (2 * ((b - a) * hcL r b)) ≤ F b - F a
  cen : ∀ b, 0 ≤ b → b ≤ r → V * (2 * (b * hcL r b)) ≤ F b
  mono : ∀ a b, 0 ≤ a → a ≤ b → b ≤ r → F a ≤ F b

theorem hcL_out (r y : Int) (h : r < y) : hcL r y = 0 := by unfold hcL; rw [if_pos (.inl h)]
theorem hcH_out (r y : Int) (h : r < y) : hcH r y = 0 := by unfold hcH; rw [if_pos (.inl h)]
theorem mul_le {V x y : Int} (hV : 0 ≤ V) (h : x ≤ y) : V * x ≤ V * y := Int.mul_le_mul_of_nonneg_left h hV

/-- one side: the strip from a to b, b the further end -/
theorem low_side {V r d : Int} {F : Int → Int} (h : LowP V r d F) (hV : 0 ≤ V) (hr : 0 ≤ r) (a b m : Int) (a0 : 0 ≤ a) (ab : a ≤ b) (hd : d ≤ b - a) (hm : m ≤ 2 * hcL r b) :
    V * ((b - a) * m) ≤ F (min b r) - F (min a r) := by
  by_cases hb : b ≤ r
  · rw [show min b r = b by omega, show min a r = a by omega]
    have h1 := h.step a b a0 ab hb hd
    have h2 := wid_mono (w := b - a) (by omega) hm
    have h3 : (b - a) * (2 * hcL r b) = 2 * ((b - a) * hcL r b) := by rw [Int.mul_left_comm]
    have h4 := mul_le hV h2
    rw [h3] at h4
    omega
  · have h0 := hcL_out r b (by omega)
    have h1 := h.mono (min a r) (min b r) (by omega) (by omega) (by omega)
    have h2 := wid_mono (w := b - a) (by omega) (show m ≤ 0 by omega)
    have h4 := mul_le hV h2
    simp at h4
    omega
theorem low_cen {V r d : Int} {F : Int → Int} (h : LowP V r d F) (hV : 0 ≤ V) (hr : 0 ≤ r) (b m : Int) (b0 : 0 ≤ b) (hm : m ≤ 2 * hcL r b) :
    V * (b * m) ≤ F (min b r) := by
  by_cases hb : b ≤ r
  · rw [show min b r = b by omega]
    have h1 := h.cen b b0 hb
    have h2 := wid_mono (w := b) b0 hm
    have h3 : b * (2 * hcL r b) = 2 * (b * hcL r b) := by rw [Int.mul_left_comm]
    have h4 := mul_le hV h2
    rw [h3] at h4
    omega
  · have h0 := hcL_out r b (by omega)
    have h5 := h.cen 0 (by omega) hr
    have h1 := h.mono 0 (min b r) (by omega) (by omega) (by omega)
    have h2 := wid_mono (w := b) b0 (show m ≤ 0 by omega)
    have h4 := mul_le hV h2
    simp at h4 h5
    omega
theorem low_strip {V r d : Int} {F : Int → Int} (h : LowP V r d F) (hV : 0 ≤ V) (hr : 0 ≤ r) (c a b : Int) (ab : a ≤ b) (hd : d ≤ b - a) :
    V * ofL r c a b ≤ od F r (b - c) - od F r (a - c) := by
  unfold ofL
  generalize hm : min (2 * hcL r (a - c)) (2 * hcL r (b - c)) = m
  have ma : m ≤ 2 * hcL r (a - c) := by omega
  have mb : m ≤ 2 * hcL r (b - c) := by omega
  have ew : b - a = (b - c) - (a - c) := by omega
  rw [ew] at hd ⊢
  have hxy : a - c ≤ b - c := by omega
  generalize a - c = x at *
  generalize b - c = y at *
  by_cases hx : 0 ≤ x
  · rw [od_pos F r y (by omega), od_pos F r x hx]
    exact low_side h hV hr x y m hx hxy hd mb
  · rw [od_neg F r x (by omega)]
    have ma' : m ≤ 2 * hcL r (-x) := by rw [(hc_neg r x).1]; exact ma
    by_cases hy : 0 ≤ y
    · rw [od_pos F r y hy]
      have c1 := low_cen h hV hr y m hy mb
      have c2 := low_cen h hV hr (-x) m (by omega) ma'
      have e : V * ((y - x) * m) = V * (y * m) + V * (-x * m) := by
        rw [← Int.mul_add, ← Int.add_mul, Int.sub_eq_add_neg]
      omega
    · rw [od_neg F r y (by omega)]
      have c1 := low_side h hV hr (-y) (-x) m (by omega) (by omega) (by omega) ma'
      have e : -x - -y = y - x := by omega
      rw [e] at c1
      omega
theorem low_sum {V r d : Int} {F : Int → Int} (h : LowP V r d F) (hV : 0 ≤ V) (hr : 0 ≤ r) (c : Int) (l : List Int) (k : Nat) (hl : ∀ i, i < k → l.getD i 0 ≤ l.getD (i + 1) 0 ∧ d ≤ l.getD (i + 1) 0 - l.getD i 0) :
    V * prL r c l k ≤ od F r (l.getD k 0 - c) - od F r (l.getD 0 0 - c) := by
  induction k with
  | zero => simp [prL]
  | succ k ih =>
    have i := ih (fun i hi => hl i (by omega))
    have g := hl k (by omega)
    have s := low_strip h hV hr c _ _ g.1 g.2
    show V * (prL r c l k + _) ≤ _
    rw [Int.mul_add]
    omega

structure HighP (V r d : Int) (F : Int → Int) : Prop where
  step : ∀ a w, 0 ≤ a → a ≤ r → d ≤ w → 0 ≤ w → F (min (a + w) r) - F a ≤ V * (2 * (w * hcH r a))
  cen : ∀ b, 0 ≤ b → F (min b r) ≤ V * (2 * (b * r))
theorem hcH_zero (r : Int) (h : 0 ≤ r) : hcH r 0 = r := (hc_zero r h).2
theorem high_side {V r d : Int} {F : Int → Int} (h : HighP V r d F) (hV : 0 ≤ V) (hr : 0 ≤ r) (a b m : Int) (a0 : 0 ≤ a) (ab : a ≤ b) (hd : d ≤ b - a) (hm : 2 * hcH r a ≤ m) :
    F (min b r) - F (min a r) ≤ V * ((b - a) * m) := by
  have h2 := wid_mono (w := b - a) (by omega) hm
  have h3 : (b - a) * (2 * hcH r a) = 2 * ((b - a) * hcH r a) := by rw [Int.mul_left_comm]
  have h4 := mul_le hV h2
  rw [h3] at h4
  by_cases ha : a ≤ r
  · have h1 := h.step a (b - a) a0 ha hd (by omega)
    rw [show a + (b - a) = b by omega] at h1
    rw [show min a r = a by omega]
    omega
  · rw [show min a r = r by omega, show min b r = r by omega]
    have := hc_le r a hr
    have h5 : 0 ≤ V * (2 * ((b - a) * hcH r a)) := Int.mul_nonneg hV (Int.mul_nonneg (by omega) (Int.mul_nonneg (by omega) (by omega)))
    omega
theorem high_strip {V r d : Int} {F : Int → Int} (h : HighP V r d F) (hV : 0 ≤ V) (hr : 0 ≤ r) (c a b : Int) (ab : a ≤ b) (hd : d ≤ b - a) (h0 : F 0 = 0) :
    od F r (b - c) - od F r (a - c) ≤ V * ofH r c a b := by
  unfold ofH
  have hif : (if a ≤ c ∧ c ≤ b then 2 * r else max (2 * hcH r (a - c)) (2 * hcH r (b - c))) = (if a - c ≤ 0 ∧ 0 ≤ b - c then 2 * r else max (2 * hcH r (a - c)) (2 * hcH r (b - c))) := by
    by_cases g : a ≤ c ∧ c ≤ b
    · rw [if_pos g, if_pos (by omega)]
    · rw [if_neg g, if_neg (by omega)]
  rw [hif]
  have ew : b - a = (b - c) - (a - c) := by omega
  rw [ew] at hd ⊢
  have hxy : a - c ≤ b - c := by omega
  generalize a - c = x at *
  generalize b - c = y at *
  have g1 := hc_le r x hr
  have g2 := hc_le r y hr
  by_cases hx : 0 ≤ x
  · rw [od_pos F r y (by omega), od_pos F r x hx]
    refine high_side h hV hr x y _ hx hxy hd ?_
    split <;> omega
  · rw [od_neg F r x (by omega)]
    by_cases hy : 0 < y
    · rw [od_pos F r y (by omega), if_pos (by omega)]
      have c1 := h.cen y (by omega)
      have c2 := h.cen (-x) (by omega)
      have e : V * ((y - x) * (2 * r)) = V * (2 * (y * r)) + V * (2 * (-x * r)) := by
        rw [← Int.mul_add, ← Int.mul_add, ← Int.add_mul, Int.mul_left_comm (y - x) 2 r, Int.sub_eq_add_neg]
      omega
    · have c1 := high_side h hV hr (-y) (-x) (if x ≤ 0 ∧ 0 ≤ y then 2 * r else max (2 * hcH r x) (2 * hcH r y)) (by omega) (by omega) (by omega) (by rw [(hc_neg r y).2]; split <;> omega)
      have e : -x - -y = y - x := by omega
      rw [e] at c1
      by_cases hz : y = 0
      · subst hz
        rw [od_pos F r 0 (by omega), show min 0 r = 0 by omega, h0]
        rw [show min (-0) r = 0 by omega, h0] at c1
        omega
      · rw [od_neg F r y (by omega)]
        omega
theorem high_sum {V r d : Int} {F : Int → Int} (h : HighP V r d F) (hV : 0 ≤ V) (hr : 0 ≤ r) (h0 : F 0 = 0) (c : Int) (l : List Int) (k : Nat) (hl : ∀ i, i < k → l.getD i 0 ≤ l.getD (i + 1) 0 ∧ d ≤ l.getD (i + 1) 0 - l.getD i 0) :
    od F r (l.getD k 0 - c) - od F r (l.getD 0 0 - c) ≤ V * prH r c l k := by
  induction k with
  | zero => simp [prH]
  | succ k ih =>
    have i := ih (fun i hi => hl i (by omega))
    have g := hl k (by omega)
    have s := high_strip h hV hr c _ _ g.1 g.2 h0
    show _ ≤ V * (prH r c l k + _)
    rw [Int.mul_add]
    omega

/-! ### concave sequences -/
structure Conc (G : Int → Int) : Prop where
  dec : ∀ k, G (k + 1) ≤ G k
  conc : ∀ k, G k - G (k + 1) ≤ G (k + 1) - G (k + 1 + 1)
theorem Conc.slope {G : Int → Int} (h : Conc G) (a : Int) (n : Nat) : G a - G (a + 1) ≤ G (a + n) - G (a + n + 1) := by
  induction n with
  | zero => simp
  | succ n ih =>
    have := h.conc (a + n)
    have e : a + ((n + 1 : Nat) : Int) = a + n + 1 := by omega
    rw [e]; omega
theorem Conc.slope' {G : Int → Int} (h : Conc G) (a b : Int) (hab : a ≤ b) : G a - G (a + 1) ≤ G b - G (b + 1) := by
  have := h.slope a (b - a).toNat
  rw [show a + ((b - a).toNat : Int) = b by omega] at this
  exact this
theorem Conc.drop_le {G : Int → Int} (h : Conc G) (a : Int) (n : Nat) : G a - G (a + n) ≤ n * (G (a + n) - G (a + n + 1)) := by
  induction n with
  | zero => simp
  | succ n ih =>
    have s := h.conc (a + n)
    have e : a + ((n + 1 : Nat) : Int) = a + n + 1 := by omega
    rw [e]
    have m := Int.mul_le_mul_of_nonneg_left s (show (0 : Int) ≤ ((n + 1 : Nat) : Int) by omega)
    have e2 : ((n + 1 : Nat) : Int) * (G (a + n) - G (a + n + 1)) = n * (G (a + n) - G (a + n + 1)) + (G (a + n) - G (a + n + 1)) := by
      rw [Int.natCast_add, Int.add_mul]; simp
    omega
theorem Conc.drop_ge {G : Int → Int} (h : Conc G) (a : Int) (n : Nat) : n * (G a - G (a + 1)) ≤ G a - G (a + n) := by
  induction n with
  | zero => simp
  | succ n ih =>
    have s := h.slope a n
    have e : a + ((n + 1 : Nat) : Int) = a + n + 1 := by omega
    rw [e]
    have e2 : ((n + 1 : Nat) : Int) * (G a - G (a + 1)) = n * (G a - G (a + 1)) + (G a - G (a + 1)) := by
      rw [Int.natCast_add, Int.add_mul]; simp
    omega
theorem Conc.mono {G : Int → Int} (h : Conc G) (a b : Int) (hab : a ≤ b) : G b ≤ G a := by
  have key : ∀ n : Nat, G (a + n) ≤ G a := by
    intro n
    induction n with
    | zero => simp
    | succ n ih =>
      have := h.dec (a + n)
      have e : a + ((n + 1 : Nat) : Int) = a + n + 1 := by omega
      rw [e]; omega
  have := key (b - a).toNat
  rwa [show a + ((b - a).toNat : Int) = b by omega] at this
/-- twice the trapezoids up to n -/
def tz (G : Int → Int) : Nat → Int
  | 0 => 0
  | n + 1 => tz G n + (G n + G (n + 1))
theorem tz_step (G : Int → Int) (a n : Nat) : tz G (a + (n + 1)) = tz G (a + n) + (G (a + n) + G (a + n + 1)) := by
  show tz G (a + n + 1) = _
  show tz G (a + n) + (G ((a + n : Nat) : Int) + G (((a + n : Nat) : Int) + 1)) = _
  rw [Int.natCast_add]
theorem Conc.trap {G : Int → Int} (h : Conc G) (a n : Nat) : n * (G a + G (a + n)) ≤ tz G (a + n) - tz G a := by
  induction n with
  | zero => simp
  | succ n ih =>
    rw [tz_step]
    have d := h.drop_le a n
    have e : (a : Int) + ((n + 1 : Nat) : Int) = a + n + 1 := by omega
    rw [e]
    have e2 : ((n + 1 : Nat) : Int) * (G a + G (a + n + 1)) = n * (G a + G (a + n)) - n * (G (a + n) - G (a + n + 1)) + (G a + G (a + n + 1)) := by
      rw [Int.natCast_add, Int.add_mul, ← Int.mul_sub]
      simp only [Int.natCast_one, Int.one_mul]
      congr 2; omega
    rw [e2]
    omega
theorem Conc.tang {G : Int → Int} (h : Conc G) (a n : Nat) : tz G (a + n) - tz G a + n * n * (G a - G (a + 1)) ≤ 2 * (n * G a) := by
  induction n with
  | zero => simp
  | succ n ih =>
    rw [tz_step]
    have d1 := h.drop_ge a n
    have d2 := h.drop_ge a (n + 1)
    have ec : ((n + 1 : Nat) : Int) = (n : Int) + 1 := by omega
    rw [ec, ← Int.add_assoc] at d2
    rw [ec]
    generalize G a - G (a + 1) = S at *
    have e2 : ((n : Int) + 1) * ((n : Int) + 1) * S = n * n * S + (n * S + ((n : Int) + 1) * S) := by
      rw [Int.mul_add, Int.add_mul, Int.add_mul, Int.mul_one, Int.add_mul, Int.add_mul, Int.one_mul]; omega
    have e3 : 2 * (((n : Int) + 1) * G a) = 2 * (n * G a) + 2 * G a := by
      rw [Int.add_mul]; omega
    rw [e2, e3]
    omega
end Go.Proofs.YtmdpdpbkbakidaaGreat

/- Plain facts: a polygon around a circle, and one in it. No program stands in this text. (Written by m/sg.py.) -/
namespace Go.Proofs.YtmdpdpbkbakidaaGreat

theorem Conc.lin (C B : Int) (h : 0 ≤ B) : Conc (fun k => C - B * k) := by
  refine ⟨fun k => ?_, fun k => ?_⟩
  · show C - B * (k + 1) ≤ C - B * k
    rw [Int.mul_add]; omega
  · show C - B * k - (C - B * (k + 1)) ≤ C - B * (k + 1) - (C - B * (k + 1 + 1))
    rw [Int.mul_add, Int.mul_add, Int.mul_add]; omega
theorem Conc.min {F G : Int → Int} (h : Conc F) (g : Conc G) : Conc (fun k => Min.min (F k) (G k)) := by
  refine ⟨fun k => ?_, fun k => ?_⟩
  · show Min.min (F (k + 1)) (G (k + 1)) ≤ Min.min (F k) (G k)
    have := h.dec k; have := g.dec k; omega
  · show Min.min (F k) (G k) - Min.min (F (k + 1)) (G (k + 1)) ≤ Min.min (F (k + 1)) (G (k + 1)) - Min.min (F (k + 1 + 1)) (G (k + 1 + 1))
    have := h.conc k; have := g.conc k; omega

def gU (r k : Int) : Int := min (100000 * r - 0 * k) (min (102000 * r - 20000 * k) (min (111900 * r - 50000 * k) (min (134700 * r - 90000 * k) (min (189300 * r - 160000 * k) (364100 * r - 350000 * k)))))
theorem gU_conc (r : Int) : Conc (gU r) := ((Conc.lin (100000 * r) 0 (by omega)).min ((Conc.lin (102000 * r) 20000 (by omega)).min ((Conc.lin (111900 * r) 50000 (by omega)).min ((Conc.lin (134700 * r) 90000 (by omega)).min ((Conc.lin (189300 * r) 160000 (by omega)).min (Conc.lin (364100 * r) 350000 (by omega)))))))
theorem gU_le (r k : Int) : gU r k ≤ 100000 * r - 0 * k ∧ gU r k ≤ 102000 * r - 20000 * k ∧ gU r k ≤ 111900 * r - 50000 * k ∧ gU r k ≤ 134700 * r - 90000 * k ∧ gU r k ≤ 189300 * r - 160000 * k ∧ gU r k ≤ 364100 * r - 350000 * k := by
  unfold gU
  refine ⟨?_, ?_, ?_, ?_, ?_, ?_⟩ <;> omega
theorem gU_ge (r k X : Int) (h : X ≤ 100000 * r - 0 * k ∧ X ≤ 102000 * r - 20000 * k ∧ X ≤ 111900 * r - 50000 * k ∧ X ≤ 134700 * r - 90000 * k ∧ X ≤ 189300 * r - 160000 * k ∧ X ≤ 364100 * r - 350000 * k) : X ≤ gU r k := by
  unfold gU
  omega
def gL (r k : Int) : Int := min (100000 * r - 0 * k) (min (100000 * r - 11200 * k) (min (105016 * r - 34000 * k) (min (115810 * r - 59700 * k) (min (135430 * r - 92400 * k) (min (171355 * r - 140300 * k) (min (245827 * r - 225900 * k) (min (437727 * r - 427900 * k) (1410600 * r - 1410600 * k))))))))
theorem gL_conc (r : Int) : Conc (gL r) := ((Conc.lin (100000 * r) 0 (by omega)).min ((Conc.lin (100000 * r) 11200 (by omega)).min ((Conc.lin (105016 * r) 34000 (by omega)).min ((Conc.lin (115810 * r) 59700 (by omega)).min ((Conc.lin (135430 * r) 92400 (by omega)).min ((Conc.lin (171355 * r) 140300 (by omega)).min ((Conc.lin (245827 * r) 225900 (by omega)).min ((Conc.lin (437727 * r) 427900 (by omega)).min (Conc.lin (1410600 * r) 1410600 (by omega))))))))))
theorem gL_le (r k : Int) : gL r k ≤ 100000 * r - 0 * k ∧ gL r k ≤ 100000 * r - 11200 * k ∧ gL r k ≤ 105016 * r - 34000 * k ∧ gL r k ≤ 115810 * r - 59700 * k ∧ gL r k ≤ 135430 * r - 92400 * k ∧ gL r k ≤ 171355 * r - 140300 * k ∧ gL r k ≤ 245827 * r - 225900 * k ∧ gL r k ≤ 437727 * r - 427900 * k ∧ gL r k ≤ 1410600 * r - 1410600 * k := by
  unfold gL
  refine ⟨?_, ?_, ?_, ?_, ?_, ?_, ?_, ?_, ?_⟩ <;> omega
theorem gL_ge (r k X : Int) (h : X ≤ 100000 * r - 0 * k ∧ X ≤ 100000 * r - 11200 * k ∧ X ≤ 105016 * r - 34000 * k ∧ X ≤ 115810 * r - 59700 * k ∧ X ≤ 135430 * r - 92400 * k ∧ X ≤ 171355 * r - 140300 * k ∧ X ≤ 245827 * r - 225900 * k ∧ X ≤ 437727 * r - 427900 * k ∧ X ≤ 1410600 * r - 1410600 * k) : X ≤ gL r k := by
  unfold gL
  omega

/-- a tangent -/
theorem tangent (A B V x y r : Int) (h : V * V + B * B ≤ A * A) (hA : 0 ≤ A) (hr : 0 ≤ r) (hc : x * x + y * y ≤ r * r) : V * x ≤ A * r - B * y := by
  have h0 : 0 ≤ x * x + y * y := by
    have q : ∀ z : Int, 0 ≤ z * z := fun z => by
      by_cases hz : 0 ≤ z
      · exact Int.mul_nonneg hz hz
      · rw [← Int.neg_mul_neg]; exact Int.mul_nonneg (by omega) (by omega)
    have := q x; have := q y; omega
  have h2 : (V * V + B * B) * (x * x + y * y) ≤ (A * A) * (r * r) := Int.mul_le_mul h hc h0 (Int.mul_nonneg hA hA)
  have e1 : (V * x + B * y) * (V * x + B * y) + (V * y - B * x) * (V * y - B * x) = (V * V + B * B) * (x * x + y * y) := by grind
  have e2 : (A * A) * (r * r) = (A * r) * (A * r) := by grind
  have h3 : 0 ≤ (V * y - B * x) * (V * y - B * x) := by
    by_cases hz : 0 ≤ V * y - B * x
    · exact Int.mul_nonneg hz hz
    · rw [← Int.neg_mul_neg]; exact Int.mul_nonneg (by omega) (by omega)
  have := sq_le (a := V * x + B * y) (b := A * r) (Int.mul_nonneg hA hr) (by omega)
  omega
/-- a chord: between its ends it lies within the circle -/
theorem chord_sq (V Z1 Z2 c1 c2 u v : Int) (hu : 0 ≤ u) (hv : 0 ≤ v) (h1 : Z1 * Z1 + V * V * (c1 * c1) ≤ 10000 * (V * V)) (h2 : Z2 * Z2 + V * V * (c2 * c2) ≤ 10000 * (V * V)) (h12 : Z1 * Z2 + V * V * (c1 * c2) ≤ 10000 * (V * V)) :
    (Z1 * v + Z2 * u) * (Z1 * v + Z2 * u) + V * V * ((c1 * v + c2 * u) * (c1 * v + c2 * u)) ≤ V * V * ((100 * (u + v)) * (100 * (u + v))) := by
  have a1 := Int.mul_le_mul_of_nonneg_right h1 (Int.mul_nonneg hv hv)
  have a2 := Int.mul_le_mul_of_nonneg_right h2 (Int.mul_nonneg hu hu)
  have a3 := Int.mul_le_mul_of_nonneg_right h12 (Int.mul_nonneg hu hv)
  have e1 : (Z1 * v + Z2 * u) * (Z1 * v + Z2 * u) + V * V * ((c1 * v + c2 * u) * (c1 * v + c2 * u)) = (Z1 * Z1 + V * V * (c1 * c1)) * (v * v) + (Z2 * Z2 + V * V * (c2 * c2)) * (u * u) + 2 * ((Z1 * Z2 + V * V * (c1 * c2)) * (u * v)) := by grind
  have e2 : V * V * ((100 * (u + v)) * (100 * (u + v))) = 10000 * (V * V) * (v * v) + 10000 * (V * V) * (u * u) + 2 * (10000 * (V * V) * (u * v)) := by grind
  omega
theorem chord_in (V A B c1 c2 r y X : Int) (hV : 0 ≤ V) (hX : 0 ≤ X) (hc : c1 < c2) (hr : 0 ≤ r) (h1 : c1 * r ≤ 100 * y) (h2 : 100 * y ≤ c2 * r)
    (k1 : (100 * A - B * c1) * (100 * A - B * c1) + V * V * (c1 * c1) ≤ 10000 * (V * V)) (k2 : (100 * A - B * c2) * (100 * A - B * c2) + V * V * (c2 * c2) ≤ 10000 * (V * V)) (k12 : (100 * A - B * c1) * (100 * A - B * c2) + V * V * (c1 * c2) ≤ 10000 * (V * V))
    (hx : r * r ≤ X * X + y * y) : A * r - B * y ≤ V * X := by
  have q := chord_sq V _ _ c1 c2 (100 * y - c1 * r) (c2 * r - 100 * y) (by omega) (by omega) k1 k2 k12
  have e1 : (100 * A - B * c1) * (c2 * r - 100 * y) + (100 * A - B * c2) * (100 * y - c1 * r) = (100 * (c2 - c1)) * (A * r - B * y) := by grind
  have e2 : c1 * (c2 * r - 100 * y) + c2 * (100 * y - c1 * r) = (100 * (c2 - c1)) * y := by grind
  have e3 : 100 * (100 * y - c1 * r + (c2 * r - 100 * y)) = (100 * (c2 - c1)) * r := by grind
  rw [e1, e2, e3] at q
  generalize hD : 100 * (c2 - c1) = D at q
  have hD0 : 0 < D := by omega
  have q2 : (D * D) * ((A * r - B * y) * (A * r - B * y) + V * V * (y * y)) ≤ (D * D) * (V * V * (r * r)) := by
    have f1 : (D * D) * ((A * r - B * y) * (A * r - B * y) + V * V * (y * y)) = D * (A * r - B * y) * (D * (A * r - B * y)) + V * V * (D * y * (D * y)) := by grind
    have f2 : (D * D) * (V * V * (r * r)) = V * V * (D * r * (D * r)) := by grind
    rw [f1, f2]; exact q
  have q3 := Int.le_of_mul_le_mul_left q2 (Int.mul_pos hD0 hD0)
  have q4 : V * V * (r * r) ≤ V * V * (X * X + y * y) := Int.mul_le_mul_of_nonneg_left hx (Int.mul_nonneg hV hV)
  have f3 : V * V * (X * X + y * y) = (V * X) * (V * X) + V * V * (y * y) := by grind
  exact sq_le (Int.mul_nonneg hV hX) (by omega)

theorem hcL_up (r y : Int) (hr : 0 ≤ r) (h0 : 0 ≤ y) (h1 : y ≤ r) : 100000 * hcL r y ≤ gU r y := by
  have hc := (hc_circle r y (by omega)).1
  refine gU_ge r y _ ⟨tangent 100000 0 100000 _ y r (by omega) (by omega) hr hc, tangent 102000 20000 100000 _ y r (by omega) (by omega) hr hc, tangent 111900 50000 100000 _ y r (by omega) (by omega) hr hc, tangent 134700 90000 100000 _ y r (by omega) (by omega) hr hc, tangent 189300 160000 100000 _ y r (by omega) (by omega) hr hc, tangent 364100 350000 100000 _ y r (by omega) (by omega) hr hc⟩
theorem hcH_low (r y : Int) (hr : 0 ≤ r) (h0 : 0 ≤ y) (h1 : y ≤ r) : gL r y ≤ 100000 * hcH r y := by
  have hc := (hc_circle r y (by omega)).2
  have hX := (hc_le r y hr)
  obtain ⟨g0, g1, g2, g3, g4, g5, g6, g7, g8⟩ := gL_le r y
  by_cases b0 : 100 * y ≤ 22 * r
  · have := chord_in 100000 100000 11200 0 22 r y (hcH r y) (by omega) (by omega) (by omega) hr (by omega) b0 (by omega) (by omega) (by omega) hc; omega
  by_cases b1 : 100 * y ≤ 42 * r
  · have := chord_in 100000 105016 34000 22 42 r y (hcH r y) (by omega) (by omega) (by omega) hr (by omega) b1 (by omega) (by omega) (by omega) hc; omega
  by_cases b2 : 100 * y ≤ 60 * r
  · have := chord_in 100000 115810 59700 42 60 r y (hcH r y) (by omega) (by omega) (by omega) hr (by omega) b2 (by omega) (by omega) (by omega) hc; omega
  by_cases b3 : 100 * y ≤ 75 * r
  · have := chord_in 100000 135430 92400 60 75 r y (hcH r y) (by omega) (by omega) (by omega) hr (by omega) b3 (by omega) (by omega) (by omega) hc; omega
  by_cases b4 : 100 * y ≤ 87 * r
  · have := chord_in 100000 171355 140300 75 87 r y (hcH r y) (by omega) (by omega) (by omega) hr (by omega) b4 (by omega) (by omega) (by omega) hc; omega
  by_cases b5 : 100 * y ≤ 95 * r
  · have := chord_in 100000 245827 225900 87 95 r y (hcH r y) (by omega) (by omega) (by omega) hr (by omega) b5 (by omega) (by omega) (by omega) hc; omega
  by_cases b6 : 100 * y ≤ 99 * r
  · have := chord_in 100000 437727 427900 95 99 r y (hcH r y) (by omega) (by omega) (by omega) hr (by omega) b6 (by omega) (by omega) (by omega) hc; omega
  by_cases b7 : 100 * y ≤ 100 * r
  · have := chord_in 100000 1410600 1410600 99 100 r y (hcH r y) (by omega) (by omega) (by omega) hr (by omega) b7 (by omega) (by omega) (by omega) hc; omega
  omega
end Go.Proofs.YtmdpdpbkbakidaaGreat

/- Plain facts: the potentials of both polygons. No program stands in this text. -/
namespace Go.Proofs.YtmdpdpbkbakidaaGreat

theorem Conc.trapI {G : Int → Int} (h : Conc G) (a b : Int) (h0 : 0 ≤ a) (hab : a ≤ b) : (b - a) * (G a + G b) ≤ tz G b.toNat - tz G a.toNat := by
  obtain ⟨A, rfl⟩ := Int.eq_ofNat_of_zero_le h0
  obtain ⟨n, hn⟩ := Int.eq_ofNat_of_zero_le (show 0 ≤ b - A by omega)
  obtain rfl : b = ((A + n : Nat) : Int) := by omega
  have := h.trap A n
  rw [hn, Int.toNat_natCast, Int.toNat_natCast, Int.natCast_add]
  exact this
theorem Conc.tangI {G : Int → Int} (h : Conc G) (a b : Int) (h0 : 0 ≤ a) (hab : a ≤ b) : tz G b.toNat - tz G a.toNat + (b - a) * (b - a) * (G a - G (a + 1)) ≤ 2 * ((b - a) * G a) := by
  obtain ⟨A, rfl⟩ := Int.eq_ofNat_of_zero_le h0
  obtain ⟨n, hn⟩ := Int.eq_ofNat_of_zero_le (show 0 ≤ b - A by omega)
  obtain rfl : b = ((A + n : Nat) : Int) := by omega
  have := h.tang A n
  rw [hn, Int.toNat_natCast, Int.toNat_natCast]
  exact this
theorem Conc.dropI {G : Int → Int} (h : Conc G) (a b c : Int) (hab : a ≤ b) (hbc : b ≤ c) : G a - G b ≤ (b - a) * (G c - G (c + 1)) := by
  obtain ⟨n, hn⟩ := Int.eq_ofNat_of_zero_le (show 0 ≤ b - a by omega)
  have := h.drop_le a n
  have e : a + (n : Int) = b := by omega
  rw [e] at this
  have s := h.slope' b c hbc
  have := Int.mul_le_mul_of_nonneg_left s (show 0 ≤ b - a by omega)
  rw [← hn] at *
  omega

/-! ### below -/
def phiU (G : Int → Int) (d y : Int) : Int := tz G y.toNat + d * G y - d * G d
theorem lowP_of {V r d M : Int} {G : Int → Int} (h : Conc G) (hV : 0 ≤ V) (hr : 0 ≤ r) (hd : 0 ≤ d) (hx : ∀ y, 0 ≤ y → y ≤ r → V * hcL r y ≤ G y) (hM : ∀ k, G k - G (k + 1) ≤ M) (hMd : d * M ≤ 2 * G r) : LowP V r d (phiU G d) := by
  have pull : ∀ w y : Int, V * (2 * (w * hcL r y)) = 2 * (w * (V * hcL r y)) := fun w y => by grind
  have dist : ∀ w x y : Int, w * (x + y) = w * x + w * y := fun w x y => Int.mul_add w x y
  have mono1 : ∀ a, 0 ≤ a → a + 1 ≤ r → phiU G d a ≤ phiU G d (a + 1) := by
    intro a a0 ar
    unfold phiU
    have t : tz G (a + 1).toNat = tz G a.toNat + (G a + G (a + 1)) := by
      rw [show (a + 1).toNat = a.toNat + 1 by omega]
      show tz G a.toNat + (G (a.toNat : Int) + G ((a.toNat : Int) + 1)) = _
      rw [show (a.toNat : Int) = a by omega]
    have g1 := h.mono a r (by omega)
    have g2 := h.mono (a + 1) r ar
    have m := Int.mul_le_mul_of_nonneg_left (hM a) hd
    rw [Int.mul_sub] at m
    omega
  have z0 : 0 ≤ tz G 0 := by simp [tz]
  refine ⟨fun a b a0 ab br hw => ?_, fun b b0 br => ?_, fun a b a0 ab br => ?_⟩
  · rw [pull]
    have t := h.trapI a b a0 ab
    have x := wid_mono (w := b - a) (by omega) (hx b (by omega) br)
    have g := h.mono a b ab
    have s := Int.mul_le_mul_of_nonneg_right hw (show 0 ≤ G a - G b by omega)
    rw [Int.mul_sub, Int.mul_sub] at s
    rw [dist] at t
    unfold phiU
    omega
  · rw [pull]
    have t := h.trapI 0 b (by omega) b0
    rw [Int.sub_zero, dist] at t
    have x := wid_mono (w := b) b0 (hx b b0 br)
    have g := h.mono 0 b b0
    have s0 := wid_mono (w := b) b0 g
    simp only [Int.toNat_zero, tz, Int.sub_zero] at t
    unfold phiU
    by_cases hb : d ≤ b
    · have s := Int.mul_le_mul_of_nonneg_right hb (show 0 ≤ G 0 - G b by omega)
      rw [Int.mul_sub, Int.mul_sub] at s
      have g2 := Int.mul_le_mul_of_nonneg_left (h.mono 0 d hd) hd
      omega
    · have g2 := Int.mul_le_mul_of_nonneg_left (h.mono b d (by omega)) hd
      omega
  · obtain ⟨n, hn⟩ := Int.eq_ofNat_of_zero_le (show 0 ≤ b - a by omega)
    obtain rfl : b = a + n := by omega
    clear hn ab
    induction n with
    | zero => simp
    | succ n ih =>
      have := ih (by omega)
      have m := mono1 (a + n) (by omega) (by omega)
      rw [show a + ((n + 1 : Nat) : Int) = a + n + 1 by omega]
      omega

/-! ### above -/
def psiL (G : Int → Int) (d C y : Int) : Int := tz G y.toNat + d * C - d * G (y - 2 * d)
theorem high_step {r d : Int} {G : Int → Int} (h : Conc G) (hd : 1 ≤ d) (hz : 0 ≤ G r) : ∀ (n : Nat) (a w : Int), 0 ≤ a → a ≤ r → d ≤ w → (min (a + w) r - a).toNat ≤ n →
    tz G (min (a + w) r).toNat - tz G a.toNat + d * (G (a - 2 * d) - G (min (a + w) r - 2 * d)) ≤ 2 * (w * G a) := by
  intro n
  induction n with
  | zero =>
    intro a w a0 ar hw hn
    obtain he : min (a + w) r = a := by omega
    rw [he]
    have hg := h.mono a r ar
    have := Int.mul_nonneg (show 0 ≤ w by omega) (show 0 ≤ G a by omega)
    simp
    omega
  | succ n ih =>
    intro a w a0 ar hw hn
    have hg := h.mono a r ar
    have hga : 0 ≤ G a := by omega
    have hS : 0 ≤ G a - G (a + 1) := by have := h.dec a; omega
    by_cases hu : min (a + w) r - a ≤ 2 * d
    · generalize he : min (a + w) r = e at *
      have ae : a ≤ e := by omega
      have t := h.tangI a e a0 ae
      have q := h.dropI (a - 2 * d) (e - 2 * d) a (by omega) (by omega)
      rw [show e - 2 * d - (a - 2 * d) = e - a by omega] at q
      have q2 := Int.mul_le_mul_of_nonneg_left q (show 0 ≤ d by omega)
      generalize hS2 : G a - G (a + 1) = S at *
      by_cases hl : d ≤ e - a
      · have s := Int.mul_le_mul_of_nonneg_right (Int.mul_le_mul_of_nonneg_right hl (show 0 ≤ e - a by omega)) hS
        have w2 := Int.mul_le_mul_of_nonneg_right (show e - a ≤ w by omega) hga
        rw [Int.mul_assoc d] at s
        omega
      · have her : e = r := by omega
        have k1 := h.tangI a e a0 ae
        have ge : G e ≤ G a := h.mono a e ae
        have gn : (e - a) * S ≤ G a := by
          have t2 := h.drop_ge a (e - a).toNat
          rw [show ((e - a).toNat : Int) = e - a by omega, show a + (e - a) = e by omega] at t2
          have e0 : 0 ≤ G e := by rw [her]; exact hz
          rw [hS2] at t2
          omega
        have w2 := Int.mul_le_mul_of_nonneg_right hw hga
        have m1 := Int.mul_le_mul_of_nonneg_left gn (show 0 ≤ d - (e - a) by omega)
        have x1 : (d - (e - a)) * ((e - a) * S) = d * ((e - a) * S) - (e - a) * (e - a) * S := by grind
        have x2 : (d - (e - a)) * G a = d * G a - (e - a) * G a := by grind
        have y0 : 0 ≤ (d - (e - a)) * ((e - a) * S) := Int.mul_nonneg (by omega) (Int.mul_nonneg (by omega) hS)
        omega
    · have i := ih (a + d) (w - d) (by omega) (by omega) (by omega) (by omega)
      rw [show a + d + (w - d) = a + w by omega] at i
      have t := h.tangI a (a + d) a0 (by omega)
      have q := h.dropI (a - 2 * d) (a + d - 2 * d) a (by omega) (by omega)
      have q2 := Int.mul_le_mul_of_nonneg_left q (show 0 ≤ d by omega)
      rw [show a + d - a = d by omega] at t
      rw [show a + d - 2 * d - (a - 2 * d) = d by omega] at q2
      have e1 : d * d * (G a - G (a + 1)) = d * (d * (G a - G (a + 1))) := Int.mul_assoc _ _ _
      have g2 := h.mono a (a + d) (by omega)
      have w2 := Int.mul_le_mul_of_nonneg_left g2 (show 0 ≤ w - d by omega)
      have x1 : d * (G (a - 2 * d) - G (min (a + w) r - 2 * d)) = d * (G (a - 2 * d) - G (a + d - 2 * d)) + d * (G (a + d - 2 * d) - G (min (a + w) r - 2 * d)) := by
        rw [← Int.mul_add]; congr 1; omega
      have x2 : (w - d) * G a = w * G a - d * G a := Int.sub_mul _ _ _
      omega
theorem highP_of {V r d C : Int} {G : Int → Int} (h : Conc G) (hV : 0 ≤ V) (hr : 0 ≤ r) (hd : 1 ≤ d) (hz : 0 ≤ G r) (hC : C = V * r) (hflat : ∀ k, k ≤ 0 → G k = C) (hx : ∀ y, 0 ≤ y → y ≤ r → G y ≤ V * hcH r y) : HighP V r d (psiL G d C) := by
  have pull : ∀ w y : Int, V * (2 * (w * y)) = 2 * (w * (V * y)) := fun w y => by grind
  have st : ∀ a w, 0 ≤ a → a ≤ r → d ≤ w → psiL G d C (min (a + w) r) - psiL G d C a ≤ 2 * (w * G a) := by
    intro a w a0 ar hw
    have := high_step h hd hz _ a w a0 ar hw (Nat.le_refl _)
    rw [Int.mul_sub] at this
    unfold psiL
    omega
  have p0 : psiL G d C 0 = 0 := by
    unfold psiL
    rw [hflat _ (by omega)]
    simp [tz]
  refine ⟨fun a w a0 ar hw w0 => ?_, fun b b0 => ?_⟩
  · rw [pull]
    have := st a w a0 ar hw
    have := wid_mono w0 (hx a a0 ar)
    omega
  · rw [pull, ← hC]
    by_cases hb : d ≤ b
    · have := st 0 b (by omega) hr hb
      rw [p0, hflat 0 (by omega), Int.zero_add] at this
      omega
    · have hf := hflat (min b r - 2 * d) (by omega)
      unfold psiL
      rw [hf]
      have t := h.tangI 0 (min b r) (by omega) (by omega)
      have hS : 0 ≤ G 0 - G (0 + 1) := by have := h.dec 0; omega
      have hC0 : 0 ≤ C := by rw [hC]; exact Int.mul_nonneg hV hr
      have m2 := Int.mul_le_mul_of_nonneg_right (show min b r ≤ b by omega) hC0
      rw [hflat 0 (by omega)] at t hS
      simp only [Int.toNat_zero, tz, Int.sub_zero] at t
      have m1 := Int.mul_nonneg (Int.mul_nonneg (show 0 ≤ min b r by omega) (show 0 ≤ min b r by omega)) hS
      omega
end Go.Proofs.YtmdpdpbkbakidaaGreat

/- Plain facts: what the potentials of both polygons come to. No program stands in this text. (Written by m/sq.py.) -/
namespace Go.Proofs.YtmdpdpbkbakidaaGreat

/-- twice the area under a line up to k -/
def ln (A B r k : Int) : Int := 2 * A * (r * k) - B * (k * k)
theorem ln_step (A B r k : Int) : ln A B r (k + 1) - ln A B r k = (A * r - B * k) + (A * r - B * (k + 1)) := by
  unfold ln; grind
theorem tz_up {G : Int → Int} {A B r : Int} (h : ∀ k, G k ≤ A * r - B * k) (a b : Nat) (hab : a ≤ b) : tz G b - tz G a ≤ ln A B r b - ln A B r a := by
  obtain ⟨n, rfl⟩ : ∃ n, b = a + n := ⟨b - a, by omega⟩
  clear hab
  induction n with
  | zero => simp
  | succ n ih =>
    rw [tz_step, show ((a + (n + 1) : Nat) : Int) = ((a + n : Nat) : Int) + 1 by omega]
    have s := ln_step A B r ((a + n : Nat) : Int)
    have h1 := h ((a + n : Nat) : Int)
    have h2 := h (((a + n : Nat) : Int) + 1)
    rw [Int.natCast_add] at *
    omega
theorem tz_low {G : Int → Int} {A B r : Int} (a b : Nat) (hab : a ≤ b) (h : ∀ k : Int, a ≤ k → k ≤ b → A * r - B * k ≤ G k) : ln A B r b - ln A B r a ≤ tz G b - tz G a := by
  obtain ⟨n, rfl⟩ : ∃ n, b = a + n := ⟨b - a, by omega⟩
  clear hab
  induction n with
  | zero => simp
  | succ n ih =>
    have i := ih (fun k h1 h2 => h k h1 (by omega))
    rw [tz_step, show ((a + (n + 1) : Nat) : Int) = ((a + n : Nat) : Int) + 1 by omega]
    have s := ln_step A B r ((a + n : Nat) : Int)
    have h1 := h ((a + n : Nat) : Int) (by omega) (by omega)
    have h2 := h (((a + n : Nat) : Int) + 1) (by omega) (by omega)
    rw [Int.natCast_add] at *
    omega
/-- the same, where the last one may miss by e -/
theorem tz_low1 {G : Int → Int} {A B r e : Int} (a b : Nat) (hab : a ≤ b) (he : 0 ≤ e) (h : ∀ k : Int, a ≤ k → k < b → A * r - B * k ≤ G k) (h1 : A * r - B * b ≤ G b + e) : ln A B r b - ln A B r a - e ≤ tz G b - tz G a := by
  by_cases hq : a = b
  · subst hq; omega
  · obtain ⟨c, rfl⟩ : ∃ c, b = c + 1 := ⟨b - 1, by omega⟩
    have i := tz_low (G := G) (A := A) (B := B) (r := r) a c (by omega) (fun k g1 g2 => h k g1 (by omega))
    have s := ln_step A B r (c : Int)
    have h2 := h c (by omega) (by omega)
    have t : tz G (c + 1) = tz G c + (G c + G ((c : Int) + 1)) := rfl
    rw [t]
    rw [Int.natCast_add, Int.natCast_one] at *
    omega
theorem near_down (c r k : Int) (h1 : 100 * k ≤ c * r) (h2 : c * r < 100 * k + 100) : 10000 * (k * k) - 200 * c * (r * k) + c * c * (r * r) ≤ 10000 := by
  have e : 10000 * (k * k) - 200 * c * (r * k) + c * c * (r * r) = (c * r - 100 * k) * (c * r - 100 * k) := by grind
  rw [e]
  have := sq_mono (a := c * r - 100 * k) (b := 100) (by omega) (by omega)
  omega
theorem near_any (c r k : Int) : 0 ≤ 10000 * (k * k) - 200 * c * (r * k) + c * c * (r * r) := by
  have e : 10000 * (k * k) - 200 * c * (r * k) + c * c * (r * r) = (c * r - 100 * k) * (c * r - 100 * k) := by grind
  rw [e]
  by_cases hz : 0 ≤ c * r - 100 * k
  · exact Int.mul_nonneg hz hz
  · rw [← Int.neg_mul_neg]; exact Int.mul_nonneg (by omega) (by omega)

theorem tzU (R : Nat) (h : 96 ≤ R) : tz (gU R) R ≤ 158334 * ((R : Int) * R) + 350000 := by
  have L := fun k => gU_le R k
  have q0 : 0 ≤ (R : Int) * R := Int.mul_nonneg (by omega) (by omega)
  obtain ⟨k0, e0⟩ : ∃ k : Nat, k = 10 * R / 100 := ⟨_, rfl⟩
  have n0 := near_down 10 R k0 (by omega) (by omega)
  obtain ⟨k1, e1⟩ : ∃ k : Nat, k = 33 * R / 100 := ⟨_, rfl⟩
  have n1 := near_down 33 R k1 (by omega) (by omega)
  obtain ⟨k2, e2⟩ : ∃ k : Nat, k = 57 * R / 100 := ⟨_, rfl⟩
  have n2 := near_down 57 R k2 (by omega) (by omega)
  obtain ⟨k3, e3⟩ : ∃ k : Nat, k = 78 * R / 100 := ⟨_, rfl⟩
  have n3 := near_down 78 R k3 (by omega) (by omega)
  obtain ⟨k4, e4⟩ : ∃ k : Nat, k = 92 * R / 100 := ⟨_, rfl⟩
  have n4 := near_down 92 R k4 (by omega) (by omega)
  have t0 := tz_up (G := gU R) (A := 100000) (B := 0) (r := R) (fun k => (L k).1) 0 k0 (by omega)
  have t1 := tz_up (G := gU R) (A := 102000) (B := 20000) (r := R) (fun k => (L k).2.1) k0 k1 (by omega)
  have t2 := tz_up (G := gU R) (A := 111900) (B := 50000) (r := R) (fun k => (L k).2.2.1) k1 k2 (by omega)
  have t3 := tz_up (G := gU R) (A := 134700) (B := 90000) (r := R) (fun k => (L k).2.2.2.1) k2 k3 (by omega)
  have t4 := tz_up (G := gU R) (A := 189300) (B := 160000) (r := R) (fun k => (L k).2.2.2.2.1) k3 k4 (by omega)
  have t5 := tz_up (G := gU R) (A := 364100) (B := 350000) (r := R) (fun k => (L k).2.2.2.2.2) k4 R (by omega)
  simp only [ln] at t0 t1 t2 t3 t4 t5
  simp only [tz, Int.natCast_zero, Int.mul_zero, Int.sub_zero] at t0
  omega
theorem phi_total (R : Nat) (h : 96 ≤ R) : 226 * phiU (gU R) ((R : Int) / 32) R ≤ 35500000 * ((R : Int) * R) := by
  have t := tzU R h
  generalize hd : (R : Int) / 32 = d
  have d1 : 32 * d ≤ R := by omega
  have d2 : (R : Int) ≤ 32 * d + 31 := by omega
  have u1 : gU R R ≤ 14100 * R := by have := (gU_le R R).2.2.2.2.2; omega
  have u2 : 100000 * (R : Int) ≤ gU R d := gU_ge R d _ ⟨by omega, by omega, by omega, by omega, by omega, by omega⟩
  have m1 := Int.mul_le_mul_of_nonneg_left u1 (show 0 ≤ d by omega)
  have m2 := Int.mul_le_mul_of_nonneg_left u2 (show 0 ≤ d by omega)
  rw [Int.mul_left_comm] at m1 m2
  have m3 := Int.mul_le_mul_of_nonneg_right d2 (show (0 : Int) ≤ R by omega)
  rw [Int.add_mul, Int.mul_assoc] at m3
  have m4 := Int.mul_le_mul_of_nonneg_right (show (96 : Int) ≤ R by omega) (show (0 : Int) ≤ R by omega)
  unfold phiU
  rw [Int.toNat_natCast]
  generalize tz (gU R) R = T at *
  generalize d * gU R R = X at *
  generalize d * gU R d = Y at *
  generalize d * (R : Int) = Z at *
  generalize (R : Int) * R = Q at *
  omega

theorem gL_line (r k : Int) (hr : 96 ≤ r) : (0 * r ≤ 100 * k → 100 * k ≤ 22 * r → 100000 * r - 11200 * k ≤ gL r k) ∧ (22 * r ≤ 100 * k → 100 * k ≤ 42 * r → 105016 * r - 34000 * k ≤ gL r k) ∧ (42 * r ≤ 100 * k → 100 * k ≤ 60 * r → 115810 * r - 59700 * k ≤ gL r k) ∧ (60 * r ≤ 100 * k → 100 * k ≤ 75 * r → 135430 * r - 92400 * k ≤ gL r k) ∧ (75 * r ≤ 100 * k → 100 * k ≤ 87 * r → 171355 * r - 140300 * k ≤ gL r k) ∧ (87 * r ≤ 100 * k → 100 * k ≤ 95 * r → 245827 * r - 225900 * k ≤ gL r k) ∧ (95 * r ≤ 100 * k → 100 * k ≤ 99 * r → 437727 * r - 427900 * k ≤ gL r k) ∧ (99 * r ≤ 100 * k → 100 * k ≤ 100 * r → 1410600 * r - 1410600 * k ≤ gL r k) := by
  refine ⟨?_, ?_, ?_, ?_, ?_, ?_, ?_, ?_⟩ <;> intro h1 h2 <;> exact gL_ge r k _ ⟨by omega, by omega, by omega, by omega, by omega, by omega, by omega, by omega, by omega⟩
theorem gL_miss (r k : Int) (hr : 96 ≤ r) : (22 * r ≤ 100 * k → 100 * k < 22 * r + 100 → 100000 * r - 11200 * k ≤ gL r k + 22800) ∧ (42 * r ≤ 100 * k → 100 * k < 42 * r + 100 → 105016 * r - 34000 * k ≤ gL r k + 25700) ∧ (60 * r ≤ 100 * k → 100 * k < 60 * r + 100 → 115810 * r - 59700 * k ≤ gL r k + 32700) ∧ (75 * r ≤ 100 * k → 100 * k < 75 * r + 100 → 135430 * r - 92400 * k ≤ gL r k + 47900) ∧ (87 * r ≤ 100 * k → 100 * k < 87 * r + 100 → 171355 * r - 140300 * k ≤ gL r k + 85600) ∧ (95 * r ≤ 100 * k → 100 * k < 95 * r + 100 → 245827 * r - 225900 * k ≤ gL r k + 202000) ∧ (99 * r ≤ 100 * k → 100 * k < 99 * r + 100 → 437727 * r - 427900 * k ≤ gL r k + 982700) := by
  refine ⟨?_, ?_, ?_, ?_, ?_, ?_, ?_⟩ <;> intro h1 h2 <;> (refine Int.le_add_of_sub_right_le (gL_ge r k _ ⟨by omega, by omega, by omega, by omega, by omega, by omega, by omega, by omega, by omega⟩))
theorem tzL (R : Nat) (h : 96 ≤ R) : 156006 * ((R : Int) * R) - 1410600 ≤ tz (gL R) R := by
  have L := fun k => gL_line R k (by omega)
  have q0 : 0 ≤ (R : Int) * R := Int.mul_nonneg (by omega) (by omega)
  have M := fun k => gL_miss R k (by omega)
  obtain ⟨k0, e0⟩ : ∃ k : Nat, k = (22 * R + 99) / 100 := ⟨_, rfl⟩
  have n0 := near_any 22 R k0
  obtain ⟨k1, e1⟩ : ∃ k : Nat, k = (42 * R + 99) / 100 := ⟨_, rfl⟩
  have n1 := near_any 42 R k1
  obtain ⟨k2, e2⟩ : ∃ k : Nat, k = (60 * R + 99) / 100 := ⟨_, rfl⟩
  have n2 := near_any 60 R k2
  obtain ⟨k3, e3⟩ : ∃ k : Nat, k = (75 * R + 99) / 100 := ⟨_, rfl⟩
  have n3 := near_any 75 R k3
  obtain ⟨k4, e4⟩ : ∃ k : Nat, k = (87 * R + 99) / 100 := ⟨_, rfl⟩
  have n4 := near_any 87 R k4
  obtain ⟨k5, e5⟩ : ∃ k : Nat, k = (95 * R + 99) / 100 := ⟨_, rfl⟩
  have n5 := near_any 95 R k5
  obtain ⟨k6, e6⟩ : ∃ k : Nat, k = (99 * R + 99) / 100 := ⟨_, rfl⟩
  have n6 := near_any 99 R k6
  have t0 := tz_low1 (G := gL R) (A := 100000) (B := 11200) (r := R) (e := 22800) 0 k0 (by omega) (by omega) (fun k g1 g2 => (L k).1 (by omega) (by omega)) ((M k0).1 (by omega) (by omega))
  have t1 := tz_low1 (G := gL R) (A := 105016) (B := 34000) (r := R) (e := 25700) k0 k1 (by omega) (by omega) (fun k g1 g2 => (L k).2.1 (by omega) (by omega)) ((M k1).2.1 (by omega) (by omega))
  have t2 := tz_low1 (G := gL R) (A := 115810) (B := 59700) (r := R) (e := 32700) k1 k2 (by omega) (by omega) (fun k g1 g2 => (L k).2.2.1 (by omega) (by omega)) ((M k2).2.2.1 (by omega) (by omega))
  have t3 := tz_low1 (G := gL R) (A := 135430) (B := 92400) (r := R) (e := 47900) k2 k3 (by omega) (by omega) (fun k g1 g2 => (L k).2.2.2.1 (by omega) (by omega)) ((M k3).2.2.2.1 (by omega) (by omega))
  have t4 := tz_low1 (G := gL R) (A := 171355) (B := 140300) (r := R) (e := 85600) k3 k4 (by omega) (by omega) (fun k g1 g2 => (L k).2.2.2.2.1 (by omega) (by omega)) ((M k4).2.2.2.2.1 (by omega) (by omega))
  have t5 := tz_low1 (G := gL R) (A := 245827) (B := 225900) (r := R) (e := 202000) k4 k5 (by omega) (by omega) (fun k g1 g2 => (L k).2.2.2.2.2.1 (by omega) (by omega)) ((M k5).2.2.2.2.2.1 (by omega) (by omega))
  have t6 := tz_low1 (G := gL R) (A := 437727) (B := 427900) (r := R) (e := 982700) k5 k6 (by omega) (by omega) (fun k g1 g2 => (L k).2.2.2.2.2.2.1 (by omega) (by omega)) ((M k6).2.2.2.2.2.2 (by omega) (by omega))
  have t7 := tz_low (G := gL R) (A := 1410600) (B := 1410600) (r := R) k6 R (by omega) (fun k g1 g2 => (L k).2.2.2.2.2.2.2 (by omega) (by omega))
  simp only [ln] at t0 t1 t2 t3 t4 t5 t6 t7
  simp only [tz, Int.natCast_zero, Int.mul_zero, Int.sub_zero] at t0
  omega
theorem psi_total (R : Nat) (h : 96 ≤ R) : 33300000 * ((R : Int) * R) ≤ 212 * psiL (gL R) ((R : Int) / 32) (100000 * R) R := by
  have t := tzL R h
  generalize hd : (R : Int) / 32 = d
  have d1 : 32 * d ≤ R := by omega
  have d2 : (R : Int) ≤ 32 * d + 31 := by omega
  have d0 : 0 ≤ d := by omega
  have u1 : gL R (R - 2 * d) ≤ 245827 * R - 225900 * (R - 2 * d) := (gL_le R (R - 2 * d)).2.2.2.2.2.2.1
  have u2 : 65900 * (R : Int) ≤ 100000 * R - gL R (R - 2 * d) := by omega
  have m2 := Int.mul_le_mul_of_nonneg_left u2 d0
  rw [Int.mul_left_comm, Int.mul_sub] at m2
  have m3 := Int.mul_le_mul_of_nonneg_right d2 (show (0 : Int) ≤ R by omega)
  rw [Int.add_mul, Int.mul_assoc] at m3
  have m4 := Int.mul_le_mul_of_nonneg_right (show (96 : Int) ≤ R by omega) (show (0 : Int) ≤ R by omega)
  unfold psiL
  rw [Int.toNat_natCast]
  generalize tz (gL R) R = T at *
  generalize d * gL R (R - 2 * d) = X at *
  generalize d * (100000 * (R : Int)) = Y at *
  generalize d * (R : Int) = Z at *
  generalize (R : Int) * R = Q at *
  omega
end Go.Proofs.YtmdpdpbkbakidaaGreat

/- Plain facts: from below a circle to above it the bounds overlap with those of the whole area. No program stands in this text. -/
namespace Go.Proofs.YtmdpdpbkbakidaaGreat

/-! ### small circles: unit strips -/
def sumTo (f : Nat → Int) : Nat → Int
  | 0 => 0
  | n + 1 => sumTo f n + f n
theorem sumTo_same {f g : Nat → Int} (n : Nat) (h : ∀ k, k < n → f k = g k) : sumTo f n = sumTo g n := by
  induction n with
  | zero => rfl
  | succ n ih =>
    show sumTo f n + f n = sumTo g n + g n
    rw [ih (fun k hk => h k (by omega)), h n (by omega)]
noncomputable def unL (r y : Int) : Int := 2 * sumTo (fun k => hcL r (k + 1)) y.toNat
noncomputable def unH (r y : Int) : Int := 2 * sumTo (fun k => hcH r k) y.toNat
theorem un_low (r : Int) (hr : 0 ≤ r) : LowP 1 r 0 (unL r) := by
  have key : ∀ (n a : Nat), 2 * ((n : Int) * hcL r (a + n)) ≤ unL r (a + n) - unL r a := by
    intro n a
    induction n with
    | zero => simp
    | succ n ih =>
      have e : unL r ((a : Int) + ((n + 1 : Nat) : Int)) = unL r (a + n) + 2 * hcL r (a + n + 1) := by
        unfold unL
        rw [show ((a : Int) + ((n + 1 : Nat) : Int)).toNat = a + n + 1 by omega, show ((a : Int) + (n : Int)).toNat = a + n by omega]
        show 2 * (sumTo _ (a + n) + hcL r (((a + n : Nat) : Int) + 1)) = _
        rw [Int.natCast_add]; omega
      have g := (hc_further r (a + n) (a + n + 1) hr (by omega) (by omega)).1
      have m := Int.mul_le_mul_of_nonneg_left g (show (0 : Int) ≤ n by omega)
      rw [e, show (a : Int) + ((n + 1 : Nat) : Int) = a + n + 1 by omega, show ((n + 1 : Nat) : Int) = (n : Int) + 1 by omega, Int.add_mul]
      omega
  have stp : ∀ a b : Int, 0 ≤ a → a ≤ b → 2 * ((b - a) * hcL r b) ≤ unL r b - unL r a := by
    intro a b a0 ab
    obtain ⟨A, rfl⟩ := Int.eq_ofNat_of_zero_le a0
    obtain ⟨n, hn⟩ := Int.eq_ofNat_of_zero_le (show 0 ≤ b - A by omega)
    obtain rfl : b = A + n := by omega
    rw [hn]
    exact key n A
  have z : unL r 0 = 0 := by simp [unL, sumTo]
  refine ⟨fun a b a0 ab _ _ => by rw [Int.one_mul]; exact stp a b a0 ab, fun b b0 _ => ?_, fun a b a0 ab _ => ?_⟩
  · have := stp 0 b (by omega) b0
    rw [z, Int.sub_zero, Int.sub_zero] at this
    rw [Int.one_mul]; exact this
  · have := stp a b a0 ab
    have := Int.mul_nonneg (show 0 ≤ b - a by omega) (hc_le r b hr).1
    omega
theorem un_high (r : Int) (hr : 0 ≤ r) : HighP 1 r 0 (unH r) := by
  have key : ∀ (n a : Nat), unH r (a + n) - unH r a ≤ 2 * ((n : Int) * hcH r a) := by
    intro n a
    induction n with
    | zero => simp
    | succ n ih =>
      have e : unH r ((a : Int) + ((n + 1 : Nat) : Int)) = unH r (a + n) + 2 * hcH r (a + n) := by
        unfold unH
        rw [show ((a : Int) + ((n + 1 : Nat) : Int)).toNat = a + n + 1 by omega, show ((a : Int) + (n : Int)).toNat = a + n by omega]
        show 2 * (sumTo _ (a + n) + hcH r ((a + n : Nat) : Int)) = _
        rw [Int.natCast_add]; omega
      have g := (hc_further r a (a + n) hr (by omega) (by omega)).2
      rw [e, show ((n + 1 : Nat) : Int) = (n : Int) + 1 by omega, Int.add_mul]
      omega
  have stp : ∀ a b : Int, 0 ≤ a → a ≤ b → unH r b - unH r a ≤ 2 * ((b - a) * hcH r a) := by
    intro a b a0 ab
    obtain ⟨A, rfl⟩ := Int.eq_ofNat_of_zero_le a0
    obtain ⟨n, hn⟩ := Int.eq_ofNat_of_zero_le (show 0 ≤ b - A by omega)
    obtain rfl : b = A + n := by omega
    rw [hn]
    exact key n A
  have z : unH r 0 = 0 := by simp [unH, sumTo]
  refine ⟨fun a w a0 ar _ w0 => ?_, fun b b0 => ?_⟩
  · rw [Int.one_mul]
    have := stp a (min (a + w) r) a0 (by omega)
    have g := (hc_le r a hr)
    have := Int.mul_le_mul_of_nonneg_right (show min (a + w) r - a ≤ w by omega) (show 0 ≤ hcH r a by omega)
    omega
  · rw [Int.one_mul]
    have := stp 0 (min b r) (by omega) (by omega)
    rw [z, hcH_zero r hr, Int.sub_zero, Int.sub_zero] at this
    have := Int.mul_le_mul_of_nonneg_right (show min b r ≤ b by omega) hr
    omega

/-- the root of a small number, reckoned -/
def iqs (n : Nat) : Nat → Nat → Nat
  | 0, q => q
  | k + 1, q => if (q + 2 ^ k) * (q + 2 ^ k) ≤ n then iqs n k (q + 2 ^ k) else iqs n k q
theorem iqs_spec (n : Nat) : ∀ (k q : Nat), q * q ≤ n → n < (q + 2 ^ k) * (q + 2 ^ k) → iqs n k q * iqs n k q ≤ n ∧ n < (iqs n k q + 1) * (iqs n k q + 1) := by
  intro k
  induction k with
  | zero => intro q h1 h2; exact ⟨h1, by show n < (q + 1) * (q + 1); simpa using h2⟩
  | succ k ih =>
    intro q h1 h2
    unfold iqs
    by_cases h : (q + 2 ^ k) * (q + 2 ^ k) ≤ n
    · rw [if_pos h]
      refine ih _ h ?_
      rw [show q + 2 ^ k + 2 ^ k = q + 2 ^ (k + 1) by rw [Nat.pow_succ]; omega]; exact h2
    · rw [if_neg h]
      exact ih q h1 (by omega)
def iq (n : Nat) : Nat := iqs n 7 0
def ic (n : Nat) : Nat := if iq n * iq n < n then iq n + 1 else iq n
theorem rt_iq (n : Nat) (h : n < 16384) : rt n = iq n := by
  obtain ⟨h1, h2⟩ := iqs_spec n 7 0 (by omega) (by simpa using h)
  exact rt_of (by omega) (by exact_mod_cast h1) (by exact_mod_cast h2)
theorem ce_ic (n : Nat) (h : n < 16384) : ce n = ic n := by
  unfold ce ic
  rw [rt_iq n h]
  by_cases g : iq n * iq n < n
  · rw [if_pos g, if_pos (by exact_mod_cast g)]; simp
  · rw [if_neg g, if_neg (by exact_mod_cast g)]
def addTo (f : Nat → Nat) : Nat → Nat
  | 0 => 0
  | n + 1 => addTo f n + f n
theorem sum_add (f : Nat → Nat) (n : Nat) : sumTo (fun k => (f k : Int)) n = (addTo f n : Int) := by
  induction n with
  | zero => rfl
  | succ n ih =>
    show sumTo _ n + (f n : Int) = ((addTo f n + f n : Nat) : Int)
    rw [ih, Int.natCast_add]
def smallOk (R : Nat) : Bool := decide (452 * addTo (fun k => iq (R * R - (k + 1) * (k + 1))) R ≤ 355 * (R * R)) && decide (333 * (R * R) < 424 * addTo (fun k => ic (R * R - k * k)) R + 106)
theorem small_ok : ∀ R, R < 96 → smallOk R = true := by decide +kernel
theorem sq_nat {k R : Nat} (h : k ≤ R) : ((R * R - k * k : Nat) : Int) = (R : Int) * R - (k : Int) * k := by
  have := Nat.mul_le_mul h h
  rw [Int.ofNat_sub this, Int.natCast_mul, Int.natCast_mul]
theorem unL_small (R : Nat) (h : R < 96) : 226 * unL R R ≤ 355 * ((R : Int) * R) := by
  have ok := small_ok R h
  simp only [smallOk, Bool.and_eq_true, decide_eq_true_eq] at ok
  have e : sumTo (fun k => hcL R (k + 1)) R = (addTo (fun k => iq (R * R - (k + 1) * (k + 1))) R : Int) := by
    rw [← sum_add]
    refine sumTo_same R fun k hk => ?_
    show hcL R ((k : Int) + 1) = _
    rw [← rt_iq _ (by have := Nat.mul_le_mul (show R ≤ 95 by omega) (show R ≤ 95 by omega); omega), sq_nat (by omega)]
    unfold hcL
    rw [if_neg (by omega), Int.natCast_add, Int.natCast_one]
  unfold unL
  rw [Int.toNat_natCast, e]
  have := ok.1
  have e2 : ((R * R : Nat) : Int) = (R : Int) * R := Int.natCast_mul _ _
  omega
theorem unH_small (R : Nat) (h : R < 96) : 333 * ((R : Int) * R) < 212 * unH R R + 106 := by
  have ok := small_ok R h
  simp only [smallOk, Bool.and_eq_true, decide_eq_true_eq] at ok
  have e : sumTo (fun k => hcH R k) R = (addTo (fun k => ic (R * R - k * k)) R : Int) := by
    rw [← sum_add]
    refine sumTo_same R fun k hk => ?_
    show hcH R (k : Int) = _
    rw [← ce_ic _ (by have := Nat.mul_le_mul (show R ≤ 95 by omega) (show R ≤ 95 by omega); omega), sq_nat (by omega)]
    unfold hcH
    rw [if_neg (by omega)]
  unfold unH
  rw [Int.toNat_natCast, e]
  have := ok.2
  have e2 : ((R * R : Nat) : Int) = (R : Int) * R := Int.natCast_mul _ _
  omega

/-! ### heights of n strips -/
def hs (top : Int) (n : Nat) : List Int := (List.range (n + 1)).map fun (i : Nat) => (i : Int) * top / n
theorem hs_len (top : Int) (n : Nat) : (hs top n).length = n + 1 := by simp [hs]
theorem hs_get (top : Int) (n i : Nat) (h : i ≤ n) : (hs top n).getD i 0 = (i : Int) * top / n := by
  unfold hs
  rw [List.getD_eq_getElem?_getD, List.getElem?_map, List.getElem?_range (by omega)]
  rfl
theorem hs_wide (top : Int) (n i : Nat) (hn : 1 ≤ n) (h : i < n) : top / n ≤ (hs top n).getD (i + 1) 0 - (hs top n).getD i 0 := by
  rw [hs_get _ _ _ (by omega), hs_get _ _ _ (by omega)]
  have e : ((i + 1 : Nat) : Int) * top = i * top + top := by rw [Int.natCast_add, Int.add_mul]; simp
  rw [e]
  have h0 : (0 : Int) < n := by omega
  have a := Int.ediv_mul_le ((i : Int) * top) (show (n : Int) ≠ 0 by omega)
  have b := Int.ediv_mul_le top (show (n : Int) ≠ 0 by omega)
  have : (i : Int) * top / n + top / n ≤ (i * top + top) / n := by
    apply Int.le_ediv_of_mul_le h0
    rw [Int.add_mul]; omega
  omega
theorem hs_right (top : Int) (n : Nat) (hn : 1 ≤ n) (hn2 : n ≤ 64) (h0 : 0 ≤ top) (h1 : top ≤ 200000) : HR (hs top n) := by
  have hp : (0 : Int) < n := by omega
  have hw : 0 ≤ top / n := Int.ediv_nonneg h0 (by omega)
  refine ⟨by rw [hs_len]; omega, by rw [hs_len]; omega, fun i hi => ?_, fun i hi => ?_⟩
  · rw [hs_len] at hi
    rw [hs_get _ _ _ (by omega)]
    refine ⟨Int.ediv_nonneg (Int.mul_nonneg (by omega) h0) (by omega), ?_⟩
    have : (i : Int) * top / n < 200001 := by
      apply Int.ediv_lt_of_lt_mul hp
      have m1 := Int.mul_le_mul_of_nonneg_right (show (i : Int) ≤ n by omega) h0
      have m2 := Int.mul_le_mul_of_nonneg_left h1 (show (0 : Int) ≤ n by omega)
      omega
    omega
  · rw [hs_len] at hi
    have := hs_wide top n i hn (by omega)
    omega
theorem whole (R : Nat) (c : Int) (n : Nat) (hR : R ≤ 100000) (hc : (R : Int) ≤ c) (hc2 : c ≤ 100000) (hn : 1 ≤ n) (hn2 : n ≤ 64) :
    113 * prL R c (hs (c + R) n) n ≤ 355 * ((R : Int) * R) ∧ 333 * ((R : Int) * R) < 106 * prH R c (hs (c + R) n) n + 106 := by
  have hr := hs_right (c + R) n hn hn2 (by omega) (by omega)
  have g0 : (hs (c + R) n).getD 0 0 = 0 := by rw [hs_get _ _ _ (by omega)]; simp
  have gn : (hs (c + R) n).getD n 0 = c + R := by
    rw [hs_get _ _ _ (by omega)]
    exact Int.mul_ediv_cancel_left _ (by omega)
  have wid : ∀ i, i < n → (c + R) / n ≤ (hs (c + R) n).getD (i + 1) 0 - (hs (c + R) n).getD i 0 := fun i hi => hs_wide _ n i hn hi
  have w0 : 0 ≤ (c + R) / n := Int.ediv_nonneg (by omega) (by omega)
  by_cases hs96 : R < 96
  · have l := low_sum (un_low R (by omega)) (by omega) (by omega) c (hs (c + R) n) n (fun i hi => by have := wid i hi; omega)
    have h := high_sum (un_high R (by omega)) (by omega) (by omega) (by simp [unH, sumTo]) c (hs (c + R) n) n (fun i hi => by have := wid i hi; omega)
    rw [g0, gn] at l h
    have e1 : c + R - c = R := by omega
    rw [e1, Int.one_mul] at l h
    have s1 := unL_small R hs96
    have s2 := unH_small R hs96
    have p0 : unL R 0 = 0 := by simp [unL, sumTo]
    have p1 : unH R 0 = 0 := by simp [unH, sumTo]
    rw [od_pos _ _ _ (by omega), show min (R : Int) R = R by omega] at l h
    by_cases hz : c = 0
    · obtain rfl : R = 0 := by omega
      subst hz
      rw [od_pos _ _ _ (by omega)] at l h
      simp at l h ⊢
      omega
    · rw [od_neg _ _ _ (by omega), show min (-(0 - c)) (R : Int) = R by omega] at l h
      omega
  · have d32 : (R : Int) / 32 ≤ (c + R) / n := by
      apply Int.le_ediv_of_mul_le (by omega)
      have m := Int.mul_le_mul_of_nonneg_left (show (n : Int) ≤ 64 by omega) (show 0 ≤ (R : Int) / 32 by omega)
      omega
    have hU : LowP 100000 R ((R : Int) / 32) (phiU (gU R) ((R : Int) / 32)) := by
      refine lowP_of (M := 350000) (gU_conc R) (by omega) (by omega) (by omega) (fun y h1 h2 => hcL_up R y (by omega) h1 h2) (fun k => ?_) ?_
      · have g := gU_le R k
        have := gU_ge R (k + 1) (gU R k - 350000) ⟨by omega, by omega, by omega, by omega, by omega, by omega⟩
        omega
      · have := gU_ge R R (14100 * R) ⟨by omega, by omega, by omega, by omega, by omega, by omega⟩
        omega
    have hL : HighP 100000 R ((R : Int) / 32) (psiL (gL R) ((R : Int) / 32) (100000 * R)) := by
      refine highP_of (gL_conc R) (by omega) (by omega) (by omega) ?_ rfl (fun k hk => ?_) (fun y h1 h2 => hcH_low R y (by omega) h1 h2)
      · exact gL_ge R R 0 ⟨by omega, by omega, by omega, by omega, by omega, by omega, by omega, by omega, by omega⟩
      · have := (gL_le R k).1
        have := gL_ge R k (100000 * R) ⟨by omega, by omega, by omega, by omega, by omega, by omega, by omega, by omega, by omega⟩
        omega
    have l := low_sum hU (by omega) (by omega) c (hs (c + R) n) n (fun i hi => by have := wid i hi; omega)
    have p1 : psiL (gL R) ((R : Int) / 32) (100000 * R) 0 = 0 := by
      have := (gL_le R (0 - 2 * ((R : Int) / 32))).1
      have h2 := gL_ge R (0 - 2 * ((R : Int) / 32)) (100000 * R) ⟨by omega, by omega, by omega, by omega, by omega, by omega, by omega, by omega, by omega⟩
      have e : gL R (0 - 2 * ((R : Int) / 32)) = 100000 * R := by omega
      unfold psiL
      rw [e]; simp [tz]
    have h := high_sum hL (by omega) (by omega) p1 c (hs (c + R) n) n (fun i hi => by have := wid i hi; omega)
    rw [g0, gn] at l h
    have e1 : c + R - c = R := by omega
    rw [e1, od_pos _ _ _ (by omega), od_neg _ _ _ (by omega), show min (-(0 - c)) (R : Int) = R by omega, show min (R : Int) R = R by omega] at l h
    have s1 := phi_total R (by omega)
    have s2 := psi_total R (by omega)
    generalize phiU (gU R) ((R : Int) / 32) R = P at *
    generalize psiL (gL R) ((R : Int) / 32) (100000 * R) R = Q at *
    generalize prL R c (hs (c + R) n) n = X at *
    generalize prH R c (hs (c + R) n) n = Y at *
    omega
end Go.Proofs.YtmdpdpbkbakidaaGreat
