/- Texts that the proofs of this seat share, one behind the other: Kit, Two, PPL0, PM, LB0, PPM, PRA, PRB, CF, KRA, PKept, TailIn, Ups, PPB, PPC, PPD, PPA, PPEC, PPE, KPA, KPB, PC0, PF, RM, SM, LM, LN. -/
import Derived.Test.YtgjdopjolokaiaaProg
import Derived.Test.YtgjdopjolokaiaaRows
import Derived.Test.YtgjdopjolokaiaaShelf
import Derived.WalkKit
import Derived.Handy
import Derived.Lib.Hide
import Derived.Lib.LaidTab
import Derived.Lib.LaidU8
import Derived.Lib.ItoaNum
import Derived.Outline
import Derived.Deep.DeepCutAuto
import Derived.Deep.CutBlock
import Derived.Deep.QuietTactic
import Derived.BigQuiet
import Derived.Lib.OwnBridge
import Derived.OwnWalk
import Derived.Shelf.SlicesQ.Reverse
import Derived.Ground.SlgnProg
import Derived.RangeFuncNested
import Derived.RangeFuncBound
import Derived.RangeFuncCalls
import Derived.RangeFuncLeaves
import Derived.RangeFuncBox
import Derived.StillTail
import Derived.StillTactics
import Derived.OrdersIn
import Derived.TacticsIn
import Derived.Shelf.Abstract
import Derived.Shelf.RegionOpen
import Derived.OwnWalkIn
import Derived.TacticsInMore
import Derived.LoopNIn
import Derived.LoopIn
import Derived.Deep.RegionHeld3
import Derived.Laws.EntriesVeiled
import Derived.FnLit

set_option linter.unusedVariables false
set_option linter.unusedSimpArgs false

/- What every text of this seat needs: worlds that only grow, the listed variables. -/
namespace Go.Proofs.Ytgjdopjolokaiaa
open Go.RowKit

theorem bel_alloc {w w' : World} {o : Obj} (h : Below (w.alloc o).heap.size (w.alloc o) w') : Below w.heap.size w w' :=
  ((Below.refl _ _).alloc (Nat.le_refl _) o).trans (h.mono (by simp))
theorem bel_trans {w w1 w2 : World} (h : Below w.heap.size w w1) (h2 : Below w1.heap.size w1 w2) : Below w.heap.size w w2 := h.trans (h2.mono h.size)
theorem bel_drewN (w : World) (n : Nat) : Below w.heap.size w (w.drewN n) := ⟨rfl, rfl, rfl, Nat.le_refl _, fun _ _ => rfl⟩
theorem bel_drew (w : World) : Below w.heap.size w w.drew := ⟨rfl, rfl, rfl, Nat.le_refl _, fun _ _ => rfl⟩
theorem bcell {W w1 : World} (hb : Below W.heap.size W w1) : (∀ b o, b < W.heap.size → w1.cell? ⟨b, o, none⟩ = W.cell? ⟨b, o, none⟩) ∧ (∀ b o, b < W.heap.size → w1.frozen? ⟨b, o, none⟩ = W.frozen? ⟨b, o, none⟩) :=
  ⟨fun b o h => hb.cell (p := ⟨b, o, none⟩) h, fun b o h => hb.frozen (p := ⟨b, o, none⟩) h⟩

theorem var_keep {P : Program} {w w' : World} {n : String} (g : Nat) (hg : P.globalNamed n = some g) (hlt : g < w.heap.size) (hb : Below w.heap.size w w') : w'.var? P n = w.var? P n := by
  simp only [World.var?, hg, Option.bind_some]
  rw [hb.block g hlt]
theorem tab_keep {P : Program} {w w' : World} {n : String} {k : IntKind} {zs : List Int} (g : Nat) (hg : P.globalNamed n = some g) (hz : 0 < zs.length) (h : Lib.TabIs P w n k zs) (hb : Below w.heap.size w w') : Lib.TabIs P w' n k zs := by
  unfold Lib.TabIs at *
  rw [var_keep g hg ?_ hb, h]
  have := Lib.TabIs.cell (P := P) (W := w) h hg 0 hz
  exact World.block_lt_of_cell? w ⟨g, 0, none⟩ this

/-- a listed table of integers -/
theorem tab_of {P : Program} {W : World} {l : List (String × DataW Unit)} {name : String} {d : DataW Unit} {k : IntKind} {zs : List Int} {g : Nat} {t e : TypeId} {n : Nat}
    (h : laidMet P l W) (hm : (name, d) ∈ l) (hd : d = Lib.tabData k zs)
    (hg : P.globalNamed name = some g) (hty : (P.globals[g]?).map (·.type) = some t) (ht : P.underlying t = some (.array n e)) (he : P.underlying e = some (.int k)) (hce : P.cellsOf e = 1) (hct : P.cellsOf t = n) : Lib.TabIs P W name k zs := by
  subst hd
  obtain ⟨g', t', cs, fuel, p, hg', ht', hvar, hr⟩ := Lib.laidMet.reads h hm
  obtain rfl := Option.some.inj (hg.symm.trans hg')
  obtain rfl := Option.some.inj (hty.symm.trans ht')
  unfold Lib.TabIs
  rw [hvar, ← Lib.cells_of_tab ht he hce hct hr]

theorem wrap_wrap_add (a b : Int) : IntKind.i64.wrap (IntKind.i64.wrap a + b) = IntKind.i64.wrap (a + b) := by simp only [IntKind.wrap_i64]; omega
theorem wrap_wrap_sub (a b : Int) : IntKind.i64.wrap (IntKind.i64.wrap a - b) = IntKind.i64.wrap (a - b) := by simp only [IntKind.wrap_i64]; omega
theorem wrap_add_wrap (a b : Int) : IntKind.i64.wrap (a + IntKind.i64.wrap b) = IntKind.i64.wrap (a + b) := by simp only [IntKind.wrap_i64]; omega
theorem wrap_sub_wrap (a b : Int) : IntKind.i64.wrap (a - IntKind.i64.wrap b) = IntKind.i64.wrap (a - b) := by simp only [IntKind.wrap_i64]; omega
theorem wrap_bd (a : Int) : -9223372036854775808 ≤ IntKind.i64.wrap a ∧ IntKind.i64.wrap a ≤ 9223372036854775807 := by simp only [IntKind.wrap_i64]; omega
theorem wrap_in (a : Int) (h : -9223372036854775808 ≤ a ∧ a ≤ 9223372036854775807) : IntKind.i64.wrap a = a := by simp only [IntKind.wrap_i64]; omega

theorem ret_int {k : IntKind} {a b : Int} (h : a = b) : Ending.returned (.int k a) = .returned (.int k b) := by rw [h]
theorem ret_bool {a b : Bool} (h : a = b) : Ending.returned (.bool a) = .returned (.bool b) := by rw [h]
end Go.Proofs.Ytgjdopjolokaiaa

/- A block with two cells. -/
namespace Go.Proofs.Ytgjdopjolokaiaa
open Go.RowKit

def Two (b : Nat) (W : World) (x y : Value) : Prop := W.cell? ⟨b, 0, none⟩ = some x ∧ W.cell? ⟨b, 1, none⟩ = some y ∧ W.frozen? ⟨b, 0, none⟩ = false ∧ W.frozen? ⟨b, 1, none⟩ = false ∧ b < W.heap.size
theorem Two.below {b : Nat} {W W' : World} {x y : Value} (h : Two b W x y) (hb : Below W.heap.size W W') : Two b W' x y := by
  obtain ⟨h0, h1, h2, h3, h4⟩ := h
  exact ⟨by rw [(bcell hb).1 _ _ h4]; exact h0, by rw [(bcell hb).1 _ _ h4]; exact h1, by rw [(bcell hb).2 _ _ h4]; exact h2, by rw [(bcell hb).2 _ _ h4]; exact h3, Nat.lt_of_lt_of_le h4 hb.size⟩
theorem Two.alloc {b : Nat} {W : World} {x y : Value} (h : Two b W x y) (o : Obj) : Two b (W.alloc o) x y := h.below (bel_alloc (Below.refl _ _))
theorem Two.new (W : World) (x y : Value) (T : TypeId) : Two W.heap.size (W.alloc (.cells #[x, y] T)) x y := ⟨by simp [go_sem], by simp [go_sem], by simp [go_sem], by simp [go_sem], by simp⟩
theorem two_read (w : World) (b : Nat) (u v : Value) {a c : Value} (h0 : w.cell? ⟨b, 0, none⟩ = some a) (h1 : w.cell? ⟨b, 1, none⟩ = some c) :
    ((w.setCell ⟨b, 0, none⟩ u).setCell ⟨b, 1, none⟩ v).cell? ⟨b, 0, none⟩ = some u ∧ ((w.setCell ⟨b, 0, none⟩ u).setCell ⟨b, 1, none⟩ v).cell? ⟨b, 1, none⟩ = some v := by
  refine ⟨?_, ?_⟩
  · rw [World.cell?_setCell_other _ _ _ _ (by simp), World.cell?_setCell_same _ _ _ h0]
  · rw [World.cell?_setCell_same (u := c)]
    rw [World.cell?_setCell_other _ _ _ _ (by simp), h1]
theorem Two.set1 {b : Nat} {W : World} {x y : Value} (h : Two b W x y) (z : Value) : Two b (W.setCell ⟨b, 1, none⟩ z) x z := by
  obtain ⟨h0, h1, h2, h3, h4⟩ := h
  refine ⟨?_, ?_, ?_, ?_, ?_⟩
  · rw [World.cell?_setCell_other _ _ _ _ (by simp)]; exact h0
  · exact World.cell?_setCell_same _ _ _ h1
  · rw [World.frozen?_setCell]; exact h2
  · rw [World.frozen?_setCell]; exact h3
  · simpa [World.setCell] using h4
theorem Two.other {b : Nat} {W : World} {x y : Value} (h : Two b W x y) (p : Addr) (hp : p.block ≠ b) (z : Value) : Two b (W.setCell p z) x y := by
  obtain ⟨h0, h1, h2, h3, h4⟩ := h
  refine ⟨?_, ?_, ?_, ?_, ?_⟩
  · rw [World.cell?_setCell_other _ _ _ _ (by intro e; apply hp; rw [e])]; exact h0
  · rw [World.cell?_setCell_other _ _ _ _ (by intro e; apply hp; rw [e])]; exact h1
  · rw [World.frozen?_setCell]; exact h2
  · rw [World.frozen?_setCell]; exact h3
  · simpa [World.setCell] using h4
theorem Two.set0 {b : Nat} {W : World} {x y : Value} (h : Two b W x y) (z : Value) : Two b (W.setCell ⟨b, 0, none⟩ z) z y := by
  obtain ⟨h0, h1, h2, h3, h4⟩ := h
  refine ⟨?_, ?_, ?_, ?_, ?_⟩
  · exact World.cell?_setCell_same _ _ _ h0
  · rw [World.cell?_setCell_other _ _ _ _ (by simp)]; exact h1
  · rw [World.frozen?_setCell]; exact h2
  · rw [World.frozen?_setCell]; exact h3
  · simpa [World.setCell] using h4
end Go.Proofs.Ytgjdopjolokaiaa

/- Slices that read as lists of points; comparisons. -/
namespace Go.Proofs.Ytgjdopjolokaiaa
open Go.RowKit Go.Sort

/-- the point at a place of a list -/
def gX (l : List (Int × Int)) (j : Nat) : Int := (l.getD j (0, 0)).1
def gR (l : List (Int × Int)) (j : Nat) : Int := (l.getD j (0, 0)).2

/-- a value is a slice that reads as a list of points -/
def Pts (w : World) (v : Value) (l : List (Int × Int)) : Prop :=
  ∃ a cap, v = .slice a l.length cap ∧ (l.length ≤ cap ∧ cap ≤ 9223372036854775807) ∧
    (l.length = 0 ∨ ∃ b off, a = some ⟨b, off, none⟩ ∧ b < w.heap.size ∧ ∀ j, j < l.length → w.cell? ⟨b, off + j * 2, none⟩ = some (.int .i64 (gX l j)) ∧ w.cell? ⟨b, off + j * 2 + 1, none⟩ = some (.int .i64 (gR l j)))
theorem Pts.below {w w' : World} {v : Value} {l : List (Int × Int)} (h : Pts w v l) (hb : Below w.heap.size w w') : Pts w' v l := by
  obtain ⟨a, cap, rfl, hl, h | ⟨b, off, rfl, hlt, hc⟩⟩ := h
  · exact ⟨a, cap, rfl, hl, .inl h⟩
  · exact ⟨_, cap, rfl, hl, .inr ⟨b, off, rfl, Nat.lt_of_lt_of_le hlt hb.size, fun j hj => by rw [(bcell hb).1 _ _ hlt, (bcell hb).1 _ _ hlt]; exact hc j hj⟩⟩
theorem Pts.alloc {w : World} {v : Value} {l : List (Int × Int)} (h : Pts w v l) (o : Obj) : Pts (w.alloc o) v l := h.below (bel_alloc (Below.refl _ _))
theorem Pts.shape {W : World} {v : Value} {l : List (Int × Int)} (h : Pts W v l) : ∃ a cap, v = .slice a l.length cap ∧ l.length ≤ cap ∧ cap ≤ 9223372036854775807 := by
  obtain ⟨a, cap, e, ⟨h1, h2⟩, _⟩ := h
  exact ⟨a, cap, e, h1, h2⟩
theorem Pts.len {W : World} {a : Option Addr} {n cap : Nat} {l : List (Int × Int)} (h : Pts W (.slice a n cap) l) : n = l.length := by
  obtain ⟨a', c', e, _⟩ := h
  simp only [Value.slice.injEq] at e
  exact e.2.1
theorem Pts.at {W : World} {a : Option Addr} {n cap : Nat} {l : List (Int × Int)} (h : Pts W (.slice a n cap) l) (h0 : 0 < n) :
    ∃ b off, a = some ⟨b, off, none⟩ ∧ b < W.heap.size ∧ ∀ j, j < n → W.cell? ⟨b, off + j * 2, none⟩ = some (.int .i64 (gX l j)) ∧ W.cell? ⟨b, off + j * 2 + 1, none⟩ = some (.int .i64 (gR l j)) := by
  have hl := h.len
  obtain ⟨a', c', e, _, hh⟩ := h
  simp only [Value.slice.injEq] at e
  obtain ⟨rfl, rfl, rfl⟩ := e
  rcases hh with hh | hh
  · omega
  · exact hh
theorem pts_nil (w : World) : Pts w (.slice none 0 0) [] := ⟨none, 0, rfl, by simp, .inl rfl⟩

/-- the cells of a list of points -/
def flat : List (Int × Int) → List Value
  | [] => []
  | q :: l => .int .i64 q.1 :: .int .i64 q.2 :: flat l
theorem flat_len (l : List (Int × Int)) : (flat l).length = l.length * 2 := by
  induction l with
  | nil => rfl
  | cons q l ih => simp only [flat, List.length_cons, ih]; omega
theorem flat_app (l m : List (Int × Int)) : flat (l ++ m) = flat l ++ flat m := by
  induction l with
  | nil => rfl
  | cons q l ih => simp only [List.cons_append, flat, ih]
theorem flat_at (l : List (Int × Int)) (j : Nat) (h : j < l.length) : (flat l)[j * 2]? = some (.int .i64 (gX l j)) ∧ (flat l)[j * 2 + 1]? = some (.int .i64 (gR l j)) := by
  induction l generalizing j with
  | nil => simp at h
  | cons q l ih =>
    cases j with
    | zero => simp [flat, gX, gR]
    | succ j =>
      have := ih j (by simpa using h)
      rw [show (j + 1) * 2 = j * 2 + 1 + 1 by omega]
      simp only [flat, List.getElem?_cons_succ, gX, gR, List.getD_cons_succ]
      exact this
theorem flat_one (l : List (Int × Int)) : ∀ u ∈ flat l, u.oneCell' = true := by
  induction l with
  | nil => intro u h; cases h
  | cons q l ih =>
    intro u h
    simp only [flat, List.mem_cons] at h
    rcases h with rfl | rfl | h
    · rfl
    · rfl
    · exact ih u h
theorem flat_inv (l : List (Int × Int)) (j : Nat) (u : Value) (h : (flat l)[j]? = some u) : ∃ i, i < l.length ∧ ((j = i * 2 ∧ u = .int .i64 (gX l i)) ∨ (j = i * 2 + 1 ∧ u = .int .i64 (gR l i))) := by
  have hj : j < (flat l).length := (List.getElem?_eq_some_iff.1 h).1
  rw [flat_len] at hj
  refine ⟨j / 2, by omega, ?_⟩
  have := flat_at l (j / 2) (by omega)
  rcases Nat.mod_two_eq_zero_or_one j with e | e
  · left
    have hj2 : j = j / 2 * 2 := by omega
    refine ⟨hj2, ?_⟩
    have h' := h
    rw [hj2, this.1] at h'
    exact (Option.some.inj h').symm
  · right
    have hj2 : j = j / 2 * 2 + 1 := by omega
    refine ⟨hj2, ?_⟩
    have h' := h
    rw [hj2, this.2] at h'
    exact (Option.some.inj h').symm

/-- a slice of the call's own holds the points -/
def OwnP (w : World) (B : Nat) (v : Value) (l : List (Int × Int)) : Prop := w.ownsRow B 33 2 v l.length (flat l)
theorem OwnP.pts {w : World} {B : Nat} {v : Value} {l : List (Int × Int)} (h : OwnP w B v l) : Pts w v l := by
  have h' := h
  obtain ⟨_, h2⟩ := h
  rcases h2 with ⟨rfl, hn⟩ | ⟨g, cap, cur, rfl, hg, hh, hc, hm, hs, ht⟩
  · exact ⟨none, 0, by rw [hn], by omega, .inl hn⟩
  · have hlt : g < w.heap.size := by
      rcases Nat.lt_or_ge g w.heap.size with h | h
      · exact h
      · rw [Array.getElem?_eq_none h] at hh; cases hh
    unfold maxLen at hm
    refine ⟨_, cap, rfl, ⟨hc, by omega⟩, .inr ⟨g, 0, rfl, hlt, fun j hj => ?_⟩⟩
    have hcell := World.ownsRow.cells h' (g := g) rfl
    have hf := flat_at l j hj
    have c0 := hcell _ _ hf.1
    have c1 := hcell _ _ hf.2
    rw [Go.WideShapes.add_plain] at c0 c1
    exact ⟨c0, by rw [Nat.add_assoc]; exact c1⟩
theorem pts_lit (w : World) (l : List (Int × Int)) (cs : List Value) (h : cs = flat l) (hn : l.length ≤ 1000) :
    Pts (w.alloc (.cells cs.toArray 33)) (.slice (some ⟨w.heap.size, 0, none⟩) l.length l.length) l := by
  refine ⟨_, _, rfl, by omega, .inr ⟨w.heap.size, 0, rfl, by simp, fun j hj => ?_⟩⟩
  subst h
  have hf := flat_at l j hj
  have hl := flat_len l
  rw [World.cell?_alloc_new, World.cell?_alloc_new]
  simp only [Nat.zero_add]
  exact ⟨by simpa using hf.1, by simpa using hf.2⟩

theorem pt_info : (Try.prog.info? 33).map (fun i => (i.zero, i.size, i.bytes)) = some (some (.agg #[.int .i64 0, .int .i64 0]), 2, 16) := by kernel_rfl

/-! ### points, compared -/
def samP (a b x y : Int) : Bool := a == x && b == y
theorem run_same_point (a b x y : Int) (w : World) :
    (Op.equalIn 10000 33 (.agg #[.int .i64 a, .int .i64 b]) (.agg #[.int .i64 x, .int .i64 y])).run Try.prog w = .ok (samP a b x y) w := by
  rw [show (10000 : Nat) = 9999 + 1 from rfl, run_equalIn_agg w 9999 33 _ _ (by kernel_rfl) (by kernel_rfl)]
  have hf : (Try.prog.fieldsOf 33).toList.map (fun f => (f.name, f.type, f.offset)) = [("X", 3, 0), ("Radius", 3, 1)] := by kernel_rfl
  generalize (Try.prog.fieldsOf 33).toList = fs at *
  obtain ⟨f, g, rfl⟩ : ∃ f g, fs = [f, g] := by
    have hl := congrArg List.length hf
    rw [List.length_map] at hl
    rcases fs with _ | ⟨f, _ | ⟨g, _ | ⟨h, fs⟩⟩⟩ <;> simp at hl
    exact ⟨f, g, rfl⟩
  simp only [List.map_cons, List.map_nil, List.cons.injEq, Prod.mk.injEq, and_true] at hf
  obtain ⟨⟨f1, f2, f3⟩, g1, g2, g3⟩ := hf
  have eq : ∀ (u v : Int) (W : World), (Op.equalIn 9999 3 (.int .i64 u) (.int .i64 v)).run Try.prog W = .ok (u == v) W := fun u v W => run_equalIn_int W 9998 3 .i64 .i64 u v Try.underlying3
  by_cases e1 : a = x <;> by_cases e2 : b = y <;> simp [Op.eqFields, f1, f2, f3, g1, g2, g3, go_sem, samP, eq, e1, e2]
theorem run_neq_point (a b x y : Int) (w : World) :
    (binOp .neq 33 (.agg #[.int .i64 a, .int .i64 b]) (.agg #[.int .i64 x, .int .i64 y])).run Try.prog w = .ok (.bool (!samP a b x y)) w := by
  rw [run_neq_struct, run_same_point]; rfl
theorem run_eql_point (a b x y : Int) (w : World) :
    (binOp .eql 33 (.agg #[.int .i64 a, .int .i64 b]) (.agg #[.int .i64 x, .int .i64 y])).run Try.prog w = .ok (.bool (samP a b x y)) w := by
  rw [run_eql_struct, run_same_point]; rfl
/-! ### bounds, compared -/
def samB (a b x y : Int) : Bool := a == x && b == y
theorem run_same_bounds (a b x y : Int) (w : World) :
    (Op.equalIn 10000 40 (.agg #[.int .i64 a, .int .i64 b]) (.agg #[.int .i64 x, .int .i64 y])).run Try.prog w = .ok (samB a b x y) w := by
  rw [show (10000 : Nat) = 9999 + 1 from rfl, run_equalIn_agg w 9999 40 _ _ (by kernel_rfl) (by kernel_rfl)]
  have hf : (Try.prog.fieldsOf 40).toList.map (fun f => (f.name, f.type, f.offset)) = [("Low", 3, 0), ("High", 3, 1)] := by kernel_rfl
  generalize (Try.prog.fieldsOf 40).toList = fs at *
  obtain ⟨f, g, rfl⟩ : ∃ f g, fs = [f, g] := by
    have hl := congrArg List.length hf
    rw [List.length_map] at hl
    rcases fs with _ | ⟨f, _ | ⟨g, _ | ⟨h, fs⟩⟩⟩ <;> simp at hl
    exact ⟨f, g, rfl⟩
  simp only [List.map_cons, List.map_nil, List.cons.injEq, Prod.mk.injEq, and_true] at hf
  obtain ⟨⟨f1, f2, f3⟩, g1, g2, g3⟩ := hf
  have eq : ∀ (u v : Int) (W : World), (Op.equalIn 9999 3 (.int .i64 u) (.int .i64 v)).run Try.prog W = .ok (u == v) W := fun u v W => run_equalIn_int W 9998 3 .i64 .i64 u v Try.underlying3
  by_cases e1 : a = x <;> by_cases e2 : b = y <;> simp [Op.eqFields, f1, f2, f3, g1, g2, g3, go_sem, samB, eq, e1, e2]
theorem run_neq_bounds (a b x y : Int) (w : World) :
    (binOp .neq 40 (.agg #[.int .i64 a, .int .i64 b]) (.agg #[.int .i64 x, .int .i64 y])).run Try.prog w = .ok (.bool (!samB a b x y)) w := by
  rw [run_neq_struct, run_same_bounds]; rfl
theorem run_eql_bounds (a b x y : Int) (w : World) :
    (binOp .eql 40 (.agg #[.int .i64 a, .int .i64 b]) (.agg #[.int .i64 x, .int .i64 y])).run Try.prog w = .ok (.bool (samB a b x y)) w := by
  rw [run_eql_struct, run_same_bounds]; rfl
end Go.Proofs.Ytgjdopjolokaiaa

/- Plain facts on a line between two points: its heights rounded down and up. No program stands in this text. -/
namespace Go.Proofs.Ytgjdopjolokaiaa

/-- a ratio, rounded up -/
def cdv (n d : Int) : Int := (n + d - 1) / d
theorem fl_iff (n d k : Int) (h : 0 < d) : k ≤ n / d ↔ k * d ≤ n := Int.le_ediv_iff_mul_le h
theorem cl_iff (n d k : Int) (h : 0 < d) : cdv n d ≤ k ↔ n ≤ k * d := by
  unfold cdv
  have e : (k + 1) * d = k * d + d := by rw [Int.add_mul]; omega
  constructor
  · intro hk
    have : (n + d - 1) / d < k + 1 := by omega
    have := Int.lt_mul_of_ediv_lt h this
    rw [e] at this
    omega
  · intro hk
    have : (n + d - 1) / d < k + 1 := Int.ediv_lt_of_lt_mul h (by rw [e]; omega)
    omega
/-- m / b ≤ n / c, as ratios -/
theorem fl_mono {m b n c : Int} (hb : 0 < b) (hc : 0 < c) (h : m * c ≤ n * b) : m / b ≤ n / c := by
  rw [fl_iff _ _ _ hc]
  have h1 := Int.ediv_mul_le m (show b ≠ 0 by omega)
  have h2 := Int.mul_le_mul_of_nonneg_right h1 (show 0 ≤ c by omega)
  have h3 : (m / b * c) * b ≤ n * b := by
    have : m / b * c * b = m / b * b * c := by rw [Int.mul_right_comm]
    omega
  exact Int.le_of_mul_le_mul_right h3 hb
theorem cl_ge (n d : Int) (h : 0 < d) : n ≤ cdv n d * d := (cl_iff n d _ h).1 (Int.le_refl _)
theorem cl_mono {m b n c : Int} (hb : 0 < b) (hc : 0 < c) (h : m * c ≤ n * b) : cdv m b ≤ cdv n c := by
  rw [cl_iff _ _ _ hb]
  have h1 := cl_ge n c hc
  have h2 := Int.mul_le_mul_of_nonneg_right h1 (show 0 ≤ b by omega)
  have h3 : m * c ≤ (cdv n c * b) * c := by
    have : cdv n c * b * c = cdv n c * c * b := by rw [Int.mul_right_comm]
    omega
  exact Int.le_of_mul_le_mul_right h3 hc
theorem fl_same {m b n c : Int} (hb : 0 < b) (hc : 0 < c) (h : m * c = n * b) : m / b = n / c :=
  Int.le_antisymm (fl_mono hb hc (by omega)) (fl_mono hc hb (by omega))
theorem cl_same {m b n c : Int} (hb : 0 < b) (hc : 0 < c) (h : m * c = n * b) : cdv m b = cdv n c :=
  Int.le_antisymm (cl_mono hb hc (by omega)) (cl_mono hc hb (by omega))
theorem fl_cl (n d : Int) (h : 0 < d) : n / d ≤ cdv n d ∧ cdv n d ≤ n / d + 1 := by
  constructor
  · have h1 := Int.ediv_mul_le n (show d ≠ 0 by omega)
    have h2 := cl_ge n d h
    exact Int.le_of_mul_le_mul_right (show n / d * d ≤ cdv n d * d by omega) h
  · rw [cl_iff _ _ _ h, Int.add_mul]
    have h1 := Int.emod_add_mul_ediv n d
    have h2 := Int.emod_lt_of_pos n h
    rw [Int.mul_comm] at h1
    omega
theorem fl_int (k d : Int) (h : 0 < d) : k * d / d = k := Int.mul_ediv_cancel k (by omega)
theorem cl_int (k d : Int) (h : 0 < d) : cdv (k * d) d = k := by
  have h1 := (cl_iff (k * d) d k h).2 (Int.le_refl _)
  have h2 := cl_ge (k * d) d h
  have := Int.le_of_mul_le_mul_right h2 h
  omega

/-! ### a line from (a, p) to (b, q) -/
def lnN (a p b q x : Int) : Int := p * (b - a) + (q - p) * (x - a)
theorem lnN_left (a p b q : Int) : lnN a p b q a = p * (b - a) := by unfold lnN; simp
theorem lnN_right (a p b q : Int) : lnN a p b q b = q * (b - a) := by unfold lnN; grind
theorem lnN_up {a p b q x y : Int} (h : p ≤ q) (hx : x ≤ y) : lnN a p b q x ≤ lnN a p b q y := by
  unfold lnN
  have := Int.mul_le_mul_of_nonneg_left (show x - a ≤ y - a by omega) (show 0 ≤ q - p by omega)
  omega
theorem lnN_down {a p b q x y : Int} (h : q ≤ p) (hx : x ≤ y) : lnN a p b q y ≤ lnN a p b q x := by
  unfold lnN
  have := Int.mul_le_mul_of_nonneg_left (show x - a ≤ y - a by omega) (show 0 ≤ p - q by omega)
  have e : ∀ z, (q - p) * z = -((p - q) * z) := fun z => by grind
  rw [e, e]
  omega
theorem ln_between {a p b q x : Int} (hab : a < b) (h1 : a ≤ x) (h2 : x ≤ b) : min p q ≤ lnN a p b q x / (b - a) ∧ cdv (lnN a p b q x) (b - a) ≤ max p q := by
  have hd : 0 < b - a := by omega
  rw [fl_iff _ _ _ hd, cl_iff _ _ _ hd]
  by_cases h : p ≤ q
  · have u1 := lnN_up (a := a) (b := b) h h1
    have u2 := lnN_up (a := a) (b := b) h h2
    rw [lnN_left] at u1
    rw [lnN_right] at u2
    rw [show min p q = p by omega, show max p q = q by omega]
    exact ⟨u1, u2⟩
  · have u1 := lnN_down (a := a) (b := b) (show q ≤ p by omega) h1
    have u2 := lnN_down (a := a) (b := b) (show q ≤ p by omega) h2
    rw [lnN_left] at u1
    rw [lnN_right] at u2
    rw [show min p q = q by omega, show max p q = p by omega]
    exact ⟨u2, u1⟩
/-- a point (m, s) on the line: both parts are the line -/
theorem ln_part1 {a p b q m s x : Int} (hab : a < b) (hm : a < m) (hs : s * (b - a) = lnN a p b q m) :
    lnN a p m s x / (m - a) = lnN a p b q x / (b - a) ∧ cdv (lnN a p m s x) (m - a) = cdv (lnN a p b q x) (b - a) := by
  have e : lnN a p m s x * (b - a) = lnN a p b q x * (m - a) := by unfold lnN at *; grind
  exact ⟨fl_same (by omega) (by omega) e, cl_same (by omega) (by omega) e⟩
theorem ln_part2 {a p b q m s x : Int} (hab : a < b) (hm : m < b) (hs : s * (b - a) = lnN a p b q m) :
    lnN m s b q x / (b - m) = lnN a p b q x / (b - a) ∧ cdv (lnN m s b q x) (b - m) = cdv (lnN a p b q x) (b - a) := by
  have e : lnN m s b q x * (b - a) = lnN a p b q x * (b - m) := by unfold lnN at *; grind
  exact ⟨fl_same (by omega) (by omega) e, cl_same (by omega) (by omega) e⟩
/-- the line from the other end -/
theorem ln_turn (a p b q x L : Int) : lnN (L - b) q (L - a) p (L - x) = lnN a p b q x ∧ (L - a) - (L - b) = b - a := by
  refine ⟨?_, by omega⟩
  unfold lnN; grind
/-- a line that lies at both ends of a part by t below another one lies so between them -/
theorem ln_below {a p b q c u d v x t : Int} (hab : a < b) (hcd : c < d) (h1 : c ≤ x) (h2 : x ≤ d) (hu : (u + t) * (b - a) ≤ lnN a p b q c) (hv : (v + t) * (b - a) ≤ lnN a p b q d) :
    lnN c u d v x / (d - c) ≤ lnN a p b q x / (b - a) - t ∧ cdv (lnN c u d v x) (d - c) ≤ cdv (lnN a p b q x) (b - a) - t := by
  have m1 := Int.mul_le_mul_of_nonneg_right hu (show 0 ≤ d - x by omega)
  have m2 := Int.mul_le_mul_of_nonneg_right hv (show 0 ≤ x - c by omega)
  have e1 : (lnN c u d v x + t * (d - c)) * (b - a) = (u + t) * (b - a) * (d - x) + (v + t) * (b - a) * (x - c) := by unfold lnN; grind
  have e2 : lnN a p b q x * (d - c) = lnN a p b q c * (d - x) + lnN a p b q d * (x - c) := by unfold lnN; grind
  have key : (lnN c u d v x + t * (d - c)) * (b - a) ≤ lnN a p b q x * (d - c) := by omega
  have hd : 0 < d - c := by omega
  have f1 := fl_mono hd (show 0 < b - a by omega) key
  have f2 := cl_mono hd (show 0 < b - a by omega) key
  have g1 : (lnN c u d v x + t * (d - c)) / (d - c) = lnN c u d v x / (d - c) + t := Int.add_mul_ediv_right _ _ (by omega)
  have g2 : cdv (lnN c u d v x + t * (d - c)) (d - c) = cdv (lnN c u d v x) (d - c) + t := by
    unfold cdv
    rw [show lnN c u d v x + t * (d - c) + (d - c) - 1 = lnN c u d v x + (d - c) - 1 + t * (d - c) by omega]
    exact Int.add_mul_ediv_right _ _ (by omega)
  omega
end Go.Proofs.Ytgjdopjolokaiaa

/- Plain facts: lengths. -/
namespace Go.Proofs.Ytgjdopjolokaiaa

def lenB (n : Int) : Bool := decide (0 ≤ n) && decide (n ≤ 100000)
theorem lenB_iff (n : Int) : lenB n = true ↔ 0 ≤ n ∧ n ≤ 100000 := by simp [lenB]
end Go.Proofs.Ytgjdopjolokaiaa

/- Plain facts of profiles: the first fault, the bung, the pieces. -/
namespace Go.Proofs.Ytgjdopjolokaiaa

def ptOut (q : Int × Int) : Bool := !(lenB q.1 && lenB q.2)
def ptCl (q : Int × Int) : Bool := q.2 == 0
/-- the X of the first k + 1 points increase -/
def adv (l : List (Int × Int)) : Nat → Bool
  | 0 => true
  | k + 1 => adv l k && decide (gX l k < gX l (k + 1))
/-- one of the first k pieces falls -/
def fal (l : List (Int × Int)) : Nat → Bool
  | 0 => false
  | k + 1 => fal l k || decide (gR l (k + 1) < gR l k)
/-- one of the first k pieces rises behind one that falls -/
def swl (l : List (Int × Int)) : Nat → Bool
  | 0 => false
  | k + 1 => swl l k || (fal l k && decide (gR l k < gR l (k + 1)))
/-- the first fault -/
def ckE (l : List (Int × Int)) : Int :=
  if l.length < 2 then 9 else if 32 < l.length then 8 else if l.any ptOut then 2 else if (adv l (l.length - 1) && (gX l 0 == 0)) = false then 5 else if l.any ptCl then 16 else if swl l (l.length - 1) then 10 else 0
/-- a right profile -/
structure RP (l : List (Int × Int)) : Prop where
  n0 : 2 ≤ l.length
  n1 : l.length ≤ 32
  bx : ∀ i, i < l.length → 0 ≤ gX l i ∧ gX l i ≤ 100000
  br : ∀ i, i < l.length → 1 ≤ gR l i ∧ gR l i ≤ 100000
  x0 : gX l 0 = 0
  asc : ∀ i, i + 1 < l.length → gX l i < gX l (i + 1)
  ns : ∀ i j, i ≤ j → j + 1 < l.length → gR l (i + 1) < gR l i → gR l (j + 1) ≤ gR l j

theorem any_of {p : Int × Int → Bool} {l : List (Int × Int)} {i : Nat} (h : i < l.length) (hp : p (l.getD i (0, 0)) = true) : l.any p = true := by
  rw [List.any_eq_true]
  rw [List.getD_eq_getElem?_getD, List.getElem?_eq_getElem h, Option.getD_some] at hp
  exact ⟨_, List.getElem_mem h, hp⟩
theorem any_not {p : Int × Int → Bool} {l : List (Int × Int)} (h : ∀ i, i < l.length → p (l.getD i (0, 0)) = false) : l.any p = false := by
  rw [List.any_eq_false]
  intro x hx
  obtain ⟨i, hi, rfl⟩ := List.getElem_of_mem hx
  have := h i hi
  rw [List.getD_eq_getElem?_getD, List.getElem?_eq_getElem hi, Option.getD_some] at this
  rw [this]; simp
theorem not_any {p : Int × Int → Bool} {l : List (Int × Int)} (h : l.any p = false) {i : Nat} (hi : i < l.length) : p (l.getD i (0, 0)) = false := by
  cases hq : p (l.getD i (0, 0)) with
  | false => rfl
  | true => rw [any_of hi hq] at h; cases h
theorem adv_iff (l : List (Int × Int)) (k : Nat) : adv l k = true ↔ ∀ i, i < k → gX l i < gX l (i + 1) := by
  induction k with
  | zero => simp [adv]
  | succ k ih =>
    rw [adv, Bool.and_eq_true, ih, decide_eq_true_eq]
    constructor
    · rintro ⟨h1, h2⟩ i hi
      by_cases e : i = k
      · rw [e]; exact h2
      · exact h1 i (by omega)
    · intro h
      exact ⟨fun i hi => h i (by omega), h k (by omega)⟩
theorem fal_iff (l : List (Int × Int)) (k : Nat) : fal l k = true ↔ ∃ i, i < k ∧ gR l (i + 1) < gR l i := by
  induction k with
  | zero => simp [fal]
  | succ k ih =>
    rw [fal, Bool.or_eq_true, ih, decide_eq_true_eq]
    constructor
    · rintro (⟨i, h1, h2⟩ | h)
      · exact ⟨i, by omega, h2⟩
      · exact ⟨k, by omega, h⟩
    · rintro ⟨i, h1, h2⟩
      by_cases e : i = k
      · right; rw [← e]; exact h2
      · left; exact ⟨i, by omega, h2⟩
theorem swl_iff (l : List (Int × Int)) (k : Nat) : swl l k = true ↔ ∃ i j, i < j ∧ j < k ∧ gR l (i + 1) < gR l i ∧ gR l j < gR l (j + 1) := by
  induction k with
  | zero => simp [swl]
  | succ k ih =>
    rw [swl, Bool.or_eq_true, ih, Bool.and_eq_true, fal_iff, decide_eq_true_eq]
    constructor
    · rintro (⟨i, j, h1, h2, h3⟩ | ⟨⟨i, h1, h2⟩, h3⟩)
      · exact ⟨i, j, h1, by omega, h3⟩
      · exact ⟨i, k, h1, by omega, h2, h3⟩
    · rintro ⟨i, j, h1, h2, h3, h4⟩
      by_cases e : j = k
      · right; rw [e] at h1 h4; exact ⟨⟨i, h1, h3⟩, h4⟩
      · left; exact ⟨i, j, h1, by omega, h3, h4⟩
theorem ckE_iff (l : List (Int × Int)) : ckE l = 0 ↔ RP l := by
  unfold ckE
  constructor
  · intro h
    split at h
    · omega
    · split at h
      · omega
      · split at h
        · omega
        · split at h
          · omega
          · split at h
            · omega
            · split at h
              · omega
              · rename_i g1 g2 g3 g4 g5 g6
                have g3' : l.any ptOut = false := by simpa using g3
                have g5' : l.any ptCl = false := by simpa using g5
                have g4' : adv l (l.length - 1) = true ∧ (gX l 0 == 0) = true := by simpa using g4
                have o : ∀ i, i < l.length → (0 ≤ gX l i ∧ gX l i ≤ 100000) ∧ 0 ≤ gR l i ∧ gR l i ≤ 100000 := fun i hi => by
                  have := not_any g3' hi
                  simp only [ptOut, Bool.not_eq_false', Bool.and_eq_true, lenB_iff] at this
                  exact this
                refine ⟨by omega, by omega, fun i hi => (o i hi).1, fun i hi => ?_, by simpa using g4'.2, fun i hi => (adv_iff _ _).1 g4'.1 i (by omega), fun i j h1 h2 h3 => ?_⟩
                · have := not_any g5' hi
                  have e : gR l i ≠ 0 := by
                    have t : (gR l i == 0) = false := this
                    simpa using t
                  have := (o i hi).2
                  omega
                · by_cases e : gR l j < gR l (j + 1)
                  · by_cases hij : i = j
                    · subst hij; omega
                    · exact absurd ((swl_iff _ _).2 ⟨i, j, by omega, by omega, h3, e⟩) g6
                  · omega
  · intro h
    have g3 : l.any ptOut = false := any_not fun i hi => by
      have a := (lenB_iff _).2 (h.bx i hi)
      have b := h.br i hi
      have b2 := (lenB_iff (gR l i)).2 (by omega)
      show (!(lenB (gX l i) && lenB (gR l i))) = false
      rw [a, b2]; rfl
    have g5 : l.any ptCl = false := any_not fun i hi => by
      have b := h.br i hi
      show (gR l i == 0) = false
      rw [beq_eq_false_iff_ne]; omega
    have g6 : ¬ swl l (l.length - 1) = true := fun hs => by
      obtain ⟨i, j, h1, h2, h3, h4⟩ := (swl_iff _ _).1 hs
      have := h.ns i j (by omega) (by omega) h3
      omega
    have g4 : (adv l (l.length - 1) && (gX l 0 == 0)) = true := by
      rw [Bool.and_eq_true]
      exact ⟨(adv_iff _ _).2 fun i hi => h.asc i (by omega), by rw [h.x0]; rfl⟩
    rw [if_neg (by have := h.n0; omega), if_neg (by have := h.n1; omega), if_neg (by rw [g3]; simp), if_neg (by rw [g4]; simp), if_neg (by rw [g5]; simp), if_neg g6]

/-! ### the bung -/
def bg (l : List (Int × Int)) : Nat → Nat
  | 0 => 0
  | k + 1 => if gR l (bg l k) < gR l k then k else bg l k
theorem bg_lt (l : List (Int × Int)) (k : Nat) : bg l k = 0 ∨ bg l k < k := by
  induction k with
  | zero => exact .inl rfl
  | succ k ih =>
    unfold bg
    split
    · right; omega
    · omega
theorem bg_max (l : List (Int × Int)) (k : Nat) : ∀ i, i < k → gR l i ≤ gR l (bg l k) := by
  induction k with
  | zero => intro i hi; omega
  | succ k ih =>
    intro i hi
    unfold bg
    by_cases h : gR l (bg l k) < gR l k
    · rw [if_pos h]
      by_cases e : i = k
      · rw [e]; exact Int.le_refl _
      · have := ih i (by omega); omega
    · rw [if_neg h]
      by_cases e : i = k
      · rw [e]; omega
      · exact ih i (by omega)
/-- what Length and Bung return -/
def lgQ (l : List (Int × Int)) : Int := if ckE l = 0 then gX l (l.length - 1) else 0
def buQ (l : List (Int × Int)) : Int := if ckE l = 0 then (bg l l.length : Int) else 0

/-! ### the piece that reaches to x -/
structure IsPc (l : List (Int × Int)) (x : Int) (i : Nat) : Prop where
  h1 : 1 ≤ i
  h2 : i < l.length
  h3 : x ≤ gX l i
  h4 : ∀ j, 1 ≤ j → j < i → gX l j < x
theorem IsPc.one {l : List (Int × Int)} {x : Int} {i j : Nat} (a : IsPc l x i) (b : IsPc l x j) : i = j := by
  rcases Nat.lt_trichotomy i j with h | h | h
  · have := b.h4 i a.h1 h; have := a.h3; omega
  · exact h
  · have := a.h4 j b.h1 h; have := b.h3; omega
theorem pc_ex {l : List (Int × Int)} {x : Int} (n0 : 2 ≤ l.length) (h : x ≤ gX l (l.length - 1)) : ∃ i, IsPc l x i := by
  suffices ∀ k, 1 ≤ k → k < l.length → x ≤ gX l k → ∃ i, IsPc l x i from this (l.length - 1) (by omega) (by omega) h
  intro k
  induction k with
  | zero => intro h; omega
  | succ k ih =>
    intro _ h2 h3
    by_cases hk : 1 ≤ k ∧ x ≤ gX l k
    · exact ih hk.1 (by omega) hk.2
    · by_cases he : ∃ j, 1 ≤ j ∧ j < k + 1 ∧ x ≤ gX l j
      · obtain ⟨j, j1, j2, j3⟩ := he
        have : ∀ m, ∀ j, j ≤ m → 1 ≤ j → j < l.length → x ≤ gX l j → ∃ i, IsPc l x i := by
          intro m
          induction m with
          | zero => intro j h1 h2; omega
          | succ m im =>
            intro j h1 h2 h3 h4
            by_cases hc : ∃ i, 1 ≤ i ∧ i < j ∧ x ≤ gX l i
            · obtain ⟨i, i1, i2, i3⟩ := hc
              exact im i (by omega) i1 (by omega) i3
            · exact ⟨j, h2, h3, h4, fun i i1 i2 => by
                by_cases hi : x ≤ gX l i
                · exact absurd ⟨i, i1, i2, hi⟩ hc
                · omega⟩
        exact this j j (Nat.le_refl _) j1 (by omega) j3
      · exact ⟨k + 1, by omega, h2, h3, fun j j1 j2 => by
          by_cases hj : x ≤ gX l j
          · exact absurd ⟨j, j1, j2, hj⟩ he
          · omega⟩
open Classical in
noncomputable def pc (l : List (Int × Int)) (x : Int) : Nat := if h : ∃ i, IsPc l x i then h.choose else 0
theorem pc_is {l : List (Int × Int)} {x : Int} (n0 : 2 ≤ l.length) (h : x ≤ gX l (l.length - 1)) : IsPc l x (pc l x) := by
  have he := pc_ex n0 h
  unfold pc
  rw [dif_pos he]
  exact he.choose_spec
theorem pc_of {l : List (Int × Int)} {x : Int} {i : Nat} (h : IsPc l x i) : pc l x = i := by
  have he : ∃ i, IsPc l x i := ⟨i, h⟩
  unfold pc
  rw [dif_pos he]
  exact he.choose_spec.one h
/-- the radius between two points, rounded down and up -/
def lnL (a p b q x : Int) : Int := lnN a p b q x / (b - a)
def lnH (a p b q x : Int) : Int := cdv (lnN a p b q x) (b - a)
noncomputable def rdL (l : List (Int × Int)) (x : Int) : Int := lnL (gX l (pc l x - 1)) (gR l (pc l x - 1)) (gX l (pc l x)) (gR l (pc l x)) x
noncomputable def rdH (l : List (Int × Int)) (x : Int) : Int := lnH (gX l (pc l x - 1)) (gR l (pc l x - 1)) (gX l (pc l x)) (gR l (pc l x)) x
/-- what place and At return -/
def plE (l : List (Int × Int)) (x : Int) : Int := if ckE l = 0 then (if x < 0 ∨ gX l (l.length - 1) < x then 2 else 0) else 1
noncomputable def atL (l : List (Int × Int)) (x : Int) : Int := if plE l x = 0 then rdL l x else 0
noncomputable def atH (l : List (Int × Int)) (x : Int) : Int := if plE l x = 0 then rdH l x else 0
end Go.Proofs.Ytgjdopjolokaiaa

/- The reference of layer 8: Few. -/
namespace Go.Proofs.Ytgjdopjolokaiaa
open Go.RowKit

theorem few_any (v : Value) (l : List (Int × Int)) (w : World) (hv : Pts w v l) :
    Calls Try.prog 66 #[v] w fun e w' => e = .returned (.bool (decide (l.length ≤ 33))) ∧ w' = w := by
  obtain ⟨a, cap, rfl, h1, h2⟩ := hv.shape
  go_enter Try.func66, Try.ntmps66
  go_wp2
  go_ret
  exact ⟨ret_bool (decide_eq_decide.2 (by omega)), rfl⟩
theorem refLen_any (n : Int) (w : World) : Calls Try.prog 65 #[.int .i64 n] w fun e w' => e = .returned (.bool (lenB n)) ∧ w = w' := by
  by_cases h0 : 0 ≤ n <;> by_cases h1 : n ≤ 100000
  all_goals
    go_enter Try.func65, Try.ntmps65
    go_wp2
    go_ret
    exact ⟨by simp [lenB, h0, h1], rfl⟩

theorem sam_eq {l m : List (Int × Int)} (hl : l.length = m.length) (h : ∀ j, j < l.length → samP (gX l j) (gR l j) (gX m j) (gR m j) = true) : l = m := by
  apply List.ext_getElem hl
  intro i h1 h2
  have := h i h1
  simp only [samP, Bool.and_eq_true, beq_iff_eq, gX, gR, List.getD_eq_getElem?_getD, List.getElem?_eq_getElem h1, List.getElem?_eq_getElem h2, Option.getD_some] at this
  exact Prod.ext this.1 this.2
end Go.Proofs.Ytgjdopjolokaiaa

/- The reference of layer 8: Check. -/
namespace Go.Proofs.Ytgjdopjolokaiaa
open Go.RowKit

theorem refCk_few (a : Option Addr) (n cap : Nat) (w : World) (h : n < 2) :
    Calls Try.prog 30 #[.slice a n cap] w fun e w' => e = .returned (.int .i64 9) ∧ Below w.heap.size w w' := by
  go_enter Try.func30, Try.ntmps30
  go_wp2
  go_returns
  exact ⟨rfl, Below.refl _ _⟩
theorem refCk_many (a : Option Addr) (n cap : Nat) (w : World) (h : 32 < n) (h2 : n ≤ 9223372036854775807) :
    Calls Try.prog 30 #[.slice a n cap] w fun e w' => e = .returned (.int .i64 8) ∧ Below w.heap.size w w' := by
  go_enter Try.func30, Try.ntmps30
  go_wp2
  go_returns
  exact ⟨rfl, Below.refl _ _⟩
set_option maxRecDepth 100000 in
set_option maxHeartbeats 16000000 in
theorem refCk_some (b off n cap : Nat) (l : List (Int × Int)) (E : Int) (w : World) (n0 : 2 ≤ n) (n1 : n ≤ 32) (hb : b < w.heap.size)
    (hc : Hid (∀ j, j < n → w.cell? ⟨b, off + j * 2, none⟩ = some (.int .i64 (gX l j)) ∧ w.cell? ⟨b, off + j * 2 + 1, none⟩ = some (.int .i64 (gR l j))))
    (h1 : Hid ((∃ j, j < n ∧ (lenB (gX l j) && lenB (gR l j)) = false) → E = 2))
    (h2 : Hid ((∀ j, j < n → (lenB (gX l j) && lenB (gR l j)) = true) → (gX l 0 ≠ 0 ∨ ∃ j, j + 1 < n ∧ gX l (j + 1) ≤ gX l j) → E = 5))
    (h3 : Hid ((∀ j, j < n → (lenB (gX l j) && lenB (gR l j)) = true) → gX l 0 = 0 → (∀ j, j + 1 < n → gX l j < gX l (j + 1)) → (∃ j, j < n ∧ gR l j = 0) → E = 16))
    (h4 : Hid ((∀ j, j < n → (lenB (gX l j) && lenB (gR l j)) = true) → gX l 0 = 0 → (∀ j, j + 1 < n → gX l j < gX l (j + 1)) → (∀ j, j < n → gR l j ≠ 0) → E = (if swl l (n - 1) = true then 10 else 0))) :
    Calls Try.prog 30 #[.slice (some ⟨b, off, none⟩) n cap] w fun e w' => e = .returned (.int .i64 E) ∧ Below w.heap.size w w' := by
  go_enter Try.func30, Try.ntmps30
  go_wp2_with fail
  go_loopw [3] (fun ii wr => ∃ (k : Nat), k ≤ n ∧ ii = .int .i64 k ∧ Hid (Below w.heap.size w wr) ∧ Hid (∀ j, j < k → (lenB (gX l j) && lenB (gR l j)) = true)) (fun ii _ => n - (intOf ii).toNat)
  case atStart => exact ⟨0, by omega, rfl, Below.refl _ _, fun j hj => by omega⟩
  case round =>
    obtain ⟨k, hk, rfl, hB, ha⟩ := hrel
    by_cases hlt : k < n
    · have c0 : wr.cell? ⟨b, off + k * 2, none⟩ = some (.int .i64 (gX l k)) := by rw [(bcell hB.out).1 _ _ hb]; exact (hc.out k hlt).1
      have c1 : wr.cell? ⟨b, off + k * 2 + 1, none⟩ = some (.int .i64 (gR l k)) := by rw [(bcell hB.out).1 _ _ hb]; exact (hc.out k hlt).2
      have HF : Hid ((lenB (gX l k) && lenB (gR l k)) = false → E = 2) := fun h => h1.out ⟨k, hlt, h⟩
      have HT : Hid ((lenB (gX l k) && lenB (gR l k)) = true → ∀ j, j < k + 1 → (lenB (gX l j) && lenB (gR l j)) = true) := fun h j hj => by
        by_cases e : j = k
        · rw [e]; exact h
        · exact ha.out j (by omega)
      have L1 := Lib.hid (fun W => refLen_any (gX l k) W)
      have L2 := Lib.hid (fun W => refLen_any (gR l k) W)
      have l1 : (k : Int) < (n : Int) := by omega
      generalize gX l k = x at *
      generalize gR l k = r at *
      cases hx : lenB x with
      | false =>
        obtain rfl := HF.out (by rw [hx]; rfl)
        rw [hx] at L1
        clear HF HT hx
        go_wp2_with fail
        refine (L1.out _).mono ?_
        rintro e w1 ⟨rfl, hw⟩
        subst hw
        go_wp2
        go_returns
        exact ⟨rfl, hB.out⟩
      | true =>
        rw [hx] at L1
        cases hr : lenB r with
        | false =>
          obtain rfl := HF.out (by rw [hx, hr]; rfl)
          rw [hr] at L2
          clear HF HT hx hr
          go_wp2_with fail
          refine (L1.out _).mono ?_
          rintro e w1 ⟨rfl, hw⟩
          subst hw
          go_wp2_with fail
          refine (L2.out _).mono ?_
          rintro e w1 ⟨rfl, hw⟩
          subst hw
          go_wp2
          go_returns
          exact ⟨rfl, hB.out⟩
        | true =>
          have ha2 := Lib.hid (HT.out (by rw [hx, hr]; rfl))
          rw [hr] at L2
          clear HF HT hx hr
          go_wp2_with fail
          refine (L1.out _).mono ?_
          rintro e w1 ⟨rfl, hw⟩
          subst hw
          go_wp2_with fail
          refine (L2.out _).mono ?_
          rintro e w1 ⟨rfl, hw⟩
          subst hw
          go_wp2
          go_roundw
          case rel => exact ⟨k + 1, by omega, by go_num, hB, ha2⟩
          case measure => simp [intOf]; omega
    · obtain rfl : k = n := by omega
      have H2 := Lib.hid (h2.out ha.out)
      have H3 := Lib.hid (h3.out ha.out)
      have H4 := Lib.hid (h4.out ha.out)
      have hB0 := hB
      clear h1 h2 h3 h4 ha
      go_wp2_with fail
      clear hB
      go_loopw [4] (fun ii wz => ∃ (j : Nat), j ≤ k ∧ ii = .int .i64 j ∧ Hid (Below w.heap.size w wz) ∧ Hid (0 < j → gX l 0 = 0) ∧ Hid (∀ i, i + 1 < j → gX l i < gX l (i + 1))) (fun ii _ => k - (intOf ii).toNat)
      case atStart => exact ⟨0, by omega, rfl, hB0, fun h => by omega, fun i hi => by omega⟩
      case round =>
        obtain ⟨j, hj, rfl, hB, hz, ha⟩ := hrel
        by_cases hlt : j < k
        · have l1 : (j : Int) < (k : Int) := by omega
          by_cases hj0 : j = 0
          · subst hj0
            have c0 : wr.cell? ⟨b, off, none⟩ = some (.int .i64 (gX l 0)) := by rw [(bcell hB.out).1 _ _ hb]; simpa using (hc.out 0 (by omega)).1
            have HF : Hid (gX l 0 ≠ 0 → E = 5) := fun h => H2.out (.inl h)
            have HT : Hid (gX l 0 = 0 → gX l 0 = 0) := id
            generalize hx0 : gX l 0 = x at c0 HF
            by_cases hx : x = 0
            · subst hx
              have ex : Hid (gX l 0 = 0) := hx0
              clear HF HT hx0
              go_wp2_with fail
              go_quiet (fail)
              go_wp2
              go_roundw
              case rel => exact ⟨1, by omega, by go_num, bel_trans hB.out (bel_drewN _ _), fun _ => (by first | trivial | exact ex.out), fun i hi => by omega⟩
              case measure => simp [intOf]; omega
            · obtain rfl := HF.out hx
              have q1 : (x != 0) = true := by simpa using hx
              clear HF HT hx0
              go_wp2_with fail
              go_quiet (fail)
              go_wp2
              go_returns
              exact ⟨rfl, bel_trans hB.out (bel_drewN _ _)⟩
          · obtain ⟨m, rfl⟩ : ∃ m, j = m + 1 := ⟨j - 1, by omega⟩
            have c0 : wr.cell? ⟨b, off + m * 2, none⟩ = some (.int .i64 (gX l m)) := by rw [(bcell hB.out).1 _ _ hb]; exact (hc.out m (by omega)).1
            have c1 : wr.cell? ⟨b, off + (m + 1) * 2, none⟩ = some (.int .i64 (gX l (m + 1))) := by rw [(bcell hB.out).1 _ _ hb]; exact (hc.out (m + 1) (by omega)).1
            have HF : Hid (gX l (m + 1) ≤ gX l m → E = 5) := fun h => H2.out (.inr ⟨m, hlt, h⟩)
            have HT : Hid (gX l m < gX l (m + 1) → ∀ i, i + 1 < m + 1 + 1 → gX l i < gX l (i + 1)) := fun h i hi => by
              by_cases e : i = m
              · rw [e]; exact h
              · exact ha.out i (by omega)
            have hz2 : Hid (gX l 0 = 0) := hz.out (by omega)
            have l2 : m < k := by omega
            have l3 : (m : Int) < (k : Int) := by omega
            have l4 : m + 1 < k := by omega
            have l5 : (m : Int) + 1 < (k : Int) := by omega
            have g0 : ((m : Int) + 1 == 0) = false := by rw [beq_eq_false_iff_ne]; omega
            have g1 : decide ((0 : Int) < (m : Int) + 1) = true := decide_eq_true (by omega)
            have wj : IntKind.i64.wrap ((m : Int) + 1 - 1) = (m : Int) := by simp only [IntKind.wrap_i64]; omega
            have wk : IntKind.i64.wrap (m : Int) = (m : Int) := by simp only [IntKind.wrap_i64]; omega
            have l6 : 0 ≤ (m : Int) + 1 := by omega
            have l7 : ((m : Int) + 1).toNat = m + 1 := by omega
            generalize gX l m = x at *
            generalize gX l (m + 1) = y at *
            clear hz hj0
            by_cases hxy : y ≤ x
            · obtain rfl := HF.out hxy
              have hd : decide (y ≤ x) = true := decide_eq_true hxy
              clear HF HT
              go_wp2_with fail
              go_quiet (fail)
              go_wp2
              go_returns
              exact ⟨rfl, bel_trans hB.out (bel_drewN _ _)⟩
            · have ha2 := Lib.hid (HT.out (by omega))
              have hd : decide (y ≤ x) = false := decide_eq_false hxy
              clear HF HT
              go_wp2_with fail
              go_quiet (fail)
              go_wp2
              go_roundw
              case rel => exact ⟨m + 1 + 1, by omega, by go_num, bel_trans hB.out (bel_drewN _ _), fun _ => hz2.out, ha2.out⟩
              case measure => simp [intOf]; omega
        · obtain rfl : j = k := by omega
          have H3' := Lib.hid (H3.out (hz.out (by omega)) (fun i hi => ha.out i hi))
          have H4' := Lib.hid (H4.out (hz.out (by omega)) (fun i hi => ha.out i hi))
          have hB1 := hB
          clear H2 H3 H4 ha hz hB0
          go_wp2_with fail
          clear hB
          go_loopw [5] (fun ii wy => ∃ (i : Nat), i ≤ j ∧ ii = .int .i64 i ∧ Hid (Below w.heap.size w wy) ∧ Hid (∀ m, m < i → gR l m ≠ 0)) (fun ii _ => j - (intOf ii).toNat)
          case atStart => exact ⟨0, by omega, rfl, hB1, fun m hm => by omega⟩
          case round =>
            obtain ⟨i, hi, rfl, hB, ha⟩ := hrel
            by_cases hlt : i < j
            · have c1 : wr.cell? ⟨b, off + i * 2 + 1, none⟩ = some (.int .i64 (gR l i)) := by rw [(bcell hB.out).1 _ _ hb]; exact (hc.out i hlt).2
              have HF : Hid (gR l i = 0 → E = 16) := fun h => H3'.out ⟨i, hlt, h⟩
              have HT : Hid (gR l i ≠ 0 → ∀ m, m < i + 1 → gR l m ≠ 0) := fun h m hm => by
                by_cases e : m = i
                · rw [e]; exact h
                · exact ha.out m (by omega)
              have l1 : (i : Int) < (j : Int) := by omega
              generalize gR l i = r at *
              by_cases hr : r = 0
              · obtain rfl := HF.out hr
                have q1 : (r == 0) = true := by simpa using hr
                clear HF HT
                go_wp2
                go_returns
                exact ⟨rfl, hB.out⟩
              · have ha2 := Lib.hid (HT.out hr)
                have q1 : (r == 0) = false := by simpa using hr
                clear HF HT
                go_wp2
                go_roundw
                case rel => exact ⟨i + 1, by omega, by go_num, hB, ha2⟩
                case measure => simp [intOf]; omega
            · obtain rfl : i = j := by omega
              have H5 := Lib.hid (H4'.out ha.out)
              have hB2 := hB
              clear H3' H4' ha hB1
              go_wp2_with fail
              clear hB
              go_loopw [6, 7] (fun ff ii wx => ∃ (m : Nat), m + 1 ≤ i ∧ ii = .int .i64 ((m : Int) + 1) ∧ ff = .bool (fal l m) ∧ Hid (Below w.heap.size w wx) ∧ Hid (swl l m = false)) (fun _ ii _ => i - (intOf ii).toNat)
              case atStart => exact ⟨0, by omega, rfl, rfl, hB2, rfl⟩
              case round =>
                obtain ⟨m, hm, rfl, rfl, hB, hs⟩ := hrel
                by_cases hlt : m + 1 < i
                · have c0 : wr.cell? ⟨b, off + m * 2 + 1, none⟩ = some (.int .i64 (gR l m)) := by rw [(bcell hB.out).1 _ _ hb]; exact (hc.out m (by omega)).2
                  have c1 : wr.cell? ⟨b, off + (m + 1) * 2 + 1, none⟩ = some (.int .i64 (gR l (m + 1))) := by rw [(bcell hB.out).1 _ _ hb]; exact (hc.out (m + 1) (by omega)).2
                  have EF : Hid (fal l (m + 1) = (fal l m || decide (gR l (m + 1) < gR l m))) := rfl
                  have ES : Hid (swl l (m + 1) = (swl l m || (fal l m && decide (gR l m < gR l (m + 1))))) := rfl
                  have HF : Hid (swl l (m + 1) = true → E = 10) := fun h => by
                    have : swl l (i - 1) = true := by
                      obtain ⟨p, q, a1, a2, a3⟩ := (swl_iff _ _).1 h
                      exact (swl_iff _ _).2 ⟨p, q, a1, by omega, a3⟩
                    rw [H5.out, if_pos this]
                  rw [hs.out] at ES
                  have l2 : m < i := by omega
                  have l3 : (m : Int) < (i : Int) := by omega
                  have l5 : (m : Int) + 1 < (i : Int) := by omega
                  have wj : IntKind.i64.wrap ((m : Int) + 1 - 1) = (m : Int) := by simp only [IntKind.wrap_i64]; omega
                  have wk : IntKind.i64.wrap (m : Int) = (m : Int) := by simp only [IntKind.wrap_i64]; omega
                  have l6 : 0 ≤ (m : Int) + 1 := by omega
                  have l7 : ((m : Int) + 1).toNat = m + 1 := by omega
                  generalize fal l m = s at *
                  generalize gR l m = p at *
                  generalize gR l (m + 1) = q at *
                  clear hs
                  by_cases g1 : p < q
                  · have g2 : ¬ q < p := by omega
                    have d1 : decide (p < q) = true := decide_eq_true g1
                    have d2 : decide (q < p) = false := decide_eq_false g2
                    rw [d1] at ES
                    rw [d2] at EF
                    cases s with
                    | true =>
                      obtain rfl := HF.out (by rw [ES.out]; rfl)
                      clear EF ES HF H5
                      go_wp2_with fail
                      go_quiet (fail)
                      go_wp2
                      go_returns
                      exact ⟨rfl, bel_trans hB.out (bel_drewN _ _)⟩
                    | false =>
                      clear HF
                      go_wp2_with fail
                      go_quiet (fail)
                      go_wp2_with fail
                      go_quiet (fail)
                      go_wp2
                      go_roundw
                      case rel => exact ⟨m + 1, by omega, by go_num, by rw [EF.out]; rfl, bel_trans hB.out (bel_drewN _ _), by show _ = _; rw [ES.out]; rfl⟩
                      case measure => simp [intOf]; omega
                  · have d1 : decide (p < q) = false := decide_eq_false g1
                    rw [d1] at ES
                    cases s with
                    | true =>
                      clear HF
                      go_wp2_with fail
                      go_quiet (fail)
                      go_wp2_with fail
                      go_quiet (fail)
                      go_wp2
                      go_roundw
                      case rel => exact ⟨m + 1, by omega, by go_num, by rw [EF.out]; rfl, bel_trans hB.out (bel_drewN _ _), by show _ = _; rw [ES.out]; rfl⟩
                      case measure => simp [intOf]; omega
                    | false =>
                      clear HF
                      by_cases g2 : q < p
                      · have d2 : decide (q < p) = true := decide_eq_true g2
                        rw [d2] at EF
                        go_wp2_with fail
                        go_quiet (fail)
                        go_wp2_with fail
                        go_quiet (fail)
                        go_wp2
                        go_roundw
                        case rel => exact ⟨m + 1, by omega, by go_num, by rw [EF.out]; rfl, bel_trans hB.out (bel_drewN _ _), by show _ = _; rw [ES.out]; rfl⟩
                        case measure => simp [intOf]; omega
                      · have d2 : decide (q < p) = false := decide_eq_false g2
                        rw [d2] at EF
                        go_wp2_with fail
                        go_quiet (fail)
                        go_wp2_with fail
                        go_quiet (fail)
                        go_wp2
                        go_roundw
                        case rel => exact ⟨m + 1, by omega, by go_num, by rw [EF.out]; rfl, bel_trans hB.out (bel_drewN _ _), by show _ = _; rw [ES.out]; rfl⟩
                        case measure => simp [intOf]; omega
                · obtain rfl : i = m + 1 := by omega
                  have e : E = 0 := by rw [H5.out, show m + 1 - 1 = m by omega, if_neg (by rw [hs.out]; simp)]
                  subst e
                  go_wp2
                  go_returns
                  exact ⟨rfl, hB.out⟩
theorem refCk_any (v : Value) (l : List (Int × Int)) (w : World) (hv : Pts w v l) :
    Calls Try.prog 30 #[v] w fun e w' => e = .returned (.int .i64 (ckE l)) ∧ Below w.heap.size w w' := by
  obtain ⟨a, cap, rfl, hl, hh⟩ := hv
  by_cases h0 : l.length < 2
  · rw [show ckE l = 9 by unfold ckE; rw [if_pos h0]]
    exact refCk_few a l.length cap w h0
  · by_cases h1 : 32 < l.length
    · rw [show ckE l = 8 by unfold ckE; rw [if_neg h0, if_pos h1]]
      exact refCk_many a l.length cap w h1 (by omega)
    · rcases hh with hh | ⟨b, off, rfl, hb, hc⟩
      · omega
      · have e : ckE l = (if l.any ptOut = true then 2 else if (adv l (l.length - 1) && (gX l 0 == 0)) = false then 5 else if l.any ptCl = true then 16 else if swl l (l.length - 1) = true then 10 else 0) := by unfold ckE; rw [if_neg h0, if_neg h1]
        have o1 : (∀ j, j < l.length → (lenB (gX l j) && lenB (gR l j)) = true) → ¬ l.any ptOut = true := fun h => by
          rw [any_not fun i hi => ?_]
          · simp
          · show (!(lenB (gX l i) && lenB (gR l i))) = false
            rw [h i hi]; rfl
        have o2 : gX l 0 = 0 → (∀ j, j + 1 < l.length → gX l j < gX l (j + 1)) → ¬ (adv l (l.length - 1) && (gX l 0 == 0)) = false := fun h1 h2 => by
          rw [(adv_iff l _).2 fun i hi => h2 i (by omega), h1]; simp
        refine refCk_some b off l.length cap l _ w (by omega) (by omega) hb hc (fun ⟨j, hj, h⟩ => ?_) (fun h g => ?_) (fun h g1 g2 ⟨j, hj, h3⟩ => ?_) (fun h g1 g2 g3 => ?_)
        · rw [e, if_pos]
          refine any_of hj ?_
          show (!(lenB (gX l j) && lenB (gR l j))) = true
          rw [h]; rfl
        · rw [e, if_neg (o1 h), if_pos]
          rcases g with g | ⟨j, hj, g⟩
          · rw [show (gX l 0 == 0) = false by simpa using g, Bool.and_false]
          · have : adv l (l.length - 1) = false := by
              rw [Bool.eq_false_iff]
              intro ha
              have := (adv_iff l _).1 ha j (by omega)
              omega
            rw [this, Bool.false_and]
        · rw [e, if_neg (o1 h), if_neg (o2 g1 g2), if_pos]
          refine any_of hj ?_
          show (gR l j == 0) = true
          rw [h3]; rfl
        · rw [e, if_neg (o1 h), if_neg (o2 g1 g2), if_neg]
          rw [any_not fun i hi => ?_]
          · simp
          · show (gR l i == 0) = false
            simpa using g3 i hi
end Go.Proofs.Ytgjdopjolokaiaa

/- Plain facts of sums of frustums, and of the bounds of a space. No program stands in this text. -/
namespace Go.Proofs.Ytgjdopjolokaiaa

/-- what a frustum has between its radii -/
def sq3 (r s : Int) : Int := r * r + r * s + s * s
theorem sq3_mono {r s p q : Int} (r0 : 0 ≤ r) (s0 : 0 ≤ s) (hr : r ≤ p) (hs : s ≤ q) : sq3 r s ≤ sq3 p q := by
  have a := Int.mul_le_mul hr hr r0 (by omega)
  have b := Int.mul_le_mul hr hs s0 (by omega)
  have c := Int.mul_le_mul hs hs s0 (by omega)
  unfold sq3; omega
theorem sq3_less {r s p q : Int} (r0 : 0 ≤ r) (s0 : 0 ≤ s) (hr : r < p) (hs : s ≤ q) : sq3 r s < sq3 p q := by
  have a : r * r < p * p := by
    have := Int.mul_le_mul (show r ≤ p by omega) (show r ≤ p by omega) r0 (by omega)
    have e : p * p = r * p + (p - r) * p := by grind
    have e2 := Int.mul_le_mul (show r ≤ r from Int.le_refl r) (show r ≤ p by omega) r0 r0
    have e3 := Int.mul_pos (show 0 < p - r by omega) (show 0 < p by omega)
    omega
  have b := Int.mul_le_mul (show r ≤ p by omega) hs s0 (by omega)
  have c := Int.mul_le_mul hs hs s0 (by omega)
  unfold sq3; omega
theorem sq3_same (r : Int) : sq3 r r = 3 * r * r := by unfold sq3; grind
theorem sq3_turn (r s : Int) : sq3 r s = sq3 s r := by unfold sq3; grind
theorem sq3_bd {r s : Int} (hr : 1 ≤ r ∧ r ≤ 100000) (hs : 1 ≤ s ∧ s ≤ 100000) : 3 ≤ sq3 r s ∧ sq3 r s ≤ 30000000000 := by
  have a := sq3_mono (show (0 : Int) ≤ 1 by omega) (show (0 : Int) ≤ 1 by omega) hr.1 hs.1
  have b := sq3_mono (show (0 : Int) ≤ r by omega) (show (0 : Int) ≤ s by omega) hr.2 hs.2
  have e1 : sq3 1 1 = 3 := by decide
  have e2 : sq3 100000 100000 = 30000000000 := by decide
  omega
/-- the sum of the first k frustums -/
def fr (l : List (Int × Int)) : Nat → Int
  | 0 => 0
  | k + 1 => fr l k + (gX l (k + 1) - gX l k) * sq3 (gR l k) (gR l (k + 1))
theorem fr_succ (l : List (Int × Int)) (k : Nat) : fr l (k + 1) = fr l k + (gX l (k + 1) - gX l k) * sq3 (gR l k) (gR l (k + 1)) := rfl
/-- the sum of frustums -/
def frS (l : List (Int × Int)) : Int := fr l (l.length - 1)
theorem fr_between {l : List (Int × Int)} (h : RP l) {a b : Int} (a0 : 0 ≤ a) (ha : ∀ j, j < l.length → a ≤ gR l j) (hb : ∀ j, j < l.length → gR l j ≤ b) (k : Nat) (hk : k < l.length) :
    gX l k * (3 * a * a) ≤ fr l k ∧ fr l k ≤ gX l k * (3 * b * b) := by
  induction k with
  | zero => rw [h.x0]; simp [fr]
  | succ k ih =>
    have ih := ih (by omega)
    have d := h.asc k hk
    have p0 := h.br k (by omega)
    have q0 := h.br (k + 1) hk
    have m1 := sq3_mono a0 a0 (ha k (by omega)) (ha (k + 1) hk)
    have m2 := sq3_mono (show 0 ≤ gR l k by omega) (show 0 ≤ gR l (k + 1) by omega) (hb k (by omega)) (hb (k + 1) hk)
    rw [sq3_same] at m1 m2
    have t1 := Int.mul_le_mul_of_nonneg_left m1 (show 0 ≤ gX l (k + 1) - gX l k by omega)
    have t2 := Int.mul_le_mul_of_nonneg_left m2 (show 0 ≤ gX l (k + 1) - gX l k by omega)
    have e1 : gX l (k + 1) * (3 * a * a) = gX l k * (3 * a * a) + (gX l (k + 1) - gX l k) * (3 * a * a) := by grind
    have e2 : gX l (k + 1) * (3 * b * b) = gX l k * (3 * b * b) + (gX l (k + 1) - gX l k) * (3 * b * b) := by grind
    unfold fr
    omega
theorem fr_bd {l : List (Int × Int)} (h : RP l) (k : Nat) (hk : k < l.length) : 0 ≤ fr l k ∧ fr l k ≤ 3000000000000000 := by
  have f := fr_between h (a := 1) (b := 100000) (by omega) (fun j hj => (h.br j hj).1) (fun j hj => (h.br j hj).2) k hk
  have x := h.bx k hk
  omega
theorem frS_bd {l : List (Int × Int)} (h : RP l) : 0 ≤ frS l ∧ frS l ≤ 3000000000000000 := fr_bd h _ (by have := h.n0; omega)
/-- one frustum alone -/
theorem frP_bd {l : List (Int × Int)} (h : RP l) (k : Nat) (hk : k + 1 < l.length) : 0 ≤ (gX l (k + 1) - gX l k) * sq3 (gR l k) (gR l (k + 1)) ∧ (gX l (k + 1) - gX l k) * sq3 (gR l k) (gR l (k + 1)) ≤ 3000000000000000 := by
  have a := fr_bd h k (by omega)
  have b := fr_bd h (k + 1) hk
  have d := h.asc k hk
  have s := sq3_bd (h.br k (by omega)) (h.br (k + 1) hk)
  have t := Int.mul_nonneg (show 0 ≤ gX l (k + 1) - gX l k by omega) (show 0 ≤ sq3 (gR l k) (gR l (k + 1)) by omega)
  unfold fr at b
  omega

/-! ### bounds of the space -/
def cbL (n : Int) : Int := n * 333 / 318
def cbH (n : Int) : Int := (n * 355 + 338) / 339
def cvL (n : Int) : Int := cbL n / 1000000
def cvH (n : Int) : Int := (cbH n + 999999) / 1000000
theorem cb_mono {m n : Int} (h : m ≤ n) : cbL m ≤ cbL n ∧ cbH m ≤ cbH n := by unfold cbL cbH; omega
theorem cb_narrow {n : Int} (h : 0 ≤ n) : 0 ≤ cbL n ∧ cbL n ≤ cbH n ∧ (cbH n - cbL n ≤ 2 ∨ (cbH n - cbL n - 2) * 30000 < cbH n) := by unfold cbL cbH; omega
theorem cb_bd {n : Int} (h : 0 ≤ n ∧ n ≤ 3000000000000000) : 0 ≤ cbL n ∧ cbL n ≤ cbH n ∧ cbH n ≤ 3200000000000000 := by unfold cbL cbH; omega
theorem cv_bd {n : Int} (h : 0 ≤ n ∧ n ≤ 3000000000000000) : 0 ≤ cvL n ∧ cvL n ≤ cvH n ∧ cvH n ≤ 3200000000 := by unfold cvL cvH cbL cbH; omega
/-- the answer whether D agrees with bounds of a volume, with t thousandths -/
def agA (L H D t : Int) : Int :=
  if (1000 - t) * D ≤ 1000 * L ∧ 1000 * L ≤ (1000 + t) * D ∧ (1000 - t) * D ≤ 1000 * H ∧ 1000 * H ≤ (1000 + t) * D then 1
  else if (1000 + t) * D < 1000 * L ∨ 1000 * H < (1000 - t) * D then 2 else 3
theorem ag_more {L H D t m : Int} (d0 : 0 ≤ D) (m0 : 0 ≤ m) : (agA L H D t = 1 → agA L H D (t + m) = 1) ∧ (agA L H D t ≠ 2 → agA L H D (t + m) ≠ 2) := by
  have k := Int.mul_nonneg m0 d0
  have e1 : (1000 - (t + m)) * D = (1000 - t) * D - m * D := by grind
  have e2 : (1000 + (t + m)) * D = (1000 + t) * D + m * D := by grind
  unfold agA
  rw [e1, e2]
  generalize (1000 - t) * D = u at *
  generalize (1000 + t) * D = v at *
  generalize m * D = z at *
  constructor
  · intro h
    split at h
    · rw [if_pos (by omega)]
    · split at h <;> omega
  · intro h
    split at h
    · rw [if_pos (by omega)]; omega
    · split at h
      · omega
      · split
        · omega
        · rw [if_neg (by omega)]; omega
theorem ag_high {L H t : Int} (h : L ≤ H) (h0 : 0 ≤ H) (t0 : 0 ≤ t) : agA L H H t ≠ 2 := by
  have k := Int.mul_nonneg t0 h0
  have e1 : (1000 - t) * H = 1000 * H - t * H := by grind
  have e2 : (1000 + t) * H = 1000 * H + t * H := by grind
  unfold agA
  rw [e1, e2]
  split
  · omega
  · rw [if_neg (by omega)]; omega
end Go.Proofs.Ytgjdopjolokaiaa

/- The reference of layer 10: Sum, Frustums, Bounds, Litres, Space. -/
namespace Go.Proofs.Ytgjdopjolokaiaa
open Go.RowKit

theorem mul_bd {p q : Int} (hp : 1 ≤ p ∧ p ≤ 100000) (hq : 1 ≤ q ∧ q ≤ 100000) : 1 ≤ p * q ∧ p * q ≤ 10000000000 := by
  have a := Int.mul_le_mul hp.1 hq.1 (by omega) (by omega)
  have b := Int.mul_le_mul hp.2 hq.2 (by omega) (by omega)
  omega
/-- what Frustums returns -/
def fuQ (l : List (Int × Int)) : Int := if ckE l = 0 then frS l else 0
def spL (l : List (Int × Int)) : Int := if ckE l = 0 then cbL (frS l) else 0
def spH (l : List (Int × Int)) : Int := if ckE l = 0 then cbH (frS l) else 0
end Go.Proofs.Ytgjdopjolokaiaa

/- What is kept by blocks that are laid, and by stores elsewhere. -/
namespace Go.Proofs.Ytgjdopjolokaiaa
open Go.RowKit

theorem bA {w Y : World} (h : Below w.heap.size w Y) (o : Obj) : Below w.heap.size w (Y.alloc o) := h.alloc h.size o
theorem bS {w Y : World} (g i : Nat) (v : Value) (h : Below w.heap.size w Y) (hg : w.heap.size ≤ g) : Below w.heap.size w (Y.setCell ⟨g, i, none⟩ v) := h.setCell (p := ⟨g, i, none⟩) hg v
theorem Two.newAt {P : Nat} (W : World) (x y : Value) (T : TypeId) (h : P = W.heap.size) : Two P (W.alloc (.cells #[x, y] T)) x y := by subst h; exact Two.new W x y T
theorem Two.both {b : Nat} {W : World} {x y : Value} (u v : Value) (h : Two b W x y) : Two b ((W.setCell ⟨b, 0, none⟩ u).setCell ⟨b, 1, none⟩ v) u v := (h.set0 u).set1 v
theorem Two.apart {b : Nat} {W : World} {x y : Value} (g i : Nat) (v : Value) (h : Two b W x y) (hp : g ≠ b) : Two b (W.setCell ⟨g, i, none⟩ v) x y := h.other ⟨g, i, none⟩ hp v
theorem cell_al {W : World} {a : Addr} {v : Value} (o : Obj) (h : W.cell? a = some v) : (W.alloc o).cell? a = some v := by rw [World.cell?_alloc_lt W o _ (World.block_lt_of_cell? W _ h)]; exact h
theorem two_kept {b : Nat} {A B : World} {x y : Value} {row : Option Nat} (h : Two b A x y) (hg : A.grownBy B row) (hr : ∀ r, row = some r → ∃ o : Obj, A.heap[r]? = some o ∧ o.isCells = false) : Two b B x y := by
  obtain ⟨h0, h1, h2, h3, h4⟩ := h
  exact ⟨cell_kept h0 hg hr, cell_kept h1 hg hr, (frozen_kept h0 hg hr).trans h2, (frozen_kept h1 hg hr).trans h3, Nat.lt_of_lt_of_le h4 hg.size⟩

theorem keeps_set2 {W X : World} (B : Nat) (p q : Addr) (u v : Value) (h : Below W.heap.size W X) : KeepsFrom B W ((X.setCell p u).setCell q v) := by
  have h0 : KeepsOthers W X := ⟨h.size, fun k o hk _ => by
    have hlt : k < W.heap.size := (Array.getElem?_eq_some_iff.1 hk).1
    rw [h.block k hlt]; exact hk⟩
  exact ((h0.trans (KeepsOthers.setCell _ _ _)).trans (KeepsOthers.setCell _ _ _)).from B
theorem cell_apart {W : World} {b i g j : Nat} {v : Value} (u : Value) (h : W.cell? ⟨b, i, none⟩ = some v) (hn : b ≠ g) : (W.setCell ⟨g, j, none⟩ u).cell? ⟨b, i, none⟩ = some v := by
  rw [World.cell?_setCell_other _ _ _ _ (fun e => by injection e; omega)]; exact h

end Go.Proofs.Ytgjdopjolokaiaa

/- A region that draws its order, where every frame may be entered: all operations but the last few read; then the rest, in the order of the text. -/
namespace Go.Proofs.Ytgjdopjolokaiaa
section
variable {F : Fence} {n : Nat} {P : Program} {ops : Array Oper} {md : Region.Mode} {w : World}

/-- everything may be entered -/
structure Free (F : Fence) (P : Program) : Prop where
  fn : ∀ f, F.fn f
  depth : F.depth = none
  call : ∀ {m : Nat} {f : FuncId} {args : Array Value} {w : World} {R : Ending → World → Prop}, Calls P f args w R → CallsIn F m P f args w R
theorem free_wide (P : Program) : Free Fence.wide P := ⟨fun _ => trivial, rfl, fun h => callsIn_wide.2 h⟩
theorem free_round (P : Program) (l : Nat) : Free (Fence.wide.inRound l) P := ⟨fun _ => trivial, rfl, fun h => CallsIn.inRound l (callsIn_wide.2 h)⟩

theorem wpIn_of_still (hF : Free F P) {o : Oper} {a : Act} {K : Act → Prop} {K' : Act → World → Prop} {Q' : Exit → Act → World → Prop} (hs : ∀ ρ, Oper.semAt F.round ρ o = execOp ρ o) (h : ∀ a, K a → K' a w) (hh : o.still P a w K) : o.wpIn F n P a w K' Q' := by
  refine ⟨fun f _ => hF.fn f, ?_⟩
  rw [hs]
  unfold Oper.still at hh
  generalize (execOp a.eval o).run P w = r at *
  cases r with
  | ok x w' =>
    cases x <;> simp only [Oper.stillUpon] at hh <;> simp only [Oper.uponIn]
    case enter f args =>
      obtain ⟨rfl, v, hc, hn⟩ := hh
      refine ⟨(fun h0 => by rw [hF.depth] at h0; cases h0), hF.call (hc.mono fun e w'' he => ?_)⟩
      obtain ⟨rfl, rfl⟩ := he
      exact h _ hn
    all_goals (obtain ⟨rfl, h2⟩ := hh; exact h _ h2)
  | halt x w' => simp only [Oper.stillUpon] at hh

theorem wpOpIn_of_stOp (hF : Free F P) {i : Nat} {a : Act} {K : Act → Prop} {K' : Act → World → Prop} {Q' : Exit → Act → World → Prop} (hs : ∀ o ∈ ops, ∀ ρ, Oper.semAt F.round ρ o = execOp ρ o) (h : ∀ a, K a → K' a w) (hh : stOp P ops w i K a) : wpOpIn F n P ops Q' i K' a w := by
  unfold stOp at hh
  unfold wpOpIn
  cases ho : ops[i]? with
  | none => simp only [ho] at hh; exact h _ hh
  | some o =>
    simp only [ho] at hh
    by_cases hw : Region.wanted o (yielded ops a.tmps) = true
    · simp only [hw, if_true] at hh ⊢
      exact wpIn_of_still hF (hs o (Array.mem_of_getElem? ho)) h hh
    · simp only [hw] at hh ⊢
      exact ⟨fun f _ => hF.fn f, h _ hh⟩

theorem wpAnyIn_of_head (hF : Free F P) {k g : Nat} {L : Array Bool → Act → Prop} {Q' : Exit → Act → World → Prop} (hs : ∀ o ∈ ops, ∀ ρ, Oper.semAt F.round ρ o = execOp ρ o) (hL : ∀ listed a, L listed a → wpAnyIn F n P md ops Q' g listed a w) :
    ∀ (f : Nat) (listed : Array Bool) (a : Act), wpAnyL P md ops w k L f listed a → wpAnyIn F n P md ops Q' (f + g) listed a w
  | 0, listed, a, h => by rw [Nat.zero_add]; exact hL _ _ h
  | f + 1, listed, a, h => by
    have e : f + 1 + g = (f + g) + 1 := by omega
    rw [e]
    exact ⟨fun h0 => absurd h0 h.1, fun i hi => wpOpIn_of_stOp hF hs (fun a' h' => wpAnyIn_of_head hF hs hL f _ a' h') (h.2 i hi).2⟩

theorem wpAnyIn_of_seq {Q' : Exit → Act → World → Prop} (l : List Oper) : ∀ (k : Nat) (listed : Array Bool) (a : Act) (w : World), (∀ j, l[j]? = ops[k + j]?) →
    Region.seqB md ops l.length k listed = true → wpListIn F n P ops Q' l a w → wpAnyIn F n P md ops Q' l.length listed a w := by
  induction l with
  | nil => intro k listed a w _ hB h; exact ⟨by simpa [Region.seqB] using hB, h⟩
  | cons o l ih =>
    intro k listed a w hl hB h
    have h0 : ops[k]? = some o := by simpa using (hl 0).symm
    simp only [List.length_cons, Region.seqB, Bool.and_eq_true, decide_eq_true_eq] at hB
    refine ⟨(fun h1 => by rw [hB.1] at h1; cases h1), fun i hi => ?_⟩
    rw [hB.1] at hi
    obtain rfl : i = k := by simpa using hi
    have hw : wpOpIn F n P ops Q' i (wpListIn F n P ops Q' l) a w := by unfold wpOpIn; simp only [h0]; exact h
    exact wpOpIn_mono (fun a' w' h' => ih (i + 1) _ a' w' (fun j => by have := hl (j + 1); rw [List.getElem?_cons_succ] at this; rw [this]; congr 1; omega) hB.2 h') hw

theorem wpIn_region_tail (hF : Free F P) {id : Nat} {Q : Exit → Act → World → Prop} {a : Act} {l : List Oper} (k : Nat) (hm : P.follows .mixedOrders = true) (hB : Region.lexTailB .any l.toArray k = true) (hs : ∀ o ∈ l.toArray, ∀ ρ, Oper.semAt F.round ρ o = execOp ρ o)
    (h : wpStill P l.toArray w.drew (fun a' => wpListIn F n P l.toArray Q (l.drop k) a' w.drew) (l.take k) a) : (Code.region id l.toArray true).wpIn F n P Q a w := by
  simp only [Region.lexTailB, Bool.and_eq_true, decide_eq_true_eq] at hB
  obtain ⟨⟨⟨⟨hsel, hn⟩, hsk⟩, hc⟩, hlex⟩ := hB
  have hn' : k < l.length := by simpa using hn
  have htl : (l.take k).length = k := by simp; omega
  have hdl : (l.drop k).length = l.toArray.size - k := by simp
  have inv0 : HeadInv .any l.toArray k (Array.replicate l.toArray.size false) :=
    ⟨by simp, fun j oj _ hl => (by rw [getD_replicate_false] at hl; cases hl), fun t _ ht => getD_in (by simpa using ht) (getD_replicate_false _ _)⟩
  have H := wpAnyL_lex (md := .any) (g := l.toArray.size - k) (w := w.drew) hsel hsk hc hn (l.take k) 0 _ a (fun j hj => by
    have hj' : j < k := by rw [htl] at hj; exact hj
    simp [hj']) (by simpa using htl) inv0 (by rw [htl]; exact hlex) h
  refine wpIn_region_any hm ?_
  have G := wpAnyIn_of_head (n := n) (Q' := Q) (g := l.toArray.size - k) hF hs (fun listed a' hL => by
    have := wpAnyIn_of_seq (F := F) (n := n) (P := P) (md := .any) (Q' := Q) (l.drop k) k listed a' w.drew (fun j => by simp [List.getElem?_drop]) (by rw [hdl]; exact hL.1) hL.2
    rwa [hdl] at this) _ _ _ H
  rw [htl, show k + (l.toArray.size - k) = l.toArray.size by omega] at G
  exact G
end
/-- no operation that is laid aside for later -/
def plainOps (l : List Oper) : Bool := l.all fun o => match o.op with | .defer _ => false | _ => true
theorem sem_all {ro : Option Nat} {l : List Oper} (h : plainOps l = true) : ∀ o ∈ l.toArray, ∀ ρ, Oper.semAt ro ρ o = execOp ρ o := fun o ho ρ => by
  have := List.all_eq_true.1 h o (by simpa using ho)
  exact Oper.semAt_eq ro ρ o (fun c e => by rw [e] at this; cases this)
end Go.Proofs.Ytgjdopjolokaiaa

/- The first numbers below a bound: what an iterator has yielded when some rounds are over. -/
namespace Go.Proofs.Ytgjdopjolokaiaa
def ups (m k : Nat) : List (Fin m) := (List.range k).filterMap fun j => if h : j < m then some ⟨j, h⟩ else none
theorem ups_succ {m k : Nat} (h : k < m) : ups m (k + 1) = ups m k ++ [⟨k, h⟩] := by simp [ups, List.range_succ, h]
theorem ups_val {m k : Nat} (h : k ≤ m) : (ups m k).map (fun j => j.val) = List.range k := by
  induction k with
  | zero => simp [ups]
  | succ k ih => rw [ups_succ (by omega), List.map_append, ih (by omega), List.range_succ]; rfl
theorem ups_len {m k : Nat} (h : k ≤ m) : (ups m k).length = k := by
  have := congrArg List.length (ups_val h)
  simpa using this
theorem ups_zero (m : Nat) : ups m 0 = [] := rfl
end Go.Proofs.Ytgjdopjolokaiaa

/- Package profile: pieces are yielded. -/
namespace Go.Proofs.Ytgjdopjolokaiaa
open Go.RowKit Go.Shelf
attribute [local go_sem] Oper.semAt_some

/-- the index of a piece's second point, and the piece -/
def encP (l : List (Int × Int)) {m : Nat} (j : Fin m) : Array Value := #[.int .i64 ((j.val : Int) + 1), .agg #[.int .i64 (gX l j.val), .int .i64 (gR l j.val), .int .i64 (gX l (j.val + 1)), .int .i64 (gR l (j.val + 1))]]

/-- what a round keeps: what lay below n₀, and a box -/
def KpB (Bs n₀ : Nat) (W W' : World) : Prop := Below n₀ W W' ∧ ∀ v, W.cell? ⟨Bs, 0, none⟩ = some v → W'.cell? ⟨Bs, 0, none⟩ = some v
theorem kpB_refl (Bs n₀ : Nat) (W : World) : KpB Bs n₀ W W := ⟨Below.refl _ _, fun _ h => h⟩
theorem kpB_t {Bs n₀ : Nat} {A B C : World} (h : KpB Bs n₀ A B) (k : KpB Bs n₀ B C) : KpB Bs n₀ A C := ⟨h.1.trans k.1, fun v e => k.2 v (h.2 v e)⟩
theorem kpB_b {Bs n₀ : Nat} {w : World} (hn : n₀ ≤ w.heap.size) (W : World) (l : Nat) (o o' : Obj) (hl : w.heap.size ≤ l) (h : W.heap[l]? = some o) (h1 : o.isCells = false) (h2 : o.isWalk = false) : KpB Bs n₀ W (W.putObj l o') :=
  ⟨belowK_b hn W l o o' hl h h1 h2, fun _ e => cell_kept e (grownBy_putObj' W l o') (fun r e => by cases e; exact ⟨o, h, h1⟩)⟩
theorem kpB_drew (Bs n₀ : Nat) (W : World) : KpB Bs n₀ W W.drew := ⟨⟨rfl, rfl, rfl, Nat.le_refl _, fun _ _ => rfl⟩, fun _ h => h⟩

set_option maxRecDepth 100000 in
set_option maxHeartbeats 4000000 in
theorem pieces1_in (n : Nat) (l Bs n₀ b off len cap : Nat) (zs : List (Int × Int)) (hl : 1 ≤ len) (hl2 : len ≤ 1000) (hb : b < n₀) (J Jx : List (Fin (len - 1)) → World → Prop) (B0 : Nat) (hJ : AbidesFrom B0 J)
    (hY : ∀ pre x W, J pre W → pre.length < len - 1 → YieldAt Fence.wide (n - 1) Try.prog l (encP zs x) W fun e W' =>
      (e = .returned (.bool true) ∧ J (pre ++ [x]) W' ∧ KpB Bs n₀ W W') ∨ (e = .returned (.bool false) ∧ Jx (pre ++ [x]) W'))
    (W : World) (hBs : W.cell? ⟨Bs, 0, none⟩ = some (.slice (some ⟨b, off, none⟩) len cap)) (hc : ∀ j, j < len → W.cell? ⟨b, off + j * 2, none⟩ = some (.int .i64 (gX zs j)) ∧ W.cell? ⟨b, off + j * 2 + 1, none⟩ = some (.int .i64 (gR zs j))) (h0 : J [] W) :
    CallsIn Fence.wide n Try.prog 100 #[.func (.yield l) #[] #[], .pointer (some ⟨Bs, 0, none⟩)] W fun e W' => (∃ v, e = .returned v) ∧
      ((∃ ys, ys = ups (len - 1) (len - 1) ∧ J ys W') ∨ (∃ pre, (∃ k, k ≤ len - 1 ∧ pre = ups (len - 1) k) ∧ Jx pre W')) := by
  refine callsIn_of_wp Try.func100 rfl trivial ?_ rfl
  simp only [Try.ntmps100, List.size_toArray, List.length_cons, List.length_nil, Nat.reduceAdd, Nat.reduceSub, Array.replicate_succ, Array.replicate_zero, List.push_toArray, List.append_toArray, List.nil_append, List.cons_append]
  gi_wp2
  gi_loopw [3] (fun i wr => ∃ k : Nat, k + 1 ≤ len ∧ i = .int .i64 ((k : Int) + 1) ∧ J (ups (len - 1) k) wr ∧ KpB Bs n₀ W wr)
    (fun i _ => len - (intOf i).toNat)
  case atStart => exact ⟨0, hl, rfl, h0, kpB_refl _ _ _⟩
  case round =>
    obtain ⟨k, hk, rfl, hJs, hnx⟩ := hrel
    have hBx : wr.cell? ⟨Bs, 0, none⟩ = some (.slice (some ⟨b, off, none⟩) len cap) := hnx.2 _ hBs
    by_cases hlt : k + 1 < len
    · have c0 := hc k (by omega)
      have c1 := hc (k + 1) hlt
      have d0 : wr.cell? ⟨b, off + k * 2, none⟩ = some (.int .i64 (gX zs k)) := (hnx.1.cell (p := ⟨b, off + k * 2, none⟩) hb).trans c0.1
      have d1 : wr.cell? ⟨b, off + k * 2 + 1, none⟩ = some (.int .i64 (gR zs k)) := (hnx.1.cell (p := ⟨b, off + k * 2 + 1, none⟩) hb).trans c0.2
      have d2 : wr.cell? ⟨b, off + (k + 1) * 2, none⟩ = some (.int .i64 (gX zs (k + 1))) := (hnx.1.cell (p := ⟨b, off + (k + 1) * 2, none⟩) hb).trans c1.1
      have d3 : wr.cell? ⟨b, off + (k + 1) * 2 + 1, none⟩ = some (.int .i64 (gR zs (k + 1))) := (hnx.1.cell (p := ⟨b, off + (k + 1) * 2 + 1, none⟩) hb).trans c1.2
      clear c0 c1
      obtain ⟨fn, tmps, assign, body, hy, hR⟩ := hY _ ⟨k, by omega⟩ wr.drew (hJ _ _ _ none hJs ⟨rfl, rfl, rfl, Nat.le_refl _, fun _ _ _ => rfl⟩ (fun r e => by cases e)) (by rw [ups_len (by omega)]; omega)
      rw [← ups_succ (by omega)] at hR
      dsimp only [encP] at hy
      have hmx : Try.prog.follows .mixedOrders = true := by kernel_rfl
      have HR2 : Hid (RoundIn Fence.wide (n - 1) Try.prog l fn tmps assign body wr.drew fun e W' => ∃ bb : Bool, e = .returned (.bool bb) ∧ Hid ((bb = true ∧ J (ups (len - 1) (k + 1)) W' ∧ KpB Bs n₀ wr.drew W') ∨ (bb = false ∧ Jx (ups (len - 1) (k + 1)) W'))) := by
        refine hR.mono ?_
        rintro e W3 (⟨rfl, h⟩ | ⟨rfl, h⟩)
        · exact ⟨true, rfl, .inl ⟨rfl, h⟩⟩
        · exact ⟨false, rfl, .inr ⟨rfl, h⟩⟩
      clear hR
      generalize gX zs k = x at *
      generalize gR zs k = p at *
      generalize gX zs (k + 1) = y at *
      generalize gR zs (k + 1) = q at *
      have wj : IntKind.i64.wrap ((k : Int) + 1 - 1) = (k : Int) := by simp only [IntKind.wrap_i64]; omega
      have wk : IntKind.i64.wrap (k : Int) = (k : Int) := by simp only [IntKind.wrap_i64]; omega
      have l0 : (k : Int) < (len : Int) := by omega
      have l1 : (k : Int) + 1 < (len : Int) := by omega
      have l2 : k < len := by omega
      have l3 : 0 ≤ (k : Int) + 1 := by omega
      have l4 : ((k : Int) + 1).toNat = k + 1 := by omega
      gi_wp2
      refine wpIn_region_tail (free_wide _) 12 hmx (by kernel_rfl) (fun _ _ _ => rfl) ?_
      simp only [List.take_succ_cons, List.take_zero, List.drop_succ_cons, List.drop_zero]
      repeat still_step
      refine wpStill_nil ?_
      gi_wp2
      refine ⟨(fun h => by cases h), HR2.out.mono ?_⟩
      rintro e W3 ⟨bb, rfl, h3⟩
      rcases h3.out with ⟨rfl, hJ3, hk3⟩ | ⟨rfl, hJx3⟩
      · gi_wp2
        go_roundw
        case rel => exact ⟨k + 1, by omega, by go_num, hJ3, kpB_t hnx (kpB_t (kpB_drew _ _ wr) hk3)⟩
        case measure => simp [intOf]; omega
      · gi_wp2
        refine bodyPost_ret (results_none rfl _ _ _) rfl ?_
        exact ⟨⟨_, rfl⟩, .inr ⟨_, ⟨k + 1, by omega, rfl⟩, hJx3⟩⟩
    · obtain rfl : len = k + 1 := by omega
      gi_wp2
      go_end0
      exact ⟨⟨_, rfl⟩, .inl ⟨_, rfl, hJs⟩⟩

theorem pieces_any (a : Option Addr) (len cap : Nat) (w : World) :
    Calls Try.prog 91 #[.slice a len cap] w fun e w' => e = .returned (.func (.func 100) #[] #[.pointer (some ⟨w.heap.size, 0, none⟩)]) ∧ w' = w.alloc (.cells #[.slice a len cap] 22) := by
  have hmf : ∀ (fn : Fn) (first cap : Array Value) (w : World), (Instr.makeFunc fn first cap).run Try.prog w = .ok (.func fn first cap) w := fun _ _ _ _ => rfl
  go_enter Try.func91, Try.ntmps91
  go_wp2
  go_ret
  exact ⟨rfl, rfl⟩

/-- what pieces returns yields all pieces, or the first ones -/
theorem pieces_stops (n Bs n₀ b off len cap : Nat) (zs : List (Int × Int)) (hl : 1 ≤ len) (hl2 : len ≤ 1000) (hb : b < n₀) (w : World) (hn : n₀ ≤ w.heap.size)
    (hBs : w.cell? ⟨Bs, 0, none⟩ = some (.slice (some ⟨b, off, none⟩) len cap)) (hc : ∀ j, j < len → w.cell? ⟨b, off + j * 2, none⟩ = some (.int .i64 (gX zs j)) ∧ w.cell? ⟨b, off + j * 2 + 1, none⟩ = some (.int .i64 (gR zs j))) :
    SeqStopsK Fence.wide n Try.prog 100 #[.pointer (some ⟨Bs, 0, none⟩)] (fun x : Fin (len - 1) => encP zs x) (KpB Bs n₀) (fun ys => ys = ups (len - 1) (len - 1))
      (fun pre => ∃ k, k ≤ len - 1 ∧ pre = ups (len - 1) k) (len - 1) w := fun l J Jx W hW hJ _ hY h0 =>
  pieces1_in n l Bs n₀ b off len cap zs hl hl2 hb J Jx W.heap.size hJ hY W ((hW.cell (p := ⟨Bs, 0, none⟩) (World.block_lt_of_cell? w _ hBs)).trans hBs) (fun j hj => ⟨(hW.cell (p := ⟨b, off + j * 2, none⟩) (by show b < _; omega)).trans (hc j hj).1, (hW.cell (p := ⟨b, off + j * 2 + 1, none⟩) (by show b < _; omega)).trans (hc j hj).2⟩) h0
end Go.Proofs.Ytgjdopjolokaiaa

/- Package profile: advances. -/
namespace Go.Proofs.Ytgjdopjolokaiaa
open Go.RowKit Go.Shelf
attribute [local go_sem] Oper.semAt_some

/-- a block with four cells -/
def Four (b : Nat) (W : World) (x p y q : Value) : Prop := W.cell? ⟨b, 0, none⟩ = some x ∧ W.cell? ⟨b, 1, none⟩ = some p ∧ W.cell? ⟨b, 2, none⟩ = some y ∧ W.cell? ⟨b, 3, none⟩ = some q
theorem Four.new (W : World) (x p y q : Value) (T : TypeId) : Four W.heap.size (W.alloc (.cells #[x, p, y, q] T)) x p y q := ⟨by simp [go_sem], by simp [go_sem], by simp [go_sem], by simp [go_sem]⟩
theorem four_kept {b : Nat} {A B : World} {x p y q : Value} {row : Option Nat} (h : Four b A x p y q) (hg : A.grownBy B row) (hr : ∀ r, row = some r → ∃ o : Obj, A.heap[r]? = some o ∧ o.isCells = false) : Four b B x p y q := by
  obtain ⟨h0, h1, h2, h3⟩ := h
  exact ⟨cell_kept h0 hg hr, cell_kept h1 hg hr, cell_kept h2 hg hr, cell_kept h3 hg hr⟩

set_option maxRecDepth 100000 in
set_option maxHeartbeats 8000000 in
theorem advances_some (b off n cap : Nat) (l : List (Int × Int)) (A : Bool) (w : World) (n0 : 1 ≤ n) (n1 : n ≤ 1000) (hb : b < w.heap.size)
    (hc : Hid (∀ j, j < n → w.cell? ⟨b, off + j * 2, none⟩ = some (.int .i64 (gX l j)) ∧ w.cell? ⟨b, off + j * 2 + 1, none⟩ = some (.int .i64 (gR l j))))
    (h1 : Hid ((∀ j, j + 1 < n → gX l j < gX l (j + 1)) → A = (gX l 0 == 0))) (h2 : Hid ((∃ j, j + 1 < n ∧ ¬ gX l j < gX l (j + 1)) → A = false)) :
    Calls Try.prog 69 #[.slice (some ⟨b, off, none⟩) n cap] w fun e w' => e = .returned (.bool A) ∧ Below w.heap.size w w' := by
  refine (callsIn_wide (n := 10)).1 ?_
  refine callsIn_of_wp_marks Try.func69 rfl trivial ?_ rfl
  simp only [Try.ntmps69, List.size_toArray, List.length_cons, List.length_nil, Nat.reduceAdd, Nat.reduceSub, Array.replicate_succ, Array.replicate_zero, List.push_toArray, List.append_toArray, List.nil_append, List.cons_append]
  gi_wp2_with fail
  refine ⟨trivial, (callsIn_wide.2 (pieces_any _ _ _ _)).mono ?_⟩
  rintro e w3 ⟨rfl, rfl⟩
  gi_wp2_with fail
  have BO : Hid (Boxed (w.alloc (.cells #[.bool false] 4)) w.heap.size 4 (.bool false)) := Boxed.new w 4 (.bool false)
  have BX : Hid (Boxed ((w.alloc (.cells #[.bool false] 4)).alloc (.cells #[.slice (some ⟨b, off, none⟩) n cap] 22)) (w.heap.size + 1) 22 (.slice (some ⟨b, off, none⟩) n cap)) := by
    have := Boxed.new (w.alloc (.cells #[.bool false] 4)) 22 (.slice (some ⟨b, off, none⟩) n cap)
    rwa [World.size_alloc] at this
  replace BO := Lib.hid (BO.out.alloc (.cells #[.slice (some ⟨b, off, none⟩) n cap] 22))
  have X1 : Hid (Below w.heap.size w ((w.alloc (.cells #[.bool false] 4)).alloc (.cells #[.slice (some ⟨b, off, none⟩) n cap] 22))) := bel_alloc (bel_alloc (Below.refl _ _))
  obtain ⟨W0, hW0⟩ : ∃ W0, ((w.alloc (.cells #[.bool false] 4)).alloc (.cells #[.slice (some ⟨b, off, none⟩) n cap] 22)) = W0 := ⟨_, rfl⟩
  have hsz : W0.heap.size = w.heap.size + 1 + 1 := by rw [← hW0]; simp
  rw [hW0] at BO BX X1 ⊢
  clear hW0
  have hl1 : ∀ j, j < n → W0.cell? ⟨b, off + j * 2, none⟩ = some (.int .i64 (gX l j)) ∧ W0.cell? ⟨b, off + j * 2 + 1, none⟩ = some (.int .i64 (gR l j)) := fun j hj => by rw [(bcell X1.out).1 _ _ hb, (bcell X1.out).1 _ _ hb]; exact hc.out j hj
  refine wpIn_rangeFunc_ownH rfl (by omega) (gf := 100) (lb := #[.pointer (some ⟨w.heap.size + 1, 0, none⟩)]) rfl trivial (enters_of Try.func100 (by kernel_rfl) rfl)
    (pieces_stops 9 (w.heap.size + 1) w.heap.size b off n cap l (by omega) (by omega) hb W0 X1.out.size BX.out.cell hl1) kpB_t (kpB_b X1.out.size) (Below.refl _ _) (fun _ => rfl)
    (fun pre W => (∀ j ∈ pre, gX l j.val < gX l (j.val + 1)) ∧ Boxed W w.heap.size 4 (.bool false) ∧ Boxed W (w.heap.size + 1) 22 (.slice (some ⟨b, off, none⟩) n cap) ∧ Below w.heap.size w W)
    (fun c pre W => c = .ret ∧ (∃ j ∈ pre, ¬ gX l j.val < gX l (j.val + 1)) ∧ W.cell? ⟨w.heap.size, 0, none⟩ = some (.bool false) ∧ Below w.heap.size w W)
    (fun s A B row ⟨i1, i2, i3, i4⟩ hg hr => ⟨i1, i2.kept hg (fun e => by obtain ⟨o, h3, h4⟩ := (hr _ e.symm).2; rw [show A.heap[w.heap.size]? = _ from i2] at h3; cases h3; cases h4), i3.kept hg (fun e => by obtain ⟨o, h3, h4⟩ := (hr _ e.symm).2; rw [show A.heap[w.heap.size + 1]? = _ from i3] at h3; cases h3; cases h4), ownFrom_below (β := Unit) (Nat.le_refl _) X1.out.size () A B row i4 hg hr⟩)
    (fun c s A B row ⟨i1, i2, i3, i4⟩ hg hr => ⟨i1, i2, cell_kept i3 hg (fun r e => (hr r e).2), ownFrom_below (β := Unit) (Nat.le_refl _) X1.out.size () A B row i4 hg hr⟩)
    ⟨(fun j hj => by cases hj), BO.out, BX.out, X1.out⟩
    (fun x a' W => ∃ Bx : Nat, w.heap.size + 1 < Bx ∧ Four Bx W (.int .i64 (gX l x.val)) (.int .i64 (gR l x.val)) (.int .i64 (gX l (x.val + 1))) (.int .i64 (gR l (x.val + 1))) ∧ a' = { tmps := #[.slice (some ⟨b, off, none⟩) n cap, undef, .pointer (some ⟨w.heap.size, 0, none⟩), undef, .pointer (some ⟨Bx, 0, none⟩), .slice (some ⟨b, off, none⟩) n cap, .func (.func 100) #[] #[.pointer (some ⟨w.heap.size + 1, 0, none⟩)], .int .i64 ((x.val : Int) + 1), .agg #[.int .i64 (gX l x.val), .int .i64 (gR l x.val), .int .i64 (gX l (x.val + 1)), .int .i64 (gR l (x.val + 1))], undef, undef, undef, undef, undef, undef, undef, undef, undef, undef, undef, undef], defers := [] })
    (fun x a' _ A B row ⟨Bx, h1, h2, h3⟩ hg hr => ⟨Bx, h1, four_kept h2 hg (fun r e => (hr r e).2), h3⟩) ?assign ?body ?done ?stop
  case assign =>
    rintro lp pre x W K ⟨i1, i2, i3, i4⟩ hK
    dsimp only [encP]
    generalize gX l x.val = u at *
    generalize gR l x.val = p at *
    generalize gX l (x.val + 1) = v at *
    generalize gR l (x.val + 1) = q at *
    gi_wp2
    exact hK _ _ ((KeepsOthers.alloc _ _).from _) ⟨(Below.refl _ W).alloc i4.size _, fun v e => (cell_al _ e)⟩ ⟨i1, i2.alloc _, i3.alloc _, bA i4 _⟩ ⟨W.heap.size, i3.lt, Four.new _ _ _ _ _ _, rfl⟩
  case body =>
    rintro lp pre x aa W hlp ⟨rr, hrr⟩ ⟨i1, i2, i3, i4⟩ ⟨Bx, hBx, iX, rfl⟩ hlen
    have hxl := x.isLt
    by_cases hq : gX l x.val < gX l (x.val + 1)
    · have e1 : ∀ j ∈ pre ++ [x], gX l j.val < gX l (j.val + 1) := fun j hj => by
        rcases List.mem_append.1 hj with h | h
        · exact i1 j h
        · rw [List.mem_singleton.1 h]; exact hq
      generalize gX l x.val = u at *
      generalize gR l x.val = p at *
      generalize gX l (x.val + 1) = v at *
      generalize gR l (x.val + 1) = q at *
      obtain ⟨f0, f1, f2, f3⟩ := iX
      gi_wp2
      exact ⟨(KeepsOthers.refl _).from _, kpB_refl _ _ _, e1, i2, i3, i4⟩
    · have e1 : ∃ j ∈ pre ++ [x], ¬ gX l j.val < gX l (j.val + 1) := ⟨x, by simp, hq⟩
      generalize gX l x.val = u at *
      generalize gR l x.val = p at *
      generalize gX l (x.val + 1) = v at *
      generalize gR l (x.val + 1) = q at *
      obtain ⟨f0, f1, f2, f3⟩ := iX
      have hc2 := i2.cell
      have hf2 := i2.frozen
      gi_wp2
      exact ⟨(KeepsOthers.setCell _ _ _).from _, rfl, e1, World.cell?_setCell_same _ _ _ hc2, i4.setCell (p := ⟨w.heap.size, 0, none⟩) (Nat.le_refl _) _⟩
  case done =>
    rintro D ys W hD rfl ⟨i1, i2, i3, i4⟩ hK
    have hA := h1.out (fun j hj => i1 ⟨j, by omega⟩ (by
      have hv := ups_val (m := n - 1) (Nat.le_refl _)
      have : j ∈ (ups (n - 1) (n - 1)).map (fun j => j.val) := by rw [hv]; exact List.mem_range.2 (by omega)
      obtain ⟨y, hy, he⟩ := List.mem_map.1 this
      have : y = ⟨j, by omega⟩ := Fin.ext he
      rwa [this] at hy))
    have c0 : W.cell? ⟨b, off + 0 * 2, none⟩ = some (.int .i64 (gX l 0)) := by rw [(bcell i4).1 _ _ hb]; exact (hc.out 0 (by omega)).1
    rw [Nat.zero_mul, Nat.add_zero] at c0
    have hc2 := i2.cell
    have hf2 := i2.frozen
    subst hA
    obtain ⟨x0, hx0⟩ : ∃ x0, gX l 0 = x0 := ⟨_, rfl⟩
    rw [hx0] at c0
    cases hx : (x0 == 0) with
    | true =>
      gi_wp2
      have hK' := (KeepsOthers.setCell W ⟨w.heap.size, 0, none⟩ (.bool true)).same D _ hK rfl
      refine ⟨by simp, .inl ⟨_, _, rfl, run_takeDeferred hK', ?_⟩⟩
      have hc5 := cell_kept (World.cell?_setCell_same W ⟨w.heap.size, 0, none⟩ (.bool true) hc2) (grownBy_putObj' _ D (.deferred none)) (fun r e => by cases e; exact ⟨_, hK', rfl⟩)
      refine ⟨.bool true, ?_, by first | rfl | rw [hx0, hx], (i4.setCell (p := ⟨w.heap.size, 0, none⟩) (Nat.le_refl _) _).trans (belowK_b (w := w) (Nat.le_refl _) _ D _ _ (by omega) hK' rfl rfl)⟩
      simp [results, Try.results69, go_sem, hc5]
    | false =>
      gi_wp2
      have hK' := (KeepsOthers.setCell W ⟨w.heap.size, 0, none⟩ (.bool false)).same D _ hK rfl
      refine ⟨by simp, .inl ⟨_, _, rfl, run_takeDeferred hK', ?_⟩⟩
      have hc5 := cell_kept (World.cell?_setCell_same W ⟨w.heap.size, 0, none⟩ (.bool false) hc2) (grownBy_putObj' _ D (.deferred none)) (fun r e => by cases e; exact ⟨_, hK', rfl⟩)
      refine ⟨.bool false, ?_, by first | rfl | rw [hx0, hx], (i4.setCell (p := ⟨w.heap.size, 0, none⟩) (Nat.le_refl _) _).trans (belowK_b (w := w) (Nat.le_refl _) _ D _ _ (by omega) hK' rfl rfl)⟩
      simp [results, Try.results69, go_sem, hc5]
  case stop =>
    rintro D cc pre W hD _ ⟨rfl, ⟨j, _, hj⟩, i3, i4⟩ hK
    have hjl := j.isLt
    have hA := h2.out ⟨j.val, by omega, by omega⟩
    subst hA
    gi_wp2
    refine ⟨by simp, .inl ⟨_, _, rfl, run_takeDeferred hK, ?_⟩⟩
    have hc5 := cell_kept i3 (grownBy_putObj' _ D (.deferred none)) (fun r e => by cases e; exact ⟨_, hK, rfl⟩)
    refine ⟨.bool false, ?_, rfl, i4.trans (belowK_b (w := w) (Nat.le_refl _) _ D _ _ (by omega) hK rfl rfl)⟩
    simp [results, Try.results69, go_sem, hc5]
end Go.Proofs.Ytgjdopjolokaiaa

/- Package profile: swells. -/
namespace Go.Proofs.Ytgjdopjolokaiaa
open Go.RowKit Go.Shelf
attribute [local go_sem] Oper.semAt_some

theorem box_kept {A B : World} {row : Option Nat} {g : Nat} {t : TypeId} {v : Value} (h : Boxed A g t v) (hg : A.grownBy B row) (hr : ∀ r, row = some r → ∃ o : Obj, A.heap[r]? = some o ∧ o.isCells = false) : Boxed B g t v :=
  h.kept hg (fun e => by obtain ⟨o, h3, h4⟩ := hr _ e.symm; rw [show A.heap[g]? = _ from h] at h3; cases h3; cases h4)
/-- whether some pieces fall, and whether one rises behind one that falls -/
def stP (l : List (Int × Int)) {m : Nat} (pre : List (Fin m)) : Bool × Bool := pre.foldl (fun s j => (s.1 || decide (gR l (j.val + 1) < gR l j.val), s.2 || (s.1 && decide (gR l j.val < gR l (j.val + 1))))) (false, false)
theorem stP_snoc (l : List (Int × Int)) {m : Nat} (pre : List (Fin m)) (j : Fin m) : stP l (pre ++ [j]) = ((stP l pre).1 || decide (gR l (j.val + 1) < gR l j.val), (stP l pre).2 || ((stP l pre).1 && decide (gR l j.val < gR l (j.val + 1)))) := by
  unfold stP; rw [List.foldl_append]; rfl
theorem stP_all (l : List (Int × Int)) {m : Nat} (k : Nat) (h : k ≤ m) : stP l (ups m k) = (fal l k, swl l k) := by
  induction k with
  | zero => rfl
  | succ k ih => rw [ups_succ (by omega), stP_snoc, ih (by omega)]; rfl

set_option maxRecDepth 100000 in
set_option maxHeartbeats 8000000 in
theorem swells_some (b off n cap : Nat) (l : List (Int × Int)) (S : Bool) (w : World) (n0 : 1 ≤ n) (n1 : n ≤ 1000) (hb : b < w.heap.size)
    (hc : Hid (∀ j, j < n → w.cell? ⟨b, off + j * 2, none⟩ = some (.int .i64 (gX l j)) ∧ w.cell? ⟨b, off + j * 2 + 1, none⟩ = some (.int .i64 (gR l j))))
    (hS : Hid (swl l (n - 1) = S)) :
    Calls Try.prog 71 #[.slice (some ⟨b, off, none⟩) n cap] w fun e w' => e = .returned (.bool S) ∧ Below w.heap.size w w' := by
  refine (callsIn_wide (n := 10)).1 ?_
  refine callsIn_of_wp_marks Try.func71 rfl trivial ?_ rfl
  simp only [Try.ntmps71, List.size_toArray, List.length_cons, List.length_nil, Nat.reduceAdd, Nat.reduceSub, Array.replicate_succ, Array.replicate_zero, List.push_toArray, List.append_toArray, List.nil_append, List.cons_append]
  gi_wp2_with fail
  refine ⟨trivial, (callsIn_wide.2 (pieces_any _ _ _ _)).mono ?_⟩
  rintro e w3 ⟨rfl, rfl⟩
  gi_wp2_with fail
  have BO : Hid (Boxed (w.alloc (.cells #[.bool false] 4)) w.heap.size 4 (.bool false)) := Boxed.new w 4 (.bool false)
  have BF : Hid (Boxed ((w.alloc (.cells #[.bool false] 4)).alloc (.cells #[.bool false] 4)) (w.heap.size + 1) 4 (.bool false)) := by
    have := Boxed.new (w.alloc (.cells #[.bool false] 4)) 4 (.bool false)
    rwa [World.size_alloc] at this
  have BX : Hid (Boxed (((w.alloc (.cells #[.bool false] 4)).alloc (.cells #[.bool false] 4)).alloc (.cells #[.slice (some ⟨b, off, none⟩) n cap] 22)) (w.heap.size + 1 + 1) 22 (.slice (some ⟨b, off, none⟩) n cap)) := by
    have := Boxed.new ((w.alloc (.cells #[.bool false] 4)).alloc (.cells #[.bool false] 4)) 22 (.slice (some ⟨b, off, none⟩) n cap)
    rwa [World.size_alloc, World.size_alloc] at this
  replace BO := Lib.hid ((BO.out.alloc (.cells #[.bool false] 4)).alloc (.cells #[.slice (some ⟨b, off, none⟩) n cap] 22))
  replace BF := Lib.hid (BF.out.alloc (.cells #[.slice (some ⟨b, off, none⟩) n cap] 22))
  have X1 : Hid (Below w.heap.size w (((w.alloc (.cells #[.bool false] 4)).alloc (.cells #[.bool false] 4)).alloc (.cells #[.slice (some ⟨b, off, none⟩) n cap] 22))) := bel_alloc (bel_alloc (bel_alloc (Below.refl _ _)))
  obtain ⟨W0, hW0⟩ : ∃ W0, (((w.alloc (.cells #[.bool false] 4)).alloc (.cells #[.bool false] 4)).alloc (.cells #[.slice (some ⟨b, off, none⟩) n cap] 22)) = W0 := ⟨_, rfl⟩
  have hsz : W0.heap.size = w.heap.size + 1 + 1 + 1 := by rw [← hW0]; simp
  rw [hW0] at BO BF BX X1 ⊢
  clear hW0
  have hl1 : ∀ j, j < n → W0.cell? ⟨b, off + j * 2, none⟩ = some (.int .i64 (gX l j)) ∧ W0.cell? ⟨b, off + j * 2 + 1, none⟩ = some (.int .i64 (gR l j)) := fun j hj => by rw [(bcell X1.out).1 _ _ hb, (bcell X1.out).1 _ _ hb]; exact hc.out j hj
  refine wpIn_rangeFunc_ownH rfl (by omega) (gf := 100) (lb := #[.pointer (some ⟨w.heap.size + 1 + 1, 0, none⟩)]) rfl trivial (enters_of Try.func100 (by kernel_rfl) rfl)
    (pieces_stops 9 (w.heap.size + 1 + 1) w.heap.size b off n cap l (by omega) (by omega) hb W0 X1.out.size BX.out.cell hl1) kpB_t (kpB_b X1.out.size) (Below.refl _ _) (fun _ => rfl)
    (fun pre W => (stP l pre).2 = false ∧ Boxed W w.heap.size 4 (.bool false) ∧ Boxed W (w.heap.size + 1) 4 (.bool (stP l pre).1) ∧ Boxed W (w.heap.size + 1 + 1) 22 (.slice (some ⟨b, off, none⟩) n cap) ∧ Below w.heap.size w W)
    (fun c pre W => c = .ret ∧ (stP l pre).2 = true ∧ W.cell? ⟨w.heap.size, 0, none⟩ = some (.bool true) ∧ Below w.heap.size w W)
    (fun s A B row ⟨i1, i2, i3, i4, i5⟩ hg hr => ⟨i1, box_kept i2 hg (fun r e => (hr r e).2), box_kept i3 hg (fun r e => (hr r e).2), box_kept i4 hg (fun r e => (hr r e).2), ownFrom_below (β := Unit) (Nat.le_refl _) X1.out.size () A B row i5 hg hr⟩)
    (fun c s A B row ⟨i1, i2, i3, i4⟩ hg hr => ⟨i1, i2, cell_kept i3 hg (fun r e => (hr r e).2), ownFrom_below (β := Unit) (Nat.le_refl _) X1.out.size () A B row i4 hg hr⟩)
    ⟨rfl, BO.out, BF.out, BX.out, X1.out⟩
    (fun x a' W => ∃ Bx : Nat, w.heap.size + 1 + 1 < Bx ∧ Four Bx W (.int .i64 (gX l x.val)) (.int .i64 (gR l x.val)) (.int .i64 (gX l (x.val + 1))) (.int .i64 (gR l (x.val + 1))) ∧ a' = { tmps := #[.slice (some ⟨b, off, none⟩) n cap, undef, .pointer (some ⟨w.heap.size, 0, none⟩), .pointer (some ⟨w.heap.size + 1, 0, none⟩), undef, .pointer (some ⟨Bx, 0, none⟩), .slice (some ⟨b, off, none⟩) n cap, .func (.func 100) #[] #[.pointer (some ⟨w.heap.size + 1 + 1, 0, none⟩)], .int .i64 ((x.val : Int) + 1), .agg #[.int .i64 (gX l x.val), .int .i64 (gR l x.val), .int .i64 (gX l (x.val + 1)), .int .i64 (gR l (x.val + 1))], undef, undef, undef, undef, undef, undef, undef, undef, undef, undef, undef, undef, undef, undef, undef, undef, undef, undef, undef, undef], defers := [] })
    (fun x a' _ A B row ⟨Bx, h1, h2, h3⟩ hg hr => ⟨Bx, h1, four_kept h2 hg (fun r e => (hr r e).2), h3⟩) ?assign ?body ?done ?stop
  case assign =>
    rintro lp pre x W K ⟨i1, i2, i3, i4, i5⟩ hK
    dsimp only [encP]
    generalize gX l x.val = u at *
    generalize gR l x.val = p at *
    generalize gX l (x.val + 1) = v at *
    generalize gR l (x.val + 1) = q at *
    gi_wp2
    exact hK _ _ ((KeepsOthers.alloc _ _).from _) ⟨(Below.refl _ W).alloc i5.size _, fun v e => (cell_al _ e)⟩ ⟨i1, i2.alloc _, i3.alloc _, i4.alloc _, bA i5 _⟩ ⟨W.heap.size, i4.lt, Four.new _ _ _ _ _ _, rfl⟩
  case body =>
    rintro lp pre x aa W hlp ⟨rr, hrr⟩ ⟨i1, i2, i3, i4, i5⟩ ⟨Bx, hBx, iX, rfl⟩ hlen
    have es := stP_snoc l pre x
    have hf := i2.frozen
    have hc2 := i2.cell
    have hf3 := i3.frozen
    have hc3 := i3.cell
    rw [i1] at es
    generalize stP l pre = s at *
    obtain ⟨s1, s2⟩ := s
    dsimp only at *
    generalize gX l x.val = u at *
    generalize gR l x.val = p at *
    generalize gX l (x.val + 1) = v at *
    generalize gR l (x.val + 1) = q at *
    obtain ⟨f0, f1, f2, f3⟩ := iX
    have hn1 : w.heap.size + 1 ≠ w.heap.size := by omega
    have hn2 : w.heap.size + 1 + 1 ≠ w.heap.size := by omega
    have hn3 : w.heap.size + 1 + 1 ≠ w.heap.size + 1 := by omega
    have hle : w.heap.size ≤ w.heap.size + 1 := by omega
    by_cases g1 : p < q
    · have g2 : ¬ q < p := by omega
      have d1 : decide (p < q) = true := decide_eq_true g1
      have d2 : decide (q < p) = false := decide_eq_false g2
      rw [d1, d2] at es
      cases s1 with
      | true =>
        gi_wp2
        exact ⟨(KeepsOthers.setCell _ _ _).from _, rfl, by rw [es]; rfl, World.cell?_setCell_same _ _ _ hc2, i5.setCell (p := ⟨w.heap.size, 0, none⟩) (Nat.le_refl _) _⟩
      | false =>
        gi_wp2
        exact ⟨(KeepsOthers.setCell _ _ _).from _, ⟨(Below.refl _ W).setCell (p := ⟨w.heap.size + 1, 0, none⟩) hle _, fun v e => cell_apart _ e hn3⟩, by rw [es]; rfl, i2.other (by omega) _, by rw [es]; exact i3.set _, i4.other hn3 _, i5.setCell (p := ⟨w.heap.size + 1, 0, none⟩) hle _⟩
    · by_cases g2 : q < p
      · have d1 : decide (p < q) = false := decide_eq_false g1
        have d2 : decide (q < p) = true := decide_eq_true g2
        rw [d1, d2] at es
        cases s1 with
        | true =>
          gi_wp2
          exact ⟨(KeepsOthers.setCell _ _ _).from _, ⟨(Below.refl _ W).setCell (p := ⟨w.heap.size + 1, 0, none⟩) hle _, fun v e => cell_apart _ e hn3⟩, by rw [es]; rfl, i2.other (by omega) _, by rw [es]; exact i3.set _, i4.other hn3 _, i5.setCell (p := ⟨w.heap.size + 1, 0, none⟩) hle _⟩
        | false =>
          gi_wp2
          exact ⟨(KeepsOthers.setCell _ _ _).from _, ⟨(Below.refl _ W).setCell (p := ⟨w.heap.size + 1, 0, none⟩) hle _, fun v e => cell_apart _ e hn3⟩, by rw [es]; rfl, i2.other (by omega) _, by rw [es]; exact i3.set _, i4.other hn3 _, i5.setCell (p := ⟨w.heap.size + 1, 0, none⟩) hle _⟩
      · obtain rfl : p = q := by omega
        have d1 : decide (p < p) = false := decide_eq_false g1
        rw [d1] at es
        cases s1 with
        | true =>
          gi_wp2
          exact ⟨(KeepsOthers.setCell _ _ _).from _, ⟨(Below.refl _ W).setCell (p := ⟨w.heap.size + 1, 0, none⟩) hle _, fun v e => cell_apart _ e hn3⟩, by rw [es]; rfl, i2.other (by omega) _, by rw [es]; exact i3.set _, i4.other hn3 _, i5.setCell (p := ⟨w.heap.size + 1, 0, none⟩) hle _⟩
        | false =>
          gi_wp2
          exact ⟨(KeepsOthers.setCell _ _ _).from _, ⟨(Below.refl _ W).setCell (p := ⟨w.heap.size + 1, 0, none⟩) hle _, fun v e => cell_apart _ e hn3⟩, by rw [es]; rfl, i2.other (by omega) _, by rw [es]; exact i3.set _, i4.other hn3 _, i5.setCell (p := ⟨w.heap.size + 1, 0, none⟩) hle _⟩
  case done =>
    rintro D ys W hD rfl ⟨i1, i2, i3, i4, i5⟩ hK
    rw [stP_all l (n - 1) (Nat.le_refl _)] at i1
    obtain rfl : S = false := by rw [← hS.out]; exact i1
    have hc2 := i2.cell
    have hf2 := i2.frozen
    gi_wp2
    have hK' := (KeepsOthers.setCell W ⟨w.heap.size, 0, none⟩ (.bool false)).same D _ hK rfl
    refine ⟨by simp, .inl ⟨_, _, rfl, run_takeDeferred hK', ?_⟩⟩
    have hc5 := cell_kept (World.cell?_setCell_same W ⟨w.heap.size, 0, none⟩ (.bool false) hc2) (grownBy_putObj' _ D (.deferred none)) (fun r e => by cases e; exact ⟨_, hK', rfl⟩)
    refine ⟨.bool false, ?_, rfl, (i5.setCell (p := ⟨w.heap.size, 0, none⟩) (Nat.le_refl _) _).trans (belowK_b (w := w) (Nat.le_refl _) _ D _ _ (by omega) hK' rfl rfl)⟩
    simp [results, Try.results71, go_sem, hc5]
  case stop =>
    rintro D cc pre W hD ⟨k, hk, rfl⟩ ⟨rfl, i2, i3, i4⟩ hK
    rw [stP_all l k hk] at i2
    obtain rfl : S = true := by
      rw [← hS.out]
      obtain ⟨i, j, h1, h2, h3⟩ := (swl_iff _ _).1 i2
      exact (swl_iff _ _).2 ⟨i, j, h1, by omega, h3⟩
    gi_wp2
    refine ⟨by simp, .inl ⟨_, _, rfl, run_takeDeferred hK, ?_⟩⟩
    have hc5 := cell_kept i3 (grownBy_putObj' _ D (.deferred none)) (fun r e => by cases e; exact ⟨_, hK, rfl⟩)
    refine ⟨.bool true, ?_, rfl, i4.trans (belowK_b (w := w) (Nat.le_refl _) _ D _ _ (by omega) hK rfl rfl)⟩
    simp [results, Try.results71, go_sem, hc5]
end Go.Proofs.Ytgjdopjolokaiaa

/- Package profile: lengths; points that are out, or closed; whether a list contains one. -/
namespace Go.Proofs.Ytgjdopjolokaiaa
open Go.RowKit

theorem isLen_any (n : Int) (w : World) : Calls Try.prog 90 #[.int .i64 n] w fun e w' => e = .returned (.bool (lenB n)) ∧ w = w' := by
  by_cases h0 : 0 ≤ n <;> by_cases h1 : n ≤ 100000
  all_goals
    go_enter Try.func90, Try.ntmps90
    go_wp2
    go_ret
    exact ⟨by simp [lenB, h0, h1], rfl⟩
theorem isOut_any (x r : Int) (w : World) : Calls Try.prog 68 #[.agg #[.int .i64 x, .int .i64 r]] w fun e w' => e = .returned (.bool (ptOut (x, r))) ∧ Below w.heap.size w w' := by
  have H1 := Lib.hid (fun W => isLen_any x W)
  have H2 := Lib.hid (fun W => isLen_any r W)
  cases h : lenB x with
  | false =>
    rw [h] at H1
    have e : ptOut (x, r) = true := by simp [ptOut, h]
    rw [e]
    go_enter Try.func68, Try.ntmps68
    go_wp2_with fail
    refine (H1.out _).mono ?_
    rintro e w1 ⟨rfl, hw⟩
    subst hw
    go_wp2
    go_ret
    exact ⟨rfl, bel_alloc (Below.refl _ _)⟩
  | true =>
    rw [h] at H1
    cases h2 : lenB r with
    | false =>
      rw [h2] at H2
      have e : ptOut (x, r) = true := by simp [ptOut, h2]
      rw [e]
      go_enter Try.func68, Try.ntmps68
      go_wp2_with fail
      refine (H1.out _).mono ?_
      rintro e w1 ⟨rfl, hw⟩
      subst hw
      go_wp2_with fail
      refine (H2.out _).mono ?_
      rintro e w1 ⟨rfl, hw⟩
      subst hw
      go_wp2
      go_ret
      exact ⟨rfl, bel_alloc (Below.refl _ _)⟩
    | true =>
      rw [h2] at H2
      have e : ptOut (x, r) = false := by simp [ptOut, h, h2]
      rw [e]
      go_enter Try.func68, Try.ntmps68
      go_wp2_with fail
      refine (H1.out _).mono ?_
      rintro e w1 ⟨rfl, hw⟩
      subst hw
      go_wp2_with fail
      refine (H2.out _).mono ?_
      rintro e w1 ⟨rfl, hw⟩
      subst hw
      go_wp2
      go_ret
      exact ⟨rfl, bel_alloc (Below.refl _ _)⟩
theorem isCl_any (x r : Int) (w : World) : Calls Try.prog 70 #[.agg #[.int .i64 x, .int .i64 r]] w fun e w' => e = .returned (.bool (ptCl (x, r))) ∧ Below w.heap.size w w' := by
  cases h : (r == 0) with
  | false =>
    have e : ptCl (x, r) = false := by simp only [ptCl, h]
    rw [e]
    go_enter Try.func70, Try.ntmps70
    go_wp2
    go_ret
    exact ⟨rfl, bel_alloc (Below.refl _ _)⟩
  | true =>
    have e : ptCl (x, r) = true := by simp only [ptCl, h]
    rw [e]
    go_enter Try.func70, Try.ntmps70
    go_wp2
    go_ret
    exact ⟨rfl, bel_alloc (Below.refl _ _)⟩

/-- the index of the first point of a kind -/
theorem index_some (f : Nat) (p : Int × Int → Bool) (hp : Hid (∀ x r W, Calls Try.prog f #[.agg #[.int .i64 x, .int .i64 r]] W fun e w' => e = .returned (.bool (p (x, r))) ∧ Below W.heap.size W w'))
    (eg : ∀ args w, (callFunc f args).run Try.prog w = .ok (.enter f args) w)
    (b off n cap : Nat) (l : List (Int × Int)) (B : Bool) (w : World) (n1 : n ≤ 1000) (hb : b < w.heap.size)
    (hc : Hid (∀ j, j < n → w.cell? ⟨b, off + j * 2, none⟩ = some (.int .i64 (gX l j)) ∧ w.cell? ⟨b, off + j * 2 + 1, none⟩ = some (.int .i64 (gR l j))))
    (h1 : Hid ((∃ j, j < n ∧ p (gX l j, gR l j) = true) → B = true)) (h2 : Hid ((∀ j, j < n → p (gX l j, gR l j) = false) → B = false)) :
    Calls Try.prog 74 #[.slice (some ⟨b, off, none⟩) n cap, .func (.func f) #[] #[]] w fun e w' => ∃ k : Int, e = .returned (.int .i64 k) ∧ decide (0 ≤ k) = B ∧ Below w.heap.size w w' := by
  go_enter Try.func74, Try.ntmps74
  go_wp2_with fail
  go_loopw [5, 8] (fun _ i wr => ∃ k : Nat, k ≤ n ∧ i = .int .i64 k ∧ Hid (Below w.heap.size w wr) ∧ Hid (∀ j, j < k → p (gX l j, gR l j) = false)) (fun _ i _ => n - (intOf i).toNat)
  case atStart => exact ⟨0, Nat.zero_le _, rfl, Below.refl _ _, fun j hj => by omega⟩
  case round =>
    obtain ⟨k, hk, rfl, hB, ha⟩ := hrel
    by_cases hlt : k < n
    · have c0 : wr.cell? ⟨b, off + k * 2, none⟩ = some (.int .i64 (gX l k)) := by rw [(bcell hB.out).1 _ _ hb]; exact (hc.out k hlt).1
      have c1 : wr.cell? ⟨b, off + k * 2 + 1, none⟩ = some (.int .i64 (gR l k)) := by rw [(bcell hB.out).1 _ _ hb]; exact (hc.out k hlt).2
      have HP := Lib.hid (fun W => hp.out (gX l k) (gR l k) W)
      cases hq : p (gX l k, gR l k) with
      | true =>
        have hBt := h1.out ⟨k, hlt, hq⟩
        rw [hq] at HP
        generalize gX l k = x at *
        generalize gR l k = r at *
        go_wp2_with fail
        refine (HP.out _).mono ?_
        rintro e w2 ⟨rfl, gg⟩
        have X := Lib.hid (bel_trans hB.out gg); clear gg
        go_wp2
        go_returns
        exact ⟨k, rfl, by rw [hBt]; simp, X.out⟩
      | false =>
        have ha2 : Hid (∀ j, j < k + 1 → p (gX l j, gR l j) = false) := fun j hj => by
          by_cases e : j = k
          · rw [e]; exact hq
          · exact ha.out j (by omega)
        rw [hq] at HP
        clear hq ha
        generalize gX l k = x at c0 HP
        generalize gR l k = r at c1 HP
        go_wp2_with fail
        refine (HP.out _).mono ?_
        rintro e w2 ⟨rfl, gg⟩
        have X := Lib.hid (bel_trans hB.out gg); clear gg
        go_wp2
        go_roundw
        case rel => exact ⟨k + 1, by omega, by go_num, X, ha2⟩
        case measure => simp [intOf]; omega
    · obtain rfl : k = n := by omega
      have hBf := h2.out ha.out
      go_wp2
      go_returns
      exact ⟨-1, rfl, by rw [hBf]; simp, hB.out⟩
theorem contains_some (f : Nat) (p : Int × Int → Bool) (hp : Hid (∀ x r W, Calls Try.prog f #[.agg #[.int .i64 x, .int .i64 r]] W fun e w' => e = .returned (.bool (p (x, r))) ∧ Below W.heap.size W w'))
    (eg : ∀ args w, (callFunc f args).run Try.prog w = .ok (.enter f args) w)
    (b off n cap : Nat) (l : List (Int × Int)) (w : World) (hl : n = l.length) (n1 : n ≤ 1000) (hb : b < w.heap.size)
    (hc : Hid (∀ j, j < n → w.cell? ⟨b, off + j * 2, none⟩ = some (.int .i64 (gX l j)) ∧ w.cell? ⟨b, off + j * 2 + 1, none⟩ = some (.int .i64 (gR l j)))) :
    Calls Try.prog 44 #[.slice (some ⟨b, off, none⟩) n cap, .func (.func f) #[] #[]] w fun e w' => e = .returned (.bool (l.any p)) ∧ Below w.heap.size w w' := by
  have HI := Lib.hid (index_some f p hp eg b off n cap l (l.any p) w n1 hb hc (fun ⟨j, hj, h⟩ => any_of (by omega) h) (fun h => any_not fun i hi => h i (by omega)))
  generalize l.any p = B at *
  clear eg hp hc hl
  go_enter Try.func44, Try.ntmps44
  go_wp2_with fail
  refine HI.out.mono ?_
  rintro e w1 ⟨k, rfl, hk, hb⟩
  have HB := Lib.hid hb; clear hb
  subst hk
  go_wp2
  all_goals
    go_ret
    exact ⟨by simp_all, HB.out⟩
end Go.Proofs.Ytgjdopjolokaiaa

/- Package profile: Check, end. -/
namespace Go.Proofs.Ytgjdopjolokaiaa
open Go.RowKit

theorem ck_few (a : Option Addr) (n cap : Nat) (w : World) (h : n < 2) :
    Calls Try.prog 36 #[.slice a n cap] w fun e w' => e = .returned (.int .i64 9) ∧ Below w.heap.size w w' := by
  go_enter Try.func36, Try.ntmps36
  go_wp2
  go_returns
  exact ⟨rfl, Below.refl _ _⟩
theorem ck_many (a : Option Addr) (n cap : Nat) (w : World) (h : 32 < n) (h2 : n ≤ 9223372036854775807) :
    Calls Try.prog 36 #[.slice a n cap] w fun e w' => e = .returned (.int .i64 8) ∧ Below w.heap.size w w' := by
  go_enter Try.func36, Try.ntmps36
  go_wp2
  go_returns
  exact ⟨rfl, Below.refl _ _⟩
set_option maxHeartbeats 4000000 in
theorem ck_some (b off n cap : Nat) (O A C S : Bool) (w : World) (n0 : 2 ≤ n) (n1 : n ≤ 32)
    (H1 : Hid (∀ W, Below w.heap.size w W → Calls Try.prog 44 #[.slice (some ⟨b, off, none⟩) n cap, .func (.func 68) #[] #[]] W fun e w' => e = .returned (.bool O) ∧ Below W.heap.size W w'))
    (H2 : Hid (∀ W, Below w.heap.size w W → Calls Try.prog 69 #[.slice (some ⟨b, off, none⟩) n cap] W fun e w' => e = .returned (.bool A) ∧ Below W.heap.size W w'))
    (H3 : Hid (∀ W, Below w.heap.size w W → Calls Try.prog 44 #[.slice (some ⟨b, off, none⟩) n cap, .func (.func 70) #[] #[]] W fun e w' => e = .returned (.bool C) ∧ Below W.heap.size W w'))
    (H4 : Hid (∀ W, Below w.heap.size w W → Calls Try.prog 71 #[.slice (some ⟨b, off, none⟩) n cap] W fun e w' => e = .returned (.bool S) ∧ Below W.heap.size W w')) :
    Calls Try.prog 36 #[.slice (some ⟨b, off, none⟩) n cap] w fun e w' => e = .returned (.int .i64 (if O = true then 2 else if A = false then 5 else if C = true then 16 else if S = true then 10 else 0)) ∧ Below w.heap.size w w' := by
  cases O with
  | true =>
    go_enter Try.func36, Try.ntmps36
    go_wp2_with fail
    refine (H1.out _ (Below.refl _ _)).mono ?_
    rintro e w1 ⟨rfl, gg⟩
    have X1 := Lib.hid gg; clear gg
    go_wp2
    go_returns
    exact ⟨rfl, X1.out⟩
  | false =>
    cases A with
    | false =>
      go_enter Try.func36, Try.ntmps36
      go_wp2_with fail
      refine (H1.out _ (Below.refl _ _)).mono ?_
      rintro e w1 ⟨rfl, gg⟩
      have X1 := Lib.hid gg; clear gg
      go_wp2_with fail
      refine (H2.out _ X1.out).mono ?_
      rintro e w2 ⟨rfl, gg⟩
      have X2 := Lib.hid (bel_trans X1.out gg); clear gg
      go_wp2
      go_returns
      exact ⟨rfl, X2.out⟩
    | true =>
      cases C with
      | true =>
        go_enter Try.func36, Try.ntmps36
        go_wp2_with fail
        refine (H1.out _ (Below.refl _ _)).mono ?_
        rintro e w1 ⟨rfl, gg⟩
        have X1 := Lib.hid gg; clear gg
        go_wp2_with fail
        refine (H2.out _ X1.out).mono ?_
        rintro e w2 ⟨rfl, gg⟩
        have X2 := Lib.hid (bel_trans X1.out gg); clear gg
        go_wp2_with fail
        refine (H3.out _ X2.out).mono ?_
        rintro e w3 ⟨rfl, gg⟩
        have X3 := Lib.hid (bel_trans X2.out gg); clear gg
        go_wp2
        go_returns
        exact ⟨rfl, X3.out⟩
      | false =>
        cases S with
        | true =>
          go_enter Try.func36, Try.ntmps36
          go_wp2_with fail
          refine (H1.out _ (Below.refl _ _)).mono ?_
          rintro e w1 ⟨rfl, gg⟩
          have X1 := Lib.hid gg; clear gg
          go_wp2_with fail
          refine (H2.out _ X1.out).mono ?_
          rintro e w2 ⟨rfl, gg⟩
          have X2 := Lib.hid (bel_trans X1.out gg); clear gg
          go_wp2_with fail
          refine (H3.out _ X2.out).mono ?_
          rintro e w3 ⟨rfl, gg⟩
          have X3 := Lib.hid (bel_trans X2.out gg); clear gg
          go_wp2_with fail
          refine (H4.out _ X3.out).mono ?_
          rintro e w4 ⟨rfl, gg⟩
          have X4 := Lib.hid (bel_trans X3.out gg); clear gg
          go_wp2
          go_returns
          exact ⟨rfl, X4.out⟩
        | false =>
          go_enter Try.func36, Try.ntmps36
          go_wp2_with fail
          refine (H1.out _ (Below.refl _ _)).mono ?_
          rintro e w1 ⟨rfl, gg⟩
          have X1 := Lib.hid gg; clear gg
          go_wp2_with fail
          refine (H2.out _ X1.out).mono ?_
          rintro e w2 ⟨rfl, gg⟩
          have X2 := Lib.hid (bel_trans X1.out gg); clear gg
          go_wp2_with fail
          refine (H3.out _ X2.out).mono ?_
          rintro e w3 ⟨rfl, gg⟩
          have X3 := Lib.hid (bel_trans X2.out gg); clear gg
          go_wp2_with fail
          refine (H4.out _ X3.out).mono ?_
          rintro e w4 ⟨rfl, gg⟩
          have X4 := Lib.hid (bel_trans X3.out gg); clear gg
          go_wp2
          go_returns
          exact ⟨rfl, X4.out⟩
theorem ck_any (v : Value) (l : List (Int × Int)) (w : World) (hv : Pts w v l) :
    Calls Try.prog 36 #[v] w fun e w' => e = .returned (.int .i64 (ckE l)) ∧ Below w.heap.size w w' := by
  obtain ⟨a, cap, rfl, hl, hh⟩ := hv
  by_cases h0 : l.length < 2
  · rw [show ckE l = 9 by unfold ckE; rw [if_pos h0]]
    exact ck_few a l.length cap w h0
  · by_cases h1 : 32 < l.length
    · rw [show ckE l = 8 by unfold ckE; rw [if_neg h0, if_pos h1]]
      exact ck_many a l.length cap w h1 (by omega)
    · rcases hh with hh | ⟨b, off, rfl, hb, hc⟩
      · omega
      · have hc2 : ∀ W, Below w.heap.size w W → ∀ j, j < l.length → W.cell? ⟨b, off + j * 2, none⟩ = some (.int .i64 (gX l j)) ∧ W.cell? ⟨b, off + j * 2 + 1, none⟩ = some (.int .i64 (gR l j)) := fun W hW j hj => by
          rw [(bcell hW).1 _ _ hb, (bcell hW).1 _ _ hb]; exact hc j hj
        have e : ckE l = (if l.any ptOut = true then 2 else if (adv l (l.length - 1) && (gX l 0 == 0)) = false then 5 else if l.any ptCl = true then 16 else if swl l (l.length - 1) = true then 10 else 0) := by unfold ckE; rw [if_neg h0, if_neg h1]
        rw [e]
        refine ck_some b off l.length cap _ _ _ _ w (by omega) (by omega) (fun W hW => ?_) (fun W hW => ?_) (fun W hW => ?_) (fun W hW => ?_)
        · exact contains_some 68 ptOut (Lib.hid fun x r W => isOut_any x r W) (enters_of Try.func68 (by kernel_rfl) rfl) b off l.length cap l W rfl (by omega) (Nat.lt_of_lt_of_le hb hW.size) (Lib.hid (hc2 W hW))
        · refine advances_some b off l.length cap l _ W (by omega) (by omega) (Nat.lt_of_lt_of_le hb hW.size) (Lib.hid (hc2 W hW)) (Lib.hid fun h => ?_) (Lib.hid fun ⟨j, hj, h⟩ => ?_)
          · rw [(adv_iff l _).2 (fun i hi => h i (by omega)), Bool.true_and]
          · have : adv l (l.length - 1) = false := by
              rw [Bool.eq_false_iff]
              intro ha
              exact h ((adv_iff l _).1 ha j (by omega))
            rw [this, Bool.false_and]
        · exact contains_some 70 ptCl (Lib.hid fun x r W => isCl_any x r W) (enters_of Try.func70 (by kernel_rfl) rfl) b off l.length cap l W rfl (by omega) (Nat.lt_of_lt_of_le hb hW.size) (Lib.hid (hc2 W hW))
        · exact swells_some b off l.length cap l _ W (by omega) (by omega) (Nat.lt_of_lt_of_le hb hW.size) (Lib.hid (hc2 W hW)) (Lib.hid rfl)

theorem end_any (b off n cap : Nat) (l : List (Int × Int)) (w : World) (n0 : 1 ≤ n) (n1 : n ≤ 1000)
    (hc : Hid (∀ j, j < n → w.cell? ⟨b, off + j * 2, none⟩ = some (.int .i64 (gX l j)) ∧ w.cell? ⟨b, off + j * 2 + 1, none⟩ = some (.int .i64 (gR l j)))) :
    Calls Try.prog 61 #[.slice (some ⟨b, off, none⟩) n cap] w fun e w' => e = .returned (.int .i64 (gX l (n - 1))) ∧ w' = w := by
  obtain ⟨m, rfl⟩ : ∃ m, n = m + 1 := ⟨n - 1, by omega⟩
  have c0 := (hc.out m (by omega)).1
  rw [show m + 1 - 1 = m by omega]
  generalize gX l m = x at *
  have wk : IntKind.i64.wrap ((m : Int) + 1 - 1) = (m : Int) := by simp only [IntKind.wrap_i64]; omega
  have wk2 : IntKind.i64.wrap (m : Int) = (m : Int) := by simp only [IntKind.wrap_i64]; omega
  go_enter Try.func61, Try.ntmps61
  go_wp2
  go_ret
  exact ⟨rfl, rfl⟩
theorem end_of {v : Value} {l : List (Int × Int)} {w : World} (hv : Pts w v l) (h : ckE l = 0) :
    Calls Try.prog 61 #[v] w fun e w' => e = .returned (.int .i64 (gX l (l.length - 1))) ∧ w' = w := by
  have hR := (ckE_iff l).1 h
  have n0 := hR.n0
  have n1 := hR.n1
  obtain ⟨a, cap, rfl, hl, hh⟩ := hv
  rcases hh with hh | ⟨b, off, rfl, hb, hc⟩
  · omega
  · exact end_any b off l.length cap l w (by omega) (by omega) (Lib.hid hc)
end Go.Proofs.Ytgjdopjolokaiaa

/- Package profile: place. -/
namespace Go.Proofs.Ytgjdopjolokaiaa
open Go.RowKit
theorem place_bad (v : Value) (x E : Int) (w : World) (e1 : (E == 0) = false) (e2 : (E != 0) = true)
    (H1 : Hid (Calls Try.prog 36 #[v] w fun e w' => e = .returned (.int .i64 E) ∧ Below w.heap.size w w')) :
    Calls Try.prog 103 #[v, .int .i64 x] w fun e w' => e = .returned (.int .i64 1) ∧ Below w.heap.size w w' := by
  go_enter Try.func103, Try.ntmps103
  go_wp2_with fail
  refine H1.out.mono ?_
  rintro e w1 ⟨rfl, gg⟩
  have X1 := Lib.hid gg; clear gg
  go_wp2
  go_returns
  exact ⟨rfl, X1.out⟩
theorem place_ok (v : Value) (x X : Int) (w : World)
    (H1 : Hid (Calls Try.prog 36 #[v] w fun e w' => e = .returned (.int .i64 0) ∧ Below w.heap.size w w'))
    (H2 : Hid (∀ W, Below w.heap.size w W → Calls Try.prog 61 #[v] W fun e w' => e = .returned (.int .i64 X) ∧ w' = W)) :
    Calls Try.prog 103 #[v, .int .i64 x] w fun e w' => e = .returned (.int .i64 (if x < 0 ∨ X < x then 2 else 0)) ∧ Below w.heap.size w w' := by
  by_cases h0 : x < 0
  · rw [if_pos (.inl h0)]
    go_enter Try.func103, Try.ntmps103
    go_wp2_with fail
    refine H1.out.mono ?_
    rintro e w1 ⟨rfl, gg⟩
    have X1 := Lib.hid gg; clear gg
    go_wp2
    go_returns
    exact ⟨rfl, X1.out⟩
  · by_cases h1 : X < x
    · rw [if_pos (.inr h1)]
      go_enter Try.func103, Try.ntmps103
      go_wp2_with fail
      refine H1.out.mono ?_
      rintro e w1 ⟨rfl, gg⟩
      have X1 := Lib.hid gg; clear gg
      go_wp2_with fail
      refine (H2.out _ X1.out).mono ?_
      rintro e w2 ⟨rfl, hw⟩
      subst hw
      go_wp2
      go_returns
      exact ⟨rfl, X1.out⟩
    · rw [if_neg (by omega)]
      go_enter Try.func103, Try.ntmps103
      go_wp2_with fail
      refine H1.out.mono ?_
      rintro e w1 ⟨rfl, gg⟩
      have X1 := Lib.hid gg; clear gg
      go_wp2_with fail
      refine (H2.out _ X1.out).mono ?_
      rintro e w2 ⟨rfl, hw⟩
      subst hw
      go_wp2
      go_returns
      exact ⟨rfl, X1.out⟩
theorem place_any (v : Value) (l : List (Int × Int)) (x : Int) (w : World) (hv : Pts w v l) :
    Calls Try.prog 103 #[v, .int .i64 x] w fun e w' => e = .returned (.int .i64 (plE l x)) ∧ Below w.heap.size w w' := by
  have HC := Lib.hid (ck_any v l w hv)
  unfold plE
  by_cases h : ckE l = 0
  · rw [if_pos h]
    rw [h] at HC
    exact place_ok v x _ w HC (Lib.hid fun W hW => end_of (hv.below hW) h)
  · rw [if_neg h]
    exact place_bad v x _ w (by simpa using h) (by simpa using h) HC
end Go.Proofs.Ytgjdopjolokaiaa

/- Package capacity: frustum, up, Frustums, Space. -/
namespace Go.Proofs.Ytgjdopjolokaiaa
open Go.RowKit

theorem frum_any (a p c q : Int) (w : World) (hp : 1 ≤ p ∧ p ≤ 100000) (hq : 1 ≤ q ∧ q ≤ 100000) (ha : 0 ≤ a ∧ a ≤ 100000) (hc : 0 ≤ c ∧ c ≤ 100000) (hb : (c - a) * sq3 p q ≤ 3000000000000000 ∧ 0 ≤ (c - a) * sq3 p q) :
    Calls Try.prog 87 #[.agg #[.int .i64 a, .int .i64 p], .agg #[.int .i64 c, .int .i64 q]] w fun e w' => e = .returned (.int .i64 ((c - a) * sq3 p q)) ∧ Below w.heap.size w w' := by
  have m1 := mul_bd hp hp
  have m2 := mul_bd hp hq
  have m3 := mul_bd hq hq
  have w1 : IntKind.i64.wrap (c - a) = c - a := wrap_in _ ⟨by omega, by omega⟩
  have w2 : IntKind.i64.wrap (p * p) = p * p := wrap_in _ ⟨by omega, by omega⟩
  have w3 : IntKind.i64.wrap (p * q) = p * q := wrap_in _ ⟨by omega, by omega⟩
  have w4 : IntKind.i64.wrap (p * p + p * q) = p * p + p * q := wrap_in _ ⟨by omega, by omega⟩
  have w5 : IntKind.i64.wrap (q * q) = q * q := wrap_in _ ⟨by omega, by omega⟩
  have w6 : IntKind.i64.wrap (p * p + p * q + q * q) = p * p + p * q + q * q := wrap_in _ ⟨by omega, by omega⟩
  unfold sq3 at *
  have w7 : IntKind.i64.wrap ((c - a) * (p * p + p * q + q * q)) = (c - a) * (p * p + p * q + q * q) := wrap_in _ ⟨by omega, by omega⟩
  clear m1 m2 m3 hp hq ha hc hb
  go_enter Try.func87, Try.ntmps87
  go_wp2
  go_returns
  exact ⟨rfl, bel_alloc (bel_alloc (Below.refl _ _))⟩
theorem cup_any (a b : Int) (w : World) (ha : 0 ≤ a ∧ a ≤ 2000000000000000000) (hb : 1 ≤ b ∧ b ≤ 1000000000) :
    Calls Try.prog 59 #[.int .i64 a, .int .i64 b] w fun e w' => e = .returned (.int .i64 ((a + b - 1) / b)) ∧ w' = w := by
  have w1 : IntKind.i64.wrap (a + b) = a + b := wrap_in _ ⟨by omega, by omega⟩
  have w2 : IntKind.i64.wrap (a + b - 1) = a + b - 1 := wrap_in _ ⟨by omega, by omega⟩
  have d0 : (a + b - 1).tdiv b = (a + b - 1) / b := Int.tdiv_eq_ediv_of_nonneg (by omega)
  have l1 : (a + b - 1) / b ≤ a + b - 1 := Int.ediv_le_self _ (by omega)
  have l0 : 0 ≤ (a + b - 1) / b := Int.ediv_nonneg (by omega) (by omega)
  have w3 : IntKind.i64.wrap ((a + b - 1) / b) = (a + b - 1) / b := wrap_in _ ⟨by omega, by omega⟩
  have n0 : (b == 0) = false := by simp; omega
  have n1 : ¬ b = 0 := by omega
  clear l0 l1
  go_enter Try.func59, Try.ntmps59
  go_wp2
  go_returns
  exact ⟨rfl, rfl⟩
end Go.Proofs.Ytgjdopjolokaiaa

/- Package capacity: Frustums. -/
namespace Go.Proofs.Ytgjdopjolokaiaa
open Go.RowKit

theorem fru_bad (v : Value) (E : Int) (w : World) (e1 : (E == 0) = false) (e2 : (E != 0) = true)
    (H1 : Hid (Calls Try.prog 36 #[v] w fun e w' => e = .returned (.int .i64 E) ∧ Below w.heap.size w w')) :
    Calls Try.prog 58 #[v] w fun e w' => e = .returned (.tuple #[.int .i64 0, .int .i64 E]) ∧ Below w.heap.size w w' := by
  go_enter Try.func58, Try.ntmps58
  go_wp2_with fail
  refine H1.out.mono ?_
  rintro e w1 ⟨rfl, gg⟩
  have X1 := Lib.hid gg; clear gg
  go_wp2
  go_returns
  exact ⟨rfl, X1.out⟩
set_option maxHeartbeats 8000000 in
theorem fru_ok (b off m cap : Nat) (l : List (Int × Int)) (w : World) (n0 : 1 ≤ m) (n1 : m ≤ 31) (hcap : m + 1 ≤ cap ∧ cap ≤ 9223372036854775807) (hR : RP l) (hn : m + 1 = l.length) (hb : b < w.heap.size)
    (hc : Hid (∀ j, j < m + 1 → w.cell? ⟨b, off + j * 2, none⟩ = some (.int .i64 (gX l j)) ∧ w.cell? ⟨b, off + j * 2 + 1, none⟩ = some (.int .i64 (gR l j))))
    (H1 : Hid (Calls Try.prog 36 #[.slice (some ⟨b, off, none⟩) (m + 1) cap] w fun e w' => e = .returned (.int .i64 0) ∧ Below w.heap.size w w')) :
    Calls Try.prog 58 #[.slice (some ⟨b, off, none⟩) (m + 1) cap] w fun e w' => e = .returned (.tuple #[.int .i64 (fr l m), .int .i64 0]) ∧ Below w.heap.size w w' := by
  have HR := Lib.hid hR
  have HN := Lib.hid hn
  clear hR hn
  have hcap1 : ¬ cap = 1 := by omega
  obtain ⟨hc1, hc2⟩ := hcap
  go_enter Try.func58, Try.ntmps58
  go_wp2_with fail
  refine H1.out.mono ?_
  rintro e w1 ⟨rfl, gg⟩
  have X1 := Lib.hid gg; clear gg H1
  go_wp2_with fail
  go_loopw [5, 16] (fun ss ii wr => ∃ k : Nat, k ≤ m ∧ ii = .int .i64 (k : Int) ∧ ss = .int .i64 (fr l k) ∧ Hid (Below w.heap.size w wr)) (fun _ ii _ => m + 1 - (intOf ii).toNat)
  case atStart => exact ⟨0, by omega, rfl, rfl, X1⟩
  case round =>
    obtain ⟨k, hk, rfl, rfl, hB⟩ := hrel
    by_cases hlt : k < m
    · have c0 : wr.cell? ⟨b, off + k * 2, none⟩ = some (.int .i64 (gX l k)) := by rw [(bcell hB.out).1 _ _ hb]; exact (hc.out k (by omega)).1
      have c1 : wr.cell? ⟨b, off + k * 2 + 1, none⟩ = some (.int .i64 (gR l k)) := by rw [(bcell hB.out).1 _ _ hb]; exact (hc.out k (by omega)).2
      have d0 : wr.cell? ⟨b, off + 2 + k * 2, none⟩ = some (.int .i64 (gX l (k + 1))) := by rw [(bcell hB.out).1 _ _ hb, show off + 2 + k * 2 = off + (k + 1) * 2 by omega]; exact (hc.out (k + 1) (by omega)).1
      have d1 : wr.cell? ⟨b, off + 2 + k * 2 + 1, none⟩ = some (.int .i64 (gR l (k + 1))) := by rw [(bcell hB.out).1 _ _ hb, show off + 2 + k * 2 + 1 = off + (k + 1) * 2 + 1 by omega]; exact (hc.out (k + 1) (by omega)).2
      have eF : fr l (k + 1) = fr l k + (gX l (k + 1) - gX l k) * sq3 (gR l k) (gR l (k + 1)) := rfl
      have hn := HN.out
      have b0 := fr_bd HR.out k (by omega)
      have b1 := fr_bd HR.out (k + 1) (by omega)
      have x0 := HR.out.bx k (by omega)
      have x1 := HR.out.bx (k + 1) (by omega)
      have p0 := HR.out.br k (by omega)
      have q0 := HR.out.br (k + 1) (by omega)
      have pp := frP_bd HR.out k (by omega)
      have bl : b < wr.heap.size := Nat.lt_of_lt_of_le hb hB.out.size
      have FU := Lib.hid (fun W => frum_any (gX l k) (gR l k) (gX l (k + 1)) (gR l (k + 1)) W p0 q0 (by omega) (by omega) ⟨pp.2, pp.1⟩)
      generalize (gX l (k + 1) - gX l k) * sq3 (gR l k) (gR l (k + 1)) = T at *
      generalize gX l k = a at *
      generalize gR l k = p at *
      generalize gX l (k + 1) = c at *
      generalize gR l (k + 1) = q at *
      generalize fr l k = s at *
      generalize hS : fr l (k + 1) = s2 at *
      have w8 : IntKind.i64.wrap (s + T) = s2 := by rw [← eF]; exact wrap_in _ ⟨by omega, by omega⟩
      have wk : IntKind.i64.wrap (k : Int) = (k : Int) := wrap_in _ ⟨by omega, by omega⟩
      have l1 : (k : Int) < (m : Int) := by omega
      have l2 : (k : Int) < (m : Int) + 1 := by omega
      have cc : ∀ x v, wr.cell? ⟨b, x, none⟩ = some v → (∀ o, (wr.alloc o).cell? ⟨b, x, none⟩ = some v) := fun x v h => by
        exact fun o => by rw [World.cell?_alloc_lt _ _ _ bl]; exact h
      have c0a := cc _ _ c0
      have c1a := cc _ _ c1
      have T0 := Two.new wr (.int .i64 c) (.int .i64 q) 33
      obtain ⟨t0, t1, _, _, _⟩ := T0
      have ES := Lib.hid eF; clear eF
      clear cc hn pp x0 x1 p0 q0 b0 b1 hc
      go_wp2_with fail
      go_region_with (go_at_call 87; refine (FU.out _).mono ?_; rintro e w2 ⟨rfl, gg⟩; have X2 := Lib.hid gg; clear gg)
      all_goals go_wp2
      all_goals go_roundw
      all_goals first
        | exact ⟨k + 1, by omega, by go_num, by rw [hS], bel_trans hB.out (bel_alloc (bel_trans (bel_drew _) X2.out))⟩
        | (simp [intOf]; omega)
    · obtain rfl : m = k := by omega
      go_wp2
      go_returns
      exact ⟨rfl, hB.out⟩
theorem fru_n (b off n cap : Nat) (l : List (Int × Int)) (w : World) (hcap : n ≤ cap ∧ cap ≤ 9223372036854775807) (hR : RP l) (hn : n = l.length) (hb : b < w.heap.size)
    (hc : Hid (∀ j, j < n → w.cell? ⟨b, off + j * 2, none⟩ = some (.int .i64 (gX l j)) ∧ w.cell? ⟨b, off + j * 2 + 1, none⟩ = some (.int .i64 (gR l j))))
    (H1 : Hid (Calls Try.prog 36 #[.slice (some ⟨b, off, none⟩) n cap] w fun e w' => e = .returned (.int .i64 0) ∧ Below w.heap.size w w')) :
    Calls Try.prog 58 #[.slice (some ⟨b, off, none⟩) n cap] w fun e w' => e = .returned (.tuple #[.int .i64 (fr l (n - 1)), .int .i64 0]) ∧ Below w.heap.size w w' := by
  have n0 := hR.n0
  have n1 := hR.n1
  obtain ⟨m, rfl⟩ : ∃ m, n = m + 1 := ⟨n - 1, by omega⟩
  exact fru_ok b off m cap l w (by omega) (by omega) hcap hR hn hb hc H1
theorem cFru_any (v : Value) (l : List (Int × Int)) (w : World) (hv : Pts w v l) :
    Calls Try.prog 58 #[v] w fun e w' => e = .returned (.tuple #[.int .i64 (fuQ l), .int .i64 (ckE l)]) ∧ Below w.heap.size w w' := by
  have HC := Lib.hid (ck_any v l w hv)
  unfold fuQ
  by_cases h : ckE l = 0
  · rw [if_pos h, h]
    rw [h] at HC
    have hR := (ckE_iff l).1 h
    have n0 := hR.n0
    obtain ⟨a, cap, rfl, hl, hh⟩ := hv
    rcases hh with hh | ⟨b, off, rfl, hb, hc⟩
    · omega
    · exact fru_n b off l.length cap l w hl hR rfl hb (Lib.hid hc) HC
  · rw [if_neg h]
    exact fru_bad v _ w (by simpa using h) (by simpa using h) HC
theorem spc_bad (v : Value) (E F : Int) (w : World) (e1 : (E == 0) = false) (e2 : (E != 0) = true)
    (H1 : Hid (∀ W, Below w.heap.size w W → Calls Try.prog 58 #[v] W fun e w' => e = .returned (.tuple #[.int .i64 F, .int .i64 E]) ∧ Below W.heap.size W w')) :
    Calls Try.prog 26 #[v] w fun e w' => e = .returned (.tuple #[.agg #[.int .i64 0, .int .i64 0], .int .i64 E]) ∧ Below w.heap.size w w' := by
  have T0 := Lib.hid (Two.new w (.int .i64 0) (.int .i64 0) 40)
  go_enter Try.func26, Try.ntmps26
  go_wp2_with fail
  refine (H1.out _ (bel_alloc (Below.refl _ _))).mono ?_
  rintro e w1 ⟨rfl, gg⟩
  replace T0 := Lib.hid (T0.out.below gg)
  have X1 := Lib.hid (bel_alloc gg); clear gg
  obtain ⟨z0, z1, f0, f1, hlt⟩ := T0.out
  go_wp2
  obtain ⟨t0, t1⟩ := two_read w1 w.heap.size (.int .i64 0) (.int .i64 0) z0 z1
  refine bodyPost_ret (v := .tuple #[.agg #[.int .i64 0, .int .i64 0], .int .i64 E]) (by simp [results, Try.results26, go_sem, t0, t1]) rfl ?_
  exact ⟨rfl, (X1.out.setCell (Nat.le_refl _) _).setCell (Nat.le_refl _) _⟩
set_option maxHeartbeats 4000000 in
theorem spc_ok (v : Value) (S : Int) (w : World) (hS : 0 ≤ S ∧ S ≤ 3000000000000000)
    (H1 : Hid (∀ W, Below w.heap.size w W → Calls Try.prog 58 #[v] W fun e w' => e = .returned (.tuple #[.int .i64 S, .int .i64 0]) ∧ Below W.heap.size W w')) :
    Calls Try.prog 26 #[v] w fun e w' => e = .returned (.tuple #[.agg #[.int .i64 (cbL S), .int .i64 (cbH S)], .int .i64 0]) ∧ Below w.heap.size w w' := by
  have T0 := Lib.hid (Two.new w (.int .i64 0) (.int .i64 0) 40)
  have w1 : IntKind.i64.wrap (S * 333) = S * 333 := wrap_in _ ⟨by omega, by omega⟩
  have w2 : IntKind.i64.wrap (S * 355) = S * 355 := wrap_in _ ⟨by omega, by omega⟩
  have d1 : (S * 333).tdiv 318 = cbL S := Int.tdiv_eq_ediv_of_nonneg (by omega)
  have w4 : IntKind.i64.wrap (cbL S) = cbL S := wrap_in _ ⟨by unfold cbL; omega, by unfold cbL; omega⟩
  have UP : ∀ W, Calls Try.prog 59 #[.int .i64 (S * 355), .int .i64 339] W fun e w' => e = .returned (.int .i64 (cbH S)) ∧ w' = W := fun W => by
    have := cup_any (S * 355) 339 W (by omega) (by omega)
    rwa [show S * 355 + 339 - 1 = S * 355 + 338 by omega] at this
  have HU := Lib.hid UP; clear UP
  generalize hL : cbL S = L at *
  generalize cbH S = H at *
  have HL := Lib.hid hL; clear hL hS
  go_enter Try.func26, Try.ntmps26
  go_wp2_with fail
  refine (H1.out _ (bel_alloc (Below.refl _ _))).mono ?_
  rintro e w1 ⟨rfl, gg⟩
  replace T0 := Lib.hid (T0.out.below gg)
  have X1 := Lib.hid (bel_alloc gg); clear gg
  obtain ⟨z0, z1, f0, f1, hlt⟩ := T0.out
  go_wp2_with fail
  refine (HU.out _).mono ?_
  rintro e w3 ⟨rfl, gg⟩
  subst gg
  go_wp2
  obtain ⟨t0, t1⟩ := two_read w3 w.heap.size (.int .i64 L) (.int .i64 H) z0 z1
  refine bodyPost_ret (v := .tuple #[.agg #[.int .i64 L, .int .i64 H], .int .i64 0]) (by simp [results, Try.results26, go_sem, t0, t1]) rfl ?_
  exact ⟨rfl, (X1.out.setCell (Nat.le_refl _) _).setCell (Nat.le_refl _) _⟩
theorem cSpc_any (v : Value) (l : List (Int × Int)) (w : World) (hv : Pts w v l) :
    Calls Try.prog 26 #[v] w fun e w' => e = .returned (.tuple #[.agg #[.int .i64 (spL l), .int .i64 (spH l)], .int .i64 (ckE l)]) ∧ Below w.heap.size w w' := by
  have HC : Hid (∀ W, Below w.heap.size w W → _) := Lib.hid fun W hW => cFru_any v l W (hv.below hW)
  unfold spL spH
  by_cases h : ckE l = 0
  · have hR := (ckE_iff l).1 h
    rw [if_pos h, if_pos h, h]
    unfold fuQ at HC
    rw [if_pos h, h] at HC
    exact spc_ok v (frS l) w (frS_bd hR) HC
  · rw [if_neg h, if_neg h]
    exact spc_bad v _ _ w (by simpa using h) (by simpa using h) HC
end Go.Proofs.Ytgjdopjolokaiaa

/- Plain facts: a piece of a right profile. -/
namespace Go.Proofs.Ytgjdopjolokaiaa

/-- a piece of a right profile, at a place of it -/
theorem pc_bd {l : List (Int × Int)} {x : Int} {i : Nat} (h : RP l) (x0 : 0 ≤ x) (hi : IsPc l x i) :
    1 ≤ i ∧ i < l.length ∧ (0 ≤ gX l (i - 1) ∧ gX l (i - 1) < gX l i ∧ gX l i ≤ 100000) ∧ (1 ≤ gR l (i - 1) ∧ gR l (i - 1) ≤ 100000) ∧ (1 ≤ gR l i ∧ gR l i ≤ 100000) ∧ gX l (i - 1) ≤ x ∧ x ≤ gX l i := by
  have h1 := hi.h1
  have h2 := hi.h2
  have b0 := h.bx (i - 1) (by omega)
  have b1 := h.bx i h2
  have a := h.asc (i - 1) (by omega)
  rw [show i - 1 + 1 = i by omega] at a
  refine ⟨h1, h2, ⟨b0.1, a, b1.2⟩, h.br _ (by omega), h.br _ h2, ?_, hi.h3⟩
  by_cases e : i = 1
  · subst e; have := h.x0; show gX l 0 ≤ x; omega
  · have := hi.h4 (i - 1) (by omega) (by omega)
    omega
end Go.Proofs.Ytgjdopjolokaiaa

/- Plain facts of the statements of layer 8. -/
namespace Go.Proofs.Ytgjdopjolokaiaa

theorem gX_lt {l : List (Int × Int)} (h : RP l) {i j : Nat} (hij : i < j) (hj : j < l.length) : gX l i < gX l j := by
  induction j with
  | zero => omega
  | succ j ih =>
    have a := h.asc j hj
    by_cases e : i = j
    · rw [e]; exact a
    · have := ih (by omega) (by omega); omega
theorem gX_le {l : List (Int × Int)} (h : RP l) {i j : Nat} (hij : i ≤ j) (hj : j < l.length) : gX l i ≤ gX l j := by
  by_cases e : i = j
  · rw [e]; exact Int.le_refl _
  · have := gX_lt h (i := i) (j := j) (by omega) hj; omega
/-- the radius at a point -/
theorem rd_at {l : List (Int × Int)} (h : RP l) {j : Nat} (hj : j < l.length) : rdL l (gX l j) = gR l j ∧ rdH l (gX l j) = gR l j := by
  have n0 := h.n0
  by_cases e : j = 0
  · subst e
    have e1 : pc l (gX l 0) = 1 := pc_of ⟨by omega, by omega, gX_le h (by omega) (by omega), fun k k1 k2 => by omega⟩
    have a : gX l 0 < gX l 1 := h.asc 0 (by omega)
    unfold rdL rdH lnL lnH
    rw [e1]
    show lnN (gX l 0) (gR l 0) (gX l 1) (gR l 1) (gX l 0) / (gX l 1 - gX l 0) = gR l 0 ∧ cdv (lnN (gX l 0) (gR l 0) (gX l 1) (gR l 1) (gX l 0)) (gX l 1 - gX l 0) = gR l 0
    rw [lnN_left]
    exact ⟨fl_int _ _ (by omega), cl_int _ _ (by omega)⟩
  · have e1 : pc l (gX l j) = j := pc_of ⟨by omega, hj, Int.le_refl _, fun k k1 k2 => gX_lt h k2 hj⟩
    have a := gX_lt h (i := j - 1) (j := j) (by omega) hj
    unfold rdL rdH lnL lnH
    rw [e1, lnN_right]
    exact ⟨fl_int _ _ (by omega), cl_int _ _ (by omega)⟩
/-- bounds of the radius by the piece's ends -/
theorem rd_bd {l : List (Int × Int)} {x : Int} (h : RP l) (x0 : 0 ≤ x) (x1 : x ≤ gX l (l.length - 1)) :
    min (gR l (pc l x - 1)) (gR l (pc l x)) ≤ rdL l x ∧ rdL l x ≤ rdH l x ∧ rdH l x ≤ rdL l x + 1 ∧ rdH l x ≤ max (gR l (pc l x - 1)) (gR l (pc l x)) := by
  have hi := pc_is h.n0 x1
  obtain ⟨_, _, ⟨b0, b1, b2⟩, ⟨c0, c1⟩, ⟨d0, d1⟩, g0, g1⟩ := pc_bd h x0 hi
  have bt := ln_between (p := gR l (pc l x - 1)) (q := gR l (pc l x)) b1 g0 g1
  have fc := fl_cl (lnN (gX l (pc l x - 1)) (gR l (pc l x - 1)) (gX l (pc l x)) (gR l (pc l x)) x) (gX l (pc l x) - gX l (pc l x - 1)) (by omega)
  unfold rdL rdH lnL lnH
  omega
theorem pc_mono {l : List (Int × Int)} {u v : Int} (h : RP l) (uv : u ≤ v) (x1 : v ≤ gX l (l.length - 1)) : pc l u ≤ pc l v := by
  have a := pc_is h.n0 (show u ≤ gX l (l.length - 1) by omega)
  have b := pc_is h.n0 x1
  rcases Nat.lt_or_ge (pc l v) (pc l u) with g | g
  · have := a.h4 _ b.h1 g
    have := b.h3
    omega
  · exact g
theorem chain_up {l : List (Int × Int)} {i : Nat} (hup : ∀ j, j < i → gR l j ≤ gR l (j + 1)) {s t : Nat} (hst : s ≤ t) (ht : t ≤ i) : gR l s ≤ gR l t := by
  induction t with
  | zero => obtain rfl : s = 0 := by omega
            exact Int.le_refl _
  | succ t ih =>
    by_cases e : s = t + 1
    · rw [e]; exact Int.le_refl _
    · have := ih (by omega) (by omega)
      have := hup t (by omega)
      omega
theorem chain_dn {l : List (Int × Int)} {i : Nat} (hdn : ∀ j, i ≤ j → j + 1 < l.length → gR l (j + 1) ≤ gR l j) {s t : Nat} (hs : i ≤ s) (hst : s ≤ t) (ht : t < l.length) : gR l t ≤ gR l s := by
  induction t with
  | zero => obtain rfl : s = 0 := by omega
            exact Int.le_refl _
  | succ t ih =>
    by_cases e : s = t + 1
    · rw [e]; exact Int.le_refl _
    · have := ih (by omega) (by omega)
      have := hdn t (by omega) ht
      omega
theorem rd_up {l : List (Int × Int)} {i : Nat} {u v : Int} (h : RP l) (hi : i < l.length) (hup : ∀ j, j < i → gR l j ≤ gR l (j + 1)) (u0 : 0 ≤ u) (uv : u ≤ v) (v1 : v ≤ gX l i) : rdL l u ≤ rdL l v ∧ rdH l u ≤ rdH l v := by
  have n0 := h.n0
  have hm := gX_le h (i := i) (j := l.length - 1) (by omega) (by omega)
  by_cases e0 : i = 0
  · subst e0
    have := h.x0
    obtain rfl : u = v := by omega
    exact ⟨Int.le_refl _, Int.le_refl _⟩
  · have b := pc_is n0 (show v ≤ gX l (l.length - 1) by omega)
    have ti : pc l v ≤ i := by
      rcases Nat.lt_or_ge i (pc l v) with g | g
      · have := b.h4 i (by omega) g; omega
      · exact g
    have st := pc_mono h uv (show v ≤ gX l (l.length - 1) by omega)
    have a := pc_is n0 (show u ≤ gX l (l.length - 1) by omega)
    have s1 := a.h1
    have ru := rd_bd h u0 (show u ≤ gX l (l.length - 1) by omega)
    have rv := rd_bd h (show 0 ≤ v by omega) (show v ≤ gX l (l.length - 1) by omega)
    by_cases e : pc l u = pc l v
    · have q := hup (pc l v - 1) (by omega)
      rw [show pc l v - 1 + 1 = pc l v by omega] at q
      have d := gX_lt h (i := pc l v - 1) (j := pc l v) (by omega) (by omega)
      have L := lnN_up (a := gX l (pc l v - 1)) (b := gX l (pc l v)) q uv
      unfold rdL rdH lnL lnH cdv
      rw [e]
      exact ⟨Int.ediv_le_ediv (by omega) L, Int.ediv_le_ediv (by omega) (by omega)⟩
    · have c1 := chain_up hup (s := pc l u - 1) (t := pc l u) (by omega) (by omega)
      have c2 := chain_up hup (s := pc l u) (t := pc l v - 1) (by omega) (by omega)
      have c3 := chain_up hup (s := pc l v - 1) (t := pc l v) (by omega) (by omega)
      omega
theorem rd_dn {l : List (Int × Int)} {i : Nat} {u v : Int} (h : RP l) (hi : i < l.length) (hdn : ∀ j, i ≤ j → j + 1 < l.length → gR l (j + 1) ≤ gR l j) (hmx : ∀ j, j < l.length → gR l j ≤ gR l i) (u0 : gX l i ≤ u) (uv : u ≤ v) (v1 : v ≤ gX l (l.length - 1)) : rdL l v ≤ rdL l u ∧ rdH l v ≤ rdH l u := by
  have n0 := h.n0
  have i0 := (h.bx i hi).1
  have rv := rd_bd h (show 0 ≤ v by omega) v1
  have b := pc_is n0 v1
  have bl := b.h2
  have m1 := hmx (pc l v) bl
  have m2 := hmx (pc l v - 1) (by omega)
  by_cases e0 : u = gX l i
  · have r := rd_at h hi
    rw [← e0] at r
    omega
  · have a := pc_is n0 (show u ≤ gX l (l.length - 1) by omega)
    have s1 := a.h1
    have al := a.h2
    have si : i < pc l u := by
      rcases Nat.lt_or_ge i (pc l u) with g | g
      · exact g
      · have := gX_le h g hi
        have := a.h3
        omega
    have st := pc_mono h uv v1
    have ru := rd_bd h (show 0 ≤ u by omega) (show u ≤ gX l (l.length - 1) by omega)
    by_cases e : pc l u = pc l v
    · have q := hdn (pc l v - 1) (by omega) (by omega)
      rw [show pc l v - 1 + 1 = pc l v by omega] at q
      have d := gX_lt h (i := pc l v - 1) (j := pc l v) (by omega) (by omega)
      have L := lnN_down (a := gX l (pc l v - 1)) (b := gX l (pc l v)) q uv
      unfold rdL rdH lnL lnH cdv
      rw [e]
      exact ⟨Int.ediv_le_ediv (by omega) L, Int.ediv_le_ediv (by omega) (by omega)⟩
    · have c1 := chain_dn hdn (s := pc l u - 1) (t := pc l u) (by omega) (by omega) (by omega)
      have c2 := chain_dn hdn (s := pc l u) (t := pc l v - 1) (by omega) (by omega) (by omega)
      have c3 := chain_dn hdn (s := pc l v - 1) (t := pc l v) (by omega) (by omega) (by omega)
      omega
/-- up to the bung the radii do not fall, and behind it they do not rise -/
theorem bg_sides {l : List (Int × Int)} (h : RP l) : bg l l.length < l.length ∧ (∀ j, j < l.length → gR l j ≤ gR l (bg l l.length)) ∧ (∀ j, j < bg l l.length → gR l j ≤ gR l (j + 1)) ∧ (∀ j, bg l l.length ≤ j → j + 1 < l.length → gR l (j + 1) ≤ gR l j) := by
  have n0 := h.n0
  have hl : bg l l.length < l.length := by have := bg_lt l l.length; omega
  have hm := bg_max l l.length
  refine ⟨hl, hm, fun j hj => ?_, fun j hj hj2 => ?_⟩
  · by_cases g : gR l (j + 1) < gR l j
    · have : ∀ t, j + 1 ≤ t → t < l.length → gR l t ≤ gR l (j + 1) := fun t h1 h2 => chain_dn (i := j) (fun k k1 k2 => h.ns j k k1 k2 g) (by omega) h1 h2
      have := this _ (by omega) hl
      have := hm j (by omega)
      omega
    · omega
  · by_cases g : gR l j < gR l (j + 1)
    · have hup : ∀ k, k < j → gR l k ≤ gR l (k + 1) := fun k hk => by
        by_cases g2 : gR l (k + 1) < gR l k
        · have := h.ns k j (by omega) hj2 g2; omega
        · omega
      have := chain_up hup (s := bg l l.length) (t := j) hj (Nat.le_refl _)
      have := hm (j + 1) hj2
      omega
    · omega
theorem least_end {l : List (Int × Int)} (h : RP l) {j : Nat} (hj : j < l.length) : min (gR l 0) (gR l (l.length - 1)) ≤ gR l j := by
  obtain ⟨b1, b2, b3, b4⟩ := bg_sides h
  by_cases g : j ≤ bg l l.length
  · have := chain_up b3 (s := 0) (t := j) (by omega) g
    omega
  · have := chain_dn b4 (s := j) (t := l.length - 1) (by omega) (by omega) (by omega)
    omega
theorem bulge_facts {l : List (Int × Int)} {u v : Int} (h : RP l) (u0 : 0 ≤ u) (uv : u ≤ v) (v1 : v ≤ gX l (l.length - 1)) :
    rdL l u ≤ rdH l u ∧ rdH l u - rdL l u ≤ 1 ∧ rdH l u ≤ gR l (bg l l.length) ∧ min (gR l 0) (gR l (l.length - 1)) ≤ rdL l u ∧ (v ≤ gX l (bg l l.length) → rdL l u ≤ rdL l v ∧ rdH l u ≤ rdH l v) ∧ (gX l (bg l l.length) ≤ u → rdL l v ≤ rdL l u ∧ rdH l v ≤ rdH l u) := by
  obtain ⟨b1, b2, b3, b4⟩ := bg_sides h
  have ru := rd_bd h u0 (show u ≤ gX l (l.length - 1) by omega)
  have a := pc_is h.n0 (show u ≤ gX l (l.length - 1) by omega)
  have s1 := a.h1
  have s2 := a.h2
  have m1 := b2 (pc l u) s2
  have m2 := b2 (pc l u - 1) (by omega)
  have e1 := least_end h s2
  have e2 := least_end h (j := pc l u - 1) (by omega)
  refine ⟨ru.2.1, by omega, by omega, by omega, fun g => rd_up h b1 b3 u0 uv g, fun g => rd_dn h b1 b4 b2 g uv v1⟩
theorem at_none {l : List (Int × Int)} {x : Int} (h : plE l x ≠ 0) : atL l x = 0 ∧ atH l x = 0 := by
  unfold atL atH; rw [if_neg h, if_neg h]; exact ⟨rfl, rfl⟩
theorem at_some {l : List (Int × Int)} {x : Int} (h : plE l x = 0) : atL l x = rdL l x ∧ atH l x = rdH l x := by
  unfold atL atH; rw [if_pos h, if_pos h]; exact ⟨rfl, rfl⟩
end Go.Proofs.Ytgjdopjolokaiaa

/- Plain facts on square roots. No program stands in this text. -/
namespace Go.Proofs.Ytgjdopjolokaiaa

theorem sq_mono {a b : Int} (h0 : 0 ≤ a) (h : a ≤ b) : a * a ≤ b * b := Int.mul_le_mul h h h0 (Int.le_trans h0 h)
theorem sq_lt {a b : Int} (h0 : 0 ≤ b) (h : a * a < b * b) : a < b := by
  apply Classical.byContradiction
  intro hn
  have := sq_mono h0 (show b ≤ a by omega)
  omega
theorem sq_le {a b : Int} (h0 : 0 ≤ b) (h : a * a ≤ b * b) : a ≤ b := by
  apply Classical.byContradiction
  intro hn
  have h1 : b + 1 ≤ a := by omega
  have h2 := sq_mono (show 0 ≤ b + 1 by omega) h1
  have h3 : (b + 1) * (b + 1) = b * b + b + b + 1 := by rw [Int.add_mul, Int.mul_add]; omega
  omega
theorem rt_ex (n : Nat) : ∃ r : Nat, (r : Int) * r ≤ n ∧ (n : Int) < (r + 1) * (r + 1) := by
  induction n with
  | zero => exact ⟨0, by decide, by decide⟩
  | succ n ih =>
    obtain ⟨r, h1, h2⟩ := ih
    by_cases h : (n : Int) + 1 < (r + 1) * (r + 1)
    · exact ⟨r, by omega, by push_cast; exact h⟩
    · refine ⟨r + 1, by push_cast; omega, ?_⟩
      push_cast
      have h3 : ((r : Int) + 1 + 1) * (r + 1 + 1) = (r + 1) * (r + 1) + (r + 1) + (r + 1) + 1 := by
        rw [Int.add_mul ((r : Int) + 1), Int.mul_add ((r : Int) + 1)]; omega
      rw [h3]; omega
/-- the root of a number that is not negative, rounded down -/
noncomputable def rt (n : Int) : Int := ((rt_ex n.toNat).choose : Int)
theorem rt_spec (n : Int) (h : 0 ≤ n) : 0 ≤ rt n ∧ rt n * rt n ≤ n ∧ n < (rt n + 1) * (rt n + 1) := by
  have h2 : rt n * rt n ≤ (n.toNat : Int) ∧ (n.toNat : Int) < (rt n + 1) * (rt n + 1) := (rt_ex n.toNat).choose_spec
  have e : (n.toNat : Int) = n := Int.toNat_of_nonneg h
  exact ⟨by unfold rt; omega, Int.le_trans h2.1 (by omega), Int.lt_of_le_of_lt (by omega) h2.2⟩
theorem rt_of {n r : Int} (h0 : 0 ≤ r) (h1 : r * r ≤ n) (h2 : n < (r + 1) * (r + 1)) : rt n = r := by
  have hn : 0 ≤ n := Int.le_trans (Int.mul_nonneg h0 h0) h1
  obtain ⟨g0, g1, g2⟩ := rt_spec n hn
  have a := sq_lt (show 0 ≤ r + 1 by omega) (show rt n * rt n < (r + 1) * (r + 1) by omega)
  have b := sq_lt (show 0 ≤ rt n + 1 by omega) (show r * r < (rt n + 1) * (rt n + 1) by omega)
  omega
theorem rt_mono {m n : Int} (h0 : 0 ≤ m) (h : m ≤ n) : rt m ≤ rt n := by
  obtain ⟨a0, a1, a2⟩ := rt_spec m h0
  obtain ⟨b0, b1, b2⟩ := rt_spec n (by omega)
  have := sq_lt (show 0 ≤ rt n + 1 by omega) (show rt m * rt m < (rt n + 1) * (rt n + 1) by omega)
  omega
theorem rt_sq (k : Int) (h : 0 ≤ k) : rt (k * k) = k := by
  refine rt_of h (Int.le_refl _) ?_
  have : (k + 1) * (k + 1) = k * k + k + k + 1 := by rw [Int.add_mul, Int.mul_add]; omega
  omega
theorem rt_le {n b : Int} (h0 : 0 ≤ n) (hb : 0 ≤ b) (h : n ≤ b * b) : rt n ≤ b := by
  have := rt_mono h0 h
  rw [rt_sq b hb] at this
  exact this
/-- the root, rounded up -/
noncomputable def ce (n : Int) : Int := if rt n * rt n < n then rt n + 1 else rt n
theorem ce_spec (n : Int) (h : 0 ≤ n) : rt n ≤ ce n ∧ ce n ≤ rt n + 1 ∧ n ≤ ce n * ce n ∧ (ce n = rt n ↔ rt n * rt n = n) := by
  obtain ⟨a0, a1, a2⟩ := rt_spec n h
  unfold ce
  by_cases hl : rt n * rt n < n
  · rw [if_pos hl]; exact ⟨by omega, by omega, by omega, by omega, by omega⟩
  · rw [if_neg hl]; exact ⟨by omega, by omega, by omega, by omega, by omega⟩
theorem ce_le {n c : Int} (h : 0 ≤ n) (h0 : 0 ≤ c) (hc : n ≤ c * c) : ce n ≤ c := by
  obtain ⟨a0, a1, a2⟩ := rt_spec n h
  have h1 := rt_le h h0 hc
  unfold ce
  split
  · rename_i hl
    apply Classical.byContradiction
    intro hn
    have : rt n = c := by omega
    rw [this] at hl
    omega
  · exact h1
theorem ce_mono {m n : Int} (h0 : 0 ≤ m) (h : m ≤ n) : ce m ≤ ce n := by
  obtain ⟨b0, b1, b2, _⟩ := ce_spec n (by omega)
  have := (rt_spec n (by omega)).1
  exact ce_le h0 (by omega) (by omega)
theorem ce_sq (k : Int) (h : 0 ≤ k) : ce (k * k) = k := by
  unfold ce
  rw [rt_sq k h, if_neg (by omega)]
theorem rt_fold (n k : Int) (h : 0 ≤ n) (hk : 0 ≤ k) : k * rt n ≤ rt (n * k * k) ∧ rt (n * k * k) ≤ k * ce n := by
  obtain ⟨a0, a1, a2⟩ := rt_spec n h
  obtain ⟨b0, b1, b2, _⟩ := ce_spec n h
  have hkk : 0 ≤ k * k := Int.mul_nonneg hk hk
  have e : ∀ x : Int, k * x * (k * x) = x * x * (k * k) := fun x => by
    rw [Int.mul_comm k x, Int.mul_assoc, Int.mul_assoc, ← Int.mul_assoc k x k, Int.mul_comm k x, Int.mul_assoc]
  have hn : 0 ≤ n * k * k := Int.mul_nonneg (Int.mul_nonneg h hk) hk
  constructor
  · have h1 : k * rt n * (k * rt n) ≤ n * k * k := by
      rw [e, Int.mul_assoc n]
      exact Int.mul_le_mul_of_nonneg_right a1 hkk
    have := rt_mono (Int.mul_nonneg (Int.mul_nonneg hk a0) (Int.mul_nonneg hk a0)) h1
    rw [rt_sq _ (Int.mul_nonneg hk a0)] at this
    exact this
  · refine rt_le hn (Int.mul_nonneg hk (by omega)) ?_
    rw [e, Int.mul_assoc n]
    exact Int.mul_le_mul_of_nonneg_right b2 hkk

/-! ### half chords -/
noncomputable def hcL (r y : Int) : Int := if r < y ∨ y < -r then 0 else rt (r * r - y * y)
noncomputable def hcH (r y : Int) : Int := if r < y ∨ y < -r then 0 else ce (r * r - y * y)
theorem sq_abs {r y : Int} (h : ¬ (r < y ∨ y < -r)) : 0 ≤ r * r - y * y := by
  by_cases h0 : 0 ≤ y
  · have := sq_mono h0 (show y ≤ r by omega); omega
  · have := sq_mono (show 0 ≤ -y by omega) (show -y ≤ r by omega)
    rw [Int.neg_mul_neg] at this; omega
theorem hc_bd (r y : Int) (hr : 0 ≤ r) : 0 ≤ hcL r y ∧ hcL r y ≤ hcH r y ∧ hcH r y ≤ hcL r y + 1 ∧ hcH r y ≤ r := by
  unfold hcL hcH
  by_cases h : r < y ∨ y < -r
  · rw [if_pos h, if_pos h]; omega
  · rw [if_neg h, if_neg h]
    have h0 := sq_abs h
    obtain ⟨a0, a1, a2⟩ := rt_spec _ h0
    obtain ⟨b0, b1, b2, _⟩ := ce_spec _ h0
    refine ⟨a0, b0, b1, ce_le h0 hr ?_⟩
    have : 0 ≤ y * y := by
      by_cases hy : 0 ≤ y
      · exact Int.mul_nonneg hy hy
      · rw [← Int.neg_mul_neg]; exact Int.mul_nonneg (by omega) (by omega)
    omega
theorem hc_neg (r y : Int) : hcL r (-y) = hcL r y ∧ hcH r (-y) = hcH r y := by
  unfold hcL hcH
  rw [Int.neg_mul_neg]
  by_cases h : r < y ∨ y < -r
  · rw [if_pos h, if_pos (by omega), if_pos h, if_pos (by omega)]; exact ⟨rfl, rfl⟩
  · rw [if_neg h, if_neg (by omega), if_neg h, if_neg (by omega)]; exact ⟨rfl, rfl⟩
theorem hc_zero (r : Int) (h : 0 ≤ r) : hcL r 0 = r ∧ hcH r 0 = r := by
  unfold hcL hcH
  rw [if_neg (by omega), if_neg (by omega), Int.mul_zero, Int.sub_zero, rt_sq r h, ce_sq r h]
  exact ⟨rfl, rfl⟩
theorem hc_wider (r s y : Int) (h0 : 0 ≤ r) (h : r ≤ s) : hcL r y ≤ hcL s y ∧ hcH r y ≤ hcH s y := by
  have hs := hc_bd s y (by omega)
  by_cases g : r < y ∨ y < -r
  · have e1 : hcL r y = 0 := by unfold hcL; rw [if_pos g]
    have e2 : hcH r y = 0 := by unfold hcH; rw [if_pos g]
    rw [e1, e2]; omega
  · have g2 : ¬ (s < y ∨ y < -s) := by omega
    have q := sq_abs g
    have m := sq_mono h0 h
    unfold hcL hcH
    rw [if_neg g, if_neg g, if_neg g2, if_neg g2]
    exact ⟨rt_mono q (by omega), ce_mono q (by omega)⟩
theorem hc_further (r x y : Int) (hr : 0 ≤ r) (h0 : 0 ≤ x) (h : x ≤ y) : hcL r y ≤ hcL r x ∧ hcH r y ≤ hcH r x := by
  have hs := hc_bd r x hr
  by_cases g : r < y ∨ y < -r
  · have e1 : hcL r y = 0 := by unfold hcL; rw [if_pos g]
    have e2 : hcH r y = 0 := by unfold hcH; rw [if_pos g]
    rw [e1, e2]; omega
  · have g2 : ¬ (r < x ∨ x < -r) := by omega
    have q := sq_abs g
    have m := sq_mono h0 h
    unfold hcL hcH
    rw [if_neg g, if_neg g, if_neg g2, if_neg g2]
    exact ⟨rt_mono q (by omega), ce_mono q (by omega)⟩
theorem hc_abs (r y : Int) : hcL r y = hcL r (max y (-y)) ∧ hcH r y = hcH r (max y (-y)) := by
  by_cases h : 0 ≤ y
  · rw [show max y (-y) = y by omega]; exact ⟨rfl, rfl⟩
  · rw [show max y (-y) = -y by omega]
    have := hc_neg r y
    exact ⟨this.1.symm, this.2.symm⟩
theorem hc_circle (r y : Int) (h : ¬ (r < y ∨ y < -r)) : hcL r y * hcL r y + y * y ≤ r * r ∧ r * r ≤ hcH r y * hcH r y + y * y := by
  have q := sq_abs h
  obtain ⟨a0, a1, a2⟩ := rt_spec _ q
  obtain ⟨b0, b1, b2, _⟩ := ce_spec _ q
  unfold hcL hcH
  rw [if_neg h, if_neg h]
  omega
end Go.Proofs.Ytgjdopjolokaiaa

/- Plain facts on areas of circles between heights. No program stands in this text. -/
namespace Go.Proofs.Ytgjdopjolokaiaa

/-! ### half chords at a distance: more on them -/
theorem hc_le (r y : Int) (hr : 0 ≤ r) : 0 ≤ hcL r y ∧ hcL r y ≤ hcH r y ∧ hcH r y ≤ r := by
  have := hc_bd r y hr
  omega
/-- the nearer to the centre the greater -/
theorem hc_near (r y z : Int) (hr : 0 ≤ r) (h : max y (-y) ≤ max z (-z)) : hcL r z ≤ hcL r y ∧ hcH r z ≤ hcH r y := by
  rw [(hc_abs r y).1, (hc_abs r y).2, (hc_abs r z).1, (hc_abs r z).2]
  exact hc_further r _ _ hr (by omega) h

/-! ### a strip -/
/-- the bounds of the area of a circle in a strip -/
noncomputable def ofL (r c a b : Int) : Int := (b - a) * min (2 * hcL r (a - c)) (2 * hcL r (b - c))
noncomputable def ofH (r c a b : Int) : Int := (b - a) * (if a ≤ c ∧ c ≤ b then 2 * r else max (2 * hcH r (a - c)) (2 * hcH r (b - c)))
theorem wid_mono {w x y : Int} (hw : 0 ≤ w) (h : x ≤ y) : w * x ≤ w * y := Int.mul_le_mul_of_nonneg_left h hw
theorem of_bd (r c a b : Int) (hr : 0 ≤ r) (h : a ≤ b) : 0 ≤ ofL r c a b ∧ ofL r c a b ≤ ofH r c a b ∧ ofH r c a b ≤ (b - a) * (2 * r) := by
  have h1 := hc_le r (a - c) hr
  have h2 := hc_le r (b - c) hr
  unfold ofL ofH
  refine ⟨Int.mul_nonneg (by omega) (by omega), wid_mono (by omega) ?_, wid_mono (by omega) ?_⟩ <;> split <;> omega
/-- a greater radius -/
theorem of_wider (r s c a b : Int) (hr : 0 ≤ r) (hs : r ≤ s) (h : a ≤ b) : ofL r c a b ≤ ofL s c a b ∧ ofH r c a b ≤ ofH s c a b := by
  have h1 := hc_wider r s (a - c) hr hs
  have h2 := hc_wider r s (b - c) hr hs
  unfold ofL ofH
  refine ⟨wid_mono (by omega) (by omega), wid_mono (by omega) ?_⟩
  split <;> omega
/-- a strip that is cut in two -/
theorem of_cut (r c a m b : Int) (hr : 0 ≤ r) (h1 : a ≤ m) (h2 : m ≤ b) : ofL r c a b ≤ ofL r c a m + ofL r c m b ∧ ofH r c a m + ofH r c m b ≤ ofH r c a b := by
  have ha := hc_le r (a - c) hr
  have hb := hc_le r (b - c) hr
  have hm := hc_le r (m - c) hr
  -- the lesser chord: m is no further from the centre than one of both ends
  have hlow : min (2 * hcL r (a - c)) (2 * hcL r (b - c)) ≤ 2 * hcL r (m - c) := by
    by_cases h : max (m - c) (-(m - c)) ≤ max (a - c) (-(a - c))
    · have := (hc_near r (m - c) (a - c) hr h).1; omega
    · have := (hc_near r (m - c) (b - c) hr (by omega)).1; omega
  have e : ∀ x : Int, (b - a) * x = (m - a) * x + (b - m) * x := fun x => by rw [← Int.add_mul]; congr 1; omega
  constructor
  · unfold ofL
    rw [e]
    have q1 := wid_mono (w := m - a) (by omega) (show min (2 * hcL r (a - c)) (2 * hcL r (b - c)) ≤ min (2 * hcL r (a - c)) (2 * hcL r (m - c)) by omega)
    have q2 := wid_mono (w := b - m) (by omega) (show min (2 * hcL r (a - c)) (2 * hcL r (b - c)) ≤ min (2 * hcL r (m - c)) (2 * hcL r (b - c)) by omega)
    omega
  · unfold ofH
    rw [e]
    have q1 := wid_mono (w := m - a) (by omega) (show (if a ≤ c ∧ c ≤ m then 2 * r else max (2 * hcH r (a - c)) (2 * hcH r (m - c))) ≤ (if a ≤ c ∧ c ≤ b then 2 * r else max (2 * hcH r (a - c)) (2 * hcH r (b - c))) by
      by_cases hc : a ≤ c ∧ c ≤ b
      · rw [if_pos hc]; split <;> omega
      · rw [if_neg hc, if_neg (by omega)]
        by_cases h : max (a - c) (-(a - c)) ≤ max (m - c) (-(m - c))
        · have := (hc_near r (a - c) (m - c) hr h).2; omega
        · have := (hc_near r (b - c) (m - c) hr (by omega)).2; omega)
    have q2 := wid_mono (w := b - m) (by omega) (show (if m ≤ c ∧ c ≤ b then 2 * r else max (2 * hcH r (m - c)) (2 * hcH r (b - c))) ≤ (if a ≤ c ∧ c ≤ b then 2 * r else max (2 * hcH r (a - c)) (2 * hcH r (b - c))) by
      by_cases hc : a ≤ c ∧ c ≤ b
      · rw [if_pos hc]; split <;> omega
      · rw [if_neg hc, if_neg (by omega)]
        by_cases h : max (a - c) (-(a - c)) ≤ max (m - c) (-(m - c))
        · have := (hc_near r (a - c) (m - c) hr h).2; omega
        · have := (hc_near r (b - c) (m - c) hr (by omega)).2; omega)
    omega

/-! ### heights -/
/-- the first error of heights -/
def hB (n : Int) : Bool := decide (0 ≤ n) && decide (n ≤ 200000)
def ascB (l : List Int) : Bool := (List.range (l.length - 1)).all fun i => decide (l.getD i 0 ≤ l.getD (i + 1) 0)
def hcE (l : List Int) : Int := if l.length < 2 then 9 else if 65 < l.length then 8 else if l.all hB = false then 2 else if ascB l = false then 5 else 0
structure HR (l : List Int) : Prop where
  n0 : 2 ≤ l.length
  n1 : l.length ≤ 65
  bd : ∀ i, i < l.length → 0 ≤ l.getD i 0 ∧ l.getD i 0 ≤ 200000
  asc : ∀ i, i + 1 < l.length → l.getD i 0 ≤ l.getD (i + 1) 0
theorem ascB_iff (l : List Int) : ascB l = true ↔ ∀ i, i + 1 < l.length → l.getD i 0 ≤ l.getD (i + 1) 0 := by
  unfold ascB
  rw [List.all_eq_true]
  constructor
  · intro h i hi
    have := h i (List.mem_range.2 (by omega))
    simpa using this
  · intro h i hi
    have := h i (by have := List.mem_range.1 hi; omega)
    simpa using this
theorem allB_iff (l : List Int) : l.all hB = true ↔ ∀ i, i < l.length → 0 ≤ l.getD i 0 ∧ l.getD i 0 ≤ 200000 := by
  rw [List.all_eq_true]
  constructor
  · intro h i hi
    have := h (l.getD i 0) (by rw [List.getD_eq_getElem?_getD, List.getElem?_eq_getElem hi]; exact List.getElem_mem hi)
    simpa [hB] using this
  · intro h x hx
    obtain ⟨i, hi, rfl⟩ := List.getElem_of_mem hx
    have := h i hi
    rw [List.getD_eq_getElem?_getD, List.getElem?_eq_getElem hi] at this
    simpa [hB] using this
theorem hcE_iff (l : List Int) : hcE l = 0 ↔ HR l := by
  unfold hcE
  constructor
  · intro h
    split at h
    · omega
    · split at h
      · omega
      · split at h
        · omega
        · split at h
          · omega
          · rename_i g1 g2 g3 g4
            exact ⟨by omega, by omega, (allB_iff l).1 (by simpa using g3), (ascB_iff l).1 (by simpa using g4)⟩
  · intro h
    rw [if_neg (by have := h.n0; omega), if_neg (by have := h.n1; omega), if_neg (by rw [(allB_iff l).2 h.bd]; simp), if_neg (by rw [(ascB_iff l).2 h.asc]; simp)]

/-! ### sums over strips -/
noncomputable def prL (r c : Int) (l : List Int) : Nat → Int
  | 0 => 0
  | k + 1 => prL r c l k + ofL r c (l.getD k 0) (l.getD (k + 1) 0)
noncomputable def prH (r c : Int) (l : List Int) : Nat → Int
  | 0 => 0
  | k + 1 => prH r c l k + ofH r c (l.getD k 0) (l.getD (k + 1) 0)
theorem pr_bd {r c : Int} {l : List Int} (hr : 0 ≤ r) (h : HR l) (k : Nat) (hk : k < l.length) : 0 ≤ prL r c l k ∧ prL r c l k ≤ prH r c l k ∧ prH r c l k ≤ (l.getD k 0 - l.getD 0 0) * (2 * r) := by
  induction k with
  | zero => simp [prL, prH]
  | succ k ih =>
    obtain ⟨i1, i2, i3⟩ := ih (by omega)
    obtain ⟨b1, b2, b3⟩ := of_bd r c _ _ hr (h.asc k hk)
    have e : (l.getD (k + 1) 0 - l.getD 0 0) * (2 * r) = (l.getD k 0 - l.getD 0 0) * (2 * r) + (l.getD (k + 1) 0 - l.getD k 0) * (2 * r) := by
      rw [← Int.add_mul]; congr 1; omega
    rw [e]
    show 0 ≤ prL r c l k + _ ∧ prL r c l k + _ ≤ prH r c l k + _ ∧ prH r c l k + _ ≤ _
    omega
theorem pr_le {r c : Int} {l : List Int} (hr : 0 ≤ r) (hr2 : r ≤ 100000) (h : HR l) (k : Nat) (hk : k < l.length) : 0 ≤ prL r c l k ∧ prL r c l k ≤ prH r c l k ∧ prH r c l k ≤ 40000000000 := by
  obtain ⟨b1, b2, b3⟩ := pr_bd (c := c) hr h k hk
  have q1 := h.bd k hk
  have q2 := h.bd 0 (by omega)
  have q3 : (l.getD k 0 - l.getD 0 0) * (2 * r) ≤ 200000 * 200000 := by
    by_cases hn : 0 ≤ l.getD k 0 - l.getD 0 0
    · exact Int.mul_le_mul (by omega) (by omega) (by omega) (by omega)
    · have := Int.mul_le_mul_of_nonneg_right (show l.getD k 0 - l.getD 0 0 ≤ 0 by omega) (show 0 ≤ 2 * r by omega)
      omega
  omega
theorem pr_wider {r s c : Int} {l : List Int} (hr : 0 ≤ r) (hs : r ≤ s) (h : HR l) (k : Nat) (hk : k < l.length) : prL r c l k ≤ prL s c l k ∧ prH r c l k ≤ prH s c l k := by
  induction k with
  | zero => simp [prL, prH]
  | succ k ih =>
    have i := ih (by omega)
    have b := of_wider r s c _ _ hr hs (h.asc k hk)
    show prL r c l k + _ ≤ prL s c l k + _ ∧ prH r c l k + _ ≤ prH s c l k + _
    omega
/-- sums look at the first heights alone -/
theorem pr_same {r c : Int} {l m : List Int} (k : Nat) (h : ∀ i, i ≤ k → l.getD i 0 = m.getD i 0) : prL r c l k = prL r c m k ∧ prH r c l k = prH r c m k := by
  induction k with
  | zero => simp [prL, prH]
  | succ k ih =>
    have i := ih (fun i hi => h i (by omega))
    unfold prL prH
    rw [i.1, i.2, h k (by omega), h (k + 1) (by omega)]
    exact ⟨rfl, rfl⟩
/-- sums from a height on -/
theorem pr_from {r c : Int} {l m : List Int} (k : Nat) (n : Nat) (h : ∀ i, i ≤ n → m.getD i 0 = l.getD (k + i) 0) : prL r c l (k + n) = prL r c l k + prL r c m n ∧ prH r c l (k + n) = prH r c l k + prH r c m n := by
  induction n with
  | zero => simp [prL, prH]
  | succ n ih =>
    have i := ih (fun i hi => h i (by omega))
    show prL r c l (k + n) + ofL r c (l.getD (k + n) 0) (l.getD (k + n + 1) 0) = prL r c l k + (prL r c m n + ofL r c (m.getD n 0) (m.getD (n + 1) 0)) ∧ prH r c l (k + n) + ofH r c (l.getD (k + n) 0) (l.getD (k + n + 1) 0) = prH r c l k + (prH r c m n + ofH r c (m.getD n 0) (m.getD (n + 1) 0))
    rw [h n (by omega), h (n + 1) (by omega), i.1, i.2, show k + (n + 1) = k + n + 1 by omega]
    omega
/-- m has, between each two heights of l, one more -/
theorem pr_finer {r c : Int} {l m : List Int} (hr : 0 ≤ r) (h : HR l) (h1 : ∀ i, i < l.length → m.getD (2 * i) 0 = l.getD i 0) (h2 : ∀ i, i + 1 < l.length → l.getD i 0 ≤ m.getD (2 * i + 1) 0 ∧ m.getD (2 * i + 1) 0 ≤ l.getD (i + 1) 0) (k : Nat) (hk : k < l.length) :
    prL r c l k ≤ prL r c m (2 * k) ∧ prH r c m (2 * k) ≤ prH r c l k := by
  induction k with
  | zero => simp [prL, prH]
  | succ k ih =>
    have i := ih (by omega)
    have g := h2 k hk
    have b := of_cut r c _ _ _ hr g.1 g.2
    have e0 := h1 k (by omega)
    have e1 := h1 (k + 1) hk
    rw [show 2 * (k + 1) = 2 * k + 1 + 1 by omega] at e1 ⊢
    show prL r c l k + _ ≤ prL r c m (2 * k) + ofL r c (m.getD (2 * k) 0) (m.getD (2 * k + 1) 0) + ofL r c (m.getD (2 * k + 1) 0) (m.getD (2 * k + 1 + 1) 0) ∧ prH r c m (2 * k) + ofH r c (m.getD (2 * k) 0) (m.getD (2 * k + 1) 0) + ofH r c (m.getD (2 * k + 1) 0) (m.getD (2 * k + 1 + 1) 0) ≤ prH r c l k + _
    rw [e0, e1]
    omega
end Go.Proofs.Ytgjdopjolokaiaa

/- Plain facts of layer 11: slices of a cask, their radii, sums over slices and strips. No program stands in this text. -/
namespace Go.Proofs.Ytgjdopjolokaiaa

/-! ### a place on a given piece -/
theorem rd_piece {l : List (Int × Int)} (h : RP l) {k : Nat} (hk : k + 1 < l.length) {x : Int} (x0 : gX l k ≤ x) (x1 : x ≤ gX l (k + 1)) :
    rdL l x = lnL (gX l k) (gR l k) (gX l (k + 1)) (gR l (k + 1)) x ∧ rdH l x = lnH (gX l k) (gR l k) (gX l (k + 1)) (gR l (k + 1)) x := by
  have a := h.asc k hk
  by_cases e : x = gX l k
  · subst e
    obtain ⟨r1, r2⟩ := rd_at h (j := k) (by omega)
    rw [r1, r2]
    unfold lnL lnH
    rw [lnN_left, fl_int _ _ (by omega), cl_int _ _ (by omega)]
    exact ⟨rfl, rfl⟩
  · have hp : IsPc l x (k + 1) := ⟨by omega, hk, x1, fun j j1 j2 => by
      have := gX_le h (i := j) (j := k) (by omega) (by omega)
      omega⟩
    have := pc_of hp
    unfold rdL rdH
    rw [this, Nat.add_sub_cancel]
    exact ⟨rfl, rfl⟩
/-- the lesser radius of a slice, and the greater one -/
noncomputable def slL (l : List (Int × Int)) (a b : Int) : Int := min (rdL l a) (rdL l b)
noncomputable def slH (l : List (Int × Int)) (a b : Int) : Int := max (rdH l a) (rdH l b)
/-- right places -/
structure PlR (l : List (Int × Int)) (ps : List Int) : Prop where
  n0 : 2 ≤ ps.length
  n1 : ps.length ≤ 128
  z : ps.getD 0 0 = 0
  e : ps.getD (ps.length - 1) 0 = gX l (l.length - 1)
  asc : ∀ i, i + 1 < ps.length → ps.getD i 0 < ps.getD (i + 1) 0
  has : ∀ j, j < l.length → ∃ i, i < ps.length ∧ ps.getD i 0 = gX l j
theorem asc_lt {ps : List Int} (h : ∀ i, i + 1 < ps.length → ps.getD i 0 < ps.getD (i + 1) 0) {i j : Nat} (hij : i < j) (hj : j < ps.length) : ps.getD i 0 < ps.getD j 0 := by
  induction j with
  | zero => omega
  | succ j ih =>
    have := h j hj
    by_cases e : i = j
    · subst e; exact this
    · have := ih (by omega) (by omega); omega
theorem asc_le {ps : List Int} (h : ∀ i, i + 1 < ps.length → ps.getD i 0 < ps.getD (i + 1) 0) {i j : Nat} (hij : i ≤ j) (hj : j < ps.length) : ps.getD i 0 ≤ ps.getD j 0 := by
  by_cases e : i = j
  · subst e; exact Int.le_refl _
  · have := asc_lt h (show i < j by omega) hj; omega
theorem PlR.bd {l : List (Int × Int)} {ps : List Int} (h : PlR l ps) {i : Nat} (hi : i < ps.length) : 0 ≤ ps.getD i 0 ∧ ps.getD i 0 ≤ gX l (l.length - 1) := by
  have a := asc_le h.asc (Nat.zero_le i) hi
  have b := asc_le h.asc (i := i) (j := ps.length - 1) (by omega) (by have := h.n0; omega)
  rw [h.z] at a
  rw [h.e] at b
  exact ⟨a, b⟩
/-- a slice lies on one piece -/
theorem PlR.piece {l : List (Int × Int)} {ps : List Int} (hR : RP l) (h : PlR l ps) {i : Nat} (hi : i + 1 < ps.length) : ∃ k, k + 1 < l.length ∧ gX l k ≤ ps.getD i 0 ∧ ps.getD (i + 1) 0 ≤ gX l (k + 1) := by
  have lt := h.asc i hi
  have b1 := h.bd hi
  have p := pc_is hR.n0 (show ps.getD (i + 1) 0 ≤ gX l (l.length - 1) from b1.2)
  have p1 := p.h1
  refine ⟨pc l (ps.getD (i + 1) 0) - 1, by have := p.h2; omega, ?_, by rw [Nat.sub_add_cancel p1]; exact p.h3⟩
  generalize pc l (ps.getD (i + 1) 0) = m at *
  by_cases hm : m = 1
  · subst hm
    have := hR.x0
    have b0 := h.bd (show i < ps.length by omega)
    show gX l 0 ≤ _
    omega
  · have q := p.h4 (m - 1) (by omega) (by omega)
    obtain ⟨t, ht, et⟩ := h.has (m - 1) (by have := p.h2; omega)
    by_cases g : t ≤ i
    · have := asc_le h.asc g (show i < ps.length by omega); omega
    · have := asc_le h.asc (show i + 1 ≤ t by omega) ht; omega
theorem sl_bd {l : List (Int × Int)} (h : RP l) {a b : Int} (a0 : 0 ≤ a) (ab : a ≤ b) (b1 : b ≤ gX l (l.length - 1)) : 1 ≤ slL l a b ∧ slL l a b ≤ slH l a b ∧ slH l a b ≤ gR l (bg l l.length) ∧ gR l (bg l l.length) ≤ 100000 := by
  obtain ⟨u1, u2, u3, u4, _, _⟩ := bulge_facts h a0 ab b1
  obtain ⟨v1, v2, v3, v4, _, _⟩ := bulge_facts h (show 0 ≤ b by omega) (Int.le_refl b) b1
  have hl : bg l l.length < l.length := by have := bg_lt l l.length; have := h.n0; omega
  have r := h.br _ hl
  have r0 := h.br 0 (by have := h.n0; omega)
  have r1 := h.br (l.length - 1) (by have := h.n0; omega)
  unfold slL slH
  omega
/-! ### the frustums lie between the cylinders -/
noncomputable def enL (l : List (Int × Int)) (ps : List Int) : Nat → Int
  | 0 => 0
  | k + 1 => enL l ps k + 3 * ((ps.getD (k + 1) 0 - ps.getD k 0) * (slL l (ps.getD k 0) (ps.getD (k + 1) 0) * slL l (ps.getD k 0) (ps.getD (k + 1) 0)))
noncomputable def enH (l : List (Int × Int)) (ps : List Int) : Nat → Int
  | 0 => 0
  | k + 1 => enH l ps k + 3 * ((ps.getD (k + 1) 0 - ps.getD k 0) * (slH l (ps.getD k 0) (ps.getD (k + 1) 0) * slH l (ps.getD k 0) (ps.getD (k + 1) 0)))
theorem sq3_low {m x y : Int} (m0 : 0 ≤ m) (hx : m ≤ x) (hy : m ≤ y) : 3 * (m * m) ≤ sq3 x y := by
  have := sq3_mono m0 m0 hx hy
  rw [sq3_same, Int.mul_assoc] at this
  exact this
theorem sq3_high {m x y : Int} (x0 : 0 ≤ x) (y0 : 0 ≤ y) (hx : x ≤ m) (hy : y ≤ m) : sq3 x y ≤ 3 * (m * m) := by
  have := sq3_mono x0 y0 hx hy
  rw [sq3_same, Int.mul_assoc] at this
  exact this
/-- up to a place on the piece k, times the square of the piece's length -/
structure EnAt (l : List (Int × Int)) (ps : List Int) (i k : Nat) : Prop where
  hk : k + 1 < l.length
  x0 : gX l k ≤ ps.getD i 0
  x1 : ps.getD i 0 ≤ gX l (k + 1)
  low : (gX l (k + 1) - gX l k) * (gX l (k + 1) - gX l k) * (enL l ps i - fr l k) ≤ (ps.getD i 0 - gX l k) * sq3 (gR l k * (gX l (k + 1) - gX l k)) (lnN (gX l k) (gR l k) (gX l (k + 1)) (gR l (k + 1)) (ps.getD i 0))
  high : (ps.getD i 0 - gX l k) * sq3 (gR l k * (gX l (k + 1) - gX l k)) (lnN (gX l k) (gR l k) (gX l (k + 1)) (gR l (k + 1)) (ps.getD i 0)) ≤ (gX l (k + 1) - gX l k) * (gX l (k + 1) - gX l k) * (enH l ps i - fr l k)
theorem sq3_scale (d p q : Int) : sq3 (p * d) (q * d) = d * d * sq3 p q := by unfold sq3; grind
theorem EnAt.whole {l : List (Int × Int)} {ps : List Int} {i k : Nat} (hR : RP l) (h : EnAt l ps i k) (e : ps.getD i 0 = gX l (k + 1)) : enL l ps i ≤ fr l (k + 1) ∧ fr l (k + 1) ≤ enH l ps i := by
  obtain ⟨hk, _, _, lo, hi⟩ := h
  rw [e, lnN_right, sq3_scale] at lo hi
  have a := hR.asc k hk
  rw [fr_succ]
  have d0 : 0 < gX l (k + 1) - gX l k := by omega
  generalize gX l (k + 1) - gX l k = d at *
  have e1 : d * (d * d * sq3 (gR l k) (gR l (k + 1))) = d * d * (d * sq3 (gR l k) (gR l (k + 1))) := by grind
  rw [e1] at lo hi
  have dd := Int.mul_pos d0 d0
  have l1 := Int.le_of_mul_le_mul_left lo dd
  have l2 := Int.le_of_mul_le_mul_left hi dd
  omega
theorem EnAt.step {l : List (Int × Int)} {ps : List Int} {i k : Nat} (hR : RP l) (hP : PlR l ps) (hi : i + 1 < ps.length) (h : EnAt l ps i k) (lt : ps.getD i 0 < gX l (k + 1)) : EnAt l ps (i + 1) k := by
  obtain ⟨hk, x0, x1, lo, hg⟩ := h
  have ascx := hP.asc i hi
  have y1 : ps.getD (i + 1) 0 ≤ gX l (k + 1) := by
    obtain ⟨t, ht, et⟩ := hP.has (k + 1) hk
    by_cases g : t ≤ i
    · have := asc_le hP.asc g (show i < ps.length by omega); omega
    · have := asc_le hP.asc (show i + 1 ≤ t by omega) ht; omega
  have a := hR.asc k hk
  obtain ⟨rx1, rx2⟩ := rd_piece hR hk x0 x1
  obtain ⟨ry1, ry2⟩ := rd_piece hR hk (x := ps.getD (i + 1) 0) (by omega) y1
  have r0 := hR.br k (by omega)
  have q0 := hR.br (k + 1) hk
  refine ⟨hk, by omega, y1, ?_, ?_⟩
  · have bx := sl_bd hR (a := ps.getD i 0) (b := ps.getD (i + 1) 0) (by have := hP.bd (show i < ps.length by omega); omega) (by omega) (by have := hP.bd hi; omega)
    show _ * (enL l ps i + 3 * _ - _) ≤ _
    unfold slL at bx ⊢
    rw [rx1, ry1] at bx ⊢
    unfold lnL at bx ⊢
    generalize hNx : lnN (gX l k) (gR l k) (gX l (k + 1)) (gR l (k + 1)) (ps.getD i 0) = nx at *
    generalize hNy : lnN (gX l k) (gR l k) (gX l (k + 1)) (gR l (k + 1)) (ps.getD (i + 1) 0) = ny at *
    have id : (ps.getD i 0 - gX l k) * sq3 (gR l k * (gX l (k + 1) - gX l k)) nx + (ps.getD (i + 1) 0 - ps.getD i 0) * sq3 nx ny = (ps.getD (i + 1) 0 - gX l k) * sq3 (gR l k * (gX l (k + 1) - gX l k)) ny := by
      subst hNx; subst hNy
      unfold sq3 lnN
      grind
    rw [← id]
    generalize hd : gX l (k + 1) - gX l k = d at *
    have d0 : 0 < d := by omega
    have f1 := (fl_iff nx d (nx / d) d0).1 (Int.le_refl _)
    have f2 := (fl_iff ny d (ny / d) d0).1 (Int.le_refl _)
    generalize hm : min (nx / d) (ny / d) = m at *
    have m0 : 0 ≤ m := by omega
    have g1 : m * d ≤ nx := by
      have := Int.mul_le_mul_of_nonneg_right (show m ≤ nx / d by omega) (show 0 ≤ d by omega); omega
    have g2 : m * d ≤ ny := by
      have := Int.mul_le_mul_of_nonneg_right (show m ≤ ny / d by omega) (show 0 ≤ d by omega); omega
    have s := sq3_low (Int.mul_nonneg m0 (show 0 ≤ d by omega)) g1 g2
    have s2 := Int.mul_le_mul_of_nonneg_left s (show 0 ≤ ps.getD (i + 1) 0 - ps.getD i 0 by omega)
    generalize ps.getD (i + 1) 0 - ps.getD i 0 = w at *
    have e : d * d * (enL l ps i + 3 * (w * (m * m)) - fr l k) = d * d * (enL l ps i - fr l k) + w * (3 * (m * d * (m * d))) := by grind
    rw [e]
    omega
  · show _ ≤ _ * (enH l ps i + 3 * _ - _)
    have bx := sl_bd hR (a := ps.getD i 0) (b := ps.getD (i + 1) 0) (by have := hP.bd (show i < ps.length by omega); omega) (by omega) (by have := hP.bd hi; omega)
    unfold slL slH at bx
    unfold slH
    rw [rx2, ry2] at bx ⊢
    rw [rx1, ry1] at bx
    unfold lnL lnH at bx
    unfold lnH
    generalize hNx : lnN (gX l k) (gR l k) (gX l (k + 1)) (gR l (k + 1)) (ps.getD i 0) = nx at *
    generalize hNy : lnN (gX l k) (gR l k) (gX l (k + 1)) (gR l (k + 1)) (ps.getD (i + 1) 0) = ny at *
    have id : (ps.getD i 0 - gX l k) * sq3 (gR l k * (gX l (k + 1) - gX l k)) nx + (ps.getD (i + 1) 0 - ps.getD i 0) * sq3 nx ny = (ps.getD (i + 1) 0 - gX l k) * sq3 (gR l k * (gX l (k + 1) - gX l k)) ny := by
      subst hNx; subst hNy
      unfold sq3 lnN
      grind
    rw [← id]
    generalize hd : gX l (k + 1) - gX l k = d at *
    have d0 : 0 < d := by omega
    have f1 := cl_ge nx d d0
    have f2 := cl_ge ny d d0
    have z1 := (fl_iff nx d 1 d0).1 (by omega)
    have z2 := (fl_iff ny d 1 d0).1 (by omega)
    generalize hm : max (cdv nx d) (cdv ny d) = m at *
    have g1 : nx ≤ m * d := by
      have := Int.mul_le_mul_of_nonneg_right (show cdv nx d ≤ m by omega) (show 0 ≤ d by omega); omega
    have g2 : ny ≤ m * d := by
      have := Int.mul_le_mul_of_nonneg_right (show cdv ny d ≤ m by omega) (show 0 ≤ d by omega); omega
    have s := sq3_high (by omega) (by omega) g1 g2
    have s2 := Int.mul_le_mul_of_nonneg_left s (show 0 ≤ ps.getD (i + 1) 0 - ps.getD i 0 by omega)
    generalize ps.getD (i + 1) 0 - ps.getD i 0 = w at *
    have e : d * d * (enH l ps i + 3 * (w * (m * m)) - fr l k) = d * d * (enH l ps i - fr l k) + w * (3 * (m * d * (m * d))) := by grind
    rw [e]
    omega
theorem en_at {l : List (Int × Int)} {ps : List Int} (hR : RP l) (hP : PlR l ps) (i : Nat) (hi : i < ps.length) : ∃ k, EnAt l ps i k := by
  induction i with
  | zero =>
    have n0 := hR.n0
    have a := hR.asc 0 (by omega)
    refine ⟨0, by omega, ?_, ?_, ?_, ?_⟩
    · rw [hP.z, hR.x0]; exact Int.le_refl _
    · rw [hP.z]; rw [hR.x0] at a; omega
    · rw [hP.z, hR.x0]; simp [enL, fr]
    · rw [hP.z, hR.x0]; simp [enH, fr]
  | succ i ih =>
    obtain ⟨k, h⟩ := ih (by omega)
    by_cases lt : ps.getD i 0 < gX l (k + 1)
    · exact ⟨k, h.step hR hP hi lt⟩
    · have e : ps.getD i 0 = gX l (k + 1) := by have := h.x1; omega
      obtain ⟨w1, w2⟩ := h.whole hR e
      have ascx := hP.asc i hi
      have b := hP.bd hi
      have hk2 : k + 1 + 1 < l.length := by
        have hk := h.hk
        by_cases g : k + 1 + 1 = l.length
        · rw [show l.length - 1 = k + 1 by omega] at b; omega
        · omega
      have a := hR.asc (k + 1) hk2
      have h2 : EnAt l ps i (k + 1) := by
        refine ⟨hk2, by omega, by omega, ?_, ?_⟩
        · rw [e, Int.sub_self, Int.zero_mul]
          exact Int.mul_nonpos_of_nonneg_of_nonpos (Int.mul_nonneg (by omega) (by omega)) (by omega)
        · rw [e, Int.sub_self, Int.zero_mul]
          exact Int.mul_nonneg (Int.mul_nonneg (by omega) (by omega)) (by omega)
      exact ⟨k + 1, h2.step hR hP hi (by omega)⟩
/-- the frustums lie between the cylinders of the slices -/
theorem en_whole {l : List (Int × Int)} {ps : List Int} (hR : RP l) (hP : PlR l ps) : enL l ps (ps.length - 1) ≤ frS l ∧ frS l ≤ enH l ps (ps.length - 1) := by
  obtain ⟨k, h⟩ := en_at hR hP (ps.length - 1) (by have := hP.n0; omega)
  have e := hP.e
  have hk := h.hk
  have n0 := hR.n0
  have : k + 1 = l.length - 1 := by
    by_cases g : k + 1 = l.length - 1
    · exact g
    · have := gX_lt hR (i := k + 1) (j := l.length - 1) (by omega) (by omega)
      have := h.x1
      omega
  have w := h.whole hR (by rw [e, this])
  rw [this] at w
  exact w
end Go.Proofs.Ytgjdopjolokaiaa

/- Plain facts of layer 11: sums over slices and strips. No program stands in this text. -/
namespace Go.Proofs.Ytgjdopjolokaiaa

/-! ### the sums -/
noncomputable def tbL (l : List (Int × Int)) (c : Int) (ps hs : List Int) (j : Nat) : Nat → Int
  | 0 => 0
  | k + 1 => tbL l c ps hs j k + (ps.getD (k + 1) 0 - ps.getD k 0) * prL (slL l (ps.getD k 0) (ps.getD (k + 1) 0)) c hs j
noncomputable def tbH (l : List (Int × Int)) (c : Int) (ps hs : List Int) (j : Nat) : Nat → Int
  | 0 => 0
  | k + 1 => tbH l c ps hs j k + (ps.getD (k + 1) 0 - ps.getD k 0) * prH (slH l (ps.getD k 0) (ps.getD (k + 1) 0)) c hs j
/-- one strip of all slices -/
noncomputable def xsL (l : List (Int × Int)) (c : Int) (ps : List Int) (a b : Int) : Nat → Int
  | 0 => 0
  | k + 1 => xsL l c ps a b k + (ps.getD (k + 1) 0 - ps.getD k 0) * ofL (slL l (ps.getD k 0) (ps.getD (k + 1) 0)) c a b
noncomputable def xsH (l : List (Int × Int)) (c : Int) (ps : List Int) (a b : Int) : Nat → Int
  | 0 => 0
  | k + 1 => xsH l c ps a b k + (ps.getD (k + 1) 0 - ps.getD k 0) * ofH (slH l (ps.getD k 0) (ps.getD (k + 1) 0)) c a b
theorem tb_strip (l : List (Int × Int)) (c : Int) (ps hs : List Int) (j k : Nat) :
    tbL l c ps hs (j + 1) k = tbL l c ps hs j k + xsL l c ps (hs.getD j 0) (hs.getD (j + 1) 0) k ∧ tbH l c ps hs (j + 1) k = tbH l c ps hs j k + xsH l c ps (hs.getD j 0) (hs.getD (j + 1) 0) k := by
  induction k with
  | zero => simp [tbL, tbH, xsL, xsH]
  | succ k ih =>
    obtain ⟨i1, i2⟩ := ih
    refine ⟨?_, ?_⟩
    · show tbL l c ps hs (j + 1) k + _ * (prL _ c hs j + _) = tbL l c ps hs j k + _ + (xsL l c ps _ _ k + _)
      rw [i1, Int.mul_add]; omega
    · show tbH l c ps hs (j + 1) k + _ * (prH _ c hs j + _) = tbH l c ps hs j k + _ + (xsH l c ps _ _ k + _)
      rw [i2, Int.mul_add]; omega
theorem tb_zero (l : List (Int × Int)) (c : Int) (ps hs : List Int) (k : Nat) : tbL l c ps hs 0 k = 0 ∧ tbH l c ps hs 0 k = 0 := by
  induction k with
  | zero => simp [tbL, tbH]
  | succ k ih => simp [tbL, tbH, prL, prH, ih.1, ih.2]
/-- the bung's radius -/
def bgR (l : List (Int × Int)) : Int := gR l (bg l l.length)
theorem PlR.slice {l : List (Int × Int)} {ps : List Int} (hR : RP l) (h : PlR l ps) {k : Nat} (hk : k + 1 < ps.length) :
    (0 < ps.getD (k + 1) 0 - ps.getD k 0 ∧ ps.getD (k + 1) 0 - ps.getD k 0 ≤ 100000) ∧ 1 ≤ slL l (ps.getD k 0) (ps.getD (k + 1) 0) ∧ slL l (ps.getD k 0) (ps.getD (k + 1) 0) ≤ slH l (ps.getD k 0) (ps.getD (k + 1) 0) ∧ slH l (ps.getD k 0) (ps.getD (k + 1) 0) ≤ bgR l ∧ bgR l ≤ 100000 := by
  have b0 := h.bd (show k < ps.length by omega)
  have b1 := h.bd hk
  have a := h.asc k hk
  have x := hR.bx (l.length - 1) (by have := hR.n0; omega)
  exact ⟨by omega, sl_bd hR (by omega) (by omega) (by omega)⟩
theorem pr_both {r s c : Int} {hs : List Int} (r0 : 0 ≤ r) (rs : r ≤ s) (s1 : s ≤ 100000) (h : HR hs) (j : Nat) (hj : j < hs.length) : 0 ≤ prL r c hs j ∧ prL r c hs j ≤ prH s c hs j ∧ prH s c hs j ≤ 40000000000 := by
  have a := pr_le (c := c) r0 (by omega) h j hj
  have b := pr_wider (c := c) r0 rs h j hj
  have d := pr_le (c := c) (r := s) (by omega) s1 h j hj
  omega
theorem tb_bd {l : List (Int × Int)} {ps hs : List Int} {c : Int} (hR : RP l) (hP : PlR l ps) (hH : HR hs) (j : Nat) (hj : j < hs.length) (k : Nat) (hk : k < ps.length) :
    0 ≤ tbL l c ps hs j k ∧ tbL l c ps hs j k ≤ tbH l c ps hs j k ∧ tbH l c ps hs j k ≤ ps.getD k 0 * 40000000000 := by
  induction k with
  | zero => rw [hP.z]; simp [tbL, tbH]
  | succ k ih =>
    obtain ⟨i0, i1, i2⟩ := ih (by omega)
    obtain ⟨⟨w0, w1⟩, s0, s1, s2, s3⟩ := hP.slice hR hk
    obtain ⟨p0, p1, p2⟩ := pr_both (c := c) (show 0 ≤ slL l (ps.getD k 0) (ps.getD (k + 1) 0) by omega) s1 (by omega) hH j hj
    show 0 ≤ tbL l c ps hs j k + _ * _ ∧ tbL l c ps hs j k + _ * _ ≤ tbH l c ps hs j k + _ * _ ∧ tbH l c ps hs j k + _ * _ ≤ _
    have m0 := Int.mul_nonneg (show 0 ≤ ps.getD (k + 1) 0 - ps.getD k 0 by omega) p0
    have m1 := Int.mul_le_mul_of_nonneg_left p1 (show 0 ≤ ps.getD (k + 1) 0 - ps.getD k 0 by omega)
    have m2 := Int.mul_le_mul_of_nonneg_left p2 (show 0 ≤ ps.getD (k + 1) 0 - ps.getD k 0 by omega)
    rw [Int.sub_mul (ps.getD (k + 1) 0) (ps.getD k 0) 40000000000] at m2
    omega
/-! ### refined heights -/
theorem tb_finer {l : List (Int × Int)} {ps hs m : List Int} {c : Int} (hR : RP l) (hP : PlR l ps) (hH : HR hs) (h1 : ∀ i, i < hs.length → m.getD (2 * i) 0 = hs.getD i 0) (h2 : ∀ i, i + 1 < hs.length → hs.getD i 0 ≤ m.getD (2 * i + 1) 0 ∧ m.getD (2 * i + 1) 0 ≤ hs.getD (i + 1) 0) (j : Nat) (hj : j < hs.length) (k : Nat) (hk : k < ps.length) :
    tbL l c ps hs j k ≤ tbL l c ps m (2 * j) k ∧ tbH l c ps m (2 * j) k ≤ tbH l c ps hs j k := by
  induction k with
  | zero => simp [tbL, tbH]
  | succ k ih =>
    obtain ⟨i0, i1⟩ := ih (by omega)
    obtain ⟨⟨w0, w1⟩, s0, s1, s2, s3⟩ := hP.slice hR hk
    have f1 := (pr_finer (c := c) (show 0 ≤ slL l (ps.getD k 0) (ps.getD (k + 1) 0) by omega) hH h1 h2 j hj).1
    have f2 := (pr_finer (c := c) (show 0 ≤ slH l (ps.getD k 0) (ps.getD (k + 1) 0) by omega) hH h1 h2 j hj).2
    show tbL l c ps hs j k + _ * _ ≤ tbL l c ps m (2 * j) k + _ * _ ∧ tbH l c ps m (2 * j) k + _ * _ ≤ tbH l c ps hs j k + _ * _
    have m1 := Int.mul_le_mul_of_nonneg_left f1 (show 0 ≤ ps.getD (k + 1) 0 - ps.getD k 0 by omega)
    have m2 := Int.mul_le_mul_of_nonneg_left f2 (show 0 ≤ ps.getD (k + 1) 0 - ps.getD k 0 by omega)
    omega
/-! ### one more place -/
theorem rd_mid {l : List (Int × Int)} (h : RP l) {k : Nat} (hk : k + 1 < l.length) {a x b : Int} (a0 : gX l k ≤ a) (ax : a ≤ x) (xb : x ≤ b) (b1 : b ≤ gX l (k + 1)) : slL l a b ≤ rdL l x ∧ rdH l x ≤ slH l a b := by
  obtain ⟨ra1, ra2⟩ := rd_piece h hk a0 (show a ≤ gX l (k + 1) by omega)
  obtain ⟨rx1, rx2⟩ := rd_piece h hk (x := x) (by omega) (by omega)
  obtain ⟨rb1, rb2⟩ := rd_piece h hk (x := b) (by omega) b1
  have d0 : 0 < gX l (k + 1) - gX l k := by have := h.asc k hk; omega
  unfold slL slH
  rw [ra1, ra2, rb1, rb2, rx1, rx2]
  unfold lnL lnH
  generalize hd : gX l (k + 1) - gX l k = d at *
  have key : ∀ {n m : Int}, n ≤ m → n / d ≤ m / d ∧ cdv n d ≤ cdv m d := fun {n m} hnm =>
    ⟨fl_mono d0 d0 (Int.mul_le_mul_of_nonneg_right hnm (by omega)), cl_mono d0 d0 (Int.mul_le_mul_of_nonneg_right hnm (by omega))⟩
  by_cases g : gR l k ≤ gR l (k + 1)
  · have u1 := key (lnN_up (a := gX l k) (b := gX l (k + 1)) g ax)
    have u2 := key (lnN_up (a := gX l k) (b := gX l (k + 1)) g xb)
    omega
  · have u1 := key (lnN_down (a := gX l k) (b := gX l (k + 1)) (show gR l (k + 1) ≤ gR l k by omega) ax)
    have u2 := key (lnN_down (a := gX l k) (b := gX l (k + 1)) (show gR l (k + 1) ≤ gR l k by omega) xb)
    omega
/-- the places with one more -/
def pins (ps : List Int) (i : Nat) (x : Int) : List Int := ps.take i ++ [x] ++ ps.drop i
theorem pins_len {ps : List Int} {i : Nat} (x : Int) (hi : i ≤ ps.length) : (pins ps i x).length = ps.length + 1 := by
  unfold pins; simp; omega
theorem pins_at {ps : List Int} {i : Nat} (x : Int) (hi : i ≤ ps.length) (j : Nat) : (pins ps i x).getD j 0 = if j < i then ps.getD j 0 else if j = i then x else ps.getD (j - 1) 0 := by
  unfold pins
  by_cases h1 : j < i
  · rw [if_pos h1, List.append_assoc, List.getD_eq_getElem?_getD, List.getElem?_append_left (by rw [List.length_take]; omega), List.getElem?_take_of_lt h1, ← List.getD_eq_getElem?_getD]
  · rw [if_neg h1, List.append_assoc, List.getD_eq_getElem?_getD, List.getElem?_append_right (by rw [List.length_take]; omega), List.length_take, show min i ps.length = i by omega]
    by_cases h2 : j = i
    · rw [if_pos h2, show j - i = 0 by omega]; rfl
    · rw [if_neg h2, List.getElem?_append_right (by simp; omega), List.getElem?_drop, show i + (j - i - [x].length) = j - 1 by simp; omega, ← List.getD_eq_getElem?_getD]
structure PinP (ps : List Int) (i : Nat) (x : Int) : Prop where
  i1 : 1 ≤ i
  i2 : i < ps.length
  lo : ps.getD (i - 1) 0 < x
  hi : x < ps.getD i 0
theorem pins_right {l : List (Int × Int)} {ps : List Int} {i : Nat} {x : Int} (hP : PlR l ps) (h : PinP ps i x) (n : ps.length ≤ 127) : PlR l (pins ps i x) := by
  obtain ⟨i1, i2, lo, hi⟩ := h
  have at' := pins_at x (show i ≤ ps.length by omega)
  have ln := pins_len x (show i ≤ ps.length by omega)
  refine ⟨by rw [ln]; omega, by rw [ln]; omega, ?_, ?_, ?_, ?_⟩
  · rw [at', if_pos (by omega), hP.z]
  · rw [ln, at', if_neg (by omega), if_neg (by omega), Nat.add_sub_cancel, hP.e]
  · intro j hj
    rw [ln] at hj
    rw [at', at']
    by_cases g1 : j + 1 < i
    · rw [if_pos (by omega), if_pos g1]; exact hP.asc j (by omega)
    · by_cases g2 : j + 1 = i
      · rw [if_pos (by omega), if_neg g1, if_pos g2, show j = i - 1 by omega]; exact lo
      · by_cases g3 : j = i
        · rw [if_neg (by omega), if_pos g3, if_neg (by omega), if_neg (by omega), Nat.add_sub_cancel, g3]; exact hi
        · rw [if_neg (by omega), if_neg g3, if_neg (by omega), if_neg (by omega), Nat.add_sub_cancel]
          have := hP.asc (j - 1) (by omega)
          rwa [Nat.sub_add_cancel (by omega)] at this
  · intro j hj
    obtain ⟨t, ht, et⟩ := hP.has j hj
    by_cases g : t < i
    · exact ⟨t, by rw [ln]; omega, by rw [at', if_pos g]; exact et⟩
    · exact ⟨t + 1, by rw [ln]; omega, by rw [at', if_neg (by omega), if_neg (by omega), Nat.add_sub_cancel]; exact et⟩
theorem tb_more {l : List (Int × Int)} {ps hs : List Int} {i : Nat} {x c : Int} (hR : RP l) (hP : PlR l ps) (h : PinP ps i x) (hH : HR hs) (j : Nat) (hj : j < hs.length) :
    (∀ k, k < i → tbL l c (pins ps i x) hs j k = tbL l c ps hs j k ∧ tbH l c (pins ps i x) hs j k = tbH l c ps hs j k) ∧
    (∀ k, i ≤ k → k < ps.length → tbL l c ps hs j k ≤ tbL l c (pins ps i x) hs j (k + 1) ∧ tbH l c (pins ps i x) hs j (k + 1) ≤ tbH l c ps hs j k) := by
  obtain ⟨i1, i2, lo, hi⟩ := h
  have at' := pins_at x (show i ≤ ps.length by omega)
  have below : ∀ k, k < i → tbL l c (pins ps i x) hs j k = tbL l c ps hs j k ∧ tbH l c (pins ps i x) hs j k = tbH l c ps hs j k := by
    intro k
    induction k with
    | zero => intro _; simp [tbL, tbH]
    | succ k ih =>
      intro hk
      obtain ⟨e1, e2⟩ := ih (by omega)
      unfold tbL tbH
      rw [at', at', if_pos hk, if_pos (by omega), e1, e2]
      exact ⟨rfl, rfl⟩
  refine ⟨below, fun k => ?_⟩
  induction k with
  | zero => intro h; omega
  | succ k ih =>
    intro hk hk2
    by_cases g : i = k + 1
    · subst g
      obtain ⟨e1, e2⟩ := below k (by omega)
      rw [Nat.add_sub_cancel] at lo
      obtain ⟨t, ht, t0, t1⟩ := hP.piece hR hk2
      have md := rd_mid hR ht t0 (show ps.getD k 0 ≤ x by omega) (show x ≤ ps.getD (k + 1) 0 by omega) t1
      obtain ⟨⟨w0, w1⟩, s0, s1, s2, s3⟩ := hP.slice hR hk2
      have a1 : slL l (ps.getD k 0) (ps.getD (k + 1) 0) ≤ slL l (ps.getD k 0) x ∧ slL l (ps.getD k 0) (ps.getD (k + 1) 0) ≤ slL l x (ps.getD (k + 1) 0) ∧ slH l (ps.getD k 0) x ≤ slH l (ps.getD k 0) (ps.getD (k + 1) 0) ∧ slH l x (ps.getD (k + 1) 0) ≤ slH l (ps.getD k 0) (ps.getD (k + 1) 0) := by
        unfold slL slH at *; omega
      have b0 := hP.bd (show k < ps.length by omega)
      have b1 := hP.bd hk2
      have c1 := sl_bd hR (a := ps.getD k 0) (b := x) b0.1 (by omega) (by omega)
      have c2 := sl_bd hR (a := x) (b := ps.getD (k + 1) 0) (by omega) (by omega) b1.2
      have q1 := (pr_wider (c := c) (show 0 ≤ slL l (ps.getD k 0) (ps.getD (k + 1) 0) by omega) a1.1 hH j hj).1
      have q2 := (pr_wider (c := c) (show 0 ≤ slL l (ps.getD k 0) (ps.getD (k + 1) 0) by omega) a1.2.1 hH j hj).1
      have q3 := (pr_wider (c := c) (show 0 ≤ slH l (ps.getD k 0) x by omega) a1.2.2.1 hH j hj).2
      have q4 := (pr_wider (c := c) (show 0 ≤ slH l x (ps.getD (k + 1) 0) by omega) a1.2.2.2 hH j hj).2
      have m1 := Int.mul_le_mul_of_nonneg_left q1 (show 0 ≤ x - ps.getD k 0 by omega)
      have m2 := Int.mul_le_mul_of_nonneg_left q2 (show 0 ≤ ps.getD (k + 1) 0 - x by omega)
      have m3 := Int.mul_le_mul_of_nonneg_left q3 (show 0 ≤ x - ps.getD k 0 by omega)
      have m4 := Int.mul_le_mul_of_nonneg_left q4 (show 0 ≤ ps.getD (k + 1) 0 - x by omega)
      have sp : ∀ q : Int, (ps.getD (k + 1) 0 - ps.getD k 0) * q = (x - ps.getD k 0) * q + (ps.getD (k + 1) 0 - x) * q := fun q => by rw [← Int.add_mul]; congr 1; omega
      have p0 : (pins ps (k + 1) x).getD k 0 = ps.getD k 0 := by rw [at', if_pos (by omega)]
      have p1 : (pins ps (k + 1) x).getD (k + 1) 0 = x := by rw [at', if_neg (by omega), if_pos rfl]
      have p2 : (pins ps (k + 1) x).getD (k + 1 + 1) 0 = ps.getD (k + 1) 0 := by rw [at', if_neg (by omega), if_neg (by omega), Nat.add_sub_cancel]
      show tbL l c ps hs j k + _ * _ ≤ tbL l c (pins ps (k + 1) x) hs j k + _ * prL (slL l ((pins ps (k + 1) x).getD k 0) ((pins ps (k + 1) x).getD (k + 1) 0)) c hs j + _ * prL (slL l ((pins ps (k + 1) x).getD (k + 1) 0) ((pins ps (k + 1) x).getD (k + 1 + 1) 0)) c hs j ∧ tbH l c (pins ps (k + 1) x) hs j k + _ * prH (slH l ((pins ps (k + 1) x).getD k 0) ((pins ps (k + 1) x).getD (k + 1) 0)) c hs j + _ * prH (slH l ((pins ps (k + 1) x).getD (k + 1) 0) ((pins ps (k + 1) x).getD (k + 1 + 1) 0)) c hs j ≤ tbH l c ps hs j k + _ * _
      rw [e1, e2, p0, p1, p2, sp, sp]
      omega
    · obtain ⟨e1, e2⟩ := ih (by omega) (by omega)
      have p1 : (pins ps i x).getD (k + 1) 0 = ps.getD k 0 := by rw [at', if_neg (by omega), if_neg (by omega), Nat.add_sub_cancel]
      have p2 : (pins ps i x).getD (k + 1 + 1) 0 = ps.getD (k + 1) 0 := by rw [at', if_neg (by omega), if_neg (by omega), Nat.add_sub_cancel]
      show tbL l c ps hs j k + _ * _ ≤ tbL l c (pins ps i x) hs j (k + 1) + _ * prL (slL l ((pins ps i x).getD (k + 1) 0) ((pins ps i x).getD (k + 1 + 1) 0)) c hs j ∧ tbH l c (pins ps i x) hs j (k + 1) + _ * prH (slH l ((pins ps i x).getD (k + 1) 0) ((pins ps i x).getD (k + 1 + 1) 0)) c hs j ≤ tbH l c ps hs j k + _ * _
      rw [p1, p2]
      omega
end Go.Proofs.Ytgjdopjolokaiaa
