/- Texts that the proofs of this seat share, one behind the other: Kit, Two, QL0, QA, CB0, QT0, QT1, ND0, IA, IB, IC, ND2, IR, QO0, IT1, RGg, IT2, IT3, QL, NI, NI2, Nums. -/
import Derived.Test.YtadkhhkoankhnaaProg
import Derived.Test.YtadkhhkoankhnaaRows
import Derived.Test.YtadkhhkoankhnaaShelf
import Derived.WalkKit
import Derived.Handy
import Derived.Lib.Hide
import Derived.Lib.LaidTab
import Derived.Lib.LaidU8
import Derived.Lib.ItoaNum
import Derived.Outline
import Derived.Deep.DeepCutAuto
import Derived.Deep.CutBlock
import Derived.Deep.QuietTactic
import Derived.BigQuiet
import Derived.Lib.OwnBridge
import Derived.OwnWalk
import Derived.Shelf.SlicesQ.Reverse
import Derived.Ground.SlgnProg
import Derived.FnLit
import Derived.RangeFuncBox
import Derived.StillTailTactics
import Derived.StillTail
import Derived.Deep.RegionHeld3
import Derived.ProofKit
import Derived.OpenShut
import Derived.ShutString
import Derived.ChangeOld
import Derived.Lib.SmallJoins
import Derived.MakeChecks
import Derived.Deep.Slices
import Derived.Deep.Fields
import Derived.ChangeSame
import Derived.Deep.SlicePairs
import Derived.Maps.AppendAt
import Derived.ArgAppend
import Derived.Laws.IdiomCopy
import Derived.Shelf.Spec.SlicesInsertGrow

set_option linter.unusedVariables false
set_option linter.unusedSimpArgs false

/- What every text of this seat needs: worlds that only grow, the listed variables. -/
namespace Go.Proofs.Ytadkhhkoankhnaa
open Go.RowKit

theorem bel_alloc {w w' : World} {o : Obj} (h : Below (w.alloc o).heap.size (w.alloc o) w') : Below w.heap.size w w' :=
  ((Below.refl _ _).alloc (Nat.le_refl _) o).trans (h.mono (by simp))
theorem bel_trans {w w1 w2 : World} (h : Below w.heap.size w w1) (h2 : Below w1.heap.size w1 w2) : Below w.heap.size w w2 := h.trans (h2.mono h.size)
theorem bel_drewN (w : World) (n : Nat) : Below w.heap.size w (w.drewN n) := ⟨rfl, rfl, rfl, Nat.le_refl _, fun _ _ => rfl⟩
theorem bel_drew (w : World) : Below w.heap.size w w.drew := ⟨rfl, rfl, rfl, Nat.le_refl _, fun _ _ => rfl⟩
theorem bcell {W w1 : World} (hb : Below W.heap.size W w1) : (∀ b o, b < W.heap.size → w1.cell? ⟨b, o, none⟩ = W.cell? ⟨b, o, none⟩) ∧ (∀ b o, b < W.heap.size → w1.frozen? ⟨b, o, none⟩ = W.frozen? ⟨b, o, none⟩) :=
  ⟨fun b o h => hb.cell (p := ⟨b, o, none⟩) h, fun b o h => hb.frozen (p := ⟨b, o, none⟩) h⟩

theorem var_keep {P : Program} {w w' : World} {n : String} (g : Nat) (hg : P.globalNamed n = some g) (hlt : g < w.heap.size) (hb : Below w.heap.size w w') : w'.var? P n = w.var? P n := by
  simp only [World.var?, hg, Option.bind_some]
  rw [hb.block g hlt]
theorem tab_keep {P : Program} {w w' : World} {n : String} {k : IntKind} {zs : List Int} (g : Nat) (hg : P.globalNamed n = some g) (hz : 0 < zs.length) (h : Lib.TabIs P w n k zs) (hb : Below w.heap.size w w') : Lib.TabIs P w' n k zs := by
  unfold Lib.TabIs at *
  rw [var_keep g hg ?_ hb, h]
  have := Lib.TabIs.cell (P := P) (W := w) h hg 0 hz
  exact World.block_lt_of_cell? w ⟨g, 0, none⟩ this

/-- a listed table of integers -/
theorem tab_of {P : Program} {W : World} {l : List (String × DataW Unit)} {name : String} {d : DataW Unit} {k : IntKind} {zs : List Int} {g : Nat} {t e : TypeId} {n : Nat}
    (h : laidMet P l W) (hm : (name, d) ∈ l) (hd : d = Lib.tabData k zs)
    (hg : P.globalNamed name = some g) (hty : (P.globals[g]?).map (·.type) = some t) (ht : P.underlying t = some (.array n e)) (he : P.underlying e = some (.int k)) (hce : P.cellsOf e = 1) (hct : P.cellsOf t = n) : Lib.TabIs P W name k zs := by
  subst hd
  obtain ⟨g', t', cs, fuel, p, hg', ht', hvar, hr⟩ := Lib.laidMet.reads h hm
  obtain rfl := Option.some.inj (hg.symm.trans hg')
  obtain rfl := Option.some.inj (hty.symm.trans ht')
  unfold Lib.TabIs
  rw [hvar, ← Lib.cells_of_tab ht he hce hct hr]

theorem wrap_wrap_add (a b : Int) : IntKind.i64.wrap (IntKind.i64.wrap a + b) = IntKind.i64.wrap (a + b) := by simp only [IntKind.wrap_i64]; omega
theorem wrap_wrap_sub (a b : Int) : IntKind.i64.wrap (IntKind.i64.wrap a - b) = IntKind.i64.wrap (a - b) := by simp only [IntKind.wrap_i64]; omega
theorem wrap_add_wrap (a b : Int) : IntKind.i64.wrap (a + IntKind.i64.wrap b) = IntKind.i64.wrap (a + b) := by simp only [IntKind.wrap_i64]; omega
theorem wrap_sub_wrap (a b : Int) : IntKind.i64.wrap (a - IntKind.i64.wrap b) = IntKind.i64.wrap (a - b) := by simp only [IntKind.wrap_i64]; omega
theorem wrap_bd (a : Int) : -9223372036854775808 ≤ IntKind.i64.wrap a ∧ IntKind.i64.wrap a ≤ 9223372036854775807 := by simp only [IntKind.wrap_i64]; omega
theorem wrap_in (a : Int) (h : -9223372036854775808 ≤ a ∧ a ≤ 9223372036854775807) : IntKind.i64.wrap a = a := by simp only [IntKind.wrap_i64]; omega

theorem ret_int {k : IntKind} {a b : Int} (h : a = b) : Ending.returned (.int k a) = .returned (.int k b) := by rw [h]
theorem ret_bool {a b : Bool} (h : a = b) : Ending.returned (.bool a) = .returned (.bool b) := by rw [h]
end Go.Proofs.Ytadkhhkoankhnaa

/- A block with two cells. -/
namespace Go.Proofs.Ytadkhhkoankhnaa
open Go.RowKit

def Two (b : Nat) (W : World) (x y : Value) : Prop := W.cell? ⟨b, 0, none⟩ = some x ∧ W.cell? ⟨b, 1, none⟩ = some y ∧ W.frozen? ⟨b, 0, none⟩ = false ∧ W.frozen? ⟨b, 1, none⟩ = false ∧ b < W.heap.size
theorem Two.below {b : Nat} {W W' : World} {x y : Value} (h : Two b W x y) (hb : Below W.heap.size W W') : Two b W' x y := by
  obtain ⟨h0, h1, h2, h3, h4⟩ := h
  exact ⟨by rw [(bcell hb).1 _ _ h4]; exact h0, by rw [(bcell hb).1 _ _ h4]; exact h1, by rw [(bcell hb).2 _ _ h4]; exact h2, by rw [(bcell hb).2 _ _ h4]; exact h3, Nat.lt_of_lt_of_le h4 hb.size⟩
theorem Two.alloc {b : Nat} {W : World} {x y : Value} (h : Two b W x y) (o : Obj) : Two b (W.alloc o) x y := h.below (bel_alloc (Below.refl _ _))
theorem Two.new (W : World) (x y : Value) (T : TypeId) : Two W.heap.size (W.alloc (.cells #[x, y] T)) x y := ⟨by simp [go_sem], by simp [go_sem], by simp [go_sem], by simp [go_sem], by simp⟩
theorem two_read (w : World) (b : Nat) (u v : Value) {a c : Value} (h0 : w.cell? ⟨b, 0, none⟩ = some a) (h1 : w.cell? ⟨b, 1, none⟩ = some c) :
    ((w.setCell ⟨b, 0, none⟩ u).setCell ⟨b, 1, none⟩ v).cell? ⟨b, 0, none⟩ = some u ∧ ((w.setCell ⟨b, 0, none⟩ u).setCell ⟨b, 1, none⟩ v).cell? ⟨b, 1, none⟩ = some v := by
  refine ⟨?_, ?_⟩
  · rw [World.cell?_setCell_other _ _ _ _ (by simp), World.cell?_setCell_same _ _ _ h0]
  · rw [World.cell?_setCell_same (u := c)]
    rw [World.cell?_setCell_other _ _ _ _ (by simp), h1]
theorem Two.set1 {b : Nat} {W : World} {x y : Value} (h : Two b W x y) (z : Value) : Two b (W.setCell ⟨b, 1, none⟩ z) x z := by
  obtain ⟨h0, h1, h2, h3, h4⟩ := h
  refine ⟨?_, ?_, ?_, ?_, ?_⟩
  · rw [World.cell?_setCell_other _ _ _ _ (by simp)]; exact h0
  · exact World.cell?_setCell_same _ _ _ h1
  · rw [World.frozen?_setCell]; exact h2
  · rw [World.frozen?_setCell]; exact h3
  · simpa [World.setCell] using h4
theorem Two.other {b : Nat} {W : World} {x y : Value} (h : Two b W x y) (p : Addr) (hp : p.block ≠ b) (z : Value) : Two b (W.setCell p z) x y := by
  obtain ⟨h0, h1, h2, h3, h4⟩ := h
  refine ⟨?_, ?_, ?_, ?_, ?_⟩
  · rw [World.cell?_setCell_other _ _ _ _ (by intro e; apply hp; rw [e])]; exact h0
  · rw [World.cell?_setCell_other _ _ _ _ (by intro e; apply hp; rw [e])]; exact h1
  · rw [World.frozen?_setCell]; exact h2
  · rw [World.frozen?_setCell]; exact h3
  · simpa [World.setCell] using h4
theorem Two.set0 {b : Nat} {W : World} {x y : Value} (h : Two b W x y) (z : Value) : Two b (W.setCell ⟨b, 0, none⟩ z) z y := by
  obtain ⟨h0, h1, h2, h3, h4⟩ := h
  refine ⟨?_, ?_, ?_, ?_, ?_⟩
  · exact World.cell?_setCell_same _ _ _ h0
  · rw [World.cell?_setCell_other _ _ _ _ (by simp)]; exact h1
  · rw [World.frozen?_setCell]; exact h2
  · rw [World.frozen?_setCell]; exact h3
  · simpa [World.setCell] using h4
end Go.Proofs.Ytadkhhkoankhnaa

/- Slices that read as lists of rows; comparisons. -/
namespace Go.Proofs.Ytadkhhkoankhnaa
open Go.RowKit Go.Sort

/-- the point at a place of a list -/
def gX (l : List (Int × Int)) (j : Nat) : Int := (l.getD j (0, 0)).1
def gR (l : List (Int × Int)) (j : Nat) : Int := (l.getD j (0, 0)).2

/-- a value is a slice that reads as a list of points -/
def Pts (w : World) (v : Value) (l : List (Int × Int)) : Prop :=
  ∃ a cap, v = .slice a l.length cap ∧ (l.length ≤ cap ∧ cap ≤ 9223372036854775807) ∧
    (l.length = 0 ∨ ∃ b off, a = some ⟨b, off, none⟩ ∧ b < w.heap.size ∧ ∀ j, j < l.length → w.cell? ⟨b, off + j * 2, none⟩ = some (.int .i64 (gX l j)) ∧ w.cell? ⟨b, off + j * 2 + 1, none⟩ = some (.int .i64 (gR l j)))
theorem Pts.below {w w' : World} {v : Value} {l : List (Int × Int)} (h : Pts w v l) (hb : Below w.heap.size w w') : Pts w' v l := by
  obtain ⟨a, cap, rfl, hl, h | ⟨b, off, rfl, hlt, hc⟩⟩ := h
  · exact ⟨a, cap, rfl, hl, .inl h⟩
  · exact ⟨_, cap, rfl, hl, .inr ⟨b, off, rfl, Nat.lt_of_lt_of_le hlt hb.size, fun j hj => by rw [(bcell hb).1 _ _ hlt, (bcell hb).1 _ _ hlt]; exact hc j hj⟩⟩
theorem Pts.alloc {w : World} {v : Value} {l : List (Int × Int)} (h : Pts w v l) (o : Obj) : Pts (w.alloc o) v l := h.below (bel_alloc (Below.refl _ _))
theorem Pts.shape {W : World} {v : Value} {l : List (Int × Int)} (h : Pts W v l) : ∃ a cap, v = .slice a l.length cap ∧ l.length ≤ cap ∧ cap ≤ 9223372036854775807 := by
  obtain ⟨a, cap, e, ⟨h1, h2⟩, _⟩ := h
  exact ⟨a, cap, e, h1, h2⟩
theorem Pts.len {W : World} {a : Option Addr} {n cap : Nat} {l : List (Int × Int)} (h : Pts W (.slice a n cap) l) : n = l.length := by
  obtain ⟨a', c', e, _⟩ := h
  simp only [Value.slice.injEq] at e
  exact e.2.1
theorem Pts.at {W : World} {a : Option Addr} {n cap : Nat} {l : List (Int × Int)} (h : Pts W (.slice a n cap) l) (h0 : 0 < n) :
    ∃ b off, a = some ⟨b, off, none⟩ ∧ b < W.heap.size ∧ ∀ j, j < n → W.cell? ⟨b, off + j * 2, none⟩ = some (.int .i64 (gX l j)) ∧ W.cell? ⟨b, off + j * 2 + 1, none⟩ = some (.int .i64 (gR l j)) := by
  have hl := h.len
  obtain ⟨a', c', e, _, hh⟩ := h
  simp only [Value.slice.injEq] at e
  obtain ⟨rfl, rfl, rfl⟩ := e
  rcases hh with hh | hh
  · omega
  · exact hh
theorem pts_nil (w : World) : Pts w (.slice none 0 0) [] := ⟨none, 0, rfl, by simp, .inl rfl⟩

/-- the cells of a list of points -/
def flat : List (Int × Int) → List Value
  | [] => []
  | q :: l => .int .i64 q.1 :: .int .i64 q.2 :: flat l
theorem flat_len (l : List (Int × Int)) : (flat l).length = l.length * 2 := by
  induction l with
  | nil => rfl
  | cons q l ih => simp only [flat, List.length_cons, ih]; omega
theorem flat_app (l m : List (Int × Int)) : flat (l ++ m) = flat l ++ flat m := by
  induction l with
  | nil => rfl
  | cons q l ih => simp only [List.cons_append, flat, ih]
theorem flat_at (l : List (Int × Int)) (j : Nat) (h : j < l.length) : (flat l)[j * 2]? = some (.int .i64 (gX l j)) ∧ (flat l)[j * 2 + 1]? = some (.int .i64 (gR l j)) := by
  induction l generalizing j with
  | nil => simp at h
  | cons q l ih =>
    cases j with
    | zero => simp [flat, gX, gR]
    | succ j =>
      have := ih j (by simpa using h)
      rw [show (j + 1) * 2 = j * 2 + 1 + 1 by omega]
      simp only [flat, List.getElem?_cons_succ, gX, gR, List.getD_cons_succ]
      exact this
theorem flat_one (l : List (Int × Int)) : ∀ u ∈ flat l, u.oneCell' = true := by
  induction l with
  | nil => intro u h; cases h
  | cons q l ih =>
    intro u h
    simp only [flat, List.mem_cons] at h
    rcases h with rfl | rfl | h
    · rfl
    · rfl
    · exact ih u h
theorem flat_inv (l : List (Int × Int)) (j : Nat) (u : Value) (h : (flat l)[j]? = some u) : ∃ i, i < l.length ∧ ((j = i * 2 ∧ u = .int .i64 (gX l i)) ∨ (j = i * 2 + 1 ∧ u = .int .i64 (gR l i))) := by
  have hj : j < (flat l).length := (List.getElem?_eq_some_iff.1 h).1
  rw [flat_len] at hj
  refine ⟨j / 2, by omega, ?_⟩
  have := flat_at l (j / 2) (by omega)
  rcases Nat.mod_two_eq_zero_or_one j with e | e
  · left
    have hj2 : j = j / 2 * 2 := by omega
    refine ⟨hj2, ?_⟩
    have h' := h
    rw [hj2, this.1] at h'
    exact (Option.some.inj h').symm
  · right
    have hj2 : j = j / 2 * 2 + 1 := by omega
    refine ⟨hj2, ?_⟩
    have h' := h
    rw [hj2, this.2] at h'
    exact (Option.some.inj h').symm

/-- a slice of the call's own holds the points -/
def OwnP (w : World) (B : Nat) (v : Value) (l : List (Int × Int)) : Prop := w.ownsRow B 42 2 v l.length (flat l)
theorem OwnP.pts {w : World} {B : Nat} {v : Value} {l : List (Int × Int)} (h : OwnP w B v l) : Pts w v l := by
  have h' := h
  obtain ⟨_, h2⟩ := h
  rcases h2 with ⟨rfl, hn⟩ | ⟨g, cap, cur, rfl, hg, hh, hc, hm, hs, ht⟩
  · exact ⟨none, 0, by rw [hn], by omega, .inl hn⟩
  · have hlt : g < w.heap.size := by
      rcases Nat.lt_or_ge g w.heap.size with h | h
      · exact h
      · rw [Array.getElem?_eq_none h] at hh; cases hh
    unfold maxLen at hm
    refine ⟨_, cap, rfl, ⟨hc, by omega⟩, .inr ⟨g, 0, rfl, hlt, fun j hj => ?_⟩⟩
    have hcell := World.ownsRow.cells h' (g := g) rfl
    have hf := flat_at l j hj
    have c0 := hcell _ _ hf.1
    have c1 := hcell _ _ hf.2
    rw [Go.WideShapes.add_plain] at c0 c1
    exact ⟨c0, by rw [Nat.add_assoc]; exact c1⟩
theorem pts_lit (w : World) (l : List (Int × Int)) (cs : List Value) (h : cs = flat l) (hn : l.length ≤ 1000) :
    Pts (w.alloc (.cells cs.toArray 42)) (.slice (some ⟨w.heap.size, 0, none⟩) l.length l.length) l := by
  refine ⟨_, _, rfl, by omega, .inr ⟨w.heap.size, 0, rfl, by simp, fun j hj => ?_⟩⟩
  subst h
  have hf := flat_at l j hj
  have hl := flat_len l
  rw [World.cell?_alloc_new, World.cell?_alloc_new]
  simp only [Nat.zero_add]
  exact ⟨by simpa using hf.1, by simpa using hf.2⟩

theorem pt_info : (Try.prog.info? 42).map (fun i => (i.zero, i.size, i.bytes)) = some (some (.agg #[.int .i64 0, .int .i64 0]), 2, 16) := by kernel_rfl

/-! ### points, compared -/
def samP (a b x y : Int) : Bool := a == x && b == y
theorem run_same_point (a b x y : Int) (w : World) :
    (Op.equalIn 10000 42 (.agg #[.int .i64 a, .int .i64 b]) (.agg #[.int .i64 x, .int .i64 y])).run Try.prog w = .ok (samP a b x y) w := by
  rw [show (10000 : Nat) = 9999 + 1 from rfl, run_equalIn_agg w 9999 42 _ _ (by kernel_rfl) (by kernel_rfl)]
  have hf : (Try.prog.fieldsOf 42).toList.map (fun f => (f.name, f.type, f.offset)) = [("Strength", 3, 0), ("Density", 3, 1)] := by kernel_rfl
  generalize (Try.prog.fieldsOf 42).toList = fs at *
  obtain ⟨f, g, rfl⟩ : ∃ f g, fs = [f, g] := by
    have hl := congrArg List.length hf
    rw [List.length_map] at hl
    rcases fs with _ | ⟨f, _ | ⟨g, _ | ⟨h, fs⟩⟩⟩ <;> simp at hl
    exact ⟨f, g, rfl⟩
  simp only [List.map_cons, List.map_nil, List.cons.injEq, Prod.mk.injEq, and_true] at hf
  obtain ⟨⟨f1, f2, f3⟩, g1, g2, g3⟩ := hf
  have eq : ∀ (u v : Int) (W : World), (Op.equalIn 9999 3 (.int .i64 u) (.int .i64 v)).run Try.prog W = .ok (u == v) W := fun u v W => run_equalIn_int W 9998 3 .i64 .i64 u v Try.underlying3
  by_cases e1 : a = x <;> by_cases e2 : b = y <;> simp [Op.eqFields, f1, f2, f3, g1, g2, g3, go_sem, samP, eq, e1, e2]
theorem run_neq_point (a b x y : Int) (w : World) :
    (binOp .neq 42 (.agg #[.int .i64 a, .int .i64 b]) (.agg #[.int .i64 x, .int .i64 y])).run Try.prog w = .ok (.bool (!samP a b x y)) w := by
  rw [run_neq_struct, run_same_point]; rfl
theorem run_eql_point (a b x y : Int) (w : World) :
    (binOp .eql 42 (.agg #[.int .i64 a, .int .i64 b]) (.agg #[.int .i64 x, .int .i64 y])).run Try.prog w = .ok (.bool (samP a b x y)) w := by
  rw [run_eql_struct, run_same_point]; rfl
/-! ### bounds, compared -/
def samB (a b x y : Int) : Bool := a == x && b == y
theorem run_same_bounds (a b x y : Int) (w : World) :
    (Op.equalIn 10000 29 (.agg #[.int .i64 a, .int .i64 b]) (.agg #[.int .i64 x, .int .i64 y])).run Try.prog w = .ok (samB a b x y) w := by
  rw [show (10000 : Nat) = 9999 + 1 from rfl, run_equalIn_agg w 9999 29 _ _ (by kernel_rfl) (by kernel_rfl)]
  have hf : (Try.prog.fieldsOf 29).toList.map (fun f => (f.name, f.type, f.offset)) = [("Low", 3, 0), ("High", 3, 1)] := by kernel_rfl
  generalize (Try.prog.fieldsOf 29).toList = fs at *
  obtain ⟨f, g, rfl⟩ : ∃ f g, fs = [f, g] := by
    have hl := congrArg List.length hf
    rw [List.length_map] at hl
    rcases fs with _ | ⟨f, _ | ⟨g, _ | ⟨h, fs⟩⟩⟩ <;> simp at hl
    exact ⟨f, g, rfl⟩
  simp only [List.map_cons, List.map_nil, List.cons.injEq, Prod.mk.injEq, and_true] at hf
  obtain ⟨⟨f1, f2, f3⟩, g1, g2, g3⟩ := hf
  have eq : ∀ (u v : Int) (W : World), (Op.equalIn 9999 3 (.int .i64 u) (.int .i64 v)).run Try.prog W = .ok (u == v) W := fun u v W => run_equalIn_int W 9998 3 .i64 .i64 u v Try.underlying3
  by_cases e1 : a = x <;> by_cases e2 : b = y <;> simp [Op.eqFields, f1, f2, f3, g1, g2, g3, go_sem, samB, eq, e1, e2]
theorem run_neq_bounds (a b x y : Int) (w : World) :
    (binOp .neq 29 (.agg #[.int .i64 a, .int .i64 b]) (.agg #[.int .i64 x, .int .i64 y])).run Try.prog w = .ok (.bool (!samB a b x y)) w := by
  rw [run_neq_struct, run_same_bounds]; rfl
theorem run_eql_bounds (a b x y : Int) (w : World) :
    (binOp .eql 29 (.agg #[.int .i64 a, .int .i64 b]) (.agg #[.int .i64 x, .int .i64 y])).run Try.prog w = .ok (.bool (samB a b x y)) w := by
  rw [run_eql_struct, run_same_bounds]; rfl
end Go.Proofs.Ytadkhhkoankhnaa

/- Plain facts of layers 16 and 17: right rows, first faults. No program stands in this text. -/
namespace Go.Proofs.Ytadkhhkoankhnaa

/-- the first place below n at which p holds; n if there is none -/
def fst (p : Nat → Bool) : Nat → Nat
  | 0 => 0
  | n + 1 => if fst p n < n then fst p n else if p n then n else n + 1
theorem fst_le (p : Nat → Bool) (n : Nat) : fst p n ≤ n := by
  induction n with
  | zero => exact Nat.le_refl _
  | succ n ih => unfold fst; split <;> (try split) <;> omega
theorem fst_spec (p : Nat → Bool) (n : Nat) : (∀ j, j < fst p n → p j = false) ∧ (fst p n < n → p (fst p n) = true) := by
  induction n with
  | zero => exact ⟨fun j hj => by simp [fst] at hj, fun h => by omega⟩
  | succ n ih =>
    obtain ⟨i1, i2⟩ := ih
    have le := fst_le p n
    unfold fst
    by_cases h : fst p n < n
    · rw [if_pos h]; exact ⟨i1, fun _ => i2 h⟩
    · rw [if_neg h]
      have e : fst p n = n := by omega
      rw [e] at i1
      cases hp : p n with
      | true => simp only [if_true]; exact ⟨i1, fun _ => hp⟩
      | false =>
        simp only [Bool.false_eq_true, if_false]
        refine ⟨fun j hj => ?_, fun h => by omega⟩
        by_cases g : j = n
        · rw [g]; exact hp
        · exact i1 j (by omega)
theorem fst_is {p : Nat → Bool} {n k : Nat} (hk : k ≤ n) (h1 : ∀ j, j < k → p j = false) (h2 : k < n → p k = true) : fst p n = k := by
  obtain ⟨s1, s2⟩ := fst_spec p n
  have le := fst_le p n
  rcases Nat.lt_trichotomy (fst p n) k with h | h | h
  · have := h1 _ h; have := s2 (by omega); simp_all
  · exact h
  · have := s1 _ h; have := h2 (by omega); simp_all
theorem fst_iff {p : Nat → Bool} {n : Nat} (hm : ∀ a b, a ≤ b → b < n → p a = true → p b = true) {i : Nat} (hi : i < n) : p i = true ↔ fst p n ≤ i := by
  obtain ⟨s1, s2⟩ := fst_spec p n
  constructor
  · intro h
    rcases Nat.lt_or_ge i (fst p n) with g | g
    · rw [s1 i g] at h; cases h
    · exact g
  · intro h
    exact hm _ i h hi (s2 (by omega))


theorem bel_drew2 (w : World) (a b : Nat) : Go.RowKit.Below w.heap.size w ((w.drewN a).drewN b) := ⟨rfl, rfl, rfl, Nat.le_refl _, fun _ _ => rfl⟩
def outB (x r : Int) : Bool := decide (x < 0) || decide (10000 < x) || decide (r < 50000) || decide (120000 < r)
theorem outB_false {x r : Int} : outB x r = false ↔ (0 ≤ x ∧ x ≤ 10000 ∧ 50000 ≤ r ∧ r ≤ 120000) := by
  simp only [outB, Bool.or_eq_false_iff, decide_eq_false_iff_not]; omega
/-- the fault of a measured row -/
def auF (l : List (Int × Int)) (k : Nat) : Int := if outB (gX l k) (gR l k) = true then 2 else if k ≠ 0 ∧ gX l k < gX l (k - 1) then 5 else 0
def auK (l : List (Int × Int)) : Nat := fst (fun k => auF l k != 0) l.length
def auE (l : List (Int × Int)) : Int := if 128 < l.length then 8 else if l.length = 0 then 9 else if auK l < l.length then auF l (auK l) else 0
def auI (l : List (Int × Int)) : Int := if 128 < l.length then -1 else if l.length = 0 then -1 else if auK l < l.length then (auK l : Int) else -1
structure AR (l : List (Int × Int)) : Prop where
  n0 : 1 ≤ l.length
  n1 : l.length ≤ 128
  b : ∀ i, i < l.length → 0 ≤ gX l i ∧ gX l i ≤ 10000 ∧ 50000 ≤ gR l i ∧ gR l i ≤ 120000
  asc : ∀ i, i + 1 < l.length → gX l i ≤ gX l (i + 1)
theorem auF_zero {l : List (Int × Int)} {k : Nat} : auF l k = 0 ↔ ((0 ≤ gX l k ∧ gX l k ≤ 10000 ∧ 50000 ≤ gR l k ∧ gR l k ≤ 120000) ∧ (k ≠ 0 → gX l (k - 1) ≤ gX l k)) := by
  unfold auF
  cases h : outB (gX l k) (gR l k) with
  | true => 
    simp only [if_true]
    constructor
    · intro h; cases h
    · rintro ⟨h1, _⟩
      rw [outB_false.2 h1] at h; cases h
  | false =>
    have := outB_false.1 h
    simp only [Bool.false_eq_true, if_false]
    by_cases g : k ≠ 0 ∧ gX l k < gX l (k - 1)
    · rw [if_pos g]
      constructor
      · intro h; cases h
      · rintro ⟨_, h2⟩
        have := h2 g.1; omega
    · rw [if_neg g]
      refine ⟨fun _ => ⟨this, fun hk => ?_⟩, fun _ => rfl⟩
      rcases Int.lt_or_le (gX l k) (gX l (k - 1)) with h' | h'
      · exact absurd ⟨hk, h'⟩ g
      · exact h'
theorem auE_zero {l : List (Int × Int)} : auE l = 0 ↔ AR l := by
  obtain ⟨s1, s2⟩ := fst_spec (fun k => auF l k != 0) l.length
  have le := fst_le (fun k => auF l k != 0) l.length
  unfold auE
  by_cases h0 : 128 < l.length
  · rw [if_pos h0]
    exact ⟨fun h => (by cases h), fun h => by have := h.n1; omega⟩
  · rw [if_neg h0]
    by_cases h1 : l.length = 0
    · rw [if_pos h1]
      exact ⟨fun h => (by cases h), fun h => by have := h.n0; omega⟩
    · rw [if_neg h1]
      by_cases h2 : auK l < l.length
      · rw [if_pos h2]
        have h3 := s2 h2
        constructor
        · intro h
          have : auF l (fst (fun k => auF l k != 0) l.length) = 0 := h
          rw [this] at h3
          cases h3
        · intro h
          refine auF_zero.2 ⟨h.b _ h2, fun hk => ?_⟩
          have := h.asc (auK l - 1) (by omega)
          rwa [show auK l - 1 + 1 = auK l by omega] at this
      · rw [if_neg h2]
        have e : fst (fun k => auF l k != 0) l.length = l.length := by unfold auK at h2; omega
        rw [e] at s1
        have z : ∀ j, j < l.length → auF l j = 0 := fun j hj => by simpa using s1 j hj
        refine ⟨fun _ => ⟨by omega, by omega, fun i hi => (auF_zero.1 (z i hi)).1, fun i hi => ?_⟩, fun _ => rfl⟩
        have := (auF_zero.1 (z (i + 1) hi)).2 (by omega)
        simpa using this
theorem auE_at {l : List (Int × Int)} {k : Nat} (h0 : l.length ≤ 128) (hk : k < l.length) (h1 : ∀ j, j < k → auF l j = 0) (h2 : auF l k ≠ 0) : auE l = auF l k ∧ auI l = k := by
  have e : auK l = k := fst_is (by omega) (fun j hj => by simpa using h1 j hj) (fun _ => by simpa using h2)
  unfold auE auI
  simp only [if_neg (show ¬ 128 < l.length by omega), if_neg (show ¬ l.length = 0 by omega), e, if_pos hk]
  exact ⟨trivial, trivial⟩
theorem auE_ok {l : List (Int × Int)} (h0 : l.length ≤ 128) (h3 : l.length ≠ 0) (h1 : ∀ j, j < l.length → auF l j = 0) : auE l = 0 ∧ auI l = -1 := by
  have e : auK l = l.length := fst_is (by omega) (fun j hj => by simpa using h1 j hj) (fun h => by omega)
  unfold auE auI
  simp only [if_neg (show ¬ 128 < l.length by omega), if_neg h3, e, if_neg (show ¬ l.length < l.length by omega)]
  exact ⟨trivial, trivial⟩

/-! ### right density tables -/
def dnF (l : List (Int × Int)) (k : Nat) : Int := if outB (gX l k) (gR l k) = true then 2 else if k ≠ 0 ∧ gX l k ≤ gX l (k - 1) then 5 else if k ≠ 0 ∧ gR l (k - 1) < gR l k then 18 else 0
def dnK (l : List (Int × Int)) : Nat := fst (fun k => dnF l k != 0) l.length
def dnE (l : List (Int × Int)) : Int := if 128 < l.length then 8 else if l.length < 2 then 9 else if dnK l < l.length then dnF l (dnK l) else if gX l 0 ≠ 0 then 10 else if gX l (l.length - 1) ≠ 10000 then 10 else 0
def dnI (l : List (Int × Int)) : Int := if 128 < l.length then -1 else if l.length < 2 then -1 else if dnK l < l.length then (dnK l : Int) else if gX l 0 ≠ 0 then 0 else if gX l (l.length - 1) ≠ 10000 then ((l.length - 1 : Nat) : Int) else -1
structure DR (l : List (Int × Int)) : Prop where
  n0 : 2 ≤ l.length
  n1 : l.length ≤ 128
  b : ∀ i, i < l.length → 0 ≤ gX l i ∧ gX l i ≤ 10000 ∧ 50000 ≤ gR l i ∧ gR l i ≤ 120000
  asc : ∀ i, i + 1 < l.length → gX l i < gX l (i + 1)
  down : ∀ i, i + 1 < l.length → gR l (i + 1) ≤ gR l i
  z : gX l 0 = 0
  t : gX l (l.length - 1) = 10000
theorem dnF_zero {l : List (Int × Int)} {k : Nat} : dnF l k = 0 ↔ ((0 ≤ gX l k ∧ gX l k ≤ 10000 ∧ 50000 ≤ gR l k ∧ gR l k ≤ 120000) ∧ (k ≠ 0 → gX l (k - 1) < gX l k) ∧ (k ≠ 0 → gR l k ≤ gR l (k - 1))) := by
  unfold dnF
  cases h : outB (gX l k) (gR l k) with
  | true => 
    simp only [if_true]
    constructor
    · intro h; cases h
    · rintro ⟨h1, _⟩
      rw [outB_false.2 h1] at h; cases h
  | false =>
    have := outB_false.1 h
    simp only [Bool.false_eq_true, if_false]
    by_cases g : k ≠ 0 ∧ gX l k ≤ gX l (k - 1)
    · rw [if_pos g]
      constructor
      · intro h; cases h
      · rintro ⟨_, h2, _⟩
        have := h2 g.1; omega
    · rw [if_neg g]
      by_cases g2 : k ≠ 0 ∧ gR l (k - 1) < gR l k
      · rw [if_pos g2]
        constructor
        · intro h; cases h
        · rintro ⟨_, _, h2⟩
          have := h2 g2.1; omega
      · rw [if_neg g2]
        refine ⟨fun _ => ⟨this, fun hk => ?_, fun hk => ?_⟩, fun _ => rfl⟩
        · rcases Int.lt_or_le (gX l (k - 1)) (gX l k) with h' | h'
          · exact h'
          · exact absurd ⟨hk, h'⟩ g
        · rcases Int.lt_or_le (gR l (k - 1)) (gR l k) with h' | h'
          · exact absurd ⟨hk, h'⟩ g2
          · exact h'
theorem dnE_at {l : List (Int × Int)} {k : Nat} (h0 : l.length ≤ 128) (h3 : 2 ≤ l.length) (hk : k < l.length) (h1 : ∀ j, j < k → dnF l j = 0) (h2 : dnF l k ≠ 0) : dnE l = dnF l k ∧ dnI l = k := by
  have e : dnK l = k := fst_is (by omega) (fun j hj => by simpa using h1 j hj) (fun _ => by simpa using h2)
  unfold dnE dnI
  simp only [if_neg (show ¬ 128 < l.length by omega), if_neg (show ¬ l.length < 2 by omega), e, if_pos hk]
  exact ⟨trivial, trivial⟩
theorem dnE_ok {l : List (Int × Int)} (h0 : l.length ≤ 128) (h3 : 2 ≤ l.length) (h1 : ∀ j, j < l.length → dnF l j = 0) :
    (gX l 0 ≠ 0 → dnE l = 10 ∧ dnI l = 0) ∧ (gX l 0 = 0 → gX l (l.length - 1) ≠ 10000 → dnE l = 10 ∧ dnI l = ((l.length - 1 : Nat) : Int)) ∧ (gX l 0 = 0 → gX l (l.length - 1) = 10000 → dnE l = 0 ∧ dnI l = -1) := by
  have e : dnK l = l.length := fst_is (by omega) (fun j hj => by simpa using h1 j hj) (fun h => by omega)
  unfold dnE dnI
  simp only [if_neg (show ¬ 128 < l.length by omega), if_neg (show ¬ l.length < 2 by omega), e, if_neg (show ¬ l.length < l.length by omega)]
  refine ⟨fun h => ?_, fun h g => ?_, fun h g => ?_⟩
  · simp only [if_pos h]; exact ⟨trivial, trivial⟩
  · simp only [if_neg (show ¬ gX l 0 ≠ 0 by omega), if_pos g]; exact ⟨trivial, trivial⟩
  · simp only [if_neg (show ¬ gX l 0 ≠ 0 by omega), if_neg (show ¬ gX l (l.length - 1) ≠ 10000 by omega)]; exact ⟨trivial, trivial⟩
theorem dnE_zero {l : List (Int × Int)} : dnE l = 0 ↔ DR l := by
  obtain ⟨s1, s2⟩ := fst_spec (fun k => dnF l k != 0) l.length
  have le := fst_le (fun k => dnF l k != 0) l.length
  constructor
  · intro h
    by_cases h0 : 128 < l.length
    · unfold dnE at h; rw [if_pos h0] at h; cases h
    by_cases h1 : l.length < 2
    · unfold dnE at h; rw [if_neg h0, if_pos h1] at h; cases h
    by_cases h2 : fst (fun k => dnF l k != 0) l.length < l.length
    · have h3 := s2 h2
      have := (dnE_at (by omega) (by omega) h2 (fun j hj => by simpa using s1 j hj) (by simpa using h3)).1
      rw [h] at this
      rw [← this] at h3
      cases h3
    · have e : fst (fun k => dnF l k != 0) l.length = l.length := by omega
      rw [e] at s1
      have z : ∀ j, j < l.length → dnF l j = 0 := fun j hj => by simpa using s1 j hj
      obtain ⟨g1, g2, g3⟩ := dnE_ok (by omega) (by omega) z
      refine ⟨by omega, by omega, fun i hi => (dnF_zero.1 (z i hi)).1, fun i hi => ?_, fun i hi => ?_, ?_, ?_⟩
      · have := (dnF_zero.1 (z (i + 1) hi)).2.1 (by omega)
        simpa using this
      · have := (dnF_zero.1 (z (i + 1) hi)).2.2 (by omega)
        simpa using this
      · rcases Decidable.em (gX l 0 = 0) with q | q
        · exact q
        · have := (g1 q).1; omega
      · rcases Decidable.em (gX l 0 = 0) with q | q
        · rcases Decidable.em (gX l (l.length - 1) = 10000) with q2 | q2
          · exact q2
          · have := (g2 q q2).1; omega
        · have := (g1 q).1; omega
  · intro h
    have z : ∀ j, j < l.length → dnF l j = 0 := fun j hj => by
      refine dnF_zero.2 ⟨h.b j hj, fun hk => ?_, fun hk => ?_⟩
      · have := h.asc (j - 1) (by omega)
        rwa [show j - 1 + 1 = j by omega] at this
      · have := h.down (j - 1) (by omega)
        rwa [show j - 1 + 1 = j by omega] at this
    exact ((dnE_ok h.n1 h.n0 z).2.2 h.z h.t).1
end Go.Proofs.Ytadkhhkoankhnaa

/- A cell below. -/
namespace Go.Proofs.Ytadkhhkoankhnaa
open Go.RowKit

theorem cell_bel {w w' : World} {p : Addr} {v : Value} (h : w.cell? p = some v) (hb : Below w.heap.size w w') : w'.cell? p = some v := by
  rw [hb.cell (World.block_lt_of_cell? w _ h)]; exact h
end Go.Proofs.Ytadkhhkoankhnaa

/- Package density and its reference: Check. -/
namespace Go.Proofs.Ytadkhhkoankhnaa
open Go.RowKit

set_option maxHeartbeats 4000000 in
theorem dnOut_any (x v : Int) (w : World) :
    Calls Try.prog 87 #[.agg #[.int .i64 x, .int .i64 v]] w fun e w' => e = .returned (.bool (outB x v)) ∧ Below w.heap.size w w' := by
  unfold outB
  have X := Lib.hid (bel_alloc (o := .cells #[.int .i64 x, .int .i64 v] 42) (Below.refl _ (w.alloc (.cells #[.int .i64 x, .int .i64 v] 42))))
  by_cases h0 : x < 0
  · have d0 : decide (x < 0) = true := decide_eq_true h0
    rw [d0, Bool.true_or, Bool.true_or, Bool.true_or]
    clear h0
    go_enter Try.func87, Try.ntmps87
    go_wp2
    go_returns
    exact ⟨rfl, X.out⟩
  have d0 : decide (x < 0) = false := decide_eq_false h0
  by_cases h1 : 10000 < x
  · have d1 : decide (10000 < x) = true := decide_eq_true h1
    rw [d0, d1, Bool.false_or, Bool.true_or, Bool.true_or]
    clear h0 h1
    go_enter Try.func87, Try.ntmps87
    go_wp2
    go_returns
    exact ⟨rfl, X.out⟩
  have d1 : decide (10000 < x) = false := decide_eq_false h1
  by_cases h2 : v < 50000
  · have d2 : decide (v < 50000) = true := decide_eq_true h2
    rw [d0, d1, d2, Bool.false_or, Bool.false_or, Bool.true_or]
    clear h0 h1 h2
    go_enter Try.func87, Try.ntmps87
    go_wp2
    go_returns
    exact ⟨rfl, X.out⟩
  have d2 : decide (v < 50000) = false := decide_eq_false h2
  rw [d0, d1, d2, Bool.false_or, Bool.false_or, Bool.false_or]
  clear h0 h1 h2
  generalize hB : decide (120000 < v) = B
  go_enter Try.func87, Try.ntmps87
  go_wp2
  go_returns
  exact ⟨rfl, X.out⟩

set_option maxHeartbeats 16000000 in
set_option maxRecDepth 100000 in
theorem dnFlt_some (b off n cap k : Nat) (l : List (Int × Int)) (w : World) (n1 : n ≤ 128) (hb : b < w.heap.size) (hk : k < n)
    (hc : Hid (∀ j, j < n → w.cell? ⟨b, off + j * 2, none⟩ = some (.int .i64 (gX l j)) ∧ w.cell? ⟨b, off + j * 2 + 1, none⟩ = some (.int .i64 (gR l j)))) :
    Calls Try.prog 85 #[.slice (some ⟨b, off, none⟩) n cap, .int .i64 k] w fun e w' => e = .returned (.int .i64 (dnF l k)) ∧ Below w.heap.size w w' := by
  have c0 := (hc.out k hk).1
  have c1 := (hc.out k hk).2
  have l0 : (k : Int) < (n : Int) := by omega
  have HO := Lib.hid (fun W => dnOut_any (gX l k) (gR l k) W)
  have cp : Hid (k ≠ 0 → w.cell? ⟨b, off + (k - 1) * 2, none⟩ = some (.int .i64 (gX l (k - 1))) ∧ w.cell? ⟨b, off + (k - 1) * 2 + 1, none⟩ = some (.int .i64 (gR l (k - 1)))) := fun hk0 => hc.out (k - 1) (by omega)
  have HF : Hid (dnF l k = if outB (gX l k) (gR l k) = true then 2 else if k ≠ 0 ∧ gX l k ≤ gX l (k - 1) then 5 else if k ≠ 0 ∧ gR l (k - 1) < gR l k then 18 else 0) := Lib.hid rfl
  generalize dnF l k = F at *
  generalize gX l k = x at *
  generalize gR l k = r at *
  generalize gX l (k - 1) = y at *
  generalize gR l (k - 1) = s at *
  clear hc
  cases ho : outB x r with
  | true =>
    rw [ho] at HO HF
    have e : F = 2 := HF.out
    subst e
    clear ho HF cp
    go_enter Try.func85, Try.ntmps85
    go_wp2_with fail
    refine (HO.out _).mono ?_
    rintro e w1 ⟨rfl, gg⟩
    have X := Lib.hid gg; clear gg
    go_wp2
    go_returns
    exact ⟨rfl, X.out⟩
  | false =>
    rw [ho] at HO HF
    by_cases k0 : k = 0
    · have e : F = 0 := by rw [HF.out]; simp [k0]
      subst e
      have dk : decide (0 < (k : Int)) = false := decide_eq_false (by omega)
      have dk2 : decide (0 < k) = false := decide_eq_false (by omega)
      have dk3 : ¬ 0 < k := by omega
      replace k0 := Lib.hid k0
      clear ho HF cp
      go_enter Try.func85, Try.ntmps85
      go_wp2_with fail
      refine (HO.out _).mono ?_
      rintro e w1 ⟨rfl, gg⟩
      have X := Lib.hid gg
      replace c0 := cell_bel c0 gg
      replace c1 := cell_bel c1 gg
      clear gg
      go_wp2_with fail
      go_quiet (fail)
      go_wp2_with fail
      go_quiet (fail)
      go_wp2
      go_returns
      exact ⟨rfl, bel_trans X.out (by first | exact bel_drewN _ _ | exact bel_drew2 _ _ _)⟩
    · have dk : decide (0 < (k : Int)) = true := decide_eq_true (by omega)
      obtain ⟨m, rfl⟩ : ∃ m, k = m + 1 := ⟨k - 1, by omega⟩
      have w1' : IntKind.i64.wrap (((m + 1 : Nat) : Int) - 1) = (m : Int) := by rw [wrap_in _ ⟨by omega, by omega⟩]; omega
      have w2 : IntKind.i64.wrap ((m : Int) + 1 - 1) = (m : Int) := by rw [wrap_in _ ⟨by omega, by omega⟩]; omega
      have w3 : IntKind.i64.wrap (m : Int) = (m : Int) := wrap_in _ ⟨by omega, by omega⟩
      have l1 : (m : Int) < (n : Int) := by omega
      obtain ⟨q0, q1⟩ := cp.out (by omega)
      rw [show m + 1 - 1 = m by omega] at q0 q1
      clear cp
      by_cases hxy : x ≤ y
      · have e : F = 5 := by rw [HF.out]; simp [hxy]
        subst e
        have dxy : decide (x ≤ y) = true := decide_eq_true hxy
        clear ho HF
        go_enter Try.func85, Try.ntmps85
        go_wp2_with fail
        refine (HO.out _).mono ?_
        rintro e w1 ⟨rfl, gg⟩
        have X := Lib.hid gg
        replace c0 := cell_bel c0 gg
        replace c1 := cell_bel c1 gg
        replace q0 := cell_bel q0 gg
        replace q1 := cell_bel q1 gg
        clear gg
        go_wp2_with fail
        go_quiet (fail)
        go_wp2
        go_returns
        exact ⟨rfl, bel_trans X.out (by first | exact bel_drewN _ _ | exact bel_drew2 _ _ _)⟩
      · have dxy : decide (x ≤ y) = false := decide_eq_false hxy
        by_cases hrs : s < r
        · have e : F = 18 := by rw [HF.out]; simp [hxy, hrs]
          subst e
          have drs : decide (s < r) = true := decide_eq_true hrs
          clear ho HF
          go_enter Try.func85, Try.ntmps85
          go_wp2_with fail
          refine (HO.out _).mono ?_
          rintro e w1 ⟨rfl, gg⟩
          have X := Lib.hid gg
          replace c0 := cell_bel c0 gg
          replace c1 := cell_bel c1 gg
          replace q0 := cell_bel q0 gg
          replace q1 := cell_bel q1 gg
          clear gg
          go_wp2_with fail
          go_quiet (fail)
          go_wp2_with fail
          go_quiet (fail)
          go_wp2
          go_returns
          exact ⟨rfl, bel_trans X.out (by first | exact bel_drewN _ _ | exact bel_drew2 _ _ _)⟩
        · have e : F = 0 := by rw [HF.out]; simp [hxy, hrs]
          subst e
          have drs : decide (s < r) = false := decide_eq_false hrs
          clear ho HF
          go_enter Try.func85, Try.ntmps85
          go_wp2_with fail
          refine (HO.out _).mono ?_
          rintro e w1 ⟨rfl, gg⟩
          have X := Lib.hid gg
          replace c0 := cell_bel c0 gg
          replace c1 := cell_bel c1 gg
          replace q0 := cell_bel q0 gg
          replace q1 := cell_bel q1 gg
          clear gg
          go_wp2_with fail
          go_quiet (fail)
          go_wp2_with fail
          go_quiet (fail)
          go_wp2
          go_returns
          exact ⟨rfl, bel_trans X.out (by first | exact bel_drewN _ _ | exact bel_drew2 _ _ _)⟩
set_option maxHeartbeats 4000000 in
theorem dnChk_len (a : Option Addr) (n cap : Nat) (V : Int) (w : World) (h : (n < 2 ∧ V = 9) ∨ (128 < n ∧ n ≤ 9223372036854775807 ∧ V = 8)) :
    Calls Try.prog 72 #[.slice a n cap] w fun e w' => e = .returned (.tuple #[.int .i64 (-1), .int .i64 V]) ∧ Below w.heap.size w w' := by
  rcases h with ⟨h, rfl⟩ | ⟨h, h2, rfl⟩
  all_goals
    go_enter Try.func72, Try.ntmps72
    go_wp2
    go_returns
    exact ⟨rfl, Below.refl _ _⟩
set_option maxHeartbeats 16000000 in
set_option maxRecDepth 100000 in
theorem dnChk_some (b off m cap : Nat) (l : List (Int × Int)) (I E : Int) (w : World) (n0 : 1 ≤ m) (n1 : m + 1 ≤ 128) (hb : b < w.heap.size)
    (hc : Hid (∀ j, j < m + 1 → w.cell? ⟨b, off + j * 2, none⟩ = some (.int .i64 (gX l j)) ∧ w.cell? ⟨b, off + j * 2 + 1, none⟩ = some (.int .i64 (gR l j))))
    (h1 : Hid (∀ k, k < m + 1 → (∀ j, j < k → dnF l j = 0) → dnF l k ≠ 0 → I = k ∧ E = dnF l k))
    (h2 : Hid ((∀ j, j < m + 1 → dnF l j = 0) → (gX l 0 ≠ 0 → E = 10 ∧ I = 0) ∧ (gX l 0 = 0 → gX l m ≠ 10000 → E = 10 ∧ I = (m : Int)) ∧ (gX l 0 = 0 → gX l m = 10000 → E = 0 ∧ I = -1))) :
    Calls Try.prog 72 #[.slice (some ⟨b, off, none⟩) (m + 1) cap] w fun e w' => e = .returned (.tuple #[.int .i64 I, .int .i64 E]) ∧ Below w.heap.size w w' := by
  have d8 : decide (128 < (m : Int) + 1) = false := decide_eq_false (by omega)
  have d9 : decide ((m : Int) + 1 < 2) = false := decide_eq_false (by omega)
  have wm : IntKind.i64.wrap ((m : Int) + 1 - 1) = (m : Int) := by rw [wrap_in _ ⟨by omega, by omega⟩]; omega
  have wm2 : IntKind.i64.wrap (m : Int) = (m : Int) := wrap_in _ ⟨by omega, by omega⟩
  go_enter Try.func72, Try.ntmps72
  go_wp2_with fail
  go_loopw [15] (fun ii wr => ∃ k : Nat, k ≤ m + 1 ∧ ii = .int .i64 (k : Int) ∧ Hid (Below w.heap.size w wr) ∧ Hid (∀ j, j < k → dnF l j = 0)) (fun ii _ => m + 1 - (intOf ii).toNat)
  case atStart => exact ⟨0, Nat.zero_le _, rfl, Below.refl _ _, fun j hj => by omega⟩
  case round =>
    obtain ⟨k, hk, rfl, hB, ha⟩ := hrel
    by_cases hlt : k < m + 1
    · have bb : b < wr.heap.size := Nat.lt_of_lt_of_le hb hB.out.size
      have l0 : (k : Int) < (m : Int) + 1 := by omega
      have l00 : (k : Int) < ((m + 1 : Nat) : Int) := by omega
      have H1 := Lib.hid (h1.out k hlt ha.out)
      have HS : Hid (dnF l k = 0 → ∀ j, j < k + 1 → dnF l j = 0) := fun h j hj => by
        by_cases e : j = k
        · rw [e]; exact h
        · exact ha.out j (by omega)
      have HK := Lib.hid (dnFlt_some b off (m + 1) cap k l wr (by omega) bb hlt (Lib.hid fun j hj => ⟨cell_bel (hc.out j hj).1 hB.out, cell_bel (hc.out j hj).2 hB.out⟩))
      generalize dnF l k = F at *
      by_cases hF : F = 0
      · have hs2 := Lib.hid (HS.out hF)
        subst hF
        clear HS H1
        go_wp2_with fail
        refine HK.out.mono ?_
        rintro e w1 ⟨rfl, gg⟩
        have X := Lib.hid (bel_trans hB.out gg); clear gg
        go_wp2
        go_roundw
        case rel => exact ⟨k + 1, by omega, by go_num, X, hs2⟩
        case measure => simp [intOf]; omega
      · obtain ⟨rfl, rfl⟩ := H1.out hF
        have dF : (E != 0) = true := by simpa using hF
        clear HS H1 h1 h2
        go_wp2_with fail
        refine HK.out.mono ?_
        rintro e w1 ⟨rfl, gg⟩
        have X := Lib.hid (bel_trans hB.out gg); clear gg
        go_wp2
        go_returns
        exact ⟨rfl, X.out⟩
    · obtain rfl : k = m + 1 := by omega
      obtain ⟨g1, g2, g3⟩ := h2.out ha.out
      have c0 := cell_bel (hc.out 0 (by omega)).1 hB.out
      have c1 := cell_bel (hc.out m (by omega)).1 hB.out
      have l1 : (m : Int) < (m : Int) + 1 := by omega
      have l2 : (0 : Int) < (m : Int) + 1 := by omega
      rw [Nat.zero_mul, Nat.add_zero] at c0
      clear h1 h2 hc ha
      generalize gX l 0 = x at *
      generalize gX l m = y at *
      by_cases e0 : x = 0
      · have dx : (x != 0) = false := by simp [e0]
        by_cases e1 : y = 10000
        · have dy : (y != 10000) = false := by simp [e1]
          obtain ⟨rfl, rfl⟩ := g3 e0 e1
          clear g1 g2 g3 e0 e1
          go_wp2
          go_returns
          exact ⟨rfl, hB.out⟩
        · have dy : (y != 10000) = true := by simpa using e1
          obtain ⟨rfl, rfl⟩ := g2 e0 e1
          clear g1 g2 g3 e0 e1
          go_wp2
          go_returns
          exact ⟨rfl, hB.out⟩
      · have dx : (x != 0) = true := by simpa using e0
        obtain ⟨rfl, rfl⟩ := g1 e0
        clear g1 g2 g3 e0
        go_wp2
        go_returns
        exact ⟨rfl, hB.out⟩
theorem dnChk_any (v : Value) (l : List (Int × Int)) (w : World) (hv : Pts w v l) :
    Calls Try.prog 72 #[v] w fun e w' => e = .returned (.tuple #[.int .i64 (dnI l), .int .i64 (dnE l)]) ∧ Below w.heap.size w w' := by
  obtain ⟨a, cap, rfl, hl, hh⟩ := hv
  by_cases h1 : 128 < l.length
  · have := dnChk_len a l.length cap 8 w (.inr ⟨h1, by omega, rfl⟩)
    rwa [show dnI l = -1 by unfold dnI; rw [if_pos h1], show dnE l = 8 by unfold dnE; rw [if_pos h1]]
  · by_cases h0 : l.length < 2
    · have := dnChk_len a l.length cap 9 w (.inl ⟨h0, rfl⟩)
      rwa [show dnI l = -1 by unfold dnI; rw [if_neg h1, if_pos h0], show dnE l = 9 by unfold dnE; rw [if_neg h1, if_pos h0]]
    · rcases hh with hh | ⟨b, off, rfl, hb, hc⟩
      · omega
      · have e : l.length - 1 + 1 = l.length := by omega
        have := dnChk_some b off (l.length - 1) cap l (dnI l) (dnE l) w (by omega) (by omega) hb (Lib.hid (by rw [e]; exact hc)) (Lib.hid fun k hk g1 g2 => ⟨(dnE_at (by omega) (by omega) (by omega) g1 g2).2, (dnE_at (by omega) (by omega) (by omega) g1 g2).1⟩) (Lib.hid fun g => dnE_ok (by omega) (by omega) (fun j hj => g j (by omega)))
        rwa [e] at this
end Go.Proofs.Ytadkhhkoankhnaa

/- The reference of layer 16: Check. -/
namespace Go.Proofs.Ytadkhhkoankhnaa
open Go.RowKit

set_option maxHeartbeats 4000000 in
theorem rnChk_len (a : Option Addr) (n cap : Nat) (V : Int) (w : World) (h : (n < 2 ∧ V = 9) ∨ (128 < n ∧ n ≤ 9223372036854775807 ∧ V = 8)) :
    Calls Try.prog 76 #[.slice a n cap] w fun e w' => e = .returned (.tuple #[.int .i64 (-1), .int .i64 V]) ∧ Below w.heap.size w w' := by
  rcases h with ⟨h, rfl⟩ | ⟨h, h2, rfl⟩
  all_goals
    go_enter Try.func76, Try.ntmps76
    go_wp2
    go_returns
    exact ⟨rfl, Below.refl _ _⟩
set_option maxHeartbeats 16000000 in
set_option maxRecDepth 100000 in
theorem rnChk_some (b off m cap : Nat) (l : List (Int × Int)) (I E : Int) (w : World) (n0 : 1 ≤ m) (n1 : m + 1 ≤ 128) (hb : b < w.heap.size)
    (hc : Hid (∀ j, j < m + 1 → w.cell? ⟨b, off + j * 2, none⟩ = some (.int .i64 (gX l j)) ∧ w.cell? ⟨b, off + j * 2 + 1, none⟩ = some (.int .i64 (gR l j))))
    (h1 : Hid (∀ k, k < m + 1 → (∀ j, j < k → dnF l j = 0) → dnF l k ≠ 0 → I = k ∧ E = dnF l k))
    (h2 : Hid ((∀ j, j < m + 1 → dnF l j = 0) → (gX l 0 ≠ 0 → E = 10 ∧ I = 0) ∧ (gX l 0 = 0 → gX l m ≠ 10000 → E = 10 ∧ I = (m : Int)) ∧ (gX l 0 = 0 → gX l m = 10000 → E = 0 ∧ I = -1))) :
    Calls Try.prog 76 #[.slice (some ⟨b, off, none⟩) (m + 1) cap] w fun e w' => e = .returned (.tuple #[.int .i64 I, .int .i64 E]) ∧ Below w.heap.size w w' := by
  have d8 : decide (128 < (m : Int) + 1) = false := decide_eq_false (by omega)
  have d9 : decide ((m : Int) + 1 < 2) = false := decide_eq_false (by omega)
  have wm : IntKind.i64.wrap ((m : Int) + 1 - 1) = (m : Int) := by rw [wrap_in _ ⟨by omega, by omega⟩]; omega
  have wm2 : IntKind.i64.wrap (m : Int) = (m : Int) := wrap_in _ ⟨by omega, by omega⟩
  go_enter Try.func76, Try.ntmps76
  go_wp2_with fail
  go_loopw [4] (fun ii wr => ∃ k : Nat, k ≤ m + 1 ∧ ii = .int .i64 (k : Int) ∧ Hid (Below w.heap.size w wr) ∧ Hid (∀ j, j < k → dnF l j = 0)) (fun ii _ => m + 1 - (intOf ii).toNat)
  case atStart => exact ⟨0, Nat.zero_le _, rfl, Below.refl _ _, fun j hj => by omega⟩
  case round =>
    obtain ⟨k, hk, rfl, hB, ha⟩ := hrel
    by_cases hlt : k < m + 1
    · have bb : b < wr.heap.size := Nat.lt_of_lt_of_le hb hB.out.size
      have l0 : (k : Int) < (m : Int) + 1 := by omega
      have l00 : (k : Int) < ((m + 1 : Nat) : Int) := by omega
      have H1 := Lib.hid (h1.out k hlt ha.out)
      have HS : Hid (dnF l k = 0 → ∀ j, j < k + 1 → dnF l j = 0) := fun h j hj => by
        by_cases e : j = k
        · rw [e]; exact h
        · exact ha.out j (by omega)
      have c0 := cell_bel (hc.out k hlt).1 hB.out
      have c1 := cell_bel (hc.out k hlt).2 hB.out
      have cp : Hid (k ≠ 0 → wr.cell? ⟨b, off + (k - 1) * 2, none⟩ = some (.int .i64 (gX l (k - 1))) ∧ wr.cell? ⟨b, off + (k - 1) * 2 + 1, none⟩ = some (.int .i64 (gR l (k - 1)))) := fun hk0 => ⟨cell_bel (hc.out (k - 1) (by omega)).1 hB.out, cell_bel (hc.out (k - 1) (by omega)).2 hB.out⟩
      have HF : Hid (dnF l k = if outB (gX l k) (gR l k) = true then 2 else if k ≠ 0 ∧ gX l k ≤ gX l (k - 1) then 5 else if k ≠ 0 ∧ gR l (k - 1) < gR l k then 18 else 0) := Lib.hid rfl
      have hE : Hid (outB (gX l k) (gR l k) = (decide (gX l k < 0) || decide (10000 < gX l k) || decide (gR l k < 50000) || decide (120000 < gR l k))) := Lib.hid rfl
      generalize dnF l k = F at *
      generalize gX l k = x at *
      generalize gR l k = r at *
      generalize gX l (k - 1) = y at *
      generalize gR l (k - 1) = s at *
      cases ho : outB x r with
      | true =>
        rw [ho] at hE HF
        have e : F = 2 := HF.out
        obtain ⟨rfl, rfl⟩ := H1.out (by rw [e]; simp)
        subst e
        have hD : (decide (x < 0) = true) ∨ (decide (x < 0) = false ∧ decide (10000 < x) = true) ∨ (decide (x < 0) = false ∧ decide (10000 < x) = false ∧ decide (r < 50000) = true) ∨ (decide (x < 0) = false ∧ decide (10000 < x) = false ∧ decide (r < 50000) = false ∧ decide (120000 < r) = true) := by
          have := hE.out
          revert this
          cases decide (x < 0) <;> cases decide (10000 < x) <;> cases decide (r < 50000) <;> cases decide (120000 < r) <;> simp
        clear ho HF HS H1 h1 h2 hE cp
        rcases hD with d1 | ⟨d1, d2⟩ | ⟨d1, d2, d3⟩ | ⟨d1, d2, d3, d4⟩
        all_goals
          go_wp2
          go_returns
          exact ⟨rfl, hB.out⟩
      | false =>
        rw [ho] at hE HF
        have hD : decide (x < 0) = false ∧ decide (10000 < x) = false ∧ decide (r < 50000) = false ∧ decide (120000 < r) = false := by
          have := hE.out
          revert this
          cases decide (x < 0) <;> cases decide (10000 < x) <;> cases decide (r < 50000) <;> cases decide (120000 < r) <;> simp
        obtain ⟨d1, d2, d3, d4⟩ := hD
        clear hE ho
        by_cases k0 : k = 0
        · have e : F = 0 := by rw [HF.out]; simp [k0]
          have hs2 := Lib.hid (HS.out e)
          have dk : decide (0 < (k : Int)) = false := decide_eq_false (by omega)
          have dk2 : decide (0 < k) = false := decide_eq_false (by omega)
          have dk3 : ¬ 0 < k := by omega
          replace k0 := Lib.hid k0
          clear HF HS H1 e cp
          go_wp2_with fail
          go_quiet (fail)
          go_wp2_with fail
          go_quiet (fail)
          go_wp2
          go_roundw
          case rel => exact ⟨k + 1, by omega, by go_num, bel_trans hB.out (by first | exact bel_drewN _ _ | exact bel_drew2 _ _ _), hs2⟩
          case measure => simp [intOf]; omega
        · have dk : decide (0 < (k : Int)) = true := decide_eq_true (by omega)
          obtain ⟨q, rfl⟩ : ∃ q, k = q + 1 := ⟨k - 1, by omega⟩
          have w1' : IntKind.i64.wrap (((q + 1 : Nat) : Int) - 1) = (q : Int) := by rw [wrap_in _ ⟨by omega, by omega⟩]; omega
          have w2 : IntKind.i64.wrap ((q : Int) + 1 - 1) = (q : Int) := by rw [wrap_in _ ⟨by omega, by omega⟩]; omega
          have w3 : IntKind.i64.wrap (q : Int) = (q : Int) := wrap_in _ ⟨by omega, by omega⟩
          have l1 : (q : Int) < (m : Int) + 1 := by omega
          obtain ⟨q0, q1⟩ := cp.out (by omega)
          rw [show q + 1 - 1 = q by omega] at q0 q1
          clear cp
          by_cases hxy : x ≤ y
          · have e : F = 5 := by rw [HF.out]; simp [hxy]
            obtain ⟨rfl, rfl⟩ := H1.out (by rw [e]; simp)
            subst e
            have dxy : decide (x ≤ y) = true := decide_eq_true hxy
            clear HF HS H1 h1 h2
            go_wp2_with fail
            go_quiet (fail)
            go_wp2
            go_returns
            exact ⟨rfl, bel_trans hB.out (by first | exact bel_drewN _ _ | exact bel_drew2 _ _ _)⟩
          · have dxy : decide (x ≤ y) = false := decide_eq_false hxy
            by_cases hrs : s < r
            · have e : F = 18 := by rw [HF.out]; simp [hxy, hrs]
              obtain ⟨rfl, rfl⟩ := H1.out (by rw [e]; simp)
              subst e
              have drs : decide (s < r) = true := decide_eq_true hrs
              clear HF HS H1 h1 h2
              go_wp2_with fail
              go_quiet (fail)
              go_wp2_with fail
              go_quiet (fail)
              go_wp2
              go_returns
              exact ⟨rfl, bel_trans hB.out (by first | exact bel_drewN _ _ | exact bel_drew2 _ _ _)⟩
            · have e : F = 0 := by rw [HF.out]; simp [hxy, hrs]
              have hs2 := Lib.hid (HS.out e)
              have drs : decide (s < r) = false := decide_eq_false hrs
              clear HF HS H1 e
              go_wp2_with fail
              go_quiet (fail)
              go_wp2_with fail
              go_quiet (fail)
              go_wp2
              go_roundw
              case rel => exact ⟨q + 1 + 1, by omega, by go_num, bel_trans hB.out (by first | exact bel_drewN _ _ | exact bel_drew2 _ _ _), hs2⟩
              case measure => simp [intOf]; omega
    · obtain rfl : k = m + 1 := by omega
      obtain ⟨g1, g2, g3⟩ := h2.out ha.out
      have c0 := cell_bel (hc.out 0 (by omega)).1 hB.out
      have c1 := cell_bel (hc.out m (by omega)).1 hB.out
      have l1 : (m : Int) < (m : Int) + 1 := by omega
      have l2 : (0 : Int) < (m : Int) + 1 := by omega
      rw [Nat.zero_mul, Nat.add_zero] at c0
      clear h1 h2 hc ha
      generalize gX l 0 = x at *
      generalize gX l m = y at *
      by_cases e0 : x = 0
      · have dx : (x != 0) = false := by simp [e0]
        by_cases e1 : y = 10000
        · have dy : (y != 10000) = false := by simp [e1]
          obtain ⟨rfl, rfl⟩ := g3 e0 e1
          clear g1 g2 g3 e0 e1
          go_wp2
          go_returns
          exact ⟨rfl, hB.out⟩
        · have dy : (y != 10000) = true := by simpa using e1
          obtain ⟨rfl, rfl⟩ := g2 e0 e1
          clear g1 g2 g3 e0 e1
          go_wp2
          go_returns
          exact ⟨rfl, hB.out⟩
      · have dx : (x != 0) = true := by simpa using e0
        obtain ⟨rfl, rfl⟩ := g1 e0
        clear g1 g2 g3 e0
        go_wp2
        go_returns
        exact ⟨rfl, hB.out⟩
theorem rnChk_any (v : Value) (l : List (Int × Int)) (w : World) (hv : Pts w v l) :
    Calls Try.prog 76 #[v] w fun e w' => e = .returned (.tuple #[.int .i64 (dnI l), .int .i64 (dnE l)]) ∧ Below w.heap.size w w' := by
  obtain ⟨a, cap, rfl, hl, hh⟩ := hv
  by_cases h1 : 128 < l.length
  · have := rnChk_len a l.length cap 8 w (.inr ⟨h1, by omega, rfl⟩)
    rwa [show dnI l = -1 by unfold dnI; rw [if_pos h1], show dnE l = 8 by unfold dnE; rw [if_pos h1]]
  · by_cases h0 : l.length < 2
    · have := rnChk_len a l.length cap 9 w (.inl ⟨h0, rfl⟩)
      rwa [show dnI l = -1 by unfold dnI; rw [if_neg h1, if_pos h0], show dnE l = 9 by unfold dnE; rw [if_neg h1, if_pos h0]]
    · rcases hh with hh | ⟨b, off, rfl, hb, hc⟩
      · omega
      · have e : l.length - 1 + 1 = l.length := by omega
        have := rnChk_some b off (l.length - 1) cap l (dnI l) (dnE l) w (by omega) (by omega) hb (Lib.hid (by rw [e]; exact hc)) (Lib.hid fun k hk g1 g2 => ⟨(dnE_at (by omega) (by omega) (by omega) g1 g2).2, (dnE_at (by omega) (by omega) (by omega) g1 g2).1⟩) (Lib.hid fun g => dnE_ok (by omega) (by omega) (fun j hj => g j (by omega)))
        rwa [e] at this
end Go.Proofs.Ytadkhhkoankhnaa

/- Package density: reach, Find; the reference's Find. -/
namespace Go.Proofs.Ytadkhhkoankhnaa
open Go.RowKit

set_option maxHeartbeats 8000000 in
set_option maxRecDepth 100000 in
theorem search_bel (g : Nat) (cb : Array Value) (n : Nat) (p : Nat → Bool) (w : World) (eg : ∀ args w, (callFunc g args).run Try.prog w = .ok (.enter g args) w) (hsz : n ≤ 1000000)
    (hf : Hid (∀ (i : Nat) W, i < n → Below w.heap.size w W → Calls Try.prog g (#[.int .i64 i] ++ cb) W fun e w' => e = .returned (.bool (p i)) ∧ Below W.heap.size W w'))
    (hm : Hid (∀ a b, a ≤ b → b < n → p a = true → p b = true)) :
    Calls Try.prog 73 #[.int .i64 n, .func (.func g) #[] cb] w fun e w' => e = .returned (.int .i64 (fst p n : Nat)) ∧ Below w.heap.size w w' := by
  go_enter Try.func73, Try.ntmps73
  go_wp2_with fail
  go_loopw [5, 6] (fun s5 s6 wr => ∃ lo hi : Nat, s5 = .int .i64 lo ∧ s6 = .int .i64 hi ∧ lo ≤ hi ∧ hi ≤ n ∧ Hid (Below w.heap.size w wr) ∧ Hid ((∀ t, t < lo → p t = false) ∧ (∀ t, hi ≤ t → t < n → p t = true))) (fun s5 s6 _ => (intOf s6).toNat - (intOf s5).toNat)
  case atStart => exact ⟨0, n, rfl, rfl, Nat.zero_le _, Nat.le_refl _, Below.refl _ _, ⟨fun t ht => absurd ht (Nat.not_lt_zero _), fun t h1 h2 => by omega⟩⟩
  case round =>
    obtain ⟨lo, hi, rfl, rfl, hlh, hin, hB, I⟩ := hrel
    by_cases hlt : lo < hi
    · have hc := hf.out ((lo + hi) / 2)
      have HM := Lib.hid (fun t (h1 : (lo + hi) / 2 ≤ t) (h2 : t < n) (h3 : p ((lo + hi) / 2) = true) => hm.out ((lo + hi) / 2) t h1 h2 h3)
      have HN := Lib.hid (fun t (h1 : t ≤ (lo + hi) / 2) (h3 : p ((lo + hi) / 2) = false) => show p t = false by
        cases hp : p t with
        | false => rfl
        | true => rw [hm.out t ((lo + hi) / 2) h1 (by omega) hp] at h3; cases h3)
      rw [show (((lo + hi) / 2 : Nat) : Int) = ((lo : Int) + (hi : Int)) / 2 by omega] at hc
      have HC := Lib.hid (fun W hW => hc W (by omega) hW)
      clear hc
      have l0 : (lo : Int) < (hi : Int) := by omega
      have m1 : (lo + hi) / 2 < hi := by omega
      have m2 : lo ≤ (lo + hi) / 2 := by omega
      have me : ((lo : Int) + (hi : Int)) / 2 = (((lo + hi) / 2 : Nat) : Int) := by omega
      replace me := Lib.hid me
      cases hp : p ((lo + hi) / 2) with
      | false =>
        rw [hp] at HC
        replace hp := Lib.hid hp
        go_wp2_with fail
        refine (HC.out _ hB.out).mono ?_
        rintro e w2 ⟨rfl, gg⟩
        have X := Lib.hid (bel_trans hB.out gg); clear gg
        go_wp2
        go_roundw
        case rel => exact ⟨(lo + hi) / 2 + 1, hi, by rw [me.out]; go_num, rfl, by omega, hin, X, ⟨fun t ht => HN.out t (by omega) hp.out, I.out.2⟩⟩
        case measure => simp [intOf]; omega
      | true =>
        rw [hp] at HC
        replace hp := Lib.hid hp
        go_wp2_with fail
        refine (HC.out _ hB.out).mono ?_
        rintro e w2 ⟨rfl, gg⟩
        have X := Lib.hid (bel_trans hB.out gg); clear gg
        go_wp2
        go_roundw
        case rel => exact ⟨lo, (lo + hi) / 2, rfl, by rw [me.out], m2, by omega, X, ⟨I.out.1, fun t h1 h2 => HM.out t h1 h2 hp.out⟩⟩
        case measure => simp [intOf]; omega
    · obtain rfl : lo = hi := by omega
      have e : fst p n = lo := fst_is hin I.out.1 (fun h => I.out.2 lo (Nat.le_refl _) h)
      replace e := Lib.hid e
      go_wp2
      go_returns
      exact ⟨by show Ending.returned (.int .i64 (lo : Int)) = _; rw [e.out], hB.out⟩
set_option maxHeartbeats 4000000 in
theorem dnR1_any (i q1 q2 b off n cap : Nat) (x : Int) (l : List (Int × Int)) (w : World) (hi : i < n) (n1 : n ≤ 1000) (c1 : w.cell? ⟨q1, 0, none⟩ = some (.slice (some ⟨b, off, none⟩) n cap)) (c2 : w.cell? ⟨q2, 0, none⟩ = some (.int .i64 x))
    (c3 : w.cell? ⟨b, off + i * 2, none⟩ = some (.int .i64 (gX l i))) :
    Calls Try.prog 81 #[.int .i64 i, .pointer (some ⟨q1, 0, none⟩), .pointer (some ⟨q2, 0, none⟩)] w fun e w' => e = .returned (.bool (decide (x ≤ gX l i))) ∧ Below w.heap.size w w' := by
  have l0 : (i : Int) < (n : Int) := by omega
  have X1 : Hid (∀ m, Below w.heap.size w (w.drewN m)) := Lib.hid fun m => ⟨rfl, rfl, rfl, Nat.le_refl _, fun i hi => rfl⟩
  generalize gX l i = y at *
  go_enter Try.func81, Try.ntmps81
  go_wp2_with fail
  go_quiet (fail)
  go_wp2
  go_returns
  exact ⟨rfl, X1.out _⟩
theorem bxd_below {W W' : World} {b : Nat} {t : TypeId} {v : Value} (h : Boxed W b t v) (hb : Below W.heap.size W W') : Boxed W' b t v := by
  show W'.heap[b]? = _
  rw [hb.block _ h.lt]
  exact h
/-- the first row whose strength is at least a number -/
def rcN (l : List (Int × Int)) (x : Int) : Nat := fst (fun i => decide (x ≤ gX l i)) l.length
theorem DR.chain {l : List (Int × Int)} (h : DR l) (j : Nat) : ∀ i : Nat, j < i → i < l.length → gX l j < gX l i ∧ gR l i ≤ gR l j
  | 0, h1, _ => by omega
  | i + 1, h1, h2 => by
    have a := h.asc i h2
    have b := h.down i h2
    by_cases e : j = i
    · subst e; exact ⟨a, b⟩
    · obtain ⟨c, d⟩ := DR.chain h j i (by omega) (by omega)
      exact ⟨by omega, by omega⟩
theorem DR.le {l : List (Int × Int)} (h : DR l) {j i : Nat} (hj : j ≤ i) (hi : i < l.length) : gX l j ≤ gX l i := by
  by_cases e : j = i
  · rw [e]; exact Int.le_refl _
  · exact Int.le_of_lt (h.chain j i (by omega) hi).1
theorem rcN_spec {l : List (Int × Int)} (h : DR l) (x : Int) : rcN l x ≤ l.length ∧ (∀ j, j < rcN l x → gX l j < x) ∧ ∀ j, rcN l x ≤ j → j < l.length → x ≤ gX l j := by
  obtain ⟨s1, s2⟩ := fst_spec (fun i => decide (x ≤ gX l i)) l.length
  have le := fst_le (fun i => decide (x ≤ gX l i)) l.length
  refine ⟨le, fun j hj => ?_, fun j h1 h2 => ?_⟩
  · have := of_decide_eq_false (s1 j hj); omega
  · have a := of_decide_eq_true (s2 (by unfold rcN at h1; omega))
    have := h.le h1 h2
    unfold rcN at *
    omega
set_option maxHeartbeats 8000000 in
set_option maxRecDepth 100000 in
theorem dnRc_any (v : Value) (l : List (Int × Int)) (x : Int) (w : World) (hv : Pts w v l) (h : DR l) :
    Calls Try.prog 62 #[v, .int .i64 x] w fun e w' => e = .returned (.int .i64 (rcN l x : Nat)) ∧ Below w.heap.size w w' := by
  have n0 := h.n0
  have n1 := h.n1
  obtain ⟨a, cap, rfl, hl, hh⟩ := hv
  rcases hh with hh | ⟨b, off, rfl, hb, hc⟩
  · omega
  have hmf : ∀ (fn : Fn) (first cap : Array Value) (w : World), (Instr.makeFunc fn first cap).run Try.prog w = .ok (.func fn first cap) w := fun _ _ _ _ => rfl
  have HS : Hid (∀ W q1 q2, Below w.heap.size w W → Boxed W q1 22 (.slice (some ⟨b, off, none⟩) l.length cap) → Boxed W q2 3 (.int .i64 x) → Calls Try.prog 73 #[.int .i64 l.length, .func (.func 81) #[] #[.pointer (some ⟨q1, 0, none⟩), .pointer (some ⟨q2, 0, none⟩)]] W fun e w' => e = .returned (.int .i64 (rcN l x : Nat)) ∧ Below W.heap.size W w') := Lib.hid fun W q1 q2 hW h1 h2 =>
    search_bel 81 #[.pointer (some ⟨q1, 0, none⟩), .pointer (some ⟨q2, 0, none⟩)] l.length (fun i => decide (x ≤ gX l i)) W (enters_of Try.func81 (by kernel_rfl) rfl) (by omega)
      (Lib.hid fun i W2 hi hW2 => dnR1_any i q1 q2 b off l.length cap x l W2 hi (by omega) (cell_bel h1.cell hW2) (cell_bel h2.cell hW2) (cell_bel (cell_bel (hc i hi).1 hW) hW2))
      (Lib.hid fun i j hij hj hp => by
        have := of_decide_eq_true hp
        have := h.le hij hj
        exact decide_eq_true (by omega))
  have B0 := Lib.hid ((Boxed.new w 22 (.slice (some ⟨b, off, none⟩) l.length cap)).alloc (.cells #[.int .i64 x] 3))
  have B1 : Hid (Boxed ((w.alloc (.cells #[.slice (some ⟨b, off, none⟩) l.length cap] 22)).alloc (.cells #[.int .i64 x] 3)) (w.heap.size + 1) 3 (.int .i64 x)) := Lib.hid (by
    have := Boxed.new (w.alloc (.cells #[.slice (some ⟨b, off, none⟩) l.length cap] 22)) 3 (.int .i64 x)
    rwa [World.size_alloc] at this)
  have X0 : Hid (Below w.heap.size w ((w.alloc (.cells #[.slice (some ⟨b, off, none⟩) l.length cap] 22)).alloc (.cells #[.int .i64 x] 3))) := Lib.hid (bel_alloc (bel_alloc (Below.refl _ _)))
  have c0 := B0.out.cell
  clear hc
  generalize rcN l x = k at *
  generalize l.length = n at *
  go_enter Try.func62, Try.ntmps62
  go_wp2_with fail
  refine (HS.out _ _ _ X0.out B0.out B1.out).mono ?_
  rintro e w1 ⟨rfl, gg⟩
  have X1 := Lib.hid (bel_trans X0.out gg); clear gg
  go_wp2
  go_returns
  exact ⟨rfl, X1.out⟩
theorem dnSt_any (x : Int) (w : World) :
    Calls Try.prog 61 #[.int .i64 x] w fun e w' => e = .returned (.bool (decide (0 ≤ x ∧ x ≤ 10000))) ∧ w' = w := by
  by_cases h0 : 0 ≤ x
  · have d0 : decide (0 ≤ x) = true := decide_eq_true h0
    have e : decide (0 ≤ x ∧ x ≤ 10000) = decide (x ≤ 10000) := by rw [Bool.eq_iff_iff, decide_eq_true_eq, decide_eq_true_eq]; omega
    rw [e]
    go_enter Try.func61, Try.ntmps61
    go_wp2
    go_returns
    exact ⟨rfl, rfl⟩
  · have d0 : decide (0 ≤ x) = false := decide_eq_false h0
    have e : decide (0 ≤ x ∧ x ≤ 10000) = false := decide_eq_false (by omega)
    rw [e]
    go_enter Try.func61, Try.ntmps61
    go_wp2
    go_returns
    exact ⟨rfl, rfl⟩
theorem dnRt_any (v : Value) (l : List (Int × Int)) (w : World) (hv : Pts w v l) :
    Calls Try.prog 60 #[v] w fun e w' => e = .returned (.bool (dnE l == 0)) ∧ Below w.heap.size w w' := by
  have H := Lib.hid (dnChk_any v l w hv)
  generalize dnI l = I at *
  generalize dnE l = E at *
  go_enter Try.func60, Try.ntmps60
  go_wp2_with fail
  refine H.out.mono ?_
  rintro e w1 ⟨rfl, gg⟩
  have X := Lib.hid gg; clear gg
  go_wp2
  go_returns
  exact ⟨rfl, X.out⟩
theorem rnRt_any (v : Value) (l : List (Int × Int)) (w : World) (hv : Pts w v l) :
    Calls Try.prog 51 #[v] w fun e w' => e = .returned (.bool (dnE l == 0)) ∧ Below w.heap.size w w' := by
  have H := Lib.hid (rnChk_any v l w hv)
  generalize dnI l = I at *
  generalize dnE l = E at *
  go_enter Try.func51, Try.ntmps51
  go_wp2_with fail
  refine H.out.mono ?_
  rintro e w1 ⟨rfl, gg⟩
  have X := Lib.hid gg; clear gg
  go_wp2
  go_returns
  exact ⟨rfl, X.out⟩
def fnE (l : List (Int × Int)) (s : Int) : Int := if dnE l ≠ 0 then 1 else if 0 ≤ s ∧ s ≤ 10000 then 0 else 2
def fnI (l : List (Int × Int)) (s : Int) : Int := if fnE l s = 0 then (rcN l (s + 1) : Int) - 1 else 0
theorem rcN_pos {l : List (Int × Int)} (h : DR l) {s : Int} (hs : 0 ≤ s) : 1 ≤ rcN l (s + 1) := by
  obtain ⟨h1, h2, h3⟩ := rcN_spec h (s + 1)
  have n0 := h.n0
  have z := h.z
  rcases Nat.eq_zero_or_pos (rcN l (s + 1)) with e | e
  · have := h3 0 (by omega) (by omega); omega
  · exact e
set_option maxHeartbeats 8000000 in
theorem dnFn_any (v : Value) (l : List (Int × Int)) (s : Int) (w : World) (hv : Pts w v l) :
    Calls Try.prog 30 #[v, .int .i64 s] w fun e w' => e = .returned (.tuple #[.int .i64 (fnI l s), .int .i64 (fnE l s)]) ∧ Below w.heap.size w w' := by
  have HR := Lib.hid (dnRt_any v l w hv)
  have HS := Lib.hid (fun W => dnSt_any s W)
  by_cases he : dnE l = 0
  · have hD := dnE_zero.1 he
    rw [show (dnE l == 0) = true by simpa using he] at HR
    by_cases hs : 0 ≤ s ∧ s ≤ 10000
    · have HC := Lib.hid (fun W (hW : Below w.heap.size w W) => dnRc_any v l (s + 1) W (hv.below hW) hD)
      have e1 : fnE l s = 0 := by unfold fnE; rw [if_neg (by omega), if_pos hs]
      have e2 : fnI l s = (rcN l (s + 1) : Int) - 1 := by unfold fnI; rw [if_pos e1]
      have p1 := rcN_pos hD hs.1
      have p2 := (rcN_spec hD (s + 1)).1
      have n1 := hD.n1
      rw [e1, e2]
      rw [decide_eq_true hs] at HS
      have w1 : IntKind.i64.wrap (s + 1) = s + 1 := wrap_in _ ⟨by omega, by omega⟩
      generalize rcN l (s + 1) = k at *
      have w2 : IntKind.i64.wrap ((k : Int) - 1) = (k : Int) - 1 := wrap_in _ ⟨by omega, by omega⟩
      clear e1 e2 p1 p2 he hD
      go_enter Try.func30, Try.ntmps30
      go_wp2_with fail
      refine HR.out.mono ?_
      rintro e w1 ⟨rfl, gg⟩
      have X := Lib.hid gg; clear gg
      go_wp2_with fail
      refine (HS.out _).mono ?_
      rintro e w2 ⟨rfl, rfl⟩
      go_wp2_with fail
      refine (HC.out _ X.out).mono ?_
      rintro e w3 ⟨rfl, gg⟩
      have X2 := Lib.hid (bel_trans X.out gg); clear gg
      go_wp2
      go_returns
      exact ⟨rfl, X2.out⟩
    · have e1 : fnE l s = 2 := by unfold fnE; rw [if_neg (by omega), if_neg hs]
      have e2 : fnI l s = 0 := by unfold fnI; rw [if_neg (by omega)]
      rw [e1, e2]
      rw [decide_eq_false hs] at HS
      go_enter Try.func30, Try.ntmps30
      go_wp2_with fail
      refine HR.out.mono ?_
      rintro e w1 ⟨rfl, gg⟩
      have X := Lib.hid gg; clear gg
      go_wp2_with fail
      refine (HS.out _).mono ?_
      rintro e w2 ⟨rfl, rfl⟩
      go_wp2
      go_returns
      exact ⟨rfl, X.out⟩
  · have e1 : fnE l s = 1 := by unfold fnE; rw [if_pos he]
    have e2 : fnI l s = 0 := by unfold fnI; rw [if_neg (by omega)]
    rw [e1, e2]
    rw [show (dnE l == 0) = false by simpa using he] at HR
    go_enter Try.func30, Try.ntmps30
    go_wp2_with fail
    refine HR.out.mono ?_
    rintro e w1 ⟨rfl, gg⟩
    have X := Lib.hid gg; clear gg
    go_wp2
    go_returns
    exact ⟨rfl, X.out⟩
end Go.Proofs.Ytadkhhkoankhnaa

/- Plain facts of layer 18: the density at a strength. No program stands in the facts of this text. -/
namespace Go.Proofs.Ytadkhhkoankhnaa

/-- the density between two rows -/
def btD (x0 r0 x1 r1 s : Int) : Int := r1 + (2 * (r0 - r1) * (x1 - s) + (x1 - x0)) / (2 * (x1 - x0))
theorem half_bd {D E L : Int} (hD : 0 ≤ D) (hE : 0 ≤ E) (hL : 0 < L) (hEL : E ≤ L) : 0 ≤ (2 * D * E + L) / (2 * L) ∧ (2 * D * E + L) / (2 * L) ≤ D := by
  have P : 0 ≤ D * E := Int.mul_nonneg hD hE
  have Q : D * E ≤ D * L := Int.mul_le_mul_of_nonneg_left hEL hD
  have e1 : 2 * D * E = 2 * (D * E) := by rw [Int.mul_assoc]
  rw [e1]
  constructor
  · exact Int.ediv_nonneg (by omega) (by omega)
  · have : (2 * (D * E) + L) / (2 * L) < D + 1 := by
      rw [Int.ediv_lt_iff_lt_mul (by omega)]
      have e2 : (D + 1) * (2 * L) = 2 * (D * L) + 2 * L := by rw [Int.add_mul, Int.one_mul, ← Int.mul_assoc, Int.mul_comm D 2, Int.mul_assoc]
      rw [e2]; omega
    omega
theorem btD_bd {x0 r0 x1 r1 s : Int} (h0 : x0 < x1) (h1 : x0 ≤ s) (h2 : s ≤ x1) (h3 : r1 ≤ r0) : r1 ≤ btD x0 r0 x1 r1 s ∧ btD x0 r0 x1 r1 s ≤ r0 := by
  unfold btD
  obtain ⟨a, b⟩ := half_bd (D := r0 - r1) (E := x1 - s) (L := x1 - x0) (by omega) (by omega) (by omega) (by omega)
  omega
theorem btD_anti {x0 r0 x1 r1 s t : Int} (h0 : x0 < x1) (h3 : r1 ≤ r0) (h : s ≤ t) : btD x0 r0 x1 r1 t ≤ btD x0 r0 x1 r1 s := by
  unfold btD
  have Q : (r0 - r1) * (x1 - t) ≤ (r0 - r1) * (x1 - s) := Int.mul_le_mul_of_nonneg_left (by omega) (by omega)
  have : (2 * (r0 - r1) * (x1 - t) + (x1 - x0)) / (2 * (x1 - x0)) ≤ (2 * (r0 - r1) * (x1 - s) + (x1 - x0)) / (2 * (x1 - x0)) := by
    refine Int.ediv_le_ediv (by omega) ?_
    rw [Int.mul_assoc, Int.mul_assoc]; omega
  omega
theorem btD_hi {x0 r0 x1 r1 : Int} (h0 : x0 < x1) : btD x0 r0 x1 r1 x1 = r1 := by
  unfold btD
  rw [Int.sub_self, Int.mul_zero, Int.zero_add, Int.ediv_eq_zero_of_lt (by omega) (by omega), Int.add_zero]
theorem btD_lo {x0 r0 x1 r1 : Int} (h0 : x0 < x1) : btD x0 r0 x1 r1 x0 = r0 := by
  unfold btD
  have e : 2 * (r0 - r1) * (x1 - x0) + (x1 - x0) = (x1 - x0) + (2 * (x1 - x0)) * (r0 - r1) := by
    rw [Int.add_comm, Int.mul_assoc, Int.mul_comm (r0 - r1), ← Int.mul_assoc]
  rw [e, Int.add_mul_ediv_left _ _ (by omega), Int.ediv_eq_zero_of_lt (by omega) (by omega)]
  omega
/-- the same from the row before -/
theorem btD_line {x0 r0 x1 r1 s : Int} (h0 : x0 < x1) : (2 * (r0 * (x1 - x0) + (r1 - r0) * (s - x0)) + (x1 - x0)) / (2 * (x1 - x0)) = btD x0 r0 x1 r1 s := by
  unfold btD
  have e : 2 * (r0 * (x1 - x0) + (r1 - r0) * (s - x0)) + (x1 - x0) = (2 * (r0 - r1) * (x1 - s) + (x1 - x0)) + (2 * (x1 - x0)) * r1 := by grind
  rw [e, Int.add_mul_ediv_left _ _ (by omega)]
  omega

/-- rows that rise in strength and don't in density -/
structure WR (l : List (Int × Int)) : Prop where
  n0 : 2 ≤ l.length
  n1 : l.length ≤ 128
  b : ∀ i, i < l.length → 0 ≤ gX l i ∧ gX l i ≤ 10000 ∧ 50000 ≤ gR l i ∧ gR l i ≤ 120000
  asc : ∀ i, i + 1 < l.length → gX l i < gX l (i + 1)
  down : ∀ i, i + 1 < l.length → gR l (i + 1) ≤ gR l i
theorem DR.wr {l : List (Int × Int)} (h : DR l) : WR l := ⟨h.n0, h.n1, h.b, h.asc, h.down⟩
theorem WR.chain {l : List (Int × Int)} (h : WR l) (j : Nat) : ∀ i : Nat, j < i → i < l.length → gX l j < gX l i ∧ gR l i ≤ gR l j
  | 0, h1, _ => by omega
  | i + 1, h1, h2 => by
    have a := h.asc i h2
    have b := h.down i h2
    by_cases e : j = i
    · subst e; exact ⟨a, b⟩
    · obtain ⟨c, d⟩ := WR.chain h j i (by omega) (by omega)
      exact ⟨by omega, by omega⟩
theorem WR.lt {l : List (Int × Int)} (h : WR l) {j i : Nat} (hj : j < i) (hi : i < l.length) : gX l j < gX l i := (h.chain j i hj hi).1
theorem WR.le {l : List (Int × Int)} (h : WR l) {j i : Nat} (hj : j ≤ i) (hi : i < l.length) : gX l j ≤ gX l i := by
  by_cases e : j = i
  · rw [e]; exact Int.le_refl _
  · exact Int.le_of_lt (h.chain j i (by omega) hi).1
theorem WR.ge {l : List (Int × Int)} (h : WR l) {j i : Nat} (hj : j ≤ i) (hi : i < l.length) : gR l i ≤ gR l j := by
  by_cases e : j = i
  · rw [e]; exact Int.le_refl _
  · exact (h.chain j i (by omega) hi).2
/-- the index of the row behind a strength, and the density at it -/
def atI (l : List (Int × Int)) (s : Int) : Nat := 1 + fst (fun i => decide (s ≤ gX l (i + 1))) (l.length - 2)
def atD (l : List (Int × Int)) (s : Int) : Int := btD (gX l (atI l s - 1)) (gR l (atI l s - 1)) (gX l (atI l s)) (gR l (atI l s)) s
theorem atI_specW {l : List (Int × Int)} (h : WR l) {s : Int} (h0 : gX l 0 ≤ s) (h1 : s ≤ gX l (l.length - 1)) :
    1 ≤ atI l s ∧ atI l s < l.length ∧ gX l (atI l s - 1) ≤ s ∧ s ≤ gX l (atI l s) := by
  have n0 := h.n0
  obtain ⟨s1, s2⟩ := fst_spec (fun i => decide (s ≤ gX l (i + 1))) (l.length - 2)
  have le := fst_le (fun i => decide (s ≤ gX l (i + 1))) (l.length - 2)
  unfold atI
  generalize fst (fun i => decide (s ≤ gX l (i + 1))) (l.length - 2) = k at *
  refine ⟨by omega, by omega, ?_, ?_⟩
  · rw [show 1 + k - 1 = k by omega]
    rcases k with _ | k
    · exact h0
    · have := of_decide_eq_false (s1 k (by omega)); omega
  · by_cases hk : k < l.length - 2
    · have := of_decide_eq_true (s2 hk)
      rwa [Nat.add_comm] at this
    · rw [show 1 + k = l.length - 1 by omega]; exact h1
theorem atI_spec {l : List (Int × Int)} (h : DR l) {s : Int} (h0 : 0 ≤ s) (h1 : s ≤ 10000) :
    1 ≤ atI l s ∧ atI l s < l.length ∧ gX l (atI l s - 1) ≤ s ∧ s ≤ gX l (atI l s) := atI_specW h.wr (by rw [h.z]; exact h0) (by rw [h.t]; exact h1)
theorem DR.lt {l : List (Int × Int)} (h : DR l) {j i : Nat} (hj : j < i) (hi : i < l.length) : gX l j < gX l i := (h.chain j i hj hi).1
theorem DR.ge {l : List (Int × Int)} (h : DR l) {j i : Nat} (hj : j ≤ i) (hi : i < l.length) : gR l i ≤ gR l j := by
  by_cases e : j = i
  · rw [e]; exact Int.le_refl _
  · exact (h.chain j i (by omega) hi).2
/-- between any two neighbours that enclose the strength -/
theorem atD_eqW {l : List (Int × Int)} (h : WR l) {s : Int} {k : Nat} (hk : k + 1 < l.length) (h1 : gX l k ≤ s) (h2 : s ≤ gX l (k + 1)) : atD l s = btD (gX l k) (gR l k) (gX l (k + 1)) (gR l (k + 1)) s := by
  have b1 := h.le (Nat.zero_le k) (by omega)
  have b2 := h.le (show k + 1 ≤ l.length - 1 by omega) (by omega)
  obtain ⟨i1, i2, i3, i4⟩ := atI_specW h (s := s) (by omega) (by omega)
  unfold atD
  generalize atI l s = i at *
  obtain ⟨i, rfl⟩ : ∃ j, i = j + 1 := ⟨i - 1, by omega⟩
  rw [show i + 1 - 1 = i by omega] at *
  rcases Nat.lt_trichotomy i k with c | c | c
  · have := h.le (show i + 1 ≤ k by omega) (by omega)
    have e : s = gX l (i + 1) := by omega
    have e2 : i + 1 = k := by
      rcases Nat.lt_or_ge (i + 1) k with g | g
      · have := h.lt g (by omega); omega
      · omega
    rw [e, btD_hi (h.lt (by omega) (by omega)), e2, btD_lo (h.lt (by omega) (by omega))]
  · rw [c]
  · have := h.le (show k + 1 ≤ i by omega) (by omega)
    have e : s = gX l i := by omega
    have e2 : k + 1 = i := by
      rcases Nat.lt_or_ge (k + 1) i with g | g
      · have := h.lt g (by omega); omega
      · omega
    rw [e, btD_lo (h.lt (by omega) (by omega)), ← e2, btD_hi (h.lt (by omega) (by omega))]
theorem atD_eq {l : List (Int × Int)} (h : DR l) {s : Int} {k : Nat} (hk : k + 1 < l.length) (h1 : gX l k ≤ s) (h2 : s ≤ gX l (k + 1)) : atD l s = btD (gX l k) (gR l k) (gX l (k + 1)) (gR l (k + 1)) s := atD_eqW h.wr hk h1 h2
theorem atD_row {l : List (Int × Int)} (h : DR l) {k : Nat} (hk : k < l.length) : atD l (gX l k) = gR l k := by
  have n0 := h.n0
  rcases k with _ | k
  · rw [atD_eq h (k := 0) (by omega) (Int.le_refl _) (Int.le_of_lt (h.lt (by omega) (by omega))), btD_lo (h.lt (by omega) (by omega))]
  · rw [atD_eq h (k := k) hk (Int.le_of_lt (h.lt (by omega) hk)) (Int.le_refl _), btD_hi (h.lt (by omega) (by omega))]
theorem atD_bd {l : List (Int × Int)} (h : DR l) {s : Int} (h0 : 0 ≤ s) (h1 : s ≤ 10000) :
    gR l (atI l s) ≤ atD l s ∧ atD l s ≤ gR l (atI l s - 1) ∧ 50000 ≤ atD l s ∧ atD l s ≤ 120000 := by
  obtain ⟨i1, i2, i3, i4⟩ := atI_spec h h0 h1
  have a := btD_bd (h.lt (j := atI l s - 1) (i := atI l s) (by omega) i2) i3 i4 (h.ge (j := atI l s - 1) (by omega) i2)
  have b := h.b _ i2
  have c := h.b (atI l s - 1) (by omega)
  unfold atD
  omega
theorem atD_anti {l : List (Int × Int)} (h : DR l) {s t : Int} (h0 : 0 ≤ s) (h1 : t ≤ 10000) (hst : s ≤ t) : atD l t ≤ atD l s := by
  obtain ⟨i1, i2, i3, i4⟩ := atI_spec h h0 (by omega)
  obtain ⟨k1, k2, k3, k4⟩ := atI_spec h (s := t) (by omega) h1
  have a := atD_bd h h0 (s := s) (by omega)
  have b := atD_bd h (s := t) (by omega) h1
  rcases Nat.lt_or_ge (atI l t) (atI l s) with c | c
  · have := h.le (show atI l t ≤ atI l s - 1 by omega) (by omega)
    have e : s = t := by omega
    subst e
    exact Int.le_refl _
  · by_cases e : atI l s = atI l t
    · unfold atD
      rw [e]
      exact btD_anti (h.lt (by omega) k2) (h.ge (by omega) k2) hst
    · have := h.ge (show atI l s ≤ atI l t - 1 by omega) (by omega)
      omega

/-- the least strength whose density is less than a number, or what follows the greatest strength -/
def blN (l : List (Int × Int)) (n : Int) : Nat := fst (fun s => decide (atD l (s : Int) < n)) 10001
theorem blN_mono {l : List (Int × Int)} (h : DR l) (n : Int) : ∀ a b : Nat, a ≤ b → b < 10001 → decide (atD l (a : Int) < n) = true → decide (atD l (b : Int) < n) = true := fun a b hab hb ha => by
  have := of_decide_eq_true ha
  have := atD_anti h (s := a) (t := b) (by omega) (by omega) (by omega)
  exact decide_eq_true (by omega)
theorem blN_spec {l : List (Int × Int)} (h : DR l) (n : Int) : blN l n ≤ 10001 ∧ (∀ s : Int, 0 ≤ s → s < blN l n → n ≤ atD l s) ∧ ∀ s : Int, (blN l n : Int) ≤ s → s ≤ 10000 → atD l s < n := by
  obtain ⟨s1, s2⟩ := fst_spec (fun s => decide (atD l (s : Int) < n)) 10001
  have le := fst_le (fun s => decide (atD l (s : Int) < n)) 10001
  refine ⟨le, fun s h0 hs => ?_, fun s hs h1 => ?_⟩
  · have := of_decide_eq_false (s1 s.toNat (by unfold blN at hs; omega))
    rw [Int.toNat_of_nonneg h0] at this
    omega
  · have a := of_decide_eq_true (s2 (by unfold blN at hs; omega))
    have := atD_anti h (s := (blN l n : Int)) (t := s) (by omega) h1 hs
    unfold blN at this hs
    omega
def denE (l : List (Int × Int)) (s : Int) : Int := if dnE l ≠ 0 then 1 else if 0 ≤ s ∧ s ≤ 10000 then 0 else 2
def denV (l : List (Int × Int)) (s : Int) : Int := if denE l s = 0 then atD l s else 0
theorem denE_zero {l : List (Int × Int)} {s : Int} : denE l s = 0 ↔ DR l ∧ 0 ≤ s ∧ s ≤ 10000 := by
  unfold denE
  by_cases h : dnE l = 0
  · rw [if_neg (by omega)]
    have hD := dnE_zero.1 h
    by_cases g : 0 ≤ s ∧ s ≤ 10000
    · rw [if_pos g]; exact ⟨fun _ => ⟨hD, g⟩, fun _ => rfl⟩
    · rw [if_neg g]; exact ⟨fun e => (by cases e), fun e => absurd e.2 g⟩
  · rw [if_pos h]; exact ⟨fun e => (by cases e), fun e => absurd (dnE_zero.2 e.1) h⟩
theorem denV_ok {l : List (Int × Int)} {s : Int} (h : denE l s = 0) : denV l s = atD l s := by unfold denV; rw [if_pos h]
theorem denV_no {l : List (Int × Int)} {s : Int} (h : denE l s ≠ 0) : denV l s = 0 := by unfold denV; rw [if_neg h]
end Go.Proofs.Ytadkhhkoankhnaa

/- Package interpolate: the density between two rows, and at a strength. -/
namespace Go.Proofs.Ytadkhhkoankhnaa
open Go.RowKit

set_option maxHeartbeats 4000000 in
theorem itBt_any (x0 r0 x1 r1 s : Int) (w : World) (hx0 : 0 ≤ x0) (hx : x0 < x1) (hx1 : x1 ≤ 10000) (hs0 : x0 ≤ s) (hs1 : s ≤ x1) (hr1 : 0 ≤ r1) (hr : r1 ≤ r0) (hr0 : r0 ≤ 120000) :
    Calls Try.prog 75 #[.agg #[.int .i64 x0, .int .i64 r0], .agg #[.int .i64 x1, .int .i64 r1], .int .i64 s] w fun e w' => e = .returned (.int .i64 (btD x0 r0 x1 r1 s)) ∧ Below w.heap.size w w' := by
  obtain ⟨q0, q1⟩ := half_bd (D := r0 - r1) (E := x1 - s) (L := x1 - x0) (by omega) (by omega) (by omega) (by omega)
  have P : 0 ≤ (r0 - r1) * (x1 - s) := Int.mul_nonneg (by omega) (by omega)
  have P1 : (r0 - r1) * (x1 - s) ≤ 120000 * 10000 := Int.mul_le_mul (by omega) (by omega) (by omega) (by omega)
  have e0 : btD x0 r0 x1 r1 s = r1 + (2 * (r0 - r1) * (x1 - s) + (x1 - x0)) / (2 * (x1 - x0)) := rfl
  rw [e0]
  have p2 : 2 * (r0 - r1) * (x1 - s) = 2 * ((r0 - r1) * (x1 - s)) := by rw [Int.mul_assoc]
  generalize hQ : (2 * (r0 - r1) * (x1 - s) + (x1 - x0)) / (2 * (x1 - x0)) = Q at *
  have w1 : IntKind.i64.wrap (x1 - x0) = x1 - x0 := wrap_in _ ⟨by omega, by omega⟩
  have w2 : IntKind.i64.wrap (r0 - r1) = r0 - r1 := wrap_in _ ⟨by omega, by omega⟩
  have w3 : IntKind.i64.wrap (2 * (r0 - r1)) = 2 * (r0 - r1) := wrap_in _ ⟨by omega, by omega⟩
  have w4 : IntKind.i64.wrap (x1 - s) = x1 - s := wrap_in _ ⟨by omega, by omega⟩
  have w5 : IntKind.i64.wrap (2 * (r0 - r1) * (x1 - s)) = 2 * (r0 - r1) * (x1 - s) := wrap_in _ ⟨by omega, by omega⟩
  have w6 : IntKind.i64.wrap (2 * (r0 - r1) * (x1 - s) + (x1 - x0)) = 2 * (r0 - r1) * (x1 - s) + (x1 - x0) := wrap_in _ ⟨by omega, by omega⟩
  have w7 : IntKind.i64.wrap (2 * (x1 - x0)) = 2 * (x1 - x0) := wrap_in _ ⟨by omega, by omega⟩
  have nz : ¬ 2 * (x1 - x0) = 0 := by omega
  have nz2 : (2 * (x1 - x0) == 0) = false := by rw [beq_eq_false_iff_ne]; exact nz
  have w8 : IntKind.i64.wrap ((2 * (r0 - r1) * (x1 - s) + (x1 - x0)).tdiv (2 * (x1 - x0))) = Q := by
    rw [Int.tdiv_eq_ediv_of_nonneg (by omega), hQ]; exact wrap_in _ ⟨by omega, by omega⟩
  have w9 : IntKind.i64.wrap (r1 + Q) = r1 + Q := wrap_in _ ⟨by omega, by omega⟩
  have nz3 : (x1 - x0 == 0) = false := by rw [beq_eq_false_iff_ne]; omega
  have nz4 : ¬ x1 - x0 = 0 := by omega
  have X : Hid (∀ m m2, Below w.heap.size w ((((w.alloc (.cells #[.int .i64 x0, .int .i64 r0] 42)).alloc (.cells #[.int .i64 x1, .int .i64 r1] 42)).drewN m).drewN m2)) := Lib.hid fun m m2 => bel_trans (bel_alloc (bel_alloc (Below.refl _ _))) (bel_drew2 _ _ _)
  go_enter Try.func75, Try.ntmps75
  go_wp2_with fail
  go_quiet (fail)
  go_wp2_with fail
  go_quiet (fail)
  go_wp2
  go_returns
  refine ⟨?_, X.out _ _⟩
  show Ending.returned (.int .i64 (wrap64 (r1 + (2 * ((r0 - r1) * (x1 - s)) + (x1 - x0)) / (2 * (x1 - x0))))) = _
  rw [← p2, hQ, IntWalk.wrap64_in _ ⟨by omega, by omega⟩]
set_option maxHeartbeats 4000000 in
theorem itA1_any (i q1 q2 b off n cap : Nat) (x : Int) (l : List (Int × Int)) (w : World) (hi : i + 1 < n) (n1 : n ≤ 1000) (c1 : w.cell? ⟨q1, 0, none⟩ = some (.slice (some ⟨b, off, none⟩) n cap)) (c2 : w.cell? ⟨q2, 0, none⟩ = some (.int .i64 x))
    (c3 : w.cell? ⟨b, off + (i + 1) * 2, none⟩ = some (.int .i64 (gX l (i + 1)))) :
    Calls Try.prog 74 #[.int .i64 i, .pointer (some ⟨q1, 0, none⟩), .pointer (some ⟨q2, 0, none⟩)] w fun e w' => e = .returned (.bool (decide (x ≤ gX l (i + 1)))) ∧ Below w.heap.size w w' := by
  have w1 : IntKind.i64.wrap ((i : Int) + 1) = ((i + 1 : Nat) : Int) := by rw [wrap_in _ ⟨by omega, by omega⟩]; omega
  have l0 : ((i + 1 : Nat) : Int) < (n : Int) := by omega
  have X1 : Hid (∀ m, Below w.heap.size w (w.drewN m)) := Lib.hid fun m => ⟨rfl, rfl, rfl, Nat.le_refl _, fun i hi => rfl⟩
  generalize gX l (i + 1) = y at *
  generalize i + 1 = j at *
  go_enter Try.func74, Try.ntmps74
  go_wp2_with fail
  go_quiet (fail)
  go_wp2
  go_returns
  exact ⟨rfl, X1.out _⟩
set_option maxHeartbeats 8000000 in
set_option maxRecDepth 100000 in
theorem itAt_anyW (v : Value) (l : List (Int × Int)) (x : Int) (w : World) (hv : Pts w v l) (h : WR l) (h0 : gX l 0 ≤ x) (h1 : x ≤ gX l (l.length - 1)) :
    Calls Try.prog 50 #[v, .int .i64 x] w fun e w' => e = .returned (.int .i64 (atD l x)) ∧ Below w.heap.size w w' := by
  have n0 := h.n0
  have n1 := h.n1
  obtain ⟨i1, i2, i3, i4⟩ := atI_specW h h0 h1
  have bt := fun W => itBt_any (gX l (atI l x - 1)) (gR l (atI l x - 1)) (gX l (atI l x)) (gR l (atI l x)) x W (h.b _ (by omega)).1 (h.lt (by omega) i2) (h.b _ i2).2.1 i3 i4 (by have := (h.b _ i2).2.2.1; omega) (h.ge (by omega) i2) (h.b _ (by omega)).2.2.2
  obtain ⟨a, cap, rfl, hl, hh⟩ := hv
  rcases hh with hh | ⟨b, off, rfl, hb, hc⟩
  · omega
  have hmf : ∀ (fn : Fn) (first cap : Array Value) (w : World), (Instr.makeFunc fn first cap).run Try.prog w = .ok (.func fn first cap) w := fun _ _ _ _ => rfl
  have HS : Hid (∀ W q1 q2, Below w.heap.size w W → Boxed W q1 22 (.slice (some ⟨b, off, none⟩) l.length cap) → Boxed W q2 3 (.int .i64 x) → Calls Try.prog 73 #[.int .i64 ((l.length - 2 : Nat) : Int), .func (.func 74) #[] #[.pointer (some ⟨q1, 0, none⟩), .pointer (some ⟨q2, 0, none⟩)]] W fun e w' => e = .returned (.int .i64 (fst (fun i => decide (x ≤ gX l (i + 1))) (l.length - 2) : Nat)) ∧ Below W.heap.size W w') := Lib.hid fun W q1 q2 hW h1 h2 =>
    search_bel 74 #[.pointer (some ⟨q1, 0, none⟩), .pointer (some ⟨q2, 0, none⟩)] (l.length - 2) (fun i => decide (x ≤ gX l (i + 1))) W (enters_of Try.func74 (by kernel_rfl) rfl) (by omega)
      (Lib.hid fun i W2 hi hW2 => itA1_any i q1 q2 b off l.length cap x l W2 (by omega) (by omega) (cell_bel h1.cell hW2) (cell_bel h2.cell hW2) (cell_bel (cell_bel (hc (i + 1) (by omega)).1 hW) hW2))
      (Lib.hid fun i j hij hj hp => by
        have := of_decide_eq_true hp
        have := h.le (show i + 1 ≤ j + 1 by omega) (by omega)
        exact decide_eq_true (by omega))
  have B0 := Lib.hid ((Boxed.new w 22 (.slice (some ⟨b, off, none⟩) l.length cap)).alloc (.cells #[.int .i64 x] 3))
  have B1 : Hid (Boxed ((w.alloc (.cells #[.slice (some ⟨b, off, none⟩) l.length cap] 22)).alloc (.cells #[.int .i64 x] 3)) (w.heap.size + 1) 3 (.int .i64 x)) := Lib.hid (by
    have := Boxed.new (w.alloc (.cells #[.slice (some ⟨b, off, none⟩) l.length cap] 22)) 3 (.int .i64 x)
    rwa [World.size_alloc] at this)
  have X0 : Hid (Below w.heap.size w ((w.alloc (.cells #[.slice (some ⟨b, off, none⟩) l.length cap] 22)).alloc (.cells #[.int .i64 x] 3))) := Lib.hid (bel_alloc (bel_alloc (Below.refl _ _)))
  have c0 := B0.out.cell
  have ek : atI l x = 1 + fst (fun i => decide (x ≤ gX l (i + 1))) (l.length - 2) := rfl
  have eD : atD l x = btD (gX l (atI l x - 1)) (gR l (atI l x - 1)) (gX l (atI l x)) (gR l (atI l x)) x := rfl
  rw [eD]
  have wn : IntKind.i64.wrap ((l.length : Int) - 2) = ((l.length - 2 : Nat) : Int) := by rw [wrap_in _ ⟨by omega, by omega⟩]; omega
  generalize atI l x = i at *
  obtain ⟨k, rfl⟩ : ∃ k, i = k + 1 := ⟨i - 1, by omega⟩
  rw [show fst (fun i => decide (x ≤ gX l (i + 1))) (l.length - 2) = k by omega] at HS
  rw [show k + 1 - 1 = k by omega] at *
  have wk : IntKind.i64.wrap (1 + (k : Int)) = ((k + 1 : Nat) : Int) := by rw [wrap_in _ ⟨by omega, by omega⟩]; omega
  have wk2 : IntKind.i64.wrap (((k + 1 : Nat) : Int) - 1) = (k : Int) := by rw [wrap_in _ ⟨by omega, by omega⟩]; omega
  have wk3 : IntKind.i64.wrap ((k : Int) + 1 - 1) = (k : Int) := by rw [wrap_in _ ⟨by omega, by omega⟩]; omega
  have l0 : (k : Int) < (l.length : Int) := by omega
  have l1 : ((k + 1 : Nat) : Int) < (l.length : Int) := by omega
  have HC : Hid (∀ W, Below w.heap.size w W → (W.cell? ⟨b, off + k * 2, none⟩ = some (.int .i64 (gX l k)) ∧ W.cell? ⟨b, off + k * 2 + 1, none⟩ = some (.int .i64 (gR l k))) ∧ (W.cell? ⟨b, off + (k + 1) * 2, none⟩ = some (.int .i64 (gX l (k + 1))) ∧ W.cell? ⟨b, off + (k + 1) * 2 + 1, none⟩ = some (.int .i64 (gR l (k + 1))))) := Lib.hid fun W hW => ⟨⟨cell_bel (hc k (by omega)).1 hW, cell_bel (hc k (by omega)).2 hW⟩, ⟨cell_bel (hc (k + 1) (by omega)).1 hW, cell_bel (hc (k + 1) (by omega)).2 hW⟩⟩
  replace bt := Lib.hid bt
  clear hc ek eD
  generalize gX l k = x0 at *
  generalize gR l k = r0 at *
  generalize gX l (k + 1) = x1 at *
  generalize gR l (k + 1) = r1 at *
  generalize l.length - 2 = nn at *
  generalize l.length = n at *
  generalize btD x0 r0 x1 r1 x = V at *
  generalize hk1 : k + 1 = k1 at *
  go_enter Try.func50, Try.ntmps50
  go_wp2_with fail
  refine (HS.out _ _ _ X0.out B0.out B1.out).mono ?_
  rintro e w1 ⟨rfl, gg⟩
  replace B0 := Lib.hid (bxd_below B0.out gg)
  replace B1 := Lib.hid (bxd_below B1.out gg)
  have X1 := Lib.hid (bel_trans X0.out gg); clear gg
  have c0 := B0.out.cell
  have c1 := B1.out.cell
  obtain ⟨⟨f0, f1⟩, f2, f3⟩ := HC.out _ X1.out
  go_wp2_with fail
  go_still_tail 10, (by kernel_rfl)
  change wpList _ _ _ _ _ w1.drew
  replace X1 := Lib.hid (bel_trans X1.out (bel_drew w1))
  generalize w1.drew = wq at *
  go_wp2_with fail
  refine (bt.out _).mono ?_
  rintro e w2 ⟨rfl, gg⟩
  replace X1 := Lib.hid (bel_trans X1.out gg); clear gg
  go_wp2
  go_returns
  exact ⟨rfl, X1.out⟩
theorem itAt_any (v : Value) (l : List (Int × Int)) (x : Int) (w : World) (hv : Pts w v l) (h : DR l) (h0 : 0 ≤ x) (h1 : x ≤ 10000) :
    Calls Try.prog 50 #[v, .int .i64 x] w fun e w' => e = .returned (.int .i64 (atD l x)) ∧ Below w.heap.size w w' :=
  itAt_anyW v l x w hv h.wr (by rw [h.z]; exact h0) (by rw [h.t]; exact h1)
end Go.Proofs.Ytadkhhkoankhnaa

/- Package interpolate: Density, Strength, Range. -/
namespace Go.Proofs.Ytadkhhkoankhnaa
open Go.RowKit

theorem itRt_any (v : Value) (l : List (Int × Int)) (w : World) (hv : Pts w v l) :
    Calls Try.prog 49 #[v] w fun e w' => e = .returned (.bool (dnE l == 0)) ∧ Below w.heap.size w w' := by
  have H := Lib.hid (dnChk_any v l w hv)
  generalize dnI l = I at *
  generalize dnE l = E at *
  go_enter Try.func49, Try.ntmps49
  go_wp2_with fail
  refine H.out.mono ?_
  rintro e w1 ⟨rfl, gg⟩
  have X := Lib.hid gg; clear gg
  go_wp2
  go_returns
  exact ⟨rfl, X.out⟩
theorem dnZ {l : List (Int × Int)} : ((dnE l == 0) = true ↔ DR l) := by rw [beq_iff_eq, dnE_zero]
set_option maxHeartbeats 4000000 in
theorem itDen_any (v : Value) (l : List (Int × Int)) (s : Int) (w : World) (hv : Pts w v l) :
    Calls Try.prog 17 #[v, .int .i64 s] w fun e w' => e = .returned (.tuple #[.int .i64 (denV l s), .int .i64 (denE l s)]) ∧ Below w.heap.size w w' := by
  have HR := Lib.hid (itRt_any v l w hv)
  by_cases he : dnE l = 0
  · have hD := dnE_zero.1 he
    rw [show (dnE l == 0) = true by simpa using he] at HR
    by_cases h0 : s < 0
    · have e1 : denE l s = 2 := by unfold denE; rw [if_neg (by omega), if_neg (by omega)]
      have e2 : denV l s = 0 := denV_no (by omega)
      rw [e1, e2]
      have d0 : decide (s < 0) = true := decide_eq_true h0
      go_enter Try.func17, Try.ntmps17
      go_wp2_with fail
      refine HR.out.mono ?_
      rintro e w1 ⟨rfl, gg⟩
      have X := Lib.hid gg; clear gg
      go_wp2
      go_returns
      exact ⟨rfl, X.out⟩
    · have d0 : decide (s < 0) = false := decide_eq_false h0
      by_cases h1 : 10000 < s
      · have e1 : denE l s = 2 := by unfold denE; rw [if_neg (by omega), if_neg (by omega)]
        have e2 : denV l s = 0 := denV_no (by omega)
        rw [e1, e2]
        have d1 : decide (10000 < s) = true := decide_eq_true h1
        go_enter Try.func17, Try.ntmps17
        go_wp2_with fail
        refine HR.out.mono ?_
        rintro e w1 ⟨rfl, gg⟩
        have X := Lib.hid gg; clear gg
        go_wp2
        go_returns
        exact ⟨rfl, X.out⟩
      · have e1 : denE l s = 0 := denE_zero.2 ⟨hD, by omega, by omega⟩
        have e2 : denV l s = atD l s := denV_ok e1
        have HC := Lib.hid (fun W (hW : Below w.heap.size w W) => itAt_any v l s W (hv.below hW) hD (by omega) (by omega))
        rw [e1, e2]
        have d1 : decide (10000 < s) = false := decide_eq_false h1
        clear e1 e2
        generalize atD l s = V at *
        go_enter Try.func17, Try.ntmps17
        go_wp2_with fail
        refine HR.out.mono ?_
        rintro e w1 ⟨rfl, gg⟩
        have X := Lib.hid gg; clear gg
        go_wp2_with fail
        refine (HC.out _ X.out).mono ?_
        rintro e w2 ⟨rfl, gg⟩
        replace X := Lib.hid (bel_trans X.out gg); clear gg
        go_wp2
        go_returns
        exact ⟨rfl, X.out⟩
  · have e1 : denE l s = 1 := by unfold denE; rw [if_pos he]
    have e2 : denV l s = 0 := denV_no (by omega)
    rw [e1, e2]
    rw [show (dnE l == 0) = false by simpa using he] at HR
    go_enter Try.func17, Try.ntmps17
    go_wp2_with fail
    refine HR.out.mono ?_
    rintro e w1 ⟨rfl, gg⟩
    have X := Lib.hid gg; clear gg
    go_wp2
    go_returns
    exact ⟨rfl, X.out⟩

set_option maxHeartbeats 16000000 in
set_option maxRecDepth 100000 in
/-- whether the density at a strength is less than a number -/
theorem itB1_any (i q1 q2 : Nat) (a : Option Addr) (n cap : Nat) (y Q : Int) (w : World)
    (c1 : w.cell? ⟨q1, 0, none⟩ = some (.slice a n cap)) (c2 : w.cell? ⟨q2, 0, none⟩ = some (.int .i64 y)) (h1 : q1 < w.heap.size) (h2 : q2 < w.heap.size)
    (HA : Hid (∀ W, Below w.heap.size w W → Calls Try.prog 50 #[.slice a n cap, .int .i64 i] W fun e w' => e = .returned (.int .i64 Q) ∧ Below W.heap.size W w')) :
    Calls Try.prog 79 #[.int .i64 i, .pointer (some ⟨q1, 0, none⟩), .pointer (some ⟨q2, 0, none⟩)] w fun e w' => e = .returned (.bool (decide (Q < y))) ∧ Below w.heap.size w w' := by
  have CE : Hid (∀ W, Below w.heap.size w W → W.cell? ⟨q1, 0, none⟩ = some (.slice a n cap) ∧ W.cell? ⟨q2, 0, none⟩ = some (.int .i64 y)) := Lib.hid fun W hW => ⟨cell_bel c1 hW, cell_bel c2 hW⟩
  have X0 := Lib.hid (bel_drew w)
  go_enter Try.func79, Try.ntmps79
  go_wp2_with fail
  go_region_held3 (fun w' => w'.cell? ⟨q1, 0, none⟩ = some (.slice a n cap) ∧ w'.cell? ⟨q2, 0, none⟩ = some (.int .i64 y)) (go_keep) (first
    | (go_at_call 50; (with_reducible refine (HA.out _ X0.out).mono ?_); rintro e w3 ⟨rfl, gg⟩; have A1 := Lib.hid (bel_trans X0.out gg); obtain ⟨c1, c2⟩ := CE.out w3 A1.out; clear gg))
  all_goals go_wp2
  all_goals go_returns
  all_goals exact ⟨rfl, A1.out⟩
set_option maxHeartbeats 8000000 in
set_option maxRecDepth 100000 in
theorem itBl_any (v : Value) (l : List (Int × Int)) (y : Int) (w : World) (hv : Pts w v l) (h : DR l) :
    Calls Try.prog 54 #[v, .int .i64 y] w fun e w' => e = .returned (.int .i64 (blN l y : Nat)) ∧ Below w.heap.size w w' := by
  have hv2 := hv
  obtain ⟨a, cap, rfl, _, _⟩ := hv.shape
  have hmf : ∀ (fn : Fn) (first cap : Array Value) (w : World), (Instr.makeFunc fn first cap).run Try.prog w = .ok (.func fn first cap) w := fun _ _ _ _ => rfl
  have HS : Hid (∀ W q1 q2, Below w.heap.size w W → Boxed W q1 22 (.slice a l.length cap) → Boxed W q2 3 (.int .i64 y) → Calls Try.prog 73 #[.int .i64 10001, .func (.func 79) #[] #[.pointer (some ⟨q1, 0, none⟩), .pointer (some ⟨q2, 0, none⟩)]] W fun e w' => e = .returned (.int .i64 (blN l y : Nat)) ∧ Below W.heap.size W w') := Lib.hid fun W q1 q2 hW h1 h2 =>
    search_bel 79 #[.pointer (some ⟨q1, 0, none⟩), .pointer (some ⟨q2, 0, none⟩)] 10001 (fun s => decide (atD l (s : Int) < y)) W (enters_of Try.func79 (by kernel_rfl) rfl) (by omega)
      (Lib.hid fun i W2 hi hW2 => itB1_any i q1 q2 a l.length cap y (atD l (i : Int)) W2 (cell_bel h1.cell hW2) (cell_bel h2.cell hW2) (Nat.lt_of_lt_of_le h1.lt hW2.size) (Nat.lt_of_lt_of_le h2.lt hW2.size)
        (Lib.hid fun W3 hW3 => itAt_any _ l _ W3 (((hv2.below hW).below hW2).below hW3) h (by omega) (by omega)))
      (Lib.hid (blN_mono h y))
  have B0 := Lib.hid ((Boxed.new w 22 (.slice a l.length cap)).alloc (.cells #[.int .i64 y] 3))
  have B1 : Hid (Boxed ((w.alloc (.cells #[.slice a l.length cap] 22)).alloc (.cells #[.int .i64 y] 3)) (w.heap.size + 1) 3 (.int .i64 y)) := Lib.hid (by
    have := Boxed.new (w.alloc (.cells #[.slice a l.length cap] 22)) 3 (.int .i64 y)
    rwa [World.size_alloc] at this)
  have X0 : Hid (Below w.heap.size w ((w.alloc (.cells #[.slice a l.length cap] 22)).alloc (.cells #[.int .i64 y] 3))) := Lib.hid (bel_alloc (bel_alloc (Below.refl _ _)))
  generalize blN l y = k at *
  generalize l.length = n at *
  clear hv hv2
  go_enter Try.func54, Try.ntmps54
  go_wp2_with fail
  refine (HS.out _ _ _ X0.out B0.out B1.out).mono ?_
  rintro e w1 ⟨rfl, gg⟩
  have X1 := Lib.hid (bel_trans X0.out gg); clear gg
  go_wp2
  go_returns
  exact ⟨rfl, X1.out⟩
end Go.Proofs.Ytadkhhkoankhnaa

/- Package density's reference: At, Find. -/
namespace Go.Proofs.Ytadkhhkoankhnaa
open Go.RowKit

/-- the last of the first rows whose strength is not greater -/
def atN (l : List (Int × Int)) (s : Int) : Nat → Nat
  | 0 => 0
  | k + 1 => if gX l k ≤ s then k else atN l s k
theorem atN_is {l : List (Int × Int)} (h : DR l) {s : Int} (hs : 0 ≤ s) : ∀ k, k ≤ l.length → 1 ≤ k → (atN l s k : Int) = if k ≤ rcN l (s + 1) then (k : Int) - 1 else (rcN l (s + 1) : Int) - 1
  | 0, _, h1 => by omega
  | k + 1, hk, _ => by
    obtain ⟨r1, r2, r3⟩ := rcN_spec h (s + 1)
    have rp := rcN_pos h hs
    unfold atN
    by_cases e : gX l k ≤ s
    · rw [if_pos e]
      have : k + 1 ≤ rcN l (s + 1) := by
        rcases Nat.lt_or_ge k (rcN l (s + 1)) with g | g
        · exact g
        · have := r3 k g (by omega); omega
      rw [if_pos this]; omega
    · rw [if_neg e]
      have h2 : ¬ k + 1 ≤ rcN l (s + 1) := fun g => by have := r2 k (by omega); omega
      rw [if_neg h2, atN_is h hs k (by omega) (by omega)]
      by_cases g : k ≤ rcN l (s + 1)
      · rw [if_pos g]; omega
      · rw [if_neg g]
theorem atN_rc {l : List (Int × Int)} (h : DR l) {s : Int} (hs : 0 ≤ s) : (atN l s l.length : Int) = (rcN l (s + 1) : Int) - 1 := by
  have n0 := h.n0
  have r1 := (rcN_spec h (s + 1)).1
  rw [atN_is h hs l.length (Nat.le_refl _) (by omega)]
  split <;> omega
set_option maxHeartbeats 8000000 in
theorem rnAt_some (b off n cap : Nat) (l : List (Int × Int)) (s : Int) (w : World) (n1 : n ≤ 1000) (hb : b < w.heap.size) (hc : Hid (∀ j, j < n → w.cell? ⟨b, off + j * 2, none⟩ = some (.int .i64 (gX l j)))) :
    Calls Try.prog 77 #[.slice (some ⟨b, off, none⟩) n cap, .int .i64 s] w fun e w' => e = .returned (.int .i64 (atN l s n : Nat)) ∧ Below w.heap.size w w' := by
  go_enter Try.func77, Try.ntmps77
  go_wp2_with fail
  go_loopw [5, 6] (fun aa ii wr => ∃ k : Nat, k ≤ n ∧ ii = .int .i64 (k : Int) ∧ aa = .int .i64 (atN l s k : Nat) ∧ Hid (Below w.heap.size w wr)) (fun _ ii _ => n - (intOf ii).toNat)
  case atStart => exact ⟨0, Nat.zero_le _, rfl, rfl, Below.refl _ _⟩
  case round =>
    obtain ⟨k, hk, rfl, rfl, hB⟩ := hrel
    by_cases hlt : k < n
    · have c0 := cell_bel (hc.out k hlt) hB.out
      have l0 : (k : Int) < (n : Int) := by omega
      by_cases e : gX l k ≤ s
      · have hN : Hid (atN l s (k + 1) = k) := Lib.hid (by unfold atN; rw [if_pos e])
        have d0 : decide (gX l k ≤ s) = true := decide_eq_true e
        clear e
        generalize gX l k = y at *
        go_wp2
        go_roundw
        case rel => exact ⟨k + 1, by omega, by go_num, by rw [hN.out], hB⟩
        case measure => simp [intOf]; omega
      · have hN : Hid (atN l s (k + 1) = atN l s k) := Lib.hid (by show (if gX l k ≤ s then k else atN l s k) = _; rw [if_neg e])
        have d0 : decide (gX l k ≤ s) = false := decide_eq_false e
        clear e
        generalize gX l k = y at *
        go_wp2
        go_roundw
        case rel => exact ⟨k + 1, by omega, by go_num, by rw [hN.out], hB⟩
        case measure => simp [intOf]; omega
    · obtain rfl : k = n := by omega
      go_wp2
      go_returns
      exact ⟨rfl, hB.out⟩
theorem rnAt_any (v : Value) (l : List (Int × Int)) (s : Int) (w : World) (hv : Pts w v l) (h : DR l) (hs : 0 ≤ s) :
    Calls Try.prog 77 #[v, .int .i64 s] w fun e w' => e = .returned (.int .i64 ((rcN l (s + 1) : Int) - 1)) ∧ Below w.heap.size w w' := by
  have n0 := h.n0
  have n1 := h.n1
  obtain ⟨a, cap, rfl, hl, hh⟩ := hv
  rcases hh with hh | ⟨b, off, rfl, hb, hc⟩
  · omega
  have := rnAt_some b off l.length cap l s w (by omega) hb (Lib.hid fun j hj => (hc j hj).1)
  rwa [atN_rc h hs] at this
end Go.Proofs.Ytadkhhkoankhnaa

/- The reference of layer 18: the density at a strength. -/
namespace Go.Proofs.Ytadkhhkoankhnaa
open Go.RowKit

set_option maxHeartbeats 4000000 in
theorem rfLn_any (x0 r0 x1 r1 s : Int) (w : World) (hx0 : 0 ≤ x0) (hx : x0 < x1) (hx1 : x1 ≤ 10000) (hs0 : x0 ≤ s) (hs1 : s ≤ x1) (hr1 : 0 ≤ r1) (hr : r1 ≤ r0) (hr0 : r0 ≤ 120000) :
    Calls Try.prog 78 #[.agg #[.int .i64 x0, .int .i64 r0], .agg #[.int .i64 x1, .int .i64 r1], .int .i64 s] w fun e w' => e = .returned (.int .i64 (btD x0 r0 x1 r1 s)) ∧ Below w.heap.size w w' := by
  obtain ⟨q0, q1⟩ := half_bd (D := r0 - r1) (E := x1 - s) (L := x1 - x0) (by omega) (by omega) (by omega) (by omega)
  have P : 0 ≤ (r0 - r1) * (x1 - s) := Int.mul_nonneg (by omega) (by omega)
  have P1 : (r0 - r1) * (x1 - s) ≤ 120000 * 10000 := Int.mul_le_mul (by omega) (by omega) (by omega) (by omega)
  have P2 : 0 ≤ r1 * (x1 - x0) := Int.mul_nonneg (by omega) (by omega)
  have P3 : r1 * (x1 - x0) ≤ 120000 * 10000 := Int.mul_le_mul (by omega) (by omega) (by omega) (by omega)
  have P4 : 0 ≤ r0 * (x1 - x0) := Int.mul_nonneg (by omega) (by omega)
  have P5 : r0 * (x1 - x0) ≤ 120000 * 10000 := Int.mul_le_mul (by omega) (by omega) (by omega) (by omega)
  have id : r0 * (x1 - x0) + (r1 - r0) * (s - x0) = r1 * (x1 - x0) + (r0 - r1) * (x1 - s) := by grind
  have ln := btD_line (r0 := r0) (r1 := r1) (s := s) hx
  have bb := btD_bd hx hs0 hs1 hr
  generalize btD x0 r0 x1 r1 s = V at *
  have w1 : IntKind.i64.wrap (x1 - x0) = x1 - x0 := wrap_in _ ⟨by omega, by omega⟩
  have w2 : IntKind.i64.wrap (r1 - r0) = r1 - r0 := wrap_in _ ⟨by omega, by omega⟩
  have w3 : IntKind.i64.wrap (s - x0) = s - x0 := wrap_in _ ⟨by omega, by omega⟩
  have w4 : IntKind.i64.wrap (r0 * (x1 - x0)) = r0 * (x1 - x0) := wrap_in _ ⟨by omega, by omega⟩
  have w5 : IntKind.i64.wrap ((r1 - r0) * (s - x0)) = (r1 - r0) * (s - x0) := wrap_in _ ⟨by omega, by omega⟩
  have w6 : IntKind.i64.wrap (r0 * (x1 - x0) + (r1 - r0) * (s - x0)) = r0 * (x1 - x0) + (r1 - r0) * (s - x0) := wrap_in _ ⟨by omega, by omega⟩
  have w7 : IntKind.i64.wrap (2 * (r0 * (x1 - x0) + (r1 - r0) * (s - x0))) = 2 * (r0 * (x1 - x0) + (r1 - r0) * (s - x0)) := wrap_in _ ⟨by omega, by omega⟩
  have w8 : IntKind.i64.wrap (2 * (r0 * (x1 - x0) + (r1 - r0) * (s - x0)) + (x1 - x0)) = 2 * (r0 * (x1 - x0) + (r1 - r0) * (s - x0)) + (x1 - x0) := wrap_in _ ⟨by omega, by omega⟩
  have w9 : IntKind.i64.wrap (2 * (x1 - x0)) = 2 * (x1 - x0) := wrap_in _ ⟨by omega, by omega⟩
  have nz : ¬ 2 * (x1 - x0) = 0 := by omega
  have nz2 : (2 * (x1 - x0) == 0) = false := by rw [beq_eq_false_iff_ne]; exact nz
  have nz3 : (x1 - x0 == 0) = false := by rw [beq_eq_false_iff_ne]; omega
  have nz4 : ¬ x1 - x0 = 0 := by omega
  have w10 : IntKind.i64.wrap ((2 * (r0 * (x1 - x0) + (r1 - r0) * (s - x0)) + (x1 - x0)).tdiv (2 * (x1 - x0))) = V := by
    rw [Int.tdiv_eq_ediv_of_nonneg (by omega), ln]; exact wrap_in _ ⟨by omega, by omega⟩
  have X := Lib.hid (bel_alloc (w := w) (o := .cells #[.int .i64 x0, .int .i64 r0] 42) (bel_alloc (o := .cells #[.int .i64 x1, .int .i64 r1] 42) (Below.refl _ _)))
  replace id := Lib.hid id
  have ln := Lib.hid ln
  go_enter Try.func78, Try.ntmps78
  go_wp2
  go_returns
  refine ⟨?_, X.out⟩
  first
    | rfl
    | (show Ending.returned (.int .i64 ((2 * (r0 * (x1 - x0) + (r1 - r0) * (s - x0)) + (x1 - x0)) / (2 * (x1 - x0)))) = _; rw [ln.out])
theorem rc_place {l : List (Int × Int)} (h : DR l) {s : Int} (h0 : 0 ≤ s) (h1 : s ≤ 10000) :
    ∃ k : Nat, (rcN l (s + 1) : Int) - 1 = k ∧ k < l.length ∧ gX l k ≤ s ∧ (gX l k ≠ s → k + 1 < l.length ∧ s ≤ gX l (k + 1)) := by
  obtain ⟨a, b, c⟩ := rcN_spec h (s + 1)
  have p := rcN_pos h h0
  refine ⟨rcN l (s + 1) - 1, by omega, by omega, ?_, fun ne => ?_⟩
  · have := b (rcN l (s + 1) - 1) (by omega); omega
  · have le := b (rcN l (s + 1) - 1) (by omega)
    have lt : rcN l (s + 1) < l.length := by
      rcases Nat.lt_or_ge (rcN l (s + 1)) l.length with q | q
      · exact q
      · have t := h.t
        rw [show rcN l (s + 1) - 1 = l.length - 1 by omega] at le ne
        omega
    have := c (rcN l (s + 1)) (Nat.le_refl _) lt
    rw [show rcN l (s + 1) - 1 + 1 = rcN l (s + 1) by omega]
    exact ⟨lt, by omega⟩
set_option maxHeartbeats 8000000 in
set_option maxRecDepth 100000 in
theorem rfAt_any (v : Value) (l : List (Int × Int)) (x : Int) (w : World) (hv : Pts w v l) (h : DR l) (h0 : 0 ≤ x) (h1 : x ≤ 10000) :
    Calls Try.prog 52 #[v, .int .i64 x] w fun e w' => e = .returned (.int .i64 (atD l x)) ∧ Below w.heap.size w w' := by
  have n0 := h.n0
  have n1 := h.n1
  have HI := Lib.hid (rnAt_any v l x w hv h h0)
  obtain ⟨k, ek, kl, k1, k2⟩ := rc_place h h0 h1
  rw [ek] at HI
  obtain ⟨a, cap, rfl, hl, hh⟩ := hv
  rcases hh with hh | ⟨b, off, rfl, hb, hc⟩
  · omega
  have HC0 : Hid (∀ W, Below w.heap.size w W → W.cell? ⟨b, off + k * 2, none⟩ = some (.int .i64 (gX l k)) ∧ W.cell? ⟨b, off + k * 2 + 1, none⟩ = some (.int .i64 (gR l k))) := Lib.hid fun W hW => ⟨cell_bel (hc k kl).1 hW, cell_bel (hc k kl).2 hW⟩
  have l0 : (k : Int) < (l.length : Int) := by omega
  by_cases ne : gX l k = x
  · have ed : atD l x = gR l k := by rw [← ne]; exact atD_row h kl
    have e1 : (gX l k == x) = true := by rw [beq_iff_eq]; exact ne
    rw [ed]
    clear hc ek k2 ed ne
    generalize gX l k = x0 at *
    generalize gR l k = r0 at *
    generalize l.length = n at *
    go_enter Try.func52, Try.ntmps52
    go_wp2_with fail
    refine HI.out.mono ?_
    rintro e w1 ⟨rfl, gg⟩
    have X := Lib.hid gg; clear gg
    obtain ⟨c0, c1⟩ := HC0.out _ X.out
    go_wp2
    go_returns
    exact ⟨rfl, X.out⟩
  · obtain ⟨k3, k4⟩ := k2 ne
    have ed := atD_eq h k3 k1 k4
    have e1 : (gX l k == x) = false := by rw [beq_eq_false_iff_ne]; exact ne
    have l1 : ((k + 1 : Nat) : Int) < (l.length : Int) := by omega
    have wk : IntKind.i64.wrap ((k : Int) + 1) = ((k + 1 : Nat) : Int) := by rw [wrap_in _ ⟨by omega, by omega⟩]; omega
    have HC1 : Hid (∀ W, Below w.heap.size w W → W.cell? ⟨b, off + (k + 1) * 2, none⟩ = some (.int .i64 (gX l (k + 1))) ∧ W.cell? ⟨b, off + (k + 1) * 2 + 1, none⟩ = some (.int .i64 (gR l (k + 1)))) := Lib.hid fun W hW => ⟨cell_bel (hc (k + 1) k3).1 hW, cell_bel (hc (k + 1) k3).2 hW⟩
    have bt := fun W => rfLn_any (gX l k) (gR l k) (gX l (k + 1)) (gR l (k + 1)) x W (h.b k kl).1 (h.lt (by omega) k3) (h.b _ k3).2.1 k1 k4 (by have := (h.b _ k3).2.2.1; omega) (h.ge (by omega) k3) (h.b _ kl).2.2.2
    rw [← ed] at bt
    replace bt := Lib.hid bt
    clear hc ek k2 ed ne k4 k1
    generalize atD l x = V at *
    generalize gX l k = x0 at *
    generalize gR l k = r0 at *
    generalize gX l (k + 1) = x1 at *
    generalize gR l (k + 1) = r1 at *
    generalize l.length = n at *
    generalize hk1 : k + 1 = k1 at *
    go_enter Try.func52, Try.ntmps52
    go_wp2_with fail
    refine HI.out.mono ?_
    rintro e w1 ⟨rfl, gg⟩
    have X := Lib.hid gg; clear gg
    obtain ⟨c0, c1⟩ := HC0.out _ X.out
    obtain ⟨f0, f1⟩ := HC1.out _ X.out
    go_wp2_with fail
    go_still_tail 10, (by kernel_rfl)
    change wpList _ _ _ _ _ w1.drew
    replace X := Lib.hid (bel_trans X.out (bel_drew w1))
    generalize w1.drew = wq at *
    go_wp2_with fail
    refine (bt.out _).mono ?_
    rintro e w2 ⟨rfl, gg⟩
    replace X := Lib.hid (bel_trans X.out gg); clear gg
    go_wp2
    go_returns
    exact ⟨rfl, X.out⟩
end Go.Proofs.Ytadkhhkoankhnaa

/- How arguments are opened: slices of points. -/
namespace Go.Proofs.Ytadkhhkoankhnaa
open Go.ChangeShapes Go.WideShapes Go.ChangeAt Go.RowKit Go.Joins

theorem own : ownKnob Try.prog.godebug = none := by kernel_rfl
theorem laidOut : laidOutB Try.prog = true := by kernel_rfl
theorem wf_bd {n : Int} (h : (Lit.int .i64 n).wf = true) : -9223372036854775808 ≤ n ∧ n ≤ 9223372036854775807 := by
  have := bounds_i64 h
  omega
set_option maxRecDepth 100000 in
theorem open_pts_at {H : Type} {enc : TypeId × Value → H} {w : World} {base fuel : Nat} {spare : Nat → Bool} {held : Bool} {v : Value} {y : DataW H × List MemPlace} (hs : ∀ k, spare k = true)
    (hf : DataW.trod enc Try.prog w base spare held fuel 22 [v] = some y) :
    ∃ l : List (Int × Int), Pts w v l := by
  rcases Deep.open_slice_pairs Try.underlying22 Try.underlying42 (by kernel_rfl) rfl rfl (by kernel_rfl) (by kernel_rfl) hf with ⟨hcs, _⟩ | ⟨x, len0, cap0, m, n, V0, V1, D0, D1, P0, P1, hcs, _, hl, hm, hmm, _, hi⟩
  · simp only [List.cons.injEq, and_true] at hcs
    subst hcs
    exact ⟨[], none, 0, rfl, ⟨by simp, by omega⟩, .inl rfl⟩
  · simp only [List.cons.injEq, and_true] at hcs
    subst hcs
    unfold maxLen at hm
    rw [hs] at hmm
    simp only [if_true] at hmm
    subst hmm
    have hint : ∀ i, i < len0 → ∃ q : Int × Int, w.cell? (x.add (i * 2)) = some (.int .i64 q.1) ∧ w.cell? (x.add (i * 2 + 1)) = some (.int .i64 q.2) := by
      intro i hlt
      obtain ⟨h0, h1, h2, h3⟩ := hi i (by omega)
      obtain ⟨a, ea, _, _⟩ := DataW.trod_int (k := .i64) Try.underlying3 h2
      obtain ⟨b, eb, _, _⟩ := DataW.trod_int (k := .i64) Try.underlying3 h3
      simp only [List.cons.injEq, and_true] at ea eb
      exact ⟨(a, b), by rw [h0, ea], by rw [h1, eb]⟩
    let f : Nat → Int × Int := fun i => if hlt : i < len0 then (hint i hlt).choose else (0, 0)
    have hf2 : ∀ i, i < len0 → w.cell? (x.add (i * 2)) = some (.int .i64 (f i).1) ∧ w.cell? (x.add (i * 2 + 1)) = some (.int .i64 (f i).2) := by
      intro i hlt
      have := (hint i hlt).choose_spec
      simp only [f, dif_pos hlt]
      exact this
    have hlen : ((List.range len0).map f).length = len0 := by simp
    refine ⟨(List.range len0).map f, some x, m, by rw [hlen], by rw [hlen]; omega, ?_⟩
    rw [hlen]
    by_cases h0 : len0 = 0
    · exact .inl h0
    · right
      obtain ⟨b, off, spot⟩ := x
      have hspot : spot = none := by simpa [Addr.add] using World.cell?_spot (hf2 0 (by omega)).1
      subst hspot
      have hb := World.block_lt_of_cell? w _ (hf2 0 (by omega)).1
      refine ⟨b, off, rfl, by simpa [Addr.add] using hb, fun j hj => ?_⟩
      obtain ⟨g0, g1⟩ := hf2 j hj
      rw [Go.WideShapes.add_plain] at g0 g1
      unfold gX gR
      rw [List.getD_eq_getElem?_getD, List.getElem?_map, List.getElem?_range hj]
      exact ⟨g0, by rw [Nat.add_assoc]; exact g1⟩
set_option maxRecDepth 100000 in
theorem open_pts {H : Type} {enc : TypeId × Value → H} {w : World} {r : Reach} {b0 : Nat} {v : Value} {d : DataW H} {p : List MemPlace}
    (hv : Value.okWide Try.prog w r b0 22 v) (h : DataW.Trod enc Try.prog w 0 (fun _ => true) true 22 v d p) :
    ∃ l : List (Int × Int), Pts w v l := by
  obtain ⟨a0, len0, cap0, rfl⟩ := okWide_slice Try.underlying22 hv
  obtain ⟨fuel, hf⟩ := h
  exact open_pts_at (fun _ => rfl) hf
end Go.Proofs.Ytadkhhkoankhnaa

/- Package interpolate: isNeedless. -/
namespace Go.Proofs.Ytadkhhkoankhnaa
open Go.RowKit

theorem l3_lit (w : World) (x0 r0 x1 r1 x2 r2 : Int) : Pts (w.alloc (.cells #[.int .i64 x0, .int .i64 r0, .int .i64 x1, .int .i64 r1, .int .i64 x2, .int .i64 r2] 42)) (.slice (some ⟨w.heap.size, 0, none⟩) 3 3) [(x0, r0), (x1, r1), (x2, r2)] :=
  pts_lit w [(x0, r0), (x1, r1), (x2, r2)] _ rfl (by simp)
/-- three blocks of two, made at the start -/
def Nd (w : World) (x0 r0 x1 r1 x2 r2 : Int) (W : World) : Prop :=
  Two w.heap.size W (.int .i64 x0) (.int .i64 r0) ∧ Two (w.heap.size + 1) W (.int .i64 x1) (.int .i64 r1) ∧ Two (w.heap.size + 2) W (.int .i64 x2) (.int .i64 r2) ∧ Below w.heap.size w W
theorem Nd.below {w : World} {x0 r0 x1 r1 x2 r2 : Int} {W W' : World} (h : Nd w x0 r0 x1 r1 x2 r2 W) (hb : Below W.heap.size W W') : Nd w x0 r0 x1 r1 x2 r2 W' := ⟨h.1.below hb, h.2.1.below hb, h.2.2.1.below hb, bel_trans h.2.2.2 hb⟩
theorem Nd.init (w : World) (x0 r0 x1 r1 x2 r2 : Int) (T : TypeId) : Nd w x0 r0 x1 r1 x2 r2 (((w.alloc (.cells #[.int .i64 x0, .int .i64 r0] T)).alloc (.cells #[.int .i64 x1, .int .i64 r1] T)).alloc (.cells #[.int .i64 x2, .int .i64 r2] T)) := by
  have h2 := Two.new (w.alloc (.cells #[.int .i64 x0, .int .i64 r0] T)) (.int .i64 x1) (.int .i64 r1) T
  have h3 := Two.new ((w.alloc (.cells #[.int .i64 x0, .int .i64 r0] T)).alloc (.cells #[.int .i64 x1, .int .i64 r1] T)) (.int .i64 x2) (.int .i64 r2) T
  rw [World.size_alloc] at h2
  rw [World.size_alloc, World.size_alloc] at h3
  exact ⟨((Two.new w (.int .i64 x0) (.int .i64 r0) T).alloc _).alloc _, h2.alloc _, h3, bel_alloc (bel_alloc (bel_alloc (Below.refl _ _)))⟩
set_option maxHeartbeats 16000000 in
set_option maxRecDepth 100000 in
theorem itNd_some (x0 r0 x1 r1 x2 r2 : Int) (P Q : Int → Int) (B : Bool) (w : World) (b0 : 0 ≤ x0) (b2 : x0 ≤ x2 ∧ x2 ≤ 10000)
    (h1 : Hid (∀ s, x0 ≤ s → s ≤ x2 → P s ≠ Q s → B = false)) (h2 : Hid ((∀ s, x0 ≤ s → s ≤ x2 → P s = Q s) → B = true))
    (HB : Hid (∀ s W, x0 ≤ s → s ≤ x2 → Calls Try.prog 75 #[.agg #[.int .i64 x0, .int .i64 r0], .agg #[.int .i64 x2, .int .i64 r2], .int .i64 s] W fun e w' => e = .returned (.int .i64 (P s)) ∧ Below W.heap.size W w'))
    (HA : Hid (∀ s v W, x0 ≤ s → s ≤ x2 → Pts W v [(x0, r0), (x1, r1), (x2, r2)] → Calls Try.prog 50 #[v, .int .i64 s] W fun e w' => e = .returned (.int .i64 (Q s)) ∧ Below W.heap.size W w')) :
    Calls Try.prog 56 #[.agg #[.int .i64 x0, .int .i64 r0], .agg #[.int .i64 x1, .int .i64 r1], .agg #[.int .i64 x2, .int .i64 r2]] w fun e w' => e = .returned (.bool B) ∧ Below w.heap.size w w' := by
  have S0 := Lib.hid (Nd.init w x0 r0 x1 r1 x2 r2 42)
  obtain ⟨⟨a0, a1, _, _, _⟩, ⟨e0, e1, _, _, _⟩, ⟨f0, f1, _, _, _⟩, _⟩ := S0.out
  go_enter Try.func56, Try.ntmps56
  go_wp2_with fail
  go_loopw [7] (fun ss wr => ∃ s : Int, ss = .int .i64 s ∧ x0 ≤ s ∧ s ≤ x2 + 1 ∧ Hid (Nd w x0 r0 x1 r1 x2 r2 wr) ∧ Hid (∀ t, x0 ≤ t → t < s → P t = Q t)) (fun ss _ => (x2 + 1 - intOf ss).toNat)
  case atStart => exact ⟨x0, rfl, Int.le_refl _, by omega, S0, fun t g1 g2 => by omega⟩
  case round =>
    clear S0 a0 a1 e0 e1 f0 f1
    obtain ⟨s, rfl, s0, s1, hS, ha⟩ := hrel
    obtain ⟨⟨a0, a1, _, _, _⟩, ⟨e0, e1, _, _, _⟩, ⟨f0, f1, _, _, _⟩, _⟩ := hS.out
    by_cases hlt : s ≤ x2
    · have l0 : decide (s ≤ x2) = true := decide_eq_true hlt
      have HB1 := Lib.hid (fun W => HB.out s W s0 hlt)
      have HA1 := Lib.hid (fun v W h => HA.out s v W s0 hlt h)
      have H1 := Lib.hid (h1.out s s0 hlt)
      have HN : Hid (P s = Q s → ∀ t, x0 ≤ t → t < s + 1 → P t = Q t) := Lib.hid fun e t g1 g2 => by
        by_cases k : t = s
        · rw [k]; exact e
        · exact ha.out t g1 (by omega)
      have ws : IntKind.i64.wrap (s + 1) = s + 1 := wrap_in _ ⟨by omega, by omega⟩
      generalize P s = p at *
      generalize Q s = q at *
      go_upto_region 4 with fail
      have hSA := Lib.hid ((hS.out.below (bel_alloc (o := (.cells #[.int .i64 x0, .int .i64 r0, .int .i64 x1, .int .i64 r1, .int .i64 x2, .int .i64 r2] 42)) (Below.refl _ _))).below (bel_drew _))
      have PPA := Lib.hid ((l3_lit wr x0 r0 x1 r1 x2 r2).below (bel_drew _))
      replace hS := Lib.hid (hS.out.below (bel_drew wr))
      obtain ⟨⟨a0, a1, _, _, _⟩, ⟨e0, e1, _, _, _⟩, ⟨f0, f1, _, _, _⟩, _⟩ := hS.out
      by_cases hq : p = q
      · have hq2 : (p != q) = false := by simp [hq]
        have hN2 := Lib.hid (HN.out hq)
        clear H1 HN
        replace hq := Lib.hid hq
        go_region_held3 (fun w' => w'.cell? ⟨w.heap.size, 0, none⟩ = some (.int .i64 x0) ∧ w'.cell? ⟨w.heap.size, 1, none⟩ = some (.int .i64 r0) ∧ w'.cell? ⟨w.heap.size + 1, 0, none⟩ = some (.int .i64 x1) ∧ w'.cell? ⟨w.heap.size + 1, 1, none⟩ = some (.int .i64 r1) ∧ w'.cell? ⟨w.heap.size + 2, 0, none⟩ = some (.int .i64 x2) ∧ w'.cell? ⟨w.heap.size + 2, 1, none⟩ = some (.int .i64 r2)) (go_keep) (first
          | (go_at_call 75; (with_reducible refine (HB1.out _).mono ?_); rintro e w3 ⟨rfl, gg⟩; replace hS := Lib.hid (hS.out.below gg); obtain ⟨⟨a0, a1, _, _, _⟩, ⟨e0, e1, _, _, _⟩, ⟨f0, f1, _, _, _⟩, _⟩ := hS.out; clear gg)
          | (go_at_call 75; (with_reducible refine (HB1.out _).mono ?_); rintro e w3 ⟨rfl, gg⟩; replace hS := Lib.hid (hSA.out.below gg); have PP := Lib.hid (PPA.out.below gg); obtain ⟨⟨a0, a1, _, _, _⟩, ⟨e0, e1, _, _, _⟩, ⟨f0, f1, _, _, _⟩, _⟩ := hS.out; clear gg)
          | (go_at_call 50; (with_reducible refine (HA1.out _ _ PP.out).mono ?_); rintro e w4 ⟨rfl, gg⟩; replace hS := Lib.hid (hS.out.below gg); obtain ⟨⟨a0, a1, _, _, _⟩, ⟨e0, e1, _, _, _⟩, ⟨f0, f1, _, _, _⟩, _⟩ := hS.out; clear gg)
          | (go_at_call 50; (with_reducible refine (HA1.out _ _ PPA.out).mono ?_); rintro e w4 ⟨rfl, gg⟩; replace hS := Lib.hid (hSA.out.below gg); obtain ⟨⟨a0, a1, _, _, _⟩, ⟨e0, e1, _, _, _⟩, ⟨f0, f1, _, _, _⟩, _⟩ := hS.out; clear gg)
          | (go_at_call 50; (refine (HA1.out _ _ (l3_lit _ x0 r0 x1 r1 x2 r2)).mono ?_); rintro e w4 ⟨rfl, gg⟩; replace hS := Lib.hid (hS.out.below (bel_alloc gg)); obtain ⟨⟨a0, a1, _, _, _⟩, ⟨e0, e1, _, _, _⟩, ⟨f0, f1, _, _, _⟩, _⟩ := hS.out; clear gg))
        all_goals
          go_wp2
          go_roundw
          case rel => exact ⟨s + 1, rfl, by omega, by omega, hS, hN2⟩
          case measure => simp [intOf]; omega
      · have hq2 : (p != q) = true := by simpa using hq
        obtain rfl := H1.out hq
        clear HN hq
        go_region_held3 (fun w' => w'.cell? ⟨w.heap.size, 0, none⟩ = some (.int .i64 x0) ∧ w'.cell? ⟨w.heap.size, 1, none⟩ = some (.int .i64 r0) ∧ w'.cell? ⟨w.heap.size + 1, 0, none⟩ = some (.int .i64 x1) ∧ w'.cell? ⟨w.heap.size + 1, 1, none⟩ = some (.int .i64 r1) ∧ w'.cell? ⟨w.heap.size + 2, 0, none⟩ = some (.int .i64 x2) ∧ w'.cell? ⟨w.heap.size + 2, 1, none⟩ = some (.int .i64 r2)) (go_keep) (first
          | (go_at_call 75; (with_reducible refine (HB1.out _).mono ?_); rintro e w3 ⟨rfl, gg⟩; replace hS := Lib.hid (hS.out.below gg); obtain ⟨⟨a0, a1, _, _, _⟩, ⟨e0, e1, _, _, _⟩, ⟨f0, f1, _, _, _⟩, _⟩ := hS.out; clear gg)
          | (go_at_call 75; (with_reducible refine (HB1.out _).mono ?_); rintro e w3 ⟨rfl, gg⟩; replace hS := Lib.hid (hSA.out.below gg); have PP := Lib.hid (PPA.out.below gg); obtain ⟨⟨a0, a1, _, _, _⟩, ⟨e0, e1, _, _, _⟩, ⟨f0, f1, _, _, _⟩, _⟩ := hS.out; clear gg)
          | (go_at_call 50; (with_reducible refine (HA1.out _ _ PP.out).mono ?_); rintro e w4 ⟨rfl, gg⟩; replace hS := Lib.hid (hS.out.below gg); obtain ⟨⟨a0, a1, _, _, _⟩, ⟨e0, e1, _, _, _⟩, ⟨f0, f1, _, _, _⟩, _⟩ := hS.out; clear gg)
          | (go_at_call 50; (with_reducible refine (HA1.out _ _ PPA.out).mono ?_); rintro e w4 ⟨rfl, gg⟩; replace hS := Lib.hid (hSA.out.below gg); obtain ⟨⟨a0, a1, _, _, _⟩, ⟨e0, e1, _, _, _⟩, ⟨f0, f1, _, _, _⟩, _⟩ := hS.out; clear gg)
          | (go_at_call 50; (refine (HA1.out _ _ (l3_lit _ x0 r0 x1 r1 x2 r2)).mono ?_); rintro e w4 ⟨rfl, gg⟩; replace hS := Lib.hid (hS.out.below (bel_alloc gg)); obtain ⟨⟨a0, a1, _, _, _⟩, ⟨e0, e1, _, _, _⟩, ⟨f0, f1, _, _, _⟩, _⟩ := hS.out; clear gg))
        all_goals
          go_wp2
          go_returns
          exact ⟨rfl, hS.out.2.2.2⟩
    · have l0 : decide (s ≤ x2) = false := decide_eq_false hlt
      obtain rfl := h2.out (fun t g1 g2 => ha.out t g1 (by omega))
      have X := Lib.hid hS.out.2.2.2
      go_wp2
      go_returns
      exact ⟨rfl, X.out⟩
end Go.Proofs.Ytadkhhkoankhnaa

/- Rows of the call's own. -/
namespace Go.Proofs.Ytadkhhkoankhnaa
open Go.RowKit

namespace RG
theorem info_parts {P : Program} {t : TypeId} {z : Value} {s by' : Nat} (h : (P.info? t).map (fun i => (i.zero, i.size, i.bytes)) = some (some z, s, by')) : ∃ i, P.info? t = some i ∧ i.zero = some z ∧ i.size = s ∧ i.bytes = by' := by
  cases hi : P.info? t with
  | none => rw [hi] at h; cases h
  | some i => rw [hi] at h; simp at h; exact ⟨i, rfl, h.1, h.2.1, h.2.2⟩
theorem mk_info : (Try.prog.info? 42).map (fun i => (i.zero, i.size, i.bytes)) = some (some (.agg #[.int .i64 0, .int .i64 0]), 2, 16) := by kernel_rfl
theorem row_belM {W W' : World} {B n size : Nat} {e : TypeId} {v : Value} {xs : List Value} (h : W.ownsRow B e size v n xs) (hb : Below W.heap.size W W') : W'.ownsRow B e size v n xs := by
  obtain ⟨h1, h2⟩ := h
  refine ⟨h1, ?_⟩
  rcases h2 with ⟨h2, h3⟩ | ⟨g, cap, cur, h2, hg, hh, r⟩
  · exact .inl ⟨h2, h3⟩
  · refine .inr ⟨g, cap, cur, h2, hg, ?_, r⟩
    rw [hb.block _ (Array.getElem?_eq_some_iff.1 hh).1]
    exact hh
def OwnM (w : World) (B : Nat) (v : Value) (l : List (Int × Int)) : Prop := w.ownsRow B 42 2 v l.length (flat l)
theorem nil (W : World) (B : Nat) : OwnM W B (.slice none 0 0) [] := World.ownsRow_nil _ _ _ _
theorem below {W W' : World} {B : Nat} {v : Value} {l : List (Int × Int)} (h : OwnM W B v l) (hb : Below W.heap.size W W') : OwnM W' B v l := row_belM h hb
theorem pts {w : World} {B : Nat} {v : Value} {l : List (Int × Int)} (h : OwnM w B v l) : Pts w v l := by
  have h' := h
  obtain ⟨_, h2⟩ := h
  rcases h2 with ⟨rfl, hn⟩ | ⟨g, cap, cur, rfl, hg, hh, hc, hm, hs, ht⟩
  · exact ⟨none, 0, by rw [hn], by omega, .inl hn⟩
  · have hlt : g < w.heap.size := (Array.getElem?_eq_some_iff.1 hh).1
    unfold maxLen at hm
    refine ⟨_, cap, rfl, ⟨hc, by omega⟩, .inr ⟨g, 0, rfl, hlt, fun j hj => ?_⟩⟩
    have hcell := World.ownsRow.cells h' (g := g) rfl
    have hf := flat_at l j hj
    have c0 := hcell _ _ hf.1
    have c1 := hcell _ _ hf.2
    rw [Go.WideShapes.add_plain] at c0 c1
    exact ⟨c0, by rw [Nat.add_assoc]; exact c1⟩
theorem flat_two (x y : Int) : flat [(x, y)] = [.int .i64 x, .int .i64 y] := rfl
theorem pair_new (w : World) (y0 y1 : Int) (T : TypeId) (j : Nat) (u : Value) (hj : [Value.int .i64 y0, .int .i64 y1][j]? = some u) : (w.alloc (.cells #[.int .i64 y0, .int .i64 y1] T)).cell? ((⟨w.heap.size, 0, none⟩ : Addr).add j) = some u := by
  obtain ⟨n0, n1, _, _, _⟩ := Two.new w (.int .i64 y0) (.int .i64 y1) T
  rw [Go.WideShapes.add_plain, Nat.zero_add]
  match j, hj with
  | 0, hj => simp at hj; rw [← hj]; exact n0
  | 1, hj => simp at hj; rw [← hj]; exact n1
  | j + 2, hj => simp at hj
theorem pair_one (y0 y1 : Int) : ∀ u ∈ [Value.int .i64 y0, .int .i64 y1], u.oneCell' = true := by
  intro u hu; simp at hu; rcases hu with rfl | rfl <;> rfl
theorem push {W : World} {B k : Nat} {v : Value} {l m : List (Int × Int)} {y0 y1 : Int} (e : m = l ++ [(y0, y1)]) (hk : l.length = k) (h : W.ownsRow B 42 2 v (k + 1) (flat l ++ [.int .i64 y0, .int .i64 y1])) : OwnM W B v m := by
  rw [e]
  unfold OwnM
  rw [flat_app, flat_two, List.length_append, hk]
  exact h
/-- what the loop of Make keeps -/
def MkI (w1 : World) (v : Value) (L : List (Int × Int)) (W : World) : Prop := Below w1.heap.size w1 W ∧ OwnM W w1.heap.size v L
theorem MkI.below {w1 : World} {v : Value} {L : List (Int × Int)} {W W' : World} (h : MkI w1 v L W) (hb : Below W.heap.size W W') : MkI w1 v L W' := ⟨bel_trans h.1 hb, RG.below h.2 hb⟩
theorem shape {W : World} {B : Nat} {v : Value} {L : List (Int × Int)} (h : OwnM W B v L) : ∃ a cap, v = .slice a L.length cap := by
  obtain ⟨a, cap, e, _⟩ := pts h
  exact ⟨a, cap, e⟩
end RG
end Go.Proofs.Ytadkhhkoankhnaa

/- Package interpolate: Thin. -/
namespace Go.Proofs.Ytadkhhkoankhnaa
open Go.RowKit

/-- a row changes nothing between its neighbours -/
def nlB (x0 r0 x1 r1 x2 r2 : Int) : Bool := fst (fun j => btD x0 r0 x2 r2 (x0 + j) != atD [(x0, r0), (x1, r1), (x2, r2)] (x0 + j)) (x2 - x0 + 1).toNat == (x2 - x0 + 1).toNat
theorem nlB_no {x0 r0 x1 r1 x2 r2 s : Int} (h0 : x0 ≤ s) (h1 : s ≤ x2) (h : btD x0 r0 x2 r2 s ≠ atD [(x0, r0), (x1, r1), (x2, r2)] s) : nlB x0 r0 x1 r1 x2 r2 = false := by
  obtain ⟨s1, _⟩ := fst_spec (fun j => btD x0 r0 x2 r2 (x0 + j) != atD [(x0, r0), (x1, r1), (x2, r2)] (x0 + j)) (x2 - x0 + 1).toNat
  unfold nlB
  rw [beq_eq_false_iff_ne]
  intro e
  have := s1 (s - x0).toNat (by omega)
  rw [show x0 + (((s - x0).toNat : Nat) : Int) = s by omega] at this
  simp at this
  exact h this
theorem nlB_yes {x0 r0 x1 r1 x2 r2 : Int} (h : ∀ s, x0 ≤ s → s ≤ x2 → btD x0 r0 x2 r2 s = atD [(x0, r0), (x1, r1), (x2, r2)] s) : nlB x0 r0 x1 r1 x2 r2 = true := by
  unfold nlB
  rw [beq_iff_eq]
  exact fst_is (Nat.le_refl _) (fun j hj => by
    have := h (x0 + j) (by omega) (by omega)
    simp [this]) (fun q => by omega)
theorem wr3 {x0 r0 x1 r1 x2 r2 : Int} (a0 : 0 ≤ x0) (a1 : x0 < x1) (a2 : x1 < x2) (a3 : x2 ≤ 10000) (b0 : 50000 ≤ r2) (b1 : r2 ≤ r1) (b2 : r1 ≤ r0) (b3 : r0 ≤ 120000) : WR [(x0, r0), (x1, r1), (x2, r2)] := by
  refine ⟨by simp, by simp, fun i hi => ?_, fun i hi => ?_, fun i hi => ?_⟩
  · simp at hi
    rcases i with _ | _ | _ | i
    · simp [gX, gR]; omega
    · simp [gX, gR]; omega
    · simp [gX, gR]; omega
    · omega
  · simp at hi
    rcases i with _ | _ | i
    · simp [gX]; omega
    · simp [gX]; omega
    · omega
  · simp at hi
    rcases i with _ | _ | i
    · simp [gR]; omega
    · simp [gR]; omega
    · omega
theorem itNd_any (x0 r0 x1 r1 x2 r2 : Int) (w : World) (a0 : 0 ≤ x0) (a1 : x0 < x1) (a2 : x1 < x2) (a3 : x2 ≤ 10000) (b0 : 50000 ≤ r2) (b1 : r2 ≤ r1) (b2 : r1 ≤ r0) (b3 : r0 ≤ 120000) :
    Calls Try.prog 56 #[.agg #[.int .i64 x0, .int .i64 r0], .agg #[.int .i64 x1, .int .i64 r1], .agg #[.int .i64 x2, .int .i64 r2]] w fun e w' => e = .returned (.bool (nlB x0 r0 x1 r1 x2 r2)) ∧ Below w.heap.size w w' :=
  itNd_some x0 r0 x1 r1 x2 r2 (btD x0 r0 x2 r2) (atD [(x0, r0), (x1, r1), (x2, r2)]) _ w a0 ⟨by omega, a3⟩ (Lib.hid fun s g1 g2 h => nlB_no g1 g2 h) (Lib.hid nlB_yes)
    (Lib.hid fun s W g1 g2 => itBt_any x0 r0 x2 r2 s W a0 (by omega) a3 g1 g2 (by omega) (by omega) b3)
    (Lib.hid fun s v W g1 g2 h => itAt_anyW v _ s W h (wr3 a0 a1 a2 a3 b0 b1 b2 b3) (by simpa [gX] using g1) (by simpa [gX] using g2))

/-- the rows kept of the first ones -/
def thK (l : List (Int × Int)) : Nat → List (Int × Int)
  | 0 => [(gX l 0, gR l 0)]
  | k + 1 => if nlB (gX (thK l k) ((thK l k).length - 1)) (gR (thK l k) ((thK l k).length - 1)) (gX l (k + 1)) (gR l (k + 1)) (gX l (k + 2)) (gR l (k + 2)) = true then thK l k else thK l k ++ [(gX l (k + 1), gR l (k + 1))]
theorem thK_last (l : List (Int × Int)) : ∀ k, (1 ≤ (thK l k).length ∧ (thK l k).length ≤ k + 1) ∧ ∃ j, j ≤ k ∧ gX (thK l k) ((thK l k).length - 1) = gX l j ∧ gR (thK l k) ((thK l k).length - 1) = gR l j
  | 0 => ⟨by simp [thK], 0, Nat.le_refl _, by simp [thK, gX], by simp [thK, gR]⟩
  | k + 1 => by
    obtain ⟨⟨h1, h2⟩, j, hj, e1, e2⟩ := thK_last l k
    rw [show thK l (k + 1) = if nlB (gX (thK l k) ((thK l k).length - 1)) (gR (thK l k) ((thK l k).length - 1)) (gX l (k + 1)) (gR l (k + 1)) (gX l (k + 2)) (gR l (k + 2)) = true then thK l k else thK l k ++ [(gX l (k + 1), gR l (k + 1))] from rfl]
    split
    · exact ⟨⟨h1, by omega⟩, j, by omega, e1, e2⟩
    · refine ⟨by simp; omega, k + 1, Nat.le_refl _, ?_, ?_⟩
      · simp [gX, List.getD_eq_getElem?_getD]
      · simp [gR, List.getD_eq_getElem?_getD]
def thE (l : List (Int × Int)) : Int := if dnE l = 0 then 0 else 1
def thL (l : List (Int × Int)) : List (Int × Int) := if dnE l = 0 then thK l (l.length - 2) ++ [(gX l (l.length - 1), gR l (l.length - 1))] else []
theorem one_row (w : World) (B : Nat) (x r : Int) (hB : B ≤ w.heap.size) : RG.OwnM (w.alloc (.cells #[.int .i64 x, .int .i64 r] 42)) B (.slice (some ⟨w.heap.size, 0, none⟩) 1 1) [(x, r)] :=
  ⟨by simp [flat], .inr ⟨w.heap.size, 1, #[.int .i64 x, .int .i64 r], rfl, hB, heap_alloc_new w _, Nat.le_refl _, by unfold maxLen; omega, rfl, by simp [flat]⟩⟩
set_option maxHeartbeats 32000000 in
set_option maxRecDepth 100000 in
theorem itTh_ok (b off m cap : Nat) (l : List (Int × Int)) (w : World) (n1 : m + 2 ≤ 128) (hb : b < w.heap.size)
    (hc : Hid (∀ j, j < m + 2 → w.cell? ⟨b, off + j * 2, none⟩ = some (.int .i64 (gX l j)) ∧ w.cell? ⟨b, off + j * 2 + 1, none⟩ = some (.int .i64 (gR l j))))
    (H : Hid (Calls Try.prog 49 #[.slice (some ⟨b, off, none⟩) (m + 2) cap] w fun e w' => e = .returned (.bool true) ∧ Below w.heap.size w w'))
    (HN : Hid (∀ k W, k < m → Calls Try.prog 56 #[.agg #[.int .i64 (gX (thK l k) ((thK l k).length - 1)), .int .i64 (gR (thK l k) ((thK l k).length - 1))], .agg #[.int .i64 (gX l (k + 1)), .int .i64 (gR l (k + 1))], .agg #[.int .i64 (gX l (k + 2)), .int .i64 (gR l (k + 2))]] W fun e w' => e = .returned (.bool (nlB (gX (thK l k) ((thK l k).length - 1)) (gR (thK l k) ((thK l k).length - 1)) (gX l (k + 1)) (gR l (k + 1)) (gX l (k + 2)) (gR l (k + 2)))) ∧ Below W.heap.size W w')) :
    Calls Try.prog 23 #[.slice (some ⟨b, off, none⟩) (m + 2) cap] w fun e w' => ∃ u, e = .returned (.tuple #[u, .int .i64 0]) ∧ Pts w' u (thK l m ++ [(gX l (m + 1), gR l (m + 1))]) ∧ Below w.heap.size w w' := by
  obtain ⟨i0, hi, hz0, hz1, hz2⟩ := RG.info_parts RG.mk_info
  replace hi := Lib.hid hi
  replace hz0 := Lib.hid hz0
  replace hz1 := Lib.hid hz1
  replace hz2 := Lib.hid hz2
  have wn : IntKind.i64.wrap (((m + 2 : Nat) : Int) - 1) = ((m + 1 : Nat) : Int) := by rw [wrap_in _ ⟨by omega, by omega⟩]; omega
  have wn2 : IntKind.i64.wrap ((m : Int) + 2 - 1) = (m : Int) + 1 := by rw [wrap_in _ ⟨by omega, by omega⟩]; omega
  go_enter Try.func23, Try.ntmps23
  go_wp2_with fail
  refine H.out.mono ?_
  rintro e w1 ⟨rfl, gg⟩
  have X1 := Lib.hid gg; clear gg
  obtain ⟨z0, z1⟩ := hc.out 0 (by omega)
  replace z0 := cell_bel z0 X1.out
  replace z1 := cell_bel z1 X1.out
  rw [Nat.zero_mul, Nat.add_zero] at z0 z1
  have S0 : Hid (RG.MkI w (.slice (some ⟨w1.heap.size, 0, none⟩) 1 1) (thK l 0) (w1.alloc (.cells #[.int .i64 (gX l 0), .int .i64 (gR l 0)] 42))) := Lib.hid ⟨bel_trans X1.out (bel_alloc (Below.refl _ _)), one_row w1 w.heap.size _ _ X1.out.size⟩
  have e00 : thK l 0 = [(gX l 0, gR l 0)] := rfl
  replace e00 := Lib.hid e00
  go_wp2_with fail
  go_loopw [5, 6] (fun v ii wr => ∃ k : Nat, k ≤ m ∧ ii = .int .i64 ((k + 1 : Nat) : Int) ∧ Hid (RG.MkI w v (thK l k) wr)) (fun _ ii _ => m + 1 - (intOf ii).toNat)
  case atStart => exact ⟨0, Nat.zero_le _, rfl, S0⟩
  case round =>
    clear S0 z0 z1 e00
    obtain ⟨k, hk, rfl, hS⟩ := hrel
    obtain ⟨⟨q1, q2⟩, _⟩ := thK_last l k
    by_cases hlt : k < m
    · have l0 : ((k + 1 : Nat) : Int) < (m : Int) + 1 := by omega
      have l1 : ((k + 1 : Nat) : Int) < ((m + 2 : Nat) : Int) := by omega
      have l2 : ((k + 2 : Nat) : Int) < ((m + 2 : Nat) : Int) := by omega
      have wk : IntKind.i64.wrap (((k + 1 : Nat) : Int) + 1) = ((k + 2 : Nat) : Int) := by rw [wrap_in _ ⟨by omega, by omega⟩]; omega
      have wk2 : IntKind.i64.wrap ((k : Int) + 1 + 1) = ((k + 2 : Nat) : Int) := by rw [wrap_in _ ⟨by omega, by omega⟩]; omega
      have wk3 : (k : Int) + 1 + 1 = ((k + 2 : Nat) : Int) := by omega
      have c0 := cell_bel (hc.out (k + 1) (by omega)).1 hS.out.1
      have c1 := cell_bel (hc.out (k + 1) (by omega)).2 hS.out.1
      have d0 := cell_bel (hc.out (k + 2) (by omega)).1 hS.out.1
      have d1 := cell_bel (hc.out (k + 2) (by omega)).2 hS.out.1
      have HC := Lib.hid (fun W => HN.out k W hlt)
      have PK : Hid (thK l (k + 1) = if nlB (gX (thK l k) ((thK l k).length - 1)) (gR (thK l k) ((thK l k).length - 1)) (gX l (k + 1)) (gR l (k + 1)) (gX l (k + 2)) (gR l (k + 2)) = true then thK l k else thK l k ++ [(gX l (k + 1), gR l (k + 1))]) := Lib.hid rfl
      generalize nlB (gX (thK l k) ((thK l k).length - 1)) (gR (thK l k) ((thK l k).length - 1)) (gX l (k + 1)) (gR l (k + 1)) (gX l (k + 2)) (gR l (k + 2)) = NB at *
      obtain ⟨av, cv, ev⟩ := RG.shape hS.out.2
      have hP := RG.pts hS.out.2
      generalize hT : thK l k = T at *
      replace hT := Lib.hid hT
      obtain ⟨q, hq⟩ : ∃ q, T.length = q + 1 := ⟨T.length - 1, by omega⟩
      have hq1 : T.length - 1 = q := by omega
      rw [hq] at ev
      rw [hq1] at HC
      subst ev
      obtain ⟨g, og, rfl, hg, hgc⟩ := hP.at (by omega)
      obtain ⟨t0, t1⟩ := hgc q (by omega)
      clear hP hgc hq1
      have qb : q ≤ 127 := by omega
      replace hq := Lib.hid hq
      have lq : (q : Int) < ((q + 1 : Nat) : Int) := by omega
      have wq : IntKind.i64.wrap (((q + 1 : Nat) : Int) - 1) = (q : Int) := by rw [wrap_in _ ⟨by omega, by omega⟩]; omega
      have wq2 : IntKind.i64.wrap ((q : Int) + 1 - 1) = (q : Int) := by rw [wrap_in _ ⟨by omega, by omega⟩]; omega
      have wq3 : IntKind.i64.wrap (q : Int) = (q : Int) := wrap_in _ ⟨by omega, by omega⟩
      generalize gX T q = y0 at *
      generalize gR T q = y1 at *
      generalize gX l (k + 1) = x at *
      generalize gR l (k + 1) = r at *
      generalize gX l (k + 2) = x2 at *
      generalize gR l (k + 2) = r2 at *
      have l3 : ((k + 1 : Nat) : Int) < (m : Int) + 2 := by omega
      have l4 : ((k + 2 : Nat) : Int) < (m : Int) + 2 := by omega
      have kb : Hid (k + 1 ≤ m) := Lib.hid (by omega)
      have kk : Hid (k + 2 - (k + 1) = 1) := Lib.hid (by omega)
      clear wk2 wk3 hk
      generalize k + 2 = k2 at *
      generalize k + 1 = k1 at *
      have qb2 : q + 1 ≤ 128 := by omega
      clear wq2 qb
      generalize q + 1 = qn at *
      cases NB with
      | true =>
        replace PK : Hid (thK l k1 = T) := Lib.hid (by rw [PK.out, if_pos rfl])
        go_upto_region 8 with fail
        go_still_tail 15, (by kernel_rfl)
        change wpList _ _ _ _ _ wr.drew
        replace hS := Lib.hid (hS.out.below (bel_drew wr))
        generalize wr.drew = wq at *
        go_wp2_with fail
        refine (HC.out _).mono ?_
        rintro e w2 ⟨rfl, gg⟩
        have SN : Hid (RG.MkI w (.slice (some ⟨g, og, none⟩) qn cv) (thK l k1) w2) := Lib.hid (by rw [PK.out]; exact hS.out.below gg)
        clear gg
        go_wp2
        go_roundw
        case rel => exact ⟨k1, kb.out, by have := kk.out; have := kb.out; go_num, SN⟩
        case measure => have := kb.out; have := kk.out; simp [intOf]; omega
      | false =>
        replace PK : Hid (thK l k1 = T ++ [(x, r)]) := Lib.hid (by rw [PK.out, if_neg (by simp)])
        go_upto_region 8 with fail
        go_still_tail 15, (by kernel_rfl)
        change wpList _ _ _ _ _ wr.drew
        replace hS := Lib.hid (hS.out.below (bel_drew wr))
        have cb := Lib.hid (cell_bel c0 (bel_drew wr))
        have cb1 := Lib.hid (cell_bel c1 (bel_drew wr))
        clear t0 t1 c0 c1 d0 d1
        generalize wr.drew = wq at *
        go_wp2_with fail
        refine (HC.out _).mono ?_
        rintro e w2 ⟨rfl, gg⟩
        replace hS := Lib.hid (hS.out.below gg)
        have c0 := cell_bel cb.out gg
        have c1 := cell_bel cb1.out gg
        clear gg
        have OA : Hid ((w2.alloc (.cells #[.int .i64 x, .int .i64 r] 42)).ownsRow w.heap.size 42 2 (.slice (some ⟨g, og, none⟩) qn cv) qn (flat T)) := Lib.hid (by
          have := RG.below hS.out.2 (bel_alloc (o := .cells #[.int .i64 x, .int .i64 r] 42) (Below.refl _ _))
          unfold RG.OwnM at this
          rwa [hq.out] at this)
        have CN := Lib.hid (RG.pair_new w2 x r 42)
        have S5 := Lib.hid (hS.out.below (bel_alloc (o := .cells #[.int .i64 x, .int .i64 r] 42) (Below.refl _ _)))
        have HS : Hid (w.heap.size ≤ (w2.alloc (.cells #[.int .i64 x, .int .i64 r] 42)).heap.size) := Lib.hid S5.out.1.size
        have M1 : Hid (qn + 1 ≤ maxLen) := Lib.hid (by unfold maxLen; omega)
        have M2 : Hid ((qn + 1) * 16 ≤ 140737488355328) := Lib.hid (by omega)
        go_wp2_with (at_builtin; refine wpList_append_own_at _ rfl _ _ 22 rfl w.heap.size 42 i0 (.agg #[.int .i64 0, .int .i64 0]) 2 16 Try.underlying22 hi.out hz0.out hz1.out hz2.out rfl (by omega) _ _ _ rfl OA.out ⟨w2.heap.size, 0, none⟩ 1 1 [.int .i64 x, .int .i64 r] rfl rfl CN.out (RG.pair_one x r) M1.out M2.out HS.out ?_)
        intro v2 w5 hown hgrow _ _
        have SN : Hid (RG.MkI w v2 (thK l k1) w5) := Lib.hid (by
          have lt := fun r hr => (World.ownsRow.lt OA.out r hr).1
          exact ⟨S5.out.1.grown hgrow HS.out lt, RG.push PK.out hq.out hown⟩)
        clear hown hgrow OA CN
        go_wp2
        go_roundw
        case rel => exact ⟨k1, kb.out, by have := kk.out; have := kb.out; go_num, SN⟩
        case measure => have := kb.out; have := kk.out; simp [intOf]; omega
    · obtain rfl : m = k := by omega
      have l0 : ((m + 1 : Nat) : Int) < ((m + 2 : Nat) : Int) := by omega
      have c0 := cell_bel (hc.out (m + 1) (by omega)).1 hS.out.1
      have c1 := cell_bel (hc.out (m + 1) (by omega)).2 hS.out.1
      obtain ⟨av, cv, ev⟩ := RG.shape hS.out.2
      generalize hT : thK l m = T at hS ev q1 q2
      replace hT := Lib.hid hT
      obtain ⟨q, hq⟩ : ∃ q, T.length = q := ⟨_, rfl⟩
      rw [hq] at ev
      have q3 : q ≤ m + 1 := by omega
      subst ev
      replace hq := Lib.hid hq
      obtain ⟨x, hx⟩ : ∃ x, gX l (m + 1) = x := ⟨_, rfl⟩
      obtain ⟨r, hr⟩ : ∃ r, gR l (m + 1) = r := ⟨_, rfl⟩
      rw [hx] at c0
      rw [hr] at c1
      replace hx := Lib.hid hx
      replace hr := Lib.hid hr
      have OA : Hid ((wr.alloc (.cells #[.int .i64 x, .int .i64 r] 42)).ownsRow w.heap.size 42 2 (.slice av q cv) q (flat T)) := Lib.hid (by
        have := RG.below hS.out.2 (bel_alloc (o := .cells #[.int .i64 x, .int .i64 r] 42) (Below.refl _ _))
        unfold RG.OwnM at this
        rwa [hq.out] at this)
      have CN := Lib.hid (RG.pair_new wr x r 42)
      have S5 := Lib.hid (hS.out.below (bel_alloc (o := .cells #[.int .i64 x, .int .i64 r] 42) (Below.refl _ _)))
      have HS : Hid (w.heap.size ≤ (wr.alloc (.cells #[.int .i64 x, .int .i64 r] 42)).heap.size) := Lib.hid S5.out.1.size
      have M1 : Hid (q + 1 ≤ maxLen) := Lib.hid (by unfold maxLen; omega)
      have M2 : Hid ((q + 1) * 16 ≤ 140737488355328) := Lib.hid (by omega)
      go_wp2_with (at_builtin; refine wpList_append_own_at _ rfl _ _ 22 rfl w.heap.size 42 i0 (.agg #[.int .i64 0, .int .i64 0]) 2 16 Try.underlying22 hi.out hz0.out hz1.out hz2.out rfl (by omega) _ _ _ rfl OA.out ⟨wr.heap.size, 0, none⟩ 1 1 [.int .i64 x, .int .i64 r] rfl rfl CN.out (RG.pair_one x r) M1.out M2.out HS.out ?_)
      intro v2 w5 hown hgrow _ _
      have SN : Hid (RG.MkI w v2 (T ++ [(x, r)]) w5) := Lib.hid (by
        have lt := fun r hr => (World.ownsRow.lt OA.out r hr).1
        exact ⟨S5.out.1.grown hgrow HS.out lt, RG.push rfl hq.out hown⟩)
      clear hown hgrow OA CN
      go_wp2
      go_returns
      exact ⟨v2, rfl, by rw [hT.out, hx.out, hr.out]; exact RG.pts SN.out.2, SN.out.1⟩
theorem itTh_any (v : Value) (l : List (Int × Int)) (w : World) (hv : Pts w v l) :
    Calls Try.prog 23 #[v] w fun e w' => ∃ u, e = .returned (.tuple #[u, .int .i64 (thE l)]) ∧ Pts w' u (thL l) ∧ Below w.heap.size w w' := by
  have HR := Lib.hid (itRt_any v l w hv)
  by_cases he : dnE l = 0
  · have hD := dnE_zero.1 he
    rw [show (dnE l == 0) = true by simpa using he] at HR
    have n0 := hD.n0
    have n1 := hD.n1
    rw [show thE l = 0 by unfold thE; rw [if_pos he], show thL l = thK l (l.length - 2) ++ [(gX l (l.length - 1), gR l (l.length - 1))] by unfold thL; rw [if_pos he]]
    obtain ⟨a, cap, rfl, hl, hh⟩ := hv
    rcases hh with hh | ⟨b, off, rfl, hb, hc⟩
    · omega
    obtain ⟨m, hm⟩ : ∃ m, l.length = m + 2 := ⟨l.length - 2, by omega⟩
    rw [hm] at hc HR ⊢
    rw [show m + 2 - 2 = m by omega, show m + 2 - 1 = m + 1 by omega]
    refine itTh_ok b off m cap l w (by omega) hb (Lib.hid hc) HR (Lib.hid fun k W hk => ?_)
    obtain ⟨_, j, hj, e1, e2⟩ := thK_last l k
    rw [e1, e2]
    exact itNd_any _ _ _ _ _ _ W (hD.b j (by omega)).1 (hD.lt (by omega) (by omega)) (hD.lt (by omega) (by omega)) (hD.b (k + 2) (by omega)).2.1 (hD.b (k + 2) (by omega)).2.2.1 (hD.ge (by omega) (by omega)) (hD.ge (by omega) (by omega)) (hD.b j (by omega)).2.2.2
  · rw [show thE l = 1 by unfold thE; rw [if_neg he], show thL l = [] by unfold thL; rw [if_neg he]]
    rw [show (dnE l == 0) = false by simpa using he] at HR
    go_enter Try.func23, Try.ntmps23
    go_wp2_with fail
    refine HR.out.mono ?_
    rintro e w1 ⟨rfl, gg⟩
    have X := Lib.hid gg; clear gg
    go_wp2
    go_returns
    exact ⟨_, rfl, pts_nil _, X.out⟩
end Go.Proofs.Ytadkhhkoankhnaa

/- Package interpolate: Strength, Range. -/
namespace Go.Proofs.Ytadkhhkoankhnaa
open Go.RowKit

theorem itDs_any (x : Int) (w : World) :
    Calls Try.prog 53 #[.int .i64 x] w fun e w' => e = .returned (.bool (decide (50000 ≤ x ∧ x ≤ 120000))) ∧ w' = w := by
  by_cases h0 : 50000 ≤ x
  · have d0 : decide (50000 ≤ x) = true := decide_eq_true h0
    have e : decide (50000 ≤ x ∧ x ≤ 120000) = decide (x ≤ 120000) := by rw [Bool.eq_iff_iff, decide_eq_true_eq, decide_eq_true_eq]; omega
    rw [e]
    go_enter Try.func53, Try.ntmps53
    go_wp2
    go_returns
    exact ⟨rfl, rfl⟩
  · have d0 : decide (50000 ≤ x) = false := decide_eq_false h0
    have e : decide (50000 ≤ x ∧ x ≤ 120000) = false := decide_eq_false (by omega)
    rw [e]
    go_enter Try.func53, Try.ntmps53
    go_wp2
    go_returns
    exact ⟨rfl, rfl⟩
def itsE (l : List (Int × Int)) (d : Int) : Int := if dnE l ≠ 0 then 1 else if (50000 ≤ d ∧ d ≤ 120000) ∧ d ≤ atD l 0 then 0 else 2
def itsV (l : List (Int × Int)) (d : Int) : Int := if itsE l d = 0 then (blN l d : Int) - 1 else 0
def rgeE (l : List (Int × Int)) (d : Int) : Int := if dnE l ≠ 0 then 1 else if 50000 ≤ d ∧ d ≤ 120000 then (if (blN l d : Int) - 1 < (blN l (d + 1) : Int) then 7 else 0) else 2
def rgeL (l : List (Int × Int)) (d : Int) : Int := if rgeE l d = 0 then (blN l (d + 1) : Int) else 0
def rgeH (l : List (Int × Int)) (d : Int) : Int := if rgeE l d = 0 then (blN l d : Int) - 1 else 0
theorem itsE_zero {l : List (Int × Int)} {d : Int} : itsE l d = 0 ↔ DR l ∧ (50000 ≤ d ∧ d ≤ 120000) ∧ d ≤ atD l 0 := by
  unfold itsE
  by_cases h : dnE l = 0
  · rw [if_neg (by omega)]
    have hD := dnE_zero.1 h
    by_cases g : (50000 ≤ d ∧ d ≤ 120000) ∧ d ≤ atD l 0
    · rw [if_pos g]; exact ⟨fun _ => ⟨hD, g⟩, fun _ => rfl⟩
    · rw [if_neg g]; exact ⟨fun e => (by cases e), fun e => absurd e.2 g⟩
  · rw [if_pos h]; exact ⟨fun e => (by cases e), fun e => absurd (dnE_zero.2 e.1) h⟩
theorem rgeE_zero {l : List (Int × Int)} {d : Int} : rgeE l d = 0 ↔ DR l ∧ (50000 ≤ d ∧ d ≤ 120000) ∧ (blN l (d + 1) : Int) ≤ (blN l d : Int) - 1 := by
  unfold rgeE
  by_cases h : dnE l = 0
  · rw [if_neg (by omega)]
    have hD := dnE_zero.1 h
    by_cases g : 50000 ≤ d ∧ d ≤ 120000
    · rw [if_pos g]
      by_cases k : (blN l d : Int) - 1 < (blN l (d + 1) : Int)
      · rw [if_pos k]; exact ⟨fun e => (by cases e), fun e => by have := e.2.2; omega⟩
      · rw [if_neg k]; exact ⟨fun _ => ⟨hD, g, by omega⟩, fun _ => rfl⟩
    · rw [if_neg g]; exact ⟨fun e => (by cases e), fun e => absurd e.2.1 g⟩
  · rw [if_pos h]; exact ⟨fun e => (by cases e), fun e => absurd (dnE_zero.2 e.1) h⟩
set_option maxHeartbeats 8000000 in
theorem itSt_any (v : Value) (l : List (Int × Int)) (d : Int) (w : World) (hv : Pts w v l) :
    Calls Try.prog 19 #[v, .int .i64 d] w fun e w' => e = .returned (.tuple #[.int .i64 (itsV l d), .int .i64 (itsE l d)]) ∧ Below w.heap.size w w' := by
  have HR := Lib.hid (itRt_any v l w hv)
  have HD := Lib.hid (fun W => itDs_any d W)
  by_cases he : dnE l = 0
  · have hD := dnE_zero.1 he
    rw [show (dnE l == 0) = true by simpa using he] at HR
    by_cases g : 50000 ≤ d ∧ d ≤ 120000
    · rw [decide_eq_true g] at HD
      have H0 := Lib.hid (fun W (hW : Below w.heap.size w W) => itAt_any v l 0 W (hv.below hW) hD (by omega) (by omega))
      by_cases k : d ≤ atD l 0
      · have e0 : itsE l d = 0 := itsE_zero.2 ⟨hD, g, k⟩
        have dk : decide (atD l 0 < d) = false := decide_eq_false (by omega)
        have HB := Lib.hid (fun W (hW : Below w.heap.size w W) => itBl_any v l d W (hv.below hW) hD)
        have bb := (blN_spec hD d).1
        rw [show itsV l d = (blN l d : Int) - 1 by unfold itsV; rw [if_pos e0], e0]
        clear e0 k
        generalize blN l d = B at *
        generalize atD l 0 = A0 at *
        have wb : IntKind.i64.wrap ((B : Int) - 1) = (B : Int) - 1 := wrap_in _ ⟨by omega, by omega⟩
        go_enter Try.func19, Try.ntmps19
        go_wp2_with fail
        refine HR.out.mono ?_
        rintro e w1 ⟨rfl, gg⟩
        have X := Lib.hid gg; clear gg
        go_wp2_with fail
        refine (HD.out _).mono ?_
        rintro e w2 ⟨rfl, hw⟩
        subst hw
        go_wp2_with fail
        refine (H0.out _ X.out).mono ?_
        rintro e w3 ⟨rfl, gg⟩
        replace X := Lib.hid (bel_trans X.out gg); clear gg
        go_wp2_with fail
        refine (HB.out _ X.out).mono ?_
        rintro e w4 ⟨rfl, gg⟩
        replace X := Lib.hid (bel_trans X.out gg); clear gg
        go_wp2
        go_returns
        exact ⟨rfl, X.out⟩
      · have e0 : itsE l d = 2 := by unfold itsE; rw [if_neg (by omega), if_neg (fun h => k h.2)]
        have dk : decide (atD l 0 < d) = true := decide_eq_true (by omega)
        rw [show itsV l d = 0 by unfold itsV; rw [if_neg (by omega)], e0]
        clear e0 k
        generalize atD l 0 = A0 at *
        go_enter Try.func19, Try.ntmps19
        go_wp2_with fail
        refine HR.out.mono ?_
        rintro e w1 ⟨rfl, gg⟩
        have X := Lib.hid gg; clear gg
        go_wp2_with fail
        refine (HD.out _).mono ?_
        rintro e w2 ⟨rfl, hw⟩
        subst hw
        go_wp2_with fail
        refine (H0.out _ X.out).mono ?_
        rintro e w3 ⟨rfl, gg⟩
        replace X := Lib.hid (bel_trans X.out gg); clear gg
        go_wp2
        go_returns
        exact ⟨rfl, X.out⟩
    · rw [decide_eq_false g] at HD
      have e0 : itsE l d = 2 := by unfold itsE; rw [if_neg (by omega), if_neg (fun h => g h.1)]
      rw [show itsV l d = 0 by unfold itsV; rw [if_neg (by omega)], e0]
      go_enter Try.func19, Try.ntmps19
      go_wp2_with fail
      refine HR.out.mono ?_
      rintro e w1 ⟨rfl, gg⟩
      have X := Lib.hid gg; clear gg
      go_wp2_with fail
      refine (HD.out _).mono ?_
      rintro e w2 ⟨rfl, hw⟩
      subst hw
      go_wp2
      go_returns
      exact ⟨rfl, X.out⟩
  · rw [show (dnE l == 0) = false by simpa using he] at HR
    have e0 : itsE l d = 1 := by unfold itsE; rw [if_pos he]
    rw [show itsV l d = 0 by unfold itsV; rw [if_neg (by omega)], e0]
    go_enter Try.func19, Try.ntmps19
    go_wp2_with fail
    refine HR.out.mono ?_
    rintro e w1 ⟨rfl, gg⟩
    have X := Lib.hid gg; clear gg
    go_wp2
    go_returns
    exact ⟨rfl, X.out⟩
set_option maxHeartbeats 8000000 in
theorem itRg_any (v : Value) (l : List (Int × Int)) (d : Int) (w : World) (hv : Pts w v l) :
    Calls Try.prog 21 #[v, .int .i64 d] w fun e w' => e = .returned (.tuple #[.agg #[.int .i64 (rgeL l d), .int .i64 (rgeH l d)], .int .i64 (rgeE l d)]) ∧ Below w.heap.size w w' := by
  have HR := Lib.hid (fun W (hW : Below w.heap.size w W) => itRt_any v l W (hv.below hW))
  have HD := Lib.hid (fun W => itDs_any d W)
  have T0 := Lib.hid (Two.new w (.int .i64 0) (.int .i64 0) 29)
  have X := Lib.hid (bel_alloc (w := w) (o := .cells #[.int .i64 0, .int .i64 0] 29) (Below.refl _ _))
  by_cases he : dnE l = 0
  · have hD := dnE_zero.1 he
    rw [show (dnE l == 0) = true by simpa using he] at HR
    by_cases g : 50000 ≤ d ∧ d ≤ 120000
    · rw [decide_eq_true g] at HD
      have H1 := Lib.hid (fun W (hW : Below w.heap.size w W) => itBl_any v l (d + 1) W (hv.below hW) hD)
      have H2 := Lib.hid (fun W (hW : Below w.heap.size w W) => itBl_any v l d W (hv.below hW) hD)
      have wd : IntKind.i64.wrap (d + 1) = d + 1 := wrap_in _ ⟨by omega, by omega⟩
      have bb := (blN_spec hD d).1
      by_cases k : (blN l d : Int) - 1 < (blN l (d + 1) : Int)
      · have e0 : rgeE l d = 7 := by unfold rgeE; rw [if_neg (by omega), if_pos g, if_pos k]
        rw [show rgeL l d = 0 by unfold rgeL; rw [if_neg (by omega)], show rgeH l d = 0 by unfold rgeH; rw [if_neg (by omega)], e0]
        have dk : decide ((blN l d : Int) - 1 < (blN l (d + 1) : Int)) = true := decide_eq_true k
        clear e0 k
        generalize blN l d = B at *
        generalize blN l (d + 1) = C at *
        have wb : IntKind.i64.wrap ((B : Int) - 1) = (B : Int) - 1 := wrap_in _ ⟨by omega, by omega⟩
        go_enter Try.func21, Try.ntmps21
        go_wp2_with fail
        refine (HR.out _ X.out).mono ?_
        rintro e w1 ⟨rfl, gg⟩
        replace T0 := Lib.hid (T0.out.below gg)
        replace X := Lib.hid (bel_trans X.out gg); clear gg
        go_wp2_with fail
        refine (HD.out _).mono ?_
        rintro e w2 ⟨rfl, hw⟩
        subst hw
        go_wp2_with fail
        refine (H1.out _ X.out).mono ?_
        rintro e w3 ⟨rfl, gg⟩
        replace T0 := Lib.hid (T0.out.below gg)
        replace X := Lib.hid (bel_trans X.out gg); clear gg
        go_wp2_with fail
        refine (H2.out _ X.out).mono ?_
        rintro e w4 ⟨rfl, gg⟩
        replace T0 := Lib.hid (T0.out.below gg)
        replace X := Lib.hid (bel_trans X.out gg); clear gg
        have U0 := Lib.hid (Two.new w4 (.int .i64 C) (.int .i64 ((B : Int) - 1)) 29)
        replace T0 := Lib.hid (T0.out.alloc (.cells #[.int .i64 C, .int .i64 ((B : Int) - 1)] 29))
        replace X := Lib.hid (X.out.alloc X.out.size (.cells #[.int .i64 C, .int .i64 ((B : Int) - 1)] 29))
        obtain ⟨z0, z1, f0, f1, hlt⟩ := T0.out
        obtain ⟨u0, u1, _, _, _⟩ := U0.out
        go_wp2
        obtain ⟨t0, t1⟩ := two_read (w4.alloc (.cells #[.int .i64 C, .int .i64 ((B : Int) - 1)] 29)) w.heap.size (.int .i64 0) (.int .i64 0) z0 z1
        refine bodyPost_ret (v := .tuple #[.agg #[.int .i64 0, .int .i64 0], .int .i64 7]) (by simp [results, Try.results21, go_sem, t0, t1]) rfl ?_
        exact ⟨rfl, (X.out.setCell (Nat.le_refl _) _).setCell (Nat.le_refl _) _⟩
      · have e0 : rgeE l d = 0 := rgeE_zero.2 ⟨hD, g, by omega⟩
        rw [show rgeL l d = (blN l (d + 1) : Int) by unfold rgeL; rw [if_pos e0], show rgeH l d = (blN l d : Int) - 1 by unfold rgeH; rw [if_pos e0], e0]
        have dk : decide ((blN l d : Int) - 1 < (blN l (d + 1) : Int)) = false := decide_eq_false k
        clear e0 k
        generalize blN l d = B at *
        generalize blN l (d + 1) = C at *
        have wb : IntKind.i64.wrap ((B : Int) - 1) = (B : Int) - 1 := wrap_in _ ⟨by omega, by omega⟩
        go_enter Try.func21, Try.ntmps21
        go_wp2_with fail
        refine (HR.out _ X.out).mono ?_
        rintro e w1 ⟨rfl, gg⟩
        replace T0 := Lib.hid (T0.out.below gg)
        replace X := Lib.hid (bel_trans X.out gg); clear gg
        go_wp2_with fail
        refine (HD.out _).mono ?_
        rintro e w2 ⟨rfl, hw⟩
        subst hw
        go_wp2_with fail
        refine (H1.out _ X.out).mono ?_
        rintro e w3 ⟨rfl, gg⟩
        replace T0 := Lib.hid (T0.out.below gg)
        replace X := Lib.hid (bel_trans X.out gg); clear gg
        go_wp2_with fail
        refine (H2.out _ X.out).mono ?_
        rintro e w4 ⟨rfl, gg⟩
        replace T0 := Lib.hid (T0.out.below gg)
        replace X := Lib.hid (bel_trans X.out gg); clear gg
        have U0 := Lib.hid (Two.new w4 (.int .i64 C) (.int .i64 ((B : Int) - 1)) 29)
        replace T0 := Lib.hid (T0.out.alloc (.cells #[.int .i64 C, .int .i64 ((B : Int) - 1)] 29))
        replace X := Lib.hid (X.out.alloc X.out.size (.cells #[.int .i64 C, .int .i64 ((B : Int) - 1)] 29))
        obtain ⟨z0, z1, f0, f1, hlt⟩ := T0.out
        obtain ⟨u0, u1, _, _, _⟩ := U0.out
        go_wp2
        obtain ⟨t0, t1⟩ := two_read (w4.alloc (.cells #[.int .i64 C, .int .i64 ((B : Int) - 1)] 29)) w.heap.size (.int .i64 C) (.int .i64 ((B : Int) - 1)) z0 z1
        refine bodyPost_ret (v := .tuple #[.agg #[.int .i64 C, .int .i64 ((B : Int) - 1)], .int .i64 0]) (by simp [results, Try.results21, go_sem, t0, t1]) rfl ?_
        exact ⟨rfl, (X.out.setCell (Nat.le_refl _) _).setCell (Nat.le_refl _) _⟩
    · rw [decide_eq_false g] at HD
      have e0 : rgeE l d = 2 := by unfold rgeE; rw [if_neg (by omega), if_neg g]
      rw [show rgeL l d = 0 by unfold rgeL; rw [if_neg (by omega)], show rgeH l d = 0 by unfold rgeH; rw [if_neg (by omega)], e0]
      go_enter Try.func21, Try.ntmps21
      go_wp2_with fail
      refine (HR.out _ X.out).mono ?_
      rintro e w1 ⟨rfl, gg⟩
      replace T0 := Lib.hid (T0.out.below gg)
      replace X := Lib.hid (bel_trans X.out gg); clear gg
      go_wp2_with fail
      refine (HD.out _).mono ?_
      rintro e w2 ⟨rfl, hw⟩
      subst hw
      obtain ⟨z0, z1, f0, f1, hlt⟩ := T0.out
      go_wp2
      obtain ⟨t0, t1⟩ := two_read w2 w.heap.size (.int .i64 0) (.int .i64 0) z0 z1
      refine bodyPost_ret (v := .tuple #[.agg #[.int .i64 0, .int .i64 0], .int .i64 2]) (by simp [results, Try.results21, go_sem, t0, t1]) rfl ?_
      exact ⟨rfl, (X.out.setCell (Nat.le_refl _) _).setCell (Nat.le_refl _) _⟩
  · rw [show (dnE l == 0) = false by simpa using he] at HR
    have e0 : rgeE l d = 1 := by unfold rgeE; rw [if_pos he]
    rw [show rgeL l d = 0 by unfold rgeL; rw [if_neg (by omega)], show rgeH l d = 0 by unfold rgeH; rw [if_neg (by omega)], e0]
    go_enter Try.func21, Try.ntmps21
    go_wp2_with fail
    refine (HR.out _ X.out).mono ?_
    rintro e w1 ⟨rfl, gg⟩
    replace T0 := Lib.hid (T0.out.below gg)
    replace X := Lib.hid (bel_trans X.out gg); clear gg
    obtain ⟨z0, z1, f0, f1, hlt⟩ := T0.out
    go_wp2
    obtain ⟨t0, t1⟩ := two_read w1 w.heap.size (.int .i64 0) (.int .i64 0) z0 z1
    refine bodyPost_ret (v := .tuple #[.agg #[.int .i64 0, .int .i64 0], .int .i64 1]) (by simp [results, Try.results21, go_sem, t0, t1]) rfl ?_
    exact ⟨rfl, (X.out.setCell (Nat.le_refl _) _).setCell (Nat.le_refl _) _⟩
end Go.Proofs.Ytadkhhkoankhnaa

/- Slices that read as lists of rows: copies. -/
namespace Go.Proofs.Ytadkhhkoankhnaa
open Go.RowKit Go.Sort

set_option maxRecDepth 100000 in
set_option maxHeartbeats 2000000 in
theorem clone_some (ad : Addr) (n c : Nat) (news : List Value) (w : World) (hl : news.length = n * 2) (hn : n ≤ 1000)
    (hc : Hid (∀ j u, news[j]? = some u → (w.alloc (.cells #[] 42)).cell? (ad.add j) = some u)) (h1 : Hid (∀ u ∈ news, u.oneCell' = true)) :
    Calls Try.prog 47 #[.slice (some ad) n c] w fun e w' => ∃ v', e = .returned v' ∧ w'.ownsRow w.heap.size 42 2 v' n news ∧ v' ≠ .slice none 0 0 ∧ Below w.heap.size w w' := by
  obtain ⟨i0, hi0, hz0, hz1, hz2⟩ := info_parts pt_info
  have q22 : ∀ (w : World) (a : Option Addr) (n c n' c' : Nat), (binOp .eql 22 (.slice a n c) (.slice none n' c')).run Try.prog w = .ok (.bool a.isNone) w := fun w a n c n' c' => Lib.run_eql_slice_nil w _ _ a n c n' c' Try.underlying22
  go_enter Try.func47, Try.ntmps47
  go_wp2_with (at_builtin; refine wpList_append_own _ rfl _ _ 22 rfl w.heap.size 42 i0 (.agg #[.int .i64 0, .int .i64 0]) 2 16 Try.underlying22 hi0 hz0 hz1 hz2 rfl (by omega) _ _ _ rfl (World.ownsRow_made w #[] 0 (Nat.le_refl _) (Nat.zero_le _) (by simp)) ad n c news rfl ?qc1 ?qc2 ?qc3 ?qc4 ?qc5 ?qc6 ?_)
  case qc1 => exact hl
  case qc2 => exact hc.out
  case qc3 => exact h1.out
  case qc4 => rw [Nat.zero_add]; unfold maxLen; omega
  case qc5 => rw [Nat.zero_add]; omega
  case qc6 => simp
  intro v' w1 hown hgrow hnil
  have HO := Lib.hid hown
  have HG := Lib.hid hgrow
  have HN := Lib.hid hnil
  clear hown hgrow hnil hl
  go_wp2
  go_ret
  refine ⟨v', rfl, by simpa using HO.out, ?_, ?_⟩
  · exact HN.out
  · exact ((Below.refl _ w).alloc (Nat.le_refl _) _).grown HG.out (by simp) (by intro k hk; simp [Value.ownBlock] at hk; omega)
set_option maxRecDepth 100000 in
theorem clone_none (n c : Nat) (w : World) :
    Calls Try.prog 47 #[.slice none n c] w fun e w' => e = .returned (.slice none 0 0) ∧ w' = w := by
  have q22 : ∀ (w : World) (a : Option Addr) (n c n' c' : Nat), (binOp .eql 22 (.slice a n c) (.slice none n' c')).run Try.prog w = .ok (.bool a.isNone) w := fun w a n c n' c' => Lib.run_eql_slice_nil w _ _ a n c n' c' Try.underlying22
  go_enter Try.func47, Try.ntmps47
  go_wp2
  go_ret
  exact ⟨rfl, rfl⟩
/-- a copy reads as what it is copied from -/
theorem clone_p (v : Value) (l : List (Int × Int)) (w : World) (h : Pts w v l) (hn : l.length ≤ 1000) :
    Calls Try.prog 47 #[v] w fun e w' => ∃ u, e = .returned u ∧ Pts w' u l ∧ Below w.heap.size w w' := by
  obtain ⟨a, c, rfl, hl, h⟩ := h
  cases a with
  | none =>
    rcases h with h | ⟨b, off, hx, _⟩
    · obtain rfl := List.length_eq_zero_iff.1 h
      refine (clone_none _ c w).mono fun _ w' g => ⟨_, g.1, ?_, by rw [g.2]; exact Below.refl _ _⟩
      exact pts_nil w'
    · cases hx
  | some ad =>
    refine (clone_some ad l.length c (flat l) w (flat_len l) hn ?_ (flat_one l)).mono fun _ w' ⟨u, g1, g2, _, g4⟩ => ⟨u, g1, OwnP.pts (show OwnP w' w.heap.size u l from g2), g4⟩
    intro j u hj
    rcases h with h | ⟨b, off, hx, hb, hc⟩
    · obtain rfl := List.length_eq_zero_iff.1 h
      simp [flat] at hj
    · obtain rfl := Option.some.inj hx
      obtain ⟨i, hi, ⟨rfl, rfl⟩ | ⟨rfl, rfl⟩⟩ := flat_inv l j u hj
      · rw [Go.WideShapes.add_plain, World.cell?_alloc_lt w _ _ hb]
        exact (hc i hi).1
      · rw [Go.WideShapes.add_plain, World.cell?_alloc_lt w _ _ hb, ← Nat.add_assoc]
        exact (hc i hi).2
end Go.Proofs.Ytadkhhkoankhnaa

/- slices.Insert of one row into three. -/
namespace Go.Proofs.Ytadkhhkoankhnaa
open Go.RowKit

theorem run_copy_k {P : Program} (w : World) (dT sT ty elem : TypeId) (k b o dLen dCap : Nat) (a : Addr) (sLen sCap : Nat) (cs : List Value)
    (hu : P.underlying dT = some (.slice elem)) (hs : (P.info? elem).map (·.size) = some k) (hn : cs.length = Nat.min sLen dLen * k)
    (hsrc : ∀ j v, cs[j]? = some v → w.cell? (a.add j) = some v) (hc : ∀ j, j < cs.length → (w.cell? ⟨b, o + j, none⟩).isSome = true) (hf : ∀ j, j < cs.length → w.frozen? ⟨b, o + j, none⟩ = false) (h1 : ∀ v ∈ cs, v.oneCell' = true) :
    (Builtin.copy_ #[dT, sT] ty #[.slice (some ⟨b, o, none⟩) dLen dCap, .slice (some a) sLen sCap]).run P w = .ok (goInt (Nat.min sLen dLen)) (w.setCells b o cs) := by
  have hl := run_loadCells_list (P := P) w a cs hsrc
  have hst := run_storeCells_cells (P := P) b o cs 0 w (by simpa using hc) (by simpa using hf) h1
  cases hq : P.info? elem with
  | none => simp [hq] at hs
  | some i =>
    have hi : i.size = k := by simpa [hq] using hs
    simp [Builtin.copy_, run_underlying hu, Builtin.lenOf, Builtin.firstCells, sizeOf, typeInfo, hq, hi, ← hn, hl, hst]
def insR (w : World) (a0 b0 : Int) : Array Value :=
  #[.int .i64 a0, .int .i64 b0] ++ (Builtin.zeroCells #[.int .i64 0, .int .i64 0] 3 ++ Builtin.zeroCells #[.int .i64 0, .int .i64 0] ((Question.appendCap 4 3 42).cut (w.tape w.drawn (Question.appendCap 4 3 42)) - 4))
def insW (w : World) (a0 b0 : Int) : World := (w.alloc (.cells (insR w a0 b0) 42)).drew
theorem insR_size (w : World) (a0 b0 : Int) : 8 ≤ (insR w a0 b0).size := by
  simp [insR, Builtin.zeroCells]
  omega
theorem insW_cell (w : World) (a0 b0 : Int) (j : Nat) : (insW w a0 b0).cell? ⟨w.heap.size, j, none⟩ = (insR w a0 b0)[j]? := by
  show (w.alloc (.cells (insR w a0 b0) 42)).cell? _ = _
  simp [go_sem]
theorem insW_old (w : World) (a0 b0 : Int) {p : Addr} {v : Value} (h : w.cell? p = some v) : (insW w a0 b0).cell? p = some v :=
  cell_bel h (bel_alloc (o := .cells (insR w a0 b0) 42) ((Below.refl _ _).drew))
theorem insW_size (w : World) (a0 b0 : Int) : (insW w a0 b0).heap.size = w.heap.size + 1 := by
  show (w.alloc (.cells (insR w a0 b0) 42)).heap.size = _
  rw [World.size_alloc]
theorem insW_bel (w : World) (a0 b0 : Int) {B : Nat} (hb : B ≤ w.heap.size) : Below B w (insW w a0 b0) :=
  ((Below.refl B w).alloc hb (.cells (insR w a0 b0) 42)).drew
theorem insW_fz (w : World) (a0 b0 : Int) (j : Nat) : (insW w a0 b0).frozen? ⟨w.heap.size, j, none⟩ = false := by
  show (w.alloc (.cells (insR w a0 b0) 42)).frozen? _ = _
  simp [go_sem]
set_option maxHeartbeats 8000000 in
set_option maxRecDepth 100000 in
theorem ins1_grow (g vb : Nat) (x r a0 b0 a1 b1 a2 b2 : Int) (w : World) (c0 : w.cell? ⟨g, 0, none⟩ = some (.int .i64 a0)) (c1 : w.cell? ⟨g, 1, none⟩ = some (.int .i64 b0))
    (hcp1 : ∀ ty dc, (Builtin.copy_ #[22, 22] ty #[.slice (some ⟨w.heap.size, 2, none⟩) 3 dc, .slice (some ⟨vb, 0, none⟩) 1 1]).run Try.prog (insW w a0 b0) = .ok (.int .i64 1) ((insW w a0 b0).setCells w.heap.size 2 [.int .i64 x, .int .i64 r]))
    (hcp2 : ∀ W, (∀ p, W.cell? p = ((insW w a0 b0).setCells w.heap.size 2 [.int .i64 x, .int .i64 r]).cell? p) → (∀ p, W.frozen? p = ((insW w a0 b0).setCells w.heap.size 2 [.int .i64 x, .int .i64 r]).frozen? p) → ∀ ty dc, (Builtin.copy_ #[22, 22] ty #[.slice (some ⟨w.heap.size, 4, none⟩) 2 dc, .slice (some ⟨g, 2, none⟩) 2 2]).run Try.prog W = .ok (.int .i64 2) (W.setCells w.heap.size 4 [.int .i64 a1, .int .i64 b1, .int .i64 a2, .int .i64 b2])) :
    Calls Try.prog 46 #[.slice (some ⟨g, 0, none⟩) 3 3, .int .i64 1, .slice (some ⟨vb, 0, none⟩) 1 1] w fun e w' => e = .returned (.slice (some ⟨w.heap.size, 0, none⟩) 4 ((Question.appendCap 4 3 42).cut (w.tape w.drawn (Question.appendCap 4 3 42)))) ∧ w' = (((insW w a0 b0).setCells w.heap.size 2 [.int .i64 x, .int .i64 r]).drew).setCells w.heap.size 4 [.int .i64 a1, .int .i64 b1, .int .i64 a2, .int .i64 b2] := by
  have hK : ¬ (Question.appendCap 4 3 42).cut (w.tape w.drawn (Question.appendCap 4 3 42)) = 1 := by
    have := grownCap_ge w 4 3 42
    unfold grownCap at this
    omega
  have hK2 : ¬ (Question.appendCap 4 3 42).cut (w.tape w.drawn (Question.appendCap 4 3 42)) = 2 := by
    have := grownCap_ge w 4 3 42
    unfold grownCap at this
    omega
  have w2 : IntKind.i64.wrap 2 = 2 := by decide
  have hcp2b := hcp2 ((insW w a0 b0).setCells w.heap.size 2 [.int .i64 x, .int .i64 r]).drew (fun _ => rfl) (fun _ => rfl)
  clear hcp2
  have mixed : Try.prog.follows .mixedOrders = true := by kernel_rfl
  unfold insW insR at hcp1 hcp2b
  go_enter Try.func46, Try.ntmps46
  go_wp2_with fail
  go_region_law_o (fail)
  go_wp2
  go_ret
  exact ⟨rfl, rfl⟩
set_option maxHeartbeats 8000000 in
set_option maxRecDepth 100000 in
theorem ins1_room (g vb cap : Nat) (x r a1 b1 a2 b2 : Int) (w : World) (hc : 4 ≤ cap) (hm : cap ≤ 9223372036854775807)
    (hov : ∀ lb cb, (callFunc 70 #[.slice (some ⟨vb, 0, none⟩) 1 1, .slice (some ⟨g, 4, none⟩) lb cb]).run Try.prog w = .ok (.value (.bool false)) w)
    (hcp1 : ∀ ty dc sc, (Builtin.copy_ #[22, 22] ty #[.slice (some ⟨g, 4, none⟩) 2 dc, .slice (some ⟨g, 2, none⟩) 3 sc]).run Try.prog w.drew = .ok (.int .i64 2) (w.drew.setCells g 4 [.int .i64 a1, .int .i64 b1, .int .i64 a2, .int .i64 b2]))
    (hcp2 : ∀ ty dc, (Builtin.copy_ #[22, 22] ty #[.slice (some ⟨g, 2, none⟩) 3 dc, .slice (some ⟨vb, 0, none⟩) 1 1]).run Try.prog (w.drew.setCells g 4 [.int .i64 a1, .int .i64 b1, .int .i64 a2, .int .i64 b2]) = .ok (.int .i64 1) ((w.drew.setCells g 4 [.int .i64 a1, .int .i64 b1, .int .i64 a2, .int .i64 b2]).setCells g 2 [.int .i64 x, .int .i64 r])) :
    Calls Try.prog 46 #[.slice (some ⟨g, 0, none⟩) 3 cap, .int .i64 1, .slice (some ⟨vb, 0, none⟩) 1 1] w fun e w' => e = .returned (.slice (some ⟨g, 0, none⟩) 4 cap) ∧ w' = (w.drew.setCells g 4 [.int .i64 a1, .int .i64 b1, .int .i64 a2, .int .i64 b2]).setCells g 2 [.int .i64 x, .int .i64 r] := by
  have d0 : decide ((cap : Int) < 4) = false := decide_eq_false (by omega)
  have k0 : ¬ cap < 4 := by omega
  have k1 : ¬ cap = 1 := by omega
  have k2 : ¬ cap = 2 := by omega
  have k3 : (4 : Int) ≤ (cap : Int) := by omega
  have w2 : IntKind.i64.wrap 2 = 2 := by decide
  have w4 : IntKind.i64.wrap 4 = 4 := by decide
  have mixed : Try.prog.follows .mixedOrders = true := by kernel_rfl
  go_enter Try.func46, Try.ntmps46
  go_wp2_with (simp only [hov])
  go_region_law_o (fail)
  go_wp2
  go_ret
  exact ⟨rfl, rfl⟩
theorem nib_cells {B g : Nat} (hg : B ≤ g) : ∀ (vs : List Value) (o : Nat) (w : World), Below B w (w.setCells g o vs)
  | [], _, _ => Below.refl _ _
  | v :: r, o, w => ((Below.refl B w).setCell (p := ⟨g, o, none⟩) hg v).trans (nib_cells hg r (o + 1) _)
theorem ni_size (b : Nat) : ∀ (vs : List Value) (o : Nat) (w : World), (w.setCells b o vs).heap.size = w.heap.size
  | [], _, _ => rfl
  | v :: r, o, w => by rw [World.setCells, ni_size b r]; simp [World.setCell]
theorem one4 (a b c d : Int) : ∀ v ∈ [Value.int .i64 a, .int .i64 b, .int .i64 c, .int .i64 d], v.oneCell' = true := by
  intro v hv
  simp only [List.mem_cons, List.not_mem_nil, or_false] at hv
  rcases hv with rfl | rfl | rfl | rfl <;> rfl
theorem one2 (a b : Int) : ∀ v ∈ [Value.int .i64 a, .int .i64 b], v.oneCell' = true := by
  intro v hv
  simp only [List.mem_cons, List.not_mem_nil, or_false] at hv
  rcases hv with rfl | rfl <;> rfl
theorem get2 {W : World} {b o : Nat} {a c : Int} (h0 : W.cell? ⟨b, o, none⟩ = some (.int .i64 a)) (h1 : W.cell? ⟨b, o + 1, none⟩ = some (.int .i64 c)) :
    ∀ j v, [Value.int .i64 a, .int .i64 c][j]? = some v → W.cell? ((⟨b, o, none⟩ : Addr).add j) = some v := by
  intro j v h
  rw [Go.WideShapes.add_plain]
  match j, h with
  | 0, h => exact h0.trans h
  | 1, h => exact h1.trans h
  | j + 2, h => simp at h
theorem get4 {W : World} {b o : Nat} {a c d e : Int} (h0 : W.cell? ⟨b, o, none⟩ = some (.int .i64 a)) (h1 : W.cell? ⟨b, o + 1, none⟩ = some (.int .i64 c)) (h2 : W.cell? ⟨b, o + 2, none⟩ = some (.int .i64 d)) (h3 : W.cell? ⟨b, o + 3, none⟩ = some (.int .i64 e)) :
    ∀ j v, [Value.int .i64 a, .int .i64 c, .int .i64 d, .int .i64 e][j]? = some v → W.cell? ((⟨b, o, none⟩ : Addr).add j) = some v := by
  intro j v h
  rw [Go.WideShapes.add_plain]
  match j, h with
  | 0, h => exact h0.trans h
  | 1, h => exact h1.trans h
  | 2, h => exact h2.trans h
  | 3, h => exact h3.trans h
  | j + 4, h => simp at h
theorem grade_size : (Try.prog.info? 42).map (·.size) = some 2 := by kernel_rfl
/-- two stores into a row of at least eight cells, read -/
theorem two_in {W : World} {b : Nat} {a0 b0 x r a1 b1 a2 b2 : Int} (hs : ∀ j, j < 8 → (W.cell? ⟨b, j, none⟩).isSome = true) (h0 : W.cell? ⟨b, 0, none⟩ = some (.int .i64 a0)) (h1 : W.cell? ⟨b, 1, none⟩ = some (.int .i64 b0)) (V : World)
    (hV : (∀ p, V.cell? p = ((W.setCells b 2 [.int .i64 x, .int .i64 r]).setCells b 4 [.int .i64 a1, .int .i64 b1, .int .i64 a2, .int .i64 b2]).cell? p) ∨ (∀ p, V.cell? p = ((W.setCells b 4 [.int .i64 a1, .int .i64 b1, .int .i64 a2, .int .i64 b2]).setCells b 2 [.int .i64 x, .int .i64 r]).cell? p)) :
    ∀ j, j < 4 → V.cell? ⟨b, 0 + j * 2, none⟩ = some (.int .i64 (gX [(a0, b0), (x, r), (a1, b1), (a2, b2)] j)) ∧ V.cell? ⟨b, 0 + j * 2 + 1, none⟩ = some (.int .i64 (gR [(a0, b0), (x, r), (a1, b1), (a2, b2)] j)) := by
  have isS : ∀ (vs : List Value) (o : Nat) (W : World), (∀ j, j < 8 → (W.cell? ⟨b, j, none⟩).isSome = true) → o + vs.length ≤ 8 → ∀ j, j < 8 → ((W.setCells b o vs).cell? ⟨b, j, none⟩).isSome = true := fun vs o W h ho j hj => by
    by_cases e : o ≤ j ∧ j < o + vs.length
    · have := World.cell?_setCells_in b vs o W (fun k hk => h _ (by omega)) (j - o) (by omega)
      rw [show o + (j - o) = j by omega] at this
      rw [this]; rfl
    · rw [World.cell?_setCells_out b vs o W _ (fun _ _ => by show j < o ∨ o + vs.length ≤ j; omega)]
      exact h j hj
  have inn : ∀ (vs : List Value) (o : Nat) (W : World), (∀ j, j < 8 → (W.cell? ⟨b, j, none⟩).isSome = true) → o + vs.length ≤ 8 → ∀ k (hk : k < vs.length), (W.setCells b o vs).cell? ⟨b, o + k, none⟩ = some vs[k] := fun vs o W h ho k hk =>
    World.cell?_setCells_in b vs o W (fun q hq => h _ (by omega)) k hk
  have out : ∀ (vs : List Value) (o : Nat) (W : World) (j : Nat), (j < o ∨ o + vs.length ≤ j) → (W.setCells b o vs).cell? ⟨b, j, none⟩ = W.cell? ⟨b, j, none⟩ := fun vs o W j hj =>
    World.cell?_setCells_out b vs o W _ (fun _ _ => hj)
  have all : V.cell? ⟨b, 0, none⟩ = some (.int .i64 a0) ∧ V.cell? ⟨b, 1, none⟩ = some (.int .i64 b0) ∧ V.cell? ⟨b, 2, none⟩ = some (.int .i64 x) ∧ V.cell? ⟨b, 3, none⟩ = some (.int .i64 r) ∧ V.cell? ⟨b, 4, none⟩ = some (.int .i64 a1) ∧ V.cell? ⟨b, 5, none⟩ = some (.int .i64 b1) ∧ V.cell? ⟨b, 6, none⟩ = some (.int .i64 a2) ∧ V.cell? ⟨b, 7, none⟩ = some (.int .i64 b2) := by
    rcases hV with hV | hV
    · have s1 := isS [.int .i64 x, .int .i64 r] 2 W hs (by simp)
      have i4 := inn [.int .i64 a1, .int .i64 b1, .int .i64 a2, .int .i64 b2] 4 _ s1 (by simp)
      have i2 := inn [.int .i64 x, .int .i64 r] 2 W hs (by simp)
      refine ⟨?_, ?_, ?_, ?_, (hV _).trans (i4 0 (by simp)), (hV _).trans (i4 1 (by simp)), (hV _).trans (i4 2 (by simp)), (hV _).trans (i4 3 (by simp))⟩
      · rw [hV, out _ _ _ _ (.inl (by omega)), out _ _ _ _ (.inl (by omega))]; exact h0
      · rw [hV, out _ _ _ _ (.inl (by omega)), out _ _ _ _ (.inl (by omega))]; exact h1
      · rw [hV, out _ _ _ _ (.inl (by omega))]; exact i2 0 (by simp)
      · rw [hV, out _ _ _ _ (.inl (by omega))]; exact i2 1 (by simp)
    · have s1 := isS [.int .i64 a1, .int .i64 b1, .int .i64 a2, .int .i64 b2] 4 W hs (by simp)
      have i2 := inn [.int .i64 x, .int .i64 r] 2 _ s1 (by simp)
      have i4 := inn [.int .i64 a1, .int .i64 b1, .int .i64 a2, .int .i64 b2] 4 W hs (by simp)
      refine ⟨?_, ?_, (hV _).trans (i2 0 (by simp)), (hV _).trans (i2 1 (by simp)), ?_, ?_, ?_, ?_⟩
      · rw [hV, out _ _ _ _ (.inl (by omega)), out _ _ _ _ (.inl (by omega))]; exact h0
      · rw [hV, out _ _ _ _ (.inl (by omega)), out _ _ _ _ (.inl (by omega))]; exact h1
      · rw [hV, out _ _ _ _ (.inr (by simp))]; exact i4 0 (by simp)
      · rw [hV, out _ _ _ _ (.inr (by simp))]; exact i4 1 (by simp)
      · rw [hV, out _ _ _ _ (.inr (by simp))]; exact i4 2 (by simp)
      · rw [hV, out _ _ _ _ (.inr (by simp))]; exact i4 3 (by simp)
  obtain ⟨e0, e1, e2, e3, e4, e5, e6, e7⟩ := all
  intro j hj
  match j, hj with
  | 0, _ => exact ⟨e0, e1⟩
  | 1, _ => exact ⟨e2, e3⟩
  | 2, _ => exact ⟨e4, e5⟩
  | 3, _ => exact ⟨e6, e7⟩
theorem ni_drew (b : Nat) : ∀ (vs : List Value) (o : Nat) (w : World), w.drew.setCells b o vs = (w.setCells b o vs).drew
  | [], _, _ => rfl
  | v :: r, o, w => by
    show ((w.setCell ⟨b, o, none⟩ v).drew).setCells b (o + 1) r = _
    rw [ni_drew b r (o + 1)]; rfl
theorem ni_fz (b : Nat) (p : Addr) : ∀ (vs : List Value) (o : Nat) (w : World), (w.setCells b o vs).frozen? p = w.frozen? p
  | [], _, _ => rfl
  | v :: r, o, w => by rw [World.setCells, ni_fz b p r, World.frozen?_setCell]
theorem ni_fin (B G K : Nat) (a0 b0 x r a1 b1 a2 b2 : Int) (W Z w' : World) (hb : B ≤ G) (hG : G < Z.heap.size) (cs : ∀ j, j < 8 → (Z.cell? ⟨G, j, none⟩).isSome = true) (i0 : Z.cell? ⟨G, 0, none⟩ = some (.int .i64 a0)) (i1 : Z.cell? ⟨G, 1, none⟩ = some (.int .i64 b0))
    (hw' : w' = ((Z.setCells G 2 [.int .i64 x, .int .i64 r]).setCells G 4 [.int .i64 a1, .int .i64 b1, .int .i64 a2, .int .i64 b2]).drew) (gc : 4 ≤ K) (gm : K ≤ 9223372036854775807) (bX : Below B W Z) :
    Pts w' (.slice (some ⟨G, 0, none⟩) 4 K) [(a0, b0), (x, r), (a1, b1), (a2, b2)] ∧ Below B W w' := by
  obtain ⟨Y, hY⟩ : ∃ Y, Y = (Z.setCells G 2 [.int .i64 x, .int .i64 r]).setCells G 4 [.int .i64 a1, .int .i64 b1, .int .i64 a2, .int .i64 b2] := ⟨_, rfl⟩
  have hd : ∀ (Y : World) p, Y.drew.cell? p = Y.cell? p := fun _ _ => rfl
  have hcell := two_in (x := x) (r := r) (a1 := a1) (b1 := b1) (a2 := a2) (b2 := b2) cs i0 i1 w' (.inl fun p => by rw [hw', ← hY]; exact hd Y p)
  have bw : Below B Z w' := by rw [hw']; exact ((nib_cells hb _ _ _).trans (nib_cells hb _ _ _)).drew
  have sw : G < w'.heap.size := by
    have hds : ∀ Y : World, Y.drew.heap.size = Y.heap.size := fun _ => rfl
    rw [hw', hds, ni_size, ni_size]; exact hG
  exact ⟨⟨_, K, rfl, ⟨gc, gm⟩, .inr ⟨G, 0, rfl, sw, hcell⟩⟩, bX.trans bw⟩
set_option maxHeartbeats 4000000 in
theorem ins1_any (u : Value) (x r a0 b0 a1 b1 a2 b2 : Int) (B : Nat) (w : World) (T : TypeId) (h : OwnP w B u [(a0, b0), (a1, b1), (a2, b2)]) (hB : B ≤ w.heap.size) :
    Calls Try.prog 46 #[u, .int .i64 1, .slice (some ⟨w.heap.size, 0, none⟩) 1 1] (w.alloc (.cells #[.int .i64 x, .int .i64 r] T)) fun e w' => ∃ z, e = .returned z ∧ Pts w' z [(a0, b0), (x, r), (a1, b1), (a2, b2)] ∧ Below B w w' := by
  have hP := OwnP.pts h
  obtain ⟨_, h2⟩ := h
  rcases h2 with ⟨_, hn0⟩ | ⟨g, cap, cur, rfl, hg, hh, hc, hm, hs, ht⟩
  · exact absurd hn0 (by simp)
  have hlt : g < w.heap.size := (Array.getElem?_eq_some_iff.1 hh).1
  unfold maxLen at hm
  simp only [List.length_cons, List.length_nil] at hc hs
  obtain ⟨a', cap', e', _, hh'⟩ := hP
  simp only [Value.slice.injEq] at e'
  obtain ⟨e1, _, _⟩ := e'
  rcases hh' with hh' | ⟨b', o', rfl, _, hc'⟩
  · simp at hh'
  simp only [Option.some.injEq, Addr.mk.injEq, and_true] at e1
  obtain ⟨rfl, rfl⟩ := e1
  obtain ⟨W, hW⟩ : ∃ W, W = w.alloc (.cells #[.int .i64 x, .int .i64 r] T) := ⟨_, rfl⟩
  have XW : Below w.heap.size w W := by rw [hW]; exact bel_alloc (Below.refl _ _)
  have XB : Below B w W := XW.mono hB
  have hsz : W.heap.size = w.heap.size + 1 := by rw [hW, World.size_alloc]
  have q : ∀ {p : Addr} {v : Value}, w.cell? p = some v → W.cell? p = some v := fun hp => cell_bel hp XW
  have k0 := q (hc' 0 (by simp)).1
  have k1 := q (hc' 0 (by simp)).2
  have k2 := q (hc' 1 (by simp)).1
  have k3 := q (hc' 1 (by simp)).2
  have k4 := q (hc' 2 (by simp)).1
  have k5 := q (hc' 2 (by simp)).2
  have v0 : W.cell? ⟨w.heap.size, 0, none⟩ = some (.int .i64 x) := by rw [hW, World.cell?_alloc_new]; rfl
  have v1 : W.cell? ⟨w.heap.size, 0 + 1, none⟩ = some (.int .i64 r) := by rw [hW, World.cell?_alloc_new]; rfl
  rw [← hW]
  by_cases hr : cap < 4
  · obtain rfl : cap = 3 := by omega
    have sz := insR_size W a0 b0
    have cs : ∀ j, j < 8 → ((insW W a0 b0).cell? ⟨W.heap.size, j, none⟩).isSome = true := fun j hj => by
      rw [insW_cell, Array.getElem?_eq_getElem (by omega)]; rfl
    have i0 : (insW W a0 b0).cell? ⟨W.heap.size, 0, none⟩ = some (.int .i64 a0) := by
      rw [insW_cell]; unfold insR; rw [Array.getElem?_append_left (by simp)]; rfl
    have i1 : (insW W a0 b0).cell? ⟨W.heap.size, 1, none⟩ = some (.int .i64 b0) := by
      rw [insW_cell]; unfold insR; rw [Array.getElem?_append_left (by simp)]; rfl
    have gc := grownCap_ge W 4 3 42
    have gm := grownCap_le_maxLen W 4 3 42 (by unfold maxLen; omega)
    unfold grownCap at gc gm
    refine (ins1_grow g w.heap.size x r a0 b0 a1 b1 a2 b2 W k0 k1 (fun ty dc => ?_) (fun V hv1 hv2 ty dc => ?_)).mono ?_
    · exact run_copy_k (insW W a0 b0) _ _ ty 42 2 W.heap.size 2 3 dc ⟨w.heap.size, 0, none⟩ 1 1 [.int .i64 x, .int .i64 r] Try.underlying22 grade_size rfl (get2 (insW_old W a0 b0 v0) (insW_old W a0 b0 v1)) (fun j hj => cs _ (by simp at hj; omega)) (fun j _ => insW_fz W a0 b0 _) (one2 x r)
    · have old : ∀ {j : Nat} {v : Value}, W.cell? ⟨g, j, none⟩ = some v → V.cell? ⟨g, j, none⟩ = some v := fun hp => by
        rw [hv1, World.cell?_setCells_out _ _ _ _ _ (fun e => by simp at e; omega)]
        exact insW_old W a0 b0 hp
      exact run_copy_k V _ _ ty 42 2 W.heap.size 4 2 dc ⟨g, 2, none⟩ 2 2 [.int .i64 a1, .int .i64 b1, .int .i64 a2, .int .i64 b2] Try.underlying22 grade_size rfl (get4 (old k2) (old k3) (old k4) (old k5))
        (fun j hj => by
          simp at hj
          rw [hv1, World.cell?_setCells_out _ _ _ _ _ (fun _ _ => .inr (by simp))]
          exact cs _ (by omega)) (fun j _ => by rw [hv2, ni_fz]; exact insW_fz W a0 b0 _) (one4 a1 b1 a2 b2)
    · rintro e w' ⟨rfl, hw'⟩
      have hb : B ≤ W.heap.size := by omega
      obtain ⟨p1, p2⟩ := ni_fin B W.heap.size _ a0 b0 x r a1 b1 a2 b2 W (insW W a0 b0) w' hb (by rw [insW_size]; omega) cs i0 i1 (hw'.trans (ni_drew _ _ _ _)) gc (by unfold maxLen at gm; omega) (insW_bel W a0 b0 hb)
      exact ⟨_, rfl, p1, XB.trans p2⟩
  · have hne : w.heap.size ≠ g := by omega
    have hhW : W.heap[g]? = some (.cells cur 42) := by rw [XW.block g hlt]; exact hh
    have cs : ∀ j, j < 8 → (W.drew.cell? ⟨g, j, none⟩).isSome = true := fun j hj => by
      show (W.cell? ⟨g, j, none⟩).isSome = true
      simp only [World.cell?, hhW]
      rw [if_neg (by simp), Array.getElem?_eq_getElem (by omega)]; rfl
    have fz : ∀ j, W.drew.frozen? ⟨g, j, none⟩ = false := fun j => by
      show W.frozen? ⟨g, j, none⟩ = false
      simp [World.frozen?, hhW]
    refine (ins1_room g w.heap.size cap x r a1 b1 a2 b2 W (by omega) (by omega) (fun lb cb => ?_) (fun ty dc sc => ?_) (fun ty dc => ?_)).mono ?_
    · rw [run_callFunc_extern Try.func70 (by kernel_rfl) (by kernel_rfl) (by kernel_rfl) (e := Extern.SlicesOverlaps.overlaps #[22, 22] #[4]) (by kernel_rfl),
        Lib.run_overlaps_apart W 22 4 42 Try.underlying22 2 Try.sizeOf42 ⟨w.heap.size, 0, none⟩ ⟨g, 4, none⟩ 1 1 lb cb hne T 42 2 cur.size (by rw [hW]; show World.shape? _ w.heap.size = _; unfold World.shape?; rw [show (w.alloc (.cells #[Value.int .i64 x, .int .i64 r] T)).heap[w.heap.size]? = some (.cells #[Value.int .i64 x, .int .i64 r] T) from Array.getElem?_push_size]; rfl) (by simp [World.shape?, hhW]) (by omega) (by rw [hW]; simp [go_sem]) (by rw [hW]; simp [go_sem])]
      rfl
    · exact run_copy_k W.drew _ _ ty 42 2 g 4 2 dc ⟨g, 2, none⟩ 3 sc [.int .i64 a1, .int .i64 b1, .int .i64 a2, .int .i64 b2] Try.underlying22 grade_size rfl (get4 k2 k3 k4 k5) (fun j hj => cs _ (by simp at hj; omega)) (fun j _ => fz _) (one4 a1 b1 a2 b2)
    · have old : ∀ {j : Nat} {v : Value}, W.cell? ⟨w.heap.size, j, none⟩ = some v → (W.drew.setCells g 4 [.int .i64 a1, .int .i64 b1, .int .i64 a2, .int .i64 b2]).cell? ⟨w.heap.size, j, none⟩ = some v := fun hp => by
        rw [World.cell?_setCells_out _ _ _ _ _ (fun e => by simp at e; omega)]
        exact hp
      exact run_copy_k _ _ _ ty 42 2 g 2 3 dc ⟨w.heap.size, 0, none⟩ 1 1 [.int .i64 x, .int .i64 r] Try.underlying22 grade_size rfl (get2 (old v0) (old v1)) (fun j hj => by
          simp at hj
          rw [World.cell?_setCells_out _ _ _ _ _ (fun _ _ => .inl (by show 2 + j < 4; omega))]
          exact cs _ (by omega)) (fun j _ => by rw [ni_fz]; exact fz _) (one2 x r)
    · rintro e w' ⟨rfl, hw'⟩
      have hcell := two_in cs k0 k1 w' (.inr fun p => by rw [hw'])
      have bw : Below B W w' := by rw [hw']; exact ((Below.refl B W).drew.trans (nib_cells hg _ _ _)).trans (nib_cells hg _ _ _)
      have sw : g < w'.heap.size := by
        rw [hw', ni_size, ni_size]
        show g < W.heap.size
        omega
      exact ⟨_, rfl, ⟨_, _, rfl, ⟨by show 4 ≤ cap; omega, by omega⟩, .inr ⟨g, 0, rfl, sw, hcell⟩⟩, XB.trans bw⟩
end Go.Proofs.Ytadkhhkoankhnaa

/- slices.Insert of one row into three, before the last one. -/
namespace Go.Proofs.Ytadkhhkoankhnaa
open Go.RowKit

def insR2 (w : World) (a0 b0 a1 b1 : Int) : Array Value :=
  #[.int .i64 a0, .int .i64 b0, .int .i64 a1, .int .i64 b1] ++ (Builtin.zeroCells #[.int .i64 0, .int .i64 0] 2 ++ Builtin.zeroCells #[.int .i64 0, .int .i64 0] ((Question.appendCap 4 3 42).cut (w.tape w.drawn (Question.appendCap 4 3 42)) - 4))
def insW2 (w : World) (a0 b0 a1 b1 : Int) : World := (w.alloc (.cells (insR2 w a0 b0 a1 b1) 42)).drew
theorem insR2_size (w : World) (a0 b0 a1 b1 : Int) : 8 ≤ (insR2 w a0 b0 a1 b1).size := by
  simp [insR2, Builtin.zeroCells]
  omega
theorem insW2_cell (w : World) (a0 b0 a1 b1 : Int) (j : Nat) : (insW2 w a0 b0 a1 b1).cell? ⟨w.heap.size, j, none⟩ = (insR2 w a0 b0 a1 b1)[j]? := by
  show (w.alloc (.cells (insR2 w a0 b0 a1 b1) 42)).cell? _ = _
  simp [go_sem]
theorem insW2_old (w : World) (a0 b0 a1 b1 : Int) {p : Addr} {v : Value} (h : w.cell? p = some v) : (insW2 w a0 b0 a1 b1).cell? p = some v :=
  cell_bel h (bel_alloc (o := .cells (insR2 w a0 b0 a1 b1) 42) ((Below.refl _ _).drew))
theorem insW2_size (w : World) (a0 b0 a1 b1 : Int) : (insW2 w a0 b0 a1 b1).heap.size = w.heap.size + 1 := by
  show (w.alloc (.cells (insR2 w a0 b0 a1 b1) 42)).heap.size = _
  rw [World.size_alloc]
theorem insW2_bel (w : World) (a0 b0 a1 b1 : Int) {B : Nat} (hb : B ≤ w.heap.size) : Below B w (insW2 w a0 b0 a1 b1) :=
  ((Below.refl B w).alloc hb (.cells (insR2 w a0 b0 a1 b1) 42)).drew
theorem insW2_fz (w : World) (a0 b0 a1 b1 : Int) (j : Nat) : (insW2 w a0 b0 a1 b1).frozen? ⟨w.heap.size, j, none⟩ = false := by
  show (w.alloc (.cells (insR2 w a0 b0 a1 b1) 42)).frozen? _ = _
  simp [go_sem]
set_option maxHeartbeats 8000000 in
set_option maxRecDepth 100000 in
theorem ins2_grow (g vb : Nat) (x r a0 b0 a1 b1 a2 b2 : Int) (w : World) (c0 : w.cell? ⟨g, 0, none⟩ = some (.int .i64 a0)) (c1 : w.cell? ⟨g, 1, none⟩ = some (.int .i64 b0)) (c2 : w.cell? ⟨g, 2, none⟩ = some (.int .i64 a1)) (c3 : w.cell? ⟨g, 3, none⟩ = some (.int .i64 b1))
    (hcp1 : ∀ ty dc, (Builtin.copy_ #[22, 22] ty #[.slice (some ⟨w.heap.size, 4, none⟩) 2 dc, .slice (some ⟨vb, 0, none⟩) 1 1]).run Try.prog (insW2 w a0 b0 a1 b1) = .ok (.int .i64 1) ((insW2 w a0 b0 a1 b1).setCells w.heap.size 4 [.int .i64 x, .int .i64 r]))
    (hcp2 : ∀ W, (∀ p, W.cell? p = ((insW2 w a0 b0 a1 b1).setCells w.heap.size 4 [.int .i64 x, .int .i64 r]).cell? p) → (∀ p, W.frozen? p = ((insW2 w a0 b0 a1 b1).setCells w.heap.size 4 [.int .i64 x, .int .i64 r]).frozen? p) → ∀ ty dc, (Builtin.copy_ #[22, 22] ty #[.slice (some ⟨w.heap.size, 6, none⟩) 1 dc, .slice (some ⟨g, 4, none⟩) 1 1]).run Try.prog W = .ok (.int .i64 1) (W.setCells w.heap.size 6 [.int .i64 a2, .int .i64 b2])) :
    Calls Try.prog 46 #[.slice (some ⟨g, 0, none⟩) 3 3, .int .i64 2, .slice (some ⟨vb, 0, none⟩) 1 1] w fun e w' => e = .returned (.slice (some ⟨w.heap.size, 0, none⟩) 4 ((Question.appendCap 4 3 42).cut (w.tape w.drawn (Question.appendCap 4 3 42)))) ∧ w' = (((insW2 w a0 b0 a1 b1).setCells w.heap.size 4 [.int .i64 x, .int .i64 r]).drew).setCells w.heap.size 6 [.int .i64 a2, .int .i64 b2] := by
  have hK : ¬ (Question.appendCap 4 3 42).cut (w.tape w.drawn (Question.appendCap 4 3 42)) = 2 := by
    have := grownCap_ge w 4 3 42
    unfold grownCap at this
    omega
  have hK2 : ¬ (Question.appendCap 4 3 42).cut (w.tape w.drawn (Question.appendCap 4 3 42)) = 3 := by
    have := grownCap_ge w 4 3 42
    unfold grownCap at this
    omega
  have w2 : IntKind.i64.wrap 2 = 2 := by decide
  have w3 : IntKind.i64.wrap 3 = 3 := by decide
  have w4 : IntKind.i64.wrap 4 = 4 := by decide
  have hcp2b := hcp2 ((insW2 w a0 b0 a1 b1).setCells w.heap.size 4 [.int .i64 x, .int .i64 r]).drew (fun _ => rfl) (fun _ => rfl)
  clear hcp2
  have mixed : Try.prog.follows .mixedOrders = true := by kernel_rfl
  unfold insW2 insR2 at hcp1 hcp2b
  go_enter Try.func46, Try.ntmps46
  go_wp2_with fail
  go_region_law_o (fail)
  go_wp2
  go_ret
  exact ⟨rfl, rfl⟩
set_option maxHeartbeats 8000000 in
set_option maxRecDepth 100000 in
theorem ins2_room (g vb cap : Nat) (x r a2 b2 : Int) (w : World) (hc : 4 ≤ cap) (hm : cap ≤ 9223372036854775807)
    (hov : ∀ lb cb, (callFunc 70 #[.slice (some ⟨vb, 0, none⟩) 1 1, .slice (some ⟨g, 6, none⟩) lb cb]).run Try.prog w = .ok (.value (.bool false)) w)
    (hcp1 : ∀ ty dc sc, (Builtin.copy_ #[22, 22] ty #[.slice (some ⟨g, 6, none⟩) 1 dc, .slice (some ⟨g, 4, none⟩) 2 sc]).run Try.prog w.drew = .ok (.int .i64 1) (w.drew.setCells g 6 [.int .i64 a2, .int .i64 b2]))
    (hcp2 : ∀ ty dc, (Builtin.copy_ #[22, 22] ty #[.slice (some ⟨g, 4, none⟩) 2 dc, .slice (some ⟨vb, 0, none⟩) 1 1]).run Try.prog (w.drew.setCells g 6 [.int .i64 a2, .int .i64 b2]) = .ok (.int .i64 1) ((w.drew.setCells g 6 [.int .i64 a2, .int .i64 b2]).setCells g 4 [.int .i64 x, .int .i64 r])) :
    Calls Try.prog 46 #[.slice (some ⟨g, 0, none⟩) 3 cap, .int .i64 2, .slice (some ⟨vb, 0, none⟩) 1 1] w fun e w' => e = .returned (.slice (some ⟨g, 0, none⟩) 4 cap) ∧ w' = (w.drew.setCells g 6 [.int .i64 a2, .int .i64 b2]).setCells g 4 [.int .i64 x, .int .i64 r] := by
  have d0 : decide ((cap : Int) < 4) = false := decide_eq_false (by omega)
  have k0 : ¬ cap < 4 := by omega
  have k1 : ¬ cap = 3 := by omega
  have k2 : ¬ cap = 2 := by omega
  have k3 : (4 : Int) ≤ (cap : Int) := by omega
  have w2 : IntKind.i64.wrap 2 = 2 := by decide
  have w3 : IntKind.i64.wrap 3 = 3 := by decide
  have w4 : IntKind.i64.wrap 4 = 4 := by decide
  have mixed : Try.prog.follows .mixedOrders = true := by kernel_rfl
  go_enter Try.func46, Try.ntmps46
  go_wp2_with (simp only [hov])
  go_region_law_o (fail)
  go_wp2
  go_ret
  exact ⟨rfl, rfl⟩
/-- two stores into a row of at least eight cells, read -/
theorem two_in2 {W : World} {b : Nat} {a0 b0 x r a1 b1 a2 b2 : Int} (hs : ∀ j, j < 8 → (W.cell? ⟨b, j, none⟩).isSome = true) (h0 : W.cell? ⟨b, 0, none⟩ = some (.int .i64 a0)) (h1 : W.cell? ⟨b, 1, none⟩ = some (.int .i64 b0)) (h2 : W.cell? ⟨b, 2, none⟩ = some (.int .i64 a1)) (h3 : W.cell? ⟨b, 3, none⟩ = some (.int .i64 b1)) (V : World)
    (hV : (∀ p, V.cell? p = ((W.setCells b 4 [.int .i64 x, .int .i64 r]).setCells b 6 [.int .i64 a2, .int .i64 b2]).cell? p) ∨ (∀ p, V.cell? p = ((W.setCells b 6 [.int .i64 a2, .int .i64 b2]).setCells b 4 [.int .i64 x, .int .i64 r]).cell? p)) :
    ∀ j, j < 4 → V.cell? ⟨b, 0 + j * 2, none⟩ = some (.int .i64 (gX [(a0, b0), (a1, b1), (x, r), (a2, b2)] j)) ∧ V.cell? ⟨b, 0 + j * 2 + 1, none⟩ = some (.int .i64 (gR [(a0, b0), (a1, b1), (x, r), (a2, b2)] j)) := by
  have isS : ∀ (vs : List Value) (o : Nat) (W : World), (∀ j, j < 8 → (W.cell? ⟨b, j, none⟩).isSome = true) → o + vs.length ≤ 8 → ∀ j, j < 8 → ((W.setCells b o vs).cell? ⟨b, j, none⟩).isSome = true := fun vs o W h ho j hj => by
    by_cases e : o ≤ j ∧ j < o + vs.length
    · have := World.cell?_setCells_in b vs o W (fun k hk => h _ (by omega)) (j - o) (by omega)
      rw [show o + (j - o) = j by omega] at this
      rw [this]; rfl
    · rw [World.cell?_setCells_out b vs o W _ (fun _ _ => by show j < o ∨ o + vs.length ≤ j; omega)]
      exact h j hj
  have inn : ∀ (vs : List Value) (o : Nat) (W : World), (∀ j, j < 8 → (W.cell? ⟨b, j, none⟩).isSome = true) → o + vs.length ≤ 8 → ∀ k (hk : k < vs.length), (W.setCells b o vs).cell? ⟨b, o + k, none⟩ = some vs[k] := fun vs o W h ho k hk =>
    World.cell?_setCells_in b vs o W (fun q hq => h _ (by omega)) k hk
  have out : ∀ (vs : List Value) (o : Nat) (W : World) (j : Nat), (j < o ∨ o + vs.length ≤ j) → (W.setCells b o vs).cell? ⟨b, j, none⟩ = W.cell? ⟨b, j, none⟩ := fun vs o W j hj =>
    World.cell?_setCells_out b vs o W _ (fun _ _ => hj)
  have all : V.cell? ⟨b, 0, none⟩ = some (.int .i64 a0) ∧ V.cell? ⟨b, 1, none⟩ = some (.int .i64 b0) ∧ V.cell? ⟨b, 2, none⟩ = some (.int .i64 a1) ∧ V.cell? ⟨b, 3, none⟩ = some (.int .i64 b1) ∧ V.cell? ⟨b, 4, none⟩ = some (.int .i64 x) ∧ V.cell? ⟨b, 5, none⟩ = some (.int .i64 r) ∧ V.cell? ⟨b, 6, none⟩ = some (.int .i64 a2) ∧ V.cell? ⟨b, 7, none⟩ = some (.int .i64 b2) := by
    rcases hV with hV | hV
    · have s1 := isS [.int .i64 x, .int .i64 r] 4 W hs (by simp)
      have i4 := inn [.int .i64 a2, .int .i64 b2] 6 _ s1 (by simp)
      have i2 := inn [.int .i64 x, .int .i64 r] 4 W hs (by simp)
      refine ⟨?_, ?_, ?_, ?_, ?_, ?_, (hV _).trans (i4 0 (by simp)), (hV _).trans (i4 1 (by simp))⟩
      · rw [hV, out _ _ _ _ (.inl (by omega)), out _ _ _ _ (.inl (by omega))]; exact h0
      · rw [hV, out _ _ _ _ (.inl (by omega)), out _ _ _ _ (.inl (by omega))]; exact h1
      · rw [hV, out _ _ _ _ (.inl (by omega)), out _ _ _ _ (.inl (by omega))]; exact h2
      · rw [hV, out _ _ _ _ (.inl (by omega)), out _ _ _ _ (.inl (by omega))]; exact h3
      · rw [hV, out _ _ _ _ (.inl (by omega))]; exact i2 0 (by simp)
      · rw [hV, out _ _ _ _ (.inl (by omega))]; exact i2 1 (by simp)
    · have s1 := isS [.int .i64 a2, .int .i64 b2] 6 W hs (by simp)
      have i2 := inn [.int .i64 x, .int .i64 r] 4 _ s1 (by simp)
      have i4 := inn [.int .i64 a2, .int .i64 b2] 6 W hs (by simp)
      refine ⟨?_, ?_, ?_, ?_, (hV _).trans (i2 0 (by simp)), (hV _).trans (i2 1 (by simp)), ?_, ?_⟩
      · rw [hV, out _ _ _ _ (.inl (by omega)), out _ _ _ _ (.inl (by omega))]; exact h0
      · rw [hV, out _ _ _ _ (.inl (by omega)), out _ _ _ _ (.inl (by omega))]; exact h1
      · rw [hV, out _ _ _ _ (.inl (by omega)), out _ _ _ _ (.inl (by omega))]; exact h2
      · rw [hV, out _ _ _ _ (.inl (by omega)), out _ _ _ _ (.inl (by omega))]; exact h3
      · rw [hV, out _ _ _ _ (.inr (by simp))]; exact i4 0 (by simp)
      · rw [hV, out _ _ _ _ (.inr (by simp))]; exact i4 1 (by simp)
  obtain ⟨e0, e1, e2, e3, e4, e5, e6, e7⟩ := all
  intro j hj
  match j, hj with
  | 0, _ => exact ⟨e0, e1⟩
  | 1, _ => exact ⟨e2, e3⟩
  | 2, _ => exact ⟨e4, e5⟩
  | 3, _ => exact ⟨e6, e7⟩
theorem ni_fin2 (B G K : Nat) (a0 b0 x r a1 b1 a2 b2 : Int) (W Z w' : World) (hb : B ≤ G) (hG : G < Z.heap.size) (cs : ∀ j, j < 8 → (Z.cell? ⟨G, j, none⟩).isSome = true) (i0 : Z.cell? ⟨G, 0, none⟩ = some (.int .i64 a0)) (i1 : Z.cell? ⟨G, 1, none⟩ = some (.int .i64 b0)) (i2 : Z.cell? ⟨G, 2, none⟩ = some (.int .i64 a1)) (i3 : Z.cell? ⟨G, 3, none⟩ = some (.int .i64 b1))
    (hw' : w' = ((Z.setCells G 4 [.int .i64 x, .int .i64 r]).setCells G 6 [.int .i64 a2, .int .i64 b2]).drew) (gc : 4 ≤ K) (gm : K ≤ 9223372036854775807) (bX : Below B W Z) :
    Pts w' (.slice (some ⟨G, 0, none⟩) 4 K) [(a0, b0), (a1, b1), (x, r), (a2, b2)] ∧ Below B W w' := by
  obtain ⟨Y, hY⟩ : ∃ Y, Y = (Z.setCells G 4 [.int .i64 x, .int .i64 r]).setCells G 6 [.int .i64 a2, .int .i64 b2] := ⟨_, rfl⟩
  have hd : ∀ (Y : World) p, Y.drew.cell? p = Y.cell? p := fun _ _ => rfl
  have hcell := two_in2 (x := x) (r := r) (a2 := a2) (b2 := b2) cs i0 i1 i2 i3 w' (.inl fun p => by rw [hw', ← hY]; exact hd Y p)
  have bw : Below B Z w' := by rw [hw']; exact ((nib_cells hb _ _ _).trans (nib_cells hb _ _ _)).drew
  have sw : G < w'.heap.size := by
    have hds : ∀ Y : World, Y.drew.heap.size = Y.heap.size := fun _ => rfl
    rw [hw', hds, ni_size, ni_size]; exact hG
  exact ⟨⟨_, K, rfl, ⟨gc, gm⟩, .inr ⟨G, 0, rfl, sw, hcell⟩⟩, bX.trans bw⟩
set_option maxHeartbeats 4000000 in
theorem ins2_any (u : Value) (x r a0 b0 a1 b1 a2 b2 : Int) (B : Nat) (w : World) (T : TypeId) (h : OwnP w B u [(a0, b0), (a1, b1), (a2, b2)]) (hB : B ≤ w.heap.size) :
    Calls Try.prog 46 #[u, .int .i64 2, .slice (some ⟨w.heap.size, 0, none⟩) 1 1] (w.alloc (.cells #[.int .i64 x, .int .i64 r] T)) fun e w' => ∃ z, e = .returned z ∧ Pts w' z [(a0, b0), (a1, b1), (x, r), (a2, b2)] ∧ Below B w w' := by
  have hP := OwnP.pts h
  obtain ⟨_, h2⟩ := h
  rcases h2 with ⟨_, hn0⟩ | ⟨g, cap, cur, rfl, hg, hh, hc, hm, hs, ht⟩
  · exact absurd hn0 (by simp)
  have hlt : g < w.heap.size := (Array.getElem?_eq_some_iff.1 hh).1
  unfold maxLen at hm
  simp only [List.length_cons, List.length_nil] at hc hs
  obtain ⟨a', cap', e', _, hh'⟩ := hP
  simp only [Value.slice.injEq] at e'
  obtain ⟨e1, _, _⟩ := e'
  rcases hh' with hh' | ⟨b', o', rfl, _, hc'⟩
  · simp at hh'
  simp only [Option.some.injEq, Addr.mk.injEq, and_true] at e1
  obtain ⟨rfl, rfl⟩ := e1
  obtain ⟨W, hW⟩ : ∃ W, W = w.alloc (.cells #[.int .i64 x, .int .i64 r] T) := ⟨_, rfl⟩
  have XW : Below w.heap.size w W := by rw [hW]; exact bel_alloc (Below.refl _ _)
  have XB : Below B w W := XW.mono hB
  have hsz : W.heap.size = w.heap.size + 1 := by rw [hW, World.size_alloc]
  have q : ∀ {p : Addr} {v : Value}, w.cell? p = some v → W.cell? p = some v := fun hp => cell_bel hp XW
  have k0 := q (hc' 0 (by simp)).1
  have k1 := q (hc' 0 (by simp)).2
  have k2 := q (hc' 1 (by simp)).1
  have k3 := q (hc' 1 (by simp)).2
  have k4 := q (hc' 2 (by simp)).1
  have k5 := q (hc' 2 (by simp)).2
  have v0 : W.cell? ⟨w.heap.size, 0, none⟩ = some (.int .i64 x) := by rw [hW, World.cell?_alloc_new]; rfl
  have v1 : W.cell? ⟨w.heap.size, 0 + 1, none⟩ = some (.int .i64 r) := by rw [hW, World.cell?_alloc_new]; rfl
  rw [← hW]
  by_cases hr : cap < 4
  · obtain rfl : cap = 3 := by omega
    have sz := insR2_size W a0 b0 a1 b1
    have cs : ∀ j, j < 8 → ((insW2 W a0 b0 a1 b1).cell? ⟨W.heap.size, j, none⟩).isSome = true := fun j hj => by
      rw [insW2_cell, Array.getElem?_eq_getElem (by omega)]; rfl
    have i0 : (insW2 W a0 b0 a1 b1).cell? ⟨W.heap.size, 0, none⟩ = some (.int .i64 a0) := by
      rw [insW2_cell]; unfold insR2; rw [Array.getElem?_append_left (by simp)]; rfl
    have i1 : (insW2 W a0 b0 a1 b1).cell? ⟨W.heap.size, 1, none⟩ = some (.int .i64 b0) := by
      rw [insW2_cell]; unfold insR2; rw [Array.getElem?_append_left (by simp)]; rfl
    have i2 : (insW2 W a0 b0 a1 b1).cell? ⟨W.heap.size, 2, none⟩ = some (.int .i64 a1) := by
      rw [insW2_cell]; unfold insR2; rw [Array.getElem?_append_left (by simp)]; rfl
    have i3 : (insW2 W a0 b0 a1 b1).cell? ⟨W.heap.size, 3, none⟩ = some (.int .i64 b1) := by
      rw [insW2_cell]; unfold insR2; rw [Array.getElem?_append_left (by simp)]; rfl
    have gc := grownCap_ge W 4 3 42
    have gm := grownCap_le_maxLen W 4 3 42 (by unfold maxLen; omega)
    unfold grownCap at gc gm
    refine (ins2_grow g w.heap.size x r a0 b0 a1 b1 a2 b2 W k0 k1 k2 k3 (fun ty dc => ?_) (fun V hv1 hv2 ty dc => ?_)).mono ?_
    · exact run_copy_k (insW2 W a0 b0 a1 b1) _ _ ty 42 2 W.heap.size 4 2 dc ⟨w.heap.size, 0, none⟩ 1 1 [.int .i64 x, .int .i64 r] Try.underlying22 grade_size rfl (get2 (insW2_old W a0 b0 a1 b1 v0) (insW2_old W a0 b0 a1 b1 v1)) (fun j hj => cs _ (by simp at hj; omega)) (fun j _ => insW2_fz W a0 b0 a1 b1 _) (one2 x r)
    · have old : ∀ {j : Nat} {v : Value}, W.cell? ⟨g, j, none⟩ = some v → V.cell? ⟨g, j, none⟩ = some v := fun hp => by
        rw [hv1, World.cell?_setCells_out _ _ _ _ _ (fun e => by simp at e; omega)]
        exact insW2_old W a0 b0 a1 b1 hp
      exact run_copy_k V _ _ ty 42 2 W.heap.size 6 1 dc ⟨g, 4, none⟩ 1 1 [.int .i64 a2, .int .i64 b2] Try.underlying22 grade_size rfl (get2 (old k4) (old k5))
        (fun j hj => by
          simp at hj
          rw [hv1, World.cell?_setCells_out _ _ _ _ _ (fun _ _ => .inr (by simp))]
          exact cs _ (by omega)) (fun j _ => by rw [hv2, ni_fz]; exact insW2_fz W a0 b0 a1 b1 _) (one2 a2 b2)
    · rintro e w' ⟨rfl, hw'⟩
      have hb : B ≤ W.heap.size := by omega
      obtain ⟨p1, p2⟩ := ni_fin2 B W.heap.size _ a0 b0 x r a1 b1 a2 b2 W (insW2 W a0 b0 a1 b1) w' hb (by rw [insW2_size]; omega) cs i0 i1 i2 i3 (hw'.trans (ni_drew _ _ _ _)) gc (by unfold maxLen at gm; omega) (insW2_bel W a0 b0 a1 b1 hb)
      exact ⟨_, rfl, p1, XB.trans p2⟩
  · have hne : w.heap.size ≠ g := by omega
    have hhW : W.heap[g]? = some (.cells cur 42) := by rw [XW.block g hlt]; exact hh
    have cs : ∀ j, j < 8 → (W.drew.cell? ⟨g, j, none⟩).isSome = true := fun j hj => by
      show (W.cell? ⟨g, j, none⟩).isSome = true
      simp only [World.cell?, hhW]
      rw [if_neg (by simp), Array.getElem?_eq_getElem (by omega)]; rfl
    have fz : ∀ j, W.drew.frozen? ⟨g, j, none⟩ = false := fun j => by
      show W.frozen? ⟨g, j, none⟩ = false
      simp [World.frozen?, hhW]
    refine (ins2_room g w.heap.size cap x r a2 b2 W (by omega) (by omega) (fun lb cb => ?_) (fun ty dc sc => ?_) (fun ty dc => ?_)).mono ?_
    · rw [run_callFunc_extern Try.func70 (by kernel_rfl) (by kernel_rfl) (by kernel_rfl) (e := Extern.SlicesOverlaps.overlaps #[22, 22] #[4]) (by kernel_rfl),
        Lib.run_overlaps_apart W 22 4 42 Try.underlying22 2 Try.sizeOf42 ⟨w.heap.size, 0, none⟩ ⟨g, 6, none⟩ 1 1 lb cb hne T 42 2 cur.size (by rw [hW]; show World.shape? _ w.heap.size = _; unfold World.shape?; rw [show (w.alloc (.cells #[Value.int .i64 x, .int .i64 r] T)).heap[w.heap.size]? = some (.cells #[Value.int .i64 x, .int .i64 r] T) from Array.getElem?_push_size]; rfl) (by simp [World.shape?, hhW]) (by omega) (by rw [hW]; simp [go_sem]) (by rw [hW]; simp [go_sem])]
      rfl
    · exact run_copy_k W.drew _ _ ty 42 2 g 6 1 dc ⟨g, 4, none⟩ 2 sc [.int .i64 a2, .int .i64 b2] Try.underlying22 grade_size rfl (get2 k4 k5) (fun j hj => cs _ (by simp at hj; omega)) (fun j _ => fz _) (one2 a2 b2)
    · have old : ∀ {j : Nat} {v : Value}, W.cell? ⟨w.heap.size, j, none⟩ = some v → (W.drew.setCells g 6 [.int .i64 a2, .int .i64 b2]).cell? ⟨w.heap.size, j, none⟩ = some v := fun hp => by
        rw [World.cell?_setCells_out _ _ _ _ _ (fun e => by simp at e; omega)]
        exact hp
      exact run_copy_k _ _ _ ty 42 2 g 4 2 dc ⟨w.heap.size, 0, none⟩ 1 1 [.int .i64 x, .int .i64 r] Try.underlying22 grade_size rfl (get2 (old v0) (old v1)) (fun j hj => by
          simp at hj
          rw [World.cell?_setCells_out _ _ _ _ _ (fun _ _ => .inl (by show 4 + j < 6; omega))]
          exact cs _ (by omega)) (fun j _ => by rw [ni_fz]; exact fz _) (one2 x r)
    · rintro e w' ⟨rfl, hw'⟩
      have hcell := two_in2 cs k0 k1 k2 k3 w' (.inr fun p => by rw [hw'])
      have bw : Below B W w' := by rw [hw']; exact ((Below.refl B W).drew.trans (nib_cells hg _ _ _)).trans (nib_cells hg _ _ _)
      have sw : g < w'.heap.size := by
        rw [hw', ni_size, ni_size]
        show g < W.heap.size
        omega
      exact ⟨_, rfl, ⟨_, _, rfl, ⟨by show 4 ≤ cap; omega, by omega⟩, .inr ⟨g, 0, rfl, sw, hcell⟩⟩, XB.trans bw⟩
end Go.Proofs.Ytadkhhkoankhnaa

/- A slice that reads as a list of integers. -/
namespace Go.Proofs.Ytadkhhkoankhnaa
open Go.RowKit

def Nums (w : World) (v : Value) (zs : List Int) : Prop :=
  ∃ a cap, v = .slice a zs.length cap ∧ (zs.length ≤ cap ∧ cap ≤ 9223372036854775807) ∧
    (zs.length = 0 ∨ ∃ b off, a = some ⟨b, off, none⟩ ∧ b < w.heap.size ∧ ∀ j, j < zs.length → w.cell? ⟨b, off + j, none⟩ = some (.int .i64 (zs.getD j 0)))
theorem Nums.below {w w' : World} {v : Value} {zs : List Int} (h : Nums w v zs) (hb : Below w.heap.size w w') : Nums w' v zs := by
  obtain ⟨a, cap, rfl, hl, h | ⟨b, off, rfl, hlt, hc⟩⟩ := h
  · exact ⟨a, cap, rfl, hl, .inl h⟩
  · exact ⟨_, cap, rfl, hl, .inr ⟨b, off, rfl, Nat.lt_of_lt_of_le hlt hb.size, fun j hj => by rw [(bcell hb).1 _ _ hlt]; exact hc j hj⟩⟩
theorem sum_next (zs : List Int) (k : Nat) (hk : k < zs.length) : (zs.take (k + 1)).sum = (zs.take k).sum + zs.getD k 0 := by
  rw [List.take_succ_eq_append_getElem hk, List.sum_append, List.getD_eq_getElem?_getD, List.getElem?_eq_getElem hk]
  simp
theorem all_next (p : Int → Bool) (zs : List Int) (k : Nat) (hk : k < zs.length) : (zs.take (k + 1)).all p = ((zs.take k).all p && p (zs.getD k 0)) := by
  rw [List.take_succ_eq_append_getElem hk, List.all_append, List.getD_eq_getElem?_getD, List.getElem?_eq_getElem hk]
  simp
theorem all_not (p : Int → Bool) (zs : List Int) (k : Nat) (hk : k < zs.length) (h : p (zs.getD k 0) = false) : zs.all p = false := by
  rw [Bool.eq_false_iff]
  intro ha
  rw [List.all_eq_true] at ha
  rw [List.getD_eq_getElem?_getD, List.getElem?_eq_getElem hk, Option.getD_some] at h
  rw [ha _ (List.getElem_mem hk)] at h
  cases h
end Go.Proofs.Ytadkhhkoankhnaa
