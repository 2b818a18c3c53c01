/- Texts that the proofs of this seat share, one behind the other: Kit, Two, QL0, QA, CB0, QC, QD, QF0, QF, QG, QH, QI, QO0, QJ, Nums, QM0, QM, QOI, QP, QP2, QL, QW, QR, QN. -/
import Derived.Test.YtooofppgjknigaaProg
import Derived.Test.YtooofppgjknigaaRows
import Derived.Test.YtooofppgjknigaaShelf
import Derived.WalkKit
import Derived.Handy
import Derived.Lib.Hide
import Derived.Lib.LaidTab
import Derived.Lib.LaidU8
import Derived.Lib.ItoaNum
import Derived.Outline
import Derived.Deep.DeepCutAuto
import Derived.Deep.CutBlock
import Derived.Deep.QuietTactic
import Derived.BigQuiet
import Derived.Lib.OwnBridge
import Derived.OwnWalk
import Derived.Shelf.SlicesQ.Reverse
import Derived.Ground.SlgnProg
import Derived.Maps.AppendAt
import Derived.Deep.RegionHeld3
import Derived.ProofKit
import Derived.OpenShut
import Derived.ShutString
import Derived.ChangeOld
import Derived.Lib.SmallJoins
import Derived.MakeChecks
import Derived.Deep.Slices
import Derived.Deep.Fields
import Derived.ChangeSame
import Derived.Deep.SlicePairs
import Derived.Shelf.SlicesQ.Load
import Derived.Laws.IdiomCopy
import Derived.StillTailTactics
import Derived.StillTail
import Derived.Deep.MidRow
import Derived.Laws.AppendOwn
import Derived.Deep.AppendLies

set_option linter.unusedVariables false
set_option linter.unusedSimpArgs false

/- What every text of this seat needs: worlds that only grow, the listed variables. -/
namespace Go.Proofs.Ytooofppgjknigaa
open Go.RowKit

theorem bel_alloc {w w' : World} {o : Obj} (h : Below (w.alloc o).heap.size (w.alloc o) w') : Below w.heap.size w w' :=
  ((Below.refl _ _).alloc (Nat.le_refl _) o).trans (h.mono (by simp))
theorem bel_trans {w w1 w2 : World} (h : Below w.heap.size w w1) (h2 : Below w1.heap.size w1 w2) : Below w.heap.size w w2 := h.trans (h2.mono h.size)
theorem bel_drewN (w : World) (n : Nat) : Below w.heap.size w (w.drewN n) := ⟨rfl, rfl, rfl, Nat.le_refl _, fun _ _ => rfl⟩
theorem bel_drew (w : World) : Below w.heap.size w w.drew := ⟨rfl, rfl, rfl, Nat.le_refl _, fun _ _ => rfl⟩
theorem bcell {W w1 : World} (hb : Below W.heap.size W w1) : (∀ b o, b < W.heap.size → w1.cell? ⟨b, o, none⟩ = W.cell? ⟨b, o, none⟩) ∧ (∀ b o, b < W.heap.size → w1.frozen? ⟨b, o, none⟩ = W.frozen? ⟨b, o, none⟩) :=
  ⟨fun b o h => hb.cell (p := ⟨b, o, none⟩) h, fun b o h => hb.frozen (p := ⟨b, o, none⟩) h⟩

theorem var_keep {P : Program} {w w' : World} {n : String} (g : Nat) (hg : P.globalNamed n = some g) (hlt : g < w.heap.size) (hb : Below w.heap.size w w') : w'.var? P n = w.var? P n := by
  simp only [World.var?, hg, Option.bind_some]
  rw [hb.block g hlt]
theorem tab_keep {P : Program} {w w' : World} {n : String} {k : IntKind} {zs : List Int} (g : Nat) (hg : P.globalNamed n = some g) (hz : 0 < zs.length) (h : Lib.TabIs P w n k zs) (hb : Below w.heap.size w w') : Lib.TabIs P w' n k zs := by
  unfold Lib.TabIs at *
  rw [var_keep g hg ?_ hb, h]
  have := Lib.TabIs.cell (P := P) (W := w) h hg 0 hz
  exact World.block_lt_of_cell? w ⟨g, 0, none⟩ this

/-- a listed table of integers -/
theorem tab_of {P : Program} {W : World} {l : List (String × DataW Unit)} {name : String} {d : DataW Unit} {k : IntKind} {zs : List Int} {g : Nat} {t e : TypeId} {n : Nat}
    (h : laidMet P l W) (hm : (name, d) ∈ l) (hd : d = Lib.tabData k zs)
    (hg : P.globalNamed name = some g) (hty : (P.globals[g]?).map (·.type) = some t) (ht : P.underlying t = some (.array n e)) (he : P.underlying e = some (.int k)) (hce : P.cellsOf e = 1) (hct : P.cellsOf t = n) : Lib.TabIs P W name k zs := by
  subst hd
  obtain ⟨g', t', cs, fuel, p, hg', ht', hvar, hr⟩ := Lib.laidMet.reads h hm
  obtain rfl := Option.some.inj (hg.symm.trans hg')
  obtain rfl := Option.some.inj (hty.symm.trans ht')
  unfold Lib.TabIs
  rw [hvar, ← Lib.cells_of_tab ht he hce hct hr]

theorem wrap_wrap_add (a b : Int) : IntKind.i64.wrap (IntKind.i64.wrap a + b) = IntKind.i64.wrap (a + b) := by simp only [IntKind.wrap_i64]; omega
theorem wrap_wrap_sub (a b : Int) : IntKind.i64.wrap (IntKind.i64.wrap a - b) = IntKind.i64.wrap (a - b) := by simp only [IntKind.wrap_i64]; omega
theorem wrap_add_wrap (a b : Int) : IntKind.i64.wrap (a + IntKind.i64.wrap b) = IntKind.i64.wrap (a + b) := by simp only [IntKind.wrap_i64]; omega
theorem wrap_sub_wrap (a b : Int) : IntKind.i64.wrap (a - IntKind.i64.wrap b) = IntKind.i64.wrap (a - b) := by simp only [IntKind.wrap_i64]; omega
theorem wrap_bd (a : Int) : -9223372036854775808 ≤ IntKind.i64.wrap a ∧ IntKind.i64.wrap a ≤ 9223372036854775807 := by simp only [IntKind.wrap_i64]; omega
theorem wrap_in (a : Int) (h : -9223372036854775808 ≤ a ∧ a ≤ 9223372036854775807) : IntKind.i64.wrap a = a := by simp only [IntKind.wrap_i64]; omega

theorem ret_int {k : IntKind} {a b : Int} (h : a = b) : Ending.returned (.int k a) = .returned (.int k b) := by rw [h]
theorem ret_bool {a b : Bool} (h : a = b) : Ending.returned (.bool a) = .returned (.bool b) := by rw [h]
end Go.Proofs.Ytooofppgjknigaa

/- A block with two cells. -/
namespace Go.Proofs.Ytooofppgjknigaa
open Go.RowKit

def Two (b : Nat) (W : World) (x y : Value) : Prop := W.cell? ⟨b, 0, none⟩ = some x ∧ W.cell? ⟨b, 1, none⟩ = some y ∧ W.frozen? ⟨b, 0, none⟩ = false ∧ W.frozen? ⟨b, 1, none⟩ = false ∧ b < W.heap.size
theorem Two.below {b : Nat} {W W' : World} {x y : Value} (h : Two b W x y) (hb : Below W.heap.size W W') : Two b W' x y := by
  obtain ⟨h0, h1, h2, h3, h4⟩ := h
  exact ⟨by rw [(bcell hb).1 _ _ h4]; exact h0, by rw [(bcell hb).1 _ _ h4]; exact h1, by rw [(bcell hb).2 _ _ h4]; exact h2, by rw [(bcell hb).2 _ _ h4]; exact h3, Nat.lt_of_lt_of_le h4 hb.size⟩
theorem Two.alloc {b : Nat} {W : World} {x y : Value} (h : Two b W x y) (o : Obj) : Two b (W.alloc o) x y := h.below (bel_alloc (Below.refl _ _))
theorem Two.new (W : World) (x y : Value) (T : TypeId) : Two W.heap.size (W.alloc (.cells #[x, y] T)) x y := ⟨by simp [go_sem], by simp [go_sem], by simp [go_sem], by simp [go_sem], by simp⟩
theorem two_read (w : World) (b : Nat) (u v : Value) {a c : Value} (h0 : w.cell? ⟨b, 0, none⟩ = some a) (h1 : w.cell? ⟨b, 1, none⟩ = some c) :
    ((w.setCell ⟨b, 0, none⟩ u).setCell ⟨b, 1, none⟩ v).cell? ⟨b, 0, none⟩ = some u ∧ ((w.setCell ⟨b, 0, none⟩ u).setCell ⟨b, 1, none⟩ v).cell? ⟨b, 1, none⟩ = some v := by
  refine ⟨?_, ?_⟩
  · rw [World.cell?_setCell_other _ _ _ _ (by simp), World.cell?_setCell_same _ _ _ h0]
  · rw [World.cell?_setCell_same (u := c)]
    rw [World.cell?_setCell_other _ _ _ _ (by simp), h1]
theorem Two.set1 {b : Nat} {W : World} {x y : Value} (h : Two b W x y) (z : Value) : Two b (W.setCell ⟨b, 1, none⟩ z) x z := by
  obtain ⟨h0, h1, h2, h3, h4⟩ := h
  refine ⟨?_, ?_, ?_, ?_, ?_⟩
  · rw [World.cell?_setCell_other _ _ _ _ (by simp)]; exact h0
  · exact World.cell?_setCell_same _ _ _ h1
  · rw [World.frozen?_setCell]; exact h2
  · rw [World.frozen?_setCell]; exact h3
  · simpa [World.setCell] using h4
theorem Two.other {b : Nat} {W : World} {x y : Value} (h : Two b W x y) (p : Addr) (hp : p.block ≠ b) (z : Value) : Two b (W.setCell p z) x y := by
  obtain ⟨h0, h1, h2, h3, h4⟩ := h
  refine ⟨?_, ?_, ?_, ?_, ?_⟩
  · rw [World.cell?_setCell_other _ _ _ _ (by intro e; apply hp; rw [e])]; exact h0
  · rw [World.cell?_setCell_other _ _ _ _ (by intro e; apply hp; rw [e])]; exact h1
  · rw [World.frozen?_setCell]; exact h2
  · rw [World.frozen?_setCell]; exact h3
  · simpa [World.setCell] using h4
theorem Two.set0 {b : Nat} {W : World} {x y : Value} (h : Two b W x y) (z : Value) : Two b (W.setCell ⟨b, 0, none⟩ z) z y := by
  obtain ⟨h0, h1, h2, h3, h4⟩ := h
  refine ⟨?_, ?_, ?_, ?_, ?_⟩
  · exact World.cell?_setCell_same _ _ _ h0
  · rw [World.cell?_setCell_other _ _ _ _ (by simp)]; exact h1
  · rw [World.frozen?_setCell]; exact h2
  · rw [World.frozen?_setCell]; exact h3
  · simpa [World.setCell] using h4
end Go.Proofs.Ytooofppgjknigaa

/- Slices that read as lists of rows; comparisons. -/
namespace Go.Proofs.Ytooofppgjknigaa
open Go.RowKit Go.Sort

/-- the point at a place of a list -/
def gX (l : List (Int × Int)) (j : Nat) : Int := (l.getD j (0, 0)).1
def gR (l : List (Int × Int)) (j : Nat) : Int := (l.getD j (0, 0)).2

/-- a value is a slice that reads as a list of points -/
def Pts (w : World) (v : Value) (l : List (Int × Int)) : Prop :=
  ∃ a cap, v = .slice a l.length cap ∧ (l.length ≤ cap ∧ cap ≤ 9223372036854775807) ∧
    (l.length = 0 ∨ ∃ b off, a = some ⟨b, off, none⟩ ∧ b < w.heap.size ∧ ∀ j, j < l.length → w.cell? ⟨b, off + j * 2, none⟩ = some (.int .i64 (gX l j)) ∧ w.cell? ⟨b, off + j * 2 + 1, none⟩ = some (.int .i64 (gR l j)))
theorem Pts.below {w w' : World} {v : Value} {l : List (Int × Int)} (h : Pts w v l) (hb : Below w.heap.size w w') : Pts w' v l := by
  obtain ⟨a, cap, rfl, hl, h | ⟨b, off, rfl, hlt, hc⟩⟩ := h
  · exact ⟨a, cap, rfl, hl, .inl h⟩
  · exact ⟨_, cap, rfl, hl, .inr ⟨b, off, rfl, Nat.lt_of_lt_of_le hlt hb.size, fun j hj => by rw [(bcell hb).1 _ _ hlt, (bcell hb).1 _ _ hlt]; exact hc j hj⟩⟩
theorem Pts.alloc {w : World} {v : Value} {l : List (Int × Int)} (h : Pts w v l) (o : Obj) : Pts (w.alloc o) v l := h.below (bel_alloc (Below.refl _ _))
theorem Pts.shape {W : World} {v : Value} {l : List (Int × Int)} (h : Pts W v l) : ∃ a cap, v = .slice a l.length cap ∧ l.length ≤ cap ∧ cap ≤ 9223372036854775807 := by
  obtain ⟨a, cap, e, ⟨h1, h2⟩, _⟩ := h
  exact ⟨a, cap, e, h1, h2⟩
theorem Pts.len {W : World} {a : Option Addr} {n cap : Nat} {l : List (Int × Int)} (h : Pts W (.slice a n cap) l) : n = l.length := by
  obtain ⟨a', c', e, _⟩ := h
  simp only [Value.slice.injEq] at e
  exact e.2.1
theorem Pts.at {W : World} {a : Option Addr} {n cap : Nat} {l : List (Int × Int)} (h : Pts W (.slice a n cap) l) (h0 : 0 < n) :
    ∃ b off, a = some ⟨b, off, none⟩ ∧ b < W.heap.size ∧ ∀ j, j < n → W.cell? ⟨b, off + j * 2, none⟩ = some (.int .i64 (gX l j)) ∧ W.cell? ⟨b, off + j * 2 + 1, none⟩ = some (.int .i64 (gR l j)) := by
  have hl := h.len
  obtain ⟨a', c', e, _, hh⟩ := h
  simp only [Value.slice.injEq] at e
  obtain ⟨rfl, rfl, rfl⟩ := e
  rcases hh with hh | hh
  · omega
  · exact hh
theorem pts_nil (w : World) : Pts w (.slice none 0 0) [] := ⟨none, 0, rfl, by simp, .inl rfl⟩

/-- the cells of a list of points -/
def flat : List (Int × Int) → List Value
  | [] => []
  | q :: l => .int .i64 q.1 :: .int .i64 q.2 :: flat l
theorem flat_len (l : List (Int × Int)) : (flat l).length = l.length * 2 := by
  induction l with
  | nil => rfl
  | cons q l ih => simp only [flat, List.length_cons, ih]; omega
theorem flat_app (l m : List (Int × Int)) : flat (l ++ m) = flat l ++ flat m := by
  induction l with
  | nil => rfl
  | cons q l ih => simp only [List.cons_append, flat, ih]
theorem flat_at (l : List (Int × Int)) (j : Nat) (h : j < l.length) : (flat l)[j * 2]? = some (.int .i64 (gX l j)) ∧ (flat l)[j * 2 + 1]? = some (.int .i64 (gR l j)) := by
  induction l generalizing j with
  | nil => simp at h
  | cons q l ih =>
    cases j with
    | zero => simp [flat, gX, gR]
    | succ j =>
      have := ih j (by simpa using h)
      rw [show (j + 1) * 2 = j * 2 + 1 + 1 by omega]
      simp only [flat, List.getElem?_cons_succ, gX, gR, List.getD_cons_succ]
      exact this
theorem flat_one (l : List (Int × Int)) : ∀ u ∈ flat l, u.oneCell' = true := by
  induction l with
  | nil => intro u h; cases h
  | cons q l ih =>
    intro u h
    simp only [flat, List.mem_cons] at h
    rcases h with rfl | rfl | h
    · rfl
    · rfl
    · exact ih u h
theorem flat_inv (l : List (Int × Int)) (j : Nat) (u : Value) (h : (flat l)[j]? = some u) : ∃ i, i < l.length ∧ ((j = i * 2 ∧ u = .int .i64 (gX l i)) ∨ (j = i * 2 + 1 ∧ u = .int .i64 (gR l i))) := by
  have hj : j < (flat l).length := (List.getElem?_eq_some_iff.1 h).1
  rw [flat_len] at hj
  refine ⟨j / 2, by omega, ?_⟩
  have := flat_at l (j / 2) (by omega)
  rcases Nat.mod_two_eq_zero_or_one j with e | e
  · left
    have hj2 : j = j / 2 * 2 := by omega
    refine ⟨hj2, ?_⟩
    have h' := h
    rw [hj2, this.1] at h'
    exact (Option.some.inj h').symm
  · right
    have hj2 : j = j / 2 * 2 + 1 := by omega
    refine ⟨hj2, ?_⟩
    have h' := h
    rw [hj2, this.2] at h'
    exact (Option.some.inj h').symm

/-- a slice of the call's own holds the points -/
def OwnP (w : World) (B : Nat) (v : Value) (l : List (Int × Int)) : Prop := w.ownsRow B 46 2 v l.length (flat l)
theorem OwnP.pts {w : World} {B : Nat} {v : Value} {l : List (Int × Int)} (h : OwnP w B v l) : Pts w v l := by
  have h' := h
  obtain ⟨_, h2⟩ := h
  rcases h2 with ⟨rfl, hn⟩ | ⟨g, cap, cur, rfl, hg, hh, hc, hm, hs, ht⟩
  · exact ⟨none, 0, by rw [hn], by omega, .inl hn⟩
  · have hlt : g < w.heap.size := by
      rcases Nat.lt_or_ge g w.heap.size with h | h
      · exact h
      · rw [Array.getElem?_eq_none h] at hh; cases hh
    unfold maxLen at hm
    refine ⟨_, cap, rfl, ⟨hc, by omega⟩, .inr ⟨g, 0, rfl, hlt, fun j hj => ?_⟩⟩
    have hcell := World.ownsRow.cells h' (g := g) rfl
    have hf := flat_at l j hj
    have c0 := hcell _ _ hf.1
    have c1 := hcell _ _ hf.2
    rw [Go.WideShapes.add_plain] at c0 c1
    exact ⟨c0, by rw [Nat.add_assoc]; exact c1⟩
theorem pts_lit (w : World) (l : List (Int × Int)) (cs : List Value) (h : cs = flat l) (hn : l.length ≤ 1000) :
    Pts (w.alloc (.cells cs.toArray 46)) (.slice (some ⟨w.heap.size, 0, none⟩) l.length l.length) l := by
  refine ⟨_, _, rfl, by omega, .inr ⟨w.heap.size, 0, rfl, by simp, fun j hj => ?_⟩⟩
  subst h
  have hf := flat_at l j hj
  have hl := flat_len l
  rw [World.cell?_alloc_new, World.cell?_alloc_new]
  simp only [Nat.zero_add]
  exact ⟨by simpa using hf.1, by simpa using hf.2⟩

theorem pt_info : (Try.prog.info? 46).map (fun i => (i.zero, i.size, i.bytes)) = some (some (.agg #[.int .i64 0, .int .i64 0]), 2, 16) := by kernel_rfl

/-! ### points, compared -/
def samP (a b x y : Int) : Bool := a == x && b == y
theorem run_same_point (a b x y : Int) (w : World) :
    (Op.equalIn 10000 46 (.agg #[.int .i64 a, .int .i64 b]) (.agg #[.int .i64 x, .int .i64 y])).run Try.prog w = .ok (samP a b x y) w := by
  rw [show (10000 : Nat) = 9999 + 1 from rfl, run_equalIn_agg w 9999 46 _ _ (by kernel_rfl) (by kernel_rfl)]
  have hf : (Try.prog.fieldsOf 46).toList.map (fun f => (f.name, f.type, f.offset)) = [("Strength", 3, 0), ("Density", 3, 1)] := by kernel_rfl
  generalize (Try.prog.fieldsOf 46).toList = fs at *
  obtain ⟨f, g, rfl⟩ : ∃ f g, fs = [f, g] := by
    have hl := congrArg List.length hf
    rw [List.length_map] at hl
    rcases fs with _ | ⟨f, _ | ⟨g, _ | ⟨h, fs⟩⟩⟩ <;> simp at hl
    exact ⟨f, g, rfl⟩
  simp only [List.map_cons, List.map_nil, List.cons.injEq, Prod.mk.injEq, and_true] at hf
  obtain ⟨⟨f1, f2, f3⟩, g1, g2, g3⟩ := hf
  have eq : ∀ (u v : Int) (W : World), (Op.equalIn 9999 3 (.int .i64 u) (.int .i64 v)).run Try.prog W = .ok (u == v) W := fun u v W => run_equalIn_int W 9998 3 .i64 .i64 u v Try.underlying3
  by_cases e1 : a = x <;> by_cases e2 : b = y <;> simp [Op.eqFields, f1, f2, f3, g1, g2, g3, go_sem, samP, eq, e1, e2]
theorem run_neq_point (a b x y : Int) (w : World) :
    (binOp .neq 46 (.agg #[.int .i64 a, .int .i64 b]) (.agg #[.int .i64 x, .int .i64 y])).run Try.prog w = .ok (.bool (!samP a b x y)) w := by
  rw [run_neq_struct, run_same_point]; rfl
theorem run_eql_point (a b x y : Int) (w : World) :
    (binOp .eql 46 (.agg #[.int .i64 a, .int .i64 b]) (.agg #[.int .i64 x, .int .i64 y])).run Try.prog w = .ok (.bool (samP a b x y)) w := by
  rw [run_eql_struct, run_same_point]; rfl
/-! ### bounds, compared -/
def samB (a b x y : Int) : Bool := a == x && b == y
theorem run_same_bounds (a b x y : Int) (w : World) :
    (Op.equalIn 10000 78 (.agg #[.int .i64 a, .int .i64 b]) (.agg #[.int .i64 x, .int .i64 y])).run Try.prog w = .ok (samB a b x y) w := by
  rw [show (10000 : Nat) = 9999 + 1 from rfl, run_equalIn_agg w 9999 78 _ _ (by kernel_rfl) (by kernel_rfl)]
  have hf : (Try.prog.fieldsOf 78).toList.map (fun f => (f.name, f.type, f.offset)) = [("Low", 3, 0), ("High", 3, 1)] := by kernel_rfl
  generalize (Try.prog.fieldsOf 78).toList = fs at *
  obtain ⟨f, g, rfl⟩ : ∃ f g, fs = [f, g] := by
    have hl := congrArg List.length hf
    rw [List.length_map] at hl
    rcases fs with _ | ⟨f, _ | ⟨g, _ | ⟨h, fs⟩⟩⟩ <;> simp at hl
    exact ⟨f, g, rfl⟩
  simp only [List.map_cons, List.map_nil, List.cons.injEq, Prod.mk.injEq, and_true] at hf
  obtain ⟨⟨f1, f2, f3⟩, g1, g2, g3⟩ := hf
  have eq : ∀ (u v : Int) (W : World), (Op.equalIn 9999 3 (.int .i64 u) (.int .i64 v)).run Try.prog W = .ok (u == v) W := fun u v W => run_equalIn_int W 9998 3 .i64 .i64 u v Try.underlying3
  by_cases e1 : a = x <;> by_cases e2 : b = y <;> simp [Op.eqFields, f1, f2, f3, g1, g2, g3, go_sem, samB, eq, e1, e2]
theorem run_neq_bounds (a b x y : Int) (w : World) :
    (binOp .neq 78 (.agg #[.int .i64 a, .int .i64 b]) (.agg #[.int .i64 x, .int .i64 y])).run Try.prog w = .ok (.bool (!samB a b x y)) w := by
  rw [run_neq_struct, run_same_bounds]; rfl
theorem run_eql_bounds (a b x y : Int) (w : World) :
    (binOp .eql 78 (.agg #[.int .i64 a, .int .i64 b]) (.agg #[.int .i64 x, .int .i64 y])).run Try.prog w = .ok (.bool (samB a b x y)) w := by
  rw [run_eql_struct, run_same_bounds]; rfl
theorem run_same_clash (a b x y : Int) (w : World) :
    (Op.equalIn 10000 33 (.agg #[.int .i64 a, .int .i64 b]) (.agg #[.int .i64 x, .int .i64 y])).run Try.prog w = .ok (samB a b x y) w := by
  rw [show (10000 : Nat) = 9999 + 1 from rfl, run_equalIn_agg w 9999 33 _ _ (by kernel_rfl) (by kernel_rfl)]
  have hf : (Try.prog.fieldsOf 33).toList.map (fun f => (f.name, f.type, f.offset)) = [("First", 3, 0), ("Second", 3, 1)] := by kernel_rfl
  generalize (Try.prog.fieldsOf 33).toList = fs at *
  obtain ⟨f, g, rfl⟩ : ∃ f g, fs = [f, g] := by
    have hl := congrArg List.length hf
    rw [List.length_map] at hl
    rcases fs with _ | ⟨f, _ | ⟨g, _ | ⟨h, fs⟩⟩⟩ <;> simp at hl
    exact ⟨f, g, rfl⟩
  simp only [List.map_cons, List.map_nil, List.cons.injEq, Prod.mk.injEq, and_true] at hf
  obtain ⟨⟨f1, f2, f3⟩, g1, g2, g3⟩ := hf
  have eq : ∀ (u v : Int) (W : World), (Op.equalIn 9999 3 (.int .i64 u) (.int .i64 v)).run Try.prog W = .ok (u == v) W := fun u v W => run_equalIn_int W 9998 3 .i64 .i64 u v Try.underlying3
  by_cases e1 : a = x <;> by_cases e2 : b = y <;> simp [Op.eqFields, f1, f2, f3, g1, g2, g3, go_sem, samB, eq, e1, e2]
theorem run_neq_clash (a b x y : Int) (w : World) :
    (binOp .neq 33 (.agg #[.int .i64 a, .int .i64 b]) (.agg #[.int .i64 x, .int .i64 y])).run Try.prog w = .ok (.bool (!samB a b x y)) w := by
  rw [run_neq_struct, run_same_clash]; rfl
theorem run_eql_clash (a b x y : Int) (w : World) :
    (binOp .eql 33 (.agg #[.int .i64 a, .int .i64 b]) (.agg #[.int .i64 x, .int .i64 y])).run Try.prog w = .ok (.bool (samB a b x y)) w := by
  rw [run_eql_struct, run_same_clash]; rfl
end Go.Proofs.Ytooofppgjknigaa

/- Plain facts of layers 16 and 17: right rows, first faults. No program stands in this text. -/
namespace Go.Proofs.Ytooofppgjknigaa

/-- the first place below n at which p holds; n if there is none -/
def fst (p : Nat → Bool) : Nat → Nat
  | 0 => 0
  | n + 1 => if fst p n < n then fst p n else if p n then n else n + 1
theorem fst_le (p : Nat → Bool) (n : Nat) : fst p n ≤ n := by
  induction n with
  | zero => exact Nat.le_refl _
  | succ n ih => unfold fst; split <;> (try split) <;> omega
theorem fst_spec (p : Nat → Bool) (n : Nat) : (∀ j, j < fst p n → p j = false) ∧ (fst p n < n → p (fst p n) = true) := by
  induction n with
  | zero => exact ⟨fun j hj => by simp [fst] at hj, fun h => by omega⟩
  | succ n ih =>
    obtain ⟨i1, i2⟩ := ih
    have le := fst_le p n
    unfold fst
    by_cases h : fst p n < n
    · rw [if_pos h]; exact ⟨i1, fun _ => i2 h⟩
    · rw [if_neg h]
      have e : fst p n = n := by omega
      rw [e] at i1
      cases hp : p n with
      | true => simp only [if_true]; exact ⟨i1, fun _ => hp⟩
      | false =>
        simp only [Bool.false_eq_true, if_false]
        refine ⟨fun j hj => ?_, fun h => by omega⟩
        by_cases g : j = n
        · rw [g]; exact hp
        · exact i1 j (by omega)
theorem fst_is {p : Nat → Bool} {n k : Nat} (hk : k ≤ n) (h1 : ∀ j, j < k → p j = false) (h2 : k < n → p k = true) : fst p n = k := by
  obtain ⟨s1, s2⟩ := fst_spec p n
  have le := fst_le p n
  rcases Nat.lt_trichotomy (fst p n) k with h | h | h
  · have := h1 _ h; have := s2 (by omega); simp_all
  · exact h
  · have := s1 _ h; have := h2 (by omega); simp_all
theorem fst_iff {p : Nat → Bool} {n : Nat} (hm : ∀ a b, a ≤ b → b < n → p a = true → p b = true) {i : Nat} (hi : i < n) : p i = true ↔ fst p n ≤ i := by
  obtain ⟨s1, s2⟩ := fst_spec p n
  constructor
  · intro h
    rcases Nat.lt_or_ge i (fst p n) with g | g
    · rw [s1 i g] at h; cases h
    · exact g
  · intro h
    exact hm _ i h hi (s2 (by omega))


theorem bel_drew2 (w : World) (a b : Nat) : Go.RowKit.Below w.heap.size w ((w.drewN a).drewN b) := ⟨rfl, rfl, rfl, Nat.le_refl _, fun _ _ => rfl⟩
def outB (x r : Int) : Bool := decide (x < 0) || decide (10000 < x) || decide (r < 50000) || decide (120000 < r)
theorem outB_false {x r : Int} : outB x r = false ↔ (0 ≤ x ∧ x ≤ 10000 ∧ 50000 ≤ r ∧ r ≤ 120000) := by
  simp only [outB, Bool.or_eq_false_iff, decide_eq_false_iff_not]; omega
/-- the fault of a measured row -/
def auF (l : List (Int × Int)) (k : Nat) : Int := if outB (gX l k) (gR l k) = true then 2 else if k ≠ 0 ∧ gX l k < gX l (k - 1) then 5 else 0
def auK (l : List (Int × Int)) : Nat := fst (fun k => auF l k != 0) l.length
def auE (l : List (Int × Int)) : Int := if 128 < l.length then 8 else if l.length = 0 then 9 else if auK l < l.length then auF l (auK l) else 0
def auI (l : List (Int × Int)) : Int := if 128 < l.length then -1 else if l.length = 0 then -1 else if auK l < l.length then (auK l : Int) else -1
structure AR (l : List (Int × Int)) : Prop where
  n0 : 1 ≤ l.length
  n1 : l.length ≤ 128
  b : ∀ i, i < l.length → 0 ≤ gX l i ∧ gX l i ≤ 10000 ∧ 50000 ≤ gR l i ∧ gR l i ≤ 120000
  asc : ∀ i, i + 1 < l.length → gX l i ≤ gX l (i + 1)
theorem auF_zero {l : List (Int × Int)} {k : Nat} : auF l k = 0 ↔ ((0 ≤ gX l k ∧ gX l k ≤ 10000 ∧ 50000 ≤ gR l k ∧ gR l k ≤ 120000) ∧ (k ≠ 0 → gX l (k - 1) ≤ gX l k)) := by
  unfold auF
  cases h : outB (gX l k) (gR l k) with
  | true => 
    simp only [if_true]
    constructor
    · intro h; cases h
    · rintro ⟨h1, _⟩
      rw [outB_false.2 h1] at h; cases h
  | false =>
    have := outB_false.1 h
    simp only [Bool.false_eq_true, if_false]
    by_cases g : k ≠ 0 ∧ gX l k < gX l (k - 1)
    · rw [if_pos g]
      constructor
      · intro h; cases h
      · rintro ⟨_, h2⟩
        have := h2 g.1; omega
    · rw [if_neg g]
      refine ⟨fun _ => ⟨this, fun hk => ?_⟩, fun _ => rfl⟩
      rcases Int.lt_or_le (gX l k) (gX l (k - 1)) with h' | h'
      · exact absurd ⟨hk, h'⟩ g
      · exact h'
theorem auE_zero {l : List (Int × Int)} : auE l = 0 ↔ AR l := by
  obtain ⟨s1, s2⟩ := fst_spec (fun k => auF l k != 0) l.length
  have le := fst_le (fun k => auF l k != 0) l.length
  unfold auE
  by_cases h0 : 128 < l.length
  · rw [if_pos h0]
    exact ⟨fun h => (by cases h), fun h => by have := h.n1; omega⟩
  · rw [if_neg h0]
    by_cases h1 : l.length = 0
    · rw [if_pos h1]
      exact ⟨fun h => (by cases h), fun h => by have := h.n0; omega⟩
    · rw [if_neg h1]
      by_cases h2 : auK l < l.length
      · rw [if_pos h2]
        have h3 := s2 h2
        constructor
        · intro h
          have : auF l (fst (fun k => auF l k != 0) l.length) = 0 := h
          rw [this] at h3
          cases h3
        · intro h
          refine auF_zero.2 ⟨h.b _ h2, fun hk => ?_⟩
          have := h.asc (auK l - 1) (by omega)
          rwa [show auK l - 1 + 1 = auK l by omega] at this
      · rw [if_neg h2]
        have e : fst (fun k => auF l k != 0) l.length = l.length := by unfold auK at h2; omega
        rw [e] at s1
        have z : ∀ j, j < l.length → auF l j = 0 := fun j hj => by simpa using s1 j hj
        refine ⟨fun _ => ⟨by omega, by omega, fun i hi => (auF_zero.1 (z i hi)).1, fun i hi => ?_⟩, fun _ => rfl⟩
        have := (auF_zero.1 (z (i + 1) hi)).2 (by omega)
        simpa using this
theorem auE_at {l : List (Int × Int)} {k : Nat} (h0 : l.length ≤ 128) (hk : k < l.length) (h1 : ∀ j, j < k → auF l j = 0) (h2 : auF l k ≠ 0) : auE l = auF l k ∧ auI l = k := by
  have e : auK l = k := fst_is (by omega) (fun j hj => by simpa using h1 j hj) (fun _ => by simpa using h2)
  unfold auE auI
  simp only [if_neg (show ¬ 128 < l.length by omega), if_neg (show ¬ l.length = 0 by omega), e, if_pos hk]
  exact ⟨trivial, trivial⟩
theorem auE_ok {l : List (Int × Int)} (h0 : l.length ≤ 128) (h3 : l.length ≠ 0) (h1 : ∀ j, j < l.length → auF l j = 0) : auE l = 0 ∧ auI l = -1 := by
  have e : auK l = l.length := fst_is (by omega) (fun j hj => by simpa using h1 j hj) (fun h => by omega)
  unfold auE auI
  simp only [if_neg (show ¬ 128 < l.length by omega), if_neg h3, e, if_neg (show ¬ l.length < l.length by omega)]
  exact ⟨trivial, trivial⟩

/-! ### right density tables -/
def dnF (l : List (Int × Int)) (k : Nat) : Int := if outB (gX l k) (gR l k) = true then 2 else if k ≠ 0 ∧ gX l k ≤ gX l (k - 1) then 5 else if k ≠ 0 ∧ gR l (k - 1) < gR l k then 18 else 0
def dnK (l : List (Int × Int)) : Nat := fst (fun k => dnF l k != 0) l.length
def dnE (l : List (Int × Int)) : Int := if 128 < l.length then 8 else if l.length < 2 then 9 else if dnK l < l.length then dnF l (dnK l) else if gX l 0 ≠ 0 then 10 else if gX l (l.length - 1) ≠ 10000 then 10 else 0
def dnI (l : List (Int × Int)) : Int := if 128 < l.length then -1 else if l.length < 2 then -1 else if dnK l < l.length then (dnK l : Int) else if gX l 0 ≠ 0 then 0 else if gX l (l.length - 1) ≠ 10000 then ((l.length - 1 : Nat) : Int) else -1
structure DR (l : List (Int × Int)) : Prop where
  n0 : 2 ≤ l.length
  n1 : l.length ≤ 128
  b : ∀ i, i < l.length → 0 ≤ gX l i ∧ gX l i ≤ 10000 ∧ 50000 ≤ gR l i ∧ gR l i ≤ 120000
  asc : ∀ i, i + 1 < l.length → gX l i < gX l (i + 1)
  down : ∀ i, i + 1 < l.length → gR l (i + 1) ≤ gR l i
  z : gX l 0 = 0
  t : gX l (l.length - 1) = 10000
theorem dnF_zero {l : List (Int × Int)} {k : Nat} : dnF l k = 0 ↔ ((0 ≤ gX l k ∧ gX l k ≤ 10000 ∧ 50000 ≤ gR l k ∧ gR l k ≤ 120000) ∧ (k ≠ 0 → gX l (k - 1) < gX l k) ∧ (k ≠ 0 → gR l k ≤ gR l (k - 1))) := by
  unfold dnF
  cases h : outB (gX l k) (gR l k) with
  | true => 
    simp only [if_true]
    constructor
    · intro h; cases h
    · rintro ⟨h1, _⟩
      rw [outB_false.2 h1] at h; cases h
  | false =>
    have := outB_false.1 h
    simp only [Bool.false_eq_true, if_false]
    by_cases g : k ≠ 0 ∧ gX l k ≤ gX l (k - 1)
    · rw [if_pos g]
      constructor
      · intro h; cases h
      · rintro ⟨_, h2, _⟩
        have := h2 g.1; omega
    · rw [if_neg g]
      by_cases g2 : k ≠ 0 ∧ gR l (k - 1) < gR l k
      · rw [if_pos g2]
        constructor
        · intro h; cases h
        · rintro ⟨_, _, h2⟩
          have := h2 g2.1; omega
      · rw [if_neg g2]
        refine ⟨fun _ => ⟨this, fun hk => ?_, fun hk => ?_⟩, fun _ => rfl⟩
        · rcases Int.lt_or_le (gX l (k - 1)) (gX l k) with h' | h'
          · exact h'
          · exact absurd ⟨hk, h'⟩ g
        · rcases Int.lt_or_le (gR l (k - 1)) (gR l k) with h' | h'
          · exact absurd ⟨hk, h'⟩ g2
          · exact h'
theorem dnE_at {l : List (Int × Int)} {k : Nat} (h0 : l.length ≤ 128) (h3 : 2 ≤ l.length) (hk : k < l.length) (h1 : ∀ j, j < k → dnF l j = 0) (h2 : dnF l k ≠ 0) : dnE l = dnF l k ∧ dnI l = k := by
  have e : dnK l = k := fst_is (by omega) (fun j hj => by simpa using h1 j hj) (fun _ => by simpa using h2)
  unfold dnE dnI
  simp only [if_neg (show ¬ 128 < l.length by omega), if_neg (show ¬ l.length < 2 by omega), e, if_pos hk]
  exact ⟨trivial, trivial⟩
theorem dnE_ok {l : List (Int × Int)} (h0 : l.length ≤ 128) (h3 : 2 ≤ l.length) (h1 : ∀ j, j < l.length → dnF l j = 0) :
    (gX l 0 ≠ 0 → dnE l = 10 ∧ dnI l = 0) ∧ (gX l 0 = 0 → gX l (l.length - 1) ≠ 10000 → dnE l = 10 ∧ dnI l = ((l.length - 1 : Nat) : Int)) ∧ (gX l 0 = 0 → gX l (l.length - 1) = 10000 → dnE l = 0 ∧ dnI l = -1) := by
  have e : dnK l = l.length := fst_is (by omega) (fun j hj => by simpa using h1 j hj) (fun h => by omega)
  unfold dnE dnI
  simp only [if_neg (show ¬ 128 < l.length by omega), if_neg (show ¬ l.length < 2 by omega), e, if_neg (show ¬ l.length < l.length by omega)]
  refine ⟨fun h => ?_, fun h g => ?_, fun h g => ?_⟩
  · simp only [if_pos h]; exact ⟨trivial, trivial⟩
  · simp only [if_neg (show ¬ gX l 0 ≠ 0 by omega), if_pos g]; exact ⟨trivial, trivial⟩
  · simp only [if_neg (show ¬ gX l 0 ≠ 0 by omega), if_neg (show ¬ gX l (l.length - 1) ≠ 10000 by omega)]; exact ⟨trivial, trivial⟩
theorem dnE_zero {l : List (Int × Int)} : dnE l = 0 ↔ DR l := by
  obtain ⟨s1, s2⟩ := fst_spec (fun k => dnF l k != 0) l.length
  have le := fst_le (fun k => dnF l k != 0) l.length
  constructor
  · intro h
    by_cases h0 : 128 < l.length
    · unfold dnE at h; rw [if_pos h0] at h; cases h
    by_cases h1 : l.length < 2
    · unfold dnE at h; rw [if_neg h0, if_pos h1] at h; cases h
    by_cases h2 : fst (fun k => dnF l k != 0) l.length < l.length
    · have h3 := s2 h2
      have := (dnE_at (by omega) (by omega) h2 (fun j hj => by simpa using s1 j hj) (by simpa using h3)).1
      rw [h] at this
      rw [← this] at h3
      cases h3
    · have e : fst (fun k => dnF l k != 0) l.length = l.length := by omega
      rw [e] at s1
      have z : ∀ j, j < l.length → dnF l j = 0 := fun j hj => by simpa using s1 j hj
      obtain ⟨g1, g2, g3⟩ := dnE_ok (by omega) (by omega) z
      refine ⟨by omega, by omega, fun i hi => (dnF_zero.1 (z i hi)).1, fun i hi => ?_, fun i hi => ?_, ?_, ?_⟩
      · have := (dnF_zero.1 (z (i + 1) hi)).2.1 (by omega)
        simpa using this
      · have := (dnF_zero.1 (z (i + 1) hi)).2.2 (by omega)
        simpa using this
      · rcases Decidable.em (gX l 0 = 0) with q | q
        · exact q
        · have := (g1 q).1; omega
      · rcases Decidable.em (gX l 0 = 0) with q | q
        · rcases Decidable.em (gX l (l.length - 1) = 10000) with q2 | q2
          · exact q2
          · have := (g2 q q2).1; omega
        · have := (g1 q).1; omega
  · intro h
    have z : ∀ j, j < l.length → dnF l j = 0 := fun j hj => by
      refine dnF_zero.2 ⟨h.b j hj, fun hk => ?_, fun hk => ?_⟩
      · have := h.asc (j - 1) (by omega)
        rwa [show j - 1 + 1 = j by omega] at this
      · have := h.down (j - 1) (by omega)
        rwa [show j - 1 + 1 = j by omega] at this
    exact ((dnE_ok h.n1 h.n0 z).2.2 h.z h.t).1
end Go.Proofs.Ytooofppgjknigaa

/- A cell below. -/
namespace Go.Proofs.Ytooofppgjknigaa
open Go.RowKit

theorem cell_bel {w w' : World} {p : Addr} {v : Value} (h : w.cell? p = some v) (hb : Below w.heap.size w w') : w'.cell? p = some v := by
  rw [hb.cell (World.block_lt_of_cell? w _ h)]; exact h
end Go.Proofs.Ytooofppgjknigaa

/- Package audit: isOut, Check, isRight. -/
namespace Go.Proofs.Ytooofppgjknigaa
open Go.RowKit

set_option maxHeartbeats 4000000 in
theorem auOut_any (x v : Int) (w : World) :
    Calls Try.prog 43 #[.agg #[.int .i64 x, .int .i64 v]] w fun e w' => e = .returned (.bool (outB x v)) ∧ Below w.heap.size w w' := by
  unfold outB
  have X := Lib.hid (bel_alloc (o := .cells #[.int .i64 x, .int .i64 v] 46) (Below.refl _ (w.alloc (.cells #[.int .i64 x, .int .i64 v] 46))))
  by_cases h0 : x < 0
  · have d0 : decide (x < 0) = true := decide_eq_true h0
    rw [d0, Bool.true_or, Bool.true_or, Bool.true_or]
    clear h0
    go_enter Try.func43, Try.ntmps43
    go_wp2
    go_returns
    exact ⟨rfl, X.out⟩
  have d0 : decide (x < 0) = false := decide_eq_false h0
  by_cases h1 : 10000 < x
  · have d1 : decide (10000 < x) = true := decide_eq_true h1
    rw [d0, d1, Bool.false_or, Bool.true_or, Bool.true_or]
    clear h0 h1
    go_enter Try.func43, Try.ntmps43
    go_wp2
    go_returns
    exact ⟨rfl, X.out⟩
  have d1 : decide (10000 < x) = false := decide_eq_false h1
  by_cases h2 : v < 50000
  · have d2 : decide (v < 50000) = true := decide_eq_true h2
    rw [d0, d1, d2, Bool.false_or, Bool.false_or, Bool.true_or]
    clear h0 h1 h2
    go_enter Try.func43, Try.ntmps43
    go_wp2
    go_returns
    exact ⟨rfl, X.out⟩
  have d2 : decide (v < 50000) = false := decide_eq_false h2
  rw [d0, d1, d2, Bool.false_or, Bool.false_or, Bool.false_or]
  clear h0 h1 h2
  generalize hB : decide (120000 < v) = B
  go_enter Try.func43, Try.ntmps43
  go_wp2
  go_returns
  exact ⟨rfl, X.out⟩

set_option maxHeartbeats 4000000 in
theorem auChk_len (a : Option Addr) (n cap : Nat) (V : Int) (w : World) (h : (n = 0 ∧ V = 9) ∨ (128 < n ∧ n ≤ 9223372036854775807 ∧ V = 8)) :
    Calls Try.prog 12 #[.slice a n cap] w fun e w' => e = .returned (.tuple #[.int .i64 (-1), .int .i64 V]) ∧ Below w.heap.size w w' := by
  rcases h with ⟨rfl, rfl⟩ | ⟨h, h2, rfl⟩
  all_goals
    go_enter Try.func12, Try.ntmps12
    go_wp2
    go_returns
    exact ⟨rfl, Below.refl _ _⟩
set_option maxHeartbeats 16000000 in
set_option maxRecDepth 100000 in
theorem auChk_some (b off n cap : Nat) (l : List (Int × Int)) (I E : Int) (w : World) (n0 : 1 ≤ n) (n1 : n ≤ 128) (hb : b < w.heap.size)
    (hc : Hid (∀ j, j < n → w.cell? ⟨b, off + j * 2, none⟩ = some (.int .i64 (gX l j)) ∧ w.cell? ⟨b, off + j * 2 + 1, none⟩ = some (.int .i64 (gR l j))))
    (h1 : Hid (∀ k, k < n → (∀ j, j < k → auF l j = 0) → auF l k ≠ 0 → I = k ∧ E = auF l k)) (h2 : Hid ((∀ j, j < n → auF l j = 0) → I = -1 ∧ E = 0)) :
    Calls Try.prog 12 #[.slice (some ⟨b, off, none⟩) n cap] w fun e w' => e = .returned (.tuple #[.int .i64 I, .int .i64 E]) ∧ Below w.heap.size w w' := by
  have d8 : decide (128 < (n : Int)) = false := decide_eq_false (by omega)
  have d9 : ((n : Int) == 0) = false := by simp; omega
  go_enter Try.func12, Try.ntmps12
  go_wp2_with fail
  go_loopw [14] (fun ii wr => ∃ k : Nat, k ≤ n ∧ ii = .int .i64 k ∧ Hid (Below w.heap.size w wr) ∧ Hid (∀ j, j < k → auF l j = 0)) (fun ii _ => n - (intOf ii).toNat)
  case atStart => exact ⟨0, Nat.zero_le _, rfl, Below.refl _ _, fun j hj => by omega⟩
  case round =>
    obtain ⟨k, hk, rfl, hB, ha⟩ := hrel
    by_cases hlt : k < n
    · have bb : b < wr.heap.size := Nat.lt_of_lt_of_le hb hB.out.size
      have c0 : wr.cell? ⟨b, off + k * 2, none⟩ = some (.int .i64 (gX l k)) := by rw [(bcell hB.out).1 _ _ hb]; exact (hc.out k hlt).1
      have c1 : wr.cell? ⟨b, off + k * 2 + 1, none⟩ = some (.int .i64 (gR l k)) := by rw [(bcell hB.out).1 _ _ hb]; exact (hc.out k hlt).2
      have cp : Hid (∀ W, Below wr.heap.size wr W → k ≠ 0 → W.cell? ⟨b, off + (k - 1) * 2, none⟩ = some (.int .i64 (gX l (k - 1)))) := fun W hW hk0 => by
        rw [(bcell hW).1 _ _ bb, (bcell hB.out).1 _ _ hb]; exact (hc.out (k - 1) (by omega)).1
      have l0 : (k : Int) < (n : Int) := by omega
      have HO := Lib.hid (fun W => auOut_any (gX l k) (gR l k) W)
      have H1 := Lib.hid (h1.out k hlt ha.out)
      have HS : Hid (auF l k = 0 → ∀ j, j < k + 1 → auF l j = 0) := fun h j hj => by
        by_cases e : j = k
        · rw [e]; exact h
        · exact ha.out j (by omega)
      have HF : Hid (auF l k = if outB (gX l k) (gR l k) = true then 2 else if k ≠ 0 ∧ gX l k < gX l (k - 1) then 5 else 0) := Lib.hid rfl
      generalize auF l k = F at *
      generalize gX l k = x at *
      generalize gR l k = r at *
      generalize gX l (k - 1) = y at *
      cases ho : outB x r with
      | true =>
        rw [ho] at HO HF
        have e : F = 2 := HF.out
        obtain ⟨rfl, rfl⟩ := H1.out (by rw [e]; simp)
        subst e
        clear ho HF HS H1 h1 h2
        go_wp2_with fail
        refine (HO.out _).mono ?_
        rintro e w1 ⟨rfl, gg⟩
        have X := Lib.hid (bel_trans hB.out (bel_alloc gg)); clear gg
        go_wp2
        go_returns
        exact ⟨rfl, X.out⟩
      | false =>
        rw [ho] at HO HF
        by_cases k0 : k = 0
        · have e : F = 0 := by rw [HF.out]; simp [k0]
          have hs2 := Lib.hid (HS.out e)
          have dk : decide (0 < (k : Int)) = false := decide_eq_false (by omega)
          have dk2 : decide (0 < k) = false := decide_eq_false (by omega)
          have dk3 : ¬ 0 < k := by omega
          replace k0 := Lib.hid k0
          clear ho HF HS H1 e
          go_wp2_with fail
          refine (HO.out _).mono ?_
          rintro e w1 ⟨rfl, gg⟩
          have T := Lib.hid ((Two.new wr (.int .i64 x) (.int .i64 r) 46).below gg)
          have X := Lib.hid (bel_trans hB.out (bel_alloc gg)); clear gg
          obtain ⟨t0, t1, _, _, _⟩ := T.out
          go_wp2_with fail
          go_quiet (fail)
          go_wp2
          go_roundw
          case rel => exact ⟨k + 1, by omega, by go_num, bel_trans X.out (bel_drewN _ _), hs2⟩
          case measure => simp [intOf]; omega
        · have dk : decide (0 < (k : Int)) = true := decide_eq_true (by omega)
          obtain ⟨m, rfl⟩ : ∃ m, k = m + 1 := ⟨k - 1, by omega⟩
          have w1' : IntKind.i64.wrap (((m + 1 : Nat) : Int) - 1) = (m : Int) := by rw [wrap_in _ ⟨by omega, by omega⟩]; omega
          have w2 : IntKind.i64.wrap ((m : Int) + 1 - 1) = (m : Int) := by rw [wrap_in _ ⟨by omega, by omega⟩]; omega
          have w3 : IntKind.i64.wrap (m : Int) = (m : Int) := wrap_in _ ⟨by omega, by omega⟩
          have l1 : (m : Int) < (n : Int) := by omega
          by_cases hxy : x < y
          · have e : F = 5 := by rw [HF.out]; simp [hxy]
            obtain ⟨rfl, rfl⟩ := H1.out (by rw [e]; simp)
            subst e
            have dxy : decide (x < y) = true := decide_eq_true hxy
            clear ho HF HS H1 h1 h2
            go_wp2_with fail
            refine (HO.out _).mono ?_
            rintro e w1 ⟨rfl, gg⟩
            have T := Lib.hid ((Two.new wr (.int .i64 x) (.int .i64 r) 46).below gg)
            have cq := cp.out w1 (bel_alloc gg) (by omega)
            have X := Lib.hid (bel_trans hB.out (bel_alloc gg)); clear gg
            obtain ⟨t0, t1, _, _, _⟩ := T.out
            rw [show m + 1 - 1 = m by omega] at cq
            go_wp2_with fail
            go_quiet (fail)
            go_wp2
            go_returns
            exact ⟨rfl, bel_trans X.out (bel_drewN _ _)⟩
          · have e : F = 0 := by rw [HF.out]; simp [hxy]
            have hs2 := Lib.hid (HS.out e)
            have dxy : decide (x < y) = false := decide_eq_false hxy
            clear ho HF HS H1 e
            go_wp2_with fail
            refine (HO.out _).mono ?_
            rintro e w1 ⟨rfl, gg⟩
            have T := Lib.hid ((Two.new wr (.int .i64 x) (.int .i64 r) 46).below gg)
            have cq := cp.out w1 (bel_alloc gg) (by omega)
            have X := Lib.hid (bel_trans hB.out (bel_alloc gg)); clear gg
            obtain ⟨t0, t1, _, _, _⟩ := T.out
            rw [show m + 1 - 1 = m by omega] at cq
            go_wp2_with fail
            go_quiet (fail)
            go_wp2
            go_roundw
            case rel => exact ⟨m + 1 + 1, by omega, by go_num, bel_trans X.out (bel_drewN _ _), hs2⟩
            case measure => simp [intOf]; omega
    · obtain rfl : k = n := by omega
      obtain ⟨rfl, rfl⟩ := h2.out ha.out
      go_wp2
      go_returns
      exact ⟨rfl, hB.out⟩
theorem auChk_any (v : Value) (l : List (Int × Int)) (w : World) (hv : Pts w v l) :
    Calls Try.prog 12 #[v] w fun e w' => e = .returned (.tuple #[.int .i64 (auI l), .int .i64 (auE l)]) ∧ Below w.heap.size w w' := by
  obtain ⟨a, cap, rfl, hl, hh⟩ := hv
  by_cases h1 : 128 < l.length
  · have := auChk_len a l.length cap 8 w (.inr ⟨h1, by omega, rfl⟩)
    rwa [show auI l = -1 by unfold auI; rw [if_pos h1], show auE l = 8 by unfold auE; rw [if_pos h1]]
  · by_cases h0 : l.length = 0
    · have := auChk_len a l.length cap 9 w (.inl ⟨h0, rfl⟩)
      rwa [show auI l = -1 by unfold auI; rw [if_neg h1, if_pos h0], show auE l = 9 by unfold auE; rw [if_neg h1, if_pos h0]]
    · rcases hh with hh | ⟨b, off, rfl, hb, hc⟩
      · omega
      · exact auChk_some b off l.length cap l _ _ w (by omega) (by omega) hb hc (Lib.hid fun k hk g1 g2 => ⟨(auE_at (by omega) hk g1 g2).2, (auE_at (by omega) hk g1 g2).1⟩) (Lib.hid fun g => ⟨(auE_ok (by omega) h0 g).2, (auE_ok (by omega) h0 g).1⟩)
set_option maxHeartbeats 4000000 in
theorem auRt_of (v : Value) (I E : Int) (w : World) (H : Hid (Calls Try.prog 12 #[v] w fun e w' => e = .returned (.tuple #[.int .i64 I, .int .i64 E]) ∧ Below w.heap.size w w')) :
    Calls Try.prog 44 #[v] w fun e w' => e = .returned (.bool (E == 0)) ∧ Below w.heap.size w w' := by
  go_enter Try.func44, Try.ntmps44
  go_wp2_with fail
  refine H.out.mono ?_
  rintro e w1 ⟨rfl, gg⟩
  have X := Lib.hid gg; clear gg
  go_wp2
  go_returns
  exact ⟨rfl, X.out⟩
theorem auRt_any (v : Value) (l : List (Int × Int)) (w : World) (hv : Pts w v l) :
    Calls Try.prog 44 #[v] w fun e w' => e = .returned (.bool (auE l == 0)) ∧ Below w.heap.size w w' := auRt_of v _ _ w (auChk_any v l w hv)
end Go.Proofs.Ytooofppgjknigaa

/- Package audit: excess, mayFollow. -/
namespace Go.Proofs.Ytooofppgjknigaa
open Go.RowKit

/-- by how much a row is too dense to stand behind another one -/
def exd (x r y s : Int) : Int := if x = y then max (s - r) (-(s - r)) else s - r
def ex (l : List (Int × Int)) (j k : Nat) : Int := exd (gX l j) (gR l j) (gX l k) (gR l k)
theorem exd_bd {x r y s : Int} (hr : 50000 ≤ r ∧ r ≤ 120000) (hs : 50000 ≤ s ∧ s ≤ 120000) : -70000 ≤ exd x r y s ∧ exd x r y s ≤ 70000 := by
  unfold exd; split <;> omega
set_option maxHeartbeats 8000000 in
theorem exc_any (x r y s : Int) (w : World) (hr : 50000 ≤ r ∧ r ≤ 120000) (hs : 50000 ≤ s ∧ s ≤ 120000) :
    Calls Try.prog 48 #[.agg #[.int .i64 x, .int .i64 r], .agg #[.int .i64 y, .int .i64 s]] w fun e w' => e = .returned (.int .i64 (exd x r y s)) ∧ Below w.heap.size w w' := by
  have X : Hid (Below w.heap.size w ((w.alloc (.cells #[.int .i64 x, .int .i64 r] 46)).alloc (.cells #[.int .i64 y, .int .i64 s] 46))) := Lib.hid (bel_alloc (bel_alloc (Below.refl _ _)))
  have w1 : IntKind.i64.wrap (s - r) = s - r := wrap_in _ ⟨by omega, by omega⟩
  have w2 : IntKind.i64.wrap (-(s - r)) = -(s - r) := wrap_in _ ⟨by omega, by omega⟩
  by_cases e : x = y
  · have d : (x == y) = true := by simpa using e
    have hE : Hid (exd x r y s = max (s - r) (-(s - r))) := Lib.hid (by unfold exd; rw [if_pos e])
    clear e
    go_enter Try.func48, Try.ntmps48
    go_wp2
    go_returns
    refine ⟨?_, X.out⟩
    rw [hE.out]
    rfl
  · have d : (x == y) = false := by simpa using e
    have hE : Hid (exd x r y s = s - r) := Lib.hid (by unfold exd; rw [if_neg e])
    clear e
    go_enter Try.func48, Try.ntmps48
    go_wp2
    go_returns
    exact ⟨by rw [hE.out]; rfl, X.out⟩
/-- whether a row may follow another one -/
theorem may_any (x r y s : Int) (w : World) (hr : 50000 ≤ r ∧ r ≤ 120000) (hs : 50000 ≤ s ∧ s ≤ 120000) :
    Calls Try.prog 50 #[.agg #[.int .i64 x, .int .i64 r], .agg #[.int .i64 y, .int .i64 s]] w fun e w' => e = .returned (.bool (decide (exd x r y s ≤ 0))) ∧ Below w.heap.size w w' := by
  have HE := Lib.hid (fun W => exc_any x r y s W hr hs)
  generalize exd x r y s = E at *
  go_enter Try.func50, Try.ntmps50
  go_wp2_with fail
  refine (HE.out _).mono ?_
  rintro e w1 ⟨rfl, gg⟩
  have X := Lib.hid (bel_alloc (bel_alloc gg)); clear gg
  go_wp2
  go_returns
  exact ⟨rfl, X.out⟩
end Go.Proofs.Ytooofppgjknigaa

/- Rows of clashes of the call's own; the clashes of rows, plainly. -/
namespace Go.Proofs.Ytooofppgjknigaa
open Go.RowKit

namespace RC
theorem info_parts {P : Program} {t : TypeId} {z : Value} {s by' : Nat} (h : (P.info? t).map (fun i => (i.zero, i.size, i.bytes)) = some (some z, s, by')) : ∃ i, P.info? t = some i ∧ i.zero = some z ∧ i.size = s ∧ i.bytes = by' := by
  cases hi : P.info? t with
  | none => rw [hi] at h; cases h
  | some i => rw [hi] at h; simp at h; exact ⟨i, rfl, h.1, h.2.1, h.2.2⟩
theorem mk_info : (Try.prog.info? 33).map (fun i => (i.zero, i.size, i.bytes)) = some (some (.agg #[.int .i64 0, .int .i64 0]), 2, 16) := by kernel_rfl
theorem row_belM {W W' : World} {B n size : Nat} {e : TypeId} {v : Value} {xs : List Value} (h : W.ownsRow B e size v n xs) (hb : Below W.heap.size W W') : W'.ownsRow B e size v n xs := by
  obtain ⟨h1, h2⟩ := h
  refine ⟨h1, ?_⟩
  rcases h2 with ⟨h2, h3⟩ | ⟨g, cap, cur, h2, hg, hh, r⟩
  · exact .inl ⟨h2, h3⟩
  · refine .inr ⟨g, cap, cur, h2, hg, ?_, r⟩
    rw [hb.block _ (Array.getElem?_eq_some_iff.1 hh).1]
    exact hh
def OwnM (w : World) (B : Nat) (v : Value) (l : List (Int × Int)) : Prop := w.ownsRow B 33 2 v l.length (flat l)
theorem nil (W : World) (B : Nat) : OwnM W B (.slice none 0 0) [] := World.ownsRow_nil _ _ _ _
theorem below {W W' : World} {B : Nat} {v : Value} {l : List (Int × Int)} (h : OwnM W B v l) (hb : Below W.heap.size W W') : OwnM W' B v l := row_belM h hb
theorem pts {w : World} {B : Nat} {v : Value} {l : List (Int × Int)} (h : OwnM w B v l) : Pts w v l := by
  have h' := h
  obtain ⟨_, h2⟩ := h
  rcases h2 with ⟨rfl, hn⟩ | ⟨g, cap, cur, rfl, hg, hh, hc, hm, hs, ht⟩
  · exact ⟨none, 0, by rw [hn], by omega, .inl hn⟩
  · have hlt : g < w.heap.size := (Array.getElem?_eq_some_iff.1 hh).1
    unfold maxLen at hm
    refine ⟨_, cap, rfl, ⟨hc, by omega⟩, .inr ⟨g, 0, rfl, hlt, fun j hj => ?_⟩⟩
    have hcell := World.ownsRow.cells h' (g := g) rfl
    have hf := flat_at l j hj
    have c0 := hcell _ _ hf.1
    have c1 := hcell _ _ hf.2
    rw [Go.WideShapes.add_plain] at c0 c1
    exact ⟨c0, by rw [Nat.add_assoc]; exact c1⟩
theorem flat_two (x y : Int) : flat [(x, y)] = [.int .i64 x, .int .i64 y] := rfl
theorem pair_new (w : World) (y0 y1 : Int) (T : TypeId) (j : Nat) (u : Value) (hj : [Value.int .i64 y0, .int .i64 y1][j]? = some u) : (w.alloc (.cells #[.int .i64 y0, .int .i64 y1] T)).cell? ((⟨w.heap.size, 0, none⟩ : Addr).add j) = some u := by
  obtain ⟨n0, n1, _, _, _⟩ := Two.new w (.int .i64 y0) (.int .i64 y1) T
  rw [Go.WideShapes.add_plain, Nat.zero_add]
  match j, hj with
  | 0, hj => simp at hj; rw [← hj]; exact n0
  | 1, hj => simp at hj; rw [← hj]; exact n1
  | j + 2, hj => simp at hj
theorem pair_one (y0 y1 : Int) : ∀ u ∈ [Value.int .i64 y0, .int .i64 y1], u.oneCell' = true := by
  intro u hu; simp at hu; rcases hu with rfl | rfl <;> rfl
theorem push {W : World} {B k : Nat} {v : Value} {l m : List (Int × Int)} {y0 y1 : Int} (e : m = l ++ [(y0, y1)]) (hk : l.length = k) (h : W.ownsRow B 33 2 v (k + 1) (flat l ++ [.int .i64 y0, .int .i64 y1])) : OwnM W B v m := by
  rw [e]
  unfold OwnM
  rw [flat_app, flat_two, List.length_append, hk]
  exact h
/-- what the loop of Make keeps -/
def MkI (w1 : World) (v : Value) (L : List (Int × Int)) (W : World) : Prop := Below w1.heap.size w1 W ∧ OwnM W w1.heap.size v L
theorem MkI.below {w1 : World} {v : Value} {L : List (Int × Int)} {W W' : World} (h : MkI w1 v L W) (hb : Below W.heap.size W W') : MkI w1 v L W' := ⟨bel_trans h.1 hb, RC.below h.2 hb⟩
theorem shape {W : World} {B : Nat} {v : Value} {L : List (Int × Int)} (h : OwnM W B v L) : ∃ a cap, v = .slice a L.length cap := by
  obtain ⟨a, cap, e, _⟩ := pts h
  exact ⟨a, cap, e⟩
end RC

/-- the clashes of a row with those behind it, up to one -/
def clR (l : List (Int × Int)) (t : Int) (j : Nat) : Nat → List (Int × Int)
  | 0 => []
  | k + 1 => if j < k ∧ t < ex l j k then clR l t j k ++ [((j : Int), (k : Int))] else clR l t j k
def clA (l : List (Int × Int)) (t : Int) (n : Nat) : Nat → List (Int × Int)
  | 0 => []
  | j + 1 => clA l t n j ++ clR l t j n
theorem clR_start (l : List (Int × Int)) (t : Int) (j : Nat) : ∀ k, k ≤ j + 1 → clR l t j k = []
  | 0, _ => rfl
  | k + 1, h => by
    unfold clR
    rw [if_neg (by omega), clR_start l t j k (by omega)]
theorem clR_len (l : List (Int × Int)) (t : Int) (j : Nat) : ∀ k, (clR l t j k).length ≤ k
  | 0 => Nat.le_refl _
  | k + 1 => by
    have := clR_len l t j k
    unfold clR
    split
    · simp; omega
    · omega
theorem clA_len (l : List (Int × Int)) (t : Int) (n : Nat) : ∀ j, (clA l t n j).length ≤ j * n
  | 0 => by simp [clA]
  | j + 1 => by
    have h1 := clA_len l t n j
    have h2 := clR_len l t j n
    unfold clA
    rw [List.length_append, Nat.add_mul]; omega
theorem clR_put {l : List (Int × Int)} {t : Int} {j k : Nat} (h : j < k) (g : t < ex l j k) : clR l t j (k + 1) = clR l t j k ++ [((j : Int), (k : Int))] := by
  rw [clR, if_pos ⟨h, g⟩]
theorem clR_not {l : List (Int × Int)} {t : Int} {j k : Nat} (g : ¬ t < ex l j k) : clR l t j (k + 1) = clR l t j k := by
  rw [clR, if_neg (fun h => g h.2)]
theorem clR_mem {l : List (Int × Int)} {t : Int} {j : Nat} : ∀ {k : Nat} {c : Int × Int}, c ∈ clR l t j k ↔ ∃ i, i < k ∧ j < i ∧ t < ex l j i ∧ c = ((j : Int), (i : Int))
  | 0, c => by simp [clR]
  | k + 1, c => by
    have ih := @clR_mem l t j k c
    unfold clR
    constructor
    · intro h
      split at h
      · rename_i g
        rw [List.mem_append, List.mem_singleton] at h
        rcases h with h | h
        · obtain ⟨i, h1, h2⟩ := ih.1 h
          exact ⟨i, by omega, h2⟩
        · exact ⟨k, by omega, g.1, g.2, h⟩
      · obtain ⟨i, h1, h2⟩ := ih.1 h
        exact ⟨i, by omega, h2⟩
    · rintro ⟨i, h1, h2, h3, h4⟩
      by_cases e : i = k
      · subst e
        rw [if_pos ⟨h2, h3⟩, List.mem_append, List.mem_singleton]
        exact .inr h4
      · have := ih.2 ⟨i, by omega, h2, h3, h4⟩
        split
        · rw [List.mem_append]; exact .inl this
        · exact this
theorem clA_mem {l : List (Int × Int)} {t : Int} {n : Nat} : ∀ {m : Nat} {c : Int × Int}, c ∈ clA l t n m ↔ ∃ j i, j < m ∧ i < n ∧ j < i ∧ t < ex l j i ∧ c = ((j : Int), (i : Int))
  | 0, c => by simp [clA]
  | m + 1, c => by
    have ih := @clA_mem l t n m c
    unfold clA
    rw [List.mem_append, ih, clR_mem]
    constructor
    · rintro (⟨j, i, h1, h2⟩ | ⟨i, h1, h2⟩)
      · exact ⟨j, i, by omega, h2⟩
      · exact ⟨m, i, by omega, h1, h2⟩
    · rintro ⟨j, i, h1, h2, h3⟩
      by_cases e : j = m
      · subst e; exact .inr ⟨i, h2, h3⟩
      · exact .inl ⟨j, i, by omega, h2, h3⟩
end Go.Proofs.Ytooofppgjknigaa

/- Package audit: clashes. -/
namespace Go.Proofs.Ytooofppgjknigaa
open Go.RowKit

set_option maxHeartbeats 32000000 in
set_option maxRecDepth 100000 in
theorem auCls_some (b off n cap : Nat) (t : Int) (l : List (Int × Int)) (w : World) (n0 : 1 ≤ n) (n1 : n ≤ 128) (hb : b < w.heap.size)
    (hc : Hid (∀ j, j < n → w.cell? ⟨b, off + j * 2, none⟩ = some (.int .i64 (gX l j)) ∧ w.cell? ⟨b, off + j * 2 + 1, none⟩ = some (.int .i64 (gR l j))))
    (hd : Hid (∀ j, j < n → 50000 ≤ gR l j ∧ gR l j ≤ 120000)) :
    Calls Try.prog 45 #[.slice (some ⟨b, off, none⟩) n cap, .int .i64 t] w fun e w' => ∃ u, e = .returned u ∧ RC.OwnM w' w.heap.size u (clA l t n n) ∧ Below w.heap.size w w' := by
  obtain ⟨i0, hi, hz0, hz1, hz2⟩ := RC.info_parts RC.mk_info
  replace hi := Lib.hid hi
  replace hz0 := Lib.hid hz0
  replace hz1 := Lib.hid hz1
  replace hz2 := Lib.hid hz2
  have S0 : Hid (RC.MkI w (.slice none 0 0) (clA l t n 0) w) := Lib.hid ⟨Below.refl _ _, RC.nil _ _⟩
  go_enter Try.func45, Try.ntmps45
  go_wp2_with fail
  go_loopw [5, 10] (fun v ii wr => ∃ j : Nat, j ≤ n ∧ ii = .int .i64 j ∧ Hid (RC.MkI w v (clA l t n j) wr)) (fun _ ii _ => n - (intOf ii).toNat)
  case atStart => exact ⟨0, Nat.zero_le _, rfl, S0⟩
  case round =>
    clear S0
    obtain ⟨j, hj, rfl, hS⟩ := hrel
    by_cases hlt : j < n
    · have S1 : Hid (RC.MkI w u5 (clA l t n j ++ clR l t j (j + 1)) wr) := Lib.hid (by rw [clR_start l t j _ (Nat.le_refl _), List.append_nil]; exact hS.out)
      have l0 : (j : Int) < (n : Int) := by omega
      have wj : IntKind.i64.wrap ((j : Int) + 1) = (j : Int) + 1 := wrap_in _ ⟨by omega, by omega⟩
      clear hS
      go_wp2_with fail
      go_loopw [5, 7] (fun v kk wz => ∃ k : Nat, j + 1 ≤ k ∧ k ≤ n ∧ kk = .int .i64 (k : Int) ∧ Hid (RC.MkI w v (clA l t n j ++ clR l t j k) wz)) (fun _ kk _ => n - (intOf kk).toNat)
      case atStart => exact ⟨j + 1, Nat.le_refl _, by omega, by go_num, S1⟩
      case round =>
        clear S1
        obtain ⟨k, hk0, hk, rfl, hS⟩ := hrel
        by_cases hlt2 : k < n
        · obtain ⟨av, cv, ev⟩ := RC.shape hS.out.2
          have bb : b < wr.heap.size := Nat.lt_of_lt_of_le hb hS.out.1.size
          have c0 : wr.cell? ⟨b, off + j * 2, none⟩ = some (.int .i64 (gX l j)) := by rw [(bcell hS.out.1).1 _ _ hb]; exact (hc.out j hlt).1
          have c1 : wr.cell? ⟨b, off + j * 2 + 1, none⟩ = some (.int .i64 (gR l j)) := by rw [(bcell hS.out.1).1 _ _ hb]; exact (hc.out j hlt).2
          have c2 : wr.cell? ⟨b, off + k * 2, none⟩ = some (.int .i64 (gX l k)) := by rw [(bcell hS.out.1).1 _ _ hb]; exact (hc.out k hlt2).1
          have c3 : wr.cell? ⟨b, off + k * 2 + 1, none⟩ = some (.int .i64 (gR l k)) := by rw [(bcell hS.out.1).1 _ _ hb]; exact (hc.out k hlt2).2
          have HE := Lib.hid (fun W => exc_any (gX l j) (gR l j) (gX l k) (gR l k) W (hd.out j hlt) (hd.out k hlt2))
          have l1 : (k : Int) < (n : Int) := by omega
          have hln : (clA l t n j ++ clR l t j k).length ≤ 17000 := by
            have h1 := clA_len l t n j
            have h2 := clR_len l t j k
            have h3 : j * n ≤ 128 * 128 := Nat.mul_le_mul (by omega) (by omega)
            rw [List.length_append]; omega
          have HP := Lib.hid (fun g : t < ex l j k => show clA l t n j ++ clR l t j (k + 1) = (clA l t n j ++ clR l t j k) ++ [((j : Int), (k : Int))] by rw [clR_put (by omega) g, List.append_assoc])
          have HN := Lib.hid (fun g : ¬ t < ex l j k => show clA l t n j ++ clR l t j (k + 1) = clA l t n j ++ clR l t j k by rw [clR_not g])
          have DX : Hid (wr.drew.cell? ⟨b, off + j * 2, none⟩ = some (.int .i64 (gX l j))) := Lib.hid c0
          have XD := Lib.hid (bel_drew wr)
          generalize hL : clA l t n j ++ clR l t j k = L at *
          generalize hL2 : clA l t n j ++ clR l t j (k + 1) = L2 at *
          replace hL := Lib.hid hL
          replace hL2 := Lib.hid hL2
          generalize hm : L.length = m at *
          replace hm := Lib.hid hm
          have hex : Hid (ex l j k = exd (gX l j) (gR l j) (gX l k) (gR l k)) := Lib.hid rfl
          subst ev
          generalize ex l j k = E at *
          generalize exd (gX l j) (gR l j) (gX l k) (gR l k) = E2 at *
          obtain rfl := hex.out
          generalize gX l j = x at *
          generalize gR l j = r at *
          generalize gX l k = y at *
          generalize gR l k = s at *
          clear DX
          by_cases g : t < E
          · replace HP := Lib.hid (HP.out g)
            have dg : decide (t < E) = true := decide_eq_true g
            clear HN
            go_wp2_with fail
            go_region_held3 (fun w' => w'.cell? ⟨b, off + j * 2, none⟩ = some (.int .i64 x) ∧ w'.cell? ⟨b, off + j * 2 + 1, none⟩ = some (.int .i64 r) ∧ w'.cell? ⟨b, off + k * 2, none⟩ = some (.int .i64 y) ∧ w'.cell? ⟨b, off + k * 2 + 1, none⟩ = some (.int .i64 s)) (go_keep) (first
              | (go_at_call 48; refine (HE.out _).mono ?_; rintro e w3 ⟨rfl, gg⟩; have X3 := Lib.hid (bel_trans XD.out gg); have c0 := cell_bel c0 X3.out; have c1 := cell_bel c1 X3.out; have c2 := cell_bel c2 X3.out; have c3 := cell_bel c3 X3.out; clear gg))
            have S4 := Lib.hid (hS.out.below X3.out)
            have OA : Hid ((w3.alloc (.cells #[.int .i64 j, .int .i64 k] 33)).ownsRow w.heap.size 33 2 (.slice av m cv) m (flat L)) := Lib.hid (by
              have := RC.below S4.out.2 (bel_alloc (o := .cells #[.int .i64 j, .int .i64 k] 33) (Below.refl _ _))
              unfold RC.OwnM at this
              rwa [hm.out] at this)
            have CN := Lib.hid (RC.pair_new w3 j k 33)
            have S5 := Lib.hid (S4.out.below (bel_alloc (o := .cells #[.int .i64 j, .int .i64 k] 33) (Below.refl _ _)))
            have HS : Hid (w.heap.size ≤ (w3.alloc (.cells #[.int .i64 j, .int .i64 k] 33)).heap.size) := Lib.hid S5.out.1.size
            have M1 : Hid (m + 1 ≤ maxLen) := Lib.hid (by unfold maxLen; omega)
            have M2 : Hid ((m + 1) * 16 ≤ 140737488355328) := Lib.hid (by omega)
            clear hS c0 c1 c2 c3 hln
            go_wp2_with (at_builtin; refine wpList_append_own_at _ rfl _ _ 28 rfl w.heap.size 33 i0 (.agg #[.int .i64 0, .int .i64 0]) 2 16 Try.underlying28 hi.out hz0.out hz1.out hz2.out rfl (by omega) _ _ _ rfl OA.out ⟨w3.heap.size, 0, none⟩ 1 1 [.int .i64 j, .int .i64 k] rfl rfl CN.out (RC.pair_one j k) M1.out M2.out HS.out ?_)
            intro v2 w5 hown hgrow _ _
            have SN : Hid (RC.MkI w v2 (clA l t n j ++ clR l t j (k + 1)) w5) := Lib.hid (by
              have lt := fun r hr => (World.ownsRow.lt OA.out r hr).1
              refine ⟨S5.out.1.grown hgrow HS.out lt, RC.push ?_ hm.out hown⟩
              rw [hL2.out]; exact HP.out)
            clear hown hgrow OA CN
            go_wp2
            go_roundw
            case rel => exact ⟨k + 1, by omega, by omega, by go_num, SN⟩
            case measure => simp [intOf]; omega
          · replace HN := Lib.hid (HN.out g)
            have dg : decide (t < E) = false := decide_eq_false g
            clear HP
            go_wp2_with fail
            go_region_held3 (fun w' => w'.cell? ⟨b, off + j * 2, none⟩ = some (.int .i64 x) ∧ w'.cell? ⟨b, off + j * 2 + 1, none⟩ = some (.int .i64 r) ∧ w'.cell? ⟨b, off + k * 2, none⟩ = some (.int .i64 y) ∧ w'.cell? ⟨b, off + k * 2 + 1, none⟩ = some (.int .i64 s)) (go_keep) (first
              | (go_at_call 48; refine (HE.out _).mono ?_; rintro e w3 ⟨rfl, gg⟩; have X3 := Lib.hid (bel_trans XD.out gg); have c0 := cell_bel c0 X3.out; have c1 := cell_bel c1 X3.out; have c2 := cell_bel c2 X3.out; have c3 := cell_bel c3 X3.out; clear gg))
            have SN : Hid (RC.MkI w (.slice av m cv) (clA l t n j ++ clR l t j (k + 1)) w3) := Lib.hid (by rw [hL2.out, HN.out]; exact hS.out.below X3.out)
            clear hS c0 c1 c2 c3 hln
            go_wp2
            go_roundw
            case rel => exact ⟨k + 1, by omega, by omega, by go_num, SN⟩
            case measure => simp [intOf]; omega
        · obtain rfl : k = n := by omega
          have SN : Hid (RC.MkI w u5 (clA l t k (j + 1)) wr) := hS
          clear hS
          go_wp2
          go_roundw
          case rel => exact ⟨j + 1, by omega, by go_num, SN⟩
          case measure => simp [intOf]; omega
    · obtain rfl : j = n := by omega
      go_wp2
      go_returns
      exact ⟨_, rfl, hS.out.2, hS.out.1⟩

end Go.Proofs.Ytooofppgjknigaa

/- Package audit: Clashes. -/
namespace Go.Proofs.Ytooofppgjknigaa
open Go.RowKit

/-- what Clashes returns -/
def ccE (l : List (Int × Int)) (t : Int) : Int := if auE l ≠ 0 then 1 else if t < 0 ∨ 120000 < t then 2 else 0
def ccL (l : List (Int × Int)) (t : Int) : List (Int × Int) := if ccE l t = 0 then clA l t l.length l.length else []
theorem auCls_any (v : Value) (l : List (Int × Int)) (t : Int) (w : World) (hv : Pts w v l) (h : AR l) :
    Calls Try.prog 45 #[v, .int .i64 t] w fun e w' => ∃ u, e = .returned u ∧ Pts w' u (clA l t l.length l.length) ∧ Below w.heap.size w w' := by
  obtain ⟨a, cap, rfl, hl, hh⟩ := hv
  have n0 := h.n0
  rcases hh with hh | ⟨b, off, rfl, hb, hc⟩
  · omega
  · refine (auCls_some b off l.length cap t l w h.n0 h.n1 hb hc (Lib.hid fun j hj => ⟨(h.b j hj).2.2.1, (h.b j hj).2.2.2⟩)).mono fun e w' ⟨u, h1, h2, h3⟩ => ⟨u, h1, RC.pts h2, h3⟩
set_option maxHeartbeats 8000000 in
theorem auCc_bad (v : Value) (t E : Int) (w : World) (he : (E == 0) = false)
    (H : Hid (Calls Try.prog 44 #[v] w fun e w' => e = .returned (.bool (E == 0)) ∧ Below w.heap.size w w')) :
    Calls Try.prog 14 #[v, .int .i64 t] w fun e w' => e = .returned (.tuple #[.slice none 0 0, .int .i64 1]) ∧ Below w.heap.size w w' := by
  rw [he] at H
  go_enter Try.func14, Try.ntmps14
  go_wp2_with fail
  refine H.out.mono ?_
  rintro e w1 ⟨rfl, gg⟩
  have X := Lib.hid gg; clear gg
  go_wp2
  go_returns
  exact ⟨rfl, X.out⟩
set_option maxHeartbeats 8000000 in
theorem auCc_out (v : Value) (t : Int) (w : World) (ht : t < 0 ∨ (¬ t < 0 ∧ 120000 < t))
    (H : Hid (Calls Try.prog 44 #[v] w fun e w' => e = .returned (.bool true) ∧ Below w.heap.size w w')) :
    Calls Try.prog 14 #[v, .int .i64 t] w fun e w' => e = .returned (.tuple #[.slice none 0 0, .int .i64 2]) ∧ Below w.heap.size w w' := by
  rcases ht with h | ⟨h, h2⟩
  · have d1 : decide (t < 0) = true := decide_eq_true h
    go_enter Try.func14, Try.ntmps14
    go_wp2_with fail
    refine H.out.mono ?_
    rintro e w1 ⟨rfl, gg⟩
    have X := Lib.hid gg; clear gg
    go_wp2
    go_returns
    exact ⟨rfl, X.out⟩
  · have d1 : decide (t < 0) = false := decide_eq_false h
    have d2 : decide (120000 < t) = true := decide_eq_true h2
    go_enter Try.func14, Try.ntmps14
    go_wp2_with fail
    refine H.out.mono ?_
    rintro e w1 ⟨rfl, gg⟩
    have X := Lib.hid gg; clear gg
    go_wp2
    go_returns
    exact ⟨rfl, X.out⟩
set_option maxHeartbeats 8000000 in
theorem auCc_ok (v : Value) (t : Int) (L : List (Int × Int)) (w : World) (h : ¬ t < 0) (h2 : ¬ 120000 < t)
    (H : Hid (Calls Try.prog 44 #[v] w fun e w' => e = .returned (.bool true) ∧ Below w.heap.size w w'))
    (HC : Hid (∀ W, Below w.heap.size w W → Calls Try.prog 45 #[v, .int .i64 t] W fun e w' => ∃ u, e = .returned u ∧ Pts w' u L ∧ Below W.heap.size W w')) :
    Calls Try.prog 14 #[v, .int .i64 t] w fun e w' => ∃ u, e = .returned (.tuple #[u, .int .i64 0]) ∧ Pts w' u L ∧ Below w.heap.size w w' := by
  have d1 : decide (t < 0) = false := decide_eq_false h
  have d2 : decide (120000 < t) = false := decide_eq_false h2
  go_enter Try.func14, Try.ntmps14
  go_wp2_with fail
  refine H.out.mono ?_
  rintro e w1 ⟨rfl, gg⟩
  have X := Lib.hid gg; clear gg
  go_wp2_with fail
  refine (HC.out _ X.out).mono ?_
  rintro e w2 ⟨u, rfl, hp, gg⟩
  have X2 := Lib.hid (bel_trans X.out gg); clear gg
  have P := Lib.hid hp; clear hp
  go_wp2
  go_returns
  exact ⟨_, rfl, P.out, X2.out⟩
/-- Clashes -/
theorem auCc_any (v : Value) (l : List (Int × Int)) (t : Int) (w : World) (hv : Pts w v l) :
    Calls Try.prog 14 #[v, .int .i64 t] w fun e w' => ∃ u, e = .returned (.tuple #[u, .int .i64 (ccE l t)]) ∧ Pts w' u (ccL l t) ∧ Below w.heap.size w w' := by
  have HR := auRt_any v l w hv
  by_cases h : auE l = 0
  · have HR' := HR
    rw [show (auE l == 0) = true by simpa using h] at HR'
    by_cases h2 : t < 0 ∨ 120000 < t
    · have e : ccE l t = 2 := by unfold ccE; rw [if_neg (by omega), if_pos h2]
      refine (auCc_out v t w (by omega) HR').mono fun e' w' g => ⟨_, by rw [e]; exact g.1, ?_, g.2⟩
      unfold ccL
      rw [if_neg (by omega)]
      exact pts_nil w'
    · have e : ccE l t = 0 := by unfold ccE; rw [if_neg (by omega), if_neg h2]
      unfold ccL
      rw [e, if_pos rfl]
      exact auCc_ok v t _ w (by omega) (by omega) HR' (Lib.hid fun W hW => auCls_any v l t W (hv.below hW) (auE_zero.1 h))
  · have e : ccE l t = 1 := by unfold ccE; rw [if_pos h]
    refine (auCc_bad v t (auE l) w (by simpa using h) HR).mono fun e' w' g => ⟨_, by rw [e]; exact g.1, ?_, g.2⟩
    unfold ccL
    rw [if_neg (by omega)]
    exact pts_nil w'
end Go.Proofs.Ytooofppgjknigaa

/- The reference of layer 17: Check, right, clash. -/
namespace Go.Proofs.Ytooofppgjknigaa
open Go.RowKit

set_option maxHeartbeats 4000000 in
theorem raChk_len (a : Option Addr) (n cap : Nat) (V : Int) (w : World) (h : (n = 0 ∧ V = 9) ∨ (128 < n ∧ n ≤ 9223372036854775807 ∧ V = 8)) :
    Calls Try.prog 13 #[.slice a n cap] w fun e w' => e = .returned (.tuple #[.int .i64 (-1), .int .i64 V]) ∧ Below w.heap.size w w' := by
  rcases h with ⟨rfl, rfl⟩ | ⟨h, h2, rfl⟩
  all_goals
    go_enter Try.func13, Try.ntmps13
    go_wp2
    go_returns
    exact ⟨rfl, Below.refl _ _⟩
set_option maxHeartbeats 16000000 in
set_option maxRecDepth 100000 in
theorem raChk_some (b off n cap : Nat) (l : List (Int × Int)) (I E : Int) (w : World) (n0 : 1 ≤ n) (n1 : n ≤ 128) (hb : b < w.heap.size)
    (hc : Hid (∀ j, j < n → w.cell? ⟨b, off + j * 2, none⟩ = some (.int .i64 (gX l j)) ∧ w.cell? ⟨b, off + j * 2 + 1, none⟩ = some (.int .i64 (gR l j))))
    (h1 : Hid (∀ k, k < n → (∀ j, j < k → auF l j = 0) → auF l k ≠ 0 → I = k ∧ E = auF l k)) (h2 : Hid ((∀ j, j < n → auF l j = 0) → I = -1 ∧ E = 0)) :
    Calls Try.prog 13 #[.slice (some ⟨b, off, none⟩) n cap] w fun e w' => e = .returned (.tuple #[.int .i64 I, .int .i64 E]) ∧ Below w.heap.size w w' := by
  have d8 : decide (128 < (n : Int)) = false := decide_eq_false (by omega)
  have d9 : ((n : Int) == 0) = false := by simp; omega
  go_enter Try.func13, Try.ntmps13
  go_wp2_with fail
  go_loopw [4] (fun ii wr => ∃ k : Nat, k ≤ n ∧ ii = .int .i64 k ∧ Hid (Below w.heap.size w wr) ∧ Hid (∀ j, j < k → auF l j = 0)) (fun ii _ => n - (intOf ii).toNat)
  case atStart => exact ⟨0, Nat.zero_le _, rfl, Below.refl _ _, fun j hj => by omega⟩
  case round =>
    obtain ⟨k, hk, rfl, hB, ha⟩ := hrel
    by_cases hlt : k < n
    · have bb : b < wr.heap.size := Nat.lt_of_lt_of_le hb hB.out.size
      have c0 : wr.cell? ⟨b, off + k * 2, none⟩ = some (.int .i64 (gX l k)) := by rw [(bcell hB.out).1 _ _ hb]; exact (hc.out k hlt).1
      have c1 : wr.cell? ⟨b, off + k * 2 + 1, none⟩ = some (.int .i64 (gR l k)) := by rw [(bcell hB.out).1 _ _ hb]; exact (hc.out k hlt).2
      have cp : Hid (k ≠ 0 → wr.cell? ⟨b, off + (k - 1) * 2, none⟩ = some (.int .i64 (gX l (k - 1)))) := fun hk0 => by
        rw [(bcell hB.out).1 _ _ hb]; exact (hc.out (k - 1) (by omega)).1
      have l0 : (k : Int) < (n : Int) := by omega
      have H1 := Lib.hid (h1.out k hlt ha.out)
      have HS : Hid (auF l k = 0 → ∀ j, j < k + 1 → auF l j = 0) := fun h j hj => by
        by_cases e : j = k
        · rw [e]; exact h
        · exact ha.out j (by omega)
      have HF : Hid (auF l k = if outB (gX l k) (gR l k) = true then 2 else if k ≠ 0 ∧ gX l k < gX l (k - 1) then 5 else 0) := Lib.hid rfl
      have hE : Hid (outB (gX l k) (gR l k) = (decide (gX l k < 0) || decide (10000 < gX l k) || decide (gR l k < 50000) || decide (120000 < gR l k))) := Lib.hid rfl
      generalize auF l k = F at *
      generalize gX l k = x at *
      generalize gR l k = r at *
      generalize gX l (k - 1) = y at *
      cases ho : outB x r with
      | true =>
        rw [ho] at hE HF
        have e : F = 2 := HF.out
        obtain ⟨rfl, rfl⟩ := H1.out (by rw [e]; simp)
        subst e
        have hD : (decide (x < 0) = true) ∨ (decide (x < 0) = false ∧ decide (10000 < x) = true) ∨ (decide (x < 0) = false ∧ decide (10000 < x) = false ∧ decide (r < 50000) = true) ∨ (decide (x < 0) = false ∧ decide (10000 < x) = false ∧ decide (r < 50000) = false ∧ decide (120000 < r) = true) := by
          have := hE.out
          revert this
          cases decide (x < 0) <;> cases decide (10000 < x) <;> cases decide (r < 50000) <;> cases decide (120000 < r) <;> simp
        clear ho HF HS H1 h1 h2 hE cp
        rcases hD with d1 | ⟨d1, d2⟩ | ⟨d1, d2, d3⟩ | ⟨d1, d2, d3, d4⟩
        all_goals
          go_wp2
          go_returns
          exact ⟨rfl, hB.out⟩
      | false =>
        rw [ho] at hE HF
        have hD : decide (x < 0) = false ∧ decide (10000 < x) = false ∧ decide (r < 50000) = false ∧ decide (120000 < r) = false := by
          have := hE.out
          revert this
          cases decide (x < 0) <;> cases decide (10000 < x) <;> cases decide (r < 50000) <;> cases decide (120000 < r) <;> simp
        obtain ⟨d1, d2, d3, d4⟩ := hD
        clear hE ho
        by_cases k0 : k = 0
        · have e : F = 0 := by rw [HF.out]; simp [k0]
          have hs2 := Lib.hid (HS.out e)
          have dk : decide (0 < (k : Int)) = false := decide_eq_false (by omega)
          have dk2 : decide (0 < k) = false := decide_eq_false (by omega)
          have dk3 : ¬ 0 < k := by omega
          replace k0 := Lib.hid k0
          clear HF HS H1 e cp
          go_wp2_with fail
          go_quiet (fail)
          go_wp2
          go_roundw
          case rel => exact ⟨k + 1, by omega, by go_num, bel_trans hB.out (bel_drewN _ _), hs2⟩
          case measure => simp [intOf]; omega
        · have dk : decide (0 < (k : Int)) = true := decide_eq_true (by omega)
          obtain ⟨m, rfl⟩ : ∃ m, k = m + 1 := ⟨k - 1, by omega⟩
          have w1' : IntKind.i64.wrap (((m + 1 : Nat) : Int) - 1) = (m : Int) := by rw [wrap_in _ ⟨by omega, by omega⟩]; omega
          have w2 : IntKind.i64.wrap ((m : Int) + 1 - 1) = (m : Int) := by rw [wrap_in _ ⟨by omega, by omega⟩]; omega
          have w3 : IntKind.i64.wrap (m : Int) = (m : Int) := wrap_in _ ⟨by omega, by omega⟩
          have l1 : (m : Int) < (n : Int) := by omega
          have cq := cp.out (by omega)
          rw [show m + 1 - 1 = m by omega] at cq
          clear cp
          by_cases hxy : x < y
          · have e : F = 5 := by rw [HF.out]; simp [hxy]
            obtain ⟨rfl, rfl⟩ := H1.out (by rw [e]; simp)
            subst e
            have dxy : decide (x < y) = true := decide_eq_true hxy
            clear HF HS H1 h1 h2
            go_wp2_with fail
            go_quiet (fail)
            go_wp2
            go_returns
            exact ⟨rfl, bel_trans hB.out (bel_drewN _ _)⟩
          · have e : F = 0 := by rw [HF.out]; simp [hxy]
            have hs2 := Lib.hid (HS.out e)
            have dxy : decide (x < y) = false := decide_eq_false hxy
            clear HF HS H1 e
            go_wp2_with fail
            go_quiet (fail)
            go_wp2
            go_roundw
            case rel => exact ⟨m + 1 + 1, by omega, by go_num, bel_trans hB.out (bel_drewN _ _), hs2⟩
            case measure => simp [intOf]; omega
    · obtain rfl : k = n := by omega
      obtain ⟨rfl, rfl⟩ := h2.out ha.out
      go_wp2
      go_returns
      exact ⟨rfl, hB.out⟩
theorem raChk_any (v : Value) (l : List (Int × Int)) (w : World) (hv : Pts w v l) :
    Calls Try.prog 13 #[v] w fun e w' => e = .returned (.tuple #[.int .i64 (auI l), .int .i64 (auE l)]) ∧ Below w.heap.size w w' := by
  obtain ⟨a, cap, rfl, hl, hh⟩ := hv
  by_cases h1 : 128 < l.length
  · have := raChk_len a l.length cap 8 w (.inr ⟨h1, by omega, rfl⟩)
    rwa [show auI l = -1 by unfold auI; rw [if_pos h1], show auE l = 8 by unfold auE; rw [if_pos h1]]
  · by_cases h0 : l.length = 0
    · have := raChk_len a l.length cap 9 w (.inl ⟨h0, rfl⟩)
      rwa [show auI l = -1 by unfold auI; rw [if_neg h1, if_pos h0], show auE l = 9 by unfold auE; rw [if_neg h1, if_pos h0]]
    · rcases hh with hh | ⟨b, off, rfl, hb, hc⟩
      · omega
      · exact raChk_some b off l.length cap l _ _ w (by omega) (by omega) hb hc (Lib.hid fun k hk g1 g2 => ⟨(auE_at (by omega) hk g1 g2).2, (auE_at (by omega) hk g1 g2).1⟩) (Lib.hid fun g => ⟨(auE_ok (by omega) h0 g).2, (auE_ok (by omega) h0 g).1⟩)
set_option maxHeartbeats 4000000 in
theorem raRt_of (v : Value) (I E : Int) (w : World) (H : Hid (Calls Try.prog 13 #[v] w fun e w' => e = .returned (.tuple #[.int .i64 I, .int .i64 E]) ∧ Below w.heap.size w w')) :
    Calls Try.prog 46 #[v] w fun e w' => e = .returned (.bool (E == 0)) ∧ Below w.heap.size w w' := by
  go_enter Try.func46, Try.ntmps46
  go_wp2_with fail
  refine H.out.mono ?_
  rintro e w1 ⟨rfl, gg⟩
  have X := Lib.hid gg; clear gg
  go_wp2
  go_returns
  exact ⟨rfl, X.out⟩
theorem raRt_any (v : Value) (l : List (Int × Int)) (w : World) (hv : Pts w v l) :
    Calls Try.prog 46 #[v] w fun e w' => e = .returned (.bool (auE l == 0)) ∧ Below w.heap.size w w' := raRt_of v _ _ w (raChk_any v l w hv)
set_option maxHeartbeats 8000000 in
theorem rcl_any (x r y s : Int) (w : World) (hr : 50000 ≤ r ∧ r ≤ 120000) (hs : 50000 ≤ s ∧ s ≤ 120000) :
    Calls Try.prog 47 #[.agg #[.int .i64 x, .int .i64 r], .agg #[.int .i64 y, .int .i64 s]] w fun e w' => e = .returned (.int .i64 (exd x r y s)) ∧ Below w.heap.size w w' := by
  have X : Hid (Below w.heap.size w ((w.alloc (.cells #[.int .i64 x, .int .i64 r] 46)).alloc (.cells #[.int .i64 y, .int .i64 s] 46))) := Lib.hid (bel_alloc (bel_alloc (Below.refl _ _)))
  have w1 : IntKind.i64.wrap (s - r) = s - r := wrap_in _ ⟨by omega, by omega⟩
  have w2 : IntKind.i64.wrap (-(s - r)) = -(s - r) := wrap_in _ ⟨by omega, by omega⟩
  by_cases e : x = y
  · have d : (x == y) = true := by simpa using e
    by_cases g : s - r < 0
    · have dg : decide (s - r < 0) = true := decide_eq_true g
      have hE : Hid (exd x r y s = -(s - r)) := Lib.hid (by unfold exd; rw [if_pos e]; omega)
      clear e
      go_enter Try.func47, Try.ntmps47
      go_wp2
      go_returns
      exact ⟨by rw [hE.out]; rfl, X.out⟩
    · have dg : decide (s - r < 0) = false := decide_eq_false g
      have hE : Hid (exd x r y s = s - r) := Lib.hid (by unfold exd; rw [if_pos e]; omega)
      clear e
      go_enter Try.func47, Try.ntmps47
      go_wp2
      go_returns
      exact ⟨by rw [hE.out]; rfl, X.out⟩
  · have d : (x == y) = false := by simpa using e
    have hE : Hid (exd x r y s = s - r) := Lib.hid (by unfold exd; rw [if_neg e])
    clear e
    go_enter Try.func47, Try.ntmps47
    go_wp2
    go_returns
    exact ⟨by rw [hE.out]; rfl, X.out⟩
end Go.Proofs.Ytooofppgjknigaa

/- The reference of layer 17: Clashes. -/
namespace Go.Proofs.Ytooofppgjknigaa
open Go.RowKit

set_option maxHeartbeats 32000000 in
set_option maxRecDepth 100000 in
theorem raCls_some (b off n cap : Nat) (t : Int) (l : List (Int × Int)) (w : World) (n0 : 1 ≤ n) (n1 : n ≤ 128) (hb : b < w.heap.size) (t0 : ¬ t < 0) (t1 : ¬ 120000 < t)
    (HR : Hid (Calls Try.prog 46 #[.slice (some ⟨b, off, none⟩) n cap] w fun e w' => e = .returned (.bool true) ∧ Below w.heap.size w w'))
    (hc : Hid (∀ j, j < n → w.cell? ⟨b, off + j * 2, none⟩ = some (.int .i64 (gX l j)) ∧ w.cell? ⟨b, off + j * 2 + 1, none⟩ = some (.int .i64 (gR l j))))
    (hd : Hid (∀ j, j < n → 50000 ≤ gR l j ∧ gR l j ≤ 120000)) :
    Calls Try.prog 15 #[.slice (some ⟨b, off, none⟩) n cap, .int .i64 t] w fun e w' => ∃ u, e = .returned (.tuple #[u, .int .i64 0]) ∧ RC.OwnM w' w.heap.size u (clA l t n n) ∧ Below w.heap.size w w' := by
  obtain ⟨i0, hi, hz0, hz1, hz2⟩ := RC.info_parts RC.mk_info
  replace hi := Lib.hid hi
  replace hz0 := Lib.hid hz0
  replace hz1 := Lib.hid hz1
  replace hz2 := Lib.hid hz2
  have d1 : decide (t < 0) = false := decide_eq_false t0
  have d2 : decide (120000 < t) = false := decide_eq_false t1
  go_enter Try.func15, Try.ntmps15
  go_wp2_with fail
  refine HR.out.mono ?_
  rintro e w1 ⟨rfl, gg⟩
  have X1 := Lib.hid gg; clear gg
  have S0 : Hid (RC.MkI w (.slice (some ⟨w1.heap.size, 0, none⟩) 0 0) (clA l t n 0) (w1.alloc (.cells #[] 33))) := Lib.hid ⟨bel_trans X1.out (bel_alloc (Below.refl _ _)), World.ownsRow_made w1 #[] 0 X1.out.size (Nat.zero_le _) (by simp)⟩
  go_wp2_with fail
  go_loopw [6, 7] (fun v ii wr => ∃ j : Nat, j ≤ n ∧ ii = .int .i64 j ∧ Hid (RC.MkI w v (clA l t n j) wr)) (fun _ ii _ => n - (intOf ii).toNat)
  case atStart => exact ⟨0, Nat.zero_le _, rfl, S0⟩
  case round =>
    clear S0
    obtain ⟨j, hj, rfl, hS⟩ := hrel
    by_cases hlt : j < n
    · have S1 : Hid (RC.MkI w u6 (clA l t n j ++ clR l t j (j + 1)) wr) := Lib.hid (by rw [clR_start l t j _ (Nat.le_refl _), List.append_nil]; exact hS.out)
      have l0 : (j : Int) < (n : Int) := by omega
      have wj : IntKind.i64.wrap ((j : Int) + 1) = (j : Int) + 1 := wrap_in _ ⟨by omega, by omega⟩
      clear hS
      go_wp2_with fail
      go_loopw [6, 8] (fun v kk wz => ∃ k : Nat, j + 1 ≤ k ∧ k ≤ n ∧ kk = .int .i64 (k : Int) ∧ Hid (RC.MkI w v (clA l t n j ++ clR l t j k) wz)) (fun _ kk _ => n - (intOf kk).toNat)
      case atStart => exact ⟨j + 1, Nat.le_refl _, by omega, by go_num, S1⟩
      case round =>
        clear S1
        obtain ⟨k, hk0, hk, rfl, hS⟩ := hrel
        by_cases hlt2 : k < n
        · obtain ⟨av, cv, ev⟩ := RC.shape hS.out.2
          have bb : b < wr.heap.size := Nat.lt_of_lt_of_le hb hS.out.1.size
          have c0 : wr.cell? ⟨b, off + j * 2, none⟩ = some (.int .i64 (gX l j)) := by rw [(bcell hS.out.1).1 _ _ hb]; exact (hc.out j hlt).1
          have c1 : wr.cell? ⟨b, off + j * 2 + 1, none⟩ = some (.int .i64 (gR l j)) := by rw [(bcell hS.out.1).1 _ _ hb]; exact (hc.out j hlt).2
          have c2 : wr.cell? ⟨b, off + k * 2, none⟩ = some (.int .i64 (gX l k)) := by rw [(bcell hS.out.1).1 _ _ hb]; exact (hc.out k hlt2).1
          have c3 : wr.cell? ⟨b, off + k * 2 + 1, none⟩ = some (.int .i64 (gR l k)) := by rw [(bcell hS.out.1).1 _ _ hb]; exact (hc.out k hlt2).2
          have HE := Lib.hid (fun W => rcl_any (gX l j) (gR l j) (gX l k) (gR l k) W (hd.out j hlt) (hd.out k hlt2))
          have l1 : (k : Int) < (n : Int) := by omega
          have hln : (clA l t n j ++ clR l t j k).length ≤ 17000 := by
            have h1 := clA_len l t n j
            have h2 := clR_len l t j k
            have h3 : j * n ≤ 128 * 128 := Nat.mul_le_mul (by omega) (by omega)
            rw [List.length_append]; omega
          have HP := Lib.hid (fun g : t < ex l j k => show clA l t n j ++ clR l t j (k + 1) = (clA l t n j ++ clR l t j k) ++ [((j : Int), (k : Int))] by rw [clR_put (by omega) g, List.append_assoc])
          have HN := Lib.hid (fun g : ¬ t < ex l j k => show clA l t n j ++ clR l t j (k + 1) = clA l t n j ++ clR l t j k by rw [clR_not g])
          have DX : Hid (wr.drew.cell? ⟨b, off + j * 2, none⟩ = some (.int .i64 (gX l j))) := Lib.hid c0
          have XD := Lib.hid (bel_drew wr)
          generalize hL : clA l t n j ++ clR l t j k = L at *
          generalize hL2 : clA l t n j ++ clR l t j (k + 1) = L2 at *
          replace hL := Lib.hid hL
          replace hL2 := Lib.hid hL2
          generalize hm : L.length = m at *
          replace hm := Lib.hid hm
          have hex : Hid (ex l j k = exd (gX l j) (gR l j) (gX l k) (gR l k)) := Lib.hid rfl
          subst ev
          generalize ex l j k = E at *
          generalize exd (gX l j) (gR l j) (gX l k) (gR l k) = E2 at *
          obtain rfl := hex.out
          generalize gX l j = x at *
          generalize gR l j = r at *
          generalize gX l k = y at *
          generalize gR l k = s at *
          clear DX
          by_cases g : t < E
          · replace HP := Lib.hid (HP.out g)
            have dg : decide (t < E) = true := decide_eq_true g
            clear HN
            go_wp2_with fail
            go_region_held3 (fun w' => w'.cell? ⟨b, off + j * 2, none⟩ = some (.int .i64 x) ∧ w'.cell? ⟨b, off + j * 2 + 1, none⟩ = some (.int .i64 r) ∧ w'.cell? ⟨b, off + k * 2, none⟩ = some (.int .i64 y) ∧ w'.cell? ⟨b, off + k * 2 + 1, none⟩ = some (.int .i64 s)) (go_keep) (first
              | (go_at_call 47; refine (HE.out _).mono ?_; rintro e w3 ⟨rfl, gg⟩; have X3 := Lib.hid (bel_trans XD.out gg); have c0 := cell_bel c0 X3.out; have c1 := cell_bel c1 X3.out; have c2 := cell_bel c2 X3.out; have c3 := cell_bel c3 X3.out; clear gg))
            have S4 := Lib.hid (hS.out.below X3.out)
            have OA : Hid ((w3.alloc (.cells #[.int .i64 j, .int .i64 k] 33)).ownsRow w.heap.size 33 2 (.slice av m cv) m (flat L)) := Lib.hid (by
              have := RC.below S4.out.2 (bel_alloc (o := .cells #[.int .i64 j, .int .i64 k] 33) (Below.refl _ _))
              unfold RC.OwnM at this
              rwa [hm.out] at this)
            have CN := Lib.hid (RC.pair_new w3 j k 33)
            have S5 := Lib.hid (S4.out.below (bel_alloc (o := .cells #[.int .i64 j, .int .i64 k] 33) (Below.refl _ _)))
            have HS : Hid (w.heap.size ≤ (w3.alloc (.cells #[.int .i64 j, .int .i64 k] 33)).heap.size) := Lib.hid S5.out.1.size
            have M1 : Hid (m + 1 ≤ maxLen) := Lib.hid (by unfold maxLen; omega)
            have M2 : Hid ((m + 1) * 16 ≤ 140737488355328) := Lib.hid (by omega)
            clear hS c0 c1 c2 c3 hln
            go_wp2_with (at_builtin; refine wpList_append_own_at _ rfl _ _ 28 rfl w.heap.size 33 i0 (.agg #[.int .i64 0, .int .i64 0]) 2 16 Try.underlying28 hi.out hz0.out hz1.out hz2.out rfl (by omega) _ _ _ rfl OA.out ⟨w3.heap.size, 0, none⟩ 1 1 [.int .i64 j, .int .i64 k] rfl rfl CN.out (RC.pair_one j k) M1.out M2.out HS.out ?_)
            intro v2 w5 hown hgrow _ _
            have SN : Hid (RC.MkI w v2 (clA l t n j ++ clR l t j (k + 1)) w5) := Lib.hid (by
              have lt := fun r hr => (World.ownsRow.lt OA.out r hr).1
              refine ⟨S5.out.1.grown hgrow HS.out lt, RC.push ?_ hm.out hown⟩
              rw [hL2.out]; exact HP.out)
            clear hown hgrow OA CN
            go_wp2
            go_roundw
            case rel => exact ⟨k + 1, by omega, by omega, by go_num, SN⟩
            case measure => simp [intOf]; omega
          · replace HN := Lib.hid (HN.out g)
            have dg : decide (t < E) = false := decide_eq_false g
            clear HP
            go_wp2_with fail
            go_region_held3 (fun w' => w'.cell? ⟨b, off + j * 2, none⟩ = some (.int .i64 x) ∧ w'.cell? ⟨b, off + j * 2 + 1, none⟩ = some (.int .i64 r) ∧ w'.cell? ⟨b, off + k * 2, none⟩ = some (.int .i64 y) ∧ w'.cell? ⟨b, off + k * 2 + 1, none⟩ = some (.int .i64 s)) (go_keep) (first
              | (go_at_call 47; refine (HE.out _).mono ?_; rintro e w3 ⟨rfl, gg⟩; have X3 := Lib.hid (bel_trans XD.out gg); have c0 := cell_bel c0 X3.out; have c1 := cell_bel c1 X3.out; have c2 := cell_bel c2 X3.out; have c3 := cell_bel c3 X3.out; clear gg))
            have SN : Hid (RC.MkI w (.slice av m cv) (clA l t n j ++ clR l t j (k + 1)) w3) := Lib.hid (by rw [hL2.out, HN.out]; exact hS.out.below X3.out)
            clear hS c0 c1 c2 c3 hln
            go_wp2
            go_roundw
            case rel => exact ⟨k + 1, by omega, by omega, by go_num, SN⟩
            case measure => simp [intOf]; omega
        · obtain rfl : k = n := by omega
          have SN : Hid (RC.MkI w u6 (clA l t k (j + 1)) wr) := hS
          clear hS
          go_wp2
          go_roundw
          case rel => exact ⟨j + 1, by omega, by go_num, SN⟩
          case measure => simp [intOf]; omega
    · obtain rfl : j = n := by omega
      go_wp2
      go_returns
      exact ⟨_, rfl, hS.out.2, hS.out.1⟩

set_option maxHeartbeats 8000000 in
theorem raCc_bad (v : Value) (t E : Int) (w : World) (he : (E == 0) = false)
    (H : Hid (Calls Try.prog 46 #[v] w fun e w' => e = .returned (.bool (E == 0)) ∧ Below w.heap.size w w')) :
    Calls Try.prog 15 #[v, .int .i64 t] w fun e w' => e = .returned (.tuple #[.slice none 0 0, .int .i64 1]) ∧ Below w.heap.size w w' := by
  rw [he] at H
  go_enter Try.func15, Try.ntmps15
  go_wp2_with fail
  refine H.out.mono ?_
  rintro e w1 ⟨rfl, gg⟩
  have X := Lib.hid gg; clear gg
  go_wp2
  go_returns
  exact ⟨rfl, X.out⟩
set_option maxHeartbeats 8000000 in
theorem raCc_out (v : Value) (t : Int) (w : World) (ht : t < 0 ∨ (¬ t < 0 ∧ 120000 < t))
    (H : Hid (Calls Try.prog 46 #[v] w fun e w' => e = .returned (.bool true) ∧ Below w.heap.size w w')) :
    Calls Try.prog 15 #[v, .int .i64 t] w fun e w' => e = .returned (.tuple #[.slice none 0 0, .int .i64 2]) ∧ Below w.heap.size w w' := by
  rcases ht with h | ⟨h, h2⟩
  · have d1 : decide (t < 0) = true := decide_eq_true h
    go_enter Try.func15, Try.ntmps15
    go_wp2_with fail
    refine H.out.mono ?_
    rintro e w1 ⟨rfl, gg⟩
    have X := Lib.hid gg; clear gg
    go_wp2
    go_returns
    exact ⟨rfl, X.out⟩
  · have d1 : decide (t < 0) = false := decide_eq_false h
    have d2 : decide (120000 < t) = true := decide_eq_true h2
    go_enter Try.func15, Try.ntmps15
    go_wp2_with fail
    refine H.out.mono ?_
    rintro e w1 ⟨rfl, gg⟩
    have X := Lib.hid gg; clear gg
    go_wp2
    go_returns
    exact ⟨rfl, X.out⟩
/-- Clashes -/
theorem raCc_any (v : Value) (l : List (Int × Int)) (t : Int) (w : World) (hv : Pts w v l) :
    Calls Try.prog 15 #[v, .int .i64 t] w fun e w' => ∃ u, e = .returned (.tuple #[u, .int .i64 (ccE l t)]) ∧ Pts w' u (ccL l t) ∧ Below w.heap.size w w' := by
  have HR := raRt_any v l w hv
  by_cases h : auE l = 0
  · have HR' := HR
    rw [show (auE l == 0) = true by simpa using h] at HR'
    by_cases h2 : t < 0 ∨ 120000 < t
    · have e : ccE l t = 2 := by unfold ccE; rw [if_neg (by omega), if_pos h2]
      refine (raCc_out v t w (by omega) HR').mono fun e' w' g => ⟨_, by rw [e]; exact g.1, ?_, g.2⟩
      unfold ccL
      rw [if_neg (by omega)]
      exact pts_nil w'
    · have e : ccE l t = 0 := by unfold ccE; rw [if_neg (by omega), if_neg h2]
      unfold ccL
      rw [e, if_pos rfl]
      obtain ⟨a, cap, rfl, hl, hh⟩ := hv
      have hA := auE_zero.1 h
      have n0 := hA.n0
      rcases hh with hh | ⟨b, off, rfl, hb, hc⟩
      · omega
      · exact (raCls_some b off l.length cap t l w hA.n0 hA.n1 hb (by omega) (by omega) HR' hc (Lib.hid fun j hj => ⟨(hA.b j hj).2.2.1, (hA.b j hj).2.2.2⟩)).mono fun e' w' ⟨u, h1, h2, h3⟩ => ⟨u, h1, RC.pts h2, h3⟩
  · have e : ccE l t = 1 := by unfold ccE; rw [if_pos h]
    refine (raCc_bad v t (auE l) w (by simpa using h) HR).mono fun e' w' g => ⟨_, by rw [e]; exact g.1, ?_, g.2⟩
    unfold ccL
    rw [if_neg (by omega)]
    exact pts_nil w'
end Go.Proofs.Ytooofppgjknigaa

/- How arguments are opened: slices of points. -/
namespace Go.Proofs.Ytooofppgjknigaa
open Go.ChangeShapes Go.WideShapes Go.ChangeAt Go.RowKit Go.Joins

theorem own : ownKnob Try.prog.godebug = none := by kernel_rfl
theorem laidOut : laidOutB Try.prog = true := by kernel_rfl
theorem wf_bd {n : Int} (h : (Lit.int .i64 n).wf = true) : -9223372036854775808 ≤ n ∧ n ≤ 9223372036854775807 := by
  have := bounds_i64 h
  omega
set_option maxRecDepth 100000 in
theorem open_pts_at {H : Type} {enc : TypeId × Value → H} {w : World} {base fuel : Nat} {spare : Nat → Bool} {held : Bool} {v : Value} {y : DataW H × List MemPlace} (hs : ∀ k, spare k = true)
    (hf : DataW.trod enc Try.prog w base spare held fuel 22 [v] = some y) :
    ∃ l : List (Int × Int), Pts w v l := by
  rcases Deep.open_slice_pairs Try.underlying22 Try.underlying46 (by kernel_rfl) rfl rfl (by kernel_rfl) (by kernel_rfl) hf with ⟨hcs, _⟩ | ⟨x, len0, cap0, m, n, V0, V1, D0, D1, P0, P1, hcs, _, hl, hm, hmm, _, hi⟩
  · simp only [List.cons.injEq, and_true] at hcs
    subst hcs
    exact ⟨[], none, 0, rfl, ⟨by simp, by omega⟩, .inl rfl⟩
  · simp only [List.cons.injEq, and_true] at hcs
    subst hcs
    unfold maxLen at hm
    rw [hs] at hmm
    simp only [if_true] at hmm
    subst hmm
    have hint : ∀ i, i < len0 → ∃ q : Int × Int, w.cell? (x.add (i * 2)) = some (.int .i64 q.1) ∧ w.cell? (x.add (i * 2 + 1)) = some (.int .i64 q.2) := by
      intro i hlt
      obtain ⟨h0, h1, h2, h3⟩ := hi i (by omega)
      obtain ⟨a, ea, _, _⟩ := DataW.trod_int (k := .i64) Try.underlying3 h2
      obtain ⟨b, eb, _, _⟩ := DataW.trod_int (k := .i64) Try.underlying3 h3
      simp only [List.cons.injEq, and_true] at ea eb
      exact ⟨(a, b), by rw [h0, ea], by rw [h1, eb]⟩
    let f : Nat → Int × Int := fun i => if hlt : i < len0 then (hint i hlt).choose else (0, 0)
    have hf2 : ∀ i, i < len0 → w.cell? (x.add (i * 2)) = some (.int .i64 (f i).1) ∧ w.cell? (x.add (i * 2 + 1)) = some (.int .i64 (f i).2) := by
      intro i hlt
      have := (hint i hlt).choose_spec
      simp only [f, dif_pos hlt]
      exact this
    have hlen : ((List.range len0).map f).length = len0 := by simp
    refine ⟨(List.range len0).map f, some x, m, by rw [hlen], by rw [hlen]; omega, ?_⟩
    rw [hlen]
    by_cases h0 : len0 = 0
    · exact .inl h0
    · right
      obtain ⟨b, off, spot⟩ := x
      have hspot : spot = none := by simpa [Addr.add] using World.cell?_spot (hf2 0 (by omega)).1
      subst hspot
      have hb := World.block_lt_of_cell? w _ (hf2 0 (by omega)).1
      refine ⟨b, off, rfl, by simpa [Addr.add] using hb, fun j hj => ?_⟩
      obtain ⟨g0, g1⟩ := hf2 j hj
      rw [Go.WideShapes.add_plain] at g0 g1
      unfold gX gR
      rw [List.getD_eq_getElem?_getD, List.getElem?_map, List.getElem?_range hj]
      exact ⟨g0, by rw [Nat.add_assoc]; exact g1⟩
set_option maxRecDepth 100000 in
theorem open_pts {H : Type} {enc : TypeId × Value → H} {w : World} {r : Reach} {b0 : Nat} {v : Value} {d : DataW H} {p : List MemPlace}
    (hv : Value.okWide Try.prog w r b0 22 v) (h : DataW.Trod enc Try.prog w 0 (fun _ => true) true 22 v d p) :
    ∃ l : List (Int × Int), Pts w v l := by
  obtain ⟨a0, len0, cap0, rfl⟩ := okWide_slice Try.underlying22 hv
  obtain ⟨fuel, hf⟩ := h
  exact open_pts_at (fun _ => rfl) hf
end Go.Proofs.Ytooofppgjknigaa

/- Package audit and its reference: Least. -/
namespace Go.Proofs.Ytooofppgjknigaa
open Go.RowKit

def mxR (l : List (Int × Int)) (j : Nat) : Nat → Int
  | 0 => 0
  | k + 1 => if j < k then max (mxR l j k) (ex l j k) else mxR l j k
def mxA (l : List (Int × Int)) (n : Nat) : Nat → Int
  | 0 => 0
  | j + 1 => max (mxA l n j) (mxR l j n)
theorem mxR_start (l : List (Int × Int)) (j : Nat) : ∀ k, k ≤ j + 1 → mxR l j k = 0
  | 0, _ => rfl
  | k + 1, h => by
    unfold mxR
    rw [if_neg (by omega), mxR_start l j k (by omega)]
theorem mxR_pos (l : List (Int × Int)) (j : Nat) : ∀ k, 0 ≤ mxR l j k
  | 0 => Int.le_refl _
  | k + 1 => by
    have := mxR_pos l j k
    unfold mxR; split <;> omega
theorem mxA_pos (l : List (Int × Int)) (n : Nat) : ∀ j, 0 ≤ mxA l n j
  | 0 => Int.le_refl _
  | j + 1 => by
    have := mxA_pos l n j
    unfold mxA; omega
theorem mxR_le {l : List (Int × Int)} {j : Nat} {M : Int} (hM : 0 ≤ M) : ∀ {k : Nat}, mxR l j k ≤ M ↔ ∀ i, i < k → j < i → ex l j i ≤ M
  | 0 => by simp [mxR, hM]
  | k + 1 => by
    have ih := @mxR_le l j M hM k
    unfold mxR
    constructor
    · intro h i hi hj
      by_cases e : i = k
      · subst e; rw [if_pos hj] at h; omega
      · refine ih.1 ?_ i (by omega) hj
        split at h <;> omega
    · intro h
      have h1 := ih.2 (fun i hi => h i (by omega))
      split
      · rename_i g
        have := h k (by omega) g; omega
      · exact h1
theorem mxA_le {l : List (Int × Int)} {n : Nat} {M : Int} (hM : 0 ≤ M) : ∀ {m : Nat}, mxA l n m ≤ M ↔ ∀ j i, j < m → i < n → j < i → ex l j i ≤ M
  | 0 => by simp [mxA, hM]
  | m + 1 => by
    have ih := @mxA_le l n M hM m
    have hr := @mxR_le l m M hM n
    unfold mxA
    constructor
    · intro h j i hj hi hji
      by_cases e : j = m
      · subst e; exact hr.1 (by omega) i hi hji
      · exact ih.1 (by omega) j i (by omega) hi hji
    · intro h
      have h1 := ih.2 (fun j i hj => h j i (by omega))
      have h2 := hr.2 (fun i hi hji => h m i (by omega) hi hji)
      omega
theorem mxA_is {l : List (Int × Int)} {n m : Nat} {M : Int} (hM : 0 ≤ M) (h : ∀ j i, j < m → i < n → j < i → ex l j i ≤ M) (h2 : M = 0 ∨ ∃ j i, j < m ∧ i < n ∧ j < i ∧ M ≤ ex l j i) : mxA l n m = M := by
  have h1 := (mxA_le hM).2 h
  have h3 := mxA_pos l n m
  rcases h2 with h2 | ⟨j, i, a, b, c, d⟩
  · omega
  · have := (mxA_le h3).1 (Int.le_refl _) j i a b c
    omega
/-- what Least returns -/
def leV (l : List (Int × Int)) : Int := if auE l = 0 then mxA l l.length l.length else 0
def leE (l : List (Int × Int)) : Int := if auE l = 0 then 0 else 1
def fdC (l : List (Int × Int)) (C : List (Int × Int)) : Nat → Int
  | 0 => 0
  | m + 1 => max (fdC l C m) (ex l (gX C m).toNat (gR C m).toNat)
theorem fdC_pos (l C : List (Int × Int)) : ∀ m, 0 ≤ fdC l C m
  | 0 => Int.le_refl _
  | m + 1 => by have := fdC_pos l C m; unfold fdC; omega
theorem fdC_le {l C : List (Int × Int)} {M : Int} (hM : 0 ≤ M) : ∀ {m : Nat}, fdC l C m ≤ M ↔ ∀ i, i < m → ex l (gX C i).toNat (gR C i).toNat ≤ M
  | 0 => by simp [fdC, hM]
  | m + 1 => by
    have ih := @fdC_le l C M hM m
    unfold fdC
    constructor
    · intro h i hi
      by_cases e : i = m
      · subst e; omega
      · exact ih.1 (by omega) i (by omega)
    · intro h
      have h1 := ih.2 (fun i hi => h i (by omega))
      have := h m (by omega); omega
theorem gx_mem {C : List (Int × Int)} {i : Nat} (hi : i < C.length) : (gX C i, gR C i) ∈ C := by
  have : (gX C i, gR C i) = C[i] := by simp [gX, gR, List.getD_eq_getElem?_getD, List.getElem?_eq_getElem hi]
  rw [this]; exact List.getElem_mem hi
theorem mem_gx {C : List (Int × Int)} {c : Int × Int} (h : c ∈ C) : ∃ i, i < C.length ∧ gX C i = c.1 ∧ gR C i = c.2 := by
  obtain ⟨i, hi, e⟩ := List.getElem_of_mem h
  exact ⟨i, hi, by simp [gX, List.getD_eq_getElem?_getD, List.getElem?_eq_getElem hi, e], by simp [gR, List.getD_eq_getElem?_getD, List.getElem?_eq_getElem hi, e]⟩
/-- a clash of the list: its two rows -/
theorem clA_at {l : List (Int × Int)} {t : Int} {n m i : Nat} (hi : i < (clA l t n m).length) : ∃ j k, j < m ∧ k < n ∧ j < k ∧ t < ex l j k ∧ gX (clA l t n m) i = (j : Int) ∧ gR (clA l t n m) i = (k : Int) := by
  obtain ⟨j, k, h1, h2, h3, h4, h5⟩ := clA_mem.1 (gx_mem hi)
  simp only [Prod.mk.injEq] at h5
  exact ⟨j, k, h1, h2, h3, h4, h5.1, h5.2⟩
theorem fdC_clA (l : List (Int × Int)) (n : Nat) : fdC l (clA l 0 n n) (clA l 0 n n).length = mxA l n n := by
  have p := fdC_pos l (clA l 0 n n) (clA l 0 n n).length
  symm
  have hle := (fdC_le p).1 (Int.le_refl _)
  have hA := mxA_pos l n n
  have h1 : ∀ j i, j < n → i < n → j < i → ex l j i ≤ fdC l (clA l 0 n n) (clA l 0 n n).length := by
    intro j i a b c
    by_cases g : 0 < ex l j i
    · obtain ⟨m, hm, e1, e2⟩ := mem_gx (clA_mem.2 ⟨j, i, a, b, c, g, rfl⟩ : ((j : Int), (i : Int)) ∈ clA l 0 n n)
      have := hle m hm
      rw [e1, e2] at this
      simpa using this
    · omega
  have h2 := (mxA_le p).2 h1
  have h3 : fdC l (clA l 0 n n) (clA l 0 n n).length ≤ mxA l n n := by
    refine (fdC_le hA).2 fun i hi => ?_
    obtain ⟨j, k, a, b, c, d, e1, e2⟩ := clA_at hi
    rw [e1, e2]
    have := (mxA_le hA).1 (Int.le_refl _) j k a b c
    simpa using this
  omega
set_option maxHeartbeats 8000000 in
theorem auLe_bad (v : Value) (E : Int) (w : World) (he : (E == 0) = false)
    (H : Hid (Calls Try.prog 44 #[v] w fun e w' => e = .returned (.bool (E == 0)) ∧ Below w.heap.size w w')) :
    Calls Try.prog 16 #[v] w fun e w' => e = .returned (.tuple #[.int .i64 0, .int .i64 1]) ∧ Below w.heap.size w w' := by
  rw [he] at H
  go_enter Try.func16, Try.ntmps16
  go_wp2_with fail
  refine H.out.mono ?_
  rintro e w1 ⟨rfl, gg⟩
  have X := Lib.hid gg; clear gg
  go_wp2
  go_returns
  exact ⟨rfl, X.out⟩
set_option maxHeartbeats 16000000 in
set_option maxRecDepth 100000 in
theorem auLe_ok (b off n cap : Nat) (l C : List (Int × Int)) (N : Nat) (F : Nat → Int) (w : World) (n1 : n ≤ 128) (hb : b < w.heap.size) (hN : Hid (C.length = N)) (hN2 : N ≤ 20000)
    (hc : Hid (∀ j, j < n → w.cell? ⟨b, off + j * 2, none⟩ = some (.int .i64 (gX l j)) ∧ w.cell? ⟨b, off + j * 2 + 1, none⟩ = some (.int .i64 (gR l j))))
    (hd : Hid (∀ j, j < n → 50000 ≤ gR l j ∧ gR l j ≤ 120000)) (f0 : F 0 = 0)
    (hF : Hid (∀ i, i < N → ∃ j k : Nat, j < n ∧ k < n ∧ gX C i = (j : Int) ∧ gR C i = (k : Int) ∧ F (i + 1) = max (F i) (ex l j k)))
    (H : Hid (Calls Try.prog 44 #[.slice (some ⟨b, off, none⟩) n cap] w fun e w' => e = .returned (.bool true) ∧ Below w.heap.size w w'))
    (HC : Hid (∀ W, Below w.heap.size w W → Calls Try.prog 45 #[.slice (some ⟨b, off, none⟩) n cap, .int .i64 0] W fun e w' => ∃ u, e = .returned u ∧ Pts w' u C ∧ Below W.heap.size W w')) :
    Calls Try.prog 16 #[.slice (some ⟨b, off, none⟩) n cap] w fun e w' => e = .returned (.tuple #[.int .i64 (F N), .int .i64 0]) ∧ Below w.heap.size w w' := by
  go_enter Try.func16, Try.ntmps16
  go_wp2_with fail
  refine H.out.mono ?_
  rintro e w1 ⟨rfl, gg⟩
  have X := Lib.hid gg; clear gg
  go_wp2_with fail
  refine (HC.out _ X.out).mono ?_
  rintro e w2 ⟨u, rfl, hp, gg⟩
  have X2 := Lib.hid (bel_trans X.out gg); clear gg
  obtain ⟨a, cp, ev, _, _⟩ := hp.shape
  have P := Lib.hid hp; clear hp
  rw [hN.out] at ev
  subst ev
  go_wp2_with fail
  go_loopw [4, 13] (fun acc ii wr => ∃ m : Nat, m ≤ N ∧ ii = .int .i64 m ∧ acc = .int .i64 (F m) ∧ Hid (Below w2.heap.size w2 wr)) (fun _ ii _ => N - (intOf ii).toNat)
  case atStart => exact ⟨0, Nat.zero_le _, rfl, by rw [f0], Below.refl _ _⟩
  case round =>
    obtain ⟨m, hm, rfl, rfl, hB⟩ := hrel
    by_cases hlt : m < N
    · obtain ⟨bc, oc, rfl, hbc, hcc⟩ := P.out.at (by omega)
      obtain ⟨j, k, hj, hk, e1, e2, e3⟩ := hF.out m hlt
      obtain ⟨p0, p1⟩ := hcc m hlt
      rw [e1] at p0
      rw [e2] at p1
      have XB := Lib.hid (bel_trans X2.out hB.out)
      have bb : b < wr.heap.size := Nat.lt_of_lt_of_le hb XB.out.size
      replace p0 := cell_bel p0 hB.out
      replace p1 := cell_bel p1 hB.out
      have c0 := cell_bel (hc.out j hj).1 XB.out
      have c1 := cell_bel (hc.out j hj).2 XB.out
      have c2 := cell_bel (hc.out k hk).1 XB.out
      have c3 := cell_bel (hc.out k hk).2 XB.out
      have HE := Lib.hid (fun W => exc_any (gX l j) (gR l j) (gX l k) (gR l k) W (hd.out j hj) (hd.out k hk))
      have l0 : (j : Int) < (n : Int) := by omega
      have l1 : (k : Int) < (n : Int) := by omega
      have l2 : (m : Int) < (N : Int) := by omega
      have hex : Hid (ex l j k = exd (gX l j) (gR l j) (gX l k) (gR l k)) := Lib.hid rfl
      generalize ex l j k = E at *
      generalize exd (gX l j) (gR l j) (gX l k) (gR l k) = E2 at *
      obtain rfl := hex.out
      generalize gX l j = x at *
      generalize gR l j = r at *
      generalize gX l k = y at *
      generalize gR l k = s at *
      have A0 := Lib.hid (bel_alloc (w := wr) (o := .cells #[.int .i64 j, .int .i64 k] 33) (Below.refl _ _))
      have T := Lib.hid (Two.new wr (.int .i64 j) (.int .i64 k) 33)
      have c0 := cell_bel c0 A0.out
      have c1 := cell_bel c1 A0.out
      have c2 := cell_bel c2 A0.out
      have c3 := cell_bel c3 A0.out
      obtain ⟨t0, t1, _, _, _⟩ := T.out
      have XD := Lib.hid (bel_drew (wr.alloc (.cells #[.int .i64 j, .int .i64 k] 33)))
      have XW := Lib.hid (bel_trans hB.out A0.out)
      replace e3 := Lib.hid e3
      generalize F m = F0 at *
      clear e1 e2 hcc T
      go_wp2_with fail
      generalize wr.alloc (.cells #[.int .i64 j, .int .i64 k] 33) = W0 at *
      go_region_held3 (fun w' => w'.cell? ⟨b, off + j * 2, none⟩ = some (.int .i64 x) ∧ w'.cell? ⟨b, off + j * 2 + 1, none⟩ = some (.int .i64 r) ∧ w'.cell? ⟨b, off + k * 2, none⟩ = some (.int .i64 y) ∧ w'.cell? ⟨b, off + k * 2 + 1, none⟩ = some (.int .i64 s) ∧ w'.cell? ⟨wr.heap.size, 0, none⟩ = some (.int .i64 j) ∧ w'.cell? ⟨wr.heap.size, 1, none⟩ = some (.int .i64 k)) (go_keep) (first
        | (go_at_call 48; refine (HE.out _).mono ?_; rintro e w3 ⟨rfl, gg⟩; have X3 := Lib.hid (bel_trans XD.out gg); have c0 := cell_bel c0 X3.out; have c1 := cell_bel c1 X3.out; have c2 := cell_bel c2 X3.out; have c3 := cell_bel c3 X3.out; have t0 := cell_bel t0 X3.out; have t1 := cell_bel t1 X3.out; clear gg))
      have X4 := Lib.hid (bel_trans XW.out X3.out)
      clear c0 c1 c2 c3 t0 t1
      go_wp2
      go_roundw
      case rel => exact ⟨m + 1, by omega, by go_num, by rw [e3.out], X4⟩
      case measure => simp [intOf]; omega
    · obtain rfl : m = N := by omega
      have X4 := Lib.hid (bel_trans X2.out hB.out)
      go_wp2
      go_returns
      exact ⟨rfl, X4.out⟩
theorem auLe_any (v : Value) (l : List (Int × Int)) (w : World) (hv : Pts w v l) :
    Calls Try.prog 16 #[v] w fun e w' => e = .returned (.tuple #[.int .i64 (leV l), .int .i64 (leE l)]) ∧ Below w.heap.size w w' := by
  have HR := auRt_any v l w hv
  unfold leV leE
  by_cases h : auE l = 0
  · rw [if_pos h, if_pos h]
    have hA := auE_zero.1 h
    have n0 := hA.n0
    have n1 := hA.n1
    rw [show (auE l == 0) = true by simpa using h] at HR
    have hv2 := hv
    obtain ⟨a, cap, rfl, hl, hh⟩ := hv
    rcases hh with hh | ⟨b, off, rfl, hb, hc⟩
    · omega
    · rw [← fdC_clA]
      have ln := clA_len l 0 l.length l.length
      have lm : l.length * l.length ≤ 128 * 128 := Nat.mul_le_mul n1 n1
      refine auLe_ok b off l.length cap l (clA l 0 l.length l.length) _ (fdC l (clA l 0 l.length l.length)) w n1 hb (Lib.hid rfl) (by omega) hc (Lib.hid fun j hj => ⟨(hA.b j hj).2.2.1, (hA.b j hj).2.2.2⟩) rfl (Lib.hid fun i hi => ?_) HR (Lib.hid fun W hW => auCls_any _ l 0 W (hv2.below hW) hA)
      obtain ⟨j, k, a, b, _, _, e1, e2⟩ := clA_at hi
      refine ⟨j, k, a, b, e1, e2, ?_⟩
      show max _ _ = _
      rw [e1, e2]; simp
  · rw [if_neg h, if_neg h]
    exact auLe_bad v (auE l) w (by simpa using h) HR
/-! ### the reference -/
set_option maxHeartbeats 8000000 in
theorem raLe_bad (v : Value) (E : Int) (w : World) (he : (E == 0) = false)
    (H : Hid (Calls Try.prog 46 #[v] w fun e w' => e = .returned (.bool (E == 0)) ∧ Below w.heap.size w w')) :
    Calls Try.prog 17 #[v] w fun e w' => e = .returned (.tuple #[.int .i64 0, .int .i64 1]) ∧ Below w.heap.size w w' := by
  rw [he] at H
  go_enter Try.func17, Try.ntmps17
  go_wp2_with fail
  refine H.out.mono ?_
  rintro e w1 ⟨rfl, gg⟩
  have X := Lib.hid gg; clear gg
  go_wp2
  go_returns
  exact ⟨rfl, X.out⟩
set_option maxHeartbeats 16000000 in
set_option maxRecDepth 100000 in
theorem raLe_ok (b off n cap : Nat) (l : List (Int × Int)) (w : World) (n1 : n ≤ 128) (hb : b < w.heap.size)
    (hc : Hid (∀ j, j < n → w.cell? ⟨b, off + j * 2, none⟩ = some (.int .i64 (gX l j)) ∧ w.cell? ⟨b, off + j * 2 + 1, none⟩ = some (.int .i64 (gR l j))))
    (hd : Hid (∀ j, j < n → 50000 ≤ gR l j ∧ gR l j ≤ 120000))
    (H : Hid (Calls Try.prog 46 #[.slice (some ⟨b, off, none⟩) n cap] w fun e w' => e = .returned (.bool true) ∧ Below w.heap.size w w')) :
    Calls Try.prog 17 #[.slice (some ⟨b, off, none⟩) n cap] w fun e w' => e = .returned (.tuple #[.int .i64 (mxA l n n), .int .i64 0]) ∧ Below w.heap.size w w' := by
  go_enter Try.func17, Try.ntmps17
  go_wp2_with fail
  refine H.out.mono ?_
  rintro e w1 ⟨rfl, gg⟩
  have X := Lib.hid gg; clear gg
  go_wp2_with fail
  go_loopw [4, 5] (fun acc ii wr => ∃ j : Nat, j ≤ n ∧ ii = .int .i64 j ∧ acc = .int .i64 (mxA l n j) ∧ Hid (Below w.heap.size w wr)) (fun _ ii _ => n - (intOf ii).toNat)
  case atStart => exact ⟨0, Nat.zero_le _, rfl, rfl, X⟩
  case round =>
    obtain ⟨j, hj, rfl, rfl, hB⟩ := hrel
    by_cases hlt : j < n
    · have wj : IntKind.i64.wrap ((j : Int) + 1) = (j : Int) + 1 := wrap_in _ ⟨by omega, by omega⟩
      have l0 : (j : Int) < (n : Int) := by omega
      have s1 : max (mxA l n j) (mxR l j (j + 1)) = mxA l n j := by
        have := mxA_pos l n j
        rw [mxR_start l j _ (Nat.le_refl _)]; omega
      replace s1 := Lib.hid s1
      go_wp2_with fail
      go_loopw [4, 6] (fun acc kk wr => ∃ k : Nat, j + 1 ≤ k ∧ k ≤ n ∧ kk = .int .i64 (k : Int) ∧ acc = .int .i64 (max (mxA l n j) (mxR l j k)) ∧ Hid (Below w.heap.size w wr)) (fun _ kk _ => n - (intOf kk).toNat)
      case atStart => exact ⟨j + 1, Nat.le_refl _, by omega, by go_num, by rw [s1.out], hB⟩
      case round =>
        clear hB
        obtain ⟨k, hk0, hk, rfl, rfl, hB⟩ := hrel
        by_cases hlt2 : k < n
        · have c0 := cell_bel (hc.out j hlt).1 hB.out
          have c1 := cell_bel (hc.out j hlt).2 hB.out
          have c2 := cell_bel (hc.out k hlt2).1 hB.out
          have c3 := cell_bel (hc.out k hlt2).2 hB.out
          have HE := Lib.hid (fun W => rcl_any (gX l j) (gR l j) (gX l k) (gR l k) W (hd.out j hlt) (hd.out k hlt2))
          have l1 : (k : Int) < (n : Int) := by omega
          have hm : max (mxA l n j) (mxR l j (k + 1)) = max (max (mxA l n j) (mxR l j k)) (ex l j k) := by
            rw [mxR, if_pos (by omega)]; omega
          replace hm := Lib.hid hm
          have hex : Hid (ex l j k = exd (gX l j) (gR l j) (gX l k) (gR l k)) := Lib.hid rfl
          have XD := Lib.hid (bel_drew wr)
          generalize ex l j k = E at *
          generalize exd (gX l j) (gR l j) (gX l k) (gR l k) = E2 at *
          obtain rfl := hex.out
          generalize max (mxA l n j) (mxR l j k) = F0 at *
          generalize gX l j = x at *
          generalize gR l j = r at *
          generalize gX l k = y at *
          generalize gR l k = s at *
          go_wp2_with fail
          go_region_held3 (fun w' => w'.cell? ⟨b, off + j * 2, none⟩ = some (.int .i64 x) ∧ w'.cell? ⟨b, off + j * 2 + 1, none⟩ = some (.int .i64 r) ∧ w'.cell? ⟨b, off + k * 2, none⟩ = some (.int .i64 y) ∧ w'.cell? ⟨b, off + k * 2 + 1, none⟩ = some (.int .i64 s)) (go_keep) (first
            | (go_at_call 47; refine (HE.out _).mono ?_; rintro e w3 ⟨rfl, gg⟩; have X3 := Lib.hid (bel_trans XD.out gg); have c0 := cell_bel c0 X3.out; have c1 := cell_bel c1 X3.out; have c2 := cell_bel c2 X3.out; have c3 := cell_bel c3 X3.out; clear gg))
          have X4 := Lib.hid (bel_trans hB.out X3.out)
          clear c0 c1 c2 c3
          go_wp2
          go_roundw
          case rel => exact ⟨k + 1, by omega, by omega, by go_num, by rw [hm.out], X4⟩
          case measure => simp [intOf]; omega
        · obtain rfl : k = n := by omega
          go_wp2
          go_roundw
          case rel => exact ⟨j + 1, by omega, by go_num, rfl, hB⟩
          case measure => simp [intOf]; omega
    · obtain rfl : j = n := by omega
      go_wp2
      go_returns
      exact ⟨rfl, hB.out⟩
theorem raLe_any (v : Value) (l : List (Int × Int)) (w : World) (hv : Pts w v l) :
    Calls Try.prog 17 #[v] w fun e w' => e = .returned (.tuple #[.int .i64 (leV l), .int .i64 (leE l)]) ∧ Below w.heap.size w w' := by
  have HR := raRt_any v l w hv
  unfold leV leE
  by_cases h : auE l = 0
  · rw [if_pos h, if_pos h]
    have hA := auE_zero.1 h
    have n0 := hA.n0
    rw [show (auE l == 0) = true by simpa using h] at HR
    obtain ⟨a, cap, rfl, hl, hh⟩ := hv
    rcases hh with hh | ⟨b, off, rfl, hb, hc⟩
    · omega
    · exact raLe_ok b off l.length cap l w hA.n1 hb hc (Lib.hid fun j hj => ⟨(hA.b j hj).2.2.1, (hA.b j hj).2.2.2⟩) HR
  · rw [if_neg h, if_neg h]
    exact raLe_bad v (auE l) w (by simpa using h) HR
end Go.Proofs.Ytooofppgjknigaa

/- A slice that reads as a list of integers. -/
namespace Go.Proofs.Ytooofppgjknigaa
open Go.RowKit

def Nums (w : World) (v : Value) (zs : List Int) : Prop :=
  ∃ a cap, v = .slice a zs.length cap ∧ (zs.length ≤ cap ∧ cap ≤ 9223372036854775807) ∧
    (zs.length = 0 ∨ ∃ b off, a = some ⟨b, off, none⟩ ∧ b < w.heap.size ∧ ∀ j, j < zs.length → w.cell? ⟨b, off + j, none⟩ = some (.int .i64 (zs.getD j 0)))
theorem Nums.below {w w' : World} {v : Value} {zs : List Int} (h : Nums w v zs) (hb : Below w.heap.size w w') : Nums w' v zs := by
  obtain ⟨a, cap, rfl, hl, h | ⟨b, off, rfl, hlt, hc⟩⟩ := h
  · exact ⟨a, cap, rfl, hl, .inl h⟩
  · exact ⟨_, cap, rfl, hl, .inr ⟨b, off, rfl, Nat.lt_of_lt_of_le hlt hb.size, fun j hj => by rw [(bcell hb).1 _ _ hlt]; exact hc j hj⟩⟩
theorem sum_next (zs : List Int) (k : Nat) (hk : k < zs.length) : (zs.take (k + 1)).sum = (zs.take k).sum + zs.getD k 0 := by
  rw [List.take_succ_eq_append_getElem hk, List.sum_append, List.getD_eq_getElem?_getD, List.getElem?_eq_getElem hk]
  simp
theorem all_next (p : Int → Bool) (zs : List Int) (k : Nat) (hk : k < zs.length) : (zs.take (k + 1)).all p = ((zs.take k).all p && p (zs.getD k 0)) := by
  rw [List.take_succ_eq_append_getElem hk, List.all_append, List.getD_eq_getElem?_getD, List.getElem?_eq_getElem hk]
  simp
theorem all_not (p : Int → Bool) (zs : List Int) (k : Nat) (hk : k < zs.length) (h : p (zs.getD k 0) = false) : zs.all p = false := by
  rw [Bool.eq_false_iff]
  intro ha
  rw [List.all_eq_true] at ha
  rw [List.getD_eq_getElem?_getD, List.getElem?_eq_getElem hk, Option.getD_some] at h
  rw [ha _ (List.getElem_mem hk)] at h
  cases h
end Go.Proofs.Ytooofppgjknigaa

/- A block of 128 integers. -/
namespace Go.Proofs.Ytooofppgjknigaa
open Go.RowKit

namespace QTQ
theorem set_size (b : Nat) : ∀ (vs : List Value) (o : Nat) (w : World), (w.setCells b o vs).heap.size = w.heap.size
  | [], _, _ => rfl
  | v :: r, o, w => by rw [World.setCells, set_size b r]; simp [World.setCell]
theorem set_frozen (b : Nat) (a : Addr) : ∀ (vs : List Value) (o : Nat) (w : World), (w.setCells b o vs).frozen? a = w.frozen? a
  | [], _, _ => rfl
  | v :: r, o, w => by rw [World.setCells, set_frozen b a r, World.frozen?_setCell]
theorem below_cells {B g : Nat} (hg : B ≤ g) : ∀ (vs : List Value) (o : Nat) (w : World), Below B w (w.setCells g o vs)
  | [], _, _ => Below.refl _ _
  | v :: r, o, w => ((Below.refl B w).setCell (p := ⟨g, o, none⟩) hg v).trans (below_cells hg r (o + 1) _)
theorem nlen {W : World} {a : Option Addr} {n cap : Nat} {zs : List Int} (h : Nums W (.slice a n cap) zs) : n = zs.length := by
  obtain ⟨a', c', e, _⟩ := h
  simp only [Value.slice.injEq] at e
  exact e.2.1
theorem nums_at {W : World} {a : Option Addr} {n cap : Nat} {zs : List Int} (h : Nums W (.slice a n cap) zs) (h0 : 0 < n) :
    ∃ b off, a = some ⟨b, off, none⟩ ∧ b < W.heap.size ∧ ∀ j, j < n → W.cell? ⟨b, off + j, none⟩ = some (.int .i64 (zs.getD j 0)) := by
  have hl := nlen h
  obtain ⟨a', c', e, _, hh⟩ := h
  simp only [Value.slice.injEq] at e
  obtain ⟨rfl, rfl, rfl⟩ := e
  rcases hh with hh | hh
  · omega
  · exact hh
end QTQ

/-- the values of an array -/
def aL (N : Nat) (f : Nat → Int) : List Value := (List.range N).map fun j => .int .i64 (f j)
theorem aL_len (N : Nat) (f : Nat → Int) : (aL N f).length = N := by simp [aL]
theorem aL_at {N : Nat} (f : Nat → Int) {j : Nat} (h : j < N) : (aL N f)[j]? = some (.int .i64 (f j)) := by simp [aL, h]
theorem aL_inv {N : Nat} {f : Nat → Int} {j : Nat} {v : Value} (h : (aL N f)[j]? = some v) : j < N ∧ v = .int .i64 (f j) := by
  have hj : j < (aL N f).length := (List.getElem?_eq_some_iff.1 h).1
  rw [aL_len] at hj
  rw [aL_at f hj] at h
  exact ⟨hj, (Option.some.inj h).symm⟩
theorem aL_one (N : Nat) (f : Nat → Int) : ∀ u ∈ aL N f, u.oneCell' = true := by
  intro u hu
  simp only [aL, List.mem_map] at hu
  obtain ⟨j, _, rfl⟩ := hu; rfl
def ArrB (N : Nat) (b : Nat) (W : World) (f : Nat → Int) : Prop := (∀ j, j < N → W.cell? ⟨b, j, none⟩ = some (.int .i64 (f j)) ∧ W.frozen? ⟨b, j, none⟩ = false) ∧ b < W.heap.size
theorem ArrB.below {N b : Nat} {W W' : World} {f : Nat → Int} (h : ArrB N b W f) (hb : Below W.heap.size W W') : ArrB N b W' f :=
  ⟨fun j hj => ⟨by rw [(bcell hb).1 _ _ h.2]; exact (h.1 j hj).1, by rw [(bcell hb).2 _ _ h.2]; exact (h.1 j hj).2⟩, Nat.lt_of_lt_of_le h.2 hb.size⟩
theorem ArrB.new (N : Nat) (W : World) (f : Nat → Int) (T : TypeId) : ArrB N W.heap.size (W.alloc (.cells (aL N f).toArray T)) f := by
  refine ⟨fun j hj => ⟨?_, ?_⟩, by simp⟩
  · rw [World.cell?_alloc_new]
    simpa using aL_at f hj
  · simp [go_sem]
theorem ArrB.set {N b : Nat} {W : World} {f : Nat → Int} (h : ArrB N b W f) (i : Nat) (x : Int) (g : Nat → Int) (hg : ∀ j, j < N → g j = if j = i then x else f j) : ArrB N b (W.setCell ⟨b, i, none⟩ (.int .i64 x)) g := by
  refine ⟨fun j hj => ⟨?_, ?_⟩, by simpa [World.setCell] using h.2⟩
  · by_cases e : j = i
    · subst e
      rw [hg j hj, if_pos rfl]
      exact World.cell?_setCell_same _ _ _ (h.1 j hj).1
    · rw [World.cell?_setCell_other _ _ _ _ (by intro e2; first | (simp at e2; done) | (simp at e2; exact e e2)), hg j hj, if_neg e]
      exact (h.1 j hj).1
  · rw [World.frozen?_setCell]; exact (h.1 j hj).2
theorem ArrB.other {N b : Nat} {W : World} {f : Nat → Int} (h : ArrB N b W f) (p : Addr) (hp : p.block ≠ b) (z : Value) : ArrB N b (W.setCell p z) f := by
  refine ⟨fun j hj => ⟨?_, ?_⟩, by simpa [World.setCell] using h.2⟩
  · rw [World.cell?_setCell_other _ _ _ _ (by intro e; apply hp; rw [e])]; exact (h.1 j hj).1
  · rw [World.frozen?_setCell]; exact (h.1 j hj).2
theorem ArrB.load {N b : Nat} {W : World} {f : Nat → Int} (h : ArrB N b W f) : Sem.run Try.prog (loadCellsFrom ⟨b, 0, none⟩ 0 N #[]) W = .ok (aL N f).toArray W :=
  run_loadCellsFrom_list Try.prog W ⟨b, 0, none⟩ (aL N f) N (aL_len N f) fun j v hv => by
    obtain ⟨hj, rfl⟩ := aL_inv hv
    rw [Go.WideShapes.add_plain, Nat.zero_add]
    exact (h.1 j hj).1
theorem ArrB.store {N b : Nat} {W : World} {f : Nat → Int} (h : ArrB N b W f) (g : Nat → Int) : Sem.run Try.prog (storeCells ⟨b, 0, none⟩ (aL N g) 0) W = .ok () (W.setCells b 0 (aL N g)) := by
  have := run_storeCells_cells (P := Try.prog) b 0 (aL N g) 0 W (fun j hj => by rw [aL_len] at hj; simp only [Nat.zero_add]; rw [(h.1 j hj).1]; rfl) (fun j hj => by rw [aL_len] at hj; simp only [Nat.zero_add]; exact (h.1 j hj).2) (aL_one N g)
  simpa using this
theorem ArrB.put {N b : Nat} {W : World} {f : Nat → Int} (h : ArrB N b W f) (g : Nat → Int) : ArrB N b (W.setCells b 0 (aL N g)) g := by
  refine ⟨fun j hj => ⟨?_, ?_⟩, ?_⟩
  · have := World.cell?_setCells_in b (aL N g) 0 W (fun k hk => by rw [aL_len] at hk; simp only [Nat.zero_add]; rw [(h.1 k hk).1]; rfl) j (by rw [aL_len]; exact hj)
    rw [Nat.zero_add] at this
    rw [this]
    have := aL_at g hj
    rw [List.getElem?_eq_getElem (by rw [aL_len]; exact hj)] at this
    exact this
  · rw [World.frozen?_setCells]; exact (h.1 j hj).2
  · rw [QTQ.set_size]; exact h.2
theorem zero_arr : ∀ w, Sem.run Try.prog (zeroValue 65) w = .ok (.agg (aL 128 fun _ => 0).toArray) w := by
  intro w; rfl

/-! ### the lengths of choices -/
def mxf (l : List (Int × Int)) (g : Nat → Int) (i : Nat) : Nat → Int
  | 0 => 0
  | k + 1 => if i < k ∧ ex l i k ≤ 0 then max (mxf l g i k) (g k) else mxf l g i k
/-- the lengths when the last m rows are done -/
def lgT (l : List (Int × Int)) (n : Nat) : Nat → Nat → Int
  | 0 => fun _ => 0
  | m + 1 => fun j => if j = n - 1 - m then 1 + mxf l (lgT l n m) (n - 1 - m) n else lgT l n m j
def mxL (l : List (Int × Int)) (n : Nat) : Nat → Int
  | 0 => 0
  | m + 1 => max (mxL l n m) (1 + mxf l (lgT l n m) (n - 1 - m) n)
theorem mxf_start (l : List (Int × Int)) (g : Nat → Int) (i : Nat) : ∀ k, k ≤ i + 1 → mxf l g i k = 0
  | 0, _ => rfl
  | k + 1, h => by
    unfold mxf
    rw [if_neg (by omega), mxf_start l g i k (by omega)]
theorem lgT_zero (l : List (Int × Int)) (n : Nat) : ∀ m j, m ≤ n → j < n - m → lgT l n m j = 0
  | 0, _, _, _ => rfl
  | m + 1, j, hm, h => by
    show (if j = n - 1 - m then _ else _) = _
    rw [if_neg (by omega), lgT_zero l n m j (by omega) (by omega)]
theorem mxf_bd {l : List (Int × Int)} {g : Nat → Int} {M : Int} (hM : 0 ≤ M) (h : ∀ j, 0 ≤ g j ∧ g j ≤ M) (i : Nat) : ∀ k, 0 ≤ mxf l g i k ∧ mxf l g i k ≤ M
  | 0 => by simp [mxf, hM]
  | k + 1 => by
    have ih := mxf_bd (l := l) hM h i k
    have := h k
    unfold mxf; split <;> omega
theorem lgT_bd (l : List (Int × Int)) (n : Nat) : ∀ m j, 0 ≤ lgT l n m j ∧ lgT l n m j ≤ m
  | 0, _ => by simp [lgT]
  | m + 1, j => by
    have ih := lgT_bd l n m
    have h2 := mxf_bd (l := l) (g := lgT l n m) (M := m) (by omega) ih (n - 1 - m) n
    have h3 := ih j
    show 0 ≤ (if j = n - 1 - m then _ else _) ∧ (if j = n - 1 - m then _ else _) ≤ _
    split <;> omega
theorem mxL_bd (l : List (Int × Int)) (n : Nat) : ∀ m, 0 ≤ mxL l n m ∧ mxL l n m ≤ m
  | 0 => by simp [mxL]
  | m + 1 => by
    have ih := mxL_bd l n m
    have h2 := mxf_bd (l := l) (g := lgT l n m) (M := m) (by omega) (lgT_bd l n m) (n - 1 - m) n
    unfold mxL; omega
/-- the array while row i is being measured -/
def lgI (l : List (Int × Int)) (n m i k : Nat) : Nat → Int := fun j => if j = i then mxf l (lgT l n m) i k else lgT l n m j
end Go.Proofs.Ytooofppgjknigaa

/- Package audit: measure. -/
namespace Go.Proofs.Ytooofppgjknigaa
open Go.RowKit

/-- what the loops of measure keep -/
def MsI (w : World) (f : Nat → Int) (W : World) : Prop := ArrB 128 w.heap.size W (fun _ => 0) ∧ ArrB 128 (w.heap.size + 1) W f ∧ Below w.heap.size w W
theorem MsI.below {w W W' : World} {f : Nat → Int} (h : MsI w f W) (hb : Below W.heap.size W W') : MsI w f W' := ⟨h.1.below hb, h.2.1.below hb, bel_trans h.2.2 hb⟩
theorem MsI.set {w W : World} {f : Nat → Int} (h : MsI w f W) (i : Nat) (x : Int) (g : Nat → Int) (hg : ∀ j, j < 128 → g j = if j = i then x else f j) : MsI w g (W.setCell ⟨w.heap.size + 1, i, none⟩ (.int .i64 x)) :=
  ⟨h.1.other _ (by simp) _, h.2.1.set i x g hg, h.2.2.setCell (p := ⟨w.heap.size + 1, i, none⟩) (by simp) _⟩
theorem MsI.init (w : World) (T : TypeId) : MsI w (fun _ => 0) ((w.alloc (.cells (aL 128 fun _ => 0).toArray T)).alloc (.cells (aL 128 fun _ => 0).toArray T)) := by
  have h2 := ArrB.new 128 (w.alloc (.cells (aL 128 fun _ => 0).toArray T)) (fun _ => 0) T
  rw [World.size_alloc] at h2
  exact ⟨(ArrB.new 128 w (fun _ => 0) T).below (bel_alloc (Below.refl _ _)), h2, bel_alloc (bel_alloc (Below.refl _ _))⟩
set_option maxHeartbeats 32000000 in
set_option maxRecDepth 100000 in
theorem ms_some (b off n cap : Nat) (l : List (Int × Int)) (w : World) (n0 : 1 ≤ n) (n1 : n ≤ 128) (hb : b < w.heap.size)
    (hc : Hid (∀ j, j < n → w.cell? ⟨b, off + j * 2, none⟩ = some (.int .i64 (gX l j)) ∧ w.cell? ⟨b, off + j * 2 + 1, none⟩ = some (.int .i64 (gR l j))))
    (hd : Hid (∀ j, j < n → 50000 ≤ gR l j ∧ gR l j ≤ 120000)) :
    Calls Try.prog 49 #[.slice (some ⟨b, off, none⟩) n cap] w fun e w' => e = .returned (.tuple #[.agg (aL 128 (lgT l n n)).toArray, .int .i64 (mxL l n n)]) ∧ Below w.heap.size w w' := by
  have Z := zero_arr
  have S0 := Lib.hid (MsI.init w 65)
  generalize hZ : (aL 128 fun _ => 0).toArray = ZA at *
  replace hZ := Lib.hid hZ
  have wn : IntKind.i64.wrap ((n : Int) - 1) = (n : Int) - 1 := wrap_in _ ⟨by omega, by omega⟩
  go_enter Try.func49, Try.ntmps49
  go_wp2_with fail
  generalize (w.alloc (.cells ZA 65)).alloc (.cells ZA 65) = W0 at *
  go_loopw [5, 6] (fun mm ii wr => ∃ m : Nat, m ≤ n ∧ ii = .int .i64 ((n : Int) - 1 - m) ∧ mm = .int .i64 (mxL l n m) ∧ Hid (MsI w (lgT l n m) wr)) (fun _ ii _ => (intOf ii + 1).toNat)
  case atStart => exact ⟨0, Nat.zero_le _, by simp, rfl, S0⟩
  case round =>
    clear S0
    obtain ⟨m, hm, rfl, rfl, hS⟩ := hrel
    by_cases hlt : m < n
    · obtain ⟨i, hi⟩ : ∃ i : Nat, i = n - 1 - m := ⟨_, rfl⟩
      have ei : (n : Int) - 1 - m = (i : Int) := by omega
      rw [ei]
      have d0 : decide (0 ≤ (i : Int)) = true := decide_eq_true (by omega)
      have l0 : (i : Int) < (n : Int) := by omega
      have wi : IntKind.i64.wrap ((i : Int) + 1) = (i : Int) + 1 := wrap_in _ ⟨by omega, by omega⟩
      have S1 : Hid (MsI w (lgI l n m i (i + 1)) wr) := Lib.hid (by
        have e : lgI l n m i (i + 1) = lgT l n m := by
          funext j
          unfold lgI
          by_cases e : j = i
          · rw [if_pos e, mxf_start _ _ _ _ (Nat.le_refl _), lgT_zero l n m j (by omega) (by omega)]
          · rw [if_neg e]
        rw [e]; exact hS.out)
      have hin : i < n := by omega
      replace hi := Lib.hid hi
      replace ei := Lib.hid ei
      clear hS
      go_wp2_with fail
      go_loopw [7] (fun kk wr => ∃ k : Nat, i + 1 ≤ k ∧ k ≤ n ∧ kk = .int .i64 (k : Int) ∧ Hid (MsI w (lgI l n m i k) wr)) (fun kk _ => n - (intOf kk).toNat)
      case atStart => exact ⟨i + 1, Nat.le_refl _, by omega, by go_num, S1⟩
      case round =>
        clear S1
        obtain ⟨k, hk0, hk, rfl, hS⟩ := hrel
        by_cases hlt2 : k < n
        · have c0 := cell_bel (hc.out i hin).1 hS.out.2.2
          have c1 := cell_bel (hc.out i hin).2 hS.out.2.2
          have c2 := cell_bel (hc.out k hlt2).1 hS.out.2.2
          have c3 := cell_bel (hc.out k hlt2).2 hS.out.2.2
          have HM := Lib.hid (fun W => may_any (gX l i) (gR l i) (gX l k) (gR l k) W (hd.out i hin) (hd.out k hlt2))
          have l1 : (k : Int) < (n : Int) := by omega
          have l2 : (i : Int) < 128 := by omega
          have l3 : (k : Int) < 128 := by omega
          have l4 : i < 128 := by omega
          have l5 : k < 128 := by omega
          have XD := Lib.hid (bel_drew wr)
          have FA : Hid (lgI l n m i k i = mxf l (lgT l n m) i k ∧ lgI l n m i k k = lgT l n m k) := Lib.hid ⟨by unfold lgI; rw [if_pos rfl], by unfold lgI; rw [if_neg (by omega)]⟩
          by_cases g : ex l i k ≤ 0
          · have GN : Hid (∀ j, j < 128 → lgI l n m i (k + 1) j = if j = i then max (mxf l (lgT l n m) i k) (lgT l n m k) else lgI l n m i k j) := Lib.hid (fun j _ => by
              unfold lgI
              by_cases e : j = i
              · rw [if_pos e, if_pos e, mxf, if_pos ⟨by omega, g⟩]
              · rw [if_neg e, if_neg e, if_neg e])
            have dg : decide (exd (gX l i) (gR l i) (gX l k) (gR l k) ≤ 0) = true := decide_eq_true g
            rw [dg] at HM
            clear dg g
            generalize gX l i = x at *
            generalize gR l i = r at *
            generalize gX l k = y at *
            generalize gR l k = s at *
            go_wp2_with fail
            go_region_held3 (fun w' => w'.cell? ⟨b, off + i * 2, none⟩ = some (.int .i64 x) ∧ w'.cell? ⟨b, off + i * 2 + 1, none⟩ = some (.int .i64 r) ∧ w'.cell? ⟨b, off + k * 2, none⟩ = some (.int .i64 y) ∧ w'.cell? ⟨b, off + k * 2 + 1, none⟩ = some (.int .i64 s)) (go_keep) (first
              | (go_at_call 50; refine (HM.out _).mono ?_; rintro e w3 ⟨rfl, gg⟩; have X3 := Lib.hid (bel_trans XD.out gg); have c0 := cell_bel c0 X3.out; have c1 := cell_bel c1 X3.out; have c2 := cell_bel c2 X3.out; have c3 := cell_bel c3 X3.out; clear gg))
            have S3 := Lib.hid (hS.out.below X3.out)
            clear hS c0 c1 c2 c3
            obtain ⟨a0, a1⟩ := S3.out.2.1.1 i l4
            obtain ⟨b0, b1⟩ := S3.out.2.1.1 k l5
            rw [FA.out.1] at a0
            rw [FA.out.2] at b0
            generalize mxf l (lgT l n m) i k = A at *
            generalize lgT l n m k = B at *
            have S4 : Hid (MsI w (lgI l n m i (k + 1)) (w3.drew.setCell ⟨w.heap.size + 1, i, none⟩ (.int .i64 (max A B)))) := Lib.hid (MsI.set (S3.out.below (bel_drew _)) i (max A B) _ GN.out)
            go_wp2_with fail
            go_still_tail 9, (by kernel_rfl)
            change wpList _ _ _ _ _ w3.drew
            have a0 := cell_bel a0 (bel_drew w3)
            have b0 := cell_bel b0 (bel_drew w3)
            have a1 : w3.drew.frozen? ⟨w.heap.size + 1, i, none⟩ = false := a1
            generalize w3.drew = wq at *
            go_wp2
            go_roundw
            case rel => exact ⟨k + 1, by omega, by omega, by go_num, S4⟩
            case measure => simp [intOf]; omega
          · have GN : Hid (lgI l n m i (k + 1) = lgI l n m i k) := Lib.hid (by
              funext j
              unfold lgI
              by_cases e : j = i
              · rw [if_pos e, if_pos e, mxf, if_neg (fun h => g h.2)]
              · rw [if_neg e, if_neg e])
            have dg : decide (exd (gX l i) (gR l i) (gX l k) (gR l k) ≤ 0) = false := decide_eq_false g
            rw [dg] at HM
            clear dg g
            generalize gX l i = x at *
            generalize gR l i = r at *
            generalize gX l k = y at *
            generalize gR l k = s at *
            go_wp2_with fail
            go_region_held3 (fun w' => w'.cell? ⟨b, off + i * 2, none⟩ = some (.int .i64 x) ∧ w'.cell? ⟨b, off + i * 2 + 1, none⟩ = some (.int .i64 r) ∧ w'.cell? ⟨b, off + k * 2, none⟩ = some (.int .i64 y) ∧ w'.cell? ⟨b, off + k * 2 + 1, none⟩ = some (.int .i64 s)) (go_keep) (first
              | (go_at_call 50; refine (HM.out _).mono ?_; rintro e w3 ⟨rfl, gg⟩; have X3 := Lib.hid (bel_trans XD.out gg); have c0 := cell_bel c0 X3.out; have c1 := cell_bel c1 X3.out; have c2 := cell_bel c2 X3.out; have c3 := cell_bel c3 X3.out; clear gg))
            have S3 : Hid (MsI w (lgI l n m i (k + 1)) w3) := Lib.hid (by rw [GN.out]; exact hS.out.below X3.out)
            clear hS c0 c1 c2 c3
            go_wp2
            go_roundw
            case rel => exact ⟨k + 1, by omega, by omega, by go_num, S3⟩
            case measure => simp [intOf]; omega
        · obtain rfl : k = n := by omega
          obtain ⟨a0, a1⟩ := hS.out.2.1.1 i (by omega)
          rw [show lgI l k m i k i = mxf l (lgT l k m) i k by unfold lgI; rw [if_pos rfl]] at a0
          have bd := mxf_bd (l := l) (g := lgT l k m) (M := m) (by omega) (lgT_bd l k m) i k
          have S4 : Hid (MsI w (lgT l k (m + 1)) (wr.setCell ⟨w.heap.size + 1, i, none⟩ (.int .i64 (mxf l (lgT l k m) i k + 1)))) := Lib.hid (hS.out.set i _ _ (fun j _ => by
            show (if j = k - 1 - m then _ else _) = _
            rw [← hi.out]
            by_cases e : j = i
            · rw [if_pos e, if_pos e]; omega
            · rw [if_neg e, if_neg e]; unfold lgI; rw [if_neg e]))
          have hL : Hid (mxL l k (m + 1) = max (mxL l k m) (mxf l (lgT l k m) i k + 1)) := Lib.hid (by rw [mxL, ← hi.out]; omega)
          have l2 : (i : Int) < 128 := by omega
          generalize mxf l (lgT l k m) i k = A at *
          have wA : IntKind.i64.wrap (A + 1) = A + 1 := wrap_in _ ⟨by omega, by omega⟩
          have a3 := (S4.out.2.1.1 i (by omega)).1
          have e4 : lgT l k (m + 1) i = A + 1 := by
            have := World.cell?_setCell_same wr ⟨w.heap.size + 1, i, none⟩ (.int .i64 (A + 1)) a0
            rw [a3] at this
            simpa using this
          rw [e4] at a3
          have wi2 : IntKind.i64.wrap ((i : Int) - 1) = (i : Int) - 1 := wrap_in _ ⟨by omega, by omega⟩
          generalize mxL l k m = ML at *
          go_wp2
          go_roundw
          case rel => exact ⟨m + 1, by omega, by rw [show (k : Int) - 1 - ((m + 1 : Nat) : Int) = (i : Int) - 1 by have := ei.out; omega], by rw [hL.out], S4⟩
          case measure => have := ei.out; simp [intOf] <;> omega
    · obtain rfl : m = n := by omega
      have d0 : decide (0 ≤ (m : Int) - 1 - m) = false := decide_eq_false (by omega)
      obtain ⟨s1, s2, s3⟩ := hS.out
      have RG : Hid (wr.rangeAt (w.heap.size + 1) 0 (aL 128 (lgT l m m))) := Lib.hid fun j v hv => by
        obtain ⟨hj, rfl⟩ := aL_inv hv
        rw [Nat.zero_add]
        exact (s2.1 j hj).1
      have TH : Hid (wr.there w.heap.size 0 (aL 128 (lgT l m m)).toArray.size) := Lib.hid fun j hj => by
        have hj : j < 128 := by simpa [aL] using hj
        rw [Nat.zero_add]
        exact ⟨by rw [(s1.1 j hj).1]; rfl, (s1.1 j hj).2⟩
      have SZ : Hid ((Try.prog.info? 65).map (·.size) = some (aL 128 (lgT l m m)).length) := Lib.hid (by rw [aL_len]; kernel_rfl)
      have SZ2 : Hid ((Try.prog.info? 65).map (·.size) = some (aL 128 (lgT l m m)).toArray.size) := Lib.hid (by rw [List.size_toArray, aL_len]; kernel_rfl)
      have ON : Hid ((aL 128 (lgT l m m)).toArray.all (·.oneCell') = true) := Lib.hid (all_oneCell_toArray (aL_one _ _))
      have XX : Hid (Below w.heap.size w (wr.setCells w.heap.size 0 (aL 128 (lgT l m m)))) := Lib.hid (s3.trans (QTQ.below_cells (Nat.le_refl _) _ _ _))
      have RL : Hid (Sem.run Try.prog (loadVar 65 ⟨w.heap.size, 0, none⟩) (wr.setCells w.heap.size 0 (aL 128 (lgT l m m))) = .ok (.agg (aL 128 (lgT l m m)).toArray) (wr.setCells w.heap.size 0 (aL 128 (lgT l m m)))) := Lib.hid (run_loadVar_mid _ _ _ _ _ _ (World.rangeAt_setCells_same _ _ _ _ (fun j hj => TH.out j (by simpa using hj))) Try.underlying65 rfl SZ.out)
      generalize hAA : aL 128 (lgT l m m) = AA at *
      replace hAA := Lib.hid hAA
      clear s1 s2 s3 hc hd hS
      go_wp2_with (first
        | (refine wpList_load_mid rfl 65 _ rfl (w.heap.size + 1) 0 rfl AA _ RG.out Try.underlying65 rfl SZ.out ?_)
        | (refine wpList_store_mid rfl 65 _ _ rfl w.heap.size 0 AA.toArray rfl rfl TH.out SZ2.out ON.out ?_))
      have RL := RL.out
      have XX := XX.out
      generalize wr.setCells w.heap.size 0 AA = W5 at *
      refine bodyPost_ret (v := .tuple #[.agg AA.toArray, .int .i64 (mxL l m m)]) (by simp [results, Try.results49, asAddr, Result.andThen, RL]) rfl ⟨by rw [hAA.out], XX⟩
end Go.Proofs.Ytooofppgjknigaa

/- Integers of the call's own. -/
namespace Go.Proofs.Ytooofppgjknigaa
open Go.RowKit

theorem info_int : (Try.prog.info? 3).map (fun i => (i.zero, i.size, i.bytes)) = some (some (.int .i64 0), 1, 8) := by kernel_rfl
theorem cell_oneE (w : World) (v : Value) (T : TypeId) (j : Nat) (u : Value) (hj : [v][j]? = some u) : (w.alloc (.cells #[v] T)).cell? ((⟨w.heap.size, 0, none⟩ : Addr).add j) = some u := by
  match j, hj with
  | 0, hj => simp at hj; rw [Go.WideShapes.add_plain, Nat.zero_add, ← hj, World.cell?_alloc_new]; rfl
  | j + 1, hj => simp at hj
theorem nums_of_own {w : World} {B n : Nat} {v : Value} {zs : List Int} (h : w.ownsRow B 3 1 v n (zs.map (Value.int .i64))) : Nums w v zs := by
  have hl : zs.length = n := by have := h.1; simpa using this
  obtain ⟨_, h2⟩ := h
  rcases h2 with ⟨rfl, rfl⟩ | ⟨g, cap, cur, rfl, hg, hh, hc, hm, hs, ht⟩
  · exact ⟨none, 0, by rw [hl], by omega, .inl hl⟩
  · have hlt : g < w.heap.size := by
      rcases Nat.lt_or_ge g w.heap.size with h | h
      · exact h
      · rw [Array.getElem?_eq_none h] at hh; cases hh
    refine ⟨some ⟨g, 0, none⟩, cap, by rw [hl], ⟨by omega, by unfold maxLen at hm; omega⟩, .inr ⟨g, 0, rfl, hlt, fun j hj => ?_⟩⟩
    have hrow : w.ownsRow B 3 1 (.slice (some ⟨g, 0, none⟩) n cap) n (zs.map (Value.int .i64)) := ⟨by simp [hl], .inr ⟨g, cap, cur, rfl, hg, hh, hc, hm, hs, ht⟩⟩
    rw [Nat.zero_add, World.ownsRow.cellAt hrow j (by omega)]
    simp [List.getD, List.getElem?_eq_getElem hj]
def OwnI (w : World) (B : Nat) (v : Value) (zs : List Int) : Prop := w.ownsRow B 3 1 v zs.length (zs.map (Value.int .i64))
theorem OwnI.alloc {w : World} {B : Nat} {v : Value} {zs : List Int} (h : OwnI w B v zs) (o : Obj) : OwnI (w.alloc o) B v zs := World.ownsRow.alloc h o
theorem OwnI.drew {w : World} {B : Nat} {v : Value} {zs : List Int} (h : OwnI w B v zs) : OwnI w.drew B v zs := h
theorem OwnI.nums {w : World} {B : Nat} {v : Value} {zs : List Int} (h : OwnI w B v zs) : Nums w v zs := nums_of_own h
theorem OwnI.lit (w : World) (B : Nat) (x : Int) (hB : B ≤ w.heap.size) : OwnI (w.alloc (.cells #[.int .i64 x] 3)) B (.slice (some ⟨w.heap.size, 0, none⟩) 1 1) [x] := by
  show World.ownsRow _ _ _ _ _ 1 _
  exact
  ⟨rfl, .inr ⟨w.heap.size, 1, #[.int .i64 x], rfl, hB, by show (w.heap.push _)[w.heap.size]? = _; exact Array.getElem?_push_size, by omega, by unfold maxLen; omega, rfl, rfl⟩⟩
theorem OwnI.nil (w : World) (B : Nat) : OwnI w B (.slice none 0 0) [] := ⟨rfl, .inl ⟨rfl, rfl⟩⟩
theorem OwnI.push {w' : World} {B n : Nat} {v' : Value} {zs : List Int} {x : Int} (hn : n = zs.length) (h : w'.ownsRow B 3 1 v' (n + 1) (zs.map (Value.int .i64) ++ [.int .i64 x])) : OwnI w' B v' (zs ++ [x]) := by
  subst hn
  unfold OwnI
  rw [List.length_append, List.map_append]
  exact h
/-- the last of them, and where they lie -/
theorem OwnI.form {w : World} {B : Nat} {v : Value} {zs : List Int} (h : OwnI w B v zs) (h0 : 0 < zs.length) : ∃ g cap, v = .slice (some ⟨g, 0, none⟩) zs.length cap ∧ B ≤ g ∧ g < w.heap.size ∧ zs.length ≤ cap ∧ cap ≤ 9223372036854775807 ∧ ∀ j, j < zs.length → w.cell? ⟨g, j, none⟩ = some (.int .i64 (zs.getD j 0)) := by
  have hlt := fun j hj => World.ownsRow.lt h j hj
  obtain ⟨a, cap, e, hc, hh⟩ := h.nums
  rcases hh with hh | ⟨b, off, rfl, hb, hcell⟩
  · omega
  · obtain ⟨_, h2⟩ := h
    rcases h2 with ⟨h3, _⟩ | ⟨g, cap', cur, h3, hg, _⟩
    · rw [h3] at e; simp at e
    · rw [h3] at e
      simp only [Value.slice.injEq, Option.some.injEq, Addr.mk.injEq, and_true, true_and] at e
      obtain ⟨⟨rfl, rfl⟩, rfl⟩ := e
      exact ⟨g, cap', h3, hg, hb, hc.1, hc.2, fun j hj => by have := hcell j hj; rwa [Nat.zero_add] at this⟩

theorem OwnI.below {w w' : World} {B : Nat} {v : Value} {zs : List Int} (h : OwnI w B v zs) (hb : Below w.heap.size w w') : OwnI w' B v zs := RC.row_belM h hb
/-- the largest choice, up to a row: its indices, and how many are missing -/
def chS (l : List (Int × Int)) (g : Nat → Int) (M : Int) : Nat → List Int × Int
  | 0 => ([], M)
  | k + 1 => if g k = (chS l g M k).2 ∧ ((chS l g M k).1.length = 0 ∨ ex l ((chS l g M k).1.getD ((chS l g M k).1.length - 1) 0).toNat k ≤ 0) then ((chS l g M k).1 ++ [(k : Int)], (chS l g M k).2 - 1) else chS l g M k
theorem chS_bd (l : List (Int × Int)) (g : Nat → Int) (M : Int) : ∀ k, (chS l g M k).1.length ≤ k ∧ M - k ≤ (chS l g M k).2 ∧ (chS l g M k).2 ≤ M ∧ ∀ x ∈ (chS l g M k).1, ∃ p : Nat, x = (p : Int) ∧ p < k
  | 0 => by simp [chS]
  | k + 1 => by
    obtain ⟨h1, h2, h3, h4⟩ := chS_bd l g M k
    unfold chS
    split
    · refine ⟨by simp; omega, by show M - _ ≤ _ - 1; omega, by show _ - 1 ≤ _; omega, fun x hx => ?_⟩
      rcases List.mem_append.1 hx with hx | hx
      · obtain ⟨p, e, hp⟩ := h4 x hx
        exact ⟨p, e, by omega⟩
      · rw [List.mem_singleton] at hx
        exact ⟨k, hx, by omega⟩
    · exact ⟨by omega, by omega, h3, fun x hx => by obtain ⟨p, e, hp⟩ := h4 x hx; exact ⟨p, e, by omega⟩⟩
theorem getD_mem {zs : List Int} {j : Nat} (h : j < zs.length) : zs.getD j 0 ∈ zs := by
  rw [List.getD_eq_getElem?_getD, List.getElem?_eq_getElem h]
  exact List.getElem_mem h
end Go.Proofs.Ytooofppgjknigaa

/- Package audit: ends, repaired. -/
namespace Go.Proofs.Ytooofppgjknigaa
open Go.RowKit

/-- the least and the greatest of the first numbers -/
def loF (zs : List Int) : Nat → Int
  | 0 => 120000
  | k + 1 => min (loF zs k) (zs.getD k 0)
def hiF (zs : List Int) : Nat → Int
  | 0 => 50000
  | k + 1 => max (hiF zs k) (zs.getD k 0)
/-- what ends keeps -/
def EnI (w : World) (x y : Int) (W : World) : Prop :=
  Two w.heap.size W (.int .i64 0) (.int .i64 0) ∧ Two (w.heap.size + 1) W (.int .i64 x) (.int .i64 y) ∧ Below w.heap.size w W
theorem EnI.below {w : World} {x y : Int} {W W' : World} (h : EnI w x y W) (hb : Below W.heap.size W W') : EnI w x y W' := ⟨h.1.below hb, h.2.1.below hb, bel_trans h.2.2 hb⟩
theorem EnI.init (w : World) (x y : Int) (T U : TypeId) : EnI w x y ((w.alloc (.cells #[.int .i64 0, .int .i64 0] T)).alloc (.cells #[.int .i64 x, .int .i64 y] U)) := by
  have h2 := Two.new (w.alloc (.cells #[.int .i64 0, .int .i64 0] T)) (.int .i64 x) (.int .i64 y) U
  rw [World.size_alloc] at h2
  exact ⟨(Two.new w _ _ T).alloc _, h2, bel_alloc (bel_alloc (Below.refl _ _))⟩
theorem EnI.put {w : World} {x y : Int} {W : World} (h : EnI w x y W) (p q : Int) : EnI w p q ((W.setCell ⟨w.heap.size + 1, 0, none⟩ (.int .i64 p)).setCell ⟨w.heap.size + 1, 1, none⟩ (.int .i64 q)) :=
  ⟨(h.1.other _ (by simp) _).other _ (by simp) _, (h.2.1.set0 _).set1 _, (h.2.2.setCell (p := ⟨w.heap.size + 1, 0, none⟩) (by show w.heap.size ≤ w.heap.size + 1; omega) _).setCell (p := ⟨w.heap.size + 1, 1, none⟩) (by show w.heap.size ≤ w.heap.size + 1; omega) _⟩
theorem EnI.fin {w : World} {x y : Int} {W : World} (h : EnI w x y W) (p q : Value) : Two w.heap.size ((W.setCell ⟨w.heap.size, 0, none⟩ p).setCell ⟨w.heap.size, 1, none⟩ q) p q ∧ Below w.heap.size w ((W.setCell ⟨w.heap.size, 0, none⟩ p).setCell ⟨w.heap.size, 1, none⟩ q) :=
  ⟨(h.1.set0 p).set1 q, (h.2.2.setCell (p := ⟨w.heap.size, 0, none⟩) (Nat.le_refl _) _).setCell (p := ⟨w.heap.size, 1, none⟩) (Nat.le_refl _) _⟩
set_option maxHeartbeats 16000000 in
set_option maxRecDepth 100000 in
theorem ends_any (v : Value) (zs : List Int) (w : World) (hv : Nums w v zs) (hn : zs.length ≤ 1000) :
    Calls Try.prog 62 #[v] w fun e w' => e = .returned (.agg #[.int .i64 (loF zs zs.length), .int .i64 (hiF zs zs.length)]) ∧ Below w.heap.size w w' := by
  obtain ⟨a, cap, rfl, hl, hh⟩ := hv
  have HC : Hid (∀ k, k < zs.length → ∃ b off, a = some ⟨b, off, none⟩ ∧ ∀ W, Below w.heap.size w W → W.cell? ⟨b, off + k, none⟩ = some (.int .i64 (zs.getD k 0))) := Lib.hid fun k hk => by
    rcases hh with hh | ⟨b, off, rfl, hb, hc⟩
    · omega
    · exact ⟨b, off, rfl, fun W hW => cell_bel (hc k hk) hW⟩
  have S0 := Lib.hid (EnI.init w 120000 50000 78 78)
  clear hh
  generalize hN : zs.length = n at *
  replace hN := Lib.hid hN
  go_enter Try.func62, Try.ntmps62
  go_wp2_with fail
  go_loopw [9] (fun ii wr => ∃ k : Nat, k ≤ n ∧ ii = .int .i64 (k : Int) ∧ Hid (EnI w (loF zs k) (hiF zs k) wr)) (fun ii _ => n - (intOf ii).toNat)
  case atStart => exact ⟨0, Nat.zero_le _, rfl, S0⟩
  case round =>
    clear S0
    obtain ⟨k, hk, rfl, hS⟩ := hrel
    by_cases hlt : k < n
    · obtain ⟨b, off, rfl, hcc⟩ := HC.out k hlt
      have c0 := hcc wr hS.out.2.2
      obtain ⟨_, ⟨t0, t1, t2, t3, _⟩, _⟩ := hS.out
      have l0 : (k : Int) < (n : Int) := by omega
      have S2 : Hid (EnI w (loF zs (k + 1)) (hiF zs (k + 1)) ((wr.setCell ⟨w.heap.size + 1, 0, none⟩ (.int .i64 (min (loF zs k) (zs.getD k 0)))).setCell ⟨w.heap.size + 1, 1, none⟩ (.int .i64 (max (hiF zs k) (zs.getD k 0))))) := Lib.hid (hS.out.put _ _)
      clear hcc hS
      generalize loF zs k = x at *
      generalize hiF zs k = y at *
      generalize zs.getD k 0 = z at *
      go_wp2
      go_roundw
      case rel => exact ⟨k + 1, by omega, by go_num, S2⟩
      case measure => simp [intOf]; omega
    · obtain rfl : k = n := by omega
      obtain ⟨⟨z0, z1, z2, z3, _⟩, ⟨t0, t1, _, _, _⟩, _⟩ := hS.out
      obtain ⟨⟨p0, p1, _, _, _⟩, B⟩ := hS.out.fin (.int .i64 (loF zs k)) (.int .i64 (hiF zs k))
      clear HC
      go_wp2
      refine bodyPost_ret (v := .agg #[.int .i64 (loF zs k), .int .i64 (hiF zs k)]) (by simp [results, Try.results62, go_sem, p0, p1]) rfl ?_
      exact ⟨rfl, B⟩
/-- two rows of the call's own do not share a block -/
def Sep (v u : Value) : Prop := ∀ k, v.ownBlock = some k → u.ownBlock ≠ some k
theorem Sep.symm {v u : Value} (h : Sep v u) : Sep u v := fun k h1 h2 => h k h2 h1
theorem Sep.left {v u : Value} (h : Sep v u) : u.ownBlock = none ∨ u.ownBlock ≠ v.ownBlock := by
  cases e : u.ownBlock with
  | none => exact .inl rfl
  | some k => exact .inr fun h2 => h k h2.symm e
/-- what repaired keeps -/
def RpI (W0 : World) (v : Value) (L : List Int) (u : Value) (K : List Int) (W : World) : Prop :=
  OwnI W W0.heap.size v L ∧ OwnI W W0.heap.size u K ∧ Sep v u ∧ Below W0.heap.size W0 W
theorem RpI.below {W0 : World} {v u : Value} {L K : List Int} {W W' : World} (h : RpI W0 v L u K W) (hb : Below W.heap.size W W') : RpI W0 v L u K W' :=
  ⟨h.1.below hb, h.2.1.below hb, h.2.2.1, bel_trans h.2.2.2 hb⟩
theorem RpI.swap {W0 : World} {v u : Value} {L K : List Int} {W : World} (h : RpI W0 v L u K W) : RpI W0 u K v L W := ⟨h.2.1, h.1, h.2.2.1.symm, h.2.2.2⟩
/-- an append to the one row -/
theorem RpI.put {W0 : World} {v u v2 : Value} {L K : List Int} {x : Int} {m : Nat} {W w2 : World} (h : RpI W0 v L u K W) (hm : L.length = m)
    (hown : w2.ownsRow W0.heap.size 3 1 v2 (m + 1) (L.map (Value.int .i64) ++ [.int .i64 x])) (hg : W.grownBy w2 v.ownBlock) (hb : v2.ownBlock = v.ownBlock ∨ v2.ownBlock = some W.heap.size) : RpI W0 v2 (L ++ [x]) u K w2 := by
  refine ⟨OwnI.push hm.symm hown, World.ownsRow.kept h.2.1 hg h.2.2.1.left, fun k h1 h2 => ?_, h.2.2.2.grown hg h.2.2.2.size (fun q hq => (World.ownsRow.lt h.1 q hq).1)⟩
  rcases hb with hb | hb
  · rw [hb] at h1; exact h.2.2.1 k h1 h2
  · rw [hb] at h1
    have := (World.ownsRow.lt h.2.1 k h2).2
    have e := Option.some.inj h1
    omega
/-- the densities of the first rows that are not stronger than x; not weaker -/
def wkL (l : List (Int × Int)) (x : Int) : Nat → List Int
  | 0 => []
  | k + 1 => if gX l k ≤ x then wkL l x k ++ [gR l k] else wkL l x k
def sgL (l : List (Int × Int)) (x : Int) : Nat → List Int
  | 0 => []
  | k + 1 => if x ≤ gX l k then sgL l x k ++ [gR l k] else sgL l x k
theorem wkL_len (l : List (Int × Int)) (x : Int) : ∀ k, (wkL l x k).length ≤ k
  | 0 => Nat.le_refl _
  | k + 1 => by have := wkL_len l x k; unfold wkL; split <;> simp <;> omega
theorem sgL_len (l : List (Int × Int)) (x : Int) : ∀ k, (sgL l x k).length ≤ k
  | 0 => Nat.le_refl _
  | k + 1 => by have := sgL_len l x k; unfold sgL; split <;> simp <;> omega
end Go.Proofs.Ytooofppgjknigaa

/- Package audit: repaired. -/
namespace Go.Proofs.Ytooofppgjknigaa
open Go.RowKit

/-- the density of a row when it is repaired -/
def rpD (l : List (Int × Int)) (n : Nat) (x : Int) : Int := (hiF (sgL l x n) (sgL l x n).length + loF (wkL l x n) (wkL l x n).length) / 2
set_option maxHeartbeats 32000000 in
set_option maxRecDepth 100000 in
theorem rpd_some (b off n cap : Nat) (l : List (Int × Int)) (x r LO HI : Int) (w : World) (n1 : n ≤ 128) (hb : b < w.heap.size)
    (hc : Hid (∀ j, j < n → w.cell? ⟨b, off + j * 2, none⟩ = some (.int .i64 (gX l j)) ∧ w.cell? ⟨b, off + j * 2 + 1, none⟩ = some (.int .i64 (gR l j))))
    (hlo : Hid (LO = loF (wkL l x n) (wkL l x n).length)) (hhi : Hid (HI = hiF (sgL l x n) (sgL l x n).length)) (b1 : 0 ≤ LO ∧ LO ≤ 200000) (b2 : 0 ≤ HI ∧ HI ≤ 200000) :
    Calls Try.prog 52 #[.slice (some ⟨b, off, none⟩) n cap, .agg #[.int .i64 x, .int .i64 r]] w fun e w' => e = .returned (.int .i64 ((HI + LO) / 2)) ∧ Below w.heap.size w w' := by
  obtain ⟨i0, hi, hz0, hz1, hz2⟩ := info_parts info_int
  replace hi := Lib.hid hi
  replace hz0 := Lib.hid hz0
  replace hz1 := Lib.hid hz1
  replace hz2 := Lib.hid hz2
  have T0 := Lib.hid (Two.new w (.int .i64 x) (.int .i64 r) 46)
  have X0 := Lib.hid (bel_alloc (w := w) (o := .cells #[.int .i64 x, .int .i64 r] 46) (Below.refl _ _))
  have e1 : IntKind.i64.wrap (HI + LO) = HI + LO := wrap_in _ ⟨by omega, by omega⟩
  have e2 : (HI + LO).tdiv 2 = (HI + LO) / 2 := Int.tdiv_eq_ediv_of_nonneg (by omega)
  have e3 : IntKind.i64.wrap ((HI + LO) / 2) = (HI + LO) / 2 := wrap_in _ ⟨by omega, by omega⟩
  go_enter Try.func52, Try.ntmps52
  go_wp2_with fail
  have hsz : w.heap.size < (w.alloc (.cells #[.int .i64 x, .int .i64 r] 46)).heap.size := by simp
  generalize w.alloc (.cells #[.int .i64 x, .int .i64 r] 46) = W0 at *
  have S0 : Hid (RpI W0 (.slice none 0 0) (wkL l x 0) (.slice none 0 0) (sgL l x 0) W0) := Lib.hid ⟨OwnI.nil _ _, OwnI.nil _ _, fun k h => by simp [Value.ownBlock] at h, Below.refl _ _⟩
  have HT : Hid (∀ W, Below W0.heap.size W0 W → Below w.heap.size w W ∧ Two w.heap.size W (.int .i64 x) (.int .i64 r) ∧ ∀ j, j < n → W.cell? ⟨b, off + j * 2, none⟩ = some (.int .i64 (gX l j)) ∧ W.cell? ⟨b, off + j * 2 + 1, none⟩ = some (.int .i64 (gR l j))) := Lib.hid fun W hW => by
    have hw := bel_trans X0.out hW
    exact ⟨hw, T0.out.below hW, fun j hj => ⟨cell_bel (hc.out j hj).1 hw, cell_bel (hc.out j hj).2 hw⟩⟩
  go_loopw [5, 6, 11] (fun v u ii wr => ∃ k : Nat, k ≤ n ∧ ii = .int .i64 (k : Int) ∧ Hid (RpI W0 v (wkL l x k) u (sgL l x k) wr)) (fun _ _ ii _ => n - (intOf ii).toNat)
  case atStart => exact ⟨0, Nat.zero_le _, rfl, S0⟩
  case round =>
    clear S0
    obtain ⟨k, hk, rfl, hS⟩ := hrel
    by_cases hlt : k < n
    · obtain ⟨hw, ⟨t0, t1, _, _, _⟩, hcc⟩ := HT.out wr hS.out.2.2.2
      obtain ⟨c0, c1⟩ := hcc k hlt
      have l0 : (k : Int) < (n : Int) := by omega
      have hq0 : w.heap.size < wr.heap.size := Nat.lt_of_lt_of_le hsz hS.out.2.2.2.size
      have hq1 : w.heap.size ≠ wr.heap.size := by omega
      have hq2 : wr.heap.size ≠ w.heap.size := by omega
      have LT5 := Lib.hid (World.ownsRow.lt hS.out.1)
      have LT6 := Lib.hid (World.ownsRow.lt hS.out.2.1)
      have wl := wkL_len l x k
      have sl := sgL_len l x k
      have PW : Hid (wkL l x (k + 1) = if gX l k ≤ x then wkL l x k ++ [gR l k] else wkL l x k) := Lib.hid rfl
      have PS : Hid (sgL l x (k + 1) = if x ≤ gX l k then sgL l x k ++ [gR l k] else sgL l x k) := Lib.hid rfl
      obtain ⟨a5, c5, ev5, _, _⟩ := hS.out.1.nums
      obtain ⟨a6, c6, ev6, _, _⟩ := hS.out.2.1.nums
      clear hcc hw
      generalize hL5 : wkL l x k = L5 at *
      generalize hL6 : sgL l x k = L6 at *
      replace hL5 := Lib.hid hL5
      replace hL6 := Lib.hid hL6
      obtain ⟨m5, h5⟩ : ∃ m, L5.length = m := ⟨_, rfl⟩
      obtain ⟨m6, h6⟩ : ∃ m, L6.length = m := ⟨_, rfl⟩
      rw [h5] at ev5 wl
      rw [h6] at ev6 sl
      subst ev5 ev6
      replace h5 := Lib.hid h5
      replace h6 := Lib.hid h6
      generalize gX l k = y at *
      generalize gR l k = s at *
      have T1 := Lib.hid (Two.new wr (.int .i64 y) (.int .i64 s) 46)
      have S1 := Lib.hid (hS.out.below (bel_alloc (o := .cells #[.int .i64 y, .int .i64 s] 46) (Below.refl _ _)))
      have W1 : Hid ((wr.alloc (.cells #[.int .i64 y, .int .i64 s] 46)).heap.size = wr.heap.size + 1) := Lib.hid (by simp)
      have GC : Hid (∀ (W w5 : World) (q : Option Nat), wr.heap.size < W.heap.size → Two wr.heap.size W (.int .i64 y) (.int .i64 s) → W.grownBy w5 q → (∀ k, q = some k → W0.heap.size ≤ k ∧ k < wr.heap.size) → w5.cell? ⟨wr.heap.size, 0, none⟩ = some (.int .i64 y) ∧ w5.cell? ⟨wr.heap.size, 1, none⟩ = some (.int .i64 s)) := Lib.hid fun W w5 q h1 h2 h3 h4 => by
        have hne : some wr.heap.size ≠ q := fun e => by have := h4 _ e.symm; omega
        exact ⟨by rw [h3.cell_far ⟨wr.heap.size, 0, none⟩ h1 hne]; exact h2.1, by rw [h3.cell_far ⟨wr.heap.size, 1, none⟩ h1 hne]; exact h2.2.1⟩
      clear hS
      by_cases g1 : y ≤ x
      · have d1 : decide (y ≤ x) = true := decide_eq_true g1
        rw [if_pos g1] at PW
        have OAa := Lib.hid (S1.out.below (bel_alloc (o := .cells #[.int .i64 s] 3) (Below.refl _ _)))
        have CNa := Lib.hid (cell_oneE (wr.alloc (.cells #[.int .i64 y, .int .i64 s] 46)) (.int .i64 s) 3)
        rw [W1.out] at CNa
        have HSa : Hid (W0.heap.size ≤ (((wr.alloc (.cells #[.int .i64 y, .int .i64 s] 46))).alloc (.cells #[.int .i64 s] 3)).heap.size) := Lib.hid OAa.out.2.2.2.size
        have OCa := Lib.hid OAa.out.1
        unfold OwnI at OCa
        rw [h5.out] at OCa
        go_wp2_with (at_builtin; refine wpList_append_own_at _ rfl _ _ 35 rfl W0.heap.size 3 i0 (.int .i64 0) 1 8 Try.underlying35 hi.out hz0.out hz1.out hz2.out rfl (by omega) _ _ _ rfl OCa.out ⟨wr.heap.size + 1, 0, none⟩ 1 1 [.int .i64 s] rfl rfl CNa.out (by intro u hu; rw [List.mem_singleton] at hu; rw [hu]; rfl) ?qd4 ?qd5 HSa.out ?_)
        case qd4 => unfold maxLen; omega
        case qd5 => omega
        intro av aw hown hgrow _ hblk
        have S2 := Lib.hid (OAa.out.put h5.out hown hgrow (by simp only [World.size_alloc]; exact hblk))
        have S2 : Hid (RpI W0 av (wkL l x (k + 1)) (.slice a6 m6 c6) L6 aw) := Lib.hid (by rw [PW.out]; exact S2.out)
        obtain ⟨tb0, tb1⟩ := GC.out ((wr.alloc (.cells #[.int .i64 y, .int .i64 s] 46)).alloc (.cells #[.int .i64 s] 3)) aw _ (by simp only [World.size_alloc]; omega) (T1.out.below (bel_alloc (o := .cells #[.int .i64 s] 3) (Below.refl _ _))) hgrow (fun k hk => LT5.out k hk)
        obtain ⟨_, ⟨ta0, ta1, _, _, _⟩, _⟩ := HT.out aw S2.out.2.2.2
        clear hown hgrow hblk OAa CNa OCa
        by_cases g2 : x ≤ y
        · have d2 : decide (x ≤ y) = true := decide_eq_true g2
          rw [if_pos g2] at PS
          have S2' := Lib.hid S2.out.swap
          have OAb := Lib.hid (S2'.out.below (bel_alloc (o := .cells #[.int .i64 s] 3) (Below.refl _ _)))
          have CNb := Lib.hid (cell_oneE aw (.int .i64 s) 3)
          have HSb : Hid (W0.heap.size ≤ ((aw).alloc (.cells #[.int .i64 s] 3)).heap.size) := Lib.hid OAb.out.2.2.2.size
          have OCb := Lib.hid OAb.out.1
          unfold OwnI at OCb
          rw [h6.out] at OCb
          go_wp2_with (at_builtin; refine wpList_append_own_at _ rfl _ _ 35 rfl W0.heap.size 3 i0 (.int .i64 0) 1 8 Try.underlying35 hi.out hz0.out hz1.out hz2.out rfl (by omega) _ _ _ rfl OCb.out ⟨aw.heap.size, 0, none⟩ 1 1 [.int .i64 s] rfl rfl CNb.out (by intro u hu; rw [List.mem_singleton] at hu; rw [hu]; rfl) ?qd4 ?qd5 HSb.out ?_)
          case qd4 => unfold maxLen; omega
          case qd5 => omega
          intro bv bw hown hgrow _ hblk
          have S3 := Lib.hid (OAb.out.put h6.out hown hgrow (by simp only [World.size_alloc]; exact hblk))
          have S4 : Hid (RpI W0 av (wkL l x (k + 1)) bv (sgL l x (k + 1)) bw) := Lib.hid (by rw [PS.out]; exact S3.out.swap)
          clear hown hgrow hblk OAb CNb OCb
          go_wp2
          go_roundw
          case rel => exact ⟨k + 1, by omega, by go_num, S4⟩
          case measure => simp [intOf]; omega
        · have d2 : decide (x ≤ y) = false := decide_eq_false g2
          rw [if_neg g2] at PS
          have S4 : Hid (RpI W0 av (wkL l x (k + 1)) (.slice a6 m6 c6) (sgL l x (k + 1)) aw) := Lib.hid (by rw [PS.out]; exact S2.out)
          go_wp2
          go_roundw
          case rel => exact ⟨k + 1, by omega, by go_num, S4⟩
          case measure => simp [intOf]; omega
      · have d1 : decide (y ≤ x) = false := decide_eq_false g1
        rw [if_neg g1] at PW
        have d2 : decide (x ≤ y) = true := decide_eq_true (by omega)
        rw [if_pos (by omega)] at PS
        have S1' := Lib.hid S1.out.swap
        have OAb := Lib.hid (S1'.out.below (bel_alloc (o := .cells #[.int .i64 s] 3) (Below.refl _ _)))
        have CNb := Lib.hid (cell_oneE (wr.alloc (.cells #[.int .i64 y, .int .i64 s] 46)) (.int .i64 s) 3)
        rw [W1.out] at CNb
        have HSb : Hid (W0.heap.size ≤ (((wr.alloc (.cells #[.int .i64 y, .int .i64 s] 46))).alloc (.cells #[.int .i64 s] 3)).heap.size) := Lib.hid OAb.out.2.2.2.size
        have OCb := Lib.hid OAb.out.1
        unfold OwnI at OCb
        rw [h6.out] at OCb
        go_wp2_with (at_builtin; refine wpList_append_own_at _ rfl _ _ 35 rfl W0.heap.size 3 i0 (.int .i64 0) 1 8 Try.underlying35 hi.out hz0.out hz1.out hz2.out rfl (by omega) _ _ _ rfl OCb.out ⟨wr.heap.size + 1, 0, none⟩ 1 1 [.int .i64 s] rfl rfl CNb.out (by intro u hu; rw [List.mem_singleton] at hu; rw [hu]; rfl) ?qd4 ?qd5 HSb.out ?_)
        case qd4 => unfold maxLen; omega
        case qd5 => omega
        intro bv bw hown hgrow _ hblk
        have S3 := Lib.hid (OAb.out.put h6.out hown hgrow (by simp only [World.size_alloc]; exact hblk))
        have S4 : Hid (RpI W0 (.slice a5 m5 c5) (wkL l x (k + 1)) bv (sgL l x (k + 1)) bw) := Lib.hid (by rw [PS.out, PW.out]; exact S3.out.swap)
        clear hown hgrow hblk OAb CNb OCb
        go_wp2
        go_roundw
        case rel => exact ⟨k + 1, by omega, by go_num, S4⟩
        case measure => simp [intOf]; omega
    · obtain rfl : k = n := by omega
      have N5 := Lib.hid hS.out.1.nums
      have N6 := Lib.hid hS.out.2.1.nums
      have XX := Lib.hid (HT.out wr hS.out.2.2.2).1
      have wl := wkL_len l x k
      have sl := sgL_len l x k
      have E6 := Lib.hid (fun W (h : Nums W u6 (sgL l x k)) => ends_any u6 _ W h (by omega))
      have E5 := Lib.hid (fun W (h : Nums W u5 (wkL l x k)) => ends_any u5 _ W h (by omega))
      rw [← hlo.out] at E5
      rw [← hhi.out] at E6
      have FL : ∀ (u v : Int) (W : World), (Instr.field 78 (.agg #[.int .i64 u, .int .i64 v]) 0).run Try.prog W = .ok (.int .i64 u) W := fun _ _ _ => rfl
      have FH : ∀ (u v : Int) (W : World), (Instr.field 78 (.agg #[.int .i64 u, .int .i64 v]) 1).run Try.prog W = .ok (.int .i64 v) W := fun _ _ _ => rfl
      generalize sgL l x k = K at *
      generalize wkL l x k = L at *
      go_wp2_with fail
      refine (E6.out _ N6.out).mono ?_
      rintro e w2 ⟨rfl, gg⟩
      replace N5 := Lib.hid (N5.out.below gg)
      replace XX := Lib.hid (bel_trans XX.out gg); clear gg
      go_wp2_with fail
      refine (E5.out _ N5.out).mono ?_
      rintro e w3 ⟨rfl, gg⟩
      replace XX := Lib.hid (bel_trans XX.out gg); clear gg
      go_wp2
      go_returns
      exact ⟨rfl, XX.out⟩
end Go.Proofs.Ytooofppgjknigaa

/- Slices that read as lists of rows: copies. -/
namespace Go.Proofs.Ytooofppgjknigaa
open Go.RowKit Go.Sort

set_option maxRecDepth 100000 in
set_option maxHeartbeats 2000000 in
theorem clone_some (ad : Addr) (n c : Nat) (news : List Value) (w : World) (hl : news.length = n * 2) (hn : n ≤ 1000)
    (hc : Hid (∀ j u, news[j]? = some u → (w.alloc (.cells #[] 46)).cell? (ad.add j) = some u)) (h1 : Hid (∀ u ∈ news, u.oneCell' = true)) :
    Calls Try.prog 27 #[.slice (some ad) n c] w fun e w' => ∃ v', e = .returned v' ∧ w'.ownsRow w.heap.size 46 2 v' n news ∧ v' ≠ .slice none 0 0 ∧ Below w.heap.size w w' := by
  obtain ⟨i0, hi0, hz0, hz1, hz2⟩ := info_parts pt_info
  have q22 : ∀ (w : World) (a : Option Addr) (n c n' c' : Nat), (binOp .eql 22 (.slice a n c) (.slice none n' c')).run Try.prog w = .ok (.bool a.isNone) w := fun w a n c n' c' => Lib.run_eql_slice_nil w _ _ a n c n' c' Try.underlying22
  go_enter Try.func27, Try.ntmps27
  go_wp2_with (at_builtin; refine wpList_append_own _ rfl _ _ 22 rfl w.heap.size 46 i0 (.agg #[.int .i64 0, .int .i64 0]) 2 16 Try.underlying22 hi0 hz0 hz1 hz2 rfl (by omega) _ _ _ rfl (World.ownsRow_made w #[] 0 (Nat.le_refl _) (Nat.zero_le _) (by simp)) ad n c news rfl ?qc1 ?qc2 ?qc3 ?qc4 ?qc5 ?qc6 ?_)
  case qc1 => exact hl
  case qc2 => exact hc.out
  case qc3 => exact h1.out
  case qc4 => rw [Nat.zero_add]; unfold maxLen; omega
  case qc5 => rw [Nat.zero_add]; omega
  case qc6 => simp
  intro v' w1 hown hgrow hnil
  have HO := Lib.hid hown
  have HG := Lib.hid hgrow
  have HN := Lib.hid hnil
  clear hown hgrow hnil hl
  go_wp2
  go_ret
  refine ⟨v', rfl, by simpa using HO.out, ?_, ?_⟩
  · exact HN.out
  · exact ((Below.refl _ w).alloc (Nat.le_refl _) _).grown HG.out (by simp) (by intro k hk; simp [Value.ownBlock] at hk; omega)
set_option maxRecDepth 100000 in
theorem clone_none (n c : Nat) (w : World) :
    Calls Try.prog 27 #[.slice none n c] w fun e w' => e = .returned (.slice none 0 0) ∧ w' = w := by
  have q22 : ∀ (w : World) (a : Option Addr) (n c n' c' : Nat), (binOp .eql 22 (.slice a n c) (.slice none n' c')).run Try.prog w = .ok (.bool a.isNone) w := fun w a n c n' c' => Lib.run_eql_slice_nil w _ _ a n c n' c' Try.underlying22
  go_enter Try.func27, Try.ntmps27
  go_wp2
  go_ret
  exact ⟨rfl, rfl⟩
/-- a copy reads as what it is copied from -/
theorem clone_p (v : Value) (l : List (Int × Int)) (w : World) (h : Pts w v l) (hn : l.length ≤ 1000) :
    Calls Try.prog 27 #[v] w fun e w' => ∃ u, e = .returned u ∧ Pts w' u l ∧ Below w.heap.size w w' := by
  obtain ⟨a, c, rfl, hl, h⟩ := h
  cases a with
  | none =>
    rcases h with h | ⟨b, off, hx, _⟩
    · obtain rfl := List.length_eq_zero_iff.1 h
      refine (clone_none _ c w).mono fun _ w' g => ⟨_, g.1, ?_, by rw [g.2]; exact Below.refl _ _⟩
      exact pts_nil w'
    · cases hx
  | some ad =>
    refine (clone_some ad l.length c (flat l) w (flat_len l) hn ?_ (flat_one l)).mono fun _ w' ⟨u, g1, g2, _, g4⟩ => ⟨u, g1, OwnP.pts (show OwnP w' w.heap.size u l from g2), g4⟩
    intro j u hj
    rcases h with h | ⟨b, off, hx, hb, hc⟩
    · obtain rfl := List.length_eq_zero_iff.1 h
      simp [flat] at hj
    · obtain rfl := Option.some.inj hx
      obtain ⟨i, hi, ⟨rfl, rfl⟩ | ⟨rfl, rfl⟩⟩ := flat_inv l j u hj
      · rw [Go.WideShapes.add_plain, World.cell?_alloc_lt w _ _ hb]
        exact (hc i hi).1
      · rw [Go.WideShapes.add_plain, World.cell?_alloc_lt w _ _ hb, ← Nat.add_assoc]
        exact (hc i hi).2
end Go.Proofs.Ytooofppgjknigaa

/- Copies of lists of points that can be written; parts of slices. -/
namespace Go.Proofs.Ytooofppgjknigaa
open Go.RowKit

/-- the cells of points that can be written -/
def CC (W : World) (g n : Nat) (F R : Nat → Int) : Prop :=
  ∀ j, j < n → (W.cell? ⟨g, j * 2, none⟩ = some (.int .i64 (F j)) ∧ W.cell? ⟨g, j * 2 + 1, none⟩ = some (.int .i64 (R j))) ∧ W.frozen? ⟨g, j * 2, none⟩ = false ∧ W.frozen? ⟨g, j * 2 + 1, none⟩ = false
theorem CC.drew {W : World} {g n : Nat} {F R : Nat → Int} (h : CC W g n F R) : CC W.drew g n F R := h
theorem CC.below {W W' : World} {g n : Nat} {F R : Nat → Int} (h : CC W g n F R) (hg : g < W.heap.size) (hb : Below W.heap.size W W') : CC W' g n F R := fun j hj => by
  obtain ⟨⟨h0, h1⟩, h2, h3⟩ := h j hj
  exact ⟨⟨by rw [(bcell hb).1 _ _ hg]; exact h0, by rw [(bcell hb).1 _ _ hg]; exact h1⟩, by rw [(bcell hb).2 _ _ hg]; exact h2, by rw [(bcell hb).2 _ _ hg]; exact h3⟩
theorem CC.congr {W : World} {g n : Nat} {F R F' R' : Nat → Int} (h : CC W g n F R) (e : ∀ j, j < n → F j = F' j ∧ R j = R' j) : CC W g n F' R' := fun j hj => by
  obtain ⟨e1, e2⟩ := e j hj
  have := h j hj
  rwa [e1, e2] at this
theorem cell_off {W : World} {g i k : Nat} {u v : Value} (h : W.cell? ⟨g, i, none⟩ = some v) (e : i ≠ k) : (W.setCell ⟨g, k, none⟩ u).cell? ⟨g, i, none⟩ = some v := by
  rw [World.cell?_setCell_other _ _ _ _ (by intro e2; simp only [Addr.mk.injEq] at e2; omega)]; exact h
/-- a store to an X -/
theorem CC.setX {W : World} {g n k : Nat} {F R : Nat → Int} (h : CC W g n F R) (hk : k < n) (z : Int) : CC (W.setCell ⟨g, k * 2, none⟩ (.int .i64 z)) g n (fun j => if j = k then z else F j) R := by
  intro j hj
  obtain ⟨⟨h0, h1⟩, h2, h3⟩ := h j hj
  refine ⟨⟨?_, cell_off h1 (by omega)⟩, by rw [World.frozen?_setCell]; exact h2, by rw [World.frozen?_setCell]; exact h3⟩
  by_cases e : j = k
  · subst e
    simp only [if_true]
    exact World.cell?_setCell_same _ _ _ h0
  · simp only [if_neg e]
    exact cell_off h0 (by omega)
/-- a store to a radius -/
theorem CC.setR {W : World} {g n k : Nat} {F R : Nat → Int} (h : CC W g n F R) (hk : k < n) (z : Int) : CC (W.setCell ⟨g, k * 2 + 1, none⟩ (.int .i64 z)) g n F (fun j => if j = k then z else R j) := by
  intro j hj
  obtain ⟨⟨h0, h1⟩, h2, h3⟩ := h j hj
  refine ⟨⟨cell_off h0 (by omega), ?_⟩, by rw [World.frozen?_setCell]; exact h2, by rw [World.frozen?_setCell]; exact h3⟩
  by_cases e : j = k
  · subst e
    simp only [if_true]
    exact World.cell?_setCell_same _ _ _ h1
  · simp only [if_neg e]
    exact cell_off h1 (by omega)
theorem CC.pts {W : World} {g n cap : Nat} {F R : Nat → Int} {l : List (Int × Int)} (h : CC W g n F R) (hg : g < W.heap.size) (hl : l.length = n) (hc : n ≤ cap ∧ cap ≤ 9223372036854775807) (e : ∀ j, j < n → F j = gX l j ∧ R j = gR l j) : Pts W (.slice (some ⟨g, 0, none⟩) n cap) l := by
  subst hl
  refine ⟨_, cap, rfl, hc, .inr ⟨g, 0, rfl, hg, fun j hj => ?_⟩⟩
  obtain ⟨⟨h0, h1⟩, _, _⟩ := h j hj
  obtain ⟨e1, e2⟩ := e j hj
  rw [Nat.zero_add, ← e1, ← e2]
  exact ⟨h0, h1⟩
/-- a copy that can be written -/
theorem clone_w (v : Value) (l : List (Int × Int)) (w : World) (h : Pts w v l) (h0 : 0 < l.length) (hn : l.length ≤ 1000) :
    Calls Try.prog 27 #[v] w fun e w' => ∃ g cap, e = .returned (.slice (some ⟨g, 0, none⟩) l.length cap) ∧ (l.length ≤ cap ∧ cap ≤ 9223372036854775807) ∧ w.heap.size ≤ g ∧ g < w'.heap.size ∧ CC w' g l.length (gX l) (gR l) ∧ Below w.heap.size w w' := by
  obtain ⟨a, c, rfl, hl, h | ⟨b, off, rfl, hb, hc⟩⟩ := h
  · omega
  · refine (clone_some ⟨b, off, none⟩ l.length c (flat l) w (flat_len l) hn ?_ (flat_one l)).mono fun _ w' ⟨u, g1, g2, _, g4⟩ => ?_
    · intro j u hj
      obtain ⟨i, hi, ⟨rfl, rfl⟩ | ⟨rfl, rfl⟩⟩ := flat_inv l j u hj
      · rw [Go.WideShapes.add_plain, World.cell?_alloc_lt w _ _ hb]
        exact (hc i hi).1
      · rw [Go.WideShapes.add_plain, World.cell?_alloc_lt w _ _ hb, ← Nat.add_assoc]
        exact (hc i hi).2
    · have g2' := g2
      obtain ⟨_, g5⟩ := g2
      rcases g5 with ⟨_, hx⟩ | ⟨g, cap, cur, rfl, hg, hh, hcc, hm, _⟩
      · omega
      · have hlt : g < w'.heap.size := (Array.getElem?_eq_some_iff.1 hh).1
        unfold maxLen at hm
        refine ⟨g, cap, g1, by omega, hg, hlt, fun j hj => ?_, g4⟩
        have hcell := World.ownsRow.cells g2' (g := g) rfl
        have hf := flat_at l j hj
        have c0 := hcell _ _ hf.1
        have c1 := hcell _ _ hf.2
        rw [Go.WideShapes.add_plain, Nat.zero_add] at c0 c1
        exact ⟨⟨c0, c1⟩, by simp [World.frozen?, hh], by simp [World.frozen?, hh]⟩
end Go.Proofs.Ytooofppgjknigaa

/- Package audit: Repair. -/
namespace Go.Proofs.Ytooofppgjknigaa
open Go.RowKit

/-- the greatest difference among the first rows -/
def cgF (R D : Nat → Int) : Nat → Int
  | 0 => 0
  | k + 1 => max (cgF R D k) (max (D k - R k) (R k - D k))
/-- rows with other densities -/
def wiD (l : List (Int × Int)) (D : Nat → Int) : List (Int × Int) := (List.range l.length).map fun j => (gX l j, D j)
theorem wiD_len (l : List (Int × Int)) (D : Nat → Int) : (wiD l D).length = l.length := by simp [wiD]
theorem wiD_at (l : List (Int × Int)) (D : Nat → Int) {j : Nat} (h : j < l.length) : gX (wiD l D) j = gX l j ∧ gR (wiD l D) j = D j := by
  have : (wiD l D).getD j (0, 0) = (gX l j, D j) := by simp [wiD, List.getD_eq_getElem?_getD, h]
  exact ⟨by show ((wiD l D).getD j (0, 0)).1 = _; rw [this], by show ((wiD l D).getD j (0, 0)).2 = _; rw [this]⟩
set_option maxHeartbeats 8000000 in
theorem auRp_bad (v : Value) (E : Int) (w : World) (he : (E == 0) = false)
    (H : Hid (Calls Try.prog 44 #[v] w fun e w' => e = .returned (.bool (E == 0)) ∧ Below w.heap.size w w')) :
    Calls Try.prog 21 #[v] w fun e w' => e = .returned (.tuple #[.slice none 0 0, .int .i64 0, .int .i64 1]) ∧ Below w.heap.size w w' := by
  rw [he] at H
  go_enter Try.func21, Try.ntmps21
  go_wp2_with fail
  refine H.out.mono ?_
  rintro e w1 ⟨rfl, gg⟩
  have X := Lib.hid gg; clear gg
  go_wp2
  go_returns
  exact ⟨rfl, X.out⟩
theorem run_max3 (w : World) (ts : Array TypeId) (t : TypeId) (x y z : Int) : (Builtin.max_ ts t #[.int .i64 x, .int .i64 y, .int .i64 z]).run Try.prog w = .ok (.int .i64 (max x (max y z))) w := by
  have e : (if (if x < y then y else x) < z then z else if x < y then y else x) = max x (max y z) := by
    by_cases h : x < y
    · simp only [if_pos h]; split <;> omega
    · simp only [if_neg h]; split <;> omega
  simp [Builtin.max_, Builtin.max2, e]
/-- what Repair keeps -/
def ReI (w : World) (gb n : Nat) (X D : Nat → Int) (W : World) : Prop := CC W gb n X D ∧ gb < W.heap.size ∧ w.heap.size ≤ gb ∧ Below w.heap.size w W
theorem ReI.below {w W W' : World} {gb n : Nat} {X D : Nat → Int} (h : ReI w gb n X D W) (hb : Below W.heap.size W W') : ReI w gb n X D W' := ⟨h.1.below h.2.1 hb, Nat.lt_of_lt_of_le h.2.1 hb.size, h.2.2.1, bel_trans h.2.2.2 hb⟩
theorem ReI.set {w W : World} {gb n k : Nat} {X D D' : Nat → Int} {z : Int} (h : ReI w gb n X D W) (hk : k < n) (e : ∀ j, j < n → (if j = k then z else D j) = D' j) : ReI w gb n X D' (W.setCell ⟨gb, k * 2 + 1, none⟩ (.int .i64 z)) :=
  ⟨(h.1.setR hk z).congr (fun j hj => ⟨rfl, e j hj⟩), by simpa [World.setCell] using h.2.1, h.2.2.1, h.2.2.2.setCell (p := ⟨gb, k * 2 + 1, none⟩) h.2.2.1 _⟩
set_option maxHeartbeats 32000000 in
set_option maxRecDepth 100000 in
theorem auRp_ok (b off n cap : Nat) (l : List (Int × Int)) (D : Nat → Int) (w : World) (n0 : 1 ≤ n) (n1 : n ≤ 128) (hb : b < w.heap.size)
    (hc : Hid (∀ j, j < n → w.cell? ⟨b, off + j * 2, none⟩ = some (.int .i64 (gX l j)) ∧ w.cell? ⟨b, off + j * 2 + 1, none⟩ = some (.int .i64 (gR l j))))
    (hd : Hid (∀ j, j < n → 50000 ≤ gR l j ∧ gR l j ≤ 120000)) (hD : Hid (∀ j, 0 ≤ D j ∧ D j ≤ 200000))
    (H : Hid (Calls Try.prog 44 #[.slice (some ⟨b, off, none⟩) n cap] w fun e w' => e = .returned (.bool true) ∧ Below w.heap.size w w'))
    (HC : Hid (∀ W, Below w.heap.size w W → Calls Try.prog 27 #[.slice (some ⟨b, off, none⟩) n cap] W fun e w' => ∃ g cap, e = .returned (.slice (some ⟨g, 0, none⟩) n cap) ∧ (n ≤ cap ∧ cap ≤ 9223372036854775807) ∧ W.heap.size ≤ g ∧ g < w'.heap.size ∧ CC w' g n (gX l) (gR l) ∧ Below W.heap.size W w'))
    (HR : Hid (∀ k W, k < n → Below w.heap.size w W → Calls Try.prog 52 #[.slice (some ⟨b, off, none⟩) n cap, .agg #[.int .i64 (gX l k), .int .i64 (gR l k)]] W fun e w' => e = .returned (.int .i64 (D k)) ∧ Below W.heap.size W w')) :
    Calls Try.prog 21 #[.slice (some ⟨b, off, none⟩) n cap] w fun e w' => ∃ u, e = .returned (.tuple #[u, .int .i64 (cgF (gR l) D n), .int .i64 0]) ∧ (∃ g cap, u = .slice (some ⟨g, 0, none⟩) n cap ∧ (n ≤ cap ∧ cap ≤ 9223372036854775807) ∧ g < w'.heap.size ∧ CC w' g n (gX l) D) ∧ Below w.heap.size w w' := by
  have M3 := run_max3
  go_enter Try.func21, Try.ntmps21
  go_wp2_with fail
  refine H.out.mono ?_
  rintro e w0 ⟨rfl, gg⟩
  have X0 := Lib.hid gg; clear gg H
  go_wp2_with fail
  refine (HC.out _ X0.out).mono ?_
  rintro e w1 ⟨gb, cp, rfl, hcap, hg0, hg1, hcc, gg⟩
  have X1 := Lib.hid (bel_trans X0.out gg); clear gg HC
  have S0 : Hid (ReI w gb n (gX l) (fun j => if j < 0 then D j else gR l j) w1) := Lib.hid ⟨hcc.congr (fun j _ => ⟨rfl, by simp⟩), hg1, Nat.le_trans X0.out.size hg0, X1.out⟩
  replace hcap := Lib.hid hcap
  clear hcc hg0 hg1
  go_wp2_with fail
  go_loopw [6, 16] (fun ch ii wr => ∃ k : Nat, k ≤ n ∧ ii = .int .i64 (k : Int) ∧ ch = .int .i64 (cgF (gR l) D k) ∧ Hid (ReI w gb n (gX l) (fun j => if j < k then D j else gR l j) wr)) (fun _ ii _ => n - (intOf ii).toNat)
  case atStart => exact ⟨0, Nat.zero_le _, rfl, rfl, S0⟩
  case round =>
    clear S0
    obtain ⟨k, hk, rfl, rfl, hS⟩ := hrel
    by_cases hlt : k < n
    · have c0 := cell_bel (hc.out k hlt).1 hS.out.2.2.2
      have c1 := cell_bel (hc.out k hlt).2 hS.out.2.2.2
      have l0 : (k : Int) < (n : Int) := by omega
      have HK := Lib.hid (fun W hW => HR.out k W hlt hW)
      have bd := hd.out k hlt
      have bD := hD.out k
      have S1 := Lib.hid (hS.out.below (bel_alloc (o := .cells #[.int .i64 (gX l k), .int .i64 (gR l k)] 46) (Below.refl _ _)))
      have T1 := Lib.hid (Two.new wr (.int .i64 (gX l k)) (.int .i64 (gR l k)) 46)
      have hne : Hid (gb ≠ wr.heap.size) := Lib.hid (by have := hS.out.2.1; omega)
      have SS : Hid (∀ W, ReI w gb n (gX l) (fun j => if j < k then D j else gR l j) W → ReI w gb n (gX l) (fun j => if j < k + 1 then D j else gR l j) (W.setCell ⟨gb, k * 2 + 1, none⟩ (.int .i64 (D k)))) := Lib.hid fun W h => h.set hlt (fun j hj => by
        show (if j = k then D k else if j < k then D j else gR l j) = if j < k + 1 then D j else gR l j
        by_cases e : j = k
        · subst e; rw [if_pos rfl, if_pos (by omega)]
        · rw [if_neg e]
          by_cases e2 : j < k
          · rw [if_pos e2, if_pos (by omega)]
          · rw [if_neg e2, if_neg (by omega)])
      have hcg : Hid (cgF (gR l) D (k + 1) = max (cgF (gR l) D k) (max (D k - gR l k) (gR l k - D k))) := Lib.hid rfl
      have wa : IntKind.i64.wrap (D k - gR l k) = D k - gR l k := wrap_in _ ⟨by omega, by omega⟩
      have wb : IntKind.i64.wrap (gR l k - D k) = gR l k - D k := wrap_in _ ⟨by omega, by omega⟩
      have CD : Hid (∀ W, ReI w gb n (gX l) (fun j => if j < k + 1 then D j else gR l j) W → W.cell? ⟨gb, k * 2 + 1, none⟩ = some (.int .i64 (D k))) := Lib.hid fun W h => by
        have := (h.1 k hlt).1.2
        simpa using this
      have CF : Hid (∀ W, ReI w gb n (gX l) (fun j => if j < k then D j else gR l j) W → W.cell? ⟨gb, k * 2 + 1, none⟩ = some (.int .i64 (gR l k)) ∧ W.frozen? ⟨gb, k * 2 + 1, none⟩ = false) := Lib.hid fun W h => by
        have := (h.1 k hlt)
        exact ⟨by simpa using this.1.2, this.2.2⟩
      clear hS
      generalize cgF (gR l) D k = G at *
      generalize D k = d at *
      generalize gX l k = x at *
      generalize gR l k = r at *
      go_wp2_with fail
      refine (HK.out _ S1.out.2.2.2).mono ?_
      rintro e w2 ⟨rfl, gg⟩
      replace T1 := Lib.hid (T1.out.below gg)
      replace S1 := Lib.hid (S1.out.below gg)
      clear gg c0 c1 HK
      have S2 := Lib.hid (SS.out _ S1.out)
      have T2 := Lib.hid (T1.out.other ⟨gb, k * 2 + 1, none⟩ hne.out (.int .i64 d))
      have e1 := CD.out _ S2.out
      obtain ⟨t0, t1, _, _, _⟩ := T1.out
      obtain ⟨u0, u1, _, _, _⟩ := T2.out
      obtain ⟨f0, f1⟩ := CF.out _ S1.out
      go_wp2_with fail
      clear t0 t1 f0 f1 T1
      generalize w2.setCell ⟨gb, k * 2 + 1, none⟩ (.int .i64 d) = w3 at *
      have S3 := Lib.hid (fun q => S2.out.below (bel_drewN w3 q))
      go_quiet (fail)
      go_wp2
      go_roundw
      case rel => exact ⟨k + 1, by omega, by go_num, by rw [hcg.out], S3.out _⟩
      case measure => simp [intOf]; omega
    · obtain rfl : k = n := by omega
      have SF : Hid (CC wr gb k (gX l) D) := Lib.hid (hS.out.1.congr (fun j hj => ⟨rfl, by show (if j < k then D j else gR l j) = D j; rw [if_pos hj]⟩))
      have XF := Lib.hid hS.out.2.2.2
      have GF := Lib.hid hS.out.2.1
      clear hS
      go_wp2
      go_returns
      exact ⟨_, rfl, ⟨gb, cp, rfl, hcap.out, GF.out, SF.out⟩, XF.out⟩
/-- what Repair returns -/
def rpF (l : List (Int × Int)) (j : Nat) : Int := rpD l l.length (gX l j)
def rpL (l : List (Int × Int)) : List (Int × Int) := if auE l = 0 then wiD l (rpF l) else []
def rpV (l : List (Int × Int)) : Int := if auE l = 0 then cgF (gR l) (rpF l) l.length else 0
theorem loF_bd {zs : List Int} (h : ∀ z ∈ zs, 50000 ≤ z ∧ z ≤ 120000) : ∀ k, k ≤ zs.length → 50000 ≤ loF zs k ∧ loF zs k ≤ 120000
  | 0, _ => by simp [loF]
  | k + 1, hk => by
    have ih := loF_bd h k (by omega)
    have := h _ (getD_mem (show k < zs.length by omega))
    unfold loF; omega
theorem hiF_bd {zs : List Int} (h : ∀ z ∈ zs, 50000 ≤ z ∧ z ≤ 120000) : ∀ k, k ≤ zs.length → 50000 ≤ hiF zs k ∧ hiF zs k ≤ 120000
  | 0, _ => by simp [hiF]
  | k + 1, hk => by
    have ih := hiF_bd h k (by omega)
    have := h _ (getD_mem (show k < zs.length by omega))
    unfold hiF; omega
theorem wkL_mem {l : List (Int × Int)} {x z : Int} : ∀ {k : Nat}, z ∈ wkL l x k ↔ ∃ i, i < k ∧ gX l i ≤ x ∧ z = gR l i
  | 0 => by simp [wkL]
  | k + 1 => by
    have ih := @wkL_mem l x z k
    unfold wkL
    constructor
    · intro h
      split at h
      · rename_i g
        rcases List.mem_append.1 h with h | h
        · obtain ⟨i, h1, h2⟩ := ih.1 h; exact ⟨i, by omega, h2⟩
        · rw [List.mem_singleton] at h; exact ⟨k, by omega, g, h⟩
      · obtain ⟨i, h1, h2⟩ := ih.1 h; exact ⟨i, by omega, h2⟩
    · rintro ⟨i, h1, h2, h3⟩
      by_cases e : i = k
      · subst e; rw [if_pos h2, List.mem_append, List.mem_singleton]; exact .inr h3
      · have := ih.2 ⟨i, by omega, h2, h3⟩
        split
        · rw [List.mem_append]; exact .inl this
        · exact this
theorem sgL_mem {l : List (Int × Int)} {x z : Int} : ∀ {k : Nat}, z ∈ sgL l x k ↔ ∃ i, i < k ∧ x ≤ gX l i ∧ z = gR l i
  | 0 => by simp [sgL]
  | k + 1 => by
    have ih := @sgL_mem l x z k
    unfold sgL
    constructor
    · intro h
      split at h
      · rename_i g
        rcases List.mem_append.1 h with h | h
        · obtain ⟨i, h1, h2⟩ := ih.1 h; exact ⟨i, by omega, h2⟩
        · rw [List.mem_singleton] at h; exact ⟨k, by omega, g, h⟩
      · obtain ⟨i, h1, h2⟩ := ih.1 h; exact ⟨i, by omega, h2⟩
    · rintro ⟨i, h1, h2, h3⟩
      by_cases e : i = k
      · subst e; rw [if_pos h2, List.mem_append, List.mem_singleton]; exact .inr h3
      · have := ih.2 ⟨i, by omega, h2, h3⟩
        split
        · rw [List.mem_append]; exact .inl this
        · exact this
theorem wk_bd {l : List (Int × Int)} (hA : AR l) (x : Int) : ∀ z ∈ wkL l x l.length, 50000 ≤ z ∧ z ≤ 120000 := fun z hz => by
  obtain ⟨i, h1, _, rfl⟩ := wkL_mem.1 hz
  exact (hA.b i h1).2.2
theorem sg_bd {l : List (Int × Int)} (hA : AR l) (x : Int) : ∀ z ∈ sgL l x l.length, 50000 ≤ z ∧ z ≤ 120000 := fun z hz => by
  obtain ⟨i, h1, _, rfl⟩ := sgL_mem.1 hz
  exact (hA.b i h1).2.2
theorem rpD_bd {l : List (Int × Int)} (hA : AR l) (x : Int) : 50000 ≤ rpD l l.length x ∧ rpD l l.length x ≤ 120000 := by
  have h1 := hiF_bd (sg_bd hA x) _ (Nat.le_refl _)
  have h2 := loF_bd (wk_bd hA x) _ (Nat.le_refl _)
  unfold rpD; omega
/-- Repair -/
theorem auRp_any (v : Value) (l : List (Int × Int)) (w : World) (hv : Pts w v l) :
    Calls Try.prog 21 #[v] w fun e w' => ∃ u, e = .returned (.tuple #[u, .int .i64 (rpV l), .int .i64 (leE l)]) ∧ Pts w' u (rpL l) ∧ Below w.heap.size w w' := by
  have HR := auRt_any v l w hv
  unfold rpL rpV leE
  by_cases h : auE l = 0
  · rw [if_pos h, if_pos h, if_pos h]
    have hA := auE_zero.1 h
    have n0 := hA.n0
    have n1 := hA.n1
    rw [show (auE l == 0) = true by simpa using h] at HR
    have hv2 := hv
    obtain ⟨a, cap, rfl, hl, hh⟩ := hv
    rcases hh with hh | ⟨b, off, rfl, hb, hc⟩
    · omega
    · have hd : ∀ j, j < l.length → 50000 ≤ gR l j ∧ gR l j ≤ 120000 := fun j hj => ⟨(hA.b j hj).2.2.1, (hA.b j hj).2.2.2⟩
      refine (auRp_ok b off l.length cap l (rpF l) w n0 n1 hb (Lib.hid hc) (Lib.hid hd) (Lib.hid fun j => by have := rpD_bd hA (gX l j); unfold rpF; omega) HR (Lib.hid fun W hW => clone_w _ l W (hv2.below hW) (by omega) (by omega)) (Lib.hid fun k W hk hW => ?_)).mono fun e' w' ⟨u, h1, ⟨g, cp, h2, h3, h4, h5⟩, h6⟩ => ⟨u, h1, ?_, h6⟩
      · have h1 := hiF_bd (sg_bd hA (gX l k)) _ (Nat.le_refl _)
        have h2 := loF_bd (wk_bd hA (gX l k)) _ (Nat.le_refl _)
        exact rpd_some b off l.length cap l (gX l k) (gR l k) _ _ W n1 (Nat.lt_of_lt_of_le hb hW.size) (Lib.hid fun j hj => ⟨cell_bel (hc j hj).1 hW, cell_bel (hc j hj).2 hW⟩) (Lib.hid rfl) (Lib.hid rfl) (by omega) (by omega)
      · subst h2
        exact h5.pts h4 (wiD_len _ _) h3 (fun j hj => by rw [(wiD_at l _ hj).1, (wiD_at l _ hj).2]; exact ⟨rfl, rfl⟩)
  · rw [if_neg h, if_neg h, if_neg h]
    exact (auRp_bad v (auE l) w (by simpa using h) HR).mono fun e' w' g => ⟨_, g.1, pts_nil w', g.2⟩
end Go.Proofs.Ytooofppgjknigaa

/- Package audit: Largest. -/
namespace Go.Proofs.Ytooofppgjknigaa
open Go.RowKit

set_option maxHeartbeats 8000000 in
theorem auLg_bad (v : Value) (E : Int) (w : World) (he : (E == 0) = false)
    (H : Hid (Calls Try.prog 44 #[v] w fun e w' => e = .returned (.bool (E == 0)) ∧ Below w.heap.size w w')) :
    Calls Try.prog 19 #[v] w fun e w' => e = .returned (.tuple #[.slice none 0 0, .int .i64 1]) ∧ Below w.heap.size w w' := by
  rw [he] at H
  go_enter Try.func19, Try.ntmps19
  go_wp2_with fail
  refine H.out.mono ?_
  rintro e w1 ⟨rfl, gg⟩
  have X := Lib.hid gg; clear gg
  go_wp2
  go_returns
  exact ⟨rfl, X.out⟩
set_option maxHeartbeats 32000000 in
set_option maxRecDepth 100000 in
theorem auLg_ok (b off n cap : Nat) (l : List (Int × Int)) (g : Nat → Int) (M : Int) (w : World) (n0 : 1 ≤ n) (n1 : n ≤ 128) (hb : b < w.heap.size) (M0 : 0 ≤ M ∧ M ≤ 128)
    (hc : Hid (∀ j, j < n → w.cell? ⟨b, off + j * 2, none⟩ = some (.int .i64 (gX l j)) ∧ w.cell? ⟨b, off + j * 2 + 1, none⟩ = some (.int .i64 (gR l j))))
    (hd : Hid (∀ j, j < n → 50000 ≤ gR l j ∧ gR l j ≤ 120000))
    (H : Hid (Calls Try.prog 44 #[.slice (some ⟨b, off, none⟩) n cap] w fun e w' => e = .returned (.bool true) ∧ Below w.heap.size w w'))
    (HM : Hid (∀ W, Below w.heap.size w W → Calls Try.prog 49 #[.slice (some ⟨b, off, none⟩) n cap] W fun e w' => e = .returned (.tuple #[.agg (aL 128 g).toArray, .int .i64 M]) ∧ Below W.heap.size W w')) :
    Calls Try.prog 19 #[.slice (some ⟨b, off, none⟩) n cap] w fun e w' => ∃ u, e = .returned (.tuple #[u, .int .i64 0]) ∧ Nums w' u (chS l g M n).1 ∧ Below w.heap.size w w' := by
  obtain ⟨i0, hi, hz0, hz1, hz2⟩ := info_parts info_int
  replace hi := Lib.hid hi
  replace hz0 := Lib.hid hz0
  replace hz1 := Lib.hid hz1
  replace hz2 := Lib.hid hz2
  have Z := zero_arr
  have hZ : Hid (∀ W : World, ArrB 128 W.heap.size (W.alloc (.cells (aL 128 fun _ => 0).toArray 65)) (fun _ => 0)) := Lib.hid fun W => ArrB.new 128 W _ _
  generalize (aL 128 fun _ => 0).toArray = ZA at *
  go_enter Try.func19, Try.ntmps19
  go_wp2_with fail
  refine H.out.mono ?_
  rintro e w0 ⟨rfl, gg⟩
  have X0 := Lib.hid gg; clear gg
  go_wp2_with fail
  refine (HM.out _ X0.out).mono ?_
  rintro e w1 ⟨rfl, gg⟩
  have X1 := Lib.hid (bel_trans X0.out gg); clear gg HM H
  have A1 := hZ.out w1
  have TH : Hid ((w1.alloc (.cells ZA 65)).there w1.heap.size 0 (aL 128 g).toArray.size) := Lib.hid fun j hj => by
    have hj : j < 128 := by simpa [aL] using hj
    rw [Nat.zero_add]
    exact ⟨by rw [(A1.1 j hj).1]; rfl, (A1.1 j hj).2⟩
  have SZ2 : Hid ((Try.prog.info? 65).map (·.size) = some (aL 128 g).toArray.size) := Lib.hid (by rw [List.size_toArray, aL_len]; kernel_rfl)
  have ON : Hid ((aL 128 g).toArray.all (·.oneCell') = true) := Lib.hid (all_oneCell_toArray (aL_one _ _))
  have A2 := Lib.hid (A1.put g)
  have X2 : Hid (Below w.heap.size w ((w1.alloc (.cells ZA 65)).setCells w1.heap.size 0 (aL 128 g))) := Lib.hid ((bel_trans X1.out (bel_alloc (Below.refl _ _))).trans (QTQ.below_cells X1.out.size _ _ _))
  generalize aL 128 g = AA at *
  clear A1
  go_wp2_with (refine wpList_store_mid rfl 65 _ _ rfl w1.heap.size 0 AA.toArray rfl rfl TH.out SZ2.out ON.out ?_)
  have X2 := Lib.hid X2.out
  have A2 := Lib.hid A2.out
  clear TH
  generalize (w1.alloc (.cells ZA 65)).setCells w1.heap.size 0 AA = W0 at *
  generalize w1.heap.size = q at *
  have S0 : Hid (OwnI W0 W0.heap.size (.slice none 0 0) (chS l g M 0).1) := Lib.hid (OwnI.nil _ _)
  have hcW : Hid (∀ W, Below W0.heap.size W0 W → Below w.heap.size w W ∧ (∀ j, j < n → W.cell? ⟨b, off + j * 2, none⟩ = some (.int .i64 (gX l j)) ∧ W.cell? ⟨b, off + j * 2 + 1, none⟩ = some (.int .i64 (gR l j))) ∧ ∀ j, j < 128 → W.cell? ⟨q, j, none⟩ = some (.int .i64 (g j))) := Lib.hid fun W hW => by
    have hw := bel_trans X2.out hW
    exact ⟨hw, fun j hj => ⟨cell_bel (hc.out j hj).1 hw, cell_bel (hc.out j hj).2 hw⟩, fun j hj => ((A2.out.below hW).1 j hj).1⟩
  go_loopw [5, 6, 19] (fun mm v ii wr => ∃ k : Nat, k ≤ n ∧ ii = .int .i64 (k : Int) ∧ mm = .int .i64 (chS l g M k).2 ∧ Hid (OwnI wr W0.heap.size v (chS l g M k).1) ∧ Hid (Below W0.heap.size W0 wr)) (fun _ _ ii _ => n - (intOf ii).toNat)
  case atStart => exact ⟨0, Nat.zero_le _, rfl, rfl, S0, Lib.hid (Below.refl _ _)⟩
  case round =>
    clear S0
    obtain ⟨k, hk, rfl, rfl, hO, hB⟩ := hrel
    by_cases hlt : k < n
    · obtain ⟨hw, hcc, hgg⟩ := hcW.out wr hB.out
      obtain ⟨c0, c1⟩ := hcc k hlt
      have a0 := hgg k (by omega)
      have l0 : (k : Int) < (n : Int) := by omega
      have l1 : (k : Int) < 128 := by omega
      obtain ⟨bl, b2, b3, b4⟩ := chS_bd l g M k
      have T := Lib.hid (Two.new wr (.int .i64 (gX l k)) (.int .i64 (gR l k)) 46)
      have AB := Lib.hid (bel_alloc (w := wr) (o := .cells #[.int .i64 (gX l k), .int .i64 (gR l k)] 46) (Below.refl _ _))
      have a1 := cell_bel a0 AB.out
      have PK : Hid (chS l g M (k + 1) = if g k = (chS l g M k).2 ∧ ((chS l g M k).1.length = 0 ∨ ex l ((chS l g M k).1.getD ((chS l g M k).1.length - 1) 0).toNat k ≤ 0) then ((chS l g M k).1 ++ [(k : Int)], (chS l g M k).2 - 1) else chS l g M k) := Lib.hid rfl
      by_cases e : g k = (chS l g M k).2
      · have de : (g k != (chS l g M k).2) = false := by simp [e]
        by_cases e0 : (chS l g M k).1.length = 0
        · have d0 : (((chS l g M k).1.length : Int) == 0) = true := by simp [e0]
          replace PK : Hid (chS l g M (k + 1) = ((chS l g M k).1 ++ [(k : Int)], (chS l g M k).2 - 1)) := Lib.hid (by rw [PK.out, if_pos ⟨e, .inl e0⟩])
          have wm : IntKind.i64.wrap ((chS l g M k).2 - 1) = (chS l g M k).2 - 1 := wrap_in _ ⟨by omega, by omega⟩
          have OA := Lib.hid (hO.out.below AB.out)
          have XA := Lib.hid (bel_trans hB.out AB.out)
          obtain ⟨av, cv, ev, _, _⟩ := hO.out.nums
          clear hcc hgg b4 e
          generalize hL : (chS l g M k).1 = L at *
          replace hL := Lib.hid hL
          obtain ⟨t, ht⟩ : ∃ t, L.length = t := ⟨_, rfl⟩
          rw [ht] at d0 bl ev
          have ez : (t : Int) = 0 := by omega
          subst ev
          replace ht := Lib.hid ht
          generalize (chS l g M k).2 = m at *
          generalize g k = G at *
          generalize gX l k = x at *
          generalize gR l k = r at *
          clear e0 ez
          go_wp2_with fail
          go_quiet (fail)
          generalize hW1 : wr.alloc (.cells #[.int .i64 x, .int .i64 r] 46) = W1 at *
          clear hW1
          have OA := Lib.hid (OA.out.below (bel_drewN W1 nq))
          have XA := Lib.hid (bel_trans XA.out (bel_drewN W1 nq))
          generalize W1.drewN nq = Wx at *
          have CN := Lib.hid (cell_oneE Wx (.int .i64 k) 3)
          have OB := Lib.hid (OA.out.below (bel_alloc (o := .cells #[.int .i64 k] 3) (Below.refl _ _)))
          have XB := Lib.hid (bel_trans XA.out (bel_alloc (o := .cells #[.int .i64 k] 3) (Below.refl _ _)))
          have HS : Hid (W0.heap.size ≤ (Wx.alloc (.cells #[.int .i64 k] 3)).heap.size) := Lib.hid XB.out.size
          have OC := OB
          unfold OwnI at OC
          rw [ht.out] at OC
          go_wp2_with (at_builtin; refine wpList_append_own_at _ rfl _ _ 35 rfl W0.heap.size 3 i0 (.int .i64 0) 1 8 Try.underlying35 hi.out hz0.out hz1.out hz2.out rfl (by omega) _ _ _ rfl OC.out ⟨Wx.heap.size, 0, none⟩ 1 1 [.int .i64 k] rfl rfl CN.out (by intro u hu; rw [List.mem_singleton] at hu; rw [hu]; rfl) ?qd4 ?qd5 HS.out ?_)
          case qd4 => unfold maxLen; omega
          case qd5 => omega
          intro v2 w2 hown3 hgrow _ _
          have SN : Hid (OwnI w2 W0.heap.size v2 (chS l g M (k + 1)).1) := Lib.hid (by rw [PK.out]; exact OwnI.push ht.out.symm hown3)
          have B2 := Lib.hid (XB.out.grown hgrow HS.out (fun q hq => (World.ownsRow.lt OC.out q hq).1))
          clear hown3 hgrow OA OB OC CN
          go_wp2
          go_roundw
          case rel => exact ⟨k + 1, by omega, by go_num, by rw [PK.out], SN, B2⟩
          case measure => simp [intOf]; omega
        · have d0 : (((chS l g M k).1.length : Int) == 0) = false := by
            rw [beq_eq_false_iff_ne]; omega
          obtain ⟨gb, cv, ev, hgb, hgl, _, _, hrow⟩ := hO.out.form (by omega)
          have hlast := hrow ((chS l g M k).1.length - 1) (by omega)
          obtain ⟨p, ep, hp⟩ := b4 _ (getD_mem (show (chS l g M k).1.length - 1 < (chS l g M k).1.length by omega))
          rw [ep] at hlast
          rw [ep] at PK
          obtain ⟨p0, p1⟩ := hcc p (by omega)
          have hlast := cell_bel hlast AB.out
          have p0 := cell_bel p0 AB.out
          have p1 := cell_bel p1 AB.out
          have HY := Lib.hid (fun W => may_any (gX l p) (gR l p) (gX l k) (gR l k) W (hd.out p (by omega)) (hd.out k hlt))
          have hex : Hid (ex l p k = exd (gX l p) (gR l p) (gX l k) (gR l k)) := Lib.hid rfl
          have wm : IntKind.i64.wrap ((chS l g M k).2 - 1) = (chS l g M k).2 - 1 := wrap_in _ ⟨by omega, by omega⟩
          have OA := Lib.hid (hO.out.below AB.out)
          have XA := Lib.hid (bel_trans hB.out AB.out)
          obtain ⟨t0, t1, _, _, _⟩ := T.out
          rw [show ((p : Nat) : Int).toNat = p by omega] at PK
          clear hcc hgg b4 ep hrow T
          generalize hL : (chS l g M k).1 = L at *
          obtain ⟨t, ht⟩ : ∃ t, L.length = t := ⟨_, rfl⟩
          rw [ht] at d0 bl ev e0 hlast
          subst ev
          have wt : IntKind.i64.wrap ((t : Int) - 1) = ((t - 1 : Nat) : Int) := by rw [wrap_in _ ⟨by omega, by omega⟩]; omega
          obtain ⟨c, hct⟩ : ∃ c : Nat, t = c + 1 := ⟨t - 1, by omega⟩
          subst hct
          have hne : ¬ L.length = 0 := by omega
          replace hne := Lib.hid hne
          replace hL := Lib.hid hL
          replace ht := Lib.hid ht
          rw [show c + 1 - 1 = c by omega] at wt hlast
          have wt2 : IntKind.i64.wrap ((c : Int) + 1 - 1) = (c : Int) := by rw [wrap_in _ ⟨by omega, by omega⟩]; omega
          have wt3 : IntKind.i64.wrap (c : Int) = (c : Int) := wrap_in _ ⟨by omega, by omega⟩
          have l2 : (c : Int) < ((c + 1 : Nat) : Int) := by omega
          have l3 : (p : Int) < (n : Int) := by omega
          have l4 : (c : Int) < (c : Int) + 1 := by omega
          generalize ex l p k = E at *
          generalize exd (gX l p) (gR l p) (gX l k) (gR l k) = E2 at *
          obtain rfl := hex.out
          generalize gX l p = x0 at *
          generalize gR l p = r0 at *
          generalize hm : (chS l g M k).2 = m at *
          generalize g k = G at *
          generalize gX l k = x at *
          generalize gR l k = r at *
          have XD := Lib.hid (bel_drew (wr.alloc (.cells #[.int .i64 x, .int .i64 r] 46)))
          replace hm := Lib.hid hm
          clear e0
          by_cases gE : E ≤ 0
          · have dE : decide (E ≤ 0) = true := decide_eq_true gE
            rw [dE] at HY
            replace PK : Hid (chS l g M (k + 1) = (L ++ [(k : Int)], m - 1)) := Lib.hid (by rw [PK.out, if_pos ⟨e, .inr gE⟩])
            clear e gE
            go_wp2_with fail
            generalize wr.alloc (.cells #[.int .i64 x, .int .i64 r] 46) = W1 at *
            go_region_held3 (fun w' => w'.cell? ⟨b, off + p * 2, none⟩ = some (.int .i64 x0) ∧ w'.cell? ⟨b, off + p * 2 + 1, none⟩ = some (.int .i64 r0) ∧ w'.cell? ⟨wr.heap.size, 0, none⟩ = some (.int .i64 x) ∧ w'.cell? ⟨wr.heap.size, 1, none⟩ = some (.int .i64 r) ∧ w'.cell? ⟨gb, c, none⟩ = some (.int .i64 p)) (go_keep) (first
              | (go_at_call 50; refine (HY.out _).mono ?_; rintro e w3 ⟨rfl, gg⟩; have X3 := Lib.hid (bel_trans XD.out gg); have p0 := cell_bel p0 X3.out; have p1 := cell_bel p1 X3.out; have t0 := cell_bel t0 X3.out; have t1 := cell_bel t1 X3.out; have hlast := cell_bel hlast X3.out; clear gg))
            have OA := Lib.hid (OA.out.below X3.out)
            have XA := Lib.hid (bel_trans XA.out X3.out)
            clear p0 p1 t0 t1 hlast
            have CN := Lib.hid (cell_oneE w3 (.int .i64 k) 3)
            have OB := Lib.hid (OA.out.below (bel_alloc (o := .cells #[.int .i64 k] 3) (Below.refl _ _)))
            have XB := Lib.hid (bel_trans XA.out (bel_alloc (o := .cells #[.int .i64 k] 3) (Below.refl _ _)))
            have HS : Hid (W0.heap.size ≤ (w3.alloc (.cells #[.int .i64 k] 3)).heap.size) := Lib.hid XB.out.size
            have OC := OB
            unfold OwnI at OC
            rw [ht.out] at OC
            go_wp2_with (at_builtin; refine wpList_append_own_at _ rfl _ _ 35 rfl W0.heap.size 3 i0 (.int .i64 0) 1 8 Try.underlying35 hi.out hz0.out hz1.out hz2.out rfl (by omega) _ _ _ rfl OC.out ⟨w3.heap.size, 0, none⟩ 1 1 [.int .i64 k] rfl rfl CN.out (by intro u hu; rw [List.mem_singleton] at hu; rw [hu]; rfl) ?qd4 ?qd5 HS.out ?_)
            case qd4 => unfold maxLen; omega
            case qd5 => omega
            intro v2 w2 hown3 hgrow _ _
            have SN : Hid (OwnI w2 W0.heap.size v2 (chS l g M (k + 1)).1) := Lib.hid (by rw [PK.out]; exact OwnI.push ht.out.symm hown3)
            have B2 := Lib.hid (XB.out.grown hgrow HS.out (fun q hq => (World.ownsRow.lt OC.out q hq).1))
            clear hown3 hgrow OA OB OC CN
            go_wp2
            go_roundw
            case rel => exact ⟨k + 1, by omega, by go_num, by rw [PK.out], SN, B2⟩
            case measure => simp [intOf]; omega
          · have dE : decide (E ≤ 0) = false := decide_eq_false gE
            rw [dE] at HY
            replace PK : Hid ((chS l g M (k + 1)).1 = L ∧ (chS l g M (k + 1)).2 = m) := Lib.hid (by
              rw [PK.out, if_neg (fun h => h.2.elim hne.out gE)]
              exact ⟨hL.out, hm.out⟩)
            clear e gE
            go_wp2_with fail
            generalize wr.alloc (.cells #[.int .i64 x, .int .i64 r] 46) = W1 at *
            go_region_held3 (fun w' => w'.cell? ⟨b, off + p * 2, none⟩ = some (.int .i64 x0) ∧ w'.cell? ⟨b, off + p * 2 + 1, none⟩ = some (.int .i64 r0) ∧ w'.cell? ⟨wr.heap.size, 0, none⟩ = some (.int .i64 x) ∧ w'.cell? ⟨wr.heap.size, 1, none⟩ = some (.int .i64 r) ∧ w'.cell? ⟨gb, c, none⟩ = some (.int .i64 p)) (go_keep) (first
              | (go_at_call 50; refine (HY.out _).mono ?_; rintro e w3 ⟨rfl, gg⟩; have X3 := Lib.hid (bel_trans XD.out gg); have p0 := cell_bel p0 X3.out; have p1 := cell_bel p1 X3.out; have t0 := cell_bel t0 X3.out; have t1 := cell_bel t1 X3.out; have hlast := cell_bel hlast X3.out; clear gg))
            have OA := Lib.hid (OA.out.below X3.out)
            have XA := Lib.hid (bel_trans XA.out X3.out)
            clear p0 p1 t0 t1 hlast
            go_wp2
            go_roundw
            case rel => exact ⟨k + 1, by omega, by go_num, by rw [PK.out.2], Lib.hid (by rw [PK.out.1]; exact OA.out), XA⟩
            case measure => simp [intOf]; omega
      · have de : (g k != (chS l g M k).2) = true := by simpa using e
        replace PK : Hid (chS l g M (k + 1) = chS l g M k) := Lib.hid (by rw [PK.out, if_neg (fun h => e h.1)])
        have OA := Lib.hid (hO.out.below AB.out)
        have XA := Lib.hid (bel_trans hB.out AB.out)
        clear hcc hgg b4 e
        generalize hm : (chS l g M k).2 = m at *
        replace hm := Lib.hid hm
        generalize g k = G at *
        generalize gX l k = x at *
        generalize gR l k = r at *
        go_wp2
        go_roundw
        case rel => exact ⟨k + 1, by omega, by go_num, by rw [PK.out, hm.out], by rw [PK.out]; exact OA, XA⟩
        case measure => simp [intOf]; omega
    · obtain rfl : k = n := by omega
      have XF := (hcW.out wr hB.out).1
      have NF := hO.out.nums
      go_wp2
      go_returns
      exact ⟨_, rfl, NF, XF⟩
/-- what Largest returns -/
def lgL (l : List (Int × Int)) : List Int := if auE l = 0 then (chS l (lgT l l.length l.length) (mxL l l.length l.length) l.length).1 else []
theorem nums_nil (w : World) : Nums w (.slice none 0 0) [] := ⟨none, 0, rfl, by simp, .inl rfl⟩
theorem auLg_any (v : Value) (l : List (Int × Int)) (w : World) (hv : Pts w v l) :
    Calls Try.prog 19 #[v] w fun e w' => ∃ u, e = .returned (.tuple #[u, .int .i64 (leE l)]) ∧ Nums w' u (lgL l) ∧ Below w.heap.size w w' := by
  have HR := auRt_any v l w hv
  unfold lgL leE
  by_cases h : auE l = 0
  · rw [if_pos h, if_pos h]
    have hA := auE_zero.1 h
    have n0 := hA.n0
    have n1 := hA.n1
    rw [show (auE l == 0) = true by simpa using h] at HR
    obtain ⟨a, cap, rfl, hl, hh⟩ := hv
    rcases hh with hh | ⟨b, off, rfl, hb, hc⟩
    · omega
    · have bd := mxL_bd l l.length l.length
      have hd : ∀ j, j < l.length → 50000 ≤ gR l j ∧ gR l j ≤ 120000 := fun j hj => ⟨(hA.b j hj).2.2.1, (hA.b j hj).2.2.2⟩
      exact auLg_ok b off l.length cap l _ _ w n0 n1 hb (by omega) hc (Lib.hid hd) HR (Lib.hid fun W hW => ms_some b off l.length cap l W n0 n1 (Nat.lt_of_lt_of_le hb hW.size) (Lib.hid fun j hj => ⟨cell_bel (hc j hj).1 hW, cell_bel (hc j hj).2 hW⟩) (Lib.hid hd))
  · rw [if_neg h, if_neg h]
    exact (auLg_bad v (auE l) w (by simpa using h) HR).mono fun e' w' g => ⟨_, g.1, nums_nil w', g.2⟩
end Go.Proofs.Ytooofppgjknigaa
