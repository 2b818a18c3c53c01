/- Texts that the proofs of this seat share, one behind the other: Kit, Two, QL0, QO0, QA, CB0, QT0, QT1, ND0, IA, IB, IC, AA, AB, AL0, AC, AD, QL, AE, QS0, QS, AO, ND2, IR, AR. -/
import Derived.Test.YtadkhhkoankhnaaProg
import Derived.Test.YtadkhhkoankhnaaRows
import Derived.Test.YtadkhhkoankhnaaShelf
import Derived.WalkKit
import Derived.Handy
import Derived.Lib.Hide
import Derived.Lib.LaidTab
import Derived.Lib.LaidU8
import Derived.Lib.ItoaNum
import Derived.Outline
import Derived.Deep.DeepCutAuto
import Derived.Deep.CutBlock
import Derived.Deep.QuietTactic
import Derived.BigQuiet
import Derived.Lib.OwnBridge
import Derived.OwnWalk
import Derived.Shelf.SlicesQ.Reverse
import Derived.Ground.SlgnProg
import Derived.ProofKit
import Derived.OpenShut
import Derived.ShutString
import Derived.ChangeOld
import Derived.Lib.SmallJoins
import Derived.MakeChecks
import Derived.Deep.Slices
import Derived.Deep.Fields
import Derived.ChangeSame
import Derived.Deep.SlicePairs
import Derived.FnLit
import Derived.RangeFuncBox
import Derived.StillTailTactics
import Derived.StillTail
import Derived.Deep.RegionHeld3
import Derived.Below

set_option linter.unusedVariables false
set_option linter.unusedSimpArgs false

/- What every text of this seat needs: worlds that only grow, the listed variables. -/
namespace Go.Proofs.Ytadkhhkoankhnaa
open Go.RowKit

theorem bel_alloc {w w' : World} {o : Obj} (h : Below (w.alloc o).heap.size (w.alloc o) w') : Below w.heap.size w w' :=
  ((Below.refl _ _).alloc (Nat.le_refl _) o).trans (h.mono (by simp))
theorem bel_trans {w w1 w2 : World} (h : Below w.heap.size w w1) (h2 : Below w1.heap.size w1 w2) : Below w.heap.size w w2 := h.trans (h2.mono h.size)
theorem bel_drewN (w : World) (n : Nat) : Below w.heap.size w (w.drewN n) := ⟨rfl, rfl, rfl, Nat.le_refl _, fun _ _ => rfl⟩
theorem bel_drew (w : World) : Below w.heap.size w w.drew := ⟨rfl, rfl, rfl, Nat.le_refl _, fun _ _ => rfl⟩
theorem bcell {W w1 : World} (hb : Below W.heap.size W w1) : (∀ b o, b < W.heap.size → w1.cell? ⟨b, o, none⟩ = W.cell? ⟨b, o, none⟩) ∧ (∀ b o, b < W.heap.size → w1.frozen? ⟨b, o, none⟩ = W.frozen? ⟨b, o, none⟩) :=
  ⟨fun b o h => hb.cell (p := ⟨b, o, none⟩) h, fun b o h => hb.frozen (p := ⟨b, o, none⟩) h⟩

theorem var_keep {P : Program} {w w' : World} {n : String} (g : Nat) (hg : P.globalNamed n = some g) (hlt : g < w.heap.size) (hb : Below w.heap.size w w') : w'.var? P n = w.var? P n := by
  simp only [World.var?, hg, Option.bind_some]
  rw [hb.block g hlt]
theorem tab_keep {P : Program} {w w' : World} {n : String} {k : IntKind} {zs : List Int} (g : Nat) (hg : P.globalNamed n = some g) (hz : 0 < zs.length) (h : Lib.TabIs P w n k zs) (hb : Below w.heap.size w w') : Lib.TabIs P w' n k zs := by
  unfold Lib.TabIs at *
  rw [var_keep g hg ?_ hb, h]
  have := Lib.TabIs.cell (P := P) (W := w) h hg 0 hz
  exact World.block_lt_of_cell? w ⟨g, 0, none⟩ this

/-- a listed table of integers -/
theorem tab_of {P : Program} {W : World} {l : List (String × DataW Unit)} {name : String} {d : DataW Unit} {k : IntKind} {zs : List Int} {g : Nat} {t e : TypeId} {n : Nat}
    (h : laidMet P l W) (hm : (name, d) ∈ l) (hd : d = Lib.tabData k zs)
    (hg : P.globalNamed name = some g) (hty : (P.globals[g]?).map (·.type) = some t) (ht : P.underlying t = some (.array n e)) (he : P.underlying e = some (.int k)) (hce : P.cellsOf e = 1) (hct : P.cellsOf t = n) : Lib.TabIs P W name k zs := by
  subst hd
  obtain ⟨g', t', cs, fuel, p, hg', ht', hvar, hr⟩ := Lib.laidMet.reads h hm
  obtain rfl := Option.some.inj (hg.symm.trans hg')
  obtain rfl := Option.some.inj (hty.symm.trans ht')
  unfold Lib.TabIs
  rw [hvar, ← Lib.cells_of_tab ht he hce hct hr]

theorem wrap_wrap_add (a b : Int) : IntKind.i64.wrap (IntKind.i64.wrap a + b) = IntKind.i64.wrap (a + b) := by simp only [IntKind.wrap_i64]; omega
theorem wrap_wrap_sub (a b : Int) : IntKind.i64.wrap (IntKind.i64.wrap a - b) = IntKind.i64.wrap (a - b) := by simp only [IntKind.wrap_i64]; omega
theorem wrap_add_wrap (a b : Int) : IntKind.i64.wrap (a + IntKind.i64.wrap b) = IntKind.i64.wrap (a + b) := by simp only [IntKind.wrap_i64]; omega
theorem wrap_sub_wrap (a b : Int) : IntKind.i64.wrap (a - IntKind.i64.wrap b) = IntKind.i64.wrap (a - b) := by simp only [IntKind.wrap_i64]; omega
theorem wrap_bd (a : Int) : -9223372036854775808 ≤ IntKind.i64.wrap a ∧ IntKind.i64.wrap a ≤ 9223372036854775807 := by simp only [IntKind.wrap_i64]; omega
theorem wrap_in (a : Int) (h : -9223372036854775808 ≤ a ∧ a ≤ 9223372036854775807) : IntKind.i64.wrap a = a := by simp only [IntKind.wrap_i64]; omega

theorem ret_int {k : IntKind} {a b : Int} (h : a = b) : Ending.returned (.int k a) = .returned (.int k b) := by rw [h]
theorem ret_bool {a b : Bool} (h : a = b) : Ending.returned (.bool a) = .returned (.bool b) := by rw [h]
end Go.Proofs.Ytadkhhkoankhnaa

/- A block with two cells. -/
namespace Go.Proofs.Ytadkhhkoankhnaa
open Go.RowKit

def Two (b : Nat) (W : World) (x y : Value) : Prop := W.cell? ⟨b, 0, none⟩ = some x ∧ W.cell? ⟨b, 1, none⟩ = some y ∧ W.frozen? ⟨b, 0, none⟩ = false ∧ W.frozen? ⟨b, 1, none⟩ = false ∧ b < W.heap.size
theorem Two.below {b : Nat} {W W' : World} {x y : Value} (h : Two b W x y) (hb : Below W.heap.size W W') : Two b W' x y := by
  obtain ⟨h0, h1, h2, h3, h4⟩ := h
  exact ⟨by rw [(bcell hb).1 _ _ h4]; exact h0, by rw [(bcell hb).1 _ _ h4]; exact h1, by rw [(bcell hb).2 _ _ h4]; exact h2, by rw [(bcell hb).2 _ _ h4]; exact h3, Nat.lt_of_lt_of_le h4 hb.size⟩
theorem Two.alloc {b : Nat} {W : World} {x y : Value} (h : Two b W x y) (o : Obj) : Two b (W.alloc o) x y := h.below (bel_alloc (Below.refl _ _))
theorem Two.new (W : World) (x y : Value) (T : TypeId) : Two W.heap.size (W.alloc (.cells #[x, y] T)) x y := ⟨by simp [go_sem], by simp [go_sem], by simp [go_sem], by simp [go_sem], by simp⟩
theorem two_read (w : World) (b : Nat) (u v : Value) {a c : Value} (h0 : w.cell? ⟨b, 0, none⟩ = some a) (h1 : w.cell? ⟨b, 1, none⟩ = some c) :
    ((w.setCell ⟨b, 0, none⟩ u).setCell ⟨b, 1, none⟩ v).cell? ⟨b, 0, none⟩ = some u ∧ ((w.setCell ⟨b, 0, none⟩ u).setCell ⟨b, 1, none⟩ v).cell? ⟨b, 1, none⟩ = some v := by
  refine ⟨?_, ?_⟩
  · rw [World.cell?_setCell_other _ _ _ _ (by simp), World.cell?_setCell_same _ _ _ h0]
  · rw [World.cell?_setCell_same (u := c)]
    rw [World.cell?_setCell_other _ _ _ _ (by simp), h1]
theorem Two.set1 {b : Nat} {W : World} {x y : Value} (h : Two b W x y) (z : Value) : Two b (W.setCell ⟨b, 1, none⟩ z) x z := by
  obtain ⟨h0, h1, h2, h3, h4⟩ := h
  refine ⟨?_, ?_, ?_, ?_, ?_⟩
  · rw [World.cell?_setCell_other _ _ _ _ (by simp)]; exact h0
  · exact World.cell?_setCell_same _ _ _ h1
  · rw [World.frozen?_setCell]; exact h2
  · rw [World.frozen?_setCell]; exact h3
  · simpa [World.setCell] using h4
theorem Two.other {b : Nat} {W : World} {x y : Value} (h : Two b W x y) (p : Addr) (hp : p.block ≠ b) (z : Value) : Two b (W.setCell p z) x y := by
  obtain ⟨h0, h1, h2, h3, h4⟩ := h
  refine ⟨?_, ?_, ?_, ?_, ?_⟩
  · rw [World.cell?_setCell_other _ _ _ _ (by intro e; apply hp; rw [e])]; exact h0
  · rw [World.cell?_setCell_other _ _ _ _ (by intro e; apply hp; rw [e])]; exact h1
  · rw [World.frozen?_setCell]; exact h2
  · rw [World.frozen?_setCell]; exact h3
  · simpa [World.setCell] using h4
theorem Two.set0 {b : Nat} {W : World} {x y : Value} (h : Two b W x y) (z : Value) : Two b (W.setCell ⟨b, 0, none⟩ z) z y := by
  obtain ⟨h0, h1, h2, h3, h4⟩ := h
  refine ⟨?_, ?_, ?_, ?_, ?_⟩
  · exact World.cell?_setCell_same _ _ _ h0
  · rw [World.cell?_setCell_other _ _ _ _ (by simp)]; exact h1
  · rw [World.frozen?_setCell]; exact h2
  · rw [World.frozen?_setCell]; exact h3
  · simpa [World.setCell] using h4
end Go.Proofs.Ytadkhhkoankhnaa

/- Slices that read as lists of rows; comparisons. -/
namespace Go.Proofs.Ytadkhhkoankhnaa
open Go.RowKit Go.Sort

/-- the point at a place of a list -/
def gX (l : List (Int × Int)) (j : Nat) : Int := (l.getD j (0, 0)).1
def gR (l : List (Int × Int)) (j : Nat) : Int := (l.getD j (0, 0)).2

/-- a value is a slice that reads as a list of points -/
def Pts (w : World) (v : Value) (l : List (Int × Int)) : Prop :=
  ∃ a cap, v = .slice a l.length cap ∧ (l.length ≤ cap ∧ cap ≤ 9223372036854775807) ∧
    (l.length = 0 ∨ ∃ b off, a = some ⟨b, off, none⟩ ∧ b < w.heap.size ∧ ∀ j, j < l.length → w.cell? ⟨b, off + j * 2, none⟩ = some (.int .i64 (gX l j)) ∧ w.cell? ⟨b, off + j * 2 + 1, none⟩ = some (.int .i64 (gR l j)))
theorem Pts.below {w w' : World} {v : Value} {l : List (Int × Int)} (h : Pts w v l) (hb : Below w.heap.size w w') : Pts w' v l := by
  obtain ⟨a, cap, rfl, hl, h | ⟨b, off, rfl, hlt, hc⟩⟩ := h
  · exact ⟨a, cap, rfl, hl, .inl h⟩
  · exact ⟨_, cap, rfl, hl, .inr ⟨b, off, rfl, Nat.lt_of_lt_of_le hlt hb.size, fun j hj => by rw [(bcell hb).1 _ _ hlt, (bcell hb).1 _ _ hlt]; exact hc j hj⟩⟩
theorem Pts.alloc {w : World} {v : Value} {l : List (Int × Int)} (h : Pts w v l) (o : Obj) : Pts (w.alloc o) v l := h.below (bel_alloc (Below.refl _ _))
theorem Pts.shape {W : World} {v : Value} {l : List (Int × Int)} (h : Pts W v l) : ∃ a cap, v = .slice a l.length cap ∧ l.length ≤ cap ∧ cap ≤ 9223372036854775807 := by
  obtain ⟨a, cap, e, ⟨h1, h2⟩, _⟩ := h
  exact ⟨a, cap, e, h1, h2⟩
theorem Pts.len {W : World} {a : Option Addr} {n cap : Nat} {l : List (Int × Int)} (h : Pts W (.slice a n cap) l) : n = l.length := by
  obtain ⟨a', c', e, _⟩ := h
  simp only [Value.slice.injEq] at e
  exact e.2.1
theorem Pts.at {W : World} {a : Option Addr} {n cap : Nat} {l : List (Int × Int)} (h : Pts W (.slice a n cap) l) (h0 : 0 < n) :
    ∃ b off, a = some ⟨b, off, none⟩ ∧ b < W.heap.size ∧ ∀ j, j < n → W.cell? ⟨b, off + j * 2, none⟩ = some (.int .i64 (gX l j)) ∧ W.cell? ⟨b, off + j * 2 + 1, none⟩ = some (.int .i64 (gR l j)) := by
  have hl := h.len
  obtain ⟨a', c', e, _, hh⟩ := h
  simp only [Value.slice.injEq] at e
  obtain ⟨rfl, rfl, rfl⟩ := e
  rcases hh with hh | hh
  · omega
  · exact hh
theorem pts_nil (w : World) : Pts w (.slice none 0 0) [] := ⟨none, 0, rfl, by simp, .inl rfl⟩

/-- the cells of a list of points -/
def flat : List (Int × Int) → List Value
  | [] => []
  | q :: l => .int .i64 q.1 :: .int .i64 q.2 :: flat l
theorem flat_len (l : List (Int × Int)) : (flat l).length = l.length * 2 := by
  induction l with
  | nil => rfl
  | cons q l ih => simp only [flat, List.length_cons, ih]; omega
theorem flat_app (l m : List (Int × Int)) : flat (l ++ m) = flat l ++ flat m := by
  induction l with
  | nil => rfl
  | cons q l ih => simp only [List.cons_append, flat, ih]
theorem flat_at (l : List (Int × Int)) (j : Nat) (h : j < l.length) : (flat l)[j * 2]? = some (.int .i64 (gX l j)) ∧ (flat l)[j * 2 + 1]? = some (.int .i64 (gR l j)) := by
  induction l generalizing j with
  | nil => simp at h
  | cons q l ih =>
    cases j with
    | zero => simp [flat, gX, gR]
    | succ j =>
      have := ih j (by simpa using h)
      rw [show (j + 1) * 2 = j * 2 + 1 + 1 by omega]
      simp only [flat, List.getElem?_cons_succ, gX, gR, List.getD_cons_succ]
      exact this
theorem flat_one (l : List (Int × Int)) : ∀ u ∈ flat l, u.oneCell' = true := by
  induction l with
  | nil => intro u h; cases h
  | cons q l ih =>
    intro u h
    simp only [flat, List.mem_cons] at h
    rcases h with rfl | rfl | h
    · rfl
    · rfl
    · exact ih u h
theorem flat_inv (l : List (Int × Int)) (j : Nat) (u : Value) (h : (flat l)[j]? = some u) : ∃ i, i < l.length ∧ ((j = i * 2 ∧ u = .int .i64 (gX l i)) ∨ (j = i * 2 + 1 ∧ u = .int .i64 (gR l i))) := by
  have hj : j < (flat l).length := (List.getElem?_eq_some_iff.1 h).1
  rw [flat_len] at hj
  refine ⟨j / 2, by omega, ?_⟩
  have := flat_at l (j / 2) (by omega)
  rcases Nat.mod_two_eq_zero_or_one j with e | e
  · left
    have hj2 : j = j / 2 * 2 := by omega
    refine ⟨hj2, ?_⟩
    have h' := h
    rw [hj2, this.1] at h'
    exact (Option.some.inj h').symm
  · right
    have hj2 : j = j / 2 * 2 + 1 := by omega
    refine ⟨hj2, ?_⟩
    have h' := h
    rw [hj2, this.2] at h'
    exact (Option.some.inj h').symm

/-- a slice of the call's own holds the points -/
def OwnP (w : World) (B : Nat) (v : Value) (l : List (Int × Int)) : Prop := w.ownsRow B 42 2 v l.length (flat l)
theorem OwnP.pts {w : World} {B : Nat} {v : Value} {l : List (Int × Int)} (h : OwnP w B v l) : Pts w v l := by
  have h' := h
  obtain ⟨_, h2⟩ := h
  rcases h2 with ⟨rfl, hn⟩ | ⟨g, cap, cur, rfl, hg, hh, hc, hm, hs, ht⟩
  · exact ⟨none, 0, by rw [hn], by omega, .inl hn⟩
  · have hlt : g < w.heap.size := by
      rcases Nat.lt_or_ge g w.heap.size with h | h
      · exact h
      · rw [Array.getElem?_eq_none h] at hh; cases hh
    unfold maxLen at hm
    refine ⟨_, cap, rfl, ⟨hc, by omega⟩, .inr ⟨g, 0, rfl, hlt, fun j hj => ?_⟩⟩
    have hcell := World.ownsRow.cells h' (g := g) rfl
    have hf := flat_at l j hj
    have c0 := hcell _ _ hf.1
    have c1 := hcell _ _ hf.2
    rw [Go.WideShapes.add_plain] at c0 c1
    exact ⟨c0, by rw [Nat.add_assoc]; exact c1⟩
theorem pts_lit (w : World) (l : List (Int × Int)) (cs : List Value) (h : cs = flat l) (hn : l.length ≤ 1000) :
    Pts (w.alloc (.cells cs.toArray 42)) (.slice (some ⟨w.heap.size, 0, none⟩) l.length l.length) l := by
  refine ⟨_, _, rfl, by omega, .inr ⟨w.heap.size, 0, rfl, by simp, fun j hj => ?_⟩⟩
  subst h
  have hf := flat_at l j hj
  have hl := flat_len l
  rw [World.cell?_alloc_new, World.cell?_alloc_new]
  simp only [Nat.zero_add]
  exact ⟨by simpa using hf.1, by simpa using hf.2⟩

theorem pt_info : (Try.prog.info? 42).map (fun i => (i.zero, i.size, i.bytes)) = some (some (.agg #[.int .i64 0, .int .i64 0]), 2, 16) := by kernel_rfl

/-! ### points, compared -/
def samP (a b x y : Int) : Bool := a == x && b == y
theorem run_same_point (a b x y : Int) (w : World) :
    (Op.equalIn 10000 42 (.agg #[.int .i64 a, .int .i64 b]) (.agg #[.int .i64 x, .int .i64 y])).run Try.prog w = .ok (samP a b x y) w := by
  rw [show (10000 : Nat) = 9999 + 1 from rfl, run_equalIn_agg w 9999 42 _ _ (by kernel_rfl) (by kernel_rfl)]
  have hf : (Try.prog.fieldsOf 42).toList.map (fun f => (f.name, f.type, f.offset)) = [("Strength", 3, 0), ("Density", 3, 1)] := by kernel_rfl
  generalize (Try.prog.fieldsOf 42).toList = fs at *
  obtain ⟨f, g, rfl⟩ : ∃ f g, fs = [f, g] := by
    have hl := congrArg List.length hf
    rw [List.length_map] at hl
    rcases fs with _ | ⟨f, _ | ⟨g, _ | ⟨h, fs⟩⟩⟩ <;> simp at hl
    exact ⟨f, g, rfl⟩
  simp only [List.map_cons, List.map_nil, List.cons.injEq, Prod.mk.injEq, and_true] at hf
  obtain ⟨⟨f1, f2, f3⟩, g1, g2, g3⟩ := hf
  have eq : ∀ (u v : Int) (W : World), (Op.equalIn 9999 3 (.int .i64 u) (.int .i64 v)).run Try.prog W = .ok (u == v) W := fun u v W => run_equalIn_int W 9998 3 .i64 .i64 u v Try.underlying3
  by_cases e1 : a = x <;> by_cases e2 : b = y <;> simp [Op.eqFields, f1, f2, f3, g1, g2, g3, go_sem, samP, eq, e1, e2]
theorem run_neq_point (a b x y : Int) (w : World) :
    (binOp .neq 42 (.agg #[.int .i64 a, .int .i64 b]) (.agg #[.int .i64 x, .int .i64 y])).run Try.prog w = .ok (.bool (!samP a b x y)) w := by
  rw [run_neq_struct, run_same_point]; rfl
theorem run_eql_point (a b x y : Int) (w : World) :
    (binOp .eql 42 (.agg #[.int .i64 a, .int .i64 b]) (.agg #[.int .i64 x, .int .i64 y])).run Try.prog w = .ok (.bool (samP a b x y)) w := by
  rw [run_eql_struct, run_same_point]; rfl
/-! ### bounds, compared -/
def samB (a b x y : Int) : Bool := a == x && b == y
theorem run_same_bounds (a b x y : Int) (w : World) :
    (Op.equalIn 10000 29 (.agg #[.int .i64 a, .int .i64 b]) (.agg #[.int .i64 x, .int .i64 y])).run Try.prog w = .ok (samB a b x y) w := by
  rw [show (10000 : Nat) = 9999 + 1 from rfl, run_equalIn_agg w 9999 29 _ _ (by kernel_rfl) (by kernel_rfl)]
  have hf : (Try.prog.fieldsOf 29).toList.map (fun f => (f.name, f.type, f.offset)) = [("Low", 3, 0), ("High", 3, 1)] := by kernel_rfl
  generalize (Try.prog.fieldsOf 29).toList = fs at *
  obtain ⟨f, g, rfl⟩ : ∃ f g, fs = [f, g] := by
    have hl := congrArg List.length hf
    rw [List.length_map] at hl
    rcases fs with _ | ⟨f, _ | ⟨g, _ | ⟨h, fs⟩⟩⟩ <;> simp at hl
    exact ⟨f, g, rfl⟩
  simp only [List.map_cons, List.map_nil, List.cons.injEq, Prod.mk.injEq, and_true] at hf
  obtain ⟨⟨f1, f2, f3⟩, g1, g2, g3⟩ := hf
  have eq : ∀ (u v : Int) (W : World), (Op.equalIn 9999 3 (.int .i64 u) (.int .i64 v)).run Try.prog W = .ok (u == v) W := fun u v W => run_equalIn_int W 9998 3 .i64 .i64 u v Try.underlying3
  by_cases e1 : a = x <;> by_cases e2 : b = y <;> simp [Op.eqFields, f1, f2, f3, g1, g2, g3, go_sem, samB, eq, e1, e2]
theorem run_neq_bounds (a b x y : Int) (w : World) :
    (binOp .neq 29 (.agg #[.int .i64 a, .int .i64 b]) (.agg #[.int .i64 x, .int .i64 y])).run Try.prog w = .ok (.bool (!samB a b x y)) w := by
  rw [run_neq_struct, run_same_bounds]; rfl
theorem run_eql_bounds (a b x y : Int) (w : World) :
    (binOp .eql 29 (.agg #[.int .i64 a, .int .i64 b]) (.agg #[.int .i64 x, .int .i64 y])).run Try.prog w = .ok (.bool (samB a b x y)) w := by
  rw [run_eql_struct, run_same_bounds]; rfl
end Go.Proofs.Ytadkhhkoankhnaa

/- How arguments are opened: slices of points. -/
namespace Go.Proofs.Ytadkhhkoankhnaa
open Go.ChangeShapes Go.WideShapes Go.ChangeAt Go.RowKit Go.Joins

theorem own : ownKnob Try.prog.godebug = none := by kernel_rfl
theorem laidOut : laidOutB Try.prog = true := by kernel_rfl
theorem wf_bd {n : Int} (h : (Lit.int .i64 n).wf = true) : -9223372036854775808 ≤ n ∧ n ≤ 9223372036854775807 := by
  have := bounds_i64 h
  omega
set_option maxRecDepth 100000 in
theorem open_pts_at {H : Type} {enc : TypeId × Value → H} {w : World} {base fuel : Nat} {spare : Nat → Bool} {held : Bool} {v : Value} {y : DataW H × List MemPlace} (hs : ∀ k, spare k = true)
    (hf : DataW.trod enc Try.prog w base spare held fuel 22 [v] = some y) :
    ∃ l : List (Int × Int), Pts w v l := by
  rcases Deep.open_slice_pairs Try.underlying22 Try.underlying42 (by kernel_rfl) rfl rfl (by kernel_rfl) (by kernel_rfl) hf with ⟨hcs, _⟩ | ⟨x, len0, cap0, m, n, V0, V1, D0, D1, P0, P1, hcs, _, hl, hm, hmm, _, hi⟩
  · simp only [List.cons.injEq, and_true] at hcs
    subst hcs
    exact ⟨[], none, 0, rfl, ⟨by simp, by omega⟩, .inl rfl⟩
  · simp only [List.cons.injEq, and_true] at hcs
    subst hcs
    unfold maxLen at hm
    rw [hs] at hmm
    simp only [if_true] at hmm
    subst hmm
    have hint : ∀ i, i < len0 → ∃ q : Int × Int, w.cell? (x.add (i * 2)) = some (.int .i64 q.1) ∧ w.cell? (x.add (i * 2 + 1)) = some (.int .i64 q.2) := by
      intro i hlt
      obtain ⟨h0, h1, h2, h3⟩ := hi i (by omega)
      obtain ⟨a, ea, _, _⟩ := DataW.trod_int (k := .i64) Try.underlying3 h2
      obtain ⟨b, eb, _, _⟩ := DataW.trod_int (k := .i64) Try.underlying3 h3
      simp only [List.cons.injEq, and_true] at ea eb
      exact ⟨(a, b), by rw [h0, ea], by rw [h1, eb]⟩
    let f : Nat → Int × Int := fun i => if hlt : i < len0 then (hint i hlt).choose else (0, 0)
    have hf2 : ∀ i, i < len0 → w.cell? (x.add (i * 2)) = some (.int .i64 (f i).1) ∧ w.cell? (x.add (i * 2 + 1)) = some (.int .i64 (f i).2) := by
      intro i hlt
      have := (hint i hlt).choose_spec
      simp only [f, dif_pos hlt]
      exact this
    have hlen : ((List.range len0).map f).length = len0 := by simp
    refine ⟨(List.range len0).map f, some x, m, by rw [hlen], by rw [hlen]; omega, ?_⟩
    rw [hlen]
    by_cases h0 : len0 = 0
    · exact .inl h0
    · right
      obtain ⟨b, off, spot⟩ := x
      have hspot : spot = none := by simpa [Addr.add] using World.cell?_spot (hf2 0 (by omega)).1
      subst hspot
      have hb := World.block_lt_of_cell? w _ (hf2 0 (by omega)).1
      refine ⟨b, off, rfl, by simpa [Addr.add] using hb, fun j hj => ?_⟩
      obtain ⟨g0, g1⟩ := hf2 j hj
      rw [Go.WideShapes.add_plain] at g0 g1
      unfold gX gR
      rw [List.getD_eq_getElem?_getD, List.getElem?_map, List.getElem?_range hj]
      exact ⟨g0, by rw [Nat.add_assoc]; exact g1⟩
set_option maxRecDepth 100000 in
theorem open_pts {H : Type} {enc : TypeId × Value → H} {w : World} {r : Reach} {b0 : Nat} {v : Value} {d : DataW H} {p : List MemPlace}
    (hv : Value.okWide Try.prog w r b0 22 v) (h : DataW.Trod enc Try.prog w 0 (fun _ => true) true 22 v d p) :
    ∃ l : List (Int × Int), Pts w v l := by
  obtain ⟨a0, len0, cap0, rfl⟩ := okWide_slice Try.underlying22 hv
  obtain ⟨fuel, hf⟩ := h
  exact open_pts_at (fun _ => rfl) hf
end Go.Proofs.Ytadkhhkoankhnaa

/- Plain facts of layers 16 and 17: right rows, first faults. No program stands in this text. -/
namespace Go.Proofs.Ytadkhhkoankhnaa

/-- the first place below n at which p holds; n if there is none -/
def fst (p : Nat → Bool) : Nat → Nat
  | 0 => 0
  | n + 1 => if fst p n < n then fst p n else if p n then n else n + 1
theorem fst_le (p : Nat → Bool) (n : Nat) : fst p n ≤ n := by
  induction n with
  | zero => exact Nat.le_refl _
  | succ n ih => unfold fst; split <;> (try split) <;> omega
theorem fst_spec (p : Nat → Bool) (n : Nat) : (∀ j, j < fst p n → p j = false) ∧ (fst p n < n → p (fst p n) = true) := by
  induction n with
  | zero => exact ⟨fun j hj => by simp [fst] at hj, fun h => by omega⟩
  | succ n ih =>
    obtain ⟨i1, i2⟩ := ih
    have le := fst_le p n
    unfold fst
    by_cases h : fst p n < n
    · rw [if_pos h]; exact ⟨i1, fun _ => i2 h⟩
    · rw [if_neg h]
      have e : fst p n = n := by omega
      rw [e] at i1
      cases hp : p n with
      | true => simp only [if_true]; exact ⟨i1, fun _ => hp⟩
      | false =>
        simp only [Bool.false_eq_true, if_false]
        refine ⟨fun j hj => ?_, fun h => by omega⟩
        by_cases g : j = n
        · rw [g]; exact hp
        · exact i1 j (by omega)
theorem fst_is {p : Nat → Bool} {n k : Nat} (hk : k ≤ n) (h1 : ∀ j, j < k → p j = false) (h2 : k < n → p k = true) : fst p n = k := by
  obtain ⟨s1, s2⟩ := fst_spec p n
  have le := fst_le p n
  rcases Nat.lt_trichotomy (fst p n) k with h | h | h
  · have := h1 _ h; have := s2 (by omega); simp_all
  · exact h
  · have := s1 _ h; have := h2 (by omega); simp_all
theorem fst_iff {p : Nat → Bool} {n : Nat} (hm : ∀ a b, a ≤ b → b < n → p a = true → p b = true) {i : Nat} (hi : i < n) : p i = true ↔ fst p n ≤ i := by
  obtain ⟨s1, s2⟩ := fst_spec p n
  constructor
  · intro h
    rcases Nat.lt_or_ge i (fst p n) with g | g
    · rw [s1 i g] at h; cases h
    · exact g
  · intro h
    exact hm _ i h hi (s2 (by omega))


theorem bel_drew2 (w : World) (a b : Nat) : Go.RowKit.Below w.heap.size w ((w.drewN a).drewN b) := ⟨rfl, rfl, rfl, Nat.le_refl _, fun _ _ => rfl⟩
def outB (x r : Int) : Bool := decide (x < 0) || decide (10000 < x) || decide (r < 50000) || decide (120000 < r)
theorem outB_false {x r : Int} : outB x r = false ↔ (0 ≤ x ∧ x ≤ 10000 ∧ 50000 ≤ r ∧ r ≤ 120000) := by
  simp only [outB, Bool.or_eq_false_iff, decide_eq_false_iff_not]; omega
/-- the fault of a measured row -/
def auF (l : List (Int × Int)) (k : Nat) : Int := if outB (gX l k) (gR l k) = true then 2 else if k ≠ 0 ∧ gX l k < gX l (k - 1) then 5 else 0
def auK (l : List (Int × Int)) : Nat := fst (fun k => auF l k != 0) l.length
def auE (l : List (Int × Int)) : Int := if 128 < l.length then 8 else if l.length = 0 then 9 else if auK l < l.length then auF l (auK l) else 0
def auI (l : List (Int × Int)) : Int := if 128 < l.length then -1 else if l.length = 0 then -1 else if auK l < l.length then (auK l : Int) else -1
structure AR (l : List (Int × Int)) : Prop where
  n0 : 1 ≤ l.length
  n1 : l.length ≤ 128
  b : ∀ i, i < l.length → 0 ≤ gX l i ∧ gX l i ≤ 10000 ∧ 50000 ≤ gR l i ∧ gR l i ≤ 120000
  asc : ∀ i, i + 1 < l.length → gX l i ≤ gX l (i + 1)
theorem auF_zero {l : List (Int × Int)} {k : Nat} : auF l k = 0 ↔ ((0 ≤ gX l k ∧ gX l k ≤ 10000 ∧ 50000 ≤ gR l k ∧ gR l k ≤ 120000) ∧ (k ≠ 0 → gX l (k - 1) ≤ gX l k)) := by
  unfold auF
  cases h : outB (gX l k) (gR l k) with
  | true => 
    simp only [if_true]
    constructor
    · intro h; cases h
    · rintro ⟨h1, _⟩
      rw [outB_false.2 h1] at h; cases h
  | false =>
    have := outB_false.1 h
    simp only [Bool.false_eq_true, if_false]
    by_cases g : k ≠ 0 ∧ gX l k < gX l (k - 1)
    · rw [if_pos g]
      constructor
      · intro h; cases h
      · rintro ⟨_, h2⟩
        have := h2 g.1; omega
    · rw [if_neg g]
      refine ⟨fun _ => ⟨this, fun hk => ?_⟩, fun _ => rfl⟩
      rcases Int.lt_or_le (gX l k) (gX l (k - 1)) with h' | h'
      · exact absurd ⟨hk, h'⟩ g
      · exact h'
theorem auE_zero {l : List (Int × Int)} : auE l = 0 ↔ AR l := by
  obtain ⟨s1, s2⟩ := fst_spec (fun k => auF l k != 0) l.length
  have le := fst_le (fun k => auF l k != 0) l.length
  unfold auE
  by_cases h0 : 128 < l.length
  · rw [if_pos h0]
    exact ⟨fun h => (by cases h), fun h => by have := h.n1; omega⟩
  · rw [if_neg h0]
    by_cases h1 : l.length = 0
    · rw [if_pos h1]
      exact ⟨fun h => (by cases h), fun h => by have := h.n0; omega⟩
    · rw [if_neg h1]
      by_cases h2 : auK l < l.length
      · rw [if_pos h2]
        have h3 := s2 h2
        constructor
        · intro h
          have : auF l (fst (fun k => auF l k != 0) l.length) = 0 := h
          rw [this] at h3
          cases h3
        · intro h
          refine auF_zero.2 ⟨h.b _ h2, fun hk => ?_⟩
          have := h.asc (auK l - 1) (by omega)
          rwa [show auK l - 1 + 1 = auK l by omega] at this
      · rw [if_neg h2]
        have e : fst (fun k => auF l k != 0) l.length = l.length := by unfold auK at h2; omega
        rw [e] at s1
        have z : ∀ j, j < l.length → auF l j = 0 := fun j hj => by simpa using s1 j hj
        refine ⟨fun _ => ⟨by omega, by omega, fun i hi => (auF_zero.1 (z i hi)).1, fun i hi => ?_⟩, fun _ => rfl⟩
        have := (auF_zero.1 (z (i + 1) hi)).2 (by omega)
        simpa using this
theorem auE_at {l : List (Int × Int)} {k : Nat} (h0 : l.length ≤ 128) (hk : k < l.length) (h1 : ∀ j, j < k → auF l j = 0) (h2 : auF l k ≠ 0) : auE l = auF l k ∧ auI l = k := by
  have e : auK l = k := fst_is (by omega) (fun j hj => by simpa using h1 j hj) (fun _ => by simpa using h2)
  unfold auE auI
  simp only [if_neg (show ¬ 128 < l.length by omega), if_neg (show ¬ l.length = 0 by omega), e, if_pos hk]
  exact ⟨trivial, trivial⟩
theorem auE_ok {l : List (Int × Int)} (h0 : l.length ≤ 128) (h3 : l.length ≠ 0) (h1 : ∀ j, j < l.length → auF l j = 0) : auE l = 0 ∧ auI l = -1 := by
  have e : auK l = l.length := fst_is (by omega) (fun j hj => by simpa using h1 j hj) (fun h => by omega)
  unfold auE auI
  simp only [if_neg (show ¬ 128 < l.length by omega), if_neg h3, e, if_neg (show ¬ l.length < l.length by omega)]
  exact ⟨trivial, trivial⟩

/-! ### right density tables -/
def dnF (l : List (Int × Int)) (k : Nat) : Int := if outB (gX l k) (gR l k) = true then 2 else if k ≠ 0 ∧ gX l k ≤ gX l (k - 1) then 5 else if k ≠ 0 ∧ gR l (k - 1) < gR l k then 18 else 0
def dnK (l : List (Int × Int)) : Nat := fst (fun k => dnF l k != 0) l.length
def dnE (l : List (Int × Int)) : Int := if 128 < l.length then 8 else if l.length < 2 then 9 else if dnK l < l.length then dnF l (dnK l) else if gX l 0 ≠ 0 then 10 else if gX l (l.length - 1) ≠ 10000 then 10 else 0
def dnI (l : List (Int × Int)) : Int := if 128 < l.length then -1 else if l.length < 2 then -1 else if dnK l < l.length then (dnK l : Int) else if gX l 0 ≠ 0 then 0 else if gX l (l.length - 1) ≠ 10000 then ((l.length - 1 : Nat) : Int) else -1
structure DR (l : List (Int × Int)) : Prop where
  n0 : 2 ≤ l.length
  n1 : l.length ≤ 128
  b : ∀ i, i < l.length → 0 ≤ gX l i ∧ gX l i ≤ 10000 ∧ 50000 ≤ gR l i ∧ gR l i ≤ 120000
  asc : ∀ i, i + 1 < l.length → gX l i < gX l (i + 1)
  down : ∀ i, i + 1 < l.length → gR l (i + 1) ≤ gR l i
  z : gX l 0 = 0
  t : gX l (l.length - 1) = 10000
theorem dnF_zero {l : List (Int × Int)} {k : Nat} : dnF l k = 0 ↔ ((0 ≤ gX l k ∧ gX l k ≤ 10000 ∧ 50000 ≤ gR l k ∧ gR l k ≤ 120000) ∧ (k ≠ 0 → gX l (k - 1) < gX l k) ∧ (k ≠ 0 → gR l k ≤ gR l (k - 1))) := by
  unfold dnF
  cases h : outB (gX l k) (gR l k) with
  | true => 
    simp only [if_true]
    constructor
    · intro h; cases h
    · rintro ⟨h1, _⟩
      rw [outB_false.2 h1] at h; cases h
  | false =>
    have := outB_false.1 h
    simp only [Bool.false_eq_true, if_false]
    by_cases g : k ≠ 0 ∧ gX l k ≤ gX l (k - 1)
    · rw [if_pos g]
      constructor
      · intro h; cases h
      · rintro ⟨_, h2, _⟩
        have := h2 g.1; omega
    · rw [if_neg g]
      by_cases g2 : k ≠ 0 ∧ gR l (k - 1) < gR l k
      · rw [if_pos g2]
        constructor
        · intro h; cases h
        · rintro ⟨_, _, h2⟩
          have := h2 g2.1; omega
      · rw [if_neg g2]
        refine ⟨fun _ => ⟨this, fun hk => ?_, fun hk => ?_⟩, fun _ => rfl⟩
        · rcases Int.lt_or_le (gX l (k - 1)) (gX l k) with h' | h'
          · exact h'
          · exact absurd ⟨hk, h'⟩ g
        · rcases Int.lt_or_le (gR l (k - 1)) (gR l k) with h' | h'
          · exact absurd ⟨hk, h'⟩ g2
          · exact h'
theorem dnE_at {l : List (Int × Int)} {k : Nat} (h0 : l.length ≤ 128) (h3 : 2 ≤ l.length) (hk : k < l.length) (h1 : ∀ j, j < k → dnF l j = 0) (h2 : dnF l k ≠ 0) : dnE l = dnF l k ∧ dnI l = k := by
  have e : dnK l = k := fst_is (by omega) (fun j hj => by simpa using h1 j hj) (fun _ => by simpa using h2)
  unfold dnE dnI
  simp only [if_neg (show ¬ 128 < l.length by omega), if_neg (show ¬ l.length < 2 by omega), e, if_pos hk]
  exact ⟨trivial, trivial⟩
theorem dnE_ok {l : List (Int × Int)} (h0 : l.length ≤ 128) (h3 : 2 ≤ l.length) (h1 : ∀ j, j < l.length → dnF l j = 0) :
    (gX l 0 ≠ 0 → dnE l = 10 ∧ dnI l = 0) ∧ (gX l 0 = 0 → gX l (l.length - 1) ≠ 10000 → dnE l = 10 ∧ dnI l = ((l.length - 1 : Nat) : Int)) ∧ (gX l 0 = 0 → gX l (l.length - 1) = 10000 → dnE l = 0 ∧ dnI l = -1) := by
  have e : dnK l = l.length := fst_is (by omega) (fun j hj => by simpa using h1 j hj) (fun h => by omega)
  unfold dnE dnI
  simp only [if_neg (show ¬ 128 < l.length by omega), if_neg (show ¬ l.length < 2 by omega), e, if_neg (show ¬ l.length < l.length by omega)]
  refine ⟨fun h => ?_, fun h g => ?_, fun h g => ?_⟩
  · simp only [if_pos h]; exact ⟨trivial, trivial⟩
  · simp only [if_neg (show ¬ gX l 0 ≠ 0 by omega), if_pos g]; exact ⟨trivial, trivial⟩
  · simp only [if_neg (show ¬ gX l 0 ≠ 0 by omega), if_neg (show ¬ gX l (l.length - 1) ≠ 10000 by omega)]; exact ⟨trivial, trivial⟩
theorem dnE_zero {l : List (Int × Int)} : dnE l = 0 ↔ DR l := by
  obtain ⟨s1, s2⟩ := fst_spec (fun k => dnF l k != 0) l.length
  have le := fst_le (fun k => dnF l k != 0) l.length
  constructor
  · intro h
    by_cases h0 : 128 < l.length
    · unfold dnE at h; rw [if_pos h0] at h; cases h
    by_cases h1 : l.length < 2
    · unfold dnE at h; rw [if_neg h0, if_pos h1] at h; cases h
    by_cases h2 : fst (fun k => dnF l k != 0) l.length < l.length
    · have h3 := s2 h2
      have := (dnE_at (by omega) (by omega) h2 (fun j hj => by simpa using s1 j hj) (by simpa using h3)).1
      rw [h] at this
      rw [← this] at h3
      cases h3
    · have e : fst (fun k => dnF l k != 0) l.length = l.length := by omega
      rw [e] at s1
      have z : ∀ j, j < l.length → dnF l j = 0 := fun j hj => by simpa using s1 j hj
      obtain ⟨g1, g2, g3⟩ := dnE_ok (by omega) (by omega) z
      refine ⟨by omega, by omega, fun i hi => (dnF_zero.1 (z i hi)).1, fun i hi => ?_, fun i hi => ?_, ?_, ?_⟩
      · have := (dnF_zero.1 (z (i + 1) hi)).2.1 (by omega)
        simpa using this
      · have := (dnF_zero.1 (z (i + 1) hi)).2.2 (by omega)
        simpa using this
      · rcases Decidable.em (gX l 0 = 0) with q | q
        · exact q
        · have := (g1 q).1; omega
      · rcases Decidable.em (gX l 0 = 0) with q | q
        · rcases Decidable.em (gX l (l.length - 1) = 10000) with q2 | q2
          · exact q2
          · have := (g2 q q2).1; omega
        · have := (g1 q).1; omega
  · intro h
    have z : ∀ j, j < l.length → dnF l j = 0 := fun j hj => by
      refine dnF_zero.2 ⟨h.b j hj, fun hk => ?_, fun hk => ?_⟩
      · have := h.asc (j - 1) (by omega)
        rwa [show j - 1 + 1 = j by omega] at this
      · have := h.down (j - 1) (by omega)
        rwa [show j - 1 + 1 = j by omega] at this
    exact ((dnE_ok h.n1 h.n0 z).2.2 h.z h.t).1
end Go.Proofs.Ytadkhhkoankhnaa

/- A cell below. -/
namespace Go.Proofs.Ytadkhhkoankhnaa
open Go.RowKit

theorem cell_bel {w w' : World} {p : Addr} {v : Value} (h : w.cell? p = some v) (hb : Below w.heap.size w w') : w'.cell? p = some v := by
  rw [hb.cell (World.block_lt_of_cell? w _ h)]; exact h
end Go.Proofs.Ytadkhhkoankhnaa

/- Package density and its reference: Check. -/
namespace Go.Proofs.Ytadkhhkoankhnaa
open Go.RowKit

set_option maxHeartbeats 4000000 in
theorem dnOut_any (x v : Int) (w : World) :
    Calls Try.prog 87 #[.agg #[.int .i64 x, .int .i64 v]] w fun e w' => e = .returned (.bool (outB x v)) ∧ Below w.heap.size w w' := by
  unfold outB
  have X := Lib.hid (bel_alloc (o := .cells #[.int .i64 x, .int .i64 v] 42) (Below.refl _ (w.alloc (.cells #[.int .i64 x, .int .i64 v] 42))))
  by_cases h0 : x < 0
  · have d0 : decide (x < 0) = true := decide_eq_true h0
    rw [d0, Bool.true_or, Bool.true_or, Bool.true_or]
    clear h0
    go_enter Try.func87, Try.ntmps87
    go_wp2
    go_returns
    exact ⟨rfl, X.out⟩
  have d0 : decide (x < 0) = false := decide_eq_false h0
  by_cases h1 : 10000 < x
  · have d1 : decide (10000 < x) = true := decide_eq_true h1
    rw [d0, d1, Bool.false_or, Bool.true_or, Bool.true_or]
    clear h0 h1
    go_enter Try.func87, Try.ntmps87
    go_wp2
    go_returns
    exact ⟨rfl, X.out⟩
  have d1 : decide (10000 < x) = false := decide_eq_false h1
  by_cases h2 : v < 50000
  · have d2 : decide (v < 50000) = true := decide_eq_true h2
    rw [d0, d1, d2, Bool.false_or, Bool.false_or, Bool.true_or]
    clear h0 h1 h2
    go_enter Try.func87, Try.ntmps87
    go_wp2
    go_returns
    exact ⟨rfl, X.out⟩
  have d2 : decide (v < 50000) = false := decide_eq_false h2
  rw [d0, d1, d2, Bool.false_or, Bool.false_or, Bool.false_or]
  clear h0 h1 h2
  generalize hB : decide (120000 < v) = B
  go_enter Try.func87, Try.ntmps87
  go_wp2
  go_returns
  exact ⟨rfl, X.out⟩

set_option maxHeartbeats 16000000 in
set_option maxRecDepth 100000 in
theorem dnFlt_some (b off n cap k : Nat) (l : List (Int × Int)) (w : World) (n1 : n ≤ 128) (hb : b < w.heap.size) (hk : k < n)
    (hc : Hid (∀ j, j < n → w.cell? ⟨b, off + j * 2, none⟩ = some (.int .i64 (gX l j)) ∧ w.cell? ⟨b, off + j * 2 + 1, none⟩ = some (.int .i64 (gR l j)))) :
    Calls Try.prog 85 #[.slice (some ⟨b, off, none⟩) n cap, .int .i64 k] w fun e w' => e = .returned (.int .i64 (dnF l k)) ∧ Below w.heap.size w w' := by
  have c0 := (hc.out k hk).1
  have c1 := (hc.out k hk).2
  have l0 : (k : Int) < (n : Int) := by omega
  have HO := Lib.hid (fun W => dnOut_any (gX l k) (gR l k) W)
  have cp : Hid (k ≠ 0 → w.cell? ⟨b, off + (k - 1) * 2, none⟩ = some (.int .i64 (gX l (k - 1))) ∧ w.cell? ⟨b, off + (k - 1) * 2 + 1, none⟩ = some (.int .i64 (gR l (k - 1)))) := fun hk0 => hc.out (k - 1) (by omega)
  have HF : Hid (dnF l k = if outB (gX l k) (gR l k) = true then 2 else if k ≠ 0 ∧ gX l k ≤ gX l (k - 1) then 5 else if k ≠ 0 ∧ gR l (k - 1) < gR l k then 18 else 0) := Lib.hid rfl
  generalize dnF l k = F at *
  generalize gX l k = x at *
  generalize gR l k = r at *
  generalize gX l (k - 1) = y at *
  generalize gR l (k - 1) = s at *
  clear hc
  cases ho : outB x r with
  | true =>
    rw [ho] at HO HF
    have e : F = 2 := HF.out
    subst e
    clear ho HF cp
    go_enter Try.func85, Try.ntmps85
    go_wp2_with fail
    refine (HO.out _).mono ?_
    rintro e w1 ⟨rfl, gg⟩
    have X := Lib.hid gg; clear gg
    go_wp2
    go_returns
    exact ⟨rfl, X.out⟩
  | false =>
    rw [ho] at HO HF
    by_cases k0 : k = 0
    · have e : F = 0 := by rw [HF.out]; simp [k0]
      subst e
      have dk : decide (0 < (k : Int)) = false := decide_eq_false (by omega)
      have dk2 : decide (0 < k) = false := decide_eq_false (by omega)
      have dk3 : ¬ 0 < k := by omega
      replace k0 := Lib.hid k0
      clear ho HF cp
      go_enter Try.func85, Try.ntmps85
      go_wp2_with fail
      refine (HO.out _).mono ?_
      rintro e w1 ⟨rfl, gg⟩
      have X := Lib.hid gg
      replace c0 := cell_bel c0 gg
      replace c1 := cell_bel c1 gg
      clear gg
      go_wp2_with fail
      go_quiet (fail)
      go_wp2_with fail
      go_quiet (fail)
      go_wp2
      go_returns
      exact ⟨rfl, bel_trans X.out (by first | exact bel_drewN _ _ | exact bel_drew2 _ _ _)⟩
    · have dk : decide (0 < (k : Int)) = true := decide_eq_true (by omega)
      obtain ⟨m, rfl⟩ : ∃ m, k = m + 1 := ⟨k - 1, by omega⟩
      have w1' : IntKind.i64.wrap (((m + 1 : Nat) : Int) - 1) = (m : Int) := by rw [wrap_in _ ⟨by omega, by omega⟩]; omega
      have w2 : IntKind.i64.wrap ((m : Int) + 1 - 1) = (m : Int) := by rw [wrap_in _ ⟨by omega, by omega⟩]; omega
      have w3 : IntKind.i64.wrap (m : Int) = (m : Int) := wrap_in _ ⟨by omega, by omega⟩
      have l1 : (m : Int) < (n : Int) := by omega
      obtain ⟨q0, q1⟩ := cp.out (by omega)
      rw [show m + 1 - 1 = m by omega] at q0 q1
      clear cp
      by_cases hxy : x ≤ y
      · have e : F = 5 := by rw [HF.out]; simp [hxy]
        subst e
        have dxy : decide (x ≤ y) = true := decide_eq_true hxy
        clear ho HF
        go_enter Try.func85, Try.ntmps85
        go_wp2_with fail
        refine (HO.out _).mono ?_
        rintro e w1 ⟨rfl, gg⟩
        have X := Lib.hid gg
        replace c0 := cell_bel c0 gg
        replace c1 := cell_bel c1 gg
        replace q0 := cell_bel q0 gg
        replace q1 := cell_bel q1 gg
        clear gg
        go_wp2_with fail
        go_quiet (fail)
        go_wp2
        go_returns
        exact ⟨rfl, bel_trans X.out (by first | exact bel_drewN _ _ | exact bel_drew2 _ _ _)⟩
      · have dxy : decide (x ≤ y) = false := decide_eq_false hxy
        by_cases hrs : s < r
        · have e : F = 18 := by rw [HF.out]; simp [hxy, hrs]
          subst e
          have drs : decide (s < r) = true := decide_eq_true hrs
          clear ho HF
          go_enter Try.func85, Try.ntmps85
          go_wp2_with fail
          refine (HO.out _).mono ?_
          rintro e w1 ⟨rfl, gg⟩
          have X := Lib.hid gg
          replace c0 := cell_bel c0 gg
          replace c1 := cell_bel c1 gg
          replace q0 := cell_bel q0 gg
          replace q1 := cell_bel q1 gg
          clear gg
          go_wp2_with fail
          go_quiet (fail)
          go_wp2_with fail
          go_quiet (fail)
          go_wp2
          go_returns
          exact ⟨rfl, bel_trans X.out (by first | exact bel_drewN _ _ | exact bel_drew2 _ _ _)⟩
        · have e : F = 0 := by rw [HF.out]; simp [hxy, hrs]
          subst e
          have drs : decide (s < r) = false := decide_eq_false hrs
          clear ho HF
          go_enter Try.func85, Try.ntmps85
          go_wp2_with fail
          refine (HO.out _).mono ?_
          rintro e w1 ⟨rfl, gg⟩
          have X := Lib.hid gg
          replace c0 := cell_bel c0 gg
          replace c1 := cell_bel c1 gg
          replace q0 := cell_bel q0 gg
          replace q1 := cell_bel q1 gg
          clear gg
          go_wp2_with fail
          go_quiet (fail)
          go_wp2_with fail
          go_quiet (fail)
          go_wp2
          go_returns
          exact ⟨rfl, bel_trans X.out (by first | exact bel_drewN _ _ | exact bel_drew2 _ _ _)⟩
set_option maxHeartbeats 4000000 in
theorem dnChk_len (a : Option Addr) (n cap : Nat) (V : Int) (w : World) (h : (n < 2 ∧ V = 9) ∨ (128 < n ∧ n ≤ 9223372036854775807 ∧ V = 8)) :
    Calls Try.prog 72 #[.slice a n cap] w fun e w' => e = .returned (.tuple #[.int .i64 (-1), .int .i64 V]) ∧ Below w.heap.size w w' := by
  rcases h with ⟨h, rfl⟩ | ⟨h, h2, rfl⟩
  all_goals
    go_enter Try.func72, Try.ntmps72
    go_wp2
    go_returns
    exact ⟨rfl, Below.refl _ _⟩
set_option maxHeartbeats 16000000 in
set_option maxRecDepth 100000 in
theorem dnChk_some (b off m cap : Nat) (l : List (Int × Int)) (I E : Int) (w : World) (n0 : 1 ≤ m) (n1 : m + 1 ≤ 128) (hb : b < w.heap.size)
    (hc : Hid (∀ j, j < m + 1 → w.cell? ⟨b, off + j * 2, none⟩ = some (.int .i64 (gX l j)) ∧ w.cell? ⟨b, off + j * 2 + 1, none⟩ = some (.int .i64 (gR l j))))
    (h1 : Hid (∀ k, k < m + 1 → (∀ j, j < k → dnF l j = 0) → dnF l k ≠ 0 → I = k ∧ E = dnF l k))
    (h2 : Hid ((∀ j, j < m + 1 → dnF l j = 0) → (gX l 0 ≠ 0 → E = 10 ∧ I = 0) ∧ (gX l 0 = 0 → gX l m ≠ 10000 → E = 10 ∧ I = (m : Int)) ∧ (gX l 0 = 0 → gX l m = 10000 → E = 0 ∧ I = -1))) :
    Calls Try.prog 72 #[.slice (some ⟨b, off, none⟩) (m + 1) cap] w fun e w' => e = .returned (.tuple #[.int .i64 I, .int .i64 E]) ∧ Below w.heap.size w w' := by
  have d8 : decide (128 < (m : Int) + 1) = false := decide_eq_false (by omega)
  have d9 : decide ((m : Int) + 1 < 2) = false := decide_eq_false (by omega)
  have wm : IntKind.i64.wrap ((m : Int) + 1 - 1) = (m : Int) := by rw [wrap_in _ ⟨by omega, by omega⟩]; omega
  have wm2 : IntKind.i64.wrap (m : Int) = (m : Int) := wrap_in _ ⟨by omega, by omega⟩
  go_enter Try.func72, Try.ntmps72
  go_wp2_with fail
  go_loopw [15] (fun ii wr => ∃ k : Nat, k ≤ m + 1 ∧ ii = .int .i64 (k : Int) ∧ Hid (Below w.heap.size w wr) ∧ Hid (∀ j, j < k → dnF l j = 0)) (fun ii _ => m + 1 - (intOf ii).toNat)
  case atStart => exact ⟨0, Nat.zero_le _, rfl, Below.refl _ _, fun j hj => by omega⟩
  case round =>
    obtain ⟨k, hk, rfl, hB, ha⟩ := hrel
    by_cases hlt : k < m + 1
    · have bb : b < wr.heap.size := Nat.lt_of_lt_of_le hb hB.out.size
      have l0 : (k : Int) < (m : Int) + 1 := by omega
      have l00 : (k : Int) < ((m + 1 : Nat) : Int) := by omega
      have H1 := Lib.hid (h1.out k hlt ha.out)
      have HS : Hid (dnF l k = 0 → ∀ j, j < k + 1 → dnF l j = 0) := fun h j hj => by
        by_cases e : j = k
        · rw [e]; exact h
        · exact ha.out j (by omega)
      have HK := Lib.hid (dnFlt_some b off (m + 1) cap k l wr (by omega) bb hlt (Lib.hid fun j hj => ⟨cell_bel (hc.out j hj).1 hB.out, cell_bel (hc.out j hj).2 hB.out⟩))
      generalize dnF l k = F at *
      by_cases hF : F = 0
      · have hs2 := Lib.hid (HS.out hF)
        subst hF
        clear HS H1
        go_wp2_with fail
        refine HK.out.mono ?_
        rintro e w1 ⟨rfl, gg⟩
        have X := Lib.hid (bel_trans hB.out gg); clear gg
        go_wp2
        go_roundw
        case rel => exact ⟨k + 1, by omega, by go_num, X, hs2⟩
        case measure => simp [intOf]; omega
      · obtain ⟨rfl, rfl⟩ := H1.out hF
        have dF : (E != 0) = true := by simpa using hF
        clear HS H1 h1 h2
        go_wp2_with fail
        refine HK.out.mono ?_
        rintro e w1 ⟨rfl, gg⟩
        have X := Lib.hid (bel_trans hB.out gg); clear gg
        go_wp2
        go_returns
        exact ⟨rfl, X.out⟩
    · obtain rfl : k = m + 1 := by omega
      obtain ⟨g1, g2, g3⟩ := h2.out ha.out
      have c0 := cell_bel (hc.out 0 (by omega)).1 hB.out
      have c1 := cell_bel (hc.out m (by omega)).1 hB.out
      have l1 : (m : Int) < (m : Int) + 1 := by omega
      have l2 : (0 : Int) < (m : Int) + 1 := by omega
      rw [Nat.zero_mul, Nat.add_zero] at c0
      clear h1 h2 hc ha
      generalize gX l 0 = x at *
      generalize gX l m = y at *
      by_cases e0 : x = 0
      · have dx : (x != 0) = false := by simp [e0]
        by_cases e1 : y = 10000
        · have dy : (y != 10000) = false := by simp [e1]
          obtain ⟨rfl, rfl⟩ := g3 e0 e1
          clear g1 g2 g3 e0 e1
          go_wp2
          go_returns
          exact ⟨rfl, hB.out⟩
        · have dy : (y != 10000) = true := by simpa using e1
          obtain ⟨rfl, rfl⟩ := g2 e0 e1
          clear g1 g2 g3 e0 e1
          go_wp2
          go_returns
          exact ⟨rfl, hB.out⟩
      · have dx : (x != 0) = true := by simpa using e0
        obtain ⟨rfl, rfl⟩ := g1 e0
        clear g1 g2 g3 e0
        go_wp2
        go_returns
        exact ⟨rfl, hB.out⟩
theorem dnChk_any (v : Value) (l : List (Int × Int)) (w : World) (hv : Pts w v l) :
    Calls Try.prog 72 #[v] w fun e w' => e = .returned (.tuple #[.int .i64 (dnI l), .int .i64 (dnE l)]) ∧ Below w.heap.size w w' := by
  obtain ⟨a, cap, rfl, hl, hh⟩ := hv
  by_cases h1 : 128 < l.length
  · have := dnChk_len a l.length cap 8 w (.inr ⟨h1, by omega, rfl⟩)
    rwa [show dnI l = -1 by unfold dnI; rw [if_pos h1], show dnE l = 8 by unfold dnE; rw [if_pos h1]]
  · by_cases h0 : l.length < 2
    · have := dnChk_len a l.length cap 9 w (.inl ⟨h0, rfl⟩)
      rwa [show dnI l = -1 by unfold dnI; rw [if_neg h1, if_pos h0], show dnE l = 9 by unfold dnE; rw [if_neg h1, if_pos h0]]
    · rcases hh with hh | ⟨b, off, rfl, hb, hc⟩
      · omega
      · have e : l.length - 1 + 1 = l.length := by omega
        have := dnChk_some b off (l.length - 1) cap l (dnI l) (dnE l) w (by omega) (by omega) hb (Lib.hid (by rw [e]; exact hc)) (Lib.hid fun k hk g1 g2 => ⟨(dnE_at (by omega) (by omega) (by omega) g1 g2).2, (dnE_at (by omega) (by omega) (by omega) g1 g2).1⟩) (Lib.hid fun g => dnE_ok (by omega) (by omega) (fun j hj => g j (by omega)))
        rwa [e] at this
end Go.Proofs.Ytadkhhkoankhnaa

/- The reference of layer 16: Check. -/
namespace Go.Proofs.Ytadkhhkoankhnaa
open Go.RowKit

set_option maxHeartbeats 4000000 in
theorem rnChk_len (a : Option Addr) (n cap : Nat) (V : Int) (w : World) (h : (n < 2 ∧ V = 9) ∨ (128 < n ∧ n ≤ 9223372036854775807 ∧ V = 8)) :
    Calls Try.prog 76 #[.slice a n cap] w fun e w' => e = .returned (.tuple #[.int .i64 (-1), .int .i64 V]) ∧ Below w.heap.size w w' := by
  rcases h with ⟨h, rfl⟩ | ⟨h, h2, rfl⟩
  all_goals
    go_enter Try.func76, Try.ntmps76
    go_wp2
    go_returns
    exact ⟨rfl, Below.refl _ _⟩
set_option maxHeartbeats 16000000 in
set_option maxRecDepth 100000 in
theorem rnChk_some (b off m cap : Nat) (l : List (Int × Int)) (I E : Int) (w : World) (n0 : 1 ≤ m) (n1 : m + 1 ≤ 128) (hb : b < w.heap.size)
    (hc : Hid (∀ j, j < m + 1 → w.cell? ⟨b, off + j * 2, none⟩ = some (.int .i64 (gX l j)) ∧ w.cell? ⟨b, off + j * 2 + 1, none⟩ = some (.int .i64 (gR l j))))
    (h1 : Hid (∀ k, k < m + 1 → (∀ j, j < k → dnF l j = 0) → dnF l k ≠ 0 → I = k ∧ E = dnF l k))
    (h2 : Hid ((∀ j, j < m + 1 → dnF l j = 0) → (gX l 0 ≠ 0 → E = 10 ∧ I = 0) ∧ (gX l 0 = 0 → gX l m ≠ 10000 → E = 10 ∧ I = (m : Int)) ∧ (gX l 0 = 0 → gX l m = 10000 → E = 0 ∧ I = -1))) :
    Calls Try.prog 76 #[.slice (some ⟨b, off, none⟩) (m + 1) cap] w fun e w' => e = .returned (.tuple #[.int .i64 I, .int .i64 E]) ∧ Below w.heap.size w w' := by
  have d8 : decide (128 < (m : Int) + 1) = false := decide_eq_false (by omega)
  have d9 : decide ((m : Int) + 1 < 2) = false := decide_eq_false (by omega)
  have wm : IntKind.i64.wrap ((m : Int) + 1 - 1) = (m : Int) := by rw [wrap_in _ ⟨by omega, by omega⟩]; omega
  have wm2 : IntKind.i64.wrap (m : Int) = (m : Int) := wrap_in _ ⟨by omega, by omega⟩
  go_enter Try.func76, Try.ntmps76
  go_wp2_with fail
  go_loopw [4] (fun ii wr => ∃ k : Nat, k ≤ m + 1 ∧ ii = .int .i64 (k : Int) ∧ Hid (Below w.heap.size w wr) ∧ Hid (∀ j, j < k → dnF l j = 0)) (fun ii _ => m + 1 - (intOf ii).toNat)
  case atStart => exact ⟨0, Nat.zero_le _, rfl, Below.refl _ _, fun j hj => by omega⟩
  case round =>
    obtain ⟨k, hk, rfl, hB, ha⟩ := hrel
    by_cases hlt : k < m + 1
    · have bb : b < wr.heap.size := Nat.lt_of_lt_of_le hb hB.out.size
      have l0 : (k : Int) < (m : Int) + 1 := by omega
      have l00 : (k : Int) < ((m + 1 : Nat) : Int) := by omega
      have H1 := Lib.hid (h1.out k hlt ha.out)
      have HS : Hid (dnF l k = 0 → ∀ j, j < k + 1 → dnF l j = 0) := fun h j hj => by
        by_cases e : j = k
        · rw [e]; exact h
        · exact ha.out j (by omega)
      have c0 := cell_bel (hc.out k hlt).1 hB.out
      have c1 := cell_bel (hc.out k hlt).2 hB.out
      have cp : Hid (k ≠ 0 → wr.cell? ⟨b, off + (k - 1) * 2, none⟩ = some (.int .i64 (gX l (k - 1))) ∧ wr.cell? ⟨b, off + (k - 1) * 2 + 1, none⟩ = some (.int .i64 (gR l (k - 1)))) := fun hk0 => ⟨cell_bel (hc.out (k - 1) (by omega)).1 hB.out, cell_bel (hc.out (k - 1) (by omega)).2 hB.out⟩
      have HF : Hid (dnF l k = if outB (gX l k) (gR l k) = true then 2 else if k ≠ 0 ∧ gX l k ≤ gX l (k - 1) then 5 else if k ≠ 0 ∧ gR l (k - 1) < gR l k then 18 else 0) := Lib.hid rfl
      have hE : Hid (outB (gX l k) (gR l k) = (decide (gX l k < 0) || decide (10000 < gX l k) || decide (gR l k < 50000) || decide (120000 < gR l k))) := Lib.hid rfl
      generalize dnF l k = F at *
      generalize gX l k = x at *
      generalize gR l k = r at *
      generalize gX l (k - 1) = y at *
      generalize gR l (k - 1) = s at *
      cases ho : outB x r with
      | true =>
        rw [ho] at hE HF
        have e : F = 2 := HF.out
        obtain ⟨rfl, rfl⟩ := H1.out (by rw [e]; simp)
        subst e
        have hD : (decide (x < 0) = true) ∨ (decide (x < 0) = false ∧ decide (10000 < x) = true) ∨ (decide (x < 0) = false ∧ decide (10000 < x) = false ∧ decide (r < 50000) = true) ∨ (decide (x < 0) = false ∧ decide (10000 < x) = false ∧ decide (r < 50000) = false ∧ decide (120000 < r) = true) := by
          have := hE.out
          revert this
          cases decide (x < 0) <;> cases decide (10000 < x) <;> cases decide (r < 50000) <;> cases decide (120000 < r) <;> simp
        clear ho HF HS H1 h1 h2 hE cp
        rcases hD with d1 | ⟨d1, d2⟩ | ⟨d1, d2, d3⟩ | ⟨d1, d2, d3, d4⟩
        all_goals
          go_wp2
          go_returns
          exact ⟨rfl, hB.out⟩
      | false =>
        rw [ho] at hE HF
        have hD : decide (x < 0) = false ∧ decide (10000 < x) = false ∧ decide (r < 50000) = false ∧ decide (120000 < r) = false := by
          have := hE.out
          revert this
          cases decide (x < 0) <;> cases decide (10000 < x) <;> cases decide (r < 50000) <;> cases decide (120000 < r) <;> simp
        obtain ⟨d1, d2, d3, d4⟩ := hD
        clear hE ho
        by_cases k0 : k = 0
        · have e : F = 0 := by rw [HF.out]; simp [k0]
          have hs2 := Lib.hid (HS.out e)
          have dk : decide (0 < (k : Int)) = false := decide_eq_false (by omega)
          have dk2 : decide (0 < k) = false := decide_eq_false (by omega)
          have dk3 : ¬ 0 < k := by omega
          replace k0 := Lib.hid k0
          clear HF HS H1 e cp
          go_wp2_with fail
          go_quiet (fail)
          go_wp2_with fail
          go_quiet (fail)
          go_wp2
          go_roundw
          case rel => exact ⟨k + 1, by omega, by go_num, bel_trans hB.out (by first | exact bel_drewN _ _ | exact bel_drew2 _ _ _), hs2⟩
          case measure => simp [intOf]; omega
        · have dk : decide (0 < (k : Int)) = true := decide_eq_true (by omega)
          obtain ⟨q, rfl⟩ : ∃ q, k = q + 1 := ⟨k - 1, by omega⟩
          have w1' : IntKind.i64.wrap (((q + 1 : Nat) : Int) - 1) = (q : Int) := by rw [wrap_in _ ⟨by omega, by omega⟩]; omega
          have w2 : IntKind.i64.wrap ((q : Int) + 1 - 1) = (q : Int) := by rw [wrap_in _ ⟨by omega, by omega⟩]; omega
          have w3 : IntKind.i64.wrap (q : Int) = (q : Int) := wrap_in _ ⟨by omega, by omega⟩
          have l1 : (q : Int) < (m : Int) + 1 := by omega
          obtain ⟨q0, q1⟩ := cp.out (by omega)
          rw [show q + 1 - 1 = q by omega] at q0 q1
          clear cp
          by_cases hxy : x ≤ y
          · have e : F = 5 := by rw [HF.out]; simp [hxy]
            obtain ⟨rfl, rfl⟩ := H1.out (by rw [e]; simp)
            subst e
            have dxy : decide (x ≤ y) = true := decide_eq_true hxy
            clear HF HS H1 h1 h2
            go_wp2_with fail
            go_quiet (fail)
            go_wp2
            go_returns
            exact ⟨rfl, bel_trans hB.out (by first | exact bel_drewN _ _ | exact bel_drew2 _ _ _)⟩
          · have dxy : decide (x ≤ y) = false := decide_eq_false hxy
            by_cases hrs : s < r
            · have e : F = 18 := by rw [HF.out]; simp [hxy, hrs]
              obtain ⟨rfl, rfl⟩ := H1.out (by rw [e]; simp)
              subst e
              have drs : decide (s < r) = true := decide_eq_true hrs
              clear HF HS H1 h1 h2
              go_wp2_with fail
              go_quiet (fail)
              go_wp2_with fail
              go_quiet (fail)
              go_wp2
              go_returns
              exact ⟨rfl, bel_trans hB.out (by first | exact bel_drewN _ _ | exact bel_drew2 _ _ _)⟩
            · have e : F = 0 := by rw [HF.out]; simp [hxy, hrs]
              have hs2 := Lib.hid (HS.out e)
              have drs : decide (s < r) = false := decide_eq_false hrs
              clear HF HS H1 e
              go_wp2_with fail
              go_quiet (fail)
              go_wp2_with fail
              go_quiet (fail)
              go_wp2
              go_roundw
              case rel => exact ⟨q + 1 + 1, by omega, by go_num, bel_trans hB.out (by first | exact bel_drewN _ _ | exact bel_drew2 _ _ _), hs2⟩
              case measure => simp [intOf]; omega
    · obtain rfl : k = m + 1 := by omega
      obtain ⟨g1, g2, g3⟩ := h2.out ha.out
      have c0 := cell_bel (hc.out 0 (by omega)).1 hB.out
      have c1 := cell_bel (hc.out m (by omega)).1 hB.out
      have l1 : (m : Int) < (m : Int) + 1 := by omega
      have l2 : (0 : Int) < (m : Int) + 1 := by omega
      rw [Nat.zero_mul, Nat.add_zero] at c0
      clear h1 h2 hc ha
      generalize gX l 0 = x at *
      generalize gX l m = y at *
      by_cases e0 : x = 0
      · have dx : (x != 0) = false := by simp [e0]
        by_cases e1 : y = 10000
        · have dy : (y != 10000) = false := by simp [e1]
          obtain ⟨rfl, rfl⟩ := g3 e0 e1
          clear g1 g2 g3 e0 e1
          go_wp2
          go_returns
          exact ⟨rfl, hB.out⟩
        · have dy : (y != 10000) = true := by simpa using e1
          obtain ⟨rfl, rfl⟩ := g2 e0 e1
          clear g1 g2 g3 e0 e1
          go_wp2
          go_returns
          exact ⟨rfl, hB.out⟩
      · have dx : (x != 0) = true := by simpa using e0
        obtain ⟨rfl, rfl⟩ := g1 e0
        clear g1 g2 g3 e0
        go_wp2
        go_returns
        exact ⟨rfl, hB.out⟩
theorem rnChk_any (v : Value) (l : List (Int × Int)) (w : World) (hv : Pts w v l) :
    Calls Try.prog 76 #[v] w fun e w' => e = .returned (.tuple #[.int .i64 (dnI l), .int .i64 (dnE l)]) ∧ Below w.heap.size w w' := by
  obtain ⟨a, cap, rfl, hl, hh⟩ := hv
  by_cases h1 : 128 < l.length
  · have := rnChk_len a l.length cap 8 w (.inr ⟨h1, by omega, rfl⟩)
    rwa [show dnI l = -1 by unfold dnI; rw [if_pos h1], show dnE l = 8 by unfold dnE; rw [if_pos h1]]
  · by_cases h0 : l.length < 2
    · have := rnChk_len a l.length cap 9 w (.inl ⟨h0, rfl⟩)
      rwa [show dnI l = -1 by unfold dnI; rw [if_neg h1, if_pos h0], show dnE l = 9 by unfold dnE; rw [if_neg h1, if_pos h0]]
    · rcases hh with hh | ⟨b, off, rfl, hb, hc⟩
      · omega
      · have e : l.length - 1 + 1 = l.length := by omega
        have := rnChk_some b off (l.length - 1) cap l (dnI l) (dnE l) w (by omega) (by omega) hb (Lib.hid (by rw [e]; exact hc)) (Lib.hid fun k hk g1 g2 => ⟨(dnE_at (by omega) (by omega) (by omega) g1 g2).2, (dnE_at (by omega) (by omega) (by omega) g1 g2).1⟩) (Lib.hid fun g => dnE_ok (by omega) (by omega) (fun j hj => g j (by omega)))
        rwa [e] at this
end Go.Proofs.Ytadkhhkoankhnaa

/- Package density: reach, Find; the reference's Find. -/
namespace Go.Proofs.Ytadkhhkoankhnaa
open Go.RowKit

set_option maxHeartbeats 8000000 in
set_option maxRecDepth 100000 in
theorem search_bel (g : Nat) (cb : Array Value) (n : Nat) (p : Nat → Bool) (w : World) (eg : ∀ args w, (callFunc g args).run Try.prog w = .ok (.enter g args) w) (hsz : n ≤ 1000000)
    (hf : Hid (∀ (i : Nat) W, i < n → Below w.heap.size w W → Calls Try.prog g (#[.int .i64 i] ++ cb) W fun e w' => e = .returned (.bool (p i)) ∧ Below W.heap.size W w'))
    (hm : Hid (∀ a b, a ≤ b → b < n → p a = true → p b = true)) :
    Calls Try.prog 73 #[.int .i64 n, .func (.func g) #[] cb] w fun e w' => e = .returned (.int .i64 (fst p n : Nat)) ∧ Below w.heap.size w w' := by
  go_enter Try.func73, Try.ntmps73
  go_wp2_with fail
  go_loopw [5, 6] (fun s5 s6 wr => ∃ lo hi : Nat, s5 = .int .i64 lo ∧ s6 = .int .i64 hi ∧ lo ≤ hi ∧ hi ≤ n ∧ Hid (Below w.heap.size w wr) ∧ Hid ((∀ t, t < lo → p t = false) ∧ (∀ t, hi ≤ t → t < n → p t = true))) (fun s5 s6 _ => (intOf s6).toNat - (intOf s5).toNat)
  case atStart => exact ⟨0, n, rfl, rfl, Nat.zero_le _, Nat.le_refl _, Below.refl _ _, ⟨fun t ht => absurd ht (Nat.not_lt_zero _), fun t h1 h2 => by omega⟩⟩
  case round =>
    obtain ⟨lo, hi, rfl, rfl, hlh, hin, hB, I⟩ := hrel
    by_cases hlt : lo < hi
    · have hc := hf.out ((lo + hi) / 2)
      have HM := Lib.hid (fun t (h1 : (lo + hi) / 2 ≤ t) (h2 : t < n) (h3 : p ((lo + hi) / 2) = true) => hm.out ((lo + hi) / 2) t h1 h2 h3)
      have HN := Lib.hid (fun t (h1 : t ≤ (lo + hi) / 2) (h3 : p ((lo + hi) / 2) = false) => show p t = false by
        cases hp : p t with
        | false => rfl
        | true => rw [hm.out t ((lo + hi) / 2) h1 (by omega) hp] at h3; cases h3)
      rw [show (((lo + hi) / 2 : Nat) : Int) = ((lo : Int) + (hi : Int)) / 2 by omega] at hc
      have HC := Lib.hid (fun W hW => hc W (by omega) hW)
      clear hc
      have l0 : (lo : Int) < (hi : Int) := by omega
      have m1 : (lo + hi) / 2 < hi := by omega
      have m2 : lo ≤ (lo + hi) / 2 := by omega
      have me : ((lo : Int) + (hi : Int)) / 2 = (((lo + hi) / 2 : Nat) : Int) := by omega
      replace me := Lib.hid me
      cases hp : p ((lo + hi) / 2) with
      | false =>
        rw [hp] at HC
        replace hp := Lib.hid hp
        go_wp2_with fail
        refine (HC.out _ hB.out).mono ?_
        rintro e w2 ⟨rfl, gg⟩
        have X := Lib.hid (bel_trans hB.out gg); clear gg
        go_wp2
        go_roundw
        case rel => exact ⟨(lo + hi) / 2 + 1, hi, by rw [me.out]; go_num, rfl, by omega, hin, X, ⟨fun t ht => HN.out t (by omega) hp.out, I.out.2⟩⟩
        case measure => simp [intOf]; omega
      | true =>
        rw [hp] at HC
        replace hp := Lib.hid hp
        go_wp2_with fail
        refine (HC.out _ hB.out).mono ?_
        rintro e w2 ⟨rfl, gg⟩
        have X := Lib.hid (bel_trans hB.out gg); clear gg
        go_wp2
        go_roundw
        case rel => exact ⟨lo, (lo + hi) / 2, rfl, by rw [me.out], m2, by omega, X, ⟨I.out.1, fun t h1 h2 => HM.out t h1 h2 hp.out⟩⟩
        case measure => simp [intOf]; omega
    · obtain rfl : lo = hi := by omega
      have e : fst p n = lo := fst_is hin I.out.1 (fun h => I.out.2 lo (Nat.le_refl _) h)
      replace e := Lib.hid e
      go_wp2
      go_returns
      exact ⟨by show Ending.returned (.int .i64 (lo : Int)) = _; rw [e.out], hB.out⟩
set_option maxHeartbeats 4000000 in
theorem dnR1_any (i q1 q2 b off n cap : Nat) (x : Int) (l : List (Int × Int)) (w : World) (hi : i < n) (n1 : n ≤ 1000) (c1 : w.cell? ⟨q1, 0, none⟩ = some (.slice (some ⟨b, off, none⟩) n cap)) (c2 : w.cell? ⟨q2, 0, none⟩ = some (.int .i64 x))
    (c3 : w.cell? ⟨b, off + i * 2, none⟩ = some (.int .i64 (gX l i))) :
    Calls Try.prog 81 #[.int .i64 i, .pointer (some ⟨q1, 0, none⟩), .pointer (some ⟨q2, 0, none⟩)] w fun e w' => e = .returned (.bool (decide (x ≤ gX l i))) ∧ Below w.heap.size w w' := by
  have l0 : (i : Int) < (n : Int) := by omega
  have X1 : Hid (∀ m, Below w.heap.size w (w.drewN m)) := Lib.hid fun m => ⟨rfl, rfl, rfl, Nat.le_refl _, fun i hi => rfl⟩
  generalize gX l i = y at *
  go_enter Try.func81, Try.ntmps81
  go_wp2_with fail
  go_quiet (fail)
  go_wp2
  go_returns
  exact ⟨rfl, X1.out _⟩
theorem bxd_below {W W' : World} {b : Nat} {t : TypeId} {v : Value} (h : Boxed W b t v) (hb : Below W.heap.size W W') : Boxed W' b t v := by
  show W'.heap[b]? = _
  rw [hb.block _ h.lt]
  exact h
/-- the first row whose strength is at least a number -/
def rcN (l : List (Int × Int)) (x : Int) : Nat := fst (fun i => decide (x ≤ gX l i)) l.length
theorem DR.chain {l : List (Int × Int)} (h : DR l) (j : Nat) : ∀ i : Nat, j < i → i < l.length → gX l j < gX l i ∧ gR l i ≤ gR l j
  | 0, h1, _ => by omega
  | i + 1, h1, h2 => by
    have a := h.asc i h2
    have b := h.down i h2
    by_cases e : j = i
    · subst e; exact ⟨a, b⟩
    · obtain ⟨c, d⟩ := DR.chain h j i (by omega) (by omega)
      exact ⟨by omega, by omega⟩
theorem DR.le {l : List (Int × Int)} (h : DR l) {j i : Nat} (hj : j ≤ i) (hi : i < l.length) : gX l j ≤ gX l i := by
  by_cases e : j = i
  · rw [e]; exact Int.le_refl _
  · exact Int.le_of_lt (h.chain j i (by omega) hi).1
theorem rcN_spec {l : List (Int × Int)} (h : DR l) (x : Int) : rcN l x ≤ l.length ∧ (∀ j, j < rcN l x → gX l j < x) ∧ ∀ j, rcN l x ≤ j → j < l.length → x ≤ gX l j := by
  obtain ⟨s1, s2⟩ := fst_spec (fun i => decide (x ≤ gX l i)) l.length
  have le := fst_le (fun i => decide (x ≤ gX l i)) l.length
  refine ⟨le, fun j hj => ?_, fun j h1 h2 => ?_⟩
  · have := of_decide_eq_false (s1 j hj); omega
  · have a := of_decide_eq_true (s2 (by unfold rcN at h1; omega))
    have := h.le h1 h2
    unfold rcN at *
    omega
set_option maxHeartbeats 8000000 in
set_option maxRecDepth 100000 in
theorem dnRc_any (v : Value) (l : List (Int × Int)) (x : Int) (w : World) (hv : Pts w v l) (h : DR l) :
    Calls Try.prog 62 #[v, .int .i64 x] w fun e w' => e = .returned (.int .i64 (rcN l x : Nat)) ∧ Below w.heap.size w w' := by
  have n0 := h.n0
  have n1 := h.n1
  obtain ⟨a, cap, rfl, hl, hh⟩ := hv
  rcases hh with hh | ⟨b, off, rfl, hb, hc⟩
  · omega
  have hmf : ∀ (fn : Fn) (first cap : Array Value) (w : World), (Instr.makeFunc fn first cap).run Try.prog w = .ok (.func fn first cap) w := fun _ _ _ _ => rfl
  have HS : Hid (∀ W q1 q2, Below w.heap.size w W → Boxed W q1 22 (.slice (some ⟨b, off, none⟩) l.length cap) → Boxed W q2 3 (.int .i64 x) → Calls Try.prog 73 #[.int .i64 l.length, .func (.func 81) #[] #[.pointer (some ⟨q1, 0, none⟩), .pointer (some ⟨q2, 0, none⟩)]] W fun e w' => e = .returned (.int .i64 (rcN l x : Nat)) ∧ Below W.heap.size W w') := Lib.hid fun W q1 q2 hW h1 h2 =>
    search_bel 81 #[.pointer (some ⟨q1, 0, none⟩), .pointer (some ⟨q2, 0, none⟩)] l.length (fun i => decide (x ≤ gX l i)) W (enters_of Try.func81 (by kernel_rfl) rfl) (by omega)
      (Lib.hid fun i W2 hi hW2 => dnR1_any i q1 q2 b off l.length cap x l W2 hi (by omega) (cell_bel h1.cell hW2) (cell_bel h2.cell hW2) (cell_bel (cell_bel (hc i hi).1 hW) hW2))
      (Lib.hid fun i j hij hj hp => by
        have := of_decide_eq_true hp
        have := h.le hij hj
        exact decide_eq_true (by omega))
  have B0 := Lib.hid ((Boxed.new w 22 (.slice (some ⟨b, off, none⟩) l.length cap)).alloc (.cells #[.int .i64 x] 3))
  have B1 : Hid (Boxed ((w.alloc (.cells #[.slice (some ⟨b, off, none⟩) l.length cap] 22)).alloc (.cells #[.int .i64 x] 3)) (w.heap.size + 1) 3 (.int .i64 x)) := Lib.hid (by
    have := Boxed.new (w.alloc (.cells #[.slice (some ⟨b, off, none⟩) l.length cap] 22)) 3 (.int .i64 x)
    rwa [World.size_alloc] at this)
  have X0 : Hid (Below w.heap.size w ((w.alloc (.cells #[.slice (some ⟨b, off, none⟩) l.length cap] 22)).alloc (.cells #[.int .i64 x] 3))) := Lib.hid (bel_alloc (bel_alloc (Below.refl _ _)))
  have c0 := B0.out.cell
  clear hc
  generalize rcN l x = k at *
  generalize l.length = n at *
  go_enter Try.func62, Try.ntmps62
  go_wp2_with fail
  refine (HS.out _ _ _ X0.out B0.out B1.out).mono ?_
  rintro e w1 ⟨rfl, gg⟩
  have X1 := Lib.hid (bel_trans X0.out gg); clear gg
  go_wp2
  go_returns
  exact ⟨rfl, X1.out⟩
theorem dnSt_any (x : Int) (w : World) :
    Calls Try.prog 61 #[.int .i64 x] w fun e w' => e = .returned (.bool (decide (0 ≤ x ∧ x ≤ 10000))) ∧ w' = w := by
  by_cases h0 : 0 ≤ x
  · have d0 : decide (0 ≤ x) = true := decide_eq_true h0
    have e : decide (0 ≤ x ∧ x ≤ 10000) = decide (x ≤ 10000) := by rw [Bool.eq_iff_iff, decide_eq_true_eq, decide_eq_true_eq]; omega
    rw [e]
    go_enter Try.func61, Try.ntmps61
    go_wp2
    go_returns
    exact ⟨rfl, rfl⟩
  · have d0 : decide (0 ≤ x) = false := decide_eq_false h0
    have e : decide (0 ≤ x ∧ x ≤ 10000) = false := decide_eq_false (by omega)
    rw [e]
    go_enter Try.func61, Try.ntmps61
    go_wp2
    go_returns
    exact ⟨rfl, rfl⟩
theorem dnRt_any (v : Value) (l : List (Int × Int)) (w : World) (hv : Pts w v l) :
    Calls Try.prog 60 #[v] w fun e w' => e = .returned (.bool (dnE l == 0)) ∧ Below w.heap.size w w' := by
  have H := Lib.hid (dnChk_any v l w hv)
  generalize dnI l = I at *
  generalize dnE l = E at *
  go_enter Try.func60, Try.ntmps60
  go_wp2_with fail
  refine H.out.mono ?_
  rintro e w1 ⟨rfl, gg⟩
  have X := Lib.hid gg; clear gg
  go_wp2
  go_returns
  exact ⟨rfl, X.out⟩
theorem rnRt_any (v : Value) (l : List (Int × Int)) (w : World) (hv : Pts w v l) :
    Calls Try.prog 51 #[v] w fun e w' => e = .returned (.bool (dnE l == 0)) ∧ Below w.heap.size w w' := by
  have H := Lib.hid (rnChk_any v l w hv)
  generalize dnI l = I at *
  generalize dnE l = E at *
  go_enter Try.func51, Try.ntmps51
  go_wp2_with fail
  refine H.out.mono ?_
  rintro e w1 ⟨rfl, gg⟩
  have X := Lib.hid gg; clear gg
  go_wp2
  go_returns
  exact ⟨rfl, X.out⟩
def fnE (l : List (Int × Int)) (s : Int) : Int := if dnE l ≠ 0 then 1 else if 0 ≤ s ∧ s ≤ 10000 then 0 else 2
def fnI (l : List (Int × Int)) (s : Int) : Int := if fnE l s = 0 then (rcN l (s + 1) : Int) - 1 else 0
theorem rcN_pos {l : List (Int × Int)} (h : DR l) {s : Int} (hs : 0 ≤ s) : 1 ≤ rcN l (s + 1) := by
  obtain ⟨h1, h2, h3⟩ := rcN_spec h (s + 1)
  have n0 := h.n0
  have z := h.z
  rcases Nat.eq_zero_or_pos (rcN l (s + 1)) with e | e
  · have := h3 0 (by omega) (by omega); omega
  · exact e
set_option maxHeartbeats 8000000 in
theorem dnFn_any (v : Value) (l : List (Int × Int)) (s : Int) (w : World) (hv : Pts w v l) :
    Calls Try.prog 30 #[v, .int .i64 s] w fun e w' => e = .returned (.tuple #[.int .i64 (fnI l s), .int .i64 (fnE l s)]) ∧ Below w.heap.size w w' := by
  have HR := Lib.hid (dnRt_any v l w hv)
  have HS := Lib.hid (fun W => dnSt_any s W)
  by_cases he : dnE l = 0
  · have hD := dnE_zero.1 he
    rw [show (dnE l == 0) = true by simpa using he] at HR
    by_cases hs : 0 ≤ s ∧ s ≤ 10000
    · have HC := Lib.hid (fun W (hW : Below w.heap.size w W) => dnRc_any v l (s + 1) W (hv.below hW) hD)
      have e1 : fnE l s = 0 := by unfold fnE; rw [if_neg (by omega), if_pos hs]
      have e2 : fnI l s = (rcN l (s + 1) : Int) - 1 := by unfold fnI; rw [if_pos e1]
      have p1 := rcN_pos hD hs.1
      have p2 := (rcN_spec hD (s + 1)).1
      have n1 := hD.n1
      rw [e1, e2]
      rw [decide_eq_true hs] at HS
      have w1 : IntKind.i64.wrap (s + 1) = s + 1 := wrap_in _ ⟨by omega, by omega⟩
      generalize rcN l (s + 1) = k at *
      have w2 : IntKind.i64.wrap ((k : Int) - 1) = (k : Int) - 1 := wrap_in _ ⟨by omega, by omega⟩
      clear e1 e2 p1 p2 he hD
      go_enter Try.func30, Try.ntmps30
      go_wp2_with fail
      refine HR.out.mono ?_
      rintro e w1 ⟨rfl, gg⟩
      have X := Lib.hid gg; clear gg
      go_wp2_with fail
      refine (HS.out _).mono ?_
      rintro e w2 ⟨rfl, rfl⟩
      go_wp2_with fail
      refine (HC.out _ X.out).mono ?_
      rintro e w3 ⟨rfl, gg⟩
      have X2 := Lib.hid (bel_trans X.out gg); clear gg
      go_wp2
      go_returns
      exact ⟨rfl, X2.out⟩
    · have e1 : fnE l s = 2 := by unfold fnE; rw [if_neg (by omega), if_neg hs]
      have e2 : fnI l s = 0 := by unfold fnI; rw [if_neg (by omega)]
      rw [e1, e2]
      rw [decide_eq_false hs] at HS
      go_enter Try.func30, Try.ntmps30
      go_wp2_with fail
      refine HR.out.mono ?_
      rintro e w1 ⟨rfl, gg⟩
      have X := Lib.hid gg; clear gg
      go_wp2_with fail
      refine (HS.out _).mono ?_
      rintro e w2 ⟨rfl, rfl⟩
      go_wp2
      go_returns
      exact ⟨rfl, X.out⟩
  · have e1 : fnE l s = 1 := by unfold fnE; rw [if_pos he]
    have e2 : fnI l s = 0 := by unfold fnI; rw [if_neg (by omega)]
    rw [e1, e2]
    rw [show (dnE l == 0) = false by simpa using he] at HR
    go_enter Try.func30, Try.ntmps30
    go_wp2_with fail
    refine HR.out.mono ?_
    rintro e w1 ⟨rfl, gg⟩
    have X := Lib.hid gg; clear gg
    go_wp2
    go_returns
    exact ⟨rfl, X.out⟩
end Go.Proofs.Ytadkhhkoankhnaa

/- Plain facts of layer 18: the density at a strength. No program stands in the facts of this text. -/
namespace Go.Proofs.Ytadkhhkoankhnaa

/-- the density between two rows -/
def btD (x0 r0 x1 r1 s : Int) : Int := r1 + (2 * (r0 - r1) * (x1 - s) + (x1 - x0)) / (2 * (x1 - x0))
theorem half_bd {D E L : Int} (hD : 0 ≤ D) (hE : 0 ≤ E) (hL : 0 < L) (hEL : E ≤ L) : 0 ≤ (2 * D * E + L) / (2 * L) ∧ (2 * D * E + L) / (2 * L) ≤ D := by
  have P : 0 ≤ D * E := Int.mul_nonneg hD hE
  have Q : D * E ≤ D * L := Int.mul_le_mul_of_nonneg_left hEL hD
  have e1 : 2 * D * E = 2 * (D * E) := by rw [Int.mul_assoc]
  rw [e1]
  constructor
  · exact Int.ediv_nonneg (by omega) (by omega)
  · have : (2 * (D * E) + L) / (2 * L) < D + 1 := by
      rw [Int.ediv_lt_iff_lt_mul (by omega)]
      have e2 : (D + 1) * (2 * L) = 2 * (D * L) + 2 * L := by rw [Int.add_mul, Int.one_mul, ← Int.mul_assoc, Int.mul_comm D 2, Int.mul_assoc]
      rw [e2]; omega
    omega
theorem btD_bd {x0 r0 x1 r1 s : Int} (h0 : x0 < x1) (h1 : x0 ≤ s) (h2 : s ≤ x1) (h3 : r1 ≤ r0) : r1 ≤ btD x0 r0 x1 r1 s ∧ btD x0 r0 x1 r1 s ≤ r0 := by
  unfold btD
  obtain ⟨a, b⟩ := half_bd (D := r0 - r1) (E := x1 - s) (L := x1 - x0) (by omega) (by omega) (by omega) (by omega)
  omega
theorem btD_anti {x0 r0 x1 r1 s t : Int} (h0 : x0 < x1) (h3 : r1 ≤ r0) (h : s ≤ t) : btD x0 r0 x1 r1 t ≤ btD x0 r0 x1 r1 s := by
  unfold btD
  have Q : (r0 - r1) * (x1 - t) ≤ (r0 - r1) * (x1 - s) := Int.mul_le_mul_of_nonneg_left (by omega) (by omega)
  have : (2 * (r0 - r1) * (x1 - t) + (x1 - x0)) / (2 * (x1 - x0)) ≤ (2 * (r0 - r1) * (x1 - s) + (x1 - x0)) / (2 * (x1 - x0)) := by
    refine Int.ediv_le_ediv (by omega) ?_
    rw [Int.mul_assoc, Int.mul_assoc]; omega
  omega
theorem btD_hi {x0 r0 x1 r1 : Int} (h0 : x0 < x1) : btD x0 r0 x1 r1 x1 = r1 := by
  unfold btD
  rw [Int.sub_self, Int.mul_zero, Int.zero_add, Int.ediv_eq_zero_of_lt (by omega) (by omega), Int.add_zero]
theorem btD_lo {x0 r0 x1 r1 : Int} (h0 : x0 < x1) : btD x0 r0 x1 r1 x0 = r0 := by
  unfold btD
  have e : 2 * (r0 - r1) * (x1 - x0) + (x1 - x0) = (x1 - x0) + (2 * (x1 - x0)) * (r0 - r1) := by
    rw [Int.add_comm, Int.mul_assoc, Int.mul_comm (r0 - r1), ← Int.mul_assoc]
  rw [e, Int.add_mul_ediv_left _ _ (by omega), Int.ediv_eq_zero_of_lt (by omega) (by omega)]
  omega
/-- the same from the row before -/
theorem btD_line {x0 r0 x1 r1 s : Int} (h0 : x0 < x1) : (2 * (r0 * (x1 - x0) + (r1 - r0) * (s - x0)) + (x1 - x0)) / (2 * (x1 - x0)) = btD x0 r0 x1 r1 s := by
  unfold btD
  have e : 2 * (r0 * (x1 - x0) + (r1 - r0) * (s - x0)) + (x1 - x0) = (2 * (r0 - r1) * (x1 - s) + (x1 - x0)) + (2 * (x1 - x0)) * r1 := by grind
  rw [e, Int.add_mul_ediv_left _ _ (by omega)]
  omega

/-- the index of the row behind a strength, and the density at it -/
def atI (l : List (Int × Int)) (s : Int) : Nat := 1 + fst (fun i => decide (s ≤ gX l (i + 1))) (l.length - 2)
def atD (l : List (Int × Int)) (s : Int) : Int := btD (gX l (atI l s - 1)) (gR l (atI l s - 1)) (gX l (atI l s)) (gR l (atI l s)) s
theorem atI_spec {l : List (Int × Int)} (h : DR l) {s : Int} (h0 : 0 ≤ s) (h1 : s ≤ 10000) :
    1 ≤ atI l s ∧ atI l s < l.length ∧ gX l (atI l s - 1) ≤ s ∧ s ≤ gX l (atI l s) := by
  have n0 := h.n0
  have z := h.z
  have t := h.t
  obtain ⟨s1, s2⟩ := fst_spec (fun i => decide (s ≤ gX l (i + 1))) (l.length - 2)
  have le := fst_le (fun i => decide (s ≤ gX l (i + 1))) (l.length - 2)
  unfold atI
  generalize fst (fun i => decide (s ≤ gX l (i + 1))) (l.length - 2) = k at *
  refine ⟨by omega, by omega, ?_, ?_⟩
  · rw [show 1 + k - 1 = k by omega]
    rcases k with _ | k
    · rw [z]; exact h0
    · have := of_decide_eq_false (s1 k (by omega)); omega
  · by_cases hk : k < l.length - 2
    · have := of_decide_eq_true (s2 hk)
      rwa [Nat.add_comm] at this
    · rw [show 1 + k = l.length - 1 by omega, t]; exact h1
theorem DR.lt {l : List (Int × Int)} (h : DR l) {j i : Nat} (hj : j < i) (hi : i < l.length) : gX l j < gX l i := (h.chain j i hj hi).1
theorem DR.ge {l : List (Int × Int)} (h : DR l) {j i : Nat} (hj : j ≤ i) (hi : i < l.length) : gR l i ≤ gR l j := by
  by_cases e : j = i
  · rw [e]; exact Int.le_refl _
  · exact (h.chain j i (by omega) hi).2
/-- between any two neighbours that enclose the strength -/
theorem atD_eq {l : List (Int × Int)} (h : DR l) {s : Int} {k : Nat} (hk : k + 1 < l.length) (h1 : gX l k ≤ s) (h2 : s ≤ gX l (k + 1)) : atD l s = btD (gX l k) (gR l k) (gX l (k + 1)) (gR l (k + 1)) s := by
  have b1 := (h.b k (by omega)).1
  have b2 := (h.b (k + 1) hk).2.1
  obtain ⟨i1, i2, i3, i4⟩ := atI_spec h (s := s) (by omega) (by omega)
  unfold atD
  generalize atI l s = i at *
  obtain ⟨i, rfl⟩ : ∃ j, i = j + 1 := ⟨i - 1, by omega⟩
  rw [show i + 1 - 1 = i by omega] at *
  rcases Nat.lt_trichotomy i k with c | c | c
  · have := h.le (show i + 1 ≤ k by omega) (by omega)
    have e : s = gX l (i + 1) := by omega
    have e2 : i + 1 = k := by
      rcases Nat.lt_or_ge (i + 1) k with g | g
      · have := h.lt g (by omega); omega
      · omega
    rw [e, btD_hi (h.lt (by omega) (by omega)), e2, btD_lo (h.lt (by omega) (by omega))]
  · rw [c]
  · have := h.le (show k + 1 ≤ i by omega) (by omega)
    have e : s = gX l i := by omega
    have e2 : k + 1 = i := by
      rcases Nat.lt_or_ge (k + 1) i with g | g
      · have := h.lt g (by omega); omega
      · omega
    rw [e, btD_lo (h.lt (by omega) (by omega)), ← e2, btD_hi (h.lt (by omega) (by omega))]
theorem atD_row {l : List (Int × Int)} (h : DR l) {k : Nat} (hk : k < l.length) : atD l (gX l k) = gR l k := by
  have n0 := h.n0
  rcases k with _ | k
  · rw [atD_eq h (k := 0) (by omega) (Int.le_refl _) (Int.le_of_lt (h.lt (by omega) (by omega))), btD_lo (h.lt (by omega) (by omega))]
  · rw [atD_eq h (k := k) hk (Int.le_of_lt (h.lt (by omega) hk)) (Int.le_refl _), btD_hi (h.lt (by omega) (by omega))]
theorem atD_bd {l : List (Int × Int)} (h : DR l) {s : Int} (h0 : 0 ≤ s) (h1 : s ≤ 10000) :
    gR l (atI l s) ≤ atD l s ∧ atD l s ≤ gR l (atI l s - 1) ∧ 50000 ≤ atD l s ∧ atD l s ≤ 120000 := by
  obtain ⟨i1, i2, i3, i4⟩ := atI_spec h h0 h1
  have a := btD_bd (h.lt (j := atI l s - 1) (i := atI l s) (by omega) i2) i3 i4 (h.ge (j := atI l s - 1) (by omega) i2)
  have b := h.b _ i2
  have c := h.b (atI l s - 1) (by omega)
  unfold atD
  omega
theorem atD_anti {l : List (Int × Int)} (h : DR l) {s t : Int} (h0 : 0 ≤ s) (h1 : t ≤ 10000) (hst : s ≤ t) : atD l t ≤ atD l s := by
  obtain ⟨i1, i2, i3, i4⟩ := atI_spec h h0 (by omega)
  obtain ⟨k1, k2, k3, k4⟩ := atI_spec h (s := t) (by omega) h1
  have a := atD_bd h h0 (s := s) (by omega)
  have b := atD_bd h (s := t) (by omega) h1
  rcases Nat.lt_or_ge (atI l t) (atI l s) with c | c
  · have := h.le (show atI l t ≤ atI l s - 1 by omega) (by omega)
    have e : s = t := by omega
    subst e
    exact Int.le_refl _
  · by_cases e : atI l s = atI l t
    · unfold atD
      rw [e]
      exact btD_anti (h.lt (by omega) k2) (h.ge (by omega) k2) hst
    · have := h.ge (show atI l s ≤ atI l t - 1 by omega) (by omega)
      omega

/-- the least strength whose density is less than a number, or what follows the greatest strength -/
def blN (l : List (Int × Int)) (n : Int) : Nat := fst (fun s => decide (atD l (s : Int) < n)) 10001
theorem blN_mono {l : List (Int × Int)} (h : DR l) (n : Int) : ∀ a b : Nat, a ≤ b → b < 10001 → decide (atD l (a : Int) < n) = true → decide (atD l (b : Int) < n) = true := fun a b hab hb ha => by
  have := of_decide_eq_true ha
  have := atD_anti h (s := a) (t := b) (by omega) (by omega) (by omega)
  exact decide_eq_true (by omega)
theorem blN_spec {l : List (Int × Int)} (h : DR l) (n : Int) : blN l n ≤ 10001 ∧ (∀ s : Int, 0 ≤ s → s < blN l n → n ≤ atD l s) ∧ ∀ s : Int, (blN l n : Int) ≤ s → s ≤ 10000 → atD l s < n := by
  obtain ⟨s1, s2⟩ := fst_spec (fun s => decide (atD l (s : Int) < n)) 10001
  have le := fst_le (fun s => decide (atD l (s : Int) < n)) 10001
  refine ⟨le, fun s h0 hs => ?_, fun s hs h1 => ?_⟩
  · have := of_decide_eq_false (s1 s.toNat (by unfold blN at hs; omega))
    rw [Int.toNat_of_nonneg h0] at this
    omega
  · have a := of_decide_eq_true (s2 (by unfold blN at hs; omega))
    have := atD_anti h (s := (blN l n : Int)) (t := s) (by omega) h1 hs
    unfold blN at this hs
    omega
def denE (l : List (Int × Int)) (s : Int) : Int := if dnE l ≠ 0 then 1 else if 0 ≤ s ∧ s ≤ 10000 then 0 else 2
def denV (l : List (Int × Int)) (s : Int) : Int := if denE l s = 0 then atD l s else 0
theorem denE_zero {l : List (Int × Int)} {s : Int} : denE l s = 0 ↔ DR l ∧ 0 ≤ s ∧ s ≤ 10000 := by
  unfold denE
  by_cases h : dnE l = 0
  · rw [if_neg (by omega)]
    have hD := dnE_zero.1 h
    by_cases g : 0 ≤ s ∧ s ≤ 10000
    · rw [if_pos g]; exact ⟨fun _ => ⟨hD, g⟩, fun _ => rfl⟩
    · rw [if_neg g]; exact ⟨fun e => (by cases e), fun e => absurd e.2 g⟩
  · rw [if_pos h]; exact ⟨fun e => (by cases e), fun e => absurd (dnE_zero.2 e.1) h⟩
theorem denV_ok {l : List (Int × Int)} {s : Int} (h : denE l s = 0) : denV l s = atD l s := by unfold denV; rw [if_pos h]
theorem denV_no {l : List (Int × Int)} {s : Int} (h : denE l s ≠ 0) : denV l s = 0 := by unfold denV; rw [if_neg h]
end Go.Proofs.Ytadkhhkoankhnaa

/- Package interpolate: the density between two rows, and at a strength. -/
namespace Go.Proofs.Ytadkhhkoankhnaa
open Go.RowKit

set_option maxHeartbeats 4000000 in
theorem itBt_any (x0 r0 x1 r1 s : Int) (w : World) (hx0 : 0 ≤ x0) (hx : x0 < x1) (hx1 : x1 ≤ 10000) (hs0 : x0 ≤ s) (hs1 : s ≤ x1) (hr1 : 0 ≤ r1) (hr : r1 ≤ r0) (hr0 : r0 ≤ 120000) :
    Calls Try.prog 75 #[.agg #[.int .i64 x0, .int .i64 r0], .agg #[.int .i64 x1, .int .i64 r1], .int .i64 s] w fun e w' => e = .returned (.int .i64 (btD x0 r0 x1 r1 s)) ∧ Below w.heap.size w w' := by
  obtain ⟨q0, q1⟩ := half_bd (D := r0 - r1) (E := x1 - s) (L := x1 - x0) (by omega) (by omega) (by omega) (by omega)
  have P : 0 ≤ (r0 - r1) * (x1 - s) := Int.mul_nonneg (by omega) (by omega)
  have P1 : (r0 - r1) * (x1 - s) ≤ 120000 * 10000 := Int.mul_le_mul (by omega) (by omega) (by omega) (by omega)
  have e0 : btD x0 r0 x1 r1 s = r1 + (2 * (r0 - r1) * (x1 - s) + (x1 - x0)) / (2 * (x1 - x0)) := rfl
  rw [e0]
  have p2 : 2 * (r0 - r1) * (x1 - s) = 2 * ((r0 - r1) * (x1 - s)) := by rw [Int.mul_assoc]
  generalize hQ : (2 * (r0 - r1) * (x1 - s) + (x1 - x0)) / (2 * (x1 - x0)) = Q at *
  have w1 : IntKind.i64.wrap (x1 - x0) = x1 - x0 := wrap_in _ ⟨by omega, by omega⟩
  have w2 : IntKind.i64.wrap (r0 - r1) = r0 - r1 := wrap_in _ ⟨by omega, by omega⟩
  have w3 : IntKind.i64.wrap (2 * (r0 - r1)) = 2 * (r0 - r1) := wrap_in _ ⟨by omega, by omega⟩
  have w4 : IntKind.i64.wrap (x1 - s) = x1 - s := wrap_in _ ⟨by omega, by omega⟩
  have w5 : IntKind.i64.wrap (2 * (r0 - r1) * (x1 - s)) = 2 * (r0 - r1) * (x1 - s) := wrap_in _ ⟨by omega, by omega⟩
  have w6 : IntKind.i64.wrap (2 * (r0 - r1) * (x1 - s) + (x1 - x0)) = 2 * (r0 - r1) * (x1 - s) + (x1 - x0) := wrap_in _ ⟨by omega, by omega⟩
  have w7 : IntKind.i64.wrap (2 * (x1 - x0)) = 2 * (x1 - x0) := wrap_in _ ⟨by omega, by omega⟩
  have nz : ¬ 2 * (x1 - x0) = 0 := by omega
  have nz2 : (2 * (x1 - x0) == 0) = false := by rw [beq_eq_false_iff_ne]; exact nz
  have w8 : IntKind.i64.wrap ((2 * (r0 - r1) * (x1 - s) + (x1 - x0)).tdiv (2 * (x1 - x0))) = Q := by
    rw [Int.tdiv_eq_ediv_of_nonneg (by omega), hQ]; exact wrap_in _ ⟨by omega, by omega⟩
  have w9 : IntKind.i64.wrap (r1 + Q) = r1 + Q := wrap_in _ ⟨by omega, by omega⟩
  have nz3 : (x1 - x0 == 0) = false := by rw [beq_eq_false_iff_ne]; omega
  have nz4 : ¬ x1 - x0 = 0 := by omega
  have X : Hid (∀ m m2, Below w.heap.size w ((((w.alloc (.cells #[.int .i64 x0, .int .i64 r0] 42)).alloc (.cells #[.int .i64 x1, .int .i64 r1] 42)).drewN m).drewN m2)) := Lib.hid fun m m2 => bel_trans (bel_alloc (bel_alloc (Below.refl _ _))) (bel_drew2 _ _ _)
  go_enter Try.func75, Try.ntmps75
  go_wp2_with fail
  go_quiet (fail)
  go_wp2_with fail
  go_quiet (fail)
  go_wp2
  go_returns
  refine ⟨?_, X.out _ _⟩
  show Ending.returned (.int .i64 (wrap64 (r1 + (2 * ((r0 - r1) * (x1 - s)) + (x1 - x0)) / (2 * (x1 - x0))))) = _
  rw [← p2, hQ, IntWalk.wrap64_in _ ⟨by omega, by omega⟩]
set_option maxHeartbeats 4000000 in
theorem itA1_any (i q1 q2 b off n cap : Nat) (x : Int) (l : List (Int × Int)) (w : World) (hi : i + 1 < n) (n1 : n ≤ 1000) (c1 : w.cell? ⟨q1, 0, none⟩ = some (.slice (some ⟨b, off, none⟩) n cap)) (c2 : w.cell? ⟨q2, 0, none⟩ = some (.int .i64 x))
    (c3 : w.cell? ⟨b, off + (i + 1) * 2, none⟩ = some (.int .i64 (gX l (i + 1)))) :
    Calls Try.prog 74 #[.int .i64 i, .pointer (some ⟨q1, 0, none⟩), .pointer (some ⟨q2, 0, none⟩)] w fun e w' => e = .returned (.bool (decide (x ≤ gX l (i + 1)))) ∧ Below w.heap.size w w' := by
  have w1 : IntKind.i64.wrap ((i : Int) + 1) = ((i + 1 : Nat) : Int) := by rw [wrap_in _ ⟨by omega, by omega⟩]; omega
  have l0 : ((i + 1 : Nat) : Int) < (n : Int) := by omega
  have X1 : Hid (∀ m, Below w.heap.size w (w.drewN m)) := Lib.hid fun m => ⟨rfl, rfl, rfl, Nat.le_refl _, fun i hi => rfl⟩
  generalize gX l (i + 1) = y at *
  generalize i + 1 = j at *
  go_enter Try.func74, Try.ntmps74
  go_wp2_with fail
  go_quiet (fail)
  go_wp2
  go_returns
  exact ⟨rfl, X1.out _⟩
set_option maxHeartbeats 8000000 in
set_option maxRecDepth 100000 in
theorem itAt_any (v : Value) (l : List (Int × Int)) (x : Int) (w : World) (hv : Pts w v l) (h : DR l) (h0 : 0 ≤ x) (h1 : x ≤ 10000) :
    Calls Try.prog 50 #[v, .int .i64 x] w fun e w' => e = .returned (.int .i64 (atD l x)) ∧ Below w.heap.size w w' := by
  have n0 := h.n0
  have n1 := h.n1
  obtain ⟨i1, i2, i3, i4⟩ := atI_spec h h0 h1
  have bt := fun W => itBt_any (gX l (atI l x - 1)) (gR l (atI l x - 1)) (gX l (atI l x)) (gR l (atI l x)) x W (h.b _ (by omega)).1 (h.lt (by omega) i2) (h.b _ i2).2.1 i3 i4 (by have := (h.b _ i2).2.2.1; omega) (h.ge (by omega) i2) (h.b _ (by omega)).2.2.2
  obtain ⟨a, cap, rfl, hl, hh⟩ := hv
  rcases hh with hh | ⟨b, off, rfl, hb, hc⟩
  · omega
  have hmf : ∀ (fn : Fn) (first cap : Array Value) (w : World), (Instr.makeFunc fn first cap).run Try.prog w = .ok (.func fn first cap) w := fun _ _ _ _ => rfl
  have HS : Hid (∀ W q1 q2, Below w.heap.size w W → Boxed W q1 22 (.slice (some ⟨b, off, none⟩) l.length cap) → Boxed W q2 3 (.int .i64 x) → Calls Try.prog 73 #[.int .i64 ((l.length - 2 : Nat) : Int), .func (.func 74) #[] #[.pointer (some ⟨q1, 0, none⟩), .pointer (some ⟨q2, 0, none⟩)]] W fun e w' => e = .returned (.int .i64 (fst (fun i => decide (x ≤ gX l (i + 1))) (l.length - 2) : Nat)) ∧ Below W.heap.size W w') := Lib.hid fun W q1 q2 hW h1 h2 =>
    search_bel 74 #[.pointer (some ⟨q1, 0, none⟩), .pointer (some ⟨q2, 0, none⟩)] (l.length - 2) (fun i => decide (x ≤ gX l (i + 1))) W (enters_of Try.func74 (by kernel_rfl) rfl) (by omega)
      (Lib.hid fun i W2 hi hW2 => itA1_any i q1 q2 b off l.length cap x l W2 (by omega) (by omega) (cell_bel h1.cell hW2) (cell_bel h2.cell hW2) (cell_bel (cell_bel (hc (i + 1) (by omega)).1 hW) hW2))
      (Lib.hid fun i j hij hj hp => by
        have := of_decide_eq_true hp
        have := h.le (show i + 1 ≤ j + 1 by omega) (by omega)
        exact decide_eq_true (by omega))
  have B0 := Lib.hid ((Boxed.new w 22 (.slice (some ⟨b, off, none⟩) l.length cap)).alloc (.cells #[.int .i64 x] 3))
  have B1 : Hid (Boxed ((w.alloc (.cells #[.slice (some ⟨b, off, none⟩) l.length cap] 22)).alloc (.cells #[.int .i64 x] 3)) (w.heap.size + 1) 3 (.int .i64 x)) := Lib.hid (by
    have := Boxed.new (w.alloc (.cells #[.slice (some ⟨b, off, none⟩) l.length cap] 22)) 3 (.int .i64 x)
    rwa [World.size_alloc] at this)
  have X0 : Hid (Below w.heap.size w ((w.alloc (.cells #[.slice (some ⟨b, off, none⟩) l.length cap] 22)).alloc (.cells #[.int .i64 x] 3))) := Lib.hid (bel_alloc (bel_alloc (Below.refl _ _)))
  have c0 := B0.out.cell
  have ek : atI l x = 1 + fst (fun i => decide (x ≤ gX l (i + 1))) (l.length - 2) := rfl
  have eD : atD l x = btD (gX l (atI l x - 1)) (gR l (atI l x - 1)) (gX l (atI l x)) (gR l (atI l x)) x := rfl
  rw [eD]
  have wn : IntKind.i64.wrap ((l.length : Int) - 2) = ((l.length - 2 : Nat) : Int) := by rw [wrap_in _ ⟨by omega, by omega⟩]; omega
  generalize atI l x = i at *
  obtain ⟨k, rfl⟩ : ∃ k, i = k + 1 := ⟨i - 1, by omega⟩
  rw [show fst (fun i => decide (x ≤ gX l (i + 1))) (l.length - 2) = k by omega] at HS
  rw [show k + 1 - 1 = k by omega] at *
  have wk : IntKind.i64.wrap (1 + (k : Int)) = ((k + 1 : Nat) : Int) := by rw [wrap_in _ ⟨by omega, by omega⟩]; omega
  have wk2 : IntKind.i64.wrap (((k + 1 : Nat) : Int) - 1) = (k : Int) := by rw [wrap_in _ ⟨by omega, by omega⟩]; omega
  have wk3 : IntKind.i64.wrap ((k : Int) + 1 - 1) = (k : Int) := by rw [wrap_in _ ⟨by omega, by omega⟩]; omega
  have l0 : (k : Int) < (l.length : Int) := by omega
  have l1 : ((k + 1 : Nat) : Int) < (l.length : Int) := by omega
  have HC : Hid (∀ W, Below w.heap.size w W → (W.cell? ⟨b, off + k * 2, none⟩ = some (.int .i64 (gX l k)) ∧ W.cell? ⟨b, off + k * 2 + 1, none⟩ = some (.int .i64 (gR l k))) ∧ (W.cell? ⟨b, off + (k + 1) * 2, none⟩ = some (.int .i64 (gX l (k + 1))) ∧ W.cell? ⟨b, off + (k + 1) * 2 + 1, none⟩ = some (.int .i64 (gR l (k + 1))))) := Lib.hid fun W hW => ⟨⟨cell_bel (hc k (by omega)).1 hW, cell_bel (hc k (by omega)).2 hW⟩, ⟨cell_bel (hc (k + 1) (by omega)).1 hW, cell_bel (hc (k + 1) (by omega)).2 hW⟩⟩
  replace bt := Lib.hid bt
  clear hc ek eD
  generalize gX l k = x0 at *
  generalize gR l k = r0 at *
  generalize gX l (k + 1) = x1 at *
  generalize gR l (k + 1) = r1 at *
  generalize l.length - 2 = nn at *
  generalize l.length = n at *
  generalize btD x0 r0 x1 r1 x = V at *
  generalize hk1 : k + 1 = k1 at *
  go_enter Try.func50, Try.ntmps50
  go_wp2_with fail
  refine (HS.out _ _ _ X0.out B0.out B1.out).mono ?_
  rintro e w1 ⟨rfl, gg⟩
  replace B0 := Lib.hid (bxd_below B0.out gg)
  replace B1 := Lib.hid (bxd_below B1.out gg)
  have X1 := Lib.hid (bel_trans X0.out gg); clear gg
  have c0 := B0.out.cell
  have c1 := B1.out.cell
  obtain ⟨⟨f0, f1⟩, f2, f3⟩ := HC.out _ X1.out
  go_wp2_with fail
  go_still_tail 10, (by kernel_rfl)
  change wpList _ _ _ _ _ w1.drew
  replace X1 := Lib.hid (bel_trans X1.out (bel_drew w1))
  generalize w1.drew = wq at *
  go_wp2_with fail
  refine (bt.out _).mono ?_
  rintro e w2 ⟨rfl, gg⟩
  replace X1 := Lib.hid (bel_trans X1.out gg); clear gg
  go_wp2
  go_returns
  exact ⟨rfl, X1.out⟩
end Go.Proofs.Ytadkhhkoankhnaa

/- Package interpolate: Density, Strength, Range. -/
namespace Go.Proofs.Ytadkhhkoankhnaa
open Go.RowKit

theorem itRt_any (v : Value) (l : List (Int × Int)) (w : World) (hv : Pts w v l) :
    Calls Try.prog 49 #[v] w fun e w' => e = .returned (.bool (dnE l == 0)) ∧ Below w.heap.size w w' := by
  have H := Lib.hid (dnChk_any v l w hv)
  generalize dnI l = I at *
  generalize dnE l = E at *
  go_enter Try.func49, Try.ntmps49
  go_wp2_with fail
  refine H.out.mono ?_
  rintro e w1 ⟨rfl, gg⟩
  have X := Lib.hid gg; clear gg
  go_wp2
  go_returns
  exact ⟨rfl, X.out⟩
theorem dnZ {l : List (Int × Int)} : ((dnE l == 0) = true ↔ DR l) := by rw [beq_iff_eq, dnE_zero]
set_option maxHeartbeats 4000000 in
theorem itDen_any (v : Value) (l : List (Int × Int)) (s : Int) (w : World) (hv : Pts w v l) :
    Calls Try.prog 17 #[v, .int .i64 s] w fun e w' => e = .returned (.tuple #[.int .i64 (denV l s), .int .i64 (denE l s)]) ∧ Below w.heap.size w w' := by
  have HR := Lib.hid (itRt_any v l w hv)
  by_cases he : dnE l = 0
  · have hD := dnE_zero.1 he
    rw [show (dnE l == 0) = true by simpa using he] at HR
    by_cases h0 : s < 0
    · have e1 : denE l s = 2 := by unfold denE; rw [if_neg (by omega), if_neg (by omega)]
      have e2 : denV l s = 0 := denV_no (by omega)
      rw [e1, e2]
      have d0 : decide (s < 0) = true := decide_eq_true h0
      go_enter Try.func17, Try.ntmps17
      go_wp2_with fail
      refine HR.out.mono ?_
      rintro e w1 ⟨rfl, gg⟩
      have X := Lib.hid gg; clear gg
      go_wp2
      go_returns
      exact ⟨rfl, X.out⟩
    · have d0 : decide (s < 0) = false := decide_eq_false h0
      by_cases h1 : 10000 < s
      · have e1 : denE l s = 2 := by unfold denE; rw [if_neg (by omega), if_neg (by omega)]
        have e2 : denV l s = 0 := denV_no (by omega)
        rw [e1, e2]
        have d1 : decide (10000 < s) = true := decide_eq_true h1
        go_enter Try.func17, Try.ntmps17
        go_wp2_with fail
        refine HR.out.mono ?_
        rintro e w1 ⟨rfl, gg⟩
        have X := Lib.hid gg; clear gg
        go_wp2
        go_returns
        exact ⟨rfl, X.out⟩
      · have e1 : denE l s = 0 := denE_zero.2 ⟨hD, by omega, by omega⟩
        have e2 : denV l s = atD l s := denV_ok e1
        have HC := Lib.hid (fun W (hW : Below w.heap.size w W) => itAt_any v l s W (hv.below hW) hD (by omega) (by omega))
        rw [e1, e2]
        have d1 : decide (10000 < s) = false := decide_eq_false h1
        clear e1 e2
        generalize atD l s = V at *
        go_enter Try.func17, Try.ntmps17
        go_wp2_with fail
        refine HR.out.mono ?_
        rintro e w1 ⟨rfl, gg⟩
        have X := Lib.hid gg; clear gg
        go_wp2_with fail
        refine (HC.out _ X.out).mono ?_
        rintro e w2 ⟨rfl, gg⟩
        replace X := Lib.hid (bel_trans X.out gg); clear gg
        go_wp2
        go_returns
        exact ⟨rfl, X.out⟩
  · have e1 : denE l s = 1 := by unfold denE; rw [if_pos he]
    have e2 : denV l s = 0 := denV_no (by omega)
    rw [e1, e2]
    rw [show (dnE l == 0) = false by simpa using he] at HR
    go_enter Try.func17, Try.ntmps17
    go_wp2_with fail
    refine HR.out.mono ?_
    rintro e w1 ⟨rfl, gg⟩
    have X := Lib.hid gg; clear gg
    go_wp2
    go_returns
    exact ⟨rfl, X.out⟩

set_option maxHeartbeats 16000000 in
set_option maxRecDepth 100000 in
/-- whether the density at a strength is less than a number -/
theorem itB1_any (i q1 q2 : Nat) (a : Option Addr) (n cap : Nat) (y Q : Int) (w : World)
    (c1 : w.cell? ⟨q1, 0, none⟩ = some (.slice a n cap)) (c2 : w.cell? ⟨q2, 0, none⟩ = some (.int .i64 y)) (h1 : q1 < w.heap.size) (h2 : q2 < w.heap.size)
    (HA : Hid (∀ W, Below w.heap.size w W → Calls Try.prog 50 #[.slice a n cap, .int .i64 i] W fun e w' => e = .returned (.int .i64 Q) ∧ Below W.heap.size W w')) :
    Calls Try.prog 79 #[.int .i64 i, .pointer (some ⟨q1, 0, none⟩), .pointer (some ⟨q2, 0, none⟩)] w fun e w' => e = .returned (.bool (decide (Q < y))) ∧ Below w.heap.size w w' := by
  have CE : Hid (∀ W, Below w.heap.size w W → W.cell? ⟨q1, 0, none⟩ = some (.slice a n cap) ∧ W.cell? ⟨q2, 0, none⟩ = some (.int .i64 y)) := Lib.hid fun W hW => ⟨cell_bel c1 hW, cell_bel c2 hW⟩
  have X0 := Lib.hid (bel_drew w)
  go_enter Try.func79, Try.ntmps79
  go_wp2_with fail
  go_region_held3 (fun w' => w'.cell? ⟨q1, 0, none⟩ = some (.slice a n cap) ∧ w'.cell? ⟨q2, 0, none⟩ = some (.int .i64 y)) (go_keep) (first
    | (go_at_call 50; (with_reducible refine (HA.out _ X0.out).mono ?_); rintro e w3 ⟨rfl, gg⟩; have A1 := Lib.hid (bel_trans X0.out gg); obtain ⟨c1, c2⟩ := CE.out w3 A1.out; clear gg))
  all_goals go_wp2
  all_goals go_returns
  all_goals exact ⟨rfl, A1.out⟩
set_option maxHeartbeats 8000000 in
set_option maxRecDepth 100000 in
theorem itBl_any (v : Value) (l : List (Int × Int)) (y : Int) (w : World) (hv : Pts w v l) (h : DR l) :
    Calls Try.prog 54 #[v, .int .i64 y] w fun e w' => e = .returned (.int .i64 (blN l y : Nat)) ∧ Below w.heap.size w w' := by
  have hv2 := hv
  obtain ⟨a, cap, rfl, _, _⟩ := hv.shape
  have hmf : ∀ (fn : Fn) (first cap : Array Value) (w : World), (Instr.makeFunc fn first cap).run Try.prog w = .ok (.func fn first cap) w := fun _ _ _ _ => rfl
  have HS : Hid (∀ W q1 q2, Below w.heap.size w W → Boxed W q1 22 (.slice a l.length cap) → Boxed W q2 3 (.int .i64 y) → Calls Try.prog 73 #[.int .i64 10001, .func (.func 79) #[] #[.pointer (some ⟨q1, 0, none⟩), .pointer (some ⟨q2, 0, none⟩)]] W fun e w' => e = .returned (.int .i64 (blN l y : Nat)) ∧ Below W.heap.size W w') := Lib.hid fun W q1 q2 hW h1 h2 =>
    search_bel 79 #[.pointer (some ⟨q1, 0, none⟩), .pointer (some ⟨q2, 0, none⟩)] 10001 (fun s => decide (atD l (s : Int) < y)) W (enters_of Try.func79 (by kernel_rfl) rfl) (by omega)
      (Lib.hid fun i W2 hi hW2 => itB1_any i q1 q2 a l.length cap y (atD l (i : Int)) W2 (cell_bel h1.cell hW2) (cell_bel h2.cell hW2) (Nat.lt_of_lt_of_le h1.lt hW2.size) (Nat.lt_of_lt_of_le h2.lt hW2.size)
        (Lib.hid fun W3 hW3 => itAt_any _ l _ W3 (((hv2.below hW).below hW2).below hW3) h (by omega) (by omega)))
      (Lib.hid (blN_mono h y))
  have B0 := Lib.hid ((Boxed.new w 22 (.slice a l.length cap)).alloc (.cells #[.int .i64 y] 3))
  have B1 : Hid (Boxed ((w.alloc (.cells #[.slice a l.length cap] 22)).alloc (.cells #[.int .i64 y] 3)) (w.heap.size + 1) 3 (.int .i64 y)) := Lib.hid (by
    have := Boxed.new (w.alloc (.cells #[.slice a l.length cap] 22)) 3 (.int .i64 y)
    rwa [World.size_alloc] at this)
  have X0 : Hid (Below w.heap.size w ((w.alloc (.cells #[.slice a l.length cap] 22)).alloc (.cells #[.int .i64 y] 3))) := Lib.hid (bel_alloc (bel_alloc (Below.refl _ _)))
  generalize blN l y = k at *
  generalize l.length = n at *
  clear hv hv2
  go_enter Try.func54, Try.ntmps54
  go_wp2_with fail
  refine (HS.out _ _ _ X0.out B0.out B1.out).mono ?_
  rintro e w1 ⟨rfl, gg⟩
  have X1 := Lib.hid (bel_trans X0.out gg); clear gg
  go_wp2
  go_returns
  exact ⟨rfl, X1.out⟩
end Go.Proofs.Ytadkhhkoankhnaa

/- Plain facts of layer 20: strength and volume of liquids. No program stands in the facts of this text. -/
namespace Go.Proofs.Ytadkhhkoankhnaa

/-- a liquid is right for a table -/
structure LR (l : List (Int × Int)) (A M : Int) : Prop where
  a0 : 0 ≤ A
  a1 : A ≤ 10737418240000
  m0 : 0 ≤ M
  m1 : M ≤ 128849018880000
  t : A * atD l 10000 ≤ M * 10000
def alE (l : List (Int × Int)) (A M : Int) : Int := if dnE l ≠ 0 then 1 else if 0 ≤ A ∧ A ≤ 10737418240000 ∧ 0 ≤ M ∧ M ≤ 128849018880000 then (if M * 10000 < A * atD l 10000 then 10 else 0) else 2
theorem alE_zero {l : List (Int × Int)} {A M : Int} : alE l A M = 0 ↔ DR l ∧ LR l A M := by
  unfold alE
  by_cases h : dnE l = 0
  · rw [if_neg (by omega)]
    have hD := dnE_zero.1 h
    by_cases g : 0 ≤ A ∧ A ≤ 10737418240000 ∧ 0 ≤ M ∧ M ≤ 128849018880000
    · rw [if_pos g]
      obtain ⟨g1, g2, g3, g4⟩ := g
      by_cases k : M * 10000 < A * atD l 10000
      · rw [if_pos k]; exact ⟨fun e => (by cases e), fun e => by have := e.2.t; omega⟩
      · rw [if_neg k]; exact ⟨fun _ => ⟨hD, g1, g2, g3, g4, by omega⟩, fun _ => rfl⟩
    · rw [if_neg g]; exact ⟨fun e => (by cases e), fun e => absurd ⟨e.2.a0, e.2.a1, e.2.m0, e.2.m1⟩ g⟩
  · rw [if_pos h]; exact ⟨fun e => (by cases e), fun e => absurd (dnE_zero.2 e.1) h⟩
/-- the liquid has not the alcohol of the strength i + 1 -/
def sgP (l : List (Int × Int)) (A M : Int) (i : Nat) : Bool := !decide (M * ((i : Int) + 1) ≤ A * atD l ((i : Int) + 1))
def sgN (l : List (Int × Int)) (A M : Int) : Nat := if A = 0 ∧ M = 0 then 0 else fst (sgP l A M) 10000
def vlN (l : List (Int × Int)) (A M : Int) : Int := M / atD l (sgN l A M : Int)
theorem has_anti {l : List (Int × Int)} (h : DR l) {A M s t : Int} (hA : 0 ≤ A) (hM : 0 ≤ M) (h0 : 0 ≤ s) (hst : s ≤ t) (h1 : t ≤ 10000) (g : M * t ≤ A * atD l t) : M * s ≤ A * atD l s := by
  have a := Int.mul_le_mul_of_nonneg_left hst hM
  have b := Int.mul_le_mul_of_nonneg_left (atD_anti h h0 h1 hst) hA
  omega
theorem sgP_mono {l : List (Int × Int)} (h : DR l) {A M : Int} (hA : 0 ≤ A) (hM : 0 ≤ M) : ∀ a b, a ≤ b → b < 10000 → sgP l A M a = true → sgP l A M b = true := fun a b hab hb ha => by
  unfold sgP at *
  rw [Bool.not_eq_true'] at *
  have a1 := of_decide_eq_false ha
  refine decide_eq_false fun g => a1 (has_anti h hA hM (by omega) (by omega) (by omega) g)
theorem LR.zero {l : List (Int × Int)} (h : DR l) {A M : Int} (g : LR l A M) (e : M = 0) : A = 0 := by
  have b := (atD_bd h (s := 10000) (by omega) (by omega)).2.2
  have t := g.t
  have a := g.a0
  subst e
  have := Int.mul_le_mul_of_nonneg_left b.1 a
  omega
theorem sgN_le (l : List (Int × Int)) (A M : Int) : sgN l A M ≤ 10000 := by
  unfold sgN; split
  · omega
  · exact fst_le _ _
/-- the strengths at which the alcohol suffices -/
theorem sgN_iff {l : List (Int × Int)} (h : DR l) {A M : Int} (g : LR l A M) (hM : M ≠ 0) {s : Int} (h0 : 0 ≤ s) (h1 : s ≤ 10000) : M * s ≤ A * atD l s ↔ s ≤ (sgN l A M : Int) := by
  have hA := g.a0
  have hM0 := g.m0
  obtain ⟨s1, s2⟩ := fst_spec (sgP l A M) 10000
  have le := fst_le (sgP l A M) 10000
  unfold sgN
  rw [if_neg (fun e => hM e.2)]
  constructor
  · intro q
    rcases Int.lt_or_le ((fst (sgP l A M) 10000 : Nat) : Int) s with c | c
    · have := s2 (by omega)
      generalize fst (sgP l A M) 10000 = k at *
      unfold sgP at this
      rw [Bool.not_eq_true'] at this
      exact absurd (has_anti h hA hM0 (by omega) (by omega) h1 q) (of_decide_eq_false this)
    · exact c
  · intro q
    by_cases e : s = 0
    · subst e
      have b := (atD_bd h (s := 0) (by omega) (by omega)).2.2
      have := Int.mul_nonneg hA (show 0 ≤ atD l 0 by omega)
      omega
    · have := s1 (s - 1).toNat (by omega)
      unfold sgP at this
      rw [Bool.not_eq_false'] at this
      have := of_decide_eq_true this
      rwa [Int.toNat_of_nonneg (by omega), show s - 1 + 1 = s by omega] at this
theorem sgN_has {l : List (Int × Int)} (h : DR l) {A M : Int} (g : LR l A M) : M * (sgN l A M : Int) ≤ A * atD l (sgN l A M) := by
  have le := sgN_le l A M
  by_cases e : M = 0
  · have b := (atD_bd h (s := (sgN l A M : Int)) (by omega) (by omega)).2.2
    have := Int.mul_nonneg g.a0 (show 0 ≤ atD l (sgN l A M) by omega)
    rw [e] at *
    omega
  · exact (sgN_iff h g e (by omega) (by omega)).2 (Int.le_refl _)
theorem sgN_is {l : List (Int × Int)} (h : DR l) {A M : Int} (g : LR l A M) (hM : M ≠ 0) {k : Nat} (hk : k ≤ 10000) (h1 : M * (k : Int) ≤ A * atD l k) (h2 : k < 10000 → A * atD l ((k : Int) + 1) < M * ((k : Int) + 1)) : sgN l A M = k := by
  have le := sgN_le l A M
  have a := (sgN_iff h g hM (s := (k : Int)) (by omega) (by omega)).1 h1
  rcases Nat.lt_or_ge k 10000 with c | c
  · have b := h2 c
    have := (sgN_iff h g hM (s := (k : Int) + 1) (by omega) (by omega))
    rcases Int.lt_or_le (sgN l A M : Int) ((k : Int) + 1) with d | d
    · omega
    · have := this.2 d; omega
  · omega
theorem sgN_dry (l : List (Int × Int)) : sgN l 0 0 = 0 := by unfold sgN; rw [if_pos ⟨rfl, rfl⟩]
theorem at_sg {l : List (Int × Int)} (h : DR l) (A M : Int) : 50000 ≤ atD l (sgN l A M) ∧ atD l (sgN l A M) ≤ 120000 := by
  have le := sgN_le l A M
  exact (atD_bd h (s := (sgN l A M : Int)) (by omega) (by omega)).2.2
theorem vlN_bd {l : List (Int × Int)} (h : DR l) {A M : Int} (g : LR l A M) : 0 ≤ vlN l A M ∧ vlN l A M * atD l (sgN l A M) ≤ M ∧ M < (vlN l A M + 1) * atD l (sgN l A M) ∧ vlN l A M ≤ 2576980377 := by
  have b := at_sg h A M
  have m0 := g.m0
  have m1 := g.m1
  have e1 := Int.ediv_mul_le M (show atD l (sgN l A M) ≠ 0 by omega)
  have e2 := Int.lt_ediv_add_one_mul_self M (show 0 < atD l (sgN l A M) by omega)
  have e3 : 0 ≤ M / atD l (sgN l A M) := Int.ediv_nonneg m0 (by omega)
  unfold vlN
  refine ⟨e3, e1, e2, ?_⟩
  have := Int.mul_le_mul_of_nonneg_left b.1 e3
  omega
/-- what does not show is not negative -/
theorem lost_bd {l : List (Int × Int)} (h : DR l) {A M : Int} (g : LR l A M) : 0 ≤ vlN l A M * (sgN l A M : Int) ∧ vlN l A M * (sgN l A M : Int) ≤ A := by
  have b := at_sg h A M
  obtain ⟨v0, v1, _, _⟩ := vlN_bd h g
  have s := sgN_has h g
  have a0 := g.a0
  generalize vlN l A M = v at *
  generalize atD l (sgN l A M) = d at *
  generalize (sgN l A M) = k at *
  refine ⟨Int.mul_nonneg v0 (by omega), ?_⟩
  have e1 := Int.mul_le_mul_of_nonneg_right v1 (show (0 : Int) ≤ (k : Int) by omega)
  have e2 : v * d * (k : Int) = v * (k : Int) * d := by rw [Int.mul_assoc, Int.mul_comm d, ← Int.mul_assoc]
  rw [e2] at e1
  have e3 : v * (k : Int) * d ≤ A * d := by omega
  exact Int.le_of_mul_le_mul_right e3 (by omega)
/-! ### what the functions answer -/
def ofE (l : List (Int × Int)) (v s : Int) : Int := if dnE l ≠ 0 then 1 else if (0 ≤ v ∧ v ≤ 1073741824) ∧ 0 ≤ s ∧ s ≤ 10000 then 0 else 2
def ofA (l : List (Int × Int)) (v s : Int) : Int := if ofE l v s = 0 then v * s else 0
def ofM (l : List (Int × Int)) (v s : Int) : Int := if ofE l v s = 0 then v * atD l s else 0
def meE (l : List (Int × Int)) (A M : Int) : Int := if alE l A M = 0 then 0 else 1
def sgV (l : List (Int × Int)) (A M : Int) : Int := if alE l A M = 0 then (sgN l A M : Int) else 0
def vlV (l : List (Int × Int)) (A M : Int) : Int := if alE l A M = 0 then vlN l A M else 0
def dsV (l : List (Int × Int)) (A M : Int) : Int := if alE l A M = 0 then atD l (sgN l A M) else 0
def maE (l : List (Int × Int)) (A M v : Int) : Int := if alE l A M ≠ 0 then 1 else if 0 ≤ v ∧ v ≤ 1073741824 then (if vlN l A M < v then 17 else 0) else 2
def maV (l : List (Int × Int)) (A M v : Int) : Int := if maE l A M v = 0 then v * atD l (sgN l A M) else 0
def loV (l : List (Int × Int)) (A M : Int) : Int := if alE l A M = 0 then A - vlN l A M * (sgN l A M : Int) else 0
theorem ofE_zero {l : List (Int × Int)} {v s : Int} : ofE l v s = 0 ↔ DR l ∧ (0 ≤ v ∧ v ≤ 1073741824) ∧ 0 ≤ s ∧ s ≤ 10000 := by
  unfold ofE
  by_cases h : dnE l = 0
  · rw [if_neg (by omega)]
    have hD := dnE_zero.1 h
    by_cases g : (0 ≤ v ∧ v ≤ 1073741824) ∧ 0 ≤ s ∧ s ≤ 10000
    · rw [if_pos g]; exact ⟨fun _ => ⟨hD, g⟩, fun _ => rfl⟩
    · rw [if_neg g]; exact ⟨fun e => (by cases e), fun e => absurd e.2 g⟩
  · rw [if_pos h]; exact ⟨fun e => (by cases e), fun e => absurd (dnE_zero.2 e.1) h⟩
end Go.Proofs.Ytadkhhkoankhnaa

/- Package alcohol. -/
namespace Go.Proofs.Ytadkhhkoankhnaa
open Go.RowKit

theorem alRt_any (v : Value) (l : List (Int × Int)) (w : World) (hv : Pts w v l) :
    Calls Try.prog 63 #[v] w fun e w' => e = .returned (.bool (dnE l == 0)) ∧ Below w.heap.size w w' := by
  have H := Lib.hid (dnChk_any v l w hv)
  generalize dnI l = I at *
  generalize dnE l = E at *
  go_enter Try.func63, Try.ntmps63
  go_wp2_with fail
  refine H.out.mono ?_
  rintro e w1 ⟨rfl, gg⟩
  have X := Lib.hid gg; clear gg
  go_wp2
  go_returns
  exact ⟨rfl, X.out⟩
theorem alVo_any (x : Int) (w : World) :
    Calls Try.prog 64 #[.int .i64 x] w fun e w' => e = .returned (.bool (decide (0 ≤ x ∧ x ≤ 1073741824))) ∧ w' = w := by
  by_cases h0 : 0 ≤ x
  · have d0 : decide (0 ≤ x) = true := decide_eq_true h0
    have e : decide (0 ≤ x ∧ x ≤ 1073741824) = decide (x ≤ 1073741824) := by rw [Bool.eq_iff_iff, decide_eq_true_eq, decide_eq_true_eq]; omega
    rw [e]
    go_enter Try.func64, Try.ntmps64
    go_wp2
    go_returns
    exact ⟨rfl, rfl⟩
  · have d0 : decide (0 ≤ x) = false := decide_eq_false h0
    have e : decide (0 ≤ x ∧ x ≤ 1073741824) = false := decide_eq_false (by omega)
    rw [e]
    go_enter Try.func64, Try.ntmps64
    go_wp2
    go_returns
    exact ⟨rfl, rfl⟩
def alO (A M : Int) : Bool := !decide (0 ≤ A ∧ A ≤ 10737418240000 ∧ 0 ≤ M ∧ M ≤ 128849018880000)
set_option maxHeartbeats 4000000 in
theorem alOut_any (A M : Int) (w : World) :
    Calls Try.prog 66 #[.agg #[.int .i64 A, .int .i64 M]] w fun e w' => e = .returned (.bool (alO A M)) ∧ Below w.heap.size w w' := by
  have X := Lib.hid (bel_alloc (o := .cells #[.int .i64 A, .int .i64 M] 47) (Below.refl _ (w.alloc (.cells #[.int .i64 A, .int .i64 M] 47))))
  have E : alO A M = (decide (A < 0) || decide (10737418240000 < A) || decide (M < 0) || decide (128849018880000 < M)) := by
    unfold alO
    rw [Bool.eq_iff_iff]
    simp only [Bool.not_eq_true', decide_eq_false_iff_not, Bool.or_eq_true, decide_eq_true_eq]
    omega
  rw [E]; clear E
  by_cases h0 : A < 0
  · have d0 : decide (A < 0) = true := decide_eq_true h0
    rw [d0, Bool.true_or, Bool.true_or, Bool.true_or]
    clear h0
    go_enter Try.func66, Try.ntmps66
    go_wp2
    go_returns
    exact ⟨rfl, X.out⟩
  have d0 : decide (A < 0) = false := decide_eq_false h0
  by_cases h1 : 10737418240000 < A
  · have d1 : decide (10737418240000 < A) = true := decide_eq_true h1
    rw [d0, d1, Bool.false_or, Bool.true_or, Bool.true_or]
    clear h0 h1
    go_enter Try.func66, Try.ntmps66
    go_wp2
    go_returns
    exact ⟨rfl, X.out⟩
  have d1 : decide (10737418240000 < A) = false := decide_eq_false h1
  by_cases h2 : M < 0
  · have d2 : decide (M < 0) = true := decide_eq_true h2
    rw [d0, d1, d2, Bool.false_or, Bool.false_or, Bool.true_or]
    clear h0 h1 h2
    go_enter Try.func66, Try.ntmps66
    go_wp2
    go_returns
    exact ⟨rfl, X.out⟩
  have d2 : decide (M < 0) = false := decide_eq_false h2
  rw [d0, d1, d2, Bool.false_or, Bool.false_or, Bool.false_or]
  clear h0 h1 h2
  generalize hB : decide (128849018880000 < M) = B
  go_enter Try.func66, Try.ntmps66
  go_wp2
  go_returns
  exact ⟨rfl, X.out⟩
set_option maxHeartbeats 4000000 in
theorem alHas_any (A M s d : Int) (w : World) (wa : IntKind.i64.wrap (A * d) = A * d) (wm : IntKind.i64.wrap (M * s) = M * s) (ba : -9223372036854775808 ≤ A * d ∧ A * d ≤ 9223372036854775807) (bm : -9223372036854775808 ≤ M * s ∧ M * s ≤ 9223372036854775807) :
    Calls Try.prog 83 #[.agg #[.int .i64 A, .int .i64 M], .int .i64 s, .int .i64 d] w fun e w' => e = .returned (.bool (decide (M * s ≤ A * d))) ∧ Below w.heap.size w w' := by
  have X := Lib.hid (bel_alloc (o := .cells #[.int .i64 A, .int .i64 M] 47) (Below.refl _ (w.alloc (.cells #[.int .i64 A, .int .i64 M] 47))))
  go_enter Try.func83, Try.ntmps83
  go_wp2
  go_returns
  exact ⟨rfl, X.out⟩
theorem alAt_any (v : Value) (l : List (Int × Int)) (s : Int) (w : World) (hv : Pts w v l) (h : DR l) (h0 : 0 ≤ s) (h1 : s ≤ 10000) :
    Calls Try.prog 65 #[v, .int .i64 s] w fun e w' => e = .returned (.int .i64 (atD l s)) ∧ Below w.heap.size w w' := by
  have H := Lib.hid (itDen_any v l s w hv)
  have e1 : denE l s = 0 := denE_zero.2 ⟨h, h0, h1⟩
  have e2 : denV l s = atD l s := denV_ok e1
  rw [e1, e2] at H
  clear e1 e2
  generalize atD l s = V at *
  go_enter Try.func65, Try.ntmps65
  go_wp2_with fail
  refine H.out.mono ?_
  rintro e w1 ⟨rfl, gg⟩
  have X := Lib.hid gg; clear gg
  go_wp2
  go_returns
  exact ⟨rfl, X.out⟩
set_option maxHeartbeats 16000000 in
set_option maxRecDepth 100000 in
theorem alChk_any (v : Value) (l : List (Int × Int)) (A M : Int) (w : World) (hv : Pts w v l) :
    Calls Try.prog 36 #[v, .agg #[.int .i64 A, .int .i64 M]] w fun e w' => e = .returned (.int .i64 (alE l A M)) ∧ Below w.heap.size w w' := by
  have HR := Lib.hid (fun W (hW : Below w.heap.size w W) => alRt_any v l W (hv.below hW))
  have HO := Lib.hid (fun W => alOut_any A M W)
  have T0 := Lib.hid (Two.new w (.int .i64 A) (.int .i64 M) 47)
  have X0 := Lib.hid (bel_alloc (w := w) (o := .cells #[.int .i64 A, .int .i64 M] 47) (Below.refl _ _))
  by_cases he : dnE l = 0
  · have hD := dnE_zero.1 he
    rw [show (dnE l == 0) = true by simpa using he] at HR
    by_cases ho : 0 ≤ A ∧ A ≤ 10737418240000 ∧ 0 ≤ M ∧ M ≤ 128849018880000
    · have eo : alO A M = false := by unfold alO; rw [decide_eq_true ho]; rfl
      rw [eo] at HO
      have HC := Lib.hid (fun W (hW : Below w.heap.size w W) => alAt_any v l 10000 W (hv.below hW) hD (by omega) (by omega))
      have ee : alE l A M = if M * 10000 < A * atD l 10000 then 10 else 0 := by unfold alE; rw [if_neg (by omega), if_pos ho]
      have bd := (atD_bd hD (s := 10000) (by omega) (by omega)).2.2
      have p1 : 0 ≤ A * atD l 10000 := Int.mul_nonneg ho.1 (by omega)
      have p2 : A * atD l 10000 ≤ 10737418240000 * 120000 := Int.mul_le_mul ho.2.1 bd.2 (by omega) (by omega)
      rw [ee]
      generalize atD l 10000 = d at *
      have wa : IntKind.i64.wrap (A * d) = A * d := wrap_in _ ⟨by omega, by omega⟩
      have wm : IntKind.i64.wrap (M * 10000) = M * 10000 := wrap_in _ ⟨by omega, by omega⟩
      clear ee
      by_cases hc : M * 10000 < A * d
      · rw [if_pos hc]
        have dc : decide (M * 10000 < A * d) = true := decide_eq_true hc
        go_enter Try.func36, Try.ntmps36
        go_wp2_with fail
        refine (HR.out _ X0.out).mono ?_
        rintro e w1 ⟨rfl, gg⟩
        replace T0 := Lib.hid (T0.out.below gg)
        have X := Lib.hid (bel_trans X0.out gg); clear gg
        obtain ⟨t0, t1, _, _, _⟩ := T0.out
        go_wp2_with fail
        refine (HO.out _).mono ?_
        rintro e w2 ⟨rfl, gg⟩
        replace T0 := Lib.hid (T0.out.below gg)
        replace X := Lib.hid (bel_trans X.out gg); clear gg
        replace T0 := Lib.hid (T0.out.below (bel_drew w2))
        replace X := Lib.hid (bel_trans X.out (bel_drew w2))
        obtain ⟨t0, t1, _, _, _⟩ := T0.out
        go_wp2_with fail
        go_region_held3 (fun w' => w'.cell? ⟨w.heap.size, 0, none⟩ = some (.int .i64 A) ∧ w'.cell? ⟨w.heap.size, 1, none⟩ = some (.int .i64 M)) (go_keep) (first
          | (go_at_call 65; (with_reducible refine (HC.out _ X.out).mono ?_); rintro e w3 ⟨rfl, gg⟩; replace T0 := Lib.hid (T0.out.below gg); replace X := Lib.hid (bel_trans X.out gg); obtain ⟨t0, t1, _, _, _⟩ := T0.out; clear gg))
        all_goals go_wp2
        all_goals go_returns
        all_goals exact ⟨rfl, X.out⟩
      · rw [if_neg hc]
        have dc : decide (M * 10000 < A * d) = false := decide_eq_false hc
        go_enter Try.func36, Try.ntmps36
        go_wp2_with fail
        refine (HR.out _ X0.out).mono ?_
        rintro e w1 ⟨rfl, gg⟩
        replace T0 := Lib.hid (T0.out.below gg)
        have X := Lib.hid (bel_trans X0.out gg); clear gg
        obtain ⟨t0, t1, _, _, _⟩ := T0.out
        go_wp2_with fail
        refine (HO.out _).mono ?_
        rintro e w2 ⟨rfl, gg⟩
        replace T0 := Lib.hid (T0.out.below gg)
        replace X := Lib.hid (bel_trans X.out gg); clear gg
        replace T0 := Lib.hid (T0.out.below (bel_drew w2))
        replace X := Lib.hid (bel_trans X.out (bel_drew w2))
        obtain ⟨t0, t1, _, _, _⟩ := T0.out
        go_wp2_with fail
        go_region_held3 (fun w' => w'.cell? ⟨w.heap.size, 0, none⟩ = some (.int .i64 A) ∧ w'.cell? ⟨w.heap.size, 1, none⟩ = some (.int .i64 M)) (go_keep) (first
          | (go_at_call 65; (with_reducible refine (HC.out _ X.out).mono ?_); rintro e w3 ⟨rfl, gg⟩; replace T0 := Lib.hid (T0.out.below gg); replace X := Lib.hid (bel_trans X.out gg); obtain ⟨t0, t1, _, _, _⟩ := T0.out; clear gg))
        all_goals go_wp2
        all_goals go_returns
        all_goals exact ⟨rfl, X.out⟩
    · have eo : alO A M = true := by unfold alO; rw [decide_eq_false ho]; rfl
      rw [eo] at HO
      have ee : alE l A M = 2 := by unfold alE; rw [if_neg (by omega), if_neg ho]
      rw [ee]
      go_enter Try.func36, Try.ntmps36
      go_wp2_with fail
      refine (HR.out _ X0.out).mono ?_
      rintro e w1 ⟨rfl, gg⟩
      replace T0 := Lib.hid (T0.out.below gg)
      have X := Lib.hid (bel_trans X0.out gg); clear gg
      obtain ⟨t0, t1, _, _, _⟩ := T0.out
      go_wp2_with fail
      refine (HO.out _).mono ?_
      rintro e w2 ⟨rfl, gg⟩
      replace X := Lib.hid (bel_trans X.out gg); clear gg
      go_wp2
      go_returns
      exact ⟨rfl, X.out⟩
  · have ee : alE l A M = 1 := by unfold alE; rw [if_pos he]
    rw [ee]
    rw [show (dnE l == 0) = false by simpa using he] at HR
    go_enter Try.func36, Try.ntmps36
    go_wp2_with fail
    refine (HR.out _ X0.out).mono ?_
    rintro e w1 ⟨rfl, gg⟩
    have X := Lib.hid (bel_trans X0.out gg); clear gg
    go_wp2
    go_returns
    exact ⟨rfl, X.out⟩
end Go.Proofs.Ytadkhhkoankhnaa

/- Liquids, compared. -/
namespace Go.Proofs.Ytadkhhkoankhnaa
open Go.RowKit Go.Sort

theorem run_same_liq (a b x y : Int) (w : World) :
    (Op.equalIn 10000 47 (.agg #[.int .i64 a, .int .i64 b]) (.agg #[.int .i64 x, .int .i64 y])).run Try.prog w = .ok (samP a b x y) w := by
  rw [show (10000 : Nat) = 9999 + 1 from rfl, run_equalIn_agg w 9999 47 _ _ (by kernel_rfl) (by kernel_rfl)]
  have hf : (Try.prog.fieldsOf 47).toList.map (fun f => (f.name, f.type, f.offset)) = [("Alcohol", 3, 0), ("Mass", 3, 1)] := by kernel_rfl
  generalize (Try.prog.fieldsOf 47).toList = fs at *
  obtain ⟨f, g, rfl⟩ : ∃ f g, fs = [f, g] := by
    have hl := congrArg List.length hf
    rw [List.length_map] at hl
    rcases fs with _ | ⟨f, _ | ⟨g, _ | ⟨h, fs⟩⟩⟩ <;> simp at hl
    exact ⟨f, g, rfl⟩
  simp only [List.map_cons, List.map_nil, List.cons.injEq, Prod.mk.injEq, and_true] at hf
  obtain ⟨⟨f1, f2, f3⟩, g1, g2, g3⟩ := hf
  have eq : ∀ (u v : Int) (W : World), (Op.equalIn 9999 3 (.int .i64 u) (.int .i64 v)).run Try.prog W = .ok (u == v) W := fun u v W => run_equalIn_int W 9998 3 .i64 .i64 u v Try.underlying3
  by_cases e1 : a = x <;> by_cases e2 : b = y <;> simp [Op.eqFields, f1, f2, f3, g1, g2, g3, go_sem, samP, eq, e1, e2]
theorem run_neq_liq (a b x y : Int) (w : World) :
    (binOp .neq 47 (.agg #[.int .i64 a, .int .i64 b]) (.agg #[.int .i64 x, .int .i64 y])).run Try.prog w = .ok (.bool (!samP a b x y)) w := by
  rw [run_neq_struct, run_same_liq]; rfl
theorem run_eql_liq (a b x y : Int) (w : World) :
    (binOp .eql 47 (.agg #[.int .i64 a, .int .i64 b]) (.agg #[.int .i64 x, .int .i64 y])).run Try.prog w = .ok (.bool (samP a b x y)) w := by
  rw [run_eql_struct, run_same_liq]; rfl
end Go.Proofs.Ytadkhhkoankhnaa

/- Package alcohol: strength, volume and what is reckoned from them. -/
namespace Go.Proofs.Ytadkhhkoankhnaa
open Go.RowKit

set_option maxHeartbeats 16000000 in
set_option maxRecDepth 100000 in
/-- whether a liquid has not the alcohol of the next strength -/
theorem alM1_any (i q1 q2 : Nat) (a : Option Addr) (n cap : Nat) (A M d : Int) (B : Bool) (w : World) (hi : i ≤ 10000)
    (c1 : w.cell? ⟨q1, 0, none⟩ = some (.int .i64 A)) (c2 : w.cell? ⟨q1, 1, none⟩ = some (.int .i64 M)) (c3 : w.cell? ⟨q2, 0, none⟩ = some (.slice a n cap)) (h1 : q1 < w.heap.size) (h2 : q2 < w.heap.size)
    (HA : Hid (∀ W, Below w.heap.size w W → Calls Try.prog 65 #[.slice a n cap, .int .i64 ((i : Int) + 1)] W fun e w' => e = .returned (.int .i64 d) ∧ Below W.heap.size W w'))
    (HH : Hid (∀ W, Calls Try.prog 83 #[.agg #[.int .i64 A, .int .i64 M], .int .i64 ((i : Int) + 1), .int .i64 d] W fun e w' => e = .returned (.bool B) ∧ Below W.heap.size W w')) :
    Calls Try.prog 82 #[.int .i64 i, .pointer (some ⟨q1, 0, none⟩), .pointer (some ⟨q2, 0, none⟩)] w fun e w' => e = .returned (.bool (!B)) ∧ Below w.heap.size w w' := by
  have wx : IntKind.i64.wrap ((i : Int) + 1) = (i : Int) + 1 := wrap_in _ ⟨by omega, by omega⟩
  have CE : Hid (∀ W, Below w.heap.size w W → W.cell? ⟨q1, 0, none⟩ = some (.int .i64 A) ∧ W.cell? ⟨q1, 1, none⟩ = some (.int .i64 M) ∧ W.cell? ⟨q2, 0, none⟩ = some (.slice a n cap)) := Lib.hid fun W hW => ⟨cell_bel c1 hW, cell_bel c2 hW, cell_bel c3 hW⟩
  have X := Lib.hid (bel_drew w)
  go_enter Try.func82, Try.ntmps82
  go_wp2_with fail
  go_region_held3 (fun w' => w'.cell? ⟨q1, 0, none⟩ = some (.int .i64 A) ∧ w'.cell? ⟨q1, 1, none⟩ = some (.int .i64 M) ∧ w'.cell? ⟨q2, 0, none⟩ = some (.slice a n cap)) (go_keep) (first
    | (go_at_call 65; (with_reducible refine (HA.out _ X.out).mono ?_); rintro e w3 ⟨rfl, gg⟩; replace X := Lib.hid (bel_trans X.out gg); obtain ⟨c1, c2, c3⟩ := CE.out w3 X.out; clear gg)
    | (go_at_call 83; (with_reducible refine (HH.out _).mono ?_); rintro e w4 ⟨rfl, gg⟩; replace X := Lib.hid (bel_trans X.out gg); obtain ⟨c1, c2, c3⟩ := CE.out w4 X.out; clear gg))
  all_goals go_wp2
  all_goals go_returns
  all_goals exact ⟨rfl, X.out⟩
set_option maxHeartbeats 8000000 in
set_option maxRecDepth 100000 in
theorem alMe_core (a : Option Addr) (n cap : Nat) (A M S D V : Int) (z : Bool) (w : World) (hD : 50000 ≤ D ∧ D ≤ 120000) (hV : Hid (M / D = V)) (hM : 0 ≤ M ∧ M ≤ 128849018880000) (hz : Hid (z = true ↔ A = 0 ∧ M = 0)) (hS : Hid (z = true → S = 0))
    (HC : Hid (∀ W, Below w.heap.size w W → Calls Try.prog 36 #[.slice a n cap, .agg #[.int .i64 A, .int .i64 M]] W fun e w' => e = .returned (.int .i64 0) ∧ Below W.heap.size W w'))
    (HS : Hid (∀ W q1 q2, Below w.heap.size w W → Two q1 W (.int .i64 A) (.int .i64 M) → Boxed W q2 22 (.slice a n cap) → z = false → Calls Try.prog 73 #[.int .i64 10000, .func (.func 82) #[] #[.pointer (some ⟨q1, 0, none⟩), .pointer (some ⟨q2, 0, none⟩)]] W fun e w' => e = .returned (.int .i64 S) ∧ Below W.heap.size W w'))
    (HA : Hid (∀ W, Below w.heap.size w W → Calls Try.prog 65 #[.slice a n cap, .int .i64 S] W fun e w' => e = .returned (.int .i64 D) ∧ Below W.heap.size W w')) :
    Calls Try.prog 67 #[.slice a n cap, .agg #[.int .i64 A, .int .i64 M]] w fun e w' => e = .returned (.tuple #[.int .i64 S, .int .i64 D, .int .i64 V, .bool true]) ∧ Below w.heap.size w w' := by
  have hmf : ∀ (fn : Fn) (first cap : Array Value) (w : World), (Instr.makeFunc fn first cap).run Try.prog w = .ok (.func fn first cap) w := fun _ _ _ _ => rfl
  have B0 := Lib.hid ((Boxed.new w 22 (.slice a n cap)).alloc (.cells #[.int .i64 A, .int .i64 M] 47))
  have T0 : Hid (Two (w.heap.size + 1) ((w.alloc (.cells #[.slice a n cap] 22)).alloc (.cells #[.int .i64 A, .int .i64 M] 47)) (.int .i64 A) (.int .i64 M)) := Lib.hid (by
    have := Two.new (w.alloc (.cells #[.slice a n cap] 22)) (.int .i64 A) (.int .i64 M) 47
    rwa [World.size_alloc] at this)
  have X : Hid (Below w.heap.size w ((w.alloc (.cells #[.slice a n cap] 22)).alloc (.cells #[.int .i64 A, .int .i64 M] 47))) := Lib.hid (bel_alloc (bel_alloc (Below.refl _ _)))
  have b0 := B0.out.cell
  obtain ⟨t0, t1, _, _, _⟩ := T0.out
  have nz : (D == 0) = false := by rw [beq_eq_false_iff_ne]; omega
  have nz2 : ¬ D = 0 := by omega
  have m0 : 0 ≤ M / D := Int.ediv_nonneg (by omega) (by omega)
  have m1 : M / D ≤ 128849018880000 := Int.le_trans (Int.ediv_le_self _ (by omega)) hM.2
  have wq : IntKind.i64.wrap (M.tdiv D) = M / D := by rw [Int.tdiv_eq_ediv_of_nonneg hM.1]; exact wrap_in _ ⟨by omega, by omega⟩
  have X9 : Hid (∀ W, Below w.heap.size w W → ∀ m, Below w.heap.size w (W.drewN m)) := Lib.hid fun W hW m => bel_trans hW (bel_drewN _ _)
  cases z with
  | true =>
    obtain ⟨rfl, rfl⟩ := hz.out.1 rfl
    obtain rfl := hS.out rfl
    have q1 : ∀ W, (binOp .neq 47 (.agg #[.int .i64 0, .int .i64 0]) (.agg #[.int .i64 0, .int .i64 0])).run Try.prog W = .ok (.bool false) W := fun W => by rw [run_neq_liq]; rfl
    go_enter Try.func67, Try.ntmps67
    go_wp2_with fail
    refine (HC.out _ X.out).mono ?_
    rintro e w1 ⟨rfl, gg⟩
    replace B0 := Lib.hid (bxd_below B0.out gg)
    replace T0 := Lib.hid (T0.out.below gg)
    replace X := Lib.hid (bel_trans X.out gg); clear gg
    have b0 := B0.out.cell
    obtain ⟨t0, t1, _, _, _⟩ := T0.out
    go_wp2_with fail
    refine (HA.out _ X.out).mono ?_
    rintro e w2 ⟨rfl, gg⟩
    replace T0 := Lib.hid (T0.out.below gg)
    replace X := Lib.hid (bel_trans X.out gg); clear gg
    obtain ⟨t0, t1, _, _, _⟩ := T0.out
    go_wp2_with fail
    go_quiet (fail)
    go_wp2
    go_returns
    exact ⟨by rw [← hV.out]; simp only [Int.zero_ediv], X9.out _ X.out _⟩
  | false =>
    have q0 : samP A M 0 0 = false := by
      cases h : samP A M 0 0 with
      | false => rfl
      | true =>
        simp only [samP, Bool.and_eq_true, beq_iff_eq] at h
        exact absurd (hz.out.2 h) (by simp)
    have q1 : ∀ W, (binOp .neq 47 (.agg #[.int .i64 A, .int .i64 M]) (.agg #[.int .i64 0, .int .i64 0])).run Try.prog W = .ok (.bool true) W := fun W => by rw [run_neq_liq, q0]; rfl
    clear q0
    go_enter Try.func67, Try.ntmps67
    go_wp2_with fail
    refine (HC.out _ X.out).mono ?_
    rintro e w1 ⟨rfl, gg⟩
    replace B0 := Lib.hid (bxd_below B0.out gg)
    replace T0 := Lib.hid (T0.out.below gg)
    replace X := Lib.hid (bel_trans X.out gg); clear gg
    have b0 := B0.out.cell
    obtain ⟨t0, t1, _, _, _⟩ := T0.out
    go_wp2_with fail
    refine (HS.out _ _ _ X.out T0.out B0.out (by trivial)).mono ?_
    rintro e w2 ⟨rfl, gg⟩
    replace B0 := Lib.hid (bxd_below B0.out gg)
    replace T0 := Lib.hid (T0.out.below gg)
    replace X := Lib.hid (bel_trans X.out gg); clear gg
    have b0 := B0.out.cell
    obtain ⟨t0, t1, _, _, _⟩ := T0.out
    go_wp2_with fail
    refine (HA.out _ X.out).mono ?_
    rintro e w3 ⟨rfl, gg⟩
    replace T0 := Lib.hid (T0.out.below gg)
    replace X := Lib.hid (bel_trans X.out gg); clear gg
    obtain ⟨t0, t1, _, _, _⟩ := T0.out
    go_wp2_with fail
    go_quiet (fail)
    go_wp2
    go_returns
    exact ⟨by rw [← hV.out], X9.out _ X.out _⟩
theorem alMe_bad (v : Value) (A M E : Int) (w : World) (hE : (E != 0) = true)
    (HC : Hid (∀ W, Below w.heap.size w W → Calls Try.prog 36 #[v, .agg #[.int .i64 A, .int .i64 M]] W fun e w' => e = .returned (.int .i64 E) ∧ Below W.heap.size W w')) (hv : ∃ a n cap, v = .slice a n cap) :
    Calls Try.prog 67 #[v, .agg #[.int .i64 A, .int .i64 M]] w fun e w' => e = .returned (.tuple #[.int .i64 0, .int .i64 0, .int .i64 0, .bool false]) ∧ Below w.heap.size w w' := by
  obtain ⟨a, n, cap, rfl⟩ := hv
  have B0 := Lib.hid ((Boxed.new w 22 (.slice a n cap)).alloc (.cells #[.int .i64 A, .int .i64 M] 47))
  have T0 : Hid (Two (w.heap.size + 1) ((w.alloc (.cells #[.slice a n cap] 22)).alloc (.cells #[.int .i64 A, .int .i64 M] 47)) (.int .i64 A) (.int .i64 M)) := Lib.hid (by
    have := Two.new (w.alloc (.cells #[.slice a n cap] 22)) (.int .i64 A) (.int .i64 M) 47
    rwa [World.size_alloc] at this)
  have X : Hid (Below w.heap.size w ((w.alloc (.cells #[.slice a n cap] 22)).alloc (.cells #[.int .i64 A, .int .i64 M] 47))) := Lib.hid (bel_alloc (bel_alloc (Below.refl _ _)))
  have b0 := B0.out.cell
  obtain ⟨t0, t1, _, _, _⟩ := T0.out
  go_enter Try.func67, Try.ntmps67
  go_wp2_with fail
  refine (HC.out _ X.out).mono ?_
  rintro e w1 ⟨rfl, gg⟩
  replace X := Lib.hid (bel_trans X.out gg); clear gg
  go_wp2
  go_returns
  exact ⟨rfl, X.out⟩
theorem alMe_any (v : Value) (l : List (Int × Int)) (A M : Int) (w : World) (hv : Pts w v l) :
    Calls Try.prog 67 #[v, .agg #[.int .i64 A, .int .i64 M]] w fun e w' => e = .returned (.tuple #[.int .i64 (sgV l A M), .int .i64 (dsV l A M), .int .i64 (vlV l A M), .bool (alE l A M == 0)]) ∧ Below w.heap.size w w' := by
  have hv2 := hv
  obtain ⟨a, cap, rfl, _, _⟩ := hv.shape
  by_cases he : alE l A M = 0
  · obtain ⟨hD, hL⟩ := alE_zero.1 he
    unfold sgV dsV vlV
    rw [if_pos he, if_pos he, if_pos he, he]
    have le := sgN_le l A M
    refine alMe_core a l.length cap A M (sgN l A M) _ _ (decide (A = 0 ∧ M = 0)) w (at_sg hD A M) (Lib.hid rfl) ⟨hL.m0, hL.m1⟩ (Lib.hid decide_eq_true_iff) (Lib.hid fun h => ?_) (Lib.hid fun W hW => ?_) (Lib.hid fun W q1 q2 hW T B hz => ?_) (Lib.hid fun W hW => alAt_any _ l _ W (hv2.below hW) hD (by omega) (by omega))
    · obtain ⟨rfl, rfl⟩ := of_decide_eq_true h
      rw [sgN_dry]; rfl
    · have := alChk_any _ l A M W (hv2.below hW)
      rwa [he] at this
    · have hz := of_decide_eq_false hz
      have e : sgN l A M = fst (sgP l A M) 10000 := by unfold sgN; rw [if_neg hz]
      rw [e]
      refine search_bel 82 #[.pointer (some ⟨q1, 0, none⟩), .pointer (some ⟨q2, 0, none⟩)] 10000 (sgP l A M) W (enters_of Try.func82 (by kernel_rfl) rfl) (by omega) (Lib.hid fun i W2 hi hW2 => ?_) (Lib.hid (sgP_mono hD hL.a0 hL.m0))
      obtain ⟨u0, u1, _, _, u2⟩ := T.below hW2
      have b := (atD_bd hD (s := (i : Int) + 1) (by omega) (by omega)).2.2
      have p0 : 0 ≤ A * atD l ((i : Int) + 1) := Int.mul_nonneg hL.a0 (by omega)
      have p1 : A * atD l ((i : Int) + 1) ≤ 10737418240000 * 120000 := Int.mul_le_mul hL.a1 b.2 (by omega) (by omega)
      have p2 : 0 ≤ M * ((i : Int) + 1) := Int.mul_nonneg hL.m0 (by omega)
      have p3 : M * ((i : Int) + 1) ≤ 128849018880000 * 10000 := Int.mul_le_mul hL.m1 (by omega) (by omega) (by omega)
      exact alM1_any i q1 q2 a l.length cap A M (atD l ((i : Int) + 1)) (decide (M * ((i : Int) + 1) ≤ A * atD l ((i : Int) + 1))) W2 (by omega) u0 u1 (cell_bel B.cell hW2) u2 (Nat.lt_of_lt_of_le B.lt hW2.size)
        (Lib.hid fun W3 hW3 => alAt_any _ l _ W3 (((hv2.below hW).below hW2).below hW3) hD (by omega) (by omega))
        (Lib.hid fun W3 => alHas_any A M _ _ W3 (wrap_in _ ⟨by omega, by omega⟩) (wrap_in _ ⟨by omega, by omega⟩) ⟨by omega, by omega⟩ ⟨by omega, by omega⟩)
  · unfold sgV dsV vlV
    rw [if_neg he, if_neg he, if_neg he, show (alE l A M == 0) = false by simpa using he]
    exact alMe_bad _ A M (alE l A M) w (by simpa using he) (Lib.hid fun W hW => alChk_any _ l A M W (hv2.below hW)) ⟨a, l.length, cap, rfl⟩
end Go.Proofs.Ytadkhhkoankhnaa

/- Package alcohol: Strength, Volume, Mass, Lost, Of. -/
namespace Go.Proofs.Ytadkhhkoankhnaa
open Go.RowKit

set_option maxHeartbeats 4000000 in
theorem alSt_any (v : Value) (l : List (Int × Int)) (A M : Int) (w : World) (hv : Pts w v l) :
    Calls Try.prog 38 #[v, .agg #[.int .i64 A, .int .i64 M]] w fun e w' => e = .returned (.tuple #[.int .i64 (sgV l A M), .int .i64 (meE l A M)]) ∧ Below w.heap.size w w' := by
  have HM := Lib.hid (fun W (hW : Below w.heap.size w W) => alMe_any v l A M W (hv.below hW))
  have T0 := Lib.hid (Two.new w (.int .i64 A) (.int .i64 M) 47)
  have X := Lib.hid (bel_alloc (w := w) (o := .cells #[.int .i64 A, .int .i64 M] 47) (Below.refl _ _))
  by_cases he : alE l A M = 0
  · have e1 : meE l A M = 0 := by unfold meE; rw [if_pos he]
    rw [show (alE l A M == 0) = true by simpa using he] at HM
    rw [e1]
    clear e1 he
    generalize sgV l A M = S at *
    generalize dsV l A M = D at *
    generalize vlV l A M = V at *
    go_enter Try.func38, Try.ntmps38
    go_wp2_with fail
    refine (HM.out _ X.out).mono ?_
    rintro e w1 ⟨rfl, gg⟩
    replace X := Lib.hid (bel_trans X.out gg); clear gg
    go_wp2
    go_returns
    exact ⟨rfl, X.out⟩
  · have e1 : meE l A M = 1 := by unfold meE; rw [if_neg he]
    have e2 : sgV l A M = 0 := by unfold sgV; rw [if_neg he]
    rw [show (alE l A M == 0) = false by simpa using he] at HM
    rw [e1]
    generalize sgV l A M = S at *
    generalize dsV l A M = D at *
    generalize vlV l A M = V at *
    rw [e2]
    go_enter Try.func38, Try.ntmps38
    go_wp2_with fail
    refine (HM.out _ X.out).mono ?_
    rintro e w1 ⟨rfl, gg⟩
    replace X := Lib.hid (bel_trans X.out gg); clear gg
    go_wp2
    go_returns
    exact ⟨rfl, X.out⟩

set_option maxHeartbeats 4000000 in
theorem alVl_any (v : Value) (l : List (Int × Int)) (A M : Int) (w : World) (hv : Pts w v l) :
    Calls Try.prog 40 #[v, .agg #[.int .i64 A, .int .i64 M]] w fun e w' => e = .returned (.tuple #[.int .i64 (vlV l A M), .int .i64 (meE l A M)]) ∧ Below w.heap.size w w' := by
  have HM := Lib.hid (fun W (hW : Below w.heap.size w W) => alMe_any v l A M W (hv.below hW))
  have T0 := Lib.hid (Two.new w (.int .i64 A) (.int .i64 M) 47)
  have X := Lib.hid (bel_alloc (w := w) (o := .cells #[.int .i64 A, .int .i64 M] 47) (Below.refl _ _))
  by_cases he : alE l A M = 0
  · have e1 : meE l A M = 0 := by unfold meE; rw [if_pos he]
    rw [show (alE l A M == 0) = true by simpa using he] at HM
    rw [e1]
    clear e1 he
    generalize sgV l A M = S at *
    generalize dsV l A M = D at *
    generalize vlV l A M = V at *
    go_enter Try.func40, Try.ntmps40
    go_wp2_with fail
    refine (HM.out _ X.out).mono ?_
    rintro e w1 ⟨rfl, gg⟩
    replace X := Lib.hid (bel_trans X.out gg); clear gg
    go_wp2
    go_returns
    exact ⟨rfl, X.out⟩
  · have e1 : meE l A M = 1 := by unfold meE; rw [if_neg he]
    have e2 : vlV l A M = 0 := by unfold vlV; rw [if_neg he]
    rw [show (alE l A M == 0) = false by simpa using he] at HM
    rw [e1]
    generalize sgV l A M = S at *
    generalize dsV l A M = D at *
    generalize vlV l A M = V at *
    rw [e2]
    go_enter Try.func40, Try.ntmps40
    go_wp2_with fail
    refine (HM.out _ X.out).mono ?_
    rintro e w1 ⟨rfl, gg⟩
    replace X := Lib.hid (bel_trans X.out gg); clear gg
    go_wp2
    go_returns
    exact ⟨rfl, X.out⟩

set_option maxHeartbeats 4000000 in
theorem alLo_any (v : Value) (l : List (Int × Int)) (A M : Int) (w : World) (hv : Pts w v l) :
    Calls Try.prog 44 #[v, .agg #[.int .i64 A, .int .i64 M]] w fun e w' => e = .returned (.tuple #[.int .i64 (loV l A M), .int .i64 (meE l A M)]) ∧ Below w.heap.size w w' := by
  have HM := Lib.hid (fun W (hW : Below w.heap.size w W) => alMe_any v l A M W (hv.below hW))
  have T0 := Lib.hid (Two.new w (.int .i64 A) (.int .i64 M) 47)
  have X := Lib.hid (bel_alloc (w := w) (o := .cells #[.int .i64 A, .int .i64 M] 47) (Below.refl _ _))
  by_cases he : alE l A M = 0
  · have e1 : meE l A M = 0 := by unfold meE; rw [if_pos he]
    have e3 : loV l A M = A - vlV l A M * sgV l A M := by unfold loV vlV sgV; rw [if_pos he, if_pos he, if_pos he]
    obtain ⟨hD, hL⟩ := alE_zero.1 he
    have lb := lost_bd hD hL
    rw [show vlN l A M = vlV l A M by unfold vlV; rw [if_pos he], show (sgN l A M : Int) = sgV l A M by unfold sgV; rw [if_pos he]] at lb
    have a1 := hL.a1
    rw [show (alE l A M == 0) = true by simpa using he] at HM
    rw [e1, e3]
    clear e1 he e3 hL hD
    generalize sgV l A M = S at *
    generalize dsV l A M = D at *
    generalize vlV l A M = V at *
    have w1 : IntKind.i64.wrap (V * S) = V * S := wrap_in _ ⟨by omega, by omega⟩
    have w2 : IntKind.i64.wrap (A - V * S) = A - V * S := wrap_in _ ⟨by omega, by omega⟩
    go_enter Try.func44, Try.ntmps44
    go_wp2_with fail
    refine (HM.out _ X.out).mono ?_
    rintro e w1 ⟨rfl, gg⟩
    replace T0 := Lib.hid (T0.out.below gg)
    replace X := Lib.hid (bel_trans X.out gg); clear gg
    obtain ⟨t0, t1, _, _, _⟩ := T0.out
    go_wp2
    go_returns
    exact ⟨rfl, X.out⟩
  · have e1 : meE l A M = 1 := by unfold meE; rw [if_neg he]
    have e2 : loV l A M = 0 := by unfold loV; rw [if_neg he]
    rw [show (alE l A M == 0) = false by simpa using he] at HM
    rw [e1, e2]
    generalize sgV l A M = S at *
    generalize dsV l A M = D at *
    generalize vlV l A M = V at *
    go_enter Try.func44, Try.ntmps44
    go_wp2_with fail
    refine (HM.out _ X.out).mono ?_
    rintro e w1 ⟨rfl, gg⟩
    replace X := Lib.hid (bel_trans X.out gg); clear gg
    go_wp2
    go_returns
    exact ⟨rfl, X.out⟩
set_option maxHeartbeats 4000000 in
theorem alMa_any (v : Value) (l : List (Int × Int)) (A M x : Int) (w : World) (hv : Pts w v l) :
    Calls Try.prog 42 #[v, .agg #[.int .i64 A, .int .i64 M], .int .i64 x] w fun e w' => e = .returned (.tuple #[.int .i64 (maV l A M x), .int .i64 (maE l A M x)]) ∧ Below w.heap.size w w' := by
  have HM := Lib.hid (fun W (hW : Below w.heap.size w W) => alMe_any v l A M W (hv.below hW))
  have HV := Lib.hid (fun W => alVo_any x W)
  have X := Lib.hid (bel_alloc (w := w) (o := .cells #[.int .i64 A, .int .i64 M] 47) (Below.refl _ _))
  by_cases he : alE l A M = 0
  · obtain ⟨hD, hL⟩ := alE_zero.1 he
    rw [show (alE l A M == 0) = true by simpa using he] at HM
    have sb := at_sg hD A M
    have eE : maE l A M x = if 0 ≤ x ∧ x ≤ 1073741824 then (if vlN l A M < x then 17 else 0) else 2 := by unfold maE; rw [if_neg (by omega)]
    have eV : maV l A M x = if maE l A M x = 0 then x * atD l (sgN l A M) else 0 := rfl
    rw [eV, eE]
    rw [show vlN l A M = vlV l A M by unfold vlV; rw [if_pos he], show atD l (sgN l A M) = dsV l A M by unfold dsV; rw [if_pos he]]
    rw [show atD l (sgN l A M) = dsV l A M by unfold dsV; rw [if_pos he]] at sb
    clear eE eV hL hD he
    generalize sgV l A M = S at *
    generalize dsV l A M = D at *
    generalize vlV l A M = V at *
    by_cases hx : 0 ≤ x ∧ x ≤ 1073741824
    · rw [if_pos hx]
      rw [decide_eq_true hx] at HV
      have p0 : 0 ≤ x * D := Int.mul_nonneg hx.1 (by omega)
      have p1 : x * D ≤ 1073741824 * 120000 := Int.mul_le_mul hx.2 sb.2 (by omega) (by omega)
      have w1 : IntKind.i64.wrap (x * D) = x * D := wrap_in _ ⟨by omega, by omega⟩
      by_cases hc : V < x
      · have dc : decide (V < x) = true := decide_eq_true hc
        rw [if_pos hc, if_neg (by decide)]
        go_enter Try.func42, Try.ntmps42
        go_wp2_with fail
        refine (HM.out _ X.out).mono ?_
        rintro e w1 ⟨rfl, gg⟩
        replace X := Lib.hid (bel_trans X.out gg); clear gg
        go_wp2_with fail
        refine (HV.out _).mono ?_
        rintro e w2 ⟨rfl, hw⟩
        subst hw
        go_wp2
        go_returns
        exact ⟨rfl, X.out⟩
      · have dc : decide (V < x) = false := decide_eq_false hc
        rw [if_neg hc, if_pos rfl]
        go_enter Try.func42, Try.ntmps42
        go_wp2_with fail
        refine (HM.out _ X.out).mono ?_
        rintro e w1 ⟨rfl, gg⟩
        replace X := Lib.hid (bel_trans X.out gg); clear gg
        go_wp2_with fail
        refine (HV.out _).mono ?_
        rintro e w2 ⟨rfl, hw⟩
        subst hw
        go_wp2
        go_returns
        exact ⟨rfl, X.out⟩
    · rw [if_neg hx, if_neg (by decide)]
      rw [decide_eq_false hx] at HV
      go_enter Try.func42, Try.ntmps42
      go_wp2_with fail
      refine (HM.out _ X.out).mono ?_
      rintro e w1 ⟨rfl, gg⟩
      replace X := Lib.hid (bel_trans X.out gg); clear gg
      go_wp2_with fail
      refine (HV.out _).mono ?_
      rintro e w2 ⟨rfl, hw⟩
      subst hw
      go_wp2
      go_returns
      exact ⟨rfl, X.out⟩
  · have e1 : maE l A M x = 1 := by unfold maE; rw [if_pos he]
    have e2 : maV l A M x = 0 := by unfold maV; rw [if_neg (by omega)]
    rw [show (alE l A M == 0) = false by simpa using he] at HM
    rw [e1, e2]
    generalize sgV l A M = S at *
    generalize dsV l A M = D at *
    generalize vlV l A M = V at *
    go_enter Try.func42, Try.ntmps42
    go_wp2_with fail
    refine (HM.out _ X.out).mono ?_
    rintro e w1 ⟨rfl, gg⟩
    replace X := Lib.hid (bel_trans X.out gg); clear gg
    go_wp2
    go_returns
    exact ⟨rfl, X.out⟩
set_option maxHeartbeats 4000000 in
theorem alOf_any (v : Value) (l : List (Int × Int)) (x s : Int) (w : World) (hv : Pts w v l) :
    Calls Try.prog 34 #[v, .int .i64 x, .int .i64 s] w fun e w' => e = .returned (.tuple #[.agg #[.int .i64 (ofA l x s), .int .i64 (ofM l x s)], .int .i64 (ofE l x s)]) ∧ Below w.heap.size w w' := by
  have HR := Lib.hid (fun W (hW : Below w.heap.size w W) => alRt_any v l W (hv.below hW))
  have HV := Lib.hid (fun W => alVo_any x W)
  have T0 := Lib.hid (Two.new w (.int .i64 0) (.int .i64 0) 47)
  have X := Lib.hid (bel_alloc (w := w) (o := .cells #[.int .i64 0, .int .i64 0] 47) (Below.refl _ _))
  by_cases he : dnE l = 0
  · have hD := dnE_zero.1 he
    rw [show (dnE l == 0) = true by simpa using he] at HR
    by_cases hx : 0 ≤ x ∧ x ≤ 1073741824
    · rw [decide_eq_true hx] at HV
      by_cases h0 : s < 0
      · have e0 : ofE l x s = 2 := by unfold ofE; rw [if_neg (by omega), if_neg (by omega)]
        rw [show ofA l x s = 0 by unfold ofA; rw [if_neg (by omega)], show ofM l x s = 0 by unfold ofM; rw [if_neg (by omega)], e0]
        have d0 : decide (s < 0) = true := decide_eq_true h0
        go_enter Try.func34, Try.ntmps34
        go_wp2_with fail
        refine (HR.out _ X.out).mono ?_
        rintro e w1 ⟨rfl, gg⟩
        replace T0 := Lib.hid (T0.out.below gg)
        replace X := Lib.hid (bel_trans X.out gg); clear gg
        go_wp2_with fail
        refine (HV.out _).mono ?_
        rintro e w2 ⟨rfl, hw⟩
        subst hw
        obtain ⟨z0, z1, f0, f1, hlt⟩ := T0.out
        go_wp2
        obtain ⟨t0, t1⟩ := two_read w2 w.heap.size (.int .i64 0) (.int .i64 0) z0 z1
        refine bodyPost_ret (v := .tuple #[.agg #[.int .i64 0, .int .i64 0], .int .i64 2]) (by simp [results, Try.results34, go_sem, t0, t1]) rfl ?_
        exact ⟨rfl, (X.out.setCell (Nat.le_refl _) _).setCell (Nat.le_refl _) _⟩
      · have d0 : decide (s < 0) = false := decide_eq_false h0
        by_cases h1 : 10000 < s
        · have e0 : ofE l x s = 2 := by unfold ofE; rw [if_neg (by omega), if_neg (by omega)]
          rw [show ofA l x s = 0 by unfold ofA; rw [if_neg (by omega)], show ofM l x s = 0 by unfold ofM; rw [if_neg (by omega)], e0]
          have d1 : decide (10000 < s) = true := decide_eq_true h1
          go_enter Try.func34, Try.ntmps34
          go_wp2_with fail
          refine (HR.out _ X.out).mono ?_
          rintro e w1 ⟨rfl, gg⟩
          replace T0 := Lib.hid (T0.out.below gg)
          replace X := Lib.hid (bel_trans X.out gg); clear gg
          go_wp2_with fail
          refine (HV.out _).mono ?_
          rintro e w2 ⟨rfl, hw⟩
          subst hw
          obtain ⟨z0, z1, f0, f1, hlt⟩ := T0.out
          go_wp2
          obtain ⟨t0, t1⟩ := two_read w2 w.heap.size (.int .i64 0) (.int .i64 0) z0 z1
          refine bodyPost_ret (v := .tuple #[.agg #[.int .i64 0, .int .i64 0], .int .i64 2]) (by simp [results, Try.results34, go_sem, t0, t1]) rfl ?_
          exact ⟨rfl, (X.out.setCell (Nat.le_refl _) _).setCell (Nat.le_refl _) _⟩
        · have d1 : decide (10000 < s) = false := decide_eq_false h1
          have e0 : ofE l x s = 0 := ofE_zero.2 ⟨hD, hx, by omega, by omega⟩
          have HA := Lib.hid (fun W (hW : Below w.heap.size w W) => alAt_any v l s W (hv.below hW) hD (by omega) (by omega))
          have b := (atD_bd hD (s := s) (by omega) (by omega)).2.2
          rw [show ofA l x s = x * s by unfold ofA; rw [if_pos e0], show ofM l x s = x * atD l s by unfold ofM; rw [if_pos e0], e0]
          have p0 : 0 ≤ x * atD l s := Int.mul_nonneg hx.1 (by omega)
          have p1 : x * atD l s ≤ 1073741824 * 120000 := Int.mul_le_mul hx.2 b.2 (by omega) (by omega)
          have p2 : 0 ≤ x * s := Int.mul_nonneg hx.1 (by omega)
          have p3 : x * s ≤ 1073741824 * 10000 := Int.mul_le_mul hx.2 (by omega) (by omega) (by omega)
          generalize atD l s = D at *
          have w1 : IntKind.i64.wrap (x * D) = x * D := wrap_in _ ⟨by omega, by omega⟩
          have w2 : IntKind.i64.wrap (x * s) = x * s := wrap_in _ ⟨by omega, by omega⟩
          clear e0
          go_enter Try.func34, Try.ntmps34
          go_wp2_with fail
          refine (HR.out _ X.out).mono ?_
          rintro e w1 ⟨rfl, gg⟩
          replace T0 := Lib.hid (T0.out.below gg)
          replace X := Lib.hid (bel_trans X.out gg); clear gg
          go_wp2_with fail
          refine (HV.out _).mono ?_
          rintro e w2 ⟨rfl, hw⟩
          subst hw
          go_wp2_with fail
          refine (HA.out _ X.out).mono ?_
          rintro e w3 ⟨rfl, gg⟩
          replace T0 := Lib.hid (T0.out.below gg)
          replace X := Lib.hid (bel_trans X.out gg); clear gg
          obtain ⟨z0, z1, f0, f1, hlt⟩ := T0.out
          go_wp2
          obtain ⟨t0, t1⟩ := two_read w3 w.heap.size (.int .i64 (x * s)) (.int .i64 (x * D)) z0 z1
          refine bodyPost_ret (v := .tuple #[.agg #[.int .i64 (x * s), .int .i64 (x * D)], .int .i64 0]) (by simp [results, Try.results34, go_sem, t0, t1]) rfl ?_
          exact ⟨rfl, (X.out.setCell (Nat.le_refl _) _).setCell (Nat.le_refl _) _⟩
    · rw [decide_eq_false hx] at HV
      have e0 : ofE l x s = 2 := by unfold ofE; rw [if_neg (by omega), if_neg (fun h => hx h.1)]
      rw [show ofA l x s = 0 by unfold ofA; rw [if_neg (by omega)], show ofM l x s = 0 by unfold ofM; rw [if_neg (by omega)], e0]
      go_enter Try.func34, Try.ntmps34
      go_wp2_with fail
      refine (HR.out _ X.out).mono ?_
      rintro e w1 ⟨rfl, gg⟩
      replace T0 := Lib.hid (T0.out.below gg)
      replace X := Lib.hid (bel_trans X.out gg); clear gg
      go_wp2_with fail
      refine (HV.out _).mono ?_
      rintro e w2 ⟨rfl, hw⟩
      subst hw
      obtain ⟨z0, z1, f0, f1, hlt⟩ := T0.out
      go_wp2
      obtain ⟨t0, t1⟩ := two_read w2 w.heap.size (.int .i64 0) (.int .i64 0) z0 z1
      refine bodyPost_ret (v := .tuple #[.agg #[.int .i64 0, .int .i64 0], .int .i64 2]) (by simp [results, Try.results34, go_sem, t0, t1]) rfl ?_
      exact ⟨rfl, (X.out.setCell (Nat.le_refl _) _).setCell (Nat.le_refl _) _⟩
  · rw [show (dnE l == 0) = false by simpa using he] at HR
    have e0 : ofE l x s = 1 := by unfold ofE; rw [if_pos he]
    rw [show ofA l x s = 0 by unfold ofA; rw [if_neg (by omega)], show ofM l x s = 0 by unfold ofM; rw [if_neg (by omega)], e0]
    go_enter Try.func34, Try.ntmps34
    go_wp2_with fail
    refine (HR.out _ X.out).mono ?_
    rintro e w1 ⟨rfl, gg⟩
    replace T0 := Lib.hid (T0.out.below gg)
    replace X := Lib.hid (bel_trans X.out gg); clear gg
    obtain ⟨z0, z1, f0, f1, hlt⟩ := T0.out
    go_wp2
    obtain ⟨t0, t1⟩ := two_read w1 w.heap.size (.int .i64 0) (.int .i64 0) z0 z1
    refine bodyPost_ret (v := .tuple #[.agg #[.int .i64 0, .int .i64 0], .int .i64 1]) (by simp [results, Try.results34, go_sem, t0, t1]) rfl ?_
    exact ⟨rfl, (X.out.setCell (Nat.le_refl _) _).setCell (Nat.le_refl _) _⟩
end Go.Proofs.Ytadkhhkoankhnaa

/- Slices that read as lists of rows: copies. -/
namespace Go.Proofs.Ytadkhhkoankhnaa
open Go.RowKit Go.Sort

set_option maxRecDepth 100000 in
set_option maxHeartbeats 2000000 in
theorem clone_some (ad : Addr) (n c : Nat) (news : List Value) (w : World) (hl : news.length = n * 2) (hn : n ≤ 1000)
    (hc : Hid (∀ j u, news[j]? = some u → (w.alloc (.cells #[] 42)).cell? (ad.add j) = some u)) (h1 : Hid (∀ u ∈ news, u.oneCell' = true)) :
    Calls Try.prog 47 #[.slice (some ad) n c] w fun e w' => ∃ v', e = .returned v' ∧ w'.ownsRow w.heap.size 42 2 v' n news ∧ v' ≠ .slice none 0 0 ∧ Below w.heap.size w w' := by
  obtain ⟨i0, hi0, hz0, hz1, hz2⟩ := info_parts pt_info
  have q22 : ∀ (w : World) (a : Option Addr) (n c n' c' : Nat), (binOp .eql 22 (.slice a n c) (.slice none n' c')).run Try.prog w = .ok (.bool a.isNone) w := fun w a n c n' c' => Lib.run_eql_slice_nil w _ _ a n c n' c' Try.underlying22
  go_enter Try.func47, Try.ntmps47
  go_wp2_with (at_builtin; refine wpList_append_own _ rfl _ _ 22 rfl w.heap.size 42 i0 (.agg #[.int .i64 0, .int .i64 0]) 2 16 Try.underlying22 hi0 hz0 hz1 hz2 rfl (by omega) _ _ _ rfl (World.ownsRow_made w #[] 0 (Nat.le_refl _) (Nat.zero_le _) (by simp)) ad n c news rfl ?qc1 ?qc2 ?qc3 ?qc4 ?qc5 ?qc6 ?_)
  case qc1 => exact hl
  case qc2 => exact hc.out
  case qc3 => exact h1.out
  case qc4 => rw [Nat.zero_add]; unfold maxLen; omega
  case qc5 => rw [Nat.zero_add]; omega
  case qc6 => simp
  intro v' w1 hown hgrow hnil
  have HO := Lib.hid hown
  have HG := Lib.hid hgrow
  have HN := Lib.hid hnil
  clear hown hgrow hnil hl
  go_wp2
  go_ret
  refine ⟨v', rfl, by simpa using HO.out, ?_, ?_⟩
  · exact HN.out
  · exact ((Below.refl _ w).alloc (Nat.le_refl _) _).grown HG.out (by simp) (by intro k hk; simp [Value.ownBlock] at hk; omega)
set_option maxRecDepth 100000 in
theorem clone_none (n c : Nat) (w : World) :
    Calls Try.prog 47 #[.slice none n c] w fun e w' => e = .returned (.slice none 0 0) ∧ w' = w := by
  have q22 : ∀ (w : World) (a : Option Addr) (n c n' c' : Nat), (binOp .eql 22 (.slice a n c) (.slice none n' c')).run Try.prog w = .ok (.bool a.isNone) w := fun w a n c n' c' => Lib.run_eql_slice_nil w _ _ a n c n' c' Try.underlying22
  go_enter Try.func47, Try.ntmps47
  go_wp2
  go_ret
  exact ⟨rfl, rfl⟩
/-- a copy reads as what it is copied from -/
theorem clone_p (v : Value) (l : List (Int × Int)) (w : World) (h : Pts w v l) (hn : l.length ≤ 1000) :
    Calls Try.prog 47 #[v] w fun e w' => ∃ u, e = .returned u ∧ Pts w' u l ∧ Below w.heap.size w w' := by
  obtain ⟨a, c, rfl, hl, h⟩ := h
  cases a with
  | none =>
    rcases h with h | ⟨b, off, hx, _⟩
    · obtain rfl := List.length_eq_zero_iff.1 h
      refine (clone_none _ c w).mono fun _ w' g => ⟨_, g.1, ?_, by rw [g.2]; exact Below.refl _ _⟩
      exact pts_nil w'
    · cases hx
  | some ad =>
    refine (clone_some ad l.length c (flat l) w (flat_len l) hn ?_ (flat_one l)).mono fun _ w' ⟨u, g1, g2, _, g4⟩ => ⟨u, g1, OwnP.pts (show OwnP w' w.heap.size u l from g2), g4⟩
    intro j u hj
    rcases h with h | ⟨b, off, hx, hb, hc⟩
    · obtain rfl := List.length_eq_zero_iff.1 h
      simp [flat] at hj
    · obtain rfl := Option.some.inj hx
      obtain ⟨i, hi, ⟨rfl, rfl⟩ | ⟨rfl, rfl⟩⟩ := flat_inv l j u hj
      · rw [Go.WideShapes.add_plain, World.cell?_alloc_lt w _ _ hb]
        exact (hc i hi).1
      · rw [Go.WideShapes.add_plain, World.cell?_alloc_lt w _ _ hb, ← Nat.add_assoc]
        exact (hc i hi).2
end Go.Proofs.Ytadkhhkoankhnaa

/- Package alcohol: the example. -/
namespace Go.Proofs.Ytadkhhkoankhnaa
open Go.RowKit

def alX : List (Int × Int) := [(0, 99820), (5000, 93016), (10000, 78924)]
theorem alX_dr : DR alX := dnE_zero.1 (by decide)
theorem alX_of : ofA alX 1000 4000 = 4000000 ∧ ofM alX 1000 4000 = 94377000 ∧ ofE alX 1000 4000 = 0 := by decide +kernel
theorem alX_e : alE alX 4000000 94377000 = 0 ∧ alE alX 4000000 100000000 = 0 := by decide +kernel
theorem alX_s1 : sgN alX 4000000 94377000 = 4000 := sgN_is alX_dr (alE_zero.1 alX_e.1).2 (by decide) (by decide) (by decide +kernel) (fun _ => by decide +kernel)
theorem alX_s2 : sgN alX 4000000 100000000 = 3786 := sgN_is alX_dr (alE_zero.1 alX_e.2).2 (by decide) (by decide) (by decide +kernel) (fun _ => by decide +kernel)
theorem alX_1 : sgV alX 4000000 94377000 = 4000 ∧ vlV alX 4000000 94377000 = 1000 ∧ meE alX 4000000 94377000 = 0 := by
  unfold sgV vlV meE vlN
  rw [if_pos alX_e.1, if_pos alX_e.1, if_pos alX_e.1, alX_s1]
  exact ⟨rfl, by decide +kernel, rfl⟩
theorem alX_2 : sgV alX 4000000 100000000 = 3786 ∧ vlV alX 4000000 100000000 = 1056 ∧ meE alX 4000000 100000000 = 0 := by
  unfold sgV vlV meE vlN
  rw [if_pos alX_e.2, if_pos alX_e.2, if_pos alX_e.2, alX_s2]
  exact ⟨rfl, by decide +kernel, rfl⟩
set_option maxHeartbeats 16000000 in
set_option maxRecDepth 100000 in
theorem awakeA_any (w : World) : Calls Try.prog 33 #[] w fun e w' => e = .returned (.bool true) ∧ Below w.heap.size w w' := by
  have P0 := pts_lit w alX (flat alX) rfl (by decide)
  have X0 : Below w.heap.size w (w.alloc (.cells (flat alX).toArray 42)) := bel_alloc (Below.refl _ _)
  have C1 := Lib.hid (fun v W h => alOf_any v alX 1000 4000 W h)
  have C2 := Lib.hid (fun v W h => alSt_any v alX 4000000 94377000 W h)
  have C3 := Lib.hid (fun v W h => alVl_any v alX 4000000 94377000 W h)
  have C4 := Lib.hid (fun v W h => alSt_any v alX 4000000 100000000 W h)
  have C5 := Lib.hid (fun v W h => alVl_any v alX 4000000 100000000 W h)
  rw [alX_of.1, alX_of.2.1, alX_of.2.2] at C1
  rw [alX_1.1, alX_1.2.2] at C2
  rw [alX_1.2.1, alX_1.2.2] at C3
  rw [alX_2.1, alX_2.2.2] at C4
  rw [alX_2.2.1, alX_2.2.2] at C5
  have q1 : ∀ W, (binOp .eql 47 (.agg #[.int .i64 4000000, .int .i64 94377000]) (.agg #[.int .i64 4000000, .int .i64 94377000])).run Try.prog W = .ok (.bool true) W := fun W => by rw [run_eql_liq]; rfl
  replace P0 := Lib.hid P0
  have HB := Lib.hid X0; clear X0
  go_enter Try.func33, Try.ntmps33
  go_wp2_with fail
  refine (C1.out _ _ P0.out).mono ?_
  rintro e w1 ⟨rfl, h1⟩
  replace P0 := Lib.hid ((P0.out.below h1).alloc (.cells #[.int .i64 4000000, .int .i64 94377000] 47))
  have T0 := Lib.hid (Two.new w1 (.int .i64 4000000) (.int .i64 94377000) 47)
  replace HB := Lib.hid ((bel_trans HB.out h1).alloc (bel_trans HB.out h1).size (.cells #[.int .i64 4000000, .int .i64 94377000] 47)); clear h1
  obtain ⟨t0, t1, f0, f1, hlt⟩ := T0.out
  go_wp2_with fail
  refine (C2.out _ _ P0.out).mono ?_
  rintro e w2 ⟨rfl, h1⟩
  replace P0 := Lib.hid (P0.out.below h1)
  replace T0 := Lib.hid (T0.out.below h1)
  replace HB := Lib.hid (bel_trans HB.out h1); clear h1
  obtain ⟨t0, t1, f0, f1, hlt⟩ := T0.out
  go_wp2_with fail
  refine (C3.out _ _ P0.out).mono ?_
  rintro e w3 ⟨rfl, h1⟩
  replace P0 := Lib.hid (P0.out.below h1)
  replace T0 := Lib.hid (T0.out.below h1)
  replace HB := Lib.hid (bel_trans HB.out h1); clear h1
  go_wp2_with fail
  refine (C4.out _ _ P0.out).mono ?_
  rintro e w4 ⟨rfl, h1⟩
  replace P0 := Lib.hid (P0.out.below h1)
  replace T0 := Lib.hid (T0.out.below h1)
  replace HB := Lib.hid (bel_trans HB.out h1); clear h1
  go_wp2_with fail
  refine (C5.out _ _ P0.out).mono ?_
  rintro e w5 ⟨rfl, h1⟩
  replace T0 := Lib.hid (T0.out.below h1)
  replace HB := Lib.hid (bel_trans HB.out h1); clear h1
  obtain ⟨t0, t1, f0, f1, hlt⟩ := T0.out
  go_wp2
  go_returns
  exact ⟨rfl, HB.out⟩
end Go.Proofs.Ytadkhhkoankhnaa

/- Layer 16: Few. -/
namespace Go.Proofs.Ytadkhhkoankhnaa
open Go.RowKit

def fwB (n : Nat) : Bool := decide (n ≤ 20) || (decide (128 < n) && decide (n ≤ 133))
theorem few_any (v : Value) (l : List (Int × Int)) (w : World) (hv : Pts w v l) :
    Calls Try.prog 16 #[v] w fun e w' => e = .returned (.bool (fwB l.length)) ∧ w' = w := by
  obtain ⟨a, cap, rfl, h1, h2⟩ := hv.shape
  by_cases q0 : l.length ≤ 20
  · go_enter Try.func16, Try.ntmps16
    go_wp2
    go_ret
    exact ⟨ret_bool (by simp [fwB, q0]), rfl⟩
  · by_cases q1 : 128 < l.length
    · go_enter Try.func16, Try.ntmps16
      go_wp2
      go_ret
      exact ⟨ret_bool (by rw [Bool.eq_iff_iff]; simp [fwB]; omega), rfl⟩
    · go_enter Try.func16, Try.ntmps16
      go_wp2
      go_ret
      exact ⟨ret_bool (by rw [Bool.eq_iff_iff]; simp [fwB]; omega), rfl⟩
theorem sam_eq {l m : List (Int × Int)} (hl : l.length = m.length) (h : ∀ j, j < l.length → samP (gX l j) (gR l j) (gX m j) (gR m j) = true) : l = m := by
  apply List.ext_getElem hl
  intro i h1 h2
  have := h i h1
  simp only [samP, Bool.and_eq_true, beq_iff_eq, gX, gR, List.getD_eq_getElem?_getD, List.getElem?_eq_getElem h1, List.getElem?_eq_getElem h2, Option.getD_some] at this
  exact Prod.ext this.1 this.2
end Go.Proofs.Ytadkhhkoankhnaa

/- The reference of layer 8: Same. -/
namespace Go.Proofs.Ytadkhhkoankhnaa
open Go.RowKit

theorem same_lens (a c : Option Addr) (n cap m cap2 : Nat) (w : World) (h : ((n : Int) != (m : Int)) = true) :
    Calls Try.prog 27 #[.slice a n cap, .slice c m cap2] w fun e w' => e = .returned (.bool false) ∧ Below w.heap.size w w' := by
  go_enter Try.func27, Try.ntmps27
  go_wp2
  go_returns
  exact ⟨rfl, Below.refl _ _⟩
theorem same_nil (a c : Option Addr) (cap cap2 : Nat) (w : World) :
    Calls Try.prog 27 #[.slice a 0 cap, .slice c 0 cap2] w fun e w' => e = .returned (.bool true) ∧ Below w.heap.size w w' := by
  go_enter Try.func27, Try.ntmps27
  go_wp2_with fail
  go_loopw [5] (fun ii wr => ii = .int .i64 0 ∧ Hid (Below w.heap.size w wr)) (fun _ _ => 0)
  case atStart => exact ⟨rfl, Below.refl _ _⟩
  case round =>
    obtain ⟨rfl, hB⟩ := hrel
    go_wp2
    go_returns
    exact ⟨rfl, hB.out⟩
set_option maxHeartbeats 4000000 in
theorem same_some (b off b2 off2 n cap cap2 : Nat) (f g f2 g2 : Nat → Int) (S : Bool) (w : World) (n1 : n ≤ 1000) (hb : b < w.heap.size) (hb2 : b2 < w.heap.size)
    (hc : Hid (∀ j, j < n → w.cell? ⟨b, off + j * 2, none⟩ = some (.int .i64 (f j)) ∧ w.cell? ⟨b, off + j * 2 + 1, none⟩ = some (.int .i64 (g j))))
    (hc2 : Hid (∀ j, j < n → w.cell? ⟨b2, off2 + j * 2, none⟩ = some (.int .i64 (f2 j)) ∧ w.cell? ⟨b2, off2 + j * 2 + 1, none⟩ = some (.int .i64 (g2 j))))
    (h1 : Hid ((∃ j, j < n ∧ samP (f j) (g j) (f2 j) (g2 j) = false) → S = false)) (h2 : Hid ((∀ j, j < n → samP (f j) (g j) (f2 j) (g2 j) = true) → S = true)) :
    Calls Try.prog 27 #[.slice (some ⟨b, off, none⟩) n cap, .slice (some ⟨b2, off2, none⟩) n cap2] w fun e w' => e = .returned (.bool S) ∧ Below w.heap.size w w' := by
  go_enter Try.func27, Try.ntmps27
  go_wp2_with fail
  go_loopw [5] (fun ii wr => ∃ k : Nat, k ≤ n ∧ ii = .int .i64 k ∧ Hid (Below w.heap.size w wr) ∧ Hid (∀ j, j < k → samP (f j) (g j) (f2 j) (g2 j) = true)) (fun ii _ => n - (intOf ii).toNat)
  case atStart => exact ⟨0, Nat.zero_le _, rfl, Below.refl _ _, fun j hj => by omega⟩
  case round =>
    obtain ⟨k, hk, rfl, hB, ha⟩ := hrel
    by_cases hlt : k < n
    · have c0 : wr.cell? ⟨b, off + k * 2, none⟩ = some (.int .i64 (f k)) := by rw [(bcell hB.out).1 _ _ hb]; exact (hc.out k hlt).1
      have c1 : wr.cell? ⟨b, off + k * 2 + 1, none⟩ = some (.int .i64 (g k)) := by rw [(bcell hB.out).1 _ _ hb]; exact (hc.out k hlt).2
      have d0 : wr.cell? ⟨b2, off2 + k * 2, none⟩ = some (.int .i64 (f2 k)) := by rw [(bcell hB.out).1 _ _ hb2]; exact (hc2.out k hlt).1
      have d1 : wr.cell? ⟨b2, off2 + k * 2 + 1, none⟩ = some (.int .i64 (g2 k)) := by rw [(bcell hB.out).1 _ _ hb2]; exact (hc2.out k hlt).2
      have HF : Hid (samP (f k) (g k) (f2 k) (g2 k) = false → S = false) := fun h => h1.out ⟨k, hlt, h⟩
      have HT : Hid (samP (f k) (g k) (f2 k) (g2 k) = true → ∀ j, j < k + 1 → samP (f j) (g j) (f2 j) (g2 j) = true) := fun h j hj => by
        by_cases e : j = k
        · rw [e]; exact h
        · exact ha.out j (by omega)
      have l1 : (k : Int) < (n : Int) := by omega
      generalize f k = x at *
      generalize g k = y at *
      generalize f2 k = u at *
      generalize g2 k = v at *
      cases hq : samP x y u v with
      | false =>
        obtain rfl := HF.out hq
        have q1 : ∀ W, (binOp .neq 42 (.agg #[.int .i64 x, .int .i64 y]) (.agg #[.int .i64 u, .int .i64 v])).run Try.prog W = .ok (.bool true) W := fun W => by rw [run_neq_point, hq]; rfl
        clear HF HT hq
        go_wp2_with fail
        go_quiet (fail)
        go_wp2
        go_returns
        exact ⟨rfl, bel_trans hB.out (bel_drewN _ _)⟩
      | true =>
        have ha2 := Lib.hid (HT.out hq)
        have q1 : ∀ W, (binOp .neq 42 (.agg #[.int .i64 x, .int .i64 y]) (.agg #[.int .i64 u, .int .i64 v])).run Try.prog W = .ok (.bool false) W := fun W => by rw [run_neq_point, hq]; rfl
        clear HF HT hq
        go_wp2_with fail
        go_quiet (fail)
        go_wp2
        go_roundw
        case rel => exact ⟨k + 1, by omega, by go_num, bel_trans hB.out (bel_drewN _ _), ha2⟩
        case measure => simp [intOf]; omega
    · obtain rfl : k = n := by omega
      have hS := h2.out ha.out
      subst hS
      go_wp2
      go_returns
      exact ⟨rfl, hB.out⟩
/-- Same says whether two lists are equal -/
theorem same_any (v u : Value) (l m : List (Int × Int)) (w : World) (hv : Pts w v l) (hu : Pts w u m) (hn : l.length ≤ 1000) :
    Calls Try.prog 27 #[v, u] w fun e w' => e = .returned (.bool (l == m)) ∧ Below w.heap.size w w' := by
  obtain ⟨a, cap, rfl, hl, hh⟩ := hv
  obtain ⟨c, cap2, rfl, hl2, hh2⟩ := hu
  by_cases hlen : l.length = m.length
  · rcases hh with hh | ⟨b, off, rfl, hb, hc⟩
    · have e1 := List.length_eq_zero_iff.1 hh
      have e2 := List.length_eq_zero_iff.1 (hlen ▸ hh)
      subst e1 e2
      exact same_nil a c cap cap2 w
    · rcases hh2 with hh2 | ⟨b2, off2, rfl, hb2, hc2⟩
      · have e2 := List.length_eq_zero_iff.1 hh2
        have e1 := List.length_eq_zero_iff.1 (hlen.trans hh2)
        subst e1 e2
        exact same_nil _ c cap cap2 w
      · rw [← hlen] at hc2 ⊢
        refine same_some b off b2 off2 l.length cap cap2 (gX l) (gR l) (gX m) (gR m) _ w hn hb hb2 hc hc2 (fun ⟨j, hj, h⟩ => ?_) (fun h => ?_)
        · rw [beq_eq_false_iff_ne]
          intro e
          subst e
          simp [samP] at h
        · rw [beq_iff_eq]; exact sam_eq hlen h
  · have := same_lens a c l.length cap m.length cap2 w (by simpa using fun e : (l.length : Int) = m.length => hlen (by omega))
    refine this.mono fun _ _ g => ⟨?_, g.2⟩
    rw [g.1]
    congr 2
    symm
    rw [beq_eq_false_iff_ne]
    intro e; exact hlen (by rw [e])
end Go.Proofs.Ytadkhhkoankhnaa

/- How the arguments of a statement of layer 20 are opened. -/
namespace Go.Proofs.Ytadkhhkoankhnaa
open Go.ChangeShapes Go.WideShapes Go.ChangeAt Go.RowKit Go.Joins

theorem open_liq {H : Type} {enc : TypeId × Value → H} {w : World} {r : Reach} {b0 base : Nat} {spare : Nat → Bool} {held : Bool} {v : Value} {d : DataW H} {p : List MemPlace}
    (hv : Value.okWide Try.prog w r b0 47 v) (h : DataW.Trod enc Try.prog w base spare held 47 v d p) :
    ∃ k a : Int, v = .agg #[.int .i64 k, .int .i64 a] ∧ (-9223372036854775808 ≤ k ∧ k ≤ 9223372036854775807) ∧ (-9223372036854775808 ≤ a ∧ a ≤ 9223372036854775807) := by
  obtain ⟨v0, v1, y0, y1, n, rfl, _, _, h0, h1⟩ := open_agg2 Try.underlying47 (by kernel_rfl) (by kernel_rfl) hv h
  obtain ⟨a, ea, _, wa⟩ := DataW.trod_int (k := .i64) Try.underlying3 h0
  obtain ⟨b, eb, _, wb⟩ := DataW.trod_int (k := .i64) Try.underlying3 h1
  simp only [List.cons.injEq, and_true] at ea eb
  subst ea eb
  exact ⟨a, b, rfl, wf_bd wa, wf_bd wb⟩
end Go.Proofs.Ytadkhhkoankhnaa

/- Package density's reference: At, Find. -/
namespace Go.Proofs.Ytadkhhkoankhnaa
open Go.RowKit

/-- the last of the first rows whose strength is not greater -/
def atN (l : List (Int × Int)) (s : Int) : Nat → Nat
  | 0 => 0
  | k + 1 => if gX l k ≤ s then k else atN l s k
theorem atN_is {l : List (Int × Int)} (h : DR l) {s : Int} (hs : 0 ≤ s) : ∀ k, k ≤ l.length → 1 ≤ k → (atN l s k : Int) = if k ≤ rcN l (s + 1) then (k : Int) - 1 else (rcN l (s + 1) : Int) - 1
  | 0, _, h1 => by omega
  | k + 1, hk, _ => by
    obtain ⟨r1, r2, r3⟩ := rcN_spec h (s + 1)
    have rp := rcN_pos h hs
    unfold atN
    by_cases e : gX l k ≤ s
    · rw [if_pos e]
      have : k + 1 ≤ rcN l (s + 1) := by
        rcases Nat.lt_or_ge k (rcN l (s + 1)) with g | g
        · exact g
        · have := r3 k g (by omega); omega
      rw [if_pos this]; omega
    · rw [if_neg e]
      have h2 : ¬ k + 1 ≤ rcN l (s + 1) := fun g => by have := r2 k (by omega); omega
      rw [if_neg h2, atN_is h hs k (by omega) (by omega)]
      by_cases g : k ≤ rcN l (s + 1)
      · rw [if_pos g]; omega
      · rw [if_neg g]
theorem atN_rc {l : List (Int × Int)} (h : DR l) {s : Int} (hs : 0 ≤ s) : (atN l s l.length : Int) = (rcN l (s + 1) : Int) - 1 := by
  have n0 := h.n0
  have r1 := (rcN_spec h (s + 1)).1
  rw [atN_is h hs l.length (Nat.le_refl _) (by omega)]
  split <;> omega
set_option maxHeartbeats 8000000 in
theorem rnAt_some (b off n cap : Nat) (l : List (Int × Int)) (s : Int) (w : World) (n1 : n ≤ 1000) (hb : b < w.heap.size) (hc : Hid (∀ j, j < n → w.cell? ⟨b, off + j * 2, none⟩ = some (.int .i64 (gX l j)))) :
    Calls Try.prog 77 #[.slice (some ⟨b, off, none⟩) n cap, .int .i64 s] w fun e w' => e = .returned (.int .i64 (atN l s n : Nat)) ∧ Below w.heap.size w w' := by
  go_enter Try.func77, Try.ntmps77
  go_wp2_with fail
  go_loopw [5, 6] (fun aa ii wr => ∃ k : Nat, k ≤ n ∧ ii = .int .i64 (k : Int) ∧ aa = .int .i64 (atN l s k : Nat) ∧ Hid (Below w.heap.size w wr)) (fun _ ii _ => n - (intOf ii).toNat)
  case atStart => exact ⟨0, Nat.zero_le _, rfl, rfl, Below.refl _ _⟩
  case round =>
    obtain ⟨k, hk, rfl, rfl, hB⟩ := hrel
    by_cases hlt : k < n
    · have c0 := cell_bel (hc.out k hlt) hB.out
      have l0 : (k : Int) < (n : Int) := by omega
      by_cases e : gX l k ≤ s
      · have hN : Hid (atN l s (k + 1) = k) := Lib.hid (by unfold atN; rw [if_pos e])
        have d0 : decide (gX l k ≤ s) = true := decide_eq_true e
        clear e
        generalize gX l k = y at *
        go_wp2
        go_roundw
        case rel => exact ⟨k + 1, by omega, by go_num, by rw [hN.out], hB⟩
        case measure => simp [intOf]; omega
      · have hN : Hid (atN l s (k + 1) = atN l s k) := Lib.hid (by show (if gX l k ≤ s then k else atN l s k) = _; rw [if_neg e])
        have d0 : decide (gX l k ≤ s) = false := decide_eq_false e
        clear e
        generalize gX l k = y at *
        go_wp2
        go_roundw
        case rel => exact ⟨k + 1, by omega, by go_num, by rw [hN.out], hB⟩
        case measure => simp [intOf]; omega
    · obtain rfl : k = n := by omega
      go_wp2
      go_returns
      exact ⟨rfl, hB.out⟩
theorem rnAt_any (v : Value) (l : List (Int × Int)) (s : Int) (w : World) (hv : Pts w v l) (h : DR l) (hs : 0 ≤ s) :
    Calls Try.prog 77 #[v, .int .i64 s] w fun e w' => e = .returned (.int .i64 ((rcN l (s + 1) : Int) - 1)) ∧ Below w.heap.size w w' := by
  have n0 := h.n0
  have n1 := h.n1
  obtain ⟨a, cap, rfl, hl, hh⟩ := hv
  rcases hh with hh | ⟨b, off, rfl, hb, hc⟩
  · omega
  have := rnAt_some b off l.length cap l s w (by omega) hb (Lib.hid fun j hj => (hc j hj).1)
  rwa [atN_rc h hs] at this
end Go.Proofs.Ytadkhhkoankhnaa

/- The reference of layer 18: the density at a strength. -/
namespace Go.Proofs.Ytadkhhkoankhnaa
open Go.RowKit

set_option maxHeartbeats 4000000 in
theorem rfLn_any (x0 r0 x1 r1 s : Int) (w : World) (hx0 : 0 ≤ x0) (hx : x0 < x1) (hx1 : x1 ≤ 10000) (hs0 : x0 ≤ s) (hs1 : s ≤ x1) (hr1 : 0 ≤ r1) (hr : r1 ≤ r0) (hr0 : r0 ≤ 120000) :
    Calls Try.prog 78 #[.agg #[.int .i64 x0, .int .i64 r0], .agg #[.int .i64 x1, .int .i64 r1], .int .i64 s] w fun e w' => e = .returned (.int .i64 (btD x0 r0 x1 r1 s)) ∧ Below w.heap.size w w' := by
  obtain ⟨q0, q1⟩ := half_bd (D := r0 - r1) (E := x1 - s) (L := x1 - x0) (by omega) (by omega) (by omega) (by omega)
  have P : 0 ≤ (r0 - r1) * (x1 - s) := Int.mul_nonneg (by omega) (by omega)
  have P1 : (r0 - r1) * (x1 - s) ≤ 120000 * 10000 := Int.mul_le_mul (by omega) (by omega) (by omega) (by omega)
  have P2 : 0 ≤ r1 * (x1 - x0) := Int.mul_nonneg (by omega) (by omega)
  have P3 : r1 * (x1 - x0) ≤ 120000 * 10000 := Int.mul_le_mul (by omega) (by omega) (by omega) (by omega)
  have P4 : 0 ≤ r0 * (x1 - x0) := Int.mul_nonneg (by omega) (by omega)
  have P5 : r0 * (x1 - x0) ≤ 120000 * 10000 := Int.mul_le_mul (by omega) (by omega) (by omega) (by omega)
  have id : r0 * (x1 - x0) + (r1 - r0) * (s - x0) = r1 * (x1 - x0) + (r0 - r1) * (x1 - s) := by grind
  have ln := btD_line (r0 := r0) (r1 := r1) (s := s) hx
  have bb := btD_bd hx hs0 hs1 hr
  generalize btD x0 r0 x1 r1 s = V at *
  have w1 : IntKind.i64.wrap (x1 - x0) = x1 - x0 := wrap_in _ ⟨by omega, by omega⟩
  have w2 : IntKind.i64.wrap (r1 - r0) = r1 - r0 := wrap_in _ ⟨by omega, by omega⟩
  have w3 : IntKind.i64.wrap (s - x0) = s - x0 := wrap_in _ ⟨by omega, by omega⟩
  have w4 : IntKind.i64.wrap (r0 * (x1 - x0)) = r0 * (x1 - x0) := wrap_in _ ⟨by omega, by omega⟩
  have w5 : IntKind.i64.wrap ((r1 - r0) * (s - x0)) = (r1 - r0) * (s - x0) := wrap_in _ ⟨by omega, by omega⟩
  have w6 : IntKind.i64.wrap (r0 * (x1 - x0) + (r1 - r0) * (s - x0)) = r0 * (x1 - x0) + (r1 - r0) * (s - x0) := wrap_in _ ⟨by omega, by omega⟩
  have w7 : IntKind.i64.wrap (2 * (r0 * (x1 - x0) + (r1 - r0) * (s - x0))) = 2 * (r0 * (x1 - x0) + (r1 - r0) * (s - x0)) := wrap_in _ ⟨by omega, by omega⟩
  have w8 : IntKind.i64.wrap (2 * (r0 * (x1 - x0) + (r1 - r0) * (s - x0)) + (x1 - x0)) = 2 * (r0 * (x1 - x0) + (r1 - r0) * (s - x0)) + (x1 - x0) := wrap_in _ ⟨by omega, by omega⟩
  have w9 : IntKind.i64.wrap (2 * (x1 - x0)) = 2 * (x1 - x0) := wrap_in _ ⟨by omega, by omega⟩
  have nz : ¬ 2 * (x1 - x0) = 0 := by omega
  have nz2 : (2 * (x1 - x0) == 0) = false := by rw [beq_eq_false_iff_ne]; exact nz
  have nz3 : (x1 - x0 == 0) = false := by rw [beq_eq_false_iff_ne]; omega
  have nz4 : ¬ x1 - x0 = 0 := by omega
  have w10 : IntKind.i64.wrap ((2 * (r0 * (x1 - x0) + (r1 - r0) * (s - x0)) + (x1 - x0)).tdiv (2 * (x1 - x0))) = V := by
    rw [Int.tdiv_eq_ediv_of_nonneg (by omega), ln]; exact wrap_in _ ⟨by omega, by omega⟩
  have X := Lib.hid (bel_alloc (w := w) (o := .cells #[.int .i64 x0, .int .i64 r0] 42) (bel_alloc (o := .cells #[.int .i64 x1, .int .i64 r1] 42) (Below.refl _ _)))
  replace id := Lib.hid id
  have ln := Lib.hid ln
  go_enter Try.func78, Try.ntmps78
  go_wp2
  go_returns
  refine ⟨?_, X.out⟩
  first
    | rfl
    | (show Ending.returned (.int .i64 ((2 * (r0 * (x1 - x0) + (r1 - r0) * (s - x0)) + (x1 - x0)) / (2 * (x1 - x0)))) = _; rw [ln.out])
theorem rc_place {l : List (Int × Int)} (h : DR l) {s : Int} (h0 : 0 ≤ s) (h1 : s ≤ 10000) :
    ∃ k : Nat, (rcN l (s + 1) : Int) - 1 = k ∧ k < l.length ∧ gX l k ≤ s ∧ (gX l k ≠ s → k + 1 < l.length ∧ s ≤ gX l (k + 1)) := by
  obtain ⟨a, b, c⟩ := rcN_spec h (s + 1)
  have p := rcN_pos h h0
  refine ⟨rcN l (s + 1) - 1, by omega, by omega, ?_, fun ne => ?_⟩
  · have := b (rcN l (s + 1) - 1) (by omega); omega
  · have le := b (rcN l (s + 1) - 1) (by omega)
    have lt : rcN l (s + 1) < l.length := by
      rcases Nat.lt_or_ge (rcN l (s + 1)) l.length with q | q
      · exact q
      · have t := h.t
        rw [show rcN l (s + 1) - 1 = l.length - 1 by omega] at le ne
        omega
    have := c (rcN l (s + 1)) (Nat.le_refl _) lt
    rw [show rcN l (s + 1) - 1 + 1 = rcN l (s + 1) by omega]
    exact ⟨lt, by omega⟩
set_option maxHeartbeats 8000000 in
set_option maxRecDepth 100000 in
theorem rfAt_any (v : Value) (l : List (Int × Int)) (x : Int) (w : World) (hv : Pts w v l) (h : DR l) (h0 : 0 ≤ x) (h1 : x ≤ 10000) :
    Calls Try.prog 52 #[v, .int .i64 x] w fun e w' => e = .returned (.int .i64 (atD l x)) ∧ Below w.heap.size w w' := by
  have n0 := h.n0
  have n1 := h.n1
  have HI := Lib.hid (rnAt_any v l x w hv h h0)
  obtain ⟨k, ek, kl, k1, k2⟩ := rc_place h h0 h1
  rw [ek] at HI
  obtain ⟨a, cap, rfl, hl, hh⟩ := hv
  rcases hh with hh | ⟨b, off, rfl, hb, hc⟩
  · omega
  have HC0 : Hid (∀ W, Below w.heap.size w W → W.cell? ⟨b, off + k * 2, none⟩ = some (.int .i64 (gX l k)) ∧ W.cell? ⟨b, off + k * 2 + 1, none⟩ = some (.int .i64 (gR l k))) := Lib.hid fun W hW => ⟨cell_bel (hc k kl).1 hW, cell_bel (hc k kl).2 hW⟩
  have l0 : (k : Int) < (l.length : Int) := by omega
  by_cases ne : gX l k = x
  · have ed : atD l x = gR l k := by rw [← ne]; exact atD_row h kl
    have e1 : (gX l k == x) = true := by rw [beq_iff_eq]; exact ne
    rw [ed]
    clear hc ek k2 ed ne
    generalize gX l k = x0 at *
    generalize gR l k = r0 at *
    generalize l.length = n at *
    go_enter Try.func52, Try.ntmps52
    go_wp2_with fail
    refine HI.out.mono ?_
    rintro e w1 ⟨rfl, gg⟩
    have X := Lib.hid gg; clear gg
    obtain ⟨c0, c1⟩ := HC0.out _ X.out
    go_wp2
    go_returns
    exact ⟨rfl, X.out⟩
  · obtain ⟨k3, k4⟩ := k2 ne
    have ed := atD_eq h k3 k1 k4
    have e1 : (gX l k == x) = false := by rw [beq_eq_false_iff_ne]; exact ne
    have l1 : ((k + 1 : Nat) : Int) < (l.length : Int) := by omega
    have wk : IntKind.i64.wrap ((k : Int) + 1) = ((k + 1 : Nat) : Int) := by rw [wrap_in _ ⟨by omega, by omega⟩]; omega
    have HC1 : Hid (∀ W, Below w.heap.size w W → W.cell? ⟨b, off + (k + 1) * 2, none⟩ = some (.int .i64 (gX l (k + 1))) ∧ W.cell? ⟨b, off + (k + 1) * 2 + 1, none⟩ = some (.int .i64 (gR l (k + 1)))) := Lib.hid fun W hW => ⟨cell_bel (hc (k + 1) k3).1 hW, cell_bel (hc (k + 1) k3).2 hW⟩
    have bt := fun W => rfLn_any (gX l k) (gR l k) (gX l (k + 1)) (gR l (k + 1)) x W (h.b k kl).1 (h.lt (by omega) k3) (h.b _ k3).2.1 k1 k4 (by have := (h.b _ k3).2.2.1; omega) (h.ge (by omega) k3) (h.b _ kl).2.2.2
    rw [← ed] at bt
    replace bt := Lib.hid bt
    clear hc ek k2 ed ne k4 k1
    generalize atD l x = V at *
    generalize gX l k = x0 at *
    generalize gR l k = r0 at *
    generalize gX l (k + 1) = x1 at *
    generalize gR l (k + 1) = r1 at *
    generalize l.length = n at *
    generalize hk1 : k + 1 = k1 at *
    go_enter Try.func52, Try.ntmps52
    go_wp2_with fail
    refine HI.out.mono ?_
    rintro e w1 ⟨rfl, gg⟩
    have X := Lib.hid gg; clear gg
    obtain ⟨c0, c1⟩ := HC0.out _ X.out
    obtain ⟨f0, f1⟩ := HC1.out _ X.out
    go_wp2_with fail
    go_still_tail 10, (by kernel_rfl)
    change wpList _ _ _ _ _ w1.drew
    replace X := Lib.hid (bel_trans X.out (bel_drew w1))
    generalize w1.drew = wq at *
    go_wp2_with fail
    refine (bt.out _).mono ?_
    rintro e w2 ⟨rfl, gg⟩
    replace X := Lib.hid (bel_trans X.out gg); clear gg
    go_wp2
    go_returns
    exact ⟨rfl, X.out⟩
end Go.Proofs.Ytadkhhkoankhnaa

/- The reference of layer 20. -/
namespace Go.Proofs.Ytadkhhkoankhnaa
open Go.RowKit

set_option maxHeartbeats 16000000 in
set_option maxRecDepth 100000 in
theorem rlChk_any (v : Value) (l : List (Int × Int)) (A M : Int) (w : World) (hv : Pts w v l) :
    Calls Try.prog 37 #[v, .agg #[.int .i64 A, .int .i64 M]] w fun e w' => e = .returned (.int .i64 (alE l A M)) ∧ Below w.heap.size w w' := by
  have HR := Lib.hid (fun W (hW : Below w.heap.size w W) => rnRt_any v l W (hv.below hW))
  have T0 := Lib.hid (Two.new w (.int .i64 A) (.int .i64 M) 47)
  have X0 := Lib.hid (bel_alloc (w := w) (o := .cells #[.int .i64 A, .int .i64 M] 47) (Below.refl _ _))
  by_cases he : dnE l = 0
  · have hD := dnE_zero.1 he
    rw [show (dnE l == 0) = true by simpa using he] at HR
    by_cases ho : 0 ≤ A ∧ A ≤ 10737418240000 ∧ 0 ≤ M ∧ M ≤ 128849018880000
    · have HC := Lib.hid (fun W (hW : Below w.heap.size w W) => rfAt_any v l 10000 W (hv.below hW) hD (by omega) (by omega))
      have ee : alE l A M = if M * 10000 < A * atD l 10000 then 10 else 0 := by unfold alE; rw [if_neg (by omega), if_pos ho]
      have bd := (atD_bd hD (s := 10000) (by omega) (by omega)).2.2
      have p1 : 0 ≤ A * atD l 10000 := Int.mul_nonneg ho.1 (by omega)
      have p2 : A * atD l 10000 ≤ 10737418240000 * 120000 := Int.mul_le_mul ho.2.1 bd.2 (by omega) (by omega)
      rw [ee]
      generalize atD l 10000 = d at *
      have wa : IntKind.i64.wrap (A * d) = A * d := wrap_in _ ⟨by omega, by omega⟩
      have wm : IntKind.i64.wrap (M * 10000) = M * 10000 := wrap_in _ ⟨by omega, by omega⟩
      have d1 : decide (A < 0) = false := decide_eq_false (by omega)
      have d2 : decide (10737418240000 < A) = false := decide_eq_false (by omega)
      have d3 : decide (M < 0) = false := decide_eq_false (by omega)
      have d4 : decide (128849018880000 < M) = false := decide_eq_false (by omega)
      clear ee
      by_cases hc : M * 10000 < A * d
      · rw [if_pos hc]
        have dc : decide (M * 10000 < A * d) = true := decide_eq_true hc
        go_enter Try.func37, Try.ntmps37
        go_wp2_with fail
        refine (HR.out _ X0.out).mono ?_
        rintro e w1 ⟨rfl, gg⟩
        replace T0 := Lib.hid (T0.out.below gg)
        have X := Lib.hid (bel_trans X0.out gg); clear gg
        obtain ⟨t0, t1, _, _, _⟩ := T0.out
        go_upto_region 5 with fail
        replace T0 := Lib.hid (T0.out.below (bel_drew w1))
        replace X := Lib.hid (bel_trans X.out (bel_drew w1))
        obtain ⟨t0, t1, _, _, _⟩ := T0.out
        go_region_held3 (fun w' => w'.cell? ⟨w.heap.size, 0, none⟩ = some (.int .i64 A) ∧ w'.cell? ⟨w.heap.size, 1, none⟩ = some (.int .i64 M)) (go_keep) (first
          | (go_at_call 52; (with_reducible refine (HC.out _ X.out).mono ?_); rintro e w3 ⟨rfl, gg⟩; replace T0 := Lib.hid (T0.out.below gg); replace X := Lib.hid (bel_trans X.out gg); obtain ⟨t0, t1, _, _, _⟩ := T0.out; clear gg))
        all_goals go_wp2
        all_goals go_returns
        all_goals exact ⟨rfl, X.out⟩
      · rw [if_neg hc]
        have dc : decide (M * 10000 < A * d) = false := decide_eq_false hc
        go_enter Try.func37, Try.ntmps37
        go_wp2_with fail
        refine (HR.out _ X0.out).mono ?_
        rintro e w1 ⟨rfl, gg⟩
        replace T0 := Lib.hid (T0.out.below gg)
        have X := Lib.hid (bel_trans X0.out gg); clear gg
        obtain ⟨t0, t1, _, _, _⟩ := T0.out
        go_upto_region 5 with fail
        replace T0 := Lib.hid (T0.out.below (bel_drew w1))
        replace X := Lib.hid (bel_trans X.out (bel_drew w1))
        obtain ⟨t0, t1, _, _, _⟩ := T0.out
        go_region_held3 (fun w' => w'.cell? ⟨w.heap.size, 0, none⟩ = some (.int .i64 A) ∧ w'.cell? ⟨w.heap.size, 1, none⟩ = some (.int .i64 M)) (go_keep) (first
          | (go_at_call 52; (with_reducible refine (HC.out _ X.out).mono ?_); rintro e w3 ⟨rfl, gg⟩; replace T0 := Lib.hid (T0.out.below gg); replace X := Lib.hid (bel_trans X.out gg); obtain ⟨t0, t1, _, _, _⟩ := T0.out; clear gg))
        all_goals go_wp2
        all_goals go_returns
        all_goals exact ⟨rfl, X.out⟩
    · have ee : alE l A M = 2 := by unfold alE; rw [if_neg (by omega), if_neg ho]
      rw [ee]
      by_cases g1 : A < 0
      · have d1 : decide (A < 0) = true := decide_eq_true g1
        go_enter Try.func37, Try.ntmps37
        go_wp2_with fail
        refine (HR.out _ X0.out).mono ?_
        rintro e w1 ⟨rfl, gg⟩
        replace T0 := Lib.hid (T0.out.below gg)
        have X := Lib.hid (bel_trans X0.out gg); clear gg
        obtain ⟨t0, t1, _, _, _⟩ := T0.out
        go_wp2
        go_returns
        exact ⟨rfl, X.out⟩
      have d1 : decide (A < 0) = false := decide_eq_false g1
      by_cases g2 : 10737418240000 < A
      · have d2 : decide (10737418240000 < A) = true := decide_eq_true g2
        go_enter Try.func37, Try.ntmps37
        go_wp2_with fail
        refine (HR.out _ X0.out).mono ?_
        rintro e w1 ⟨rfl, gg⟩
        replace T0 := Lib.hid (T0.out.below gg)
        have X := Lib.hid (bel_trans X0.out gg); clear gg
        obtain ⟨t0, t1, _, _, _⟩ := T0.out
        go_wp2
        go_returns
        exact ⟨rfl, X.out⟩
      have d2 : decide (10737418240000 < A) = false := decide_eq_false g2
      by_cases g3 : M < 0
      · have d3 : decide (M < 0) = true := decide_eq_true g3
        go_enter Try.func37, Try.ntmps37
        go_wp2_with fail
        refine (HR.out _ X0.out).mono ?_
        rintro e w1 ⟨rfl, gg⟩
        replace T0 := Lib.hid (T0.out.below gg)
        have X := Lib.hid (bel_trans X0.out gg); clear gg
        obtain ⟨t0, t1, _, _, _⟩ := T0.out
        go_wp2
        go_returns
        exact ⟨rfl, X.out⟩
      have d3 : decide (M < 0) = false := decide_eq_false g3
      have d4 : decide (128849018880000 < M) = true := decide_eq_true (by omega)
      go_enter Try.func37, Try.ntmps37
      go_wp2_with fail
      refine (HR.out _ X0.out).mono ?_
      rintro e w1 ⟨rfl, gg⟩
      replace T0 := Lib.hid (T0.out.below gg)
      have X := Lib.hid (bel_trans X0.out gg); clear gg
      obtain ⟨t0, t1, _, _, _⟩ := T0.out
      go_wp2
      go_returns
      exact ⟨rfl, X.out⟩
  · have ee : alE l A M = 1 := by unfold alE; rw [if_pos he]
    rw [ee]
    rw [show (dnE l == 0) = false by simpa using he] at HR
    go_enter Try.func37, Try.ntmps37
    go_wp2_with fail
    refine (HR.out _ X0.out).mono ?_
    rintro e w1 ⟨rfl, gg⟩
    have X := Lib.hid (bel_trans X0.out gg); clear gg
    go_wp2
    go_returns
    exact ⟨rfl, X.out⟩
set_option maxHeartbeats 8000000 in
theorem rlOf_any (v : Value) (l : List (Int × Int)) (x s : Int) (w : World) (hv : Pts w v l) :
    Calls Try.prog 35 #[v, .int .i64 x, .int .i64 s] w fun e w' => e = .returned (.tuple #[.agg #[.int .i64 (ofA l x s), .int .i64 (ofM l x s)], .int .i64 (ofE l x s)]) ∧ Below w.heap.size w w' := by
  have HR := Lib.hid (fun W (hW : Below w.heap.size w W) => rnRt_any v l W (hv.below hW))
  have T0 := Lib.hid (Two.new w (.int .i64 0) (.int .i64 0) 47)
  have X := Lib.hid (bel_alloc (w := w) (o := .cells #[.int .i64 0, .int .i64 0] 47) (Below.refl _ _))
  by_cases he : dnE l = 0
  · have hD := dnE_zero.1 he
    rw [show (dnE l == 0) = true by simpa using he] at HR
    by_cases g : (0 ≤ x ∧ x ≤ 1073741824) ∧ 0 ≤ s ∧ s ≤ 10000
    · obtain ⟨hx, hs⟩ := g
      have d1 : decide (x < 0) = false := decide_eq_false (by omega)
      have d2 : decide (1073741824 < x) = false := decide_eq_false (by omega)
      have d3 : decide (s < 0) = false := decide_eq_false (by omega)
      have d4 : decide (10000 < s) = false := decide_eq_false (by omega)
      have e0 : ofE l x s = 0 := ofE_zero.2 ⟨hD, hx, hs⟩
      have HA := Lib.hid (fun W (hW : Below w.heap.size w W) => rfAt_any v l s W (hv.below hW) hD (by omega) (by omega))
      have b := (atD_bd hD (s := s) (by omega) (by omega)).2.2
      rw [show ofA l x s = x * s by unfold ofA; rw [if_pos e0], show ofM l x s = x * atD l s by unfold ofM; rw [if_pos e0], e0]
      have p0 : 0 ≤ x * atD l s := Int.mul_nonneg hx.1 (by omega)
      have p1 : x * atD l s ≤ 1073741824 * 120000 := Int.mul_le_mul hx.2 b.2 (by omega) (by omega)
      have p2 : 0 ≤ x * s := Int.mul_nonneg hx.1 (by omega)
      have p3 : x * s ≤ 1073741824 * 10000 := Int.mul_le_mul hx.2 (by omega) (by omega) (by omega)
      generalize atD l s = D at *
      have w1 : IntKind.i64.wrap (x * D) = x * D := wrap_in _ ⟨by omega, by omega⟩
      have w2 : IntKind.i64.wrap (x * s) = x * s := wrap_in _ ⟨by omega, by omega⟩
      clear e0
      go_enter Try.func35, Try.ntmps35
      go_wp2_with fail
      refine (HR.out _ X.out).mono ?_
      rintro e w1 ⟨rfl, gg⟩
      replace T0 := Lib.hid (T0.out.below gg)
      replace X := Lib.hid (bel_trans X.out gg); clear gg
      go_wp2_with fail
      refine (HA.out _ X.out).mono ?_
      rintro e w3 ⟨rfl, gg⟩
      replace T0 := Lib.hid (T0.out.below gg)
      replace X := Lib.hid (bel_trans X.out gg); clear gg
      obtain ⟨z0, z1, f0, f1, hlt⟩ := T0.out
      go_wp2
      obtain ⟨t0, t1⟩ := two_read w3 w.heap.size (.int .i64 (x * s)) (.int .i64 (x * D)) z0 z1
      refine bodyPost_ret (v := .tuple #[.agg #[.int .i64 (x * s), .int .i64 (x * D)], .int .i64 0]) (by simp [results, Try.results35, go_sem, t0, t1]) rfl ?_
      exact ⟨rfl, (X.out.setCell (Nat.le_refl _) _).setCell (Nat.le_refl _) _⟩
    · have e0 : ofE l x s = 2 := by unfold ofE; rw [if_neg (by omega), if_neg g]
      rw [show ofA l x s = 0 by unfold ofA; rw [if_neg (by omega)], show ofM l x s = 0 by unfold ofM; rw [if_neg (by omega)], e0]
      have dd : (decide (x < 0) = true) ∨ (decide (x < 0) = false ∧ decide (1073741824 < x) = true) ∨ (decide (x < 0) = false ∧ decide (1073741824 < x) = false ∧ decide (s < 0) = true) ∨ (decide (x < 0) = false ∧ decide (1073741824 < x) = false ∧ decide (s < 0) = false ∧ decide (10000 < s) = true) := by
        simp only [decide_eq_true_eq, decide_eq_false_iff_not]; omega
      clear g e0
      rcases dd with d1 | ⟨d1, d2⟩ | ⟨d1, d2, d3⟩ | ⟨d1, d2, d3, d4⟩
      all_goals
        go_enter Try.func35, Try.ntmps35
        go_wp2_with fail
        refine (HR.out _ X.out).mono ?_
        rintro e w1 ⟨rfl, gg⟩
        replace T0 := Lib.hid (T0.out.below gg)
        replace X := Lib.hid (bel_trans X.out gg); clear gg
        obtain ⟨z0, z1, f0, f1, hlt⟩ := T0.out
        go_wp2
        obtain ⟨t0, t1⟩ := two_read w1 w.heap.size (.int .i64 0) (.int .i64 0) z0 z1
        refine bodyPost_ret (v := .tuple #[.agg #[.int .i64 0, .int .i64 0], .int .i64 2]) (by simp [results, Try.results35, go_sem, t0, t1]) rfl ?_
        exact ⟨rfl, (X.out.setCell (Nat.le_refl _) _).setCell (Nat.le_refl _) _⟩
  · rw [show (dnE l == 0) = false by simpa using he] at HR
    have e0 : ofE l x s = 1 := by unfold ofE; rw [if_pos he]
    rw [show ofA l x s = 0 by unfold ofA; rw [if_neg (by omega)], show ofM l x s = 0 by unfold ofM; rw [if_neg (by omega)], e0]
    go_enter Try.func35, Try.ntmps35
    go_wp2_with fail
    refine (HR.out _ X.out).mono ?_
    rintro e w1 ⟨rfl, gg⟩
    replace T0 := Lib.hid (T0.out.below gg)
    replace X := Lib.hid (bel_trans X.out gg); clear gg
    obtain ⟨z0, z1, f0, f1, hlt⟩ := T0.out
    go_wp2
    obtain ⟨t0, t1⟩ := two_read w1 w.heap.size (.int .i64 0) (.int .i64 0) z0 z1
    refine bodyPost_ret (v := .tuple #[.agg #[.int .i64 0, .int .i64 0], .int .i64 1]) (by simp [results, Try.results35, go_sem, t0, t1]) rfl ?_
    exact ⟨rfl, (X.out.setCell (Nat.le_refl _) _).setCell (Nat.le_refl _) _⟩
set_option maxHeartbeats 16000000 in
set_option maxRecDepth 100000 in
theorem rlGr_any (v : Value) (l : List (Int × Int)) (A M : Int) (w : World) (hv : Pts w v l) (hD : DR l) (hL : LR l A M) :
    Calls Try.prog 68 #[v, .agg #[.int .i64 A, .int .i64 M]] w fun e w' => e = .returned (.int .i64 (sgN l A M : Nat)) ∧ Below w.heap.size w w' := by
  have T0 := Lib.hid (Two.new w (.int .i64 A) (.int .i64 M) 47)
  have X := Lib.hid (bel_alloc (w := w) (o := .cells #[.int .i64 A, .int .i64 M] 47) (Below.refl _ _))
  obtain ⟨t0, t1, _, _, _⟩ := T0.out
  by_cases z : M = 0
  · have e1 := hL.zero hD z
    subst z e1
    rw [sgN_dry]
    go_enter Try.func68, Try.ntmps68
    go_wp2
    go_returns
    exact ⟨rfl, X.out⟩
  · have dz : (M == 0) = false := by rw [beq_eq_false_iff_ne]; exact z
    have le := sgN_le l A M
    have HI := Lib.hid (fun (m : Nat) (hm : m ≤ 10000) => sgN_iff hD hL z (s := (m : Int)) (by omega) (by omega))
    have HA := Lib.hid (fun (m : Nat) (hm : m ≤ 10000) W (hW : Below w.heap.size w W) => rfAt_any v l m W (hv.below hW) hD (by omega) (by omega))
    have HP := Lib.hid (fun (m : Nat) (hm : m ≤ 10000) => show (0 ≤ A * atD l m ∧ A * atD l m ≤ 2000000000000000000) ∧ (0 ≤ M * (m : Int) ∧ M * (m : Int) ≤ 2000000000000000000) by
      have b := (atD_bd hD (s := (m : Int)) (by omega) (by omega)).2.2
      have p0 : 0 ≤ A * atD l m := Int.mul_nonneg hL.a0 (by omega)
      have p1 : A * atD l m ≤ 10737418240000 * 120000 := Int.mul_le_mul hL.a1 b.2 (by omega) (by omega)
      have p2 : 0 ≤ M * (m : Int) := Int.mul_nonneg hL.m0 (by omega)
      have p3 : M * (m : Int) ≤ 128849018880000 * 10000 := Int.mul_le_mul hL.m1 (by omega) (by omega) (by omega)
      exact ⟨⟨p0, by omega⟩, p2, by omega⟩)
    clear z hL hD hv
    generalize sgN l A M = S at *
    go_enter Try.func68, Try.ntmps68
    go_wp2_with fail
    go_loopw [5, 6] (fun s5 s6 wr => ∃ lo hi : Nat, s5 = .int .i64 lo ∧ s6 = .int .i64 hi ∧ lo ≤ S ∧ S ≤ hi ∧ hi ≤ 10000 ∧ Hid (Below w.heap.size w wr ∧ Two w.heap.size wr (.int .i64 A) (.int .i64 M))) (fun s5 s6 _ => (intOf s6).toNat - (intOf s5).toNat)
    case atStart => exact ⟨0, 10000, rfl, rfl, Nat.zero_le _, le, Nat.le_refl _, X.out, T0.out⟩
    case round =>
      obtain ⟨lo, hi, rfl, rfl, h1, h2, h3, hB⟩ := hrel
      clear T0 X t0 t1
      obtain ⟨t0, t1, _, _, _⟩ := hB.out.2
      by_cases hlt : lo < hi
      · obtain ⟨m, hm⟩ : ∃ m : Nat, m = (lo + hi + 1) / 2 := ⟨_, rfl⟩
        have m1 : lo < m := by omega
        have m2 : m ≤ hi := by omega
        have l0 : (lo : Int) < (hi : Int) := by omega
        have em : ((lo : Int) + (hi : Int) + 1) / 2 = (m : Int) := by omega
        have HM := Lib.hid (HI.out m (by omega))
        have HC := Lib.hid (HA.out m (by omega))
        obtain ⟨⟨p0, p1⟩, p2, p3⟩ := HP.out m (by omega)
        generalize atD l (m : Int) = D at *
        have wa : IntKind.i64.wrap (A * D) = A * D := wrap_in _ ⟨by omega, by omega⟩
        have wb : IntKind.i64.wrap (M * (m : Int)) = M * (m : Int) := wrap_in _ ⟨by omega, by omega⟩
        replace hm := Lib.hid hm
        replace m1 := Lib.hid m1
        replace m2 := Lib.hid m2
        by_cases q : M * (m : Int) ≤ A * D
        · have dq : decide (M * (m : Int) ≤ A * D) = true := decide_eq_true q
          have k := Lib.hid (HM.out.1 q)
          replace h1 := Lib.hid h1
          replace h2 := Lib.hid h2
          clear HM q
          go_upto_region 6 with fail
          rw [em]
          replace hB := Lib.hid (show Below w.heap.size w wr.drew ∧ Two w.heap.size wr.drew (.int .i64 A) (.int .i64 M) from ⟨bel_trans hB.out.1 (bel_drew wr), hB.out.2.below (bel_drew wr)⟩)
          obtain ⟨t0, t1, _, _, _⟩ := hB.out.2
          go_region_held3 (fun w' => w'.cell? ⟨w.heap.size, 0, none⟩ = some (.int .i64 A) ∧ w'.cell? ⟨w.heap.size, 1, none⟩ = some (.int .i64 M)) (go_keep) (first
            | (go_at_call 52; (with_reducible refine (HC.out _ hB.out.1).mono ?_); rintro e w3 ⟨rfl, gg⟩; replace hB := Lib.hid (show Below w.heap.size w w3 ∧ Two w.heap.size w3 (.int .i64 A) (.int .i64 M) from ⟨bel_trans hB.out.1 gg, hB.out.2.below gg⟩); obtain ⟨t0, t1, _, _, _⟩ := hB.out.2; clear gg))
          all_goals
            go_wp2
            go_roundw
            case rel => exact ⟨m, hi, rfl, rfl, by have := k.out; omega, h2.out, h3, hB⟩
            case measure => have := m1.out; have := m2.out; simp [intOf]; omega
        · have dq : decide (M * (m : Int) ≤ A * D) = false := decide_eq_false q
          have k : Hid (S < m) := Lib.hid (by
            rcases Nat.lt_or_ge S m with g | g
            · exact g
            · exact absurd (HM.out.2 (by omega)) q)
          replace h1 := Lib.hid h1
          replace h2 := Lib.hid h2
          clear HM q
          go_upto_region 6 with fail
          rw [em]
          replace hB := Lib.hid (show Below w.heap.size w wr.drew ∧ Two w.heap.size wr.drew (.int .i64 A) (.int .i64 M) from ⟨bel_trans hB.out.1 (bel_drew wr), hB.out.2.below (bel_drew wr)⟩)
          obtain ⟨t0, t1, _, _, _⟩ := hB.out.2
          go_region_held3 (fun w' => w'.cell? ⟨w.heap.size, 0, none⟩ = some (.int .i64 A) ∧ w'.cell? ⟨w.heap.size, 1, none⟩ = some (.int .i64 M)) (go_keep) (first
            | (go_at_call 52; (with_reducible refine (HC.out _ hB.out.1).mono ?_); rintro e w3 ⟨rfl, gg⟩; replace hB := Lib.hid (show Below w.heap.size w w3 ∧ Two w.heap.size w3 (.int .i64 A) (.int .i64 M) from ⟨bel_trans hB.out.1 gg, hB.out.2.below gg⟩); obtain ⟨t0, t1, _, _, _⟩ := hB.out.2; clear gg))
          all_goals
            go_wp2
            go_roundw
            case rel => exact ⟨lo, m - 1, rfl, by have := m1.out; go_num, h1.out, by have := k.out; omega, by have := m2.out; omega, hB⟩
            case measure => have := m1.out; have := m2.out; simp [intOf]; omega
      · obtain rfl : lo = hi := by omega
        obtain rfl : lo = S := by omega
        go_wp2
        go_returns
        exact ⟨rfl, hB.out.1⟩
end Go.Proofs.Ytadkhhkoankhnaa
