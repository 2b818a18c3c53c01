/- Texts that the proofs of this seat share, one behind the other: Kit, Two, PPL0, DPA, CB0, DPB, DPC, DPD, DPE, RDA, RDB, RDC, RDD, RDE, RXE, CPW, PM, LB0, PPM, PRA, PRB, Txt. -/
import Derived.Test.YtdjlainhaoaeiaaDoorProg
import Derived.Test.YtdjlainhaoaeiaaDoorRows
import Derived.Test.YtdjlainhaoaeiaaDoorShelf
import Derived.WalkKit
import Derived.Handy
import Derived.Lib.Hide
import Derived.Lib.LaidTab
import Derived.Lib.LaidU8
import Derived.Lib.ItoaNum
import Derived.Outline
import Derived.Deep.DeepCutAuto
import Derived.Deep.CutBlock
import Derived.Deep.QuietTactic
import Derived.BigQuiet
import Derived.Lib.OwnBridge
import Derived.OwnWalk
import Derived.Shelf.SlicesQ.Reverse
import Derived.Ground.SlgnProg
import Derived.FnLit
import Derived.RangeFuncBox
import Derived.StillTailTactics
import Derived.Deep.RegionHeld3
import Derived.Deep.RegionLaw
import Derived.Maps.AppendAt
import Derived.Shelf.Strings.BuilderK
import Derived.Test.YtdjlainhaoaeiaaDoorShelfW

set_option linter.unusedVariables false
set_option linter.unusedSimpArgs false

/- What every text of this seat needs: worlds that only grow, the listed variables. -/
namespace Go.Proofs.YtdjlainhaoaeiaaDoor
open Go.RowKit

theorem bel_alloc {w w' : World} {o : Obj} (h : Below (w.alloc o).heap.size (w.alloc o) w') : Below w.heap.size w w' :=
  ((Below.refl _ _).alloc (Nat.le_refl _) o).trans (h.mono (by simp))
theorem bel_trans {w w1 w2 : World} (h : Below w.heap.size w w1) (h2 : Below w1.heap.size w1 w2) : Below w.heap.size w w2 := h.trans (h2.mono h.size)
theorem bel_drewN (w : World) (n : Nat) : Below w.heap.size w (w.drewN n) := ⟨rfl, rfl, rfl, Nat.le_refl _, fun _ _ => rfl⟩
theorem bel_drew (w : World) : Below w.heap.size w w.drew := ⟨rfl, rfl, rfl, Nat.le_refl _, fun _ _ => rfl⟩
theorem bcell {W w1 : World} (hb : Below W.heap.size W w1) : (∀ b o, b < W.heap.size → w1.cell? ⟨b, o, none⟩ = W.cell? ⟨b, o, none⟩) ∧ (∀ b o, b < W.heap.size → w1.frozen? ⟨b, o, none⟩ = W.frozen? ⟨b, o, none⟩) :=
  ⟨fun b o h => hb.cell (p := ⟨b, o, none⟩) h, fun b o h => hb.frozen (p := ⟨b, o, none⟩) h⟩

theorem var_keep {P : Program} {w w' : World} {n : String} (g : Nat) (hg : P.globalNamed n = some g) (hlt : g < w.heap.size) (hb : Below w.heap.size w w') : w'.var? P n = w.var? P n := by
  simp only [World.var?, hg, Option.bind_some]
  rw [hb.block g hlt]
theorem tab_keep {P : Program} {w w' : World} {n : String} {k : IntKind} {zs : List Int} (g : Nat) (hg : P.globalNamed n = some g) (hz : 0 < zs.length) (h : Lib.TabIs P w n k zs) (hb : Below w.heap.size w w') : Lib.TabIs P w' n k zs := by
  unfold Lib.TabIs at *
  rw [var_keep g hg ?_ hb, h]
  have := Lib.TabIs.cell (P := P) (W := w) h hg 0 hz
  exact World.block_lt_of_cell? w ⟨g, 0, none⟩ this

/-- a listed table of integers -/
theorem tab_of {P : Program} {W : World} {l : List (String × DataW Unit)} {name : String} {d : DataW Unit} {k : IntKind} {zs : List Int} {g : Nat} {t e : TypeId} {n : Nat}
    (h : laidMet P l W) (hm : (name, d) ∈ l) (hd : d = Lib.tabData k zs)
    (hg : P.globalNamed name = some g) (hty : (P.globals[g]?).map (·.type) = some t) (ht : P.underlying t = some (.array n e)) (he : P.underlying e = some (.int k)) (hce : P.cellsOf e = 1) (hct : P.cellsOf t = n) : Lib.TabIs P W name k zs := by
  subst hd
  obtain ⟨g', t', cs, fuel, p, hg', ht', hvar, hr⟩ := Lib.laidMet.reads h hm
  obtain rfl := Option.some.inj (hg.symm.trans hg')
  obtain rfl := Option.some.inj (hty.symm.trans ht')
  unfold Lib.TabIs
  rw [hvar, ← Lib.cells_of_tab ht he hce hct hr]

theorem wrap_wrap_add (a b : Int) : IntKind.i64.wrap (IntKind.i64.wrap a + b) = IntKind.i64.wrap (a + b) := by simp only [IntKind.wrap_i64]; omega
theorem wrap_wrap_sub (a b : Int) : IntKind.i64.wrap (IntKind.i64.wrap a - b) = IntKind.i64.wrap (a - b) := by simp only [IntKind.wrap_i64]; omega
theorem wrap_add_wrap (a b : Int) : IntKind.i64.wrap (a + IntKind.i64.wrap b) = IntKind.i64.wrap (a + b) := by simp only [IntKind.wrap_i64]; omega
theorem wrap_sub_wrap (a b : Int) : IntKind.i64.wrap (a - IntKind.i64.wrap b) = IntKind.i64.wrap (a - b) := by simp only [IntKind.wrap_i64]; omega
theorem wrap_bd (a : Int) : -9223372036854775808 ≤ IntKind.i64.wrap a ∧ IntKind.i64.wrap a ≤ 9223372036854775807 := by simp only [IntKind.wrap_i64]; omega
theorem wrap_in (a : Int) (h : -9223372036854775808 ≤ a ∧ a ≤ 9223372036854775807) : IntKind.i64.wrap a = a := by simp only [IntKind.wrap_i64]; omega

theorem ret_int {k : IntKind} {a b : Int} (h : a = b) : Ending.returned (.int k a) = .returned (.int k b) := by rw [h]
theorem ret_bool {a b : Bool} (h : a = b) : Ending.returned (.bool a) = .returned (.bool b) := by rw [h]
end Go.Proofs.YtdjlainhaoaeiaaDoor

/- A block with two cells. -/
namespace Go.Proofs.YtdjlainhaoaeiaaDoor
open Go.RowKit

def Two (b : Nat) (W : World) (x y : Value) : Prop := W.cell? ⟨b, 0, none⟩ = some x ∧ W.cell? ⟨b, 1, none⟩ = some y ∧ W.frozen? ⟨b, 0, none⟩ = false ∧ W.frozen? ⟨b, 1, none⟩ = false ∧ b < W.heap.size
theorem Two.below {b : Nat} {W W' : World} {x y : Value} (h : Two b W x y) (hb : Below W.heap.size W W') : Two b W' x y := by
  obtain ⟨h0, h1, h2, h3, h4⟩ := h
  exact ⟨by rw [(bcell hb).1 _ _ h4]; exact h0, by rw [(bcell hb).1 _ _ h4]; exact h1, by rw [(bcell hb).2 _ _ h4]; exact h2, by rw [(bcell hb).2 _ _ h4]; exact h3, Nat.lt_of_lt_of_le h4 hb.size⟩
theorem Two.alloc {b : Nat} {W : World} {x y : Value} (h : Two b W x y) (o : Obj) : Two b (W.alloc o) x y := h.below (bel_alloc (Below.refl _ _))
theorem Two.new (W : World) (x y : Value) (T : TypeId) : Two W.heap.size (W.alloc (.cells #[x, y] T)) x y := ⟨by simp [go_sem], by simp [go_sem], by simp [go_sem], by simp [go_sem], by simp⟩
theorem two_read (w : World) (b : Nat) (u v : Value) {a c : Value} (h0 : w.cell? ⟨b, 0, none⟩ = some a) (h1 : w.cell? ⟨b, 1, none⟩ = some c) :
    ((w.setCell ⟨b, 0, none⟩ u).setCell ⟨b, 1, none⟩ v).cell? ⟨b, 0, none⟩ = some u ∧ ((w.setCell ⟨b, 0, none⟩ u).setCell ⟨b, 1, none⟩ v).cell? ⟨b, 1, none⟩ = some v := by
  refine ⟨?_, ?_⟩
  · rw [World.cell?_setCell_other _ _ _ _ (by simp), World.cell?_setCell_same _ _ _ h0]
  · rw [World.cell?_setCell_same (u := c)]
    rw [World.cell?_setCell_other _ _ _ _ (by simp), h1]
theorem Two.set1 {b : Nat} {W : World} {x y : Value} (h : Two b W x y) (z : Value) : Two b (W.setCell ⟨b, 1, none⟩ z) x z := by
  obtain ⟨h0, h1, h2, h3, h4⟩ := h
  refine ⟨?_, ?_, ?_, ?_, ?_⟩
  · rw [World.cell?_setCell_other _ _ _ _ (by simp)]; exact h0
  · exact World.cell?_setCell_same _ _ _ h1
  · rw [World.frozen?_setCell]; exact h2
  · rw [World.frozen?_setCell]; exact h3
  · simpa [World.setCell] using h4
theorem Two.other {b : Nat} {W : World} {x y : Value} (h : Two b W x y) (p : Addr) (hp : p.block ≠ b) (z : Value) : Two b (W.setCell p z) x y := by
  obtain ⟨h0, h1, h2, h3, h4⟩ := h
  refine ⟨?_, ?_, ?_, ?_, ?_⟩
  · rw [World.cell?_setCell_other _ _ _ _ (by intro e; apply hp; rw [e])]; exact h0
  · rw [World.cell?_setCell_other _ _ _ _ (by intro e; apply hp; rw [e])]; exact h1
  · rw [World.frozen?_setCell]; exact h2
  · rw [World.frozen?_setCell]; exact h3
  · simpa [World.setCell] using h4
theorem Two.set0 {b : Nat} {W : World} {x y : Value} (h : Two b W x y) (z : Value) : Two b (W.setCell ⟨b, 0, none⟩ z) z y := by
  obtain ⟨h0, h1, h2, h3, h4⟩ := h
  refine ⟨?_, ?_, ?_, ?_, ?_⟩
  · exact World.cell?_setCell_same _ _ _ h0
  · rw [World.cell?_setCell_other _ _ _ _ (by simp)]; exact h1
  · rw [World.frozen?_setCell]; exact h2
  · rw [World.frozen?_setCell]; exact h3
  · simpa [World.setCell] using h4
end Go.Proofs.YtdjlainhaoaeiaaDoor

/- Slices that read as lists of points; comparisons. -/
namespace Go.Proofs.YtdjlainhaoaeiaaDoor
open Go.RowKit Go.Sort

/-- the point at a place of a list -/
def gX (l : List (Int × Int)) (j : Nat) : Int := (l.getD j (0, 0)).1
def gR (l : List (Int × Int)) (j : Nat) : Int := (l.getD j (0, 0)).2

/-- a value is a slice that reads as a list of points -/
def Pts (w : World) (v : Value) (l : List (Int × Int)) : Prop :=
  ∃ a cap, v = .slice a l.length cap ∧ (l.length ≤ cap ∧ cap ≤ 9223372036854775807) ∧
    (l.length = 0 ∨ ∃ b off, a = some ⟨b, off, none⟩ ∧ b < w.heap.size ∧ ∀ j, j < l.length → w.cell? ⟨b, off + j * 2, none⟩ = some (.int .i64 (gX l j)) ∧ w.cell? ⟨b, off + j * 2 + 1, none⟩ = some (.int .i64 (gR l j)))
theorem Pts.below {w w' : World} {v : Value} {l : List (Int × Int)} (h : Pts w v l) (hb : Below w.heap.size w w') : Pts w' v l := by
  obtain ⟨a, cap, rfl, hl, h | ⟨b, off, rfl, hlt, hc⟩⟩ := h
  · exact ⟨a, cap, rfl, hl, .inl h⟩
  · exact ⟨_, cap, rfl, hl, .inr ⟨b, off, rfl, Nat.lt_of_lt_of_le hlt hb.size, fun j hj => by rw [(bcell hb).1 _ _ hlt, (bcell hb).1 _ _ hlt]; exact hc j hj⟩⟩
theorem Pts.alloc {w : World} {v : Value} {l : List (Int × Int)} (h : Pts w v l) (o : Obj) : Pts (w.alloc o) v l := h.below (bel_alloc (Below.refl _ _))
theorem Pts.shape {W : World} {v : Value} {l : List (Int × Int)} (h : Pts W v l) : ∃ a cap, v = .slice a l.length cap ∧ l.length ≤ cap ∧ cap ≤ 9223372036854775807 := by
  obtain ⟨a, cap, e, ⟨h1, h2⟩, _⟩ := h
  exact ⟨a, cap, e, h1, h2⟩
theorem Pts.len {W : World} {a : Option Addr} {n cap : Nat} {l : List (Int × Int)} (h : Pts W (.slice a n cap) l) : n = l.length := by
  obtain ⟨a', c', e, _⟩ := h
  simp only [Value.slice.injEq] at e
  exact e.2.1
theorem Pts.at {W : World} {a : Option Addr} {n cap : Nat} {l : List (Int × Int)} (h : Pts W (.slice a n cap) l) (h0 : 0 < n) :
    ∃ b off, a = some ⟨b, off, none⟩ ∧ b < W.heap.size ∧ ∀ j, j < n → W.cell? ⟨b, off + j * 2, none⟩ = some (.int .i64 (gX l j)) ∧ W.cell? ⟨b, off + j * 2 + 1, none⟩ = some (.int .i64 (gR l j)) := by
  have hl := h.len
  obtain ⟨a', c', e, _, hh⟩ := h
  simp only [Value.slice.injEq] at e
  obtain ⟨rfl, rfl, rfl⟩ := e
  rcases hh with hh | hh
  · omega
  · exact hh
theorem pts_nil (w : World) : Pts w (.slice none 0 0) [] := ⟨none, 0, rfl, by simp, .inl rfl⟩

/-- the cells of a list of points -/
def flat : List (Int × Int) → List Value
  | [] => []
  | q :: l => .int .i64 q.1 :: .int .i64 q.2 :: flat l
theorem flat_len (l : List (Int × Int)) : (flat l).length = l.length * 2 := by
  induction l with
  | nil => rfl
  | cons q l ih => simp only [flat, List.length_cons, ih]; omega
theorem flat_app (l m : List (Int × Int)) : flat (l ++ m) = flat l ++ flat m := by
  induction l with
  | nil => rfl
  | cons q l ih => simp only [List.cons_append, flat, ih]
theorem flat_at (l : List (Int × Int)) (j : Nat) (h : j < l.length) : (flat l)[j * 2]? = some (.int .i64 (gX l j)) ∧ (flat l)[j * 2 + 1]? = some (.int .i64 (gR l j)) := by
  induction l generalizing j with
  | nil => simp at h
  | cons q l ih =>
    cases j with
    | zero => simp [flat, gX, gR]
    | succ j =>
      have := ih j (by simpa using h)
      rw [show (j + 1) * 2 = j * 2 + 1 + 1 by omega]
      simp only [flat, List.getElem?_cons_succ, gX, gR, List.getD_cons_succ]
      exact this
theorem flat_one (l : List (Int × Int)) : ∀ u ∈ flat l, u.oneCell' = true := by
  induction l with
  | nil => intro u h; cases h
  | cons q l ih =>
    intro u h
    simp only [flat, List.mem_cons] at h
    rcases h with rfl | rfl | h
    · rfl
    · rfl
    · exact ih u h
theorem flat_inv (l : List (Int × Int)) (j : Nat) (u : Value) (h : (flat l)[j]? = some u) : ∃ i, i < l.length ∧ ((j = i * 2 ∧ u = .int .i64 (gX l i)) ∨ (j = i * 2 + 1 ∧ u = .int .i64 (gR l i))) := by
  have hj : j < (flat l).length := (List.getElem?_eq_some_iff.1 h).1
  rw [flat_len] at hj
  refine ⟨j / 2, by omega, ?_⟩
  have := flat_at l (j / 2) (by omega)
  rcases Nat.mod_two_eq_zero_or_one j with e | e
  · left
    have hj2 : j = j / 2 * 2 := by omega
    refine ⟨hj2, ?_⟩
    have h' := h
    rw [hj2, this.1] at h'
    exact (Option.some.inj h').symm
  · right
    have hj2 : j = j / 2 * 2 + 1 := by omega
    refine ⟨hj2, ?_⟩
    have h' := h
    rw [hj2, this.2] at h'
    exact (Option.some.inj h').symm

/-! ### points, compared -/
def samP (a b x y : Int) : Bool := a == x && b == y
/-! ### bounds, compared -/
def samB (a b x y : Int) : Bool := a == x && b == y
theorem run_same_bounds (a b x y : Int) (w : World) :
    (Op.equalIn 10000 34 (.agg #[.int .i64 a, .int .i64 b]) (.agg #[.int .i64 x, .int .i64 y])).run Tryd.prog w = .ok (samB a b x y) w := by
  rw [show (10000 : Nat) = 9999 + 1 from rfl, run_equalIn_agg w 9999 34 _ _ (by kernel_rfl) (by kernel_rfl)]
  have hf : (Tryd.prog.fieldsOf 34).toList.map (fun f => (f.name, f.type, f.offset)) = [("Low", 3, 0), ("High", 3, 1)] := by kernel_rfl
  generalize (Tryd.prog.fieldsOf 34).toList = fs at *
  obtain ⟨f, g, rfl⟩ : ∃ f g, fs = [f, g] := by
    have hl := congrArg List.length hf
    rw [List.length_map] at hl
    rcases fs with _ | ⟨f, _ | ⟨g, _ | ⟨h, fs⟩⟩⟩ <;> simp at hl
    exact ⟨f, g, rfl⟩
  simp only [List.map_cons, List.map_nil, List.cons.injEq, Prod.mk.injEq, and_true] at hf
  obtain ⟨⟨f1, f2, f3⟩, g1, g2, g3⟩ := hf
  have eq : ∀ (u v : Int) (W : World), (Op.equalIn 9999 3 (.int .i64 u) (.int .i64 v)).run Tryd.prog W = .ok (u == v) W := fun u v W => run_equalIn_int W 9998 3 .i64 .i64 u v Tryd.underlying3
  by_cases e1 : a = x <;> by_cases e2 : b = y <;> simp [Op.eqFields, f1, f2, f3, g1, g2, g3, go_sem, samB, eq, e1, e2]
theorem run_neq_bounds (a b x y : Int) (w : World) :
    (binOp .neq 34 (.agg #[.int .i64 a, .int .i64 b]) (.agg #[.int .i64 x, .int .i64 y])).run Tryd.prog w = .ok (.bool (!samB a b x y)) w := by
  rw [run_neq_struct, run_same_bounds]; rfl
theorem run_eql_bounds (a b x y : Int) (w : World) :
    (binOp .eql 34 (.agg #[.int .i64 a, .int .i64 b]) (.agg #[.int .i64 x, .int .i64 y])).run Tryd.prog w = .ok (.bool (samB a b x y)) w := by
  rw [run_eql_struct, run_same_bounds]; rfl
end Go.Proofs.YtdjlainhaoaeiaaDoor

/- Plain facts of layer 13: right tables, the volume at a height, the heights of a volume. No program stands in this text. -/
namespace Go.Proofs.YtdjlainhaoaeiaaDoor

/-- the first place below n at which p holds; n if there is none -/
def fst (p : Nat → Bool) : Nat → Nat
  | 0 => 0
  | n + 1 => if fst p n < n then fst p n else if p n then n else n + 1
theorem fst_le (p : Nat → Bool) (n : Nat) : fst p n ≤ n := by
  induction n with
  | zero => exact Nat.le_refl _
  | succ n ih => unfold fst; split <;> (try split) <;> omega
theorem fst_spec (p : Nat → Bool) (n : Nat) : (∀ j, j < fst p n → p j = false) ∧ (fst p n < n → p (fst p n) = true) := by
  induction n with
  | zero => exact ⟨fun j hj => by simp [fst] at hj, fun h => by omega⟩
  | succ n ih =>
    obtain ⟨i1, i2⟩ := ih
    have le := fst_le p n
    unfold fst
    by_cases h : fst p n < n
    · rw [if_pos h]; exact ⟨i1, fun _ => i2 h⟩
    · rw [if_neg h]
      have e : fst p n = n := by omega
      rw [e] at i1
      cases hp : p n with
      | true => simp only [if_true]; exact ⟨i1, fun _ => hp⟩
      | false =>
        simp only [Bool.false_eq_true, if_false]
        refine ⟨fun j hj => ?_, fun h => by omega⟩
        by_cases g : j = n
        · rw [g]; exact hp
        · exact i1 j (by omega)
theorem fst_is {p : Nat → Bool} {n k : Nat} (hk : k ≤ n) (h1 : ∀ j, j < k → p j = false) (h2 : k < n → p k = true) : fst p n = k := by
  obtain ⟨s1, s2⟩ := fst_spec p n
  have le := fst_le p n
  rcases Nat.lt_trichotomy (fst p n) k with h | h | h
  · have := h1 _ h; have := s2 (by omega); simp_all
  · exact h
  · have := s1 _ h; have := h2 (by omega); simp_all
theorem fst_iff {p : Nat → Bool} {n : Nat} (hm : ∀ a b, a ≤ b → b < n → p a = true → p b = true) {i : Nat} (hi : i < n) : p i = true ↔ fst p n ≤ i := by
  obtain ⟨s1, s2⟩ := fst_spec p n
  constructor
  · intro h
    rcases Nat.lt_or_ge i (fst p n) with g | g
    · rw [s1 i g] at h; cases h
    · exact g
  · intro h
    exact hm _ i h hi (s2 (by omega))

/-- a right table -/
structure MR (l : List (Int × Int)) : Prop where
  n0 : 2 ≤ l.length
  n1 : l.length ≤ 128
  bh : ∀ i, i < l.length → 0 ≤ gX l i ∧ gX l i ≤ 200000
  bv : ∀ i, i < l.length → 0 ≤ gR l i ∧ gR l i ≤ 4294967296
  asc : ∀ i, i + 1 < l.length → gX l i < gX l (i + 1)
  up : ∀ i, i + 1 < l.length → gR l i ≤ gR l (i + 1)
def mkOut (q : Int × Int) : Bool := decide (q.1 < 0) || decide (200000 < q.1) || decide (q.2 < 0) || decide (4294967296 < q.2)
/-- the first k + 1 marks rise -/
def risB (l : List (Int × Int)) : Nat → Bool
  | 0 => true
  | k + 1 => risB l k && (decide (gX l k < gX l (k + 1)) && decide (gR l k ≤ gR l (k + 1)))
theorem risB_iff (l : List (Int × Int)) (k : Nat) : risB l k = true ↔ ∀ i, i < k → gX l i < gX l (i + 1) ∧ gR l i ≤ gR l (i + 1) := by
  induction k with
  | zero => simp [risB]
  | succ k ih =>
    rw [risB, Bool.and_eq_true, ih, Bool.and_eq_true, decide_eq_true_eq, decide_eq_true_eq]
    constructor
    · rintro ⟨h1, h2⟩ i hi
      by_cases e : i = k
      · rw [e]; exact h2
      · exact h1 i (by omega)
    · intro h
      exact ⟨fun i hi => h i (by omega), h k (by omega)⟩
/-- the first error of a table -/
def tbE (l : List (Int × Int)) (tol : Int) : Int :=
  if l.length < 2 then 9 else if 128 < l.length then 8 else if (decide (tol < 0) || decide (4294967296 < tol) || l.any mkOut) = true then 2 else if risB l (l.length - 1) = false then 5 else 0
theorem anyq_at {p : Int × Int → Bool} {l : List (Int × Int)} : l.any p = true ↔ ∃ i, i < l.length ∧ p (l.getD i (0, 0)) = true := by
  rw [List.any_eq_true]
  constructor
  · rintro ⟨x, hx, hp⟩
    obtain ⟨i, hi, rfl⟩ := List.getElem_of_mem hx
    exact ⟨i, hi, by rw [List.getD_eq_getElem?_getD, List.getElem?_eq_getElem hi]; exact hp⟩
  · rintro ⟨i, hi, hp⟩
    rw [List.getD_eq_getElem?_getD, List.getElem?_eq_getElem hi, Option.getD_some] at hp
    exact ⟨_, List.getElem_mem hi, hp⟩
theorem mkOut_not {q : Int × Int} : mkOut q = false ↔ (0 ≤ q.1 ∧ q.1 ≤ 200000) ∧ 0 ≤ q.2 ∧ q.2 ≤ 4294967296 := by
  unfold mkOut
  rw [Bool.or_eq_false_iff, Bool.or_eq_false_iff, Bool.or_eq_false_iff, decide_eq_false_iff_not, decide_eq_false_iff_not, decide_eq_false_iff_not, decide_eq_false_iff_not]
  omega
theorem tbE_iff {l : List (Int × Int)} {tol : Int} : tbE l tol = 0 ↔ MR l ∧ 0 ≤ tol ∧ tol ≤ 4294967296 := by
  unfold tbE
  constructor
  · intro h
    split at h
    · omega
    · split at h
      · omega
      · split at h
        · omega
        · split at h
          · omega
          · rename_i h1 h2 h3 h4
            rw [Bool.not_eq_true, Bool.or_eq_false_iff, Bool.or_eq_false_iff, decide_eq_false_iff_not, decide_eq_false_iff_not] at h3
            obtain ⟨⟨t0, t1⟩, h3⟩ := h3
            have hb : ∀ i, i < l.length → (0 ≤ gX l i ∧ gX l i ≤ 200000) ∧ 0 ≤ gR l i ∧ gR l i ≤ 4294967296 := fun i hi => by
              refine mkOut_not.1 ?_
              cases hq : mkOut (l.getD i (0, 0)) with
              | false => rfl
              | true => rw [anyq_at.2 ⟨i, hi, hq⟩] at h3; cases h3
            have hr := (risB_iff l (l.length - 1)).1 (by simpa using h4)
            exact ⟨⟨by omega, by omega, fun i hi => (hb i hi).1, fun i hi => (hb i hi).2, fun i hi => (hr i (by omega)).1, fun i hi => (hr i (by omega)).2⟩, by omega, by omega⟩
  · rintro ⟨h, t0, t1⟩
    have n0 := h.n0
    have n1 := h.n1
    rw [if_neg (by omega), if_neg (by omega), if_neg, if_neg]
    · rw [Bool.not_eq_false]
      exact (risB_iff _ _).2 fun i hi => ⟨h.asc i (by omega), h.up i (by omega)⟩
    · rw [Bool.not_eq_true, Bool.or_eq_false_iff, Bool.or_eq_false_iff, decide_eq_false_iff_not, decide_eq_false_iff_not]
      refine ⟨⟨by omega, by omega⟩, ?_⟩
      cases hq : l.any mkOut with
      | false => rfl
      | true =>
        obtain ⟨i, hi, hp⟩ := anyq_at.1 hq
        rw [mkOut_not.2 ⟨h.bh i hi, h.bv i hi⟩] at hp
        cases hp
theorem MR.lt {l : List (Int × Int)} (h : MR l) {i j : Nat} (hij : i < j) (hj : j < l.length) : gX l i < gX l j := by
  induction j with
  | zero => omega
  | succ j ih =>
    have := h.asc j hj
    by_cases e : i = j
    · rw [e]; exact this
    · have := ih (by omega) (by omega); omega
theorem MR.le {l : List (Int × Int)} (h : MR l) {i j : Nat} (hij : i ≤ j) (hj : j < l.length) : gX l i ≤ gX l j := by
  by_cases e : i = j
  · rw [e]; exact Int.le_refl _
  · have := h.lt (show i < j by omega) hj; omega
theorem MR.rle {l : List (Int × Int)} (h : MR l) {i j : Nat} (hij : i ≤ j) (hj : j < l.length) : gR l i ≤ gR l j := by
  induction j with
  | zero => rw [show i = 0 by omega]; exact Int.le_refl _
  | succ j ih =>
    by_cases e : i = j + 1
    · rw [e]; exact Int.le_refl _
    · have := ih (by omega) (by omega); have := h.up j hj; omega
/-- the mark behind the first one that is not below a height -/
def tpc (l : List (Int × Int)) (x : Int) : Nat := 1 + fst (fun i => decide (x ≤ gX l (i + 1))) (l.length - 1)
/-- the volume of a piece at a height -/
def vlF (l : List (Int × Int)) (i : Nat) (x : Int) : Int := gR l (i - 1) + (gR l i - gR l (i - 1)) * (x - gX l (i - 1)) / (gX l i - gX l (i - 1))
/-- the volume at a height -/
def vl (l : List (Int × Int)) (x : Int) : Int := vlF l (tpc l x) x
structure IsT (l : List (Int × Int)) (x : Int) (i : Nat) : Prop where
  h1 : 1 ≤ i
  h2 : i < l.length
  h3 : x ≤ gX l i
  h4 : ∀ j, 1 ≤ j → j < i → gX l j < x
theorem tpc_of {l : List (Int × Int)} {x : Int} {i : Nat} (h : IsT l x i) : tpc l x = i := by
  obtain ⟨h1, h2, h3, h4⟩ := h
  unfold tpc
  rw [fst_is (k := i - 1) (by omega) (fun j hj => decide_eq_false (by have := h4 (j + 1) (by omega) (by omega); omega)) (fun _ => by rw [Nat.sub_add_cancel h1]; exact decide_eq_true h3)]
  omega
theorem tpc_is {l : List (Int × Int)} (h : MR l) {x : Int} (hx : x ≤ gX l (l.length - 1)) : IsT l x (tpc l x) := by
  have n0 := h.n0
  obtain ⟨s1, s2⟩ := fst_spec (fun i => decide (x ≤ gX l (i + 1))) (l.length - 1)
  have le := fst_le (fun i => decide (x ≤ gX l (i + 1))) (l.length - 1)
  unfold tpc
  generalize fst (fun i => decide (x ≤ gX l (i + 1))) (l.length - 1) = k at *
  have hk : k < l.length - 1 := by
    rcases Nat.lt_or_ge k (l.length - 1) with g | g
    · exact g
    · have := of_decide_eq_false (s1 (l.length - 2) (by omega))
      rw [show l.length - 2 + 1 = l.length - 1 by omega] at this
      exact absurd hx this
  refine ⟨by omega, by omega, ?_, fun j hj hj2 => ?_⟩
  · have := of_decide_eq_true (s2 hk)
    rwa [Nat.add_comm] at this
  · have := of_decide_eq_false (s1 (j - 1) (by omega))
    rw [Nat.sub_add_cancel hj] at this
    omega
/-- between two marks -/
theorem vlF_bd {l : List (Int × Int)} (h : MR l) {i : Nat} (i1 : 1 ≤ i) (hi : i < l.length) {x : Int} (x0 : gX l (i - 1) ≤ x) (x1 : x ≤ gX l i) :
    (0 ≤ (gR l i - gR l (i - 1)) * (x - gX l (i - 1)) ∧ (gR l i - gR l (i - 1)) * (x - gX l (i - 1)) ≤ 4294967296 * 200000) ∧ gR l (i - 1) ≤ vlF l i x ∧ vlF l i x ≤ gR l i := by
  have a := h.asc (i - 1) (by omega)
  have u := h.up (i - 1) (by omega)
  have b0 := h.bh (i - 1) (by omega)
  have b1 := h.bh i hi
  have v0 := h.bv (i - 1) (by omega)
  have v1 := h.bv i hi
  rw [Nat.sub_add_cancel i1] at a u
  unfold vlF
  generalize gR l i = R at *
  generalize gR l (i - 1) = Q at *
  generalize gX l i = B at *
  generalize gX l (i - 1) = A at *
  have m0 := Int.mul_nonneg (show 0 ≤ R - Q by omega) (show 0 ≤ x - A by omega)
  have m1 := Int.mul_le_mul (show R - Q ≤ 4294967296 by omega) (show x - A ≤ 200000 by omega) (by omega) (by omega)
  have m2 := Int.mul_le_mul_of_nonneg_left (show x - A ≤ B - A by omega) (show 0 ≤ R - Q by omega)
  have d0 := Int.ediv_nonneg m0 (show 0 ≤ B - A by omega)
  have d1 : (R - Q) * (x - A) / (B - A) ≤ R - Q := by
    have := Int.ediv_le_ediv (show 0 < B - A by omega) m2
    rwa [Int.mul_ediv_cancel _ (by omega)] at this
  exact ⟨⟨m0, m1⟩, by omega, by omega⟩
theorem vlF_mono {l : List (Int × Int)} (h : MR l) {i : Nat} (i1 : 1 ≤ i) (hi : i < l.length) {x y : Int} (xy : x ≤ y) : vlF l i x ≤ vlF l i y := by
  have a := h.asc (i - 1) (by omega)
  have u := h.up (i - 1) (by omega)
  rw [Nat.sub_add_cancel i1] at a u
  unfold vlF
  have := Int.ediv_le_ediv (show 0 < gX l i - gX l (i - 1) by omega) (Int.mul_le_mul_of_nonneg_left (show x - gX l (i - 1) ≤ y - gX l (i - 1) by omega) (show 0 ≤ gR l i - gR l (i - 1) by omega))
  omega
theorem IsT.from {l : List (Int × Int)} {x : Int} {i : Nat} (h : IsT l x i) (x0 : gX l 0 ≤ x) : gX l (i - 1) ≤ x := by
  by_cases e : i = 1
  · subst e; exact x0
  · have := h.h4 (i - 1) (by have := h.h1; omega) (by have := h.h1; omega); omega
theorem vl_end {l : List (Int × Int)} (h : MR l) {i : Nat} (i1 : 1 ≤ i) (hi : i < l.length) : vlF l i (gX l i) = gR l i := by
  have a := h.asc (i - 1) (by omega)
  rw [Nat.sub_add_cancel i1] at a
  unfold vlF
  rw [Int.mul_ediv_cancel _ (by omega)]
  omega
theorem vl_begin (l : List (Int × Int)) (i : Nat) : vlF l i (gX l (i - 1)) = gR l (i - 1) := by
  unfold vlF; simp
theorem vl_bd {l : List (Int × Int)} (h : MR l) {x : Int} (x0 : gX l 0 ≤ x) (x1 : x ≤ gX l (l.length - 1)) : gR l 0 ≤ vl l x ∧ vl l x ≤ gR l (l.length - 1) := by
  have t := tpc_is h x1
  obtain ⟨_, b0, b1⟩ := vlF_bd h t.h1 t.h2 (t.from x0) t.h3
  have := h.rle (Nat.zero_le (tpc l x - 1)) (by have := t.h2; omega)
  have := h.rle (show tpc l x ≤ l.length - 1 by have := t.h2; omega) (by have := h.n0; omega)
  unfold vl
  omega
theorem vl_mark {l : List (Int × Int)} (h : MR l) {i : Nat} (hi : i < l.length) : vl l (gX l i) = gR l i := by
  unfold vl
  by_cases e : i = 0
  · subst e
    rw [tpc_of (i := 1) ⟨by omega, by have := h.n0; omega, h.le (by omega) (by have := h.n0; omega), fun j h1 h2 => by omega⟩]
    exact vl_begin l 1
  · rw [tpc_of (i := i) ⟨by omega, hi, Int.le_refl _, fun j h1 h2 => h.lt h2 hi⟩]
    exact vl_end h (by omega) hi
theorem vl_mono {l : List (Int × Int)} (h : MR l) {x y : Int} (x0 : gX l 0 ≤ x) (xy : x ≤ y) (y1 : y ≤ gX l (l.length - 1)) : vl l x ≤ vl l y := by
  have t := tpc_is h (show x ≤ gX l (l.length - 1) by omega)
  have s := tpc_is h y1
  unfold vl
  by_cases e : tpc l x = tpc l y
  · rw [e]; exact vlF_mono h s.h1 s.h2 xy
  · have lt : tpc l x < tpc l y := by
      rcases Nat.lt_trichotomy (tpc l x) (tpc l y) with g | g | g
      · exact g
      · exact absurd g e
      · have := t.h4 _ s.h1 g; have := s.h3; omega
    obtain ⟨_, _, b1⟩ := vlF_bd h t.h1 t.h2 (t.from x0) t.h3
    obtain ⟨_, b0, _⟩ := vlF_bd h s.h1 s.h2 (s.from (by omega)) s.h3
    have := h.rle (show tpc l x ≤ tpc l y - 1 by omega) (by have := s.h2; omega)
    omega
/-- the least height with at least a volume; one above the last mark, if there is none -/
def lsA (l : List (Int × Int)) (v : Int) : Int := gX l 0 + (fst (fun i => decide (v ≤ vl l (gX l 0 + i))) (gX l (l.length - 1) - gX l 0 + 1).toNat : Nat)
theorem MR.span {l : List (Int × Int)} (h : MR l) : 0 ≤ gX l 0 ∧ gX l 0 < gX l (l.length - 1) ∧ gX l (l.length - 1) ≤ 200000 := by
  have n0 := h.n0
  exact ⟨(h.bh 0 (by omega)).1, h.lt (by omega) (by omega), (h.bh (l.length - 1) (by omega)).2⟩
theorem ls_mono {l : List (Int × Int)} (h : MR l) (v : Int) : ∀ a b : Nat, a ≤ b → b < (gX l (l.length - 1) - gX l 0 + 1).toNat → decide (v ≤ vl l (gX l 0 + a)) = true → decide (v ≤ vl l (gX l 0 + b)) = true := fun a b hab hb ha => by
  have s := h.span
  have := vl_mono h (x := gX l 0 + a) (y := gX l 0 + b) (by omega) (by omega) (by omega)
  have := of_decide_eq_true ha
  exact decide_eq_true (by omega)
theorem ls_bd {l : List (Int × Int)} (h : MR l) (v : Int) : gX l 0 ≤ lsA l v ∧ lsA l v ≤ gX l (l.length - 1) + 1 := by
  have s := h.span
  have := fst_le (fun i => decide (v ≤ vl l (gX l 0 + i))) (gX l (l.length - 1) - gX l 0 + 1).toNat
  unfold lsA
  omega
theorem ls_iff {l : List (Int × Int)} (h : MR l) (v : Int) {x : Int} (x0 : gX l 0 ≤ x) (x1 : x ≤ gX l (l.length - 1)) : v ≤ vl l x ↔ lsA l v ≤ x := by
  have s := h.span
  have := fst_iff (ls_mono h v) (i := (x - gX l 0).toNat) (by omega)
  rw [show gX l 0 + (((x - gX l 0).toNat : Nat) : Int) = x by omega, decide_eq_true_eq] at this
  rw [this]
  unfold lsA
  omega
theorem ls_of {l : List (Int × Int)} (h : MR l) (v : Int) {y : Int} (y0 : gX l 0 ≤ y) (y1 : y ≤ gX l (l.length - 1) + 1) (hy : ∀ x, gX l 0 ≤ x → x ≤ gX l (l.length - 1) → (v ≤ vl l x ↔ y ≤ x)) : lsA l v = y := by
  have b := ls_bd h v
  rcases Int.lt_trichotomy (lsA l v) y with g | g | g
  · have := (hy (lsA l v) b.1 (by omega)).1 ((ls_iff h v b.1 (by omega)).2 (Int.le_refl _)); omega
  · exact g
  · have := (ls_iff h v y0 (by omega)).1 ((hy y y0 (by omega)).2 (Int.le_refl _)); omega
/-- the greatest height with at most a volume -/
theorem ls_top {l : List (Int × Int)} (h : MR l) {v : Int} (v0 : gR l 0 ≤ v) : gX l 0 ≤ lsA l (v + 1) - 1 := by
  have s := h.span
  have b := ls_bd h (v + 1)
  have m := vl_mark h (i := 0) (by have := h.n0; omega)
  have : ¬ lsA l (v + 1) ≤ gX l 0 := fun g => by
    have := (ls_iff h (v + 1) (Int.le_refl _) (by omega)).2 g
    omega
  omega
theorem ls_up {l : List (Int × Int)} (h : MR l) {u v : Int} (huv : u ≤ v) : lsA l u ≤ lsA l v := by
  have b := ls_bd h v
  by_cases g : lsA l v ≤ gX l (l.length - 1)
  · have := (ls_iff h v b.1 g).2 (Int.le_refl _)
    exact (ls_iff h u b.1 g).1 (by omega)
  · have := ls_bd h u; omega
/-- what Heights returns -/
def htE (l : List (Int × Int)) (tol v : Int) : Int := if tbE l tol ≠ 0 then 1 else if v < gR l 0 ∨ gR l (l.length - 1) < v then 2 else 0
def htH (l : List (Int × Int)) (v : Int) : Int := lsA l (v + 1) - 1
def htL (l : List (Int × Int)) (v : Int) : Int := min (lsA l v) (lsA l (v + 1) - 1)
/-- what Read returns -/
def rdE (l : List (Int × Int)) (tol x : Int) : Int := if tbE l tol ≠ 0 then 1 else if x < gX l 0 ∨ gX l (l.length - 1) < x then 2 else 0
def rdQ (l : List (Int × Int)) (tol x : Int) : Int := if rdE l tol x = 0 then vl l x else 0
theorem rdE_zero {l : List (Int × Int)} {tol x : Int} : rdE l tol x = 0 ↔ tbE l tol = 0 ∧ gX l 0 ≤ x ∧ x ≤ gX l (l.length - 1) := by
  unfold rdE
  by_cases h : tbE l tol = 0
  · rw [if_neg (by simpa using h)]
    split <;> omega
  · rw [if_pos h]; omega
theorem htE_zero {l : List (Int × Int)} {tol v : Int} : htE l tol v = 0 ↔ tbE l tol = 0 ∧ gR l 0 ≤ v ∧ v ≤ gR l (l.length - 1) := by
  unfold htE
  by_cases h : tbE l tol = 0
  · rw [if_neg (by simpa using h)]
    split <;> omega
  · rw [if_pos h]; omega
end Go.Proofs.YtdjlainhaoaeiaaDoor

/- A cell below. -/
namespace Go.Proofs.YtdjlainhaoaeiaaDoor
open Go.RowKit

theorem cell_bel {w w' : World} {p : Addr} {v : Value} (h : w.cell? p = some v) (hb : Below w.heap.size w w') : w'.cell? p = some v := by
  rw [hb.cell (World.block_lt_of_cell? w _ h)]; exact h
end Go.Proofs.YtdjlainhaoaeiaaDoor

/- sort.Search with a closure; package dip: at. -/
namespace Go.Proofs.YtdjlainhaoaeiaaDoor
open Go.RowKit

set_option maxHeartbeats 8000000 in
set_option maxRecDepth 100000 in
theorem search_bel (g : Nat) (cb : Array Value) (n : Nat) (p : Nat → Bool) (w : World) (eg : ∀ args w, (callFunc g args).run Tryd.prog w = .ok (.enter g args) w) (hsz : n ≤ 1000000)
    (hf : Hid (∀ (i : Nat) W, i < n → Below w.heap.size w W → Calls Tryd.prog g (#[.int .i64 i] ++ cb) W fun e w' => e = .returned (.bool (p i)) ∧ Below W.heap.size W w'))
    (hm : Hid (∀ a b, a ≤ b → b < n → p a = true → p b = true)) :
    Calls Tryd.prog 63 #[.int .i64 n, .func (.func g) #[] cb] w fun e w' => e = .returned (.int .i64 (fst p n : Nat)) ∧ Below w.heap.size w w' := by
  go_enter Tryd.func63, Tryd.ntmps63
  go_wp2_with fail
  go_loopw [5, 6] (fun s5 s6 wr => ∃ lo hi : Nat, s5 = .int .i64 lo ∧ s6 = .int .i64 hi ∧ lo ≤ hi ∧ hi ≤ n ∧ Hid (Below w.heap.size w wr) ∧ Hid ((∀ t, t < lo → p t = false) ∧ (∀ t, hi ≤ t → t < n → p t = true))) (fun s5 s6 _ => (intOf s6).toNat - (intOf s5).toNat)
  case atStart => exact ⟨0, n, rfl, rfl, Nat.zero_le _, Nat.le_refl _, Below.refl _ _, ⟨fun t ht => absurd ht (Nat.not_lt_zero _), fun t h1 h2 => by omega⟩⟩
  case round =>
    obtain ⟨lo, hi, rfl, rfl, hlh, hin, hB, I⟩ := hrel
    by_cases hlt : lo < hi
    · have hc := hf.out ((lo + hi) / 2)
      have HM := Lib.hid (fun t (h1 : (lo + hi) / 2 ≤ t) (h2 : t < n) (h3 : p ((lo + hi) / 2) = true) => hm.out ((lo + hi) / 2) t h1 h2 h3)
      have HN := Lib.hid (fun t (h1 : t ≤ (lo + hi) / 2) (h3 : p ((lo + hi) / 2) = false) => show p t = false by
        cases hp : p t with
        | false => rfl
        | true => rw [hm.out t ((lo + hi) / 2) h1 (by omega) hp] at h3; cases h3)
      rw [show (((lo + hi) / 2 : Nat) : Int) = ((lo : Int) + (hi : Int)) / 2 by omega] at hc
      have HC := Lib.hid (fun W hW => hc W (by omega) hW)
      clear hc
      have l0 : (lo : Int) < (hi : Int) := by omega
      have m1 : (lo + hi) / 2 < hi := by omega
      have m2 : lo ≤ (lo + hi) / 2 := by omega
      have me : ((lo : Int) + (hi : Int)) / 2 = (((lo + hi) / 2 : Nat) : Int) := by omega
      replace me := Lib.hid me
      cases hp : p ((lo + hi) / 2) with
      | false =>
        rw [hp] at HC
        replace hp := Lib.hid hp
        go_wp2_with fail
        refine (HC.out _ hB.out).mono ?_
        rintro e w2 ⟨rfl, gg⟩
        have X := Lib.hid (bel_trans hB.out gg); clear gg
        go_wp2
        go_roundw
        case rel => exact ⟨(lo + hi) / 2 + 1, hi, by rw [me.out]; go_num, rfl, by omega, hin, X, ⟨fun t ht => HN.out t (by omega) hp.out, I.out.2⟩⟩
        case measure => simp [intOf]; omega
      | true =>
        rw [hp] at HC
        replace hp := Lib.hid hp
        go_wp2_with fail
        refine (HC.out _ hB.out).mono ?_
        rintro e w2 ⟨rfl, gg⟩
        have X := Lib.hid (bel_trans hB.out gg); clear gg
        go_wp2
        go_roundw
        case rel => exact ⟨lo, (lo + hi) / 2, rfl, by rw [me.out], m2, by omega, X, ⟨I.out.1, fun t h1 h2 => HM.out t h1 h2 hp.out⟩⟩
        case measure => simp [intOf]; omega
    · obtain rfl : lo = hi := by omega
      have e : fst p n = lo := fst_is hin I.out.1 (fun h => I.out.2 lo (Nat.le_refl _) h)
      replace e := Lib.hid e
      go_wp2
      go_returns
      exact ⟨by show Ending.returned (.int .i64 (lo : Int)) = _; rw [e.out], hB.out⟩
set_option maxHeartbeats 4000000 in
theorem dipAt1_any (i q1 q2 b off n cap : Nat) (x : Int) (l : List (Int × Int)) (w : World) (hi : i < n) (n1 : n ≤ 1000) (c1 : w.cell? ⟨q1, 0, none⟩ = some (.slice (some ⟨b, off, none⟩) n cap)) (c2 : w.cell? ⟨q2, 0, none⟩ = some (.int .i64 x))
    (c3 : w.cell? ⟨b, off + i * 2, none⟩ = some (.int .i64 (gX l i))) :
    Calls Tryd.prog 64 #[.int .i64 i, .pointer (some ⟨q1, 0, none⟩), .pointer (some ⟨q2, 0, none⟩)] w fun e w' => e = .returned (.bool (decide (x ≤ gX l i))) ∧ Below w.heap.size w w' := by
  have l0 : (i : Int) < (n : Int) := by omega
  have X1 : Hid (∀ m, Below w.heap.size w (w.drewN m)) := Lib.hid fun m => ⟨rfl, rfl, rfl, Nat.le_refl _, fun i hi => rfl⟩
  generalize gX l i = y at *
  go_enter Tryd.func64, Tryd.ntmps64
  go_wp2_with fail
  go_quiet (fail)
  go_wp2
  go_returns
  exact ⟨rfl, X1.out _⟩
theorem MR.find {l : List (Int × Int)} (h : MR l) {x : Int} (x1 : x ≤ gX l (l.length - 1)) :
    fst (fun i => decide (x ≤ gX l i)) l.length < l.length ∧ x ≤ gX l (fst (fun i => decide (x ≤ gX l i)) l.length) ∧ ∀ j, j < fst (fun i => decide (x ≤ gX l i)) l.length → gX l j < x := by
  have n0 := h.n0
  obtain ⟨s1, s2⟩ := fst_spec (fun i => decide (x ≤ gX l i)) l.length
  have lt : fst (fun i => decide (x ≤ gX l i)) l.length < l.length := by
    rcases Nat.lt_or_ge (fst (fun i => decide (x ≤ gX l i)) l.length) l.length with g | g
    · exact g
    · have := of_decide_eq_false (s1 (l.length - 1) (by omega)); omega
  exact ⟨lt, of_decide_eq_true (s2 lt), fun j hj => by have := of_decide_eq_false (s1 j hj); omega⟩
theorem bxd_below {W W' : World} {b : Nat} {t : TypeId} {v : Value} (h : Boxed W b t v) (hb : Below W.heap.size W W') : Boxed W' b t v := by
  show W'.heap[b]? = _
  rw [hb.block _ h.lt]
  exact h
set_option maxHeartbeats 16000000 in
set_option maxRecDepth 100000 in
theorem dipAt_core (b off n cap k : Nat) (x H V A Q R : Int) (l : List (Int × Int)) (w : World) (n1 : n ≤ 1000) (hb : b < w.heap.size) (hk : k < n)
    (hc : Hid (∀ j, j < n → w.cell? ⟨b, off + j * 2, none⟩ = some (.int .i64 (gX l j)) ∧ w.cell? ⟨b, off + j * 2 + 1, none⟩ = some (.int .i64 (gR l j))))
    (hk1 : Hid (gX l k = H ∧ gR l k = V)) (hk2 : Hid (k ≠ 0 → gX l (k - 1) = A ∧ gR l (k - 1) = Q))
    (hR : (H = x ∧ R = V) ∨ (H ≠ x ∧ k ≠ 0 ∧ (A ≤ x ∧ x ≤ H ∧ A < H ∧ 0 ≤ A ∧ H ≤ 200000) ∧ (Q ≤ V ∧ 0 ≤ Q ∧ V ≤ 4294967296) ∧ (0 ≤ (V - Q) * (x - A) ∧ (V - Q) * (x - A) ≤ 4294967296 * 200000) ∧ (0 ≤ (V - Q) * (x - A) / (H - A) ∧ (V - Q) * (x - A) / (H - A) ≤ 4294967296) ∧ R = Q + (V - Q) * (x - A) / (H - A)))
    (HS : Hid (∀ W q1 q2, Below w.heap.size w W → Boxed W q1 22 (.slice (some ⟨b, off, none⟩) n cap) → Boxed W q2 3 (.int .i64 x) → Calls Tryd.prog 63 #[.int .i64 n, .func (.func 64) #[] #[.pointer (some ⟨q1, 0, none⟩), .pointer (some ⟨q2, 0, none⟩)]] W fun e w' => e = .returned (.int .i64 k) ∧ Below W.heap.size W w')) :
    Calls Tryd.prog 51 #[.slice (some ⟨b, off, none⟩) n cap, .int .i64 x] w fun e w' => e = .returned (.int .i64 R) ∧ Below w.heap.size w w' := by
  have hmf : ∀ (fn : Fn) (first cap : Array Value) (w : World), (Instr.makeFunc fn first cap).run Tryd.prog w = .ok (.func fn first cap) w := fun _ _ _ _ => rfl
  have B0 := Lib.hid ((Boxed.new w 22 (.slice (some ⟨b, off, none⟩) n cap)).alloc (.cells #[.int .i64 x] 3))
  have B1 : Hid (Boxed ((w.alloc (.cells #[.slice (some ⟨b, off, none⟩) n cap] 22)).alloc (.cells #[.int .i64 x] 3)) (w.heap.size + 1) 3 (.int .i64 x)) := Lib.hid (by
    have := Boxed.new (w.alloc (.cells #[.slice (some ⟨b, off, none⟩) n cap] 22)) 3 (.int .i64 x)
    rwa [World.size_alloc] at this)
  have X0 : Hid (Below w.heap.size w ((w.alloc (.cells #[.slice (some ⟨b, off, none⟩) n cap] 22)).alloc (.cells #[.int .i64 x] 3))) := Lib.hid (bel_alloc (bel_alloc (Below.refl _ _)))
  have c0 := B0.out.cell
  go_enter Tryd.func51, Tryd.ntmps51
  go_wp2_with fail
  refine (HS.out _ _ _ X0.out B0.out B1.out).mono ?_
  rintro e w1 ⟨rfl, gg⟩
  have X1 := Lib.hid (bel_trans X0.out gg)
  replace B0 := Lib.hid (bxd_below B0.out gg)
  replace B1 := Lib.hid (bxd_below B1.out gg)
  clear gg c0 HS X0
  have d0 : w1.cell? ⟨b, off + k * 2, none⟩ = some (.int .i64 H) := by rw [(bcell X1.out).1 _ _ hb, ← hk1.out.1]; exact (hc.out k hk).1
  have d1 : w1.cell? ⟨b, off + k * 2 + 1, none⟩ = some (.int .i64 V) := by rw [(bcell X1.out).1 _ _ hb, ← hk1.out.2]; exact (hc.out k hk).2
  have c0 := B0.out.cell
  have c1 := B1.out.cell
  have l0 : (k : Int) < (n : Int) := by omega
  rcases hR with ⟨g, rfl⟩ | ⟨g, k0, ⟨a1, a2, a3, a4, a5⟩, ⟨v1, v2, v3⟩, ⟨m0, m1⟩, ⟨q0, q1⟩, rfl⟩
  · have e1 : (H == x) = true := by simpa using g
    clear hk2 g
    have cA1 := (B1.out.alloc (.cells #[.int .i64 H, .int .i64 R] 39)).cell
    have X2 := Lib.hid (bel_trans X1.out (bel_alloc (o := .cells #[.int .i64 H, .int .i64 R] 39) (Below.refl _ _)))
    go_wp2
    go_returns
    exact ⟨rfl, X2.out⟩
  · have e1 : (H == x) = false := by simpa using g
    obtain ⟨j, rfl⟩ : ∃ j, k = j + 1 := ⟨k - 1, by omega⟩
    have f0 : w1.cell? ⟨b, off + j * 2, none⟩ = some (.int .i64 A) := by rw [(bcell X1.out).1 _ _ hb, ← (hk2.out k0).1]; exact (hc.out j (by omega)).1
    have f1 : w1.cell? ⟨b, off + j * 2 + 1, none⟩ = some (.int .i64 Q) := by rw [(bcell X1.out).1 _ _ hb, ← (hk2.out k0).2]; exact (hc.out j (by omega)).2
    have X2 : Hid (Below w.heap.size w ((w1.alloc (.cells #[.int .i64 H, .int .i64 V] 39)).alloc (.cells #[.int .i64 A, .int .i64 Q] 39))) := Lib.hid (bel_trans X1.out (bel_alloc (bel_alloc (Below.refl _ _))))
    have X3 : Hid (∀ m, Below w.heap.size w (((w1.alloc (.cells #[.int .i64 H, .int .i64 V] 39)).alloc (.cells #[.int .i64 A, .int .i64 Q] 39)).drewN m)) := Lib.hid fun m => ⟨X2.out.os, X2.out.tape, X2.out.output, X2.out.size, X2.out.block⟩
    have w1' : IntKind.i64.wrap (((j + 1 : Nat) : Int) - 1) = (j : Int) := by rw [wrap_in _ ⟨by omega, by omega⟩]; omega
    have w2 : IntKind.i64.wrap ((j : Int) + 1 - 1) = (j : Int) := by rw [wrap_in _ ⟨by omega, by omega⟩]; omega
    have w3 : IntKind.i64.wrap (j : Int) = (j : Int) := wrap_in _ ⟨by omega, by omega⟩
    have p1 : IntKind.i64.wrap (V - Q) = V - Q := wrap_in _ ⟨by omega, by omega⟩
    have p2 : IntKind.i64.wrap (x - A) = x - A := wrap_in _ ⟨by omega, by omega⟩
    have p3 : IntKind.i64.wrap ((V - Q) * (x - A)) = (V - Q) * (x - A) := wrap_in _ ⟨by omega, by omega⟩
    have p4 : IntKind.i64.wrap (H - A) = H - A := wrap_in _ ⟨by omega, by omega⟩
    have nz : ¬ H - A = 0 := by omega
    have nz2 : (H - A == 0) = false := by simpa using nz
    have p5 : IntKind.i64.wrap (((V - Q) * (x - A)).tdiv (H - A)) = (V - Q) * (x - A) / (H - A) := by rw [Int.tdiv_eq_ediv_of_nonneg m0]; exact wrap_in _ ⟨by omega, by omega⟩
    have p6 : IntKind.i64.wrap (Q + (V - Q) * (x - A) / (H - A)) = Q + (V - Q) * (x - A) / (H - A) := wrap_in _ ⟨by omega, by omega⟩
    have l1 : (j : Int) < (n : Int) := by omega
    have cA0 := (B0.out.alloc (.cells #[.int .i64 H, .int .i64 V] 39)).cell
    have cA1 := (B1.out.alloc (.cells #[.int .i64 H, .int .i64 V] 39)).cell
    have fA0 : (w1.alloc (.cells #[.int .i64 H, .int .i64 V] 39)).cell? ⟨b, off + j * 2, none⟩ = some (.int .i64 A) := cell_bel f0 (bel_alloc (Below.refl _ _))
    have fA1 : (w1.alloc (.cells #[.int .i64 H, .int .i64 V] 39)).cell? ⟨b, off + j * 2 + 1, none⟩ = some (.int .i64 Q) := cell_bel f1 (bel_alloc (Below.refl _ _))
    have cc0 := ((B0.out.alloc (.cells #[.int .i64 H, .int .i64 V] 39)).alloc (.cells #[.int .i64 A, .int .i64 Q] 39)).cell
    have cc1 := ((B1.out.alloc (.cells #[.int .i64 H, .int .i64 V] 39)).alloc (.cells #[.int .i64 A, .int .i64 Q] 39)).cell
    clear hk1 hk2 g a1 a2
    go_wp2_with fail
    go_quiet (fail)
    go_wp2
    go_returns
    exact ⟨rfl, X3.out _⟩
theorem dipAt_any (v : Value) (l : List (Int × Int)) (x : Int) (w : World) (hv : Pts w v l) (h : MR l) (x0 : gX l 0 ≤ x) (x1 : x ≤ gX l (l.length - 1)) :
    Calls Tryd.prog 51 #[v, .int .i64 x] w fun e w' => e = .returned (.int .i64 (vl l x)) ∧ Below w.heap.size w w' := by
  have n0 := h.n0
  have n1 := h.n1
  obtain ⟨k1, k2, k3⟩ := h.find x1
  obtain ⟨a, cap, rfl, hcap, hh⟩ := hv
  rcases hh with h0 | ⟨b, off, rfl, hb, hc⟩
  · omega
  · refine dipAt_core b off l.length cap (fst (fun i => decide (x ≤ gX l i)) l.length) x _ _ _ _ _ l w (by omega) hb k1 (Lib.hid hc) (Lib.hid ⟨rfl, rfl⟩) (Lib.hid fun _ => ⟨rfl, rfl⟩) ?_ (Lib.hid fun W q1 q2 hW B1 B2 => ?_)
    · generalize fst (fun i => decide (x ≤ gX l i)) l.length = k at *
      by_cases g : gX l k = x
      · left
        exact ⟨g, by rw [← g]; exact vl_mark h k1⟩
      · right
        have kz : k ≠ 0 := fun e => by subst e; omega
        have t : IsT l x k := ⟨by omega, k1, k2, fun j _ hj => k3 j hj⟩
        have f := t.from x0
        obtain ⟨m, b0, b1⟩ := vlF_bd h (by omega) k1 f k2
        have as0 := h.asc (k - 1) (by omega)
        rw [Nat.sub_add_cancel (by omega)] at as0
        have u := h.up (k - 1) (by omega)
        rw [Nat.sub_add_cancel (by omega)] at u
        have e0 := h.bh (k - 1) (by omega)
        have e1 := h.bh k k1
        have v0 := h.bv (k - 1) (by omega)
        have v1 := h.bv k k1
        have e : vl l x = vlF l k x := by unfold vl; rw [tpc_of t]
        unfold vlF at b0 b1 e
        refine ⟨g, kz, ⟨f, k2, as0, e0.1, e1.2⟩, ⟨u, v0.1, v1.2⟩, m, ⟨Int.ediv_nonneg m.1 (by omega), by omega⟩, e⟩
    · refine search_bel 64 #[.pointer (some ⟨q1, 0, none⟩), .pointer (some ⟨q2, 0, none⟩)] l.length (fun i => decide (x ≤ gX l i)) W (enters_of Tryd.func64 (by kernel_rfl) rfl) (by omega) (Lib.hid fun i W2 hi hW2 => ?_) (Lib.hid fun a b hab hb ha => ?_)
      · exact dipAt1_any i q1 q2 b off l.length cap x l W2 hi (by omega) (bxd_below B1 hW2).cell (bxd_below B2 hW2).cell (by rw [(bcell hW2).1 _ _ (Nat.lt_of_lt_of_le hb hW.size), (bcell hW).1 _ _ hb]; exact (hc i hi).1)
      · have := of_decide_eq_true ha
        have := h.le hab hb
        exact decide_eq_true (by omega)
end Go.Proofs.YtdjlainhaoaeiaaDoor

/- slices.IndexFunc and ContainsFunc over marks; package dip: Check. -/
namespace Go.Proofs.YtdjlainhaoaeiaaDoor
open Go.RowKit

/-- the index of the first place at which p holds; -1 if there is none -/
def ixR (p : Nat → Bool) (n : Nat) : Int := if fst p n < n then (fst p n : Int) else -1
theorem ixR_at {p : Nat → Bool} {n k : Nat} (hk : k < n) (h1 : ∀ j, j < k → p j = false) (h2 : p k = true) : ixR p n = k := by
  unfold ixR
  rw [fst_is (by omega) h1 (fun _ => h2), if_pos hk]
theorem ixR_no {p : Nat → Bool} {n : Nat} (h1 : ∀ j, j < n → p j = false) : ixR p n = -1 := by
  unfold ixR
  rw [fst_is (Nat.le_refl _) h1 (fun h => by omega), if_neg (by omega)]
theorem ixR_iff (p : Nat → Bool) (n : Nat) : 0 ≤ ixR p n ↔ ∃ j, j < n ∧ p j = true := by
  unfold ixR
  obtain ⟨s1, s2⟩ := fst_spec p n
  by_cases h : fst p n < n
  · rw [if_pos h]
    exact ⟨fun _ => ⟨_, h, s2 h⟩, fun _ => by omega⟩
  · rw [if_neg h]
    refine ⟨fun h => by omega, ?_⟩
    rintro ⟨j, hj, e⟩
    rw [s1 j (by omega)] at e
    cases e
set_option maxHeartbeats 8000000 in
set_option maxRecDepth 100000 in
theorem idxm_some (f : Nat) (cb : Array Value) (p : Nat → Bool) (eg : ∀ args w, (callFunc f args).run Tryd.prog w = .ok (.enter f args) w)
    (b off n cap : Nat) (l : List (Int × Int)) (w : World) (n1 : n ≤ 1000) (hb : b < w.heap.size)
    (hc : Hid (∀ j, j < n → w.cell? ⟨b, off + j * 2, none⟩ = some (.int .i64 (gX l j)) ∧ w.cell? ⟨b, off + j * 2 + 1, none⟩ = some (.int .i64 (gR l j))))
    (hp : Hid (∀ j W, j < n → Below w.heap.size w W → Calls Tryd.prog f (#[.agg #[.int .i64 (gX l j), .int .i64 (gR l j)]] ++ cb) W fun e w' => e = .returned (.bool (p j)) ∧ Below W.heap.size W w')) :
    Calls Tryd.prog 38 #[.slice (some ⟨b, off, none⟩) n cap, .func (.func f) #[] cb] w fun e w' => e = .returned (.int .i64 (ixR p n)) ∧ Below w.heap.size w w' := by
  go_enter Tryd.func38, Tryd.ntmps38
  go_wp2_with fail
  go_loopw [5, 8] (fun _ i wr => ∃ k : Nat, k ≤ n ∧ i = .int .i64 k ∧ Hid (Below w.heap.size w wr) ∧ Hid (∀ j, j < k → p j = false)) (fun _ i _ => n - (intOf i).toNat)
  case atStart => exact ⟨0, Nat.zero_le _, rfl, Below.refl _ _, fun j hj => by omega⟩
  case round =>
    obtain ⟨k, hk, rfl, hB, ha⟩ := hrel
    by_cases hlt : k < n
    · have c0 : wr.cell? ⟨b, off + k * 2, none⟩ = some (.int .i64 (gX l k)) := by rw [(bcell hB.out).1 _ _ hb]; exact (hc.out k hlt).1
      have c1 : wr.cell? ⟨b, off + k * 2 + 1, none⟩ = some (.int .i64 (gR l k)) := by rw [(bcell hB.out).1 _ _ hb]; exact (hc.out k hlt).2
      have HP := Lib.hid (fun W (hW : Below wr.heap.size wr W) => hp.out k W hlt (bel_trans hB.out hW))
      cases hq : p k with
      | true =>
        have hBt := Lib.hid (ixR_at hlt ha.out hq)
        rw [hq] at HP
        clear hq
        generalize gX l k = x at *
        generalize gR l k = r at *
        go_wp2_with fail
        refine (HP.out _ (by first | exact Below.refl _ _ | exact bel_alloc (Below.refl _ _) | exact bel_drew _ | exact bel_alloc (bel_alloc (Below.refl _ _)))).mono ?_
        rintro e w2 ⟨rfl, gg⟩
        have X := Lib.hid (bel_trans hB.out gg); clear gg
        go_wp2
        go_returns
        exact ⟨by rw [hBt.out]; rfl, X.out⟩
      | false =>
        have ha2 : Hid (∀ j, j < k + 1 → p j = false) := fun j hj => by
          by_cases e : j = k
          · rw [e]; exact hq
          · exact ha.out j (by omega)
        rw [hq] at HP
        clear hq ha
        generalize gX l k = x at c0 HP
        generalize gR l k = r at c1 HP
        go_wp2_with fail
        refine (HP.out _ (by first | exact Below.refl _ _ | exact bel_alloc (Below.refl _ _) | exact bel_drew _ | exact bel_alloc (bel_alloc (Below.refl _ _)))).mono ?_
        rintro e w2 ⟨rfl, gg⟩
        have X := Lib.hid (bel_trans hB.out gg); clear gg
        go_wp2
        go_roundw
        case rel => exact ⟨k + 1, by omega, by go_num, X, ha2⟩
        case measure => simp [intOf]; omega
    · obtain rfl : k = n := by omega
      have hBf := Lib.hid (ixR_no ha.out)
      go_wp2
      go_returns
      exact ⟨by rw [hBf.out]; rfl, hB.out⟩
set_option maxHeartbeats 8000000 in
theorem idxm_nil (f : Value) (a : Option Addr) (cap : Nat) (p : Nat → Bool) (w : World) :
    Calls Tryd.prog 38 #[.slice a 0 cap, f] w fun e w' => e = .returned (.int .i64 (ixR p 0)) ∧ Below w.heap.size w w' := by
  have hBf : Hid (ixR p 0 = -1) := Lib.hid (ixR_no fun j hj => by omega)
  go_enter Tryd.func38, Tryd.ntmps38
  go_wp2_with fail
  go_loopw [5, 8] (fun _ i wr => i = .int .i64 0 ∧ Hid (Below w.heap.size w wr)) (fun _ _ _ => 0)
  case atStart => exact ⟨rfl, Below.refl _ _⟩
  case round =>
    obtain ⟨rfl, hB⟩ := hrel
    go_wp2
    go_returns
    exact ⟨by rw [hBf.out]; rfl, hB.out⟩
theorem conm_of (f : Value) (v : Value) (a : Option Addr) (n cap : Nat) (hv : v = .slice a n cap) (p : Nat → Bool) (B : Bool) (w : World)
    (HI : Hid (Calls Tryd.prog 38 #[v, f] w fun e w' => e = .returned (.int .i64 (ixR p n)) ∧ Below w.heap.size w w'))
    (hB : Hid (B = true ↔ ∃ j, j < n ∧ p j = true)) :
    Calls Tryd.prog 28 #[v, f] w fun e w' => e = .returned (.bool B) ∧ Below w.heap.size w w' := by
  subst hv
  have h : decide (0 ≤ ixR p n) = B := by
    rw [Bool.eq_iff_iff, decide_eq_true_eq, ixR_iff]; exact hB.out.symm
  clear hB
  generalize ixR p n = k at *
  subst h
  go_enter Tryd.func28, Tryd.ntmps28
  go_wp2_with fail
  refine HI.out.mono ?_
  rintro e w1 ⟨rfl, hb⟩
  have HB := Lib.hid hb; clear hb
  go_wp2
  all_goals
    go_ret
    exact ⟨by simp_all, HB.out⟩
/-- IndexFunc over a slice that reads as marks -/
theorem idxm_any (f : Nat) (cb : Array Value) (p : Nat → Bool) (eg : ∀ args w, (callFunc f args).run Tryd.prog w = .ok (.enter f args) w)
    (v : Value) (l : List (Int × Int)) (w : World) (n1 : l.length ≤ 1000) (hv : Pts w v l)
    (hp : Hid (∀ j W, j < l.length → Below w.heap.size w W → Calls Tryd.prog f (#[.agg #[.int .i64 (gX l j), .int .i64 (gR l j)]] ++ cb) W fun e w' => e = .returned (.bool (p j)) ∧ Below W.heap.size W w')) :
    Calls Tryd.prog 38 #[v, .func (.func f) #[] cb] w fun e w' => e = .returned (.int .i64 (ixR p l.length)) ∧ Below w.heap.size w w' := by
  obtain ⟨a, cap, rfl, hcap, hh⟩ := hv
  rcases hh with h0 | ⟨b, off, rfl, hb, hc⟩
  · rw [h0]; exact idxm_nil _ a cap p w
  · exact idxm_some f cb p eg b off _ cap l w n1 hb (Lib.hid hc) hp
/-! ### Check -/
set_option maxHeartbeats 4000000 in
theorem dipOut_any (x v : Int) (w : World) :
    Calls Tryd.prog 52 #[.agg #[.int .i64 x, .int .i64 v]] w fun e w' => e = .returned (.bool (mkOut (x, v))) ∧ Below w.heap.size w w' := by
  unfold mkOut
  have X := Lib.hid (bel_alloc (o := .cells #[.int .i64 x, .int .i64 v] 39) (Below.refl _ (w.alloc (.cells #[.int .i64 x, .int .i64 v] 39))))
  show Calls _ _ _ _ fun e w' => e = .returned (.bool (decide (x < 0) || decide (200000 < x) || decide (v < 0) || decide (4294967296 < v))) ∧ _
  by_cases h0 : x < 0
  · have d0 : decide (x < 0) = true := decide_eq_true h0
    rw [d0, Bool.true_or, Bool.true_or, Bool.true_or]
    clear h0
    go_enter Tryd.func52, Tryd.ntmps52
    go_wp2
    go_returns
    exact ⟨rfl, X.out⟩
  have d0 : decide (x < 0) = false := decide_eq_false h0
  by_cases h1 : 200000 < x
  · have d1 : decide (200000 < x) = true := decide_eq_true h1
    rw [d0, d1, Bool.false_or, Bool.true_or, Bool.true_or]
    clear h0 h1
    go_enter Tryd.func52, Tryd.ntmps52
    go_wp2
    go_returns
    exact ⟨rfl, X.out⟩
  have d1 : decide (200000 < x) = false := decide_eq_false h1
  by_cases h2 : v < 0
  · have d2 : decide (v < 0) = true := decide_eq_true h2
    rw [d0, d1, d2, Bool.false_or, Bool.false_or, Bool.true_or]
    clear h0 h1 h2
    go_enter Tryd.func52, Tryd.ntmps52
    go_wp2
    go_returns
    exact ⟨rfl, X.out⟩
  have d2 : decide (v < 0) = false := decide_eq_false h2
  rw [d0, d1, d2, Bool.false_or, Bool.false_or, Bool.false_or]
  clear h0 h1 h2
  generalize hB : decide (4294967296 < v) = B
  go_enter Tryd.func52, Tryd.ntmps52
  go_wp2
  go_returns
  exact ⟨rfl, X.out⟩
set_option maxHeartbeats 8000000 in
set_option maxRecDepth 100000 in
theorem dipRis_some (b off q cap : Nat) (l : List (Int × Int)) (A : Bool) (w : World) (n0 : 1 ≤ q) (n1 : q ≤ 200) (hb : b < w.heap.size) (hcap : q + 1 ≤ cap)
    (hc : Hid (∀ j, j < q + 1 → w.cell? ⟨b, off + j * 2, none⟩ = some (.int .i64 (gX l j)) ∧ w.cell? ⟨b, off + j * 2 + 1, none⟩ = some (.int .i64 (gR l j))))
    (h5 : Hid ((∃ i, i < q ∧ ¬ (gX l i < gX l (i + 1) ∧ gR l i ≤ gR l (i + 1))) → A = false)) (h6 : Hid ((∀ i, i < q → gX l i < gX l (i + 1) ∧ gR l i ≤ gR l (i + 1)) → A = true)) :
    Calls Tryd.prog 53 #[.slice (some ⟨b, off, none⟩) (q + 1) cap] w fun e w' => e = .returned (.bool A) ∧ Below w.heap.size w w' := by
  have hc1 : ¬ cap = 1 := by omega
  go_enter Tryd.func53, Tryd.ntmps53
  go_wp2_with fail
  go_loopw [8] (fun ii wr => ∃ j : Nat, j ≤ q ∧ ii = .int .i64 (j : Int) ∧ Hid (Below w.heap.size w wr) ∧ Hid (∀ i, i < j → gX l i < gX l (i + 1) ∧ gR l i ≤ gR l (i + 1))) (fun ii _ => q - (intOf ii).toNat)
  case atStart => exact ⟨0, by omega, rfl, Below.refl _ _, fun i hi => by omega⟩
  case round =>
    obtain ⟨j, hj, rfl, hB, hs⟩ := hrel
    by_cases hlt : j < q
    · have bb : b < wr.heap.size := Nat.lt_of_lt_of_le hb hB.out.size
      have c0 : wr.cell? ⟨b, off + j * 2, none⟩ = some (.int .i64 (gX l j)) := by rw [(bcell hB.out).1 _ _ hb]; exact (hc.out j (by omega)).1
      have c1 : wr.cell? ⟨b, off + j * 2 + 1, none⟩ = some (.int .i64 (gR l j)) := by rw [(bcell hB.out).1 _ _ hb]; exact (hc.out j (by omega)).2
      have c2 : wr.cell? ⟨b, off + 2 + j * 2, none⟩ = some (.int .i64 (gX l (j + 1))) := by rw [show off + 2 + j * 2 = off + (j + 1) * 2 by omega, (bcell hB.out).1 _ _ hb]; exact (hc.out (j + 1) (by omega)).1
      have c3 : wr.cell? ⟨b, off + 2 + j * 2 + 1, none⟩ = some (.int .i64 (gR l (j + 1))) := by rw [show off + 2 + j * 2 + 1 = off + (j + 1) * 2 + 1 by omega, (bcell hB.out).1 _ _ hb]; exact (hc.out (j + 1) (by omega)).2
      have HG : Hid (gX l j < gX l (j + 1) ∧ gR l j ≤ gR l (j + 1) → ∀ i, i < j + 1 → gX l i < gX l (i + 1) ∧ gR l i ≤ gR l (i + 1)) := fun h i hi => by
        by_cases e : i = j
        · rw [e]; exact h
        · exact hs.out i (by omega)
      have HN : Hid (¬ (gX l j < gX l (j + 1) ∧ gR l j ≤ gR l (j + 1)) → A = false) := fun h => h5.out ⟨j, hlt, h⟩
      generalize gX l j = x at *
      generalize gR l j = u at *
      generalize gX l (j + 1) = y at *
      generalize gR l (j + 1) = v at *
      have l0 : (j : Int) < (q : Int) + 1 := by omega
      have d0 : (wr.alloc (.cells #[.int .i64 y, .int .i64 v] 39)).cell? ⟨b, off + j * 2, none⟩ = some (.int .i64 x) := by rw [World.cell?_alloc_lt wr _ _ bb]; exact c0
      have d1 : (wr.alloc (.cells #[.int .i64 y, .int .i64 v] 39)).cell? ⟨b, off + j * 2 + 1, none⟩ = some (.int .i64 u) := by rw [World.cell?_alloc_lt wr _ _ bb]; exact c1
      have X := Lib.hid (bel_trans hB.out (bel_alloc (o := .cells #[.int .i64 y, .int .i64 v] 39) (Below.refl _ _)))
      have X2 : Hid (∀ m, Below w.heap.size w ((wr.alloc (.cells #[.int .i64 y, .int .i64 v] 39)).drewN m)) := Lib.hid fun m => ⟨X.out.os, X.out.tape, X.out.output, X.out.size, X.out.block⟩
      by_cases hxy : y ≤ x
      · obtain rfl := HN.out (by omega)
        have hd : decide (y ≤ x) = true := decide_eq_true hxy
        clear HN HG h5 h6 hxy
        go_wp2_with fail
        go_quiet (fail)
        go_wp2
        go_returns
        exact ⟨rfl, X2.out _⟩
      · have hd : decide (y ≤ x) = false := decide_eq_false hxy
        by_cases huv : v < u
        · obtain rfl := HN.out (by omega)
          have hd2 : decide (v < u) = true := decide_eq_true huv
          clear HN HG h5 h6 hxy huv
          go_wp2_with fail
          go_quiet (fail)
          go_wp2
          go_returns
          exact ⟨rfl, X2.out _⟩
        · have hd2 : decide (v < u) = false := decide_eq_false huv
          replace HG := Lib.hid (HG.out (by omega))
          clear HN hxy huv
          go_wp2_with fail
          go_quiet (fail)
          go_wp2
          go_roundw
          case rel => exact ⟨j + 1, by omega, by go_num, X2.out _, HG.out⟩
          case measure => simp [intOf]; omega
    · obtain rfl : j = q := by omega
      obtain rfl := h6.out hs.out
      clear h5 h6
      go_wp2
      go_returns
      exact ⟨rfl, hB.out⟩
end Go.Proofs.YtdjlainhaoaeiaaDoor

/- Package dip: Check, ends, Read. -/
namespace Go.Proofs.YtdjlainhaoaeiaaDoor
open Go.RowKit

/-- a value that reads as a table -/
def TbV (w : World) (v : Value) (l : List (Int × Int)) (tol : Int) : Prop := ∃ a cap, v = .agg #[.slice a l.length cap, .int .i64 tol] ∧ Pts w (.slice a l.length cap) l
theorem TbV.below {w w' : World} {v : Value} {l : List (Int × Int)} {tol : Int} (h : TbV w v l tol) (hb : Below w.heap.size w w') : TbV w' v l tol := by
  obtain ⟨a, cap, e, hp⟩ := h
  exact ⟨a, cap, e, hp.below hb⟩
set_option maxHeartbeats 8000000 in
theorem dipChk_len (a : Option Addr) (n cap : Nat) (tol V : Int) (w : World) (h : (n < 2 ∧ V = 9) ∨ (¬ n < 2 ∧ 128 < n ∧ n ≤ 9223372036854775807 ∧ V = 8)) :
    Calls Tryd.prog 32 #[.agg #[.slice a n cap, .int .i64 tol]] w fun e w' => e = .returned (.int .i64 V) ∧ Below w.heap.size w w' := by
  have X1 : Hid (Below w.heap.size w (w.alloc (.cells #[.slice a n cap, .int .i64 tol] 24))) := Lib.hid (bel_alloc (Below.refl _ _))
  rcases h with ⟨h, rfl⟩ | ⟨h, h2, h3, rfl⟩
  all_goals
    go_enter Tryd.func32, Tryd.ntmps32
    go_wp2
    go_returns
    exact ⟨rfl, X1.out⟩
set_option maxHeartbeats 8000000 in
theorem dipChk_tol (a : Option Addr) (n cap : Nat) (tol : Int) (w : World) (n0 : 2 ≤ n) (n1 : n ≤ 128) (h : tol < 0 ∨ (¬ tol < 0 ∧ 4294967296 < tol)) :
    Calls Tryd.prog 32 #[.agg #[.slice a n cap, .int .i64 tol]] w fun e w' => e = .returned (.int .i64 2) ∧ Below w.heap.size w w' := by
  have X1 : Hid (Below w.heap.size w (w.alloc (.cells #[.slice a n cap, .int .i64 tol] 24))) := Lib.hid (bel_alloc (Below.refl _ _))
  rcases h with h | ⟨h, h2⟩
  · have d1 : decide (tol < 0) = true := decide_eq_true h
    go_enter Tryd.func32, Tryd.ntmps32
    go_wp2
    go_returns
    exact ⟨rfl, X1.out⟩
  · have d1 : decide (tol < 0) = false := decide_eq_false h
    have d2 : decide (4294967296 < tol) = true := decide_eq_true h2
    go_enter Tryd.func32, Tryd.ntmps32
    go_wp2
    go_returns
    exact ⟨rfl, X1.out⟩
set_option maxHeartbeats 8000000 in
theorem dipChk_core (a : Option Addr) (n cap : Nat) (tol V : Int) (O A : Bool) (w : World) (n0 : 2 ≤ n) (n1 : n ≤ 128) (h0 : ¬ tol < 0) (h1 : ¬ 4294967296 < tol) (hV : (O = true ∧ V = 2) ∨ (O = false ∧ A = false ∧ V = 5) ∨ (O = false ∧ A = true ∧ V = 0))
    (H3 : Hid (∀ W, Below w.heap.size w W → Calls Tryd.prog 28 #[.slice a n cap, .func (.func 52) #[] #[]] W fun e w' => e = .returned (.bool O) ∧ Below W.heap.size W w'))
    (H4 : Hid (∀ W, Below w.heap.size w W → Calls Tryd.prog 53 #[.slice a n cap] W fun e w' => e = .returned (.bool A) ∧ Below W.heap.size W w')) :
    Calls Tryd.prog 32 #[.agg #[.slice a n cap, .int .i64 tol]] w fun e w' => e = .returned (.int .i64 V) ∧ Below w.heap.size w w' := by
  have d1 : decide (tol < 0) = false := decide_eq_false h0
  have d2 : decide (4294967296 < tol) = false := decide_eq_false h1
  have T0 := Lib.hid (Two.new w (.slice a n cap) (.int .i64 tol) 24)
  clear h0 h1
  go_enter Tryd.func32, Tryd.ntmps32
  go_wp2_with fail
  refine (H3.out _ (bel_alloc (Below.refl _ _))).mono ?_
  rintro e w1 ⟨rfl, gg⟩
  replace T0 := Lib.hid (T0.out.below gg)
  have X1 := Lib.hid (bel_alloc gg); clear gg
  obtain ⟨t0, t1, _, _, _⟩ := T0.out
  rcases hV with ⟨rfl, rfl⟩ | hV
  · go_wp2
    go_returns
    exact ⟨rfl, X1.out⟩
  rcases hV with ⟨rfl, rfl, rfl⟩ | ⟨rfl, rfl, rfl⟩
  all_goals
    go_wp2_with fail
    refine (H4.out _ X1.out).mono ?_
    rintro e w2 ⟨rfl, gg⟩
    replace X1 := Lib.hid (bel_trans X1.out gg); clear gg t0 t1
    go_wp2
    go_returns
    exact ⟨rfl, X1.out⟩
theorem dipChk_any (v : Value) (l : List (Int × Int)) (tol : Int) (w : World) (hv : TbV w v l tol) :
    Calls Tryd.prog 32 #[v] w fun e w' => e = .returned (.int .i64 (tbE l tol)) ∧ Below w.heap.size w w' := by
  obtain ⟨a, cap, rfl, hp⟩ := hv
  unfold tbE
  by_cases g1 : l.length < 2
  · rw [if_pos g1]
    exact dipChk_len a _ cap tol _ w (.inl ⟨g1, rfl⟩)
  · rw [if_neg g1]
    by_cases g2 : 128 < l.length
    · rw [if_pos g2]
      obtain ⟨_, _, e, hc, _⟩ := hp
      simp only [Value.slice.injEq, true_and] at e
      obtain ⟨rfl, rfl⟩ := e
      exact dipChk_len _ _ cap tol _ w (.inr ⟨g1, g2, by omega, rfl⟩)
    · rw [if_neg g2]
      by_cases g3 : tol < 0 ∨ 4294967296 < tol
      · rw [if_pos (by rw [Bool.or_eq_true, Bool.or_eq_true, decide_eq_true_eq, decide_eq_true_eq]; exact .inl g3)]
        exact dipChk_tol a _ cap tol w (by omega) (by omega) (by omega)
      · have e3 : (decide (tol < 0) || decide (4294967296 < tol)) = false := by rw [Bool.or_eq_false_iff, decide_eq_false_iff_not, decide_eq_false_iff_not]; omega
        rw [e3, Bool.false_or]
        have H3 : Hid (∀ W, Below w.heap.size w W → Calls Tryd.prog 28 #[.slice a l.length cap, .func (.func 52) #[] #[]] W fun e w' => e = .returned (.bool (l.any mkOut)) ∧ Below W.heap.size W w') := Lib.hid fun W hW => by
          refine conm_of _ _ a _ cap rfl (fun j => mkOut (gX l j, gR l j)) _ W (Lib.hid (idxm_any 52 #[] _ (enters_of Tryd.func52 (by kernel_rfl) rfl) _ l W (by omega) (hp.below hW) (Lib.hid fun j W2 hj hW2 => dipOut_any _ _ W2))) (Lib.hid ?_)
          exact anyq_at
        obtain ⟨b, off, rfl, hb, hc⟩ := hp.at (by omega)
        have hcp : l.length ≤ cap := by
          obtain ⟨_, _, e, hcp, _⟩ := hp
          simp only [Value.slice.injEq, true_and] at e
          omega
        obtain ⟨q, hq⟩ : ∃ q, l.length = q + 1 := ⟨l.length - 1, by omega⟩
        rw [hq] at H3 hc hcp ⊢
        rw [Nat.add_sub_cancel]
        refine dipChk_core _ _ cap tol _ (l.any mkOut) (risB l q) w (by omega) (by omega) (by omega) (by omega) ?_ H3 (Lib.hid fun W hW => dipRis_some b off q cap l _ W (by omega) (by omega) (Nat.lt_of_lt_of_le hb hW.size) hcp (Lib.hid fun j hj => ⟨by rw [(bcell hW).1 _ _ hb]; exact (hc j hj).1, by rw [(bcell hW).1 _ _ hb]; exact (hc j hj).2⟩) (Lib.hid fun ⟨i, hi, hx⟩ => ?_) (Lib.hid fun h => (risB_iff l q).2 h))
        · cases l.any mkOut with
          | true => left; simp
          | false =>
            right
            cases risB l q with
            | false => left; simp
            | true => right; simp
        · rw [Bool.eq_false_iff]
          intro h
          exact hx ((risB_iff l q).1 h i hi)
/-! ### ends -/
def EnI (w : World) (x y : Value) (W : World) : Prop :=
  Two w.heap.size W x y ∧ Two (w.heap.size + 1) W (.int .i64 0) (.int .i64 0) ∧ Two (w.heap.size + 1 + 1) W (.int .i64 0) (.int .i64 0) ∧ Below w.heap.size w W
theorem EnI.below {w : World} {x y : Value} {W W' : World} (h : EnI w x y W) (hb : Below W.heap.size W W') : EnI w x y W' := ⟨h.1.below hb, h.2.1.below hb, h.2.2.1.below hb, bel_trans h.2.2.2 hb⟩
theorem EnI.init (w : World) (x y : Value) (T U : TypeId) : EnI w x y (((w.alloc (.cells #[x, y] T)).alloc (.cells #[.int .i64 0, .int .i64 0] U)).alloc (.cells #[.int .i64 0, .int .i64 0] U)) := by
  have h2 := Two.new (w.alloc (.cells #[x, y] T)) (.int .i64 0) (.int .i64 0) U
  have h3 := Two.new ((w.alloc (.cells #[x, y] T)).alloc (.cells #[.int .i64 0, .int .i64 0] U)) (.int .i64 0) (.int .i64 0) U
  rw [World.size_alloc] at h2
  rw [World.size_alloc, World.size_alloc] at h3
  exact ⟨((Two.new w x y T).alloc _).alloc _, h2.alloc _, h3, bel_alloc (bel_alloc (bel_alloc (Below.refl _ _)))⟩
/-- the two marks are written -/
theorem EnI.put {w : World} {x y : Value} {W : World} (h : EnI w x y W) (p q r s : Value) :
    Two (w.heap.size + 1) ((((W.setCell ⟨w.heap.size + 1, 0, none⟩ p).setCell ⟨w.heap.size + 1, 1, none⟩ q).setCell ⟨w.heap.size + 1 + 1, 0, none⟩ r).setCell ⟨w.heap.size + 1 + 1, 1, none⟩ s) p q ∧
    Two (w.heap.size + 1 + 1) ((((W.setCell ⟨w.heap.size + 1, 0, none⟩ p).setCell ⟨w.heap.size + 1, 1, none⟩ q).setCell ⟨w.heap.size + 1 + 1, 0, none⟩ r).setCell ⟨w.heap.size + 1 + 1, 1, none⟩ s) r s ∧
    Below w.heap.size w ((((W.setCell ⟨w.heap.size + 1, 0, none⟩ p).setCell ⟨w.heap.size + 1, 1, none⟩ q).setCell ⟨w.heap.size + 1 + 1, 0, none⟩ r).setCell ⟨w.heap.size + 1 + 1, 1, none⟩ s) := by
  refine ⟨(((h.2.1.set0 p).set1 q).other ⟨w.heap.size + 1 + 1, 0, none⟩ (by show w.heap.size + 1 + 1 ≠ w.heap.size + 1; omega) r).other ⟨w.heap.size + 1 + 1, 1, none⟩ (by show w.heap.size + 1 + 1 ≠ w.heap.size + 1; omega) s, (((h.2.2.1.other ⟨w.heap.size + 1, 0, none⟩ (by show w.heap.size + 1 ≠ w.heap.size + 1 + 1; omega) p).other ⟨w.heap.size + 1, 1, none⟩ (by show w.heap.size + 1 ≠ w.heap.size + 1 + 1; omega) q).set0 r).set1 s, ?_⟩
  exact (((h.2.2.2.setCell (p := ⟨w.heap.size + 1, 0, none⟩) (by show w.heap.size ≤ w.heap.size + 1; omega) _).setCell (p := ⟨w.heap.size + 1, 1, none⟩) (by show w.heap.size ≤ w.heap.size + 1; omega) _).setCell (p := ⟨w.heap.size + 1 + 1, 0, none⟩) (by show w.heap.size ≤ w.heap.size + 1 + 1; omega) _).setCell (p := ⟨w.heap.size + 1 + 1, 1, none⟩) (by show w.heap.size ≤ w.heap.size + 1 + 1; omega) _
set_option maxHeartbeats 8000000 in
theorem dipEnds_bad (a : Option Addr) (n cap : Nat) (tol E : Int) (w : World) (e2 : (E != 0) = true)
    (H1 : Hid (∀ W, Below w.heap.size w W → Calls Tryd.prog 32 #[.agg #[.slice a n cap, .int .i64 tol]] W fun e w' => e = .returned (.int .i64 E) ∧ Below W.heap.size W w')) :
    Calls Tryd.prog 50 #[.agg #[.slice a n cap, .int .i64 tol]] w fun e w' => e = .returned (.tuple #[.agg #[.int .i64 0, .int .i64 0], .agg #[.int .i64 0, .int .i64 0], .int .i64 1]) ∧ Below w.heap.size w w' := by
  have S0 := Lib.hid (EnI.init w (.slice a n cap) (.int .i64 tol) 24 39)
  go_enter Tryd.func50, Tryd.ntmps50
  go_wp2_with fail
  refine (H1.out _ S0.out.2.2.2).mono ?_
  rintro e w1 ⟨rfl, gg⟩
  replace S0 := Lib.hid (S0.out.below gg); clear gg
  obtain ⟨_, ⟨a0, a1, af0, af1, _⟩, ⟨b0, b1, bf0, bf1, _⟩, _⟩ := S0.out
  go_wp2
  obtain ⟨P, Q, B⟩ := S0.out.put (.int .i64 0) (.int .i64 0) (.int .i64 0) (.int .i64 0)
  obtain ⟨t0, t1, _, _, _⟩ := P
  obtain ⟨u0, u1, _, _, _⟩ := Q
  refine bodyPost_ret (v := .tuple #[.agg #[.int .i64 0, .int .i64 0], .agg #[.int .i64 0, .int .i64 0], .int .i64 1]) (by simp [results, Tryd.results50, go_sem, t0, t1, u0, u1]) rfl ?_
  exact ⟨rfl, B⟩
set_option maxHeartbeats 16000000 in
set_option maxRecDepth 100000 in
theorem dipEnds_ok (b off m cap : Nat) (tol x0 v0 x1 v1 : Int) (w : World) (m1 : m ≤ 1000) (hb : b < w.heap.size)
    (c0 : Hid (w.cell? ⟨b, off, none⟩ = some (.int .i64 x0))) (c1 : Hid (w.cell? ⟨b, off + 1, none⟩ = some (.int .i64 v0))) (c2 : Hid (w.cell? ⟨b, off + m * 2, none⟩ = some (.int .i64 x1))) (c3 : Hid (w.cell? ⟨b, off + m * 2 + 1, none⟩ = some (.int .i64 v1)))
    (H1 : Hid (∀ W, Below w.heap.size w W → Calls Tryd.prog 32 #[.agg #[.slice (some ⟨b, off, none⟩) (m + 1) cap, .int .i64 tol]] W fun e w' => e = .returned (.int .i64 0) ∧ Below W.heap.size W w')) :
    Calls Tryd.prog 50 #[.agg #[.slice (some ⟨b, off, none⟩) (m + 1) cap, .int .i64 tol]] w fun e w' => e = .returned (.tuple #[.agg #[.int .i64 x0, .int .i64 v0], .agg #[.int .i64 x1, .int .i64 v1], .int .i64 0]) ∧ Below w.heap.size w w' := by
  have S0 := Lib.hid (EnI.init w (.slice (some ⟨b, off, none⟩) (m + 1) cap) (.int .i64 tol) 24 39)
  have wk : IntKind.i64.wrap (((m + 1 : Nat) : Int) - 1) = (m : Int) := by rw [wrap_in _ ⟨by omega, by omega⟩]; omega
  have wk1 : IntKind.i64.wrap ((m : Int) + 1 - 1) = (m : Int) := by rw [wrap_in _ ⟨by omega, by omega⟩]; omega
  have wk2 : (m : Int) < ((m + 1 : Nat) : Int) := by omega
  have wk3 : (m : Int) < (m : Int) + 1 := by omega
  have wk4 : (0 : Int) < (m : Int) + 1 := by omega
  have nb1 : b ≠ w.heap.size + 1 := by omega
  have nb2 : w.heap.size + 1 ≠ b := by omega
  have nb3 : b ≠ w.heap.size + 1 + 1 := by omega
  have nb4 : w.heap.size + 1 + 1 ≠ b := by omega
  go_enter Tryd.func50, Tryd.ntmps50
  go_wp2_with fail
  refine (H1.out _ S0.out.2.2.2).mono ?_
  rintro e w1 ⟨rfl, gg⟩
  replace S0 := Lib.hid (S0.out.below gg); clear gg
  have d0 : w1.cell? ⟨b, off, none⟩ = some (.int .i64 x0) := by rw [(bcell S0.out.2.2.2).1 _ _ hb]; exact c0.out
  have d1 : w1.cell? ⟨b, off + 1, none⟩ = some (.int .i64 v0) := by rw [(bcell S0.out.2.2.2).1 _ _ hb]; exact c1.out
  have d2 : w1.cell? ⟨b, off + m * 2, none⟩ = some (.int .i64 x1) := by rw [(bcell S0.out.2.2.2).1 _ _ hb]; exact c2.out
  have d3 : w1.cell? ⟨b, off + m * 2 + 1, none⟩ = some (.int .i64 v1) := by rw [(bcell S0.out.2.2.2).1 _ _ hb]; exact c3.out
  obtain ⟨⟨z0, z1, _, _, _⟩, ⟨a0, a1, af0, af1, _⟩, ⟨b0, b1, bf0, bf1, _⟩, _⟩ := S0.out
  go_wp2_with fail
  go_region
  go_wp2
  obtain ⟨P, Q, B⟩ := S0.out.put (.int .i64 x0) (.int .i64 v0) (.int .i64 x1) (.int .i64 v1)
  obtain ⟨t0, t1, _, _, _⟩ := P.below (bel_drew _)
  obtain ⟨u0, u1, _, _, _⟩ := Q.below (bel_drew _)
  refine bodyPost_ret (v := .tuple #[.agg #[.int .i64 x0, .int .i64 v0], .agg #[.int .i64 x1, .int .i64 v1], .int .i64 0]) (by simp [results, Tryd.results50, go_sem, t0, t1, u0, u1]) rfl ?_
  exact ⟨rfl, bel_trans B (bel_drew _)⟩
/-- what ends returns -/
def enF (l : List (Int × Int)) (tol : Int) : Int × Int := if tbE l tol = 0 then (gX l 0, gR l 0) else (0, 0)
def enZ (l : List (Int × Int)) (tol : Int) : Int × Int := if tbE l tol = 0 then (gX l (l.length - 1), gR l (l.length - 1)) else (0, 0)
def enE (l : List (Int × Int)) (tol : Int) : Int := if tbE l tol = 0 then 0 else 1
theorem dipEnds_any (v : Value) (l : List (Int × Int)) (tol : Int) (w : World) (hv : TbV w v l tol) :
    Calls Tryd.prog 50 #[v] w fun e w' => e = .returned (.tuple #[.agg #[.int .i64 (enF l tol).1, .int .i64 (enF l tol).2], .agg #[.int .i64 (enZ l tol).1, .int .i64 (enZ l tol).2], .int .i64 (enE l tol)]) ∧ Below w.heap.size w w' := by
  have H1 : Hid (∀ W, Below w.heap.size w W → _) := Lib.hid fun W hW => dipChk_any v l tol W (hv.below hW)
  obtain ⟨a, cap, rfl, hp⟩ := hv
  unfold enF enZ enE
  by_cases h : tbE l tol = 0
  · rw [if_pos h, if_pos h, if_pos h]
    rw [h] at H1
    obtain ⟨hR, _⟩ := tbE_iff.1 h
    have n0 := hR.n0
    have n1 := hR.n1
    obtain ⟨b, off, rfl, hb, hc⟩ := hp.at (by omega)
    obtain ⟨m, hm⟩ : ∃ m, l.length = m + 1 := ⟨l.length - 1, by omega⟩
    have c0 := hc 0 (by omega)
    rw [Nat.zero_mul, Nat.add_zero] at c0
    have c1 := hc m (by omega)
    rw [hm] at H1 ⊢
    rw [Nat.add_sub_cancel]
    exact dipEnds_ok b off m cap tol _ _ _ _ w (by omega) hb (Lib.hid c0.1) (Lib.hid c0.2) (Lib.hid c1.1) (Lib.hid c1.2) H1
  · rw [if_neg h, if_neg h, if_neg h]
    exact dipEnds_bad a _ cap tol _ w (by simpa using h) H1
/-! ### Read -/
set_option maxHeartbeats 8000000 in
theorem dipRead_core (a : Option Addr) (n cap : Nat) (tol x x0 v0 x1 v1 E V Q : Int) (w : World)
    (hV : ((E != 0) = true ∧ V = E ∧ Q = 0) ∨ (E = 0 ∧ x < x0 ∧ V = 2 ∧ Q = 0) ∨ (E = 0 ∧ ¬ x < x0 ∧ x1 < x ∧ V = 2 ∧ Q = 0) ∨ (E = 0 ∧ ¬ x < x0 ∧ ¬ x1 < x ∧ V = 0))
    (H1 : Hid (∀ W, Below w.heap.size w W → Calls Tryd.prog 50 #[.agg #[.slice a n cap, .int .i64 tol]] W fun e w' => e = .returned (.tuple #[.agg #[.int .i64 x0, .int .i64 v0], .agg #[.int .i64 x1, .int .i64 v1], .int .i64 E]) ∧ Below W.heap.size W w'))
    (H2 : Hid (E = 0 → ¬ x < x0 → ¬ x1 < x → ∀ W, Below w.heap.size w W → Calls Tryd.prog 51 #[.slice a n cap, .int .i64 x] W fun e w' => e = .returned (.int .i64 Q) ∧ Below W.heap.size W w')) :
    Calls Tryd.prog 27 #[.agg #[.slice a n cap, .int .i64 tol], .int .i64 x] w fun e w' => e = .returned (.tuple #[.int .i64 Q, .int .i64 V]) ∧ Below w.heap.size w w' := by
  have T0 := Lib.hid (Two.new w (.slice a n cap) (.int .i64 tol) 24)
  go_enter Tryd.func27, Tryd.ntmps27
  go_wp2_with fail
  refine (H1.out _ (bel_alloc (Below.refl _ _))).mono ?_
  rintro e w1 ⟨rfl, gg⟩
  replace T0 := Lib.hid (((T0.out.below gg).alloc (.cells #[.int .i64 x0, .int .i64 v0] 39)).alloc (.cells #[.int .i64 x1, .int .i64 v1] 39))
  have X1 := Lib.hid (bel_trans (bel_alloc gg) (bel_alloc (o := .cells #[.int .i64 x0, .int .i64 v0] 39) (bel_alloc (o := .cells #[.int .i64 x1, .int .i64 v1] 39) (Below.refl _ _)))); clear gg
  obtain ⟨t0, t1, _, _, _⟩ := T0.out
  rcases hV with ⟨e2, rfl, rfl⟩ | ⟨rfl, h, rfl, rfl⟩ | ⟨rfl, h, h2, rfl, rfl⟩ | ⟨rfl, h, h2, rfl⟩
  · go_wp2
    go_returns
    exact ⟨rfl, X1.out⟩
  · have d1 : decide (x < x0) = true := decide_eq_true h
    go_wp2
    go_returns
    exact ⟨rfl, X1.out⟩
  · have d1 : decide (x < x0) = false := decide_eq_false (by omega)
    have d2 : decide (x1 < x) = true := decide_eq_true h2
    go_wp2
    go_returns
    exact ⟨rfl, X1.out⟩
  · have d1 : decide (x < x0) = false := decide_eq_false (by omega)
    have d2 : decide (x1 < x) = false := decide_eq_false (by omega)
    replace H2 := Lib.hid (H2.out rfl (by omega) (by omega))
    clear h h2
    go_wp2_with fail
    refine (H2.out _ X1.out).mono ?_
    rintro e w2 ⟨rfl, gg⟩
    replace X1 := Lib.hid (bel_trans X1.out gg); clear gg
    go_wp2
    go_returns
    exact ⟨rfl, X1.out⟩
theorem dipRead_any (v : Value) (l : List (Int × Int)) (tol x : Int) (w : World) (hv : TbV w v l tol) :
    Calls Tryd.prog 27 #[v, .int .i64 x] w fun e w' => e = .returned (.tuple #[.int .i64 (rdQ l tol x), .int .i64 (rdE l tol x)]) ∧ Below w.heap.size w w' := by
  have H1 : Hid (∀ W, Below w.heap.size w W → _) := Lib.hid fun W hW => dipEnds_any v l tol W (hv.below hW)
  obtain ⟨a, cap, rfl, hp⟩ := hv
  unfold enF enZ enE at H1
  unfold rdQ
  by_cases h : tbE l tol = 0
  · rw [if_pos h, if_pos h, if_pos h] at H1
    obtain ⟨hR, _⟩ := tbE_iff.1 h
    have hE : rdE l tol x = if x < gX l 0 ∨ gX l (l.length - 1) < x then 2 else 0 := by unfold rdE; rw [if_neg (by simpa using h)]
    by_cases g : x < gX l 0 ∨ gX l (l.length - 1) < x
    · rw [if_pos g] at hE
      rw [hE, if_neg (by omega)]
      exact dipRead_core a _ cap tol x _ _ _ _ _ _ _ w ((Classical.em (x < gX l 0)).elim (fun g1 => .inr (.inl ⟨rfl, g1, rfl, rfl⟩)) (fun g1 => .inr (.inr (.inl ⟨rfl, g1, (by show gX l (l.length - 1) < x; omega), rfl, rfl⟩)))) H1 (Lib.hid fun _ h1 h2 => by omega)
    · rw [if_neg g] at hE
      rw [hE, if_pos rfl]
      exact dipRead_core a _ cap tol x _ _ _ _ _ _ _ w (.inr (.inr (.inr ⟨rfl, by omega, by omega, rfl⟩))) H1 (Lib.hid fun _ h1 h2 W hW => dipAt_any _ l x W (hp.below hW) hR (by omega) (by omega))
  · rw [if_neg h, if_neg h, if_neg h] at H1
    have hE : rdE l tol x = 1 := by unfold rdE; rw [if_pos (by simpa using h)]
    rw [hE, if_neg (by omega)]
    exact dipRead_core a _ cap tol x _ _ _ _ _ _ _ w (.inl ⟨rfl, rfl, rfl⟩) H1 (Lib.hid fun h1 => absurd h1 (by decide))
end Go.Proofs.YtdjlainhaoaeiaaDoor

/- Package dip: Heights. -/
namespace Go.Proofs.YtdjlainhaoaeiaaDoor
open Go.RowKit

set_option maxHeartbeats 16000000 in
set_option maxRecDepth 100000 in
/-- the inner closure: whether the volume so far above the first height is at least one -/
theorem htIn_any (i : Nat) (q1 q2 q3 : Nat) (a : Option Addr) (n cap : Nat) (tol x0 v0 v : Int) (B : Bool) (w : World) (bx : 0 ≤ x0 ∧ x0 + i ≤ 200000)
    (c1 : w.cell? ⟨q1, 0, none⟩ = some (.slice a n cap)) (c2 : w.cell? ⟨q2, 0, none⟩ = some (.int .i64 x0)) (c3 : w.cell? ⟨q3, 0, none⟩ = some (.int .i64 v)) (h1 : q1 < w.heap.size) (h2 : q2 < w.heap.size) (h3 : q3 < w.heap.size) (Q : Int) (hB : decide (v ≤ Q) = B)
    (HA : Hid (∀ W, Below w.heap.size w W → Calls Tryd.prog 51 #[.slice a n cap, .int .i64 (x0 + i)] W fun e w' => e = .returned (.int .i64 Q) ∧ Below W.heap.size W w')) :
    Calls Tryd.prog 66 #[.int .i64 i, .pointer (some ⟨q1, 0, none⟩), .pointer (some ⟨q2, 0, none⟩), .pointer (some ⟨q3, 0, none⟩)] w fun e w' => e = .returned (.bool B) ∧ Below w.heap.size w w' := by
  have wx : IntKind.i64.wrap (x0 + i) = x0 + i := wrap_in _ ⟨by omega, by omega⟩
  have CE : Hid (∀ W, Below w.heap.size w W → W.cell? ⟨q1, 0, none⟩ = some (.slice a n cap) ∧ W.cell? ⟨q2, 0, none⟩ = some (.int .i64 x0) ∧ W.cell? ⟨q3, 0, none⟩ = some (.int .i64 v)) := Lib.hid fun W hW => ⟨cell_bel c1 hW, cell_bel c2 hW, cell_bel c3 hW⟩
  have X0 := Lib.hid (bel_drew w)
  go_enter Tryd.func66, Tryd.ntmps66
  go_wp2_with fail
  go_region_held3 (fun w' => w'.cell? ⟨q1, 0, none⟩ = some (.slice a n cap) ∧ w'.cell? ⟨q2, 0, none⟩ = some (.int .i64 x0) ∧ w'.cell? ⟨q3, 0, none⟩ = some (.int .i64 v)) (go_keep) (first
    | (go_at_call 51; (with_reducible refine (HA.out _ X0.out).mono ?_); rintro e w3 ⟨rfl, gg⟩; have A1 := Lib.hid (bel_trans X0.out gg); obtain ⟨c1, c2, c3⟩ := CE.out w3 A1.out; clear gg))
  all_goals go_wp2
  all_goals go_returns
  all_goals exact ⟨rfl, A1.out⟩
set_option maxHeartbeats 16000000 in
set_option maxRecDepth 100000 in
/-- the outer closure: the least height with at least a volume -/
theorem htLe_any (v : Int) (q1 q2 q3 : Nat) (a : Option Addr) (n cap : Nat) (l : List (Int × Int)) (tol : Int) (w : World) (hn : n = l.length) (hR : MR l) (hp : Pts w (.slice a n cap) l)
    (c1 : w.cell? ⟨q1, 0, none⟩ = some (.int .i64 (gX l 0))) (c2 : w.cell? ⟨q2, 0, none⟩ = some (.int .i64 (gX l (l.length - 1)))) (c3 : w.cell? ⟨q3, 0, none⟩ = some (.slice a n cap)) (h1 : q1 < w.heap.size) (h2 : q2 < w.heap.size) (h3 : q3 < w.heap.size) :
    Calls Tryd.prog 65 #[.int .i64 v, .pointer (some ⟨q1, 0, none⟩), .pointer (some ⟨q2, 0, none⟩), .pointer (some ⟨q3, 0, none⟩)] w fun e w' => e = .returned (.int .i64 (lsA l v)) ∧ Below w.heap.size w w' := by
  have hmf : ∀ (fn : Fn) (first cap : Array Value) (w : World), (Instr.makeFunc fn first cap).run Tryd.prog w = .ok (.func fn first cap) w := fun _ _ _ _ => rfl
  have s := hR.span
  have lb := ls_bd hR v
  have BX := Lib.hid (Boxed.new w 3 (.int .i64 v))
  have CE : Hid (∀ W, Below w.heap.size w W → (W.cell? ⟨q1, 0, none⟩ = some (.int .i64 (gX l 0)) ∧ W.cell? ⟨q2, 0, none⟩ = some (.int .i64 (gX l (l.length - 1))) ∧ W.cell? ⟨q3, 0, none⟩ = some (.slice a n cap)) ∧ q1 < W.heap.size ∧ q3 < W.heap.size) := Lib.hid fun W hW => ⟨⟨cell_bel c1 hW, cell_bel c2 hW, cell_bel c3 hW⟩, Nat.lt_of_lt_of_le h1 hW.size, Nat.lt_of_lt_of_le h3 hW.size⟩
  have HS : Hid (∀ W, Below w.heap.size w W → Boxed W w.heap.size 3 (.int .i64 v) → Calls Tryd.prog 63 #[.int .i64 (gX l (l.length - 1) - gX l 0 + 1), .func (.func 66) #[] #[.pointer (some ⟨q3, 0, none⟩), .pointer (some ⟨q1, 0, none⟩), .pointer (some ⟨w.heap.size, 0, none⟩)]] W fun e w' => e = .returned (.int .i64 (lsA l v - gX l 0)) ∧ Below W.heap.size W w') := Lib.hid fun W hW hBx => by
    have := search_bel 66 #[.pointer (some ⟨q3, 0, none⟩), .pointer (some ⟨q1, 0, none⟩), .pointer (some ⟨w.heap.size, 0, none⟩)] (gX l (l.length - 1) - gX l 0 + 1).toNat (fun i => decide (v ≤ vl l (gX l 0 + i))) W (enters_of Tryd.func66 (by kernel_rfl) rfl) (by omega) (Lib.hid fun i W2 hi hW2 => ?_) (Lib.hid (ls_mono hR v))
    · rw [show (((gX l (l.length - 1) - gX l 0 + 1).toNat : Nat) : Int) = gX l (l.length - 1) - gX l 0 + 1 by omega] at this
      rw [show lsA l v - gX l 0 = (fst (fun i => decide (v ≤ vl l (gX l 0 + i))) (gX l (l.length - 1) - gX l 0 + 1).toNat : Nat) by unfold lsA; omega]
      exact this
    · have hB2 := CE.out W2 (bel_trans hW hW2)
      have b3 := cell_bel hBx.cell hW2
      have lt3 := Nat.lt_of_lt_of_le hBx.lt hW2.size
      refine htIn_any i q3 q1 w.heap.size a n cap tol (gX l 0) 0 v _ W2 ⟨by omega, by omega⟩ hB2.1.2.2 hB2.1.1 b3 hB2.2.2 hB2.2.1 lt3 (vl l (gX l 0 + i)) rfl (Lib.hid fun W3 hW3 => ?_)
      subst hn
      exact dipAt_any _ l _ W3 (((hp.below hW).below hW2).below hW3) hR (by omega) (by omega)
  generalize gX l 0 = x0 at *
  generalize gX l (l.length - 1) = x1 at *
  generalize lsA l v = L at *
  have w1 : IntKind.i64.wrap (x1 - x0) = x1 - x0 := wrap_in _ ⟨by omega, by omega⟩
  have w2 : IntKind.i64.wrap (x1 - x0 + 1) = x1 - x0 + 1 := wrap_in _ ⟨by omega, by omega⟩
  have w3 : IntKind.i64.wrap (x0 + (L - x0)) = L := by rw [show x0 + (L - x0) = L by omega]; exact wrap_in _ ⟨by omega, by omega⟩
  have X0 : Hid (Below w.heap.size w (w.alloc (.cells #[.int .i64 v] 3)).drew) := Lib.hid (bel_alloc (bel_drew _))
  have B0 : Hid (Boxed (w.alloc (.cells #[.int .i64 v] 3)).drew w.heap.size 3 (.int .i64 v)) := Lib.hid BX.out
  obtain ⟨⟨d1, d2, d3⟩, _⟩ := CE.out (w.alloc (.cells #[.int .i64 v] 3)) (bel_alloc (Below.refl _ _))
  clear c1 c2 c3 BX hp
  go_enter Tryd.func65, Tryd.ntmps65
  go_wp2_with fail
  go_region_held3 (fun w' => w'.cell? ⟨q1, 0, none⟩ = some (.int .i64 x0) ∧ w'.cell? ⟨q2, 0, none⟩ = some (.int .i64 x1)) (go_keep) (first
    | (go_at_call 63; (with_reducible refine (HS.out _ X0.out B0.out).mono ?_); rintro e w3 ⟨rfl, gg⟩; have A1 := Lib.hid (bel_trans X0.out gg); obtain ⟨⟨d1, d2, d3⟩, _⟩ := CE.out w3 A1.out; clear gg))
  all_goals go_wp2
  all_goals go_returns
  all_goals exact ⟨rfl, A1.out⟩
/-- what Heights keeps -/
def HtI (w : World) (x y : Value) (W : World) : Prop :=
  Two w.heap.size W x y ∧ Two (w.heap.size + 1) W (.int .i64 0) (.int .i64 0) ∧ Below w.heap.size w W
theorem HtI.below {w : World} {x y : Value} {W W' : World} (h : HtI w x y W) (hb : Below W.heap.size W W') : HtI w x y W' := ⟨h.1.below hb, h.2.1.below hb, bel_trans h.2.2 hb⟩
theorem HtI.init (w : World) (x y : Value) (T U : TypeId) : HtI w x y ((w.alloc (.cells #[x, y] T)).alloc (.cells #[.int .i64 0, .int .i64 0] U)) := by
  have h2 := Two.new (w.alloc (.cells #[x, y] T)) (.int .i64 0) (.int .i64 0) U
  rw [World.size_alloc] at h2
  exact ⟨(Two.new w x y T).alloc _, h2, bel_alloc (bel_alloc (Below.refl _ _))⟩
theorem HtI.put {w : World} {x y : Value} {W : World} (h : HtI w x y W) (p q : Value) :
    Two (w.heap.size + 1) ((W.setCell ⟨w.heap.size + 1, 0, none⟩ p).setCell ⟨w.heap.size + 1, 1, none⟩ q) p q ∧ Below w.heap.size w ((W.setCell ⟨w.heap.size + 1, 0, none⟩ p).setCell ⟨w.heap.size + 1, 1, none⟩ q) :=
  ⟨(h.2.1.set0 p).set1 q, (h.2.2.setCell (p := ⟨w.heap.size + 1, 0, none⟩) (by show w.heap.size ≤ w.heap.size + 1; omega) _).setCell (p := ⟨w.heap.size + 1, 1, none⟩) (by show w.heap.size ≤ w.heap.size + 1; omega) _⟩
set_option maxHeartbeats 16000000 in
set_option maxRecDepth 100000 in
theorem dipHt_core (a : Option Addr) (n cap : Nat) (tol v x0 v0 x1 v1 E V A B L1 L2 : Int) (w : World)
    (hV : ((E != 0) = true ∧ V = E ∧ A = 0 ∧ B = 0) ∨ (E = 0 ∧ v < v0 ∧ V = 2 ∧ A = 0 ∧ B = 0) ∨ (E = 0 ∧ ¬ v < v0 ∧ v1 < v ∧ V = 2 ∧ A = 0 ∧ B = 0) ∨ (E = 0 ∧ ¬ v < v0 ∧ ¬ v1 < v ∧ V = 0 ∧ A = min L1 (L2 - 1) ∧ B = L2 - 1 ∧ (0 ≤ v ∧ v ≤ 4294967296) ∧ 0 ≤ L2 ∧ L2 ≤ 200001))
    (H1 : Hid (∀ W, Below w.heap.size w W → Calls Tryd.prog 50 #[.agg #[.slice a n cap, .int .i64 tol]] W fun e w' => e = .returned (.tuple #[.agg #[.int .i64 x0, .int .i64 v0], .agg #[.int .i64 x1, .int .i64 v1], .int .i64 E]) ∧ Below W.heap.size W w'))
    (H2 : Hid (E = 0 → ¬ v < v0 → ¬ v1 < v → ∀ q1 q2 W, Below w.heap.size w W → W.cell? ⟨q1, 0, none⟩ = some (.int .i64 x0) → W.cell? ⟨q2, 0, none⟩ = some (.int .i64 x1) → W.cell? ⟨w.heap.size, 0, none⟩ = some (.slice a n cap) → q1 < W.heap.size → q2 < W.heap.size → w.heap.size < W.heap.size → Calls Tryd.prog 65 #[.int .i64 v, .pointer (some ⟨q1, 0, none⟩), .pointer (some ⟨q2, 0, none⟩), .pointer (some ⟨w.heap.size, 0, none⟩)] W fun e w' => e = .returned (.int .i64 L1) ∧ Below W.heap.size W w'))
    (H3 : Hid (E = 0 → ¬ v < v0 → ¬ v1 < v → ∀ q1 q2 W, Below w.heap.size w W → W.cell? ⟨q1, 0, none⟩ = some (.int .i64 x0) → W.cell? ⟨q2, 0, none⟩ = some (.int .i64 x1) → W.cell? ⟨w.heap.size, 0, none⟩ = some (.slice a n cap) → q1 < W.heap.size → q2 < W.heap.size → w.heap.size < W.heap.size → Calls Tryd.prog 65 #[.int .i64 (v + 1), .pointer (some ⟨q1, 0, none⟩), .pointer (some ⟨q2, 0, none⟩), .pointer (some ⟨w.heap.size, 0, none⟩)] W fun e w' => e = .returned (.int .i64 L2) ∧ Below W.heap.size W w')) :
    Calls Tryd.prog 54 #[.agg #[.slice a n cap, .int .i64 tol], .int .i64 v] w fun e w' => e = .returned (.tuple #[.agg #[.int .i64 A, .int .i64 B], .int .i64 V]) ∧ Below w.heap.size w w' := by
  have hmf : ∀ (fn : Fn) (first cap : Array Value) (w : World), (Instr.makeFunc fn first cap).run Tryd.prog w = .ok (.func fn first cap) w := fun _ _ _ _ => rfl
  have S0 := Lib.hid (HtI.init w (.slice a n cap) (.int .i64 tol) 24 34)
  go_enter Tryd.func54, Tryd.ntmps54
  go_wp2_with fail
  refine (H1.out _ S0.out.2.2).mono ?_
  rintro e w1 ⟨rfl, gg⟩
  replace S0 := Lib.hid ((S0.out.below gg).below (bel_alloc (o := .cells #[.int .i64 x0, .int .i64 v0] 39) (bel_alloc (o := .cells #[.int .i64 x1, .int .i64 v1] 39) (Below.refl _ _)))); clear gg
  have N1 := Lib.hid ((Two.new w1 (.int .i64 x0) (.int .i64 v0) 39).alloc (.cells #[.int .i64 x1, .int .i64 v1] 39))
  have N2 := Lib.hid (Two.new (w1.alloc (.cells #[.int .i64 x0, .int .i64 v0] 39)) (.int .i64 x1) (.int .i64 v1) 39)
  rw [World.size_alloc] at N2
  obtain ⟨⟨t0, t1, _, _, _⟩, ⟨z0, z1, zf0, zf1, _⟩, _⟩ := S0.out
  rcases hV with ⟨e2, rfl, rfl, rfl⟩ | ⟨rfl, h, rfl, rfl, rfl⟩ | ⟨rfl, h, h2, rfl, rfl, rfl⟩ | ⟨rfl, h, h2, rfl, hA, hB, hv, hL⟩
  · go_wp2
    obtain ⟨⟨p0, p1, _, _, _⟩, B⟩ := S0.out.put (.int .i64 0) (.int .i64 0)
    refine bodyPost_ret (v := .tuple #[.agg #[.int .i64 0, .int .i64 0], .int .i64 V]) (by simp [results, Tryd.results54, go_sem, p0, p1]) rfl ?_
    exact ⟨rfl, B⟩
  · have d1 : decide (v < v0) = true := decide_eq_true h
    go_wp2
    obtain ⟨⟨p0, p1, _, _, _⟩, B⟩ := S0.out.put (.int .i64 0) (.int .i64 0)
    refine bodyPost_ret (v := .tuple #[.agg #[.int .i64 0, .int .i64 0], .int .i64 2]) (by simp [results, Tryd.results54, go_sem, p0, p1]) rfl ?_
    exact ⟨rfl, B⟩
  · have d1 : decide (v < v0) = false := decide_eq_false (by omega)
    have d2 : decide (v1 < v) = true := decide_eq_true h2
    go_wp2
    obtain ⟨⟨p0, p1, _, _, _⟩, B⟩ := S0.out.put (.int .i64 0) (.int .i64 0)
    refine bodyPost_ret (v := .tuple #[.agg #[.int .i64 0, .int .i64 0], .int .i64 2]) (by simp [results, Tryd.results54, go_sem, p0, p1]) rfl ?_
    exact ⟨rfl, B⟩
  · have d1 : decide (v < v0) = false := decide_eq_false (by omega)
    have d2 : decide (v1 < v) = false := decide_eq_false (by omega)
    have wv : IntKind.i64.wrap (v + 1) = v + 1 := wrap_in _ ⟨by omega, by omega⟩
    have wl : IntKind.i64.wrap (L2 - 1) = L2 - 1 := wrap_in _ ⟨by omega, by omega⟩
    replace H2 := Lib.hid (H2.out rfl (by omega) (by omega))
    replace H3 := Lib.hid (H3.out rfl (by omega) (by omega))
    have hlt : Hid (∀ W, Below ((w1.alloc (.cells #[.int .i64 x0, .int .i64 v0] 39)).alloc (.cells #[.int .i64 x1, .int .i64 v1] 39)).heap.size ((w1.alloc (.cells #[.int .i64 x0, .int .i64 v0] 39)).alloc (.cells #[.int .i64 x1, .int .i64 v1] 39)) W → HtI w (.slice a n cap) (.int .i64 tol) W ∧ Two w1.heap.size W (.int .i64 x0) (.int .i64 v0) ∧ Two (w1.heap.size + 1) W (.int .i64 x1) (.int .i64 v1)) := Lib.hid fun W hW => ⟨S0.out.below hW, N1.out.below hW, N2.out.below hW⟩
    have K0 := Lib.hid (hlt.out _ (Below.refl _ _))
    have C3 := Lib.hid (H3.out w1.heap.size (w1.heap.size + 1) _ K0.out.1.2.2 K0.out.2.1.1 K0.out.2.2.1 K0.out.1.1.1 K0.out.2.1.2.2.2.2 K0.out.2.2.2.2.2.2 K0.out.1.1.2.2.2.2)
    obtain ⟨k0, k1, _, _, _⟩ := K0.out.2.1
    obtain ⟨j0, j1, _, _, _⟩ := K0.out.2.2
    clear h h2 hv hL
    go_wp2_with fail
    refine C3.out.mono ?_
    rintro e w2 ⟨rfl, gg⟩
    have K1 := Lib.hid (hlt.out _ gg)
    clear gg t0 t1 z0 z1 zf0 zf1 k0 k1 j0 j1
    have C2 := Lib.hid (H2.out w1.heap.size (w1.heap.size + 1) _ K1.out.1.2.2 K1.out.2.1.1 K1.out.2.2.1 K1.out.1.1.1 K1.out.2.1.2.2.2.2 K1.out.2.2.2.2.2.2 K1.out.1.1.2.2.2.2)
    go_wp2_with fail
    refine C2.out.mono ?_
    rintro e w3 ⟨rfl, gg⟩
    replace S0 := Lib.hid (K1.out.1.below gg)
    clear gg
    obtain ⟨⟨t0, t1, _, _, _⟩, ⟨z0, z1, zf0, zf1, _⟩, _⟩ := S0.out
    obtain rfl := hA
    obtain rfl := hB
    go_wp2
    obtain ⟨⟨p0, p1, _, _, _⟩, B⟩ := S0.out.put (.int .i64 (min L1 (L2 - 1))) (.int .i64 (L2 - 1))
    refine bodyPost_ret (v := .tuple #[.agg #[.int .i64 (min L1 (L2 - 1)), .int .i64 (L2 - 1)], .int .i64 0]) (by simp [results, Tryd.results54, go_sem, p0, p1]) rfl ?_
    exact ⟨rfl, B⟩
/-- what Heights returns -/
def htA (l : List (Int × Int)) (tol v : Int) : Int := if htE l tol v = 0 then htL l v else 0
def htB (l : List (Int × Int)) (tol v : Int) : Int := if htE l tol v = 0 then htH l v else 0
theorem dipHt_any (z : Value) (l : List (Int × Int)) (tol v : Int) (w : World) (hz : TbV w z l tol) :
    Calls Tryd.prog 54 #[z, .int .i64 v] w fun e w' => e = .returned (.tuple #[.agg #[.int .i64 (htA l tol v), .int .i64 (htB l tol v)], .int .i64 (htE l tol v)]) ∧ Below w.heap.size w w' := by
  have H1 : Hid (∀ W, Below w.heap.size w W → _) := Lib.hid fun W hW => dipEnds_any z l tol W (hz.below hW)
  obtain ⟨a, cap, rfl, hp⟩ := hz
  unfold enF enZ enE at H1
  unfold htA htB
  by_cases h : tbE l tol = 0
  · rw [if_pos h, if_pos h, if_pos h] at H1
    obtain ⟨hR, _⟩ := tbE_iff.1 h
    have n0 := hR.n0
    have hE : htE l tol v = if v < gR l 0 ∨ gR l (l.length - 1) < v then 2 else 0 := by unfold htE; rw [if_neg (by simpa using h)]
    by_cases g : v < gR l 0 ∨ gR l (l.length - 1) < v
    · rw [if_pos g] at hE
      rw [hE, if_neg (by omega), if_neg (by omega)]
      exact dipHt_core a _ cap tol v _ _ _ _ _ _ _ _ 0 0 w ((Classical.em (v < gR l 0)).elim (fun g1 => .inr (.inl ⟨rfl, g1, rfl, rfl, rfl⟩)) (fun g1 => .inr (.inr (.inl ⟨rfl, g1, (by show gR l (l.length - 1) < v; omega), rfl, rfl, rfl⟩)))) H1 (Lib.hid fun _ h1 h2 => by omega) (Lib.hid fun _ h1 h2 => by omega)
    · rw [if_neg g] at hE
      rw [hE, if_pos rfl, if_pos rfl]
      have b0 := (hR.bv 0 (by omega)).1
      have b1 := (hR.bv (l.length - 1) (by omega)).2
      have sp := hR.span
      have lb := ls_bd hR (v + 1)
      exact dipHt_core a _ cap tol v _ _ _ _ _ _ _ _ (lsA l v) (lsA l (v + 1)) w (.inr (.inr (.inr ⟨rfl, by omega, by omega, rfl, rfl, rfl, ⟨by omega, by omega⟩, by omega, by omega⟩))) H1 (Lib.hid fun _ _ _ q1 q2 W hW c1 c2 c3 l1 l2 l3 => htLe_any v q1 q2 w.heap.size a _ cap l tol W rfl hR (hp.below hW) c1 c2 c3 l1 l2 l3) (Lib.hid fun _ _ _ q1 q2 W hW c1 c2 c3 l1 l2 l3 => htLe_any (v + 1) q1 q2 w.heap.size a _ cap l tol W rfl hR (hp.below hW) c1 c2 c3 l1 l2 l3)
  · rw [if_neg h, if_neg h, if_neg h] at H1
    have hE : htE l tol v = 1 := by unfold htE; rw [if_pos (by simpa using h)]
    rw [hE, if_neg (by omega), if_neg (by omega)]
    exact dipHt_core a _ cap tol v _ _ _ _ _ _ _ _ 0 0 w (.inl ⟨rfl, rfl, rfl, rfl⟩) H1 (Lib.hid fun h1 => absurd h1 (by decide)) (Lib.hid fun h1 => absurd h1 (by decide))
end Go.Proofs.YtdjlainhaoaeiaaDoor

/- Plain facts of layer 14: rods. No program stands in this text. -/
namespace Go.Proofs.YtdjlainhaoaeiaaDoor

/-- a right rod -/
structure RR (l : List (Int × Int)) : Prop where
  n0 : 1 ≤ l.length
  n1 : l.length ≤ 128
  bh : ∀ i, i < l.length → 0 ≤ gX l i ∧ gX l i ≤ 200000
  bv : ∀ i, i < l.length → 1 ≤ gR l i ∧ gR l i ≤ 4294967296
  asc : ∀ i, i + 1 < l.length → gX l i < gX l (i + 1)
  up : ∀ i, i + 1 < l.length → gR l i < gR l (i + 1)
def rkOut (q : Int × Int) : Bool := decide (q.1 < 0) || decide (200000 < q.1) || decide (q.2 < 1) || decide (4294967296 < q.2)
def rrB (l : List (Int × Int)) : Nat → Bool
  | 0 => true
  | k + 1 => rrB l k && (decide (gX l k < gX l (k + 1)) && decide (gR l k < gR l (k + 1)))
theorem rrB_iff (l : List (Int × Int)) (k : Nat) : rrB l k = true ↔ ∀ i, i < k → gX l i < gX l (i + 1) ∧ gR l i < gR l (i + 1) := by
  induction k with
  | zero => simp [rrB]
  | succ k ih =>
    rw [rrB, Bool.and_eq_true, ih, Bool.and_eq_true, decide_eq_true_eq, decide_eq_true_eq]
    constructor
    · rintro ⟨h1, h2⟩ i hi
      by_cases e : i = k
      · rw [e]; exact h2
      · exact h1 i (by omega)
    · intro h
      exact ⟨fun i hi => h i (by omega), h k (by omega)⟩
/-- the first error of a rod -/
def roE (l : List (Int × Int)) : Int := if l.length = 0 then 9 else if 128 < l.length then 8 else if l.any rkOut = true then 2 else if rrB l (l.length - 1) = false then 5 else 0
theorem rkOut_not {q : Int × Int} : rkOut q = false ↔ (0 ≤ q.1 ∧ q.1 ≤ 200000) ∧ 1 ≤ q.2 ∧ q.2 ≤ 4294967296 := by
  unfold rkOut
  rw [Bool.or_eq_false_iff, Bool.or_eq_false_iff, Bool.or_eq_false_iff, decide_eq_false_iff_not, decide_eq_false_iff_not, decide_eq_false_iff_not, decide_eq_false_iff_not]
  omega
theorem roE_iff {l : List (Int × Int)} : roE l = 0 ↔ RR l := by
  unfold roE
  constructor
  · intro h
    split at h
    · omega
    · split at h
      · omega
      · split at h
        · omega
        · split at h
          · omega
          · rename_i h1 h2 h3 h4
            have hb : ∀ i, i < l.length → (0 ≤ gX l i ∧ gX l i ≤ 200000) ∧ 1 ≤ gR l i ∧ gR l i ≤ 4294967296 := fun i hi => by
              refine rkOut_not.1 ?_
              cases hq : rkOut (l.getD i (0, 0)) with
              | false => rfl
              | true => exact absurd (anyq_at.2 ⟨i, hi, hq⟩) h3
            have hr := (rrB_iff l (l.length - 1)).1 (by simpa using h4)
            exact ⟨by omega, by omega, fun i hi => (hb i hi).1, fun i hi => (hb i hi).2, fun i hi => (hr i (by omega)).1, fun i hi => (hr i (by omega)).2⟩
  · intro h
    have n0 := h.n0
    have n1 := h.n1
    rw [if_neg (by omega), if_neg (by omega), if_neg, if_neg]
    · rw [Bool.not_eq_false]
      exact (rrB_iff _ _).2 fun i hi => ⟨h.asc i (by omega), h.up i (by omega)⟩
    · intro hq
      obtain ⟨i, hi, hp⟩ := anyq_at.1 hq
      rw [rkOut_not.2 ⟨h.bh i hi, h.bv i hi⟩] at hp
      cases hp
/-! ### multiples -/
theorem dvs (v : Int) {s : Int} (hs : 1 ≤ s) : v / s * s ≤ v ∧ v < v / s * s + s := by
  have := Int.mul_ediv_add_emod v s
  have a := Int.emod_nonneg v (show s ≠ 0 by omega)
  have b := Int.emod_lt_of_pos v (show 0 < s by omega)
  rw [Int.mul_comm] at this
  omega
theorem dvs_le {u v s t : Int} (hs : 1 ≤ s) (e : u = t * s) (h : u ≤ v) : u ≤ v / s * s := by
  have := Int.le_ediv_of_mul_le (show 0 < s by omega) (show t * s ≤ v by omega)
  have := Int.mul_le_mul_of_nonneg_right this (show 0 ≤ s by omega)
  omega
theorem mul_next {a b s : Int} (hs : 1 ≤ s) (h : a * s < b * s) : a * s + s ≤ b * s := by
  have h1 : a < b := by
    rcases Int.lt_or_le a b with g | g
    · exact g
    · have := Int.mul_le_mul_of_nonneg_right g (show 0 ≤ s by omega); omega
  have := Int.mul_le_mul_of_nonneg_right (show a + 1 ≤ b by omega) (show 0 ≤ s by omega)
  rw [Int.add_mul, Int.one_mul] at this
  exact this
/-- the multiple that the k-th mark is looked for with -/
def rdV (l : List (Int × Int)) (s : Int) : Nat → Int
  | 0 => s
  | k + 1 => vl l (lsA l (rdV l s k)) / s * s + s
/-- the k-th mark -/
def rdM (l : List (Int × Int)) (s : Int) (k : Nat) : Int × Int := (lsA l (rdV l s k), vl l (lsA l (rdV l s k)) / s * s)
def rdS (l : List (Int × Int)) (s : Int) (k : Nat) : List (Int × Int) := (List.range k).map (rdM l s)
/-- how many marks there are, up to 129 -/
def rdC (l : List (Int × Int)) (s : Int) : Nat := fst (fun k => decide (gR l (l.length - 1) < rdV l s k)) 129
/-- what Make returns -/
def rmE (l : List (Int × Int)) (tol s : Int) : Int := if tbE l tol ≠ 0 then 1 else if s < 1 ∨ 1073741824 < s then 2 else if rdC l s = 0 then 9 else if 128 < rdC l s then 8 else 0
def rmL (l : List (Int × Int)) (tol s : Int) : List (Int × Int) := if rmE l tol s = 0 then rdS l s (rdC l s) else []
theorem rdV_mul (l : List (Int × Int)) (s : Int) (k : Nat) : ∃ t, rdV l s k = t * s := by
  cases k with
  | zero => exact ⟨1, by simp [rdV]⟩
  | succ k => exact ⟨vl l (lsA l (rdV l s k)) / s + 1, by rw [Int.add_mul, Int.one_mul]; rfl⟩
structure RdK (l : List (Int × Int)) (s : Int) (k : Nat) : Prop where
  h0 : gX l 0 ≤ lsA l (rdV l s k)
  h1 : lsA l (rdV l s k) ≤ gX l (l.length - 1)
  v0 : rdV l s k ≤ vl l (lsA l (rdV l s k))
  v1 : vl l (lsA l (rdV l s k)) ≤ gR l (l.length - 1)
  m0 : rdV l s k ≤ (rdM l s k).2
  m1 : (rdM l s k).2 ≤ vl l (lsA l (rdV l s k))
  m2 : vl l (lsA l (rdV l s k)) < (rdM l s k).2 + s
  nx : rdV l s (k + 1) = (rdM l s k).2 + s
  below : ∀ x, gX l 0 ≤ x → x < lsA l (rdV l s k) → vl l x < rdV l s k
theorem rd_k {l : List (Int × Int)} (h : MR l) {s : Int} (hs : 1 ≤ s) {k : Nat} (hk : rdV l s k ≤ gR l (l.length - 1)) : RdK l s k := by
  have sp := h.span
  have b := ls_bd h (rdV l s k)
  have e := vl_mark h (i := l.length - 1) (by have := h.n0; omega)
  have t := (ls_iff h (rdV l s k) (x := gX l (l.length - 1)) (by omega) (Int.le_refl _)).1 (by omega)
  have v := (ls_iff h (rdV l s k) b.1 t).2 (Int.le_refl _)
  have vb := vl_bd h b.1 t
  obtain ⟨q, hq⟩ := rdV_mul l s k
  have d := dvs (vl l (lsA l (rdV l s k))) hs
  refine ⟨b.1, t, v, vb.2, dvs_le hs hq v, d.1, d.2, rfl, fun x x0 x1 => ?_⟩
  have := ls_iff h (rdV l s k) x0 (show x ≤ gX l (l.length - 1) by omega)
  omega
theorem rd_lt {l : List (Int × Int)} {s : Int} {k : Nat} (hk : k < rdC l s) : rdV l s k ≤ gR l (l.length - 1) := by
  have := (fst_spec (fun k => decide (gR l (l.length - 1) < rdV l s k)) 129).1 k hk
  have := of_decide_eq_false this
  omega
theorem rd_up {l : List (Int × Int)} (h : MR l) {s : Int} (hs : 1 ≤ s) {k : Nat} (hk : rdV l s k ≤ gR l (l.length - 1)) : rdV l s k + s ≤ rdV l s (k + 1) := by
  have r := rd_k h hs hk
  have := r.nx; have := r.m0; omega
theorem rd_ge {l : List (Int × Int)} (h : MR l) {s : Int} (hs : 1 ≤ s) {k : Nat} (hk : k ≤ rdC l s) : s ≤ rdV l s k := by
  induction k with
  | zero => exact Int.le_refl _
  | succ k ih =>
    have := rd_up h hs (rd_lt (show k < rdC l s by omega))
    have := ih (by omega)
    omega
theorem rdS_at {l : List (Int × Int)} {s : Int} {n k : Nat} (hk : k < n) : gX (rdS l s n) k = lsA l (rdV l s k) ∧ gR (rdS l s n) k = (rdM l s k).2 := by
  have : (rdS l s n).getD k (0, 0) = rdM l s k := by
    unfold rdS
    rw [List.getD_eq_getElem?_getD, List.getElem?_map, List.getElem?_range hk]; rfl
  exact ⟨congrArg Prod.fst this, congrArg Prod.snd this⟩
theorem rdS_len (l : List (Int × Int)) (s : Int) (n : Nat) : (rdS l s n).length = n := by unfold rdS; rw [List.length_map, List.length_range]
theorem rdS_next (l : List (Int × Int)) (s : Int) (n : Nat) : rdS l s (n + 1) = rdS l s n ++ [rdM l s n] := by
  unfold rdS; rw [List.range_succ, List.map_append]; rfl
theorem rdM_mul (l : List (Int × Int)) (s : Int) (k : Nat) : (rdM l s k).2 = vl l (lsA l (rdV l s k)) / s * s := rfl
/-- the height of a later mark is greater -/
theorem rd_asc {l : List (Int × Int)} (h : MR l) {s : Int} (hs : 1 ≤ s) {k : Nat} (hk : k + 1 < rdC l s) : lsA l (rdV l s k) < lsA l (rdV l s (k + 1)) ∧ (rdM l s k).2 < (rdM l s (k + 1)).2 := by
  have a := rd_k h hs (rd_lt (show k < rdC l s by omega))
  have b := rd_k h hs (rd_lt hk)
  have a1 := a.nx
  have a2 := a.m2
  have b1 := b.m0
  refine ⟨?_, by omega⟩
  rcases Int.lt_or_le (lsA l (rdV l s k)) (lsA l (rdV l s (k + 1))) with g | g
  · exact g
  · have := (ls_iff h (rdV l s (k + 1)) a.h0 a.h1).2 g
    omega
theorem rd_right {l : List (Int × Int)} (h : MR l) {s : Int} (hs : 1 ≤ s) (h0 : rdC l s ≠ 0) (h1 : rdC l s ≤ 128) : RR (rdS l s (rdC l s)) := by
  have ln := rdS_len l s (rdC l s)
  have sp := h.span
  refine ⟨by omega, by omega, fun i hi => ?_, fun i hi => ?_, fun i hi => ?_, fun i hi => ?_⟩
  · rw [ln] at hi
    have r := rd_k h hs (rd_lt hi)
    rw [(rdS_at hi).1]
    have := r.h0; have := r.h1; omega
  · rw [ln] at hi
    have r := rd_k h hs (rd_lt hi)
    have g := rd_ge h hs (show i ≤ rdC l s by omega)
    have b := h.bv (l.length - 1) (by have := h.n0; omega)
    rw [(rdS_at hi).2]
    have := r.m0; have := r.m1; have := r.v1; omega
  · rw [ln] at hi
    rw [(rdS_at hi).1, (rdS_at (show i < rdC l s by omega)).1]
    exact (rd_asc h hs hi).1
  · rw [ln] at hi
    rw [(rdS_at hi).2, (rdS_at (show i < rdC l s by omega)).2]
    exact (rd_asc h hs hi).2
/-- behind the last mark there is no multiple -/
theorem rd_end {l : List (Int × Int)} {s : Int} (h1 : rdC l s ≤ 128) : gR l (l.length - 1) < rdV l s (rdC l s) :=
  of_decide_eq_true ((fst_spec (fun k => decide (gR l (l.length - 1) < rdV l s k)) 129).2 (show rdC l s < 129 by omega))
theorem rd_last {l : List (Int × Int)} (h : MR l) {s : Int} (hs : 1 ≤ s) (h0 : rdC l s ≠ 0) (h1 : rdC l s ≤ 128) : (rdM l s (rdC l s - 1)).2 = gR l (l.length - 1) / s * s := by
  have r := rd_k h hs (rd_lt (show rdC l s - 1 < rdC l s by omega))
  have e := rd_end h1
  have n := r.nx
  rw [Nat.sub_add_cancel (by omega)] at n
  have a := r.m1
  have b := r.v1
  have d := dvs (gR l (l.length - 1)) hs
  have u := dvs_le (v := gR l (l.length - 1)) hs (rdM_mul l s (rdC l s - 1)) (by omega)
  rcases Int.lt_or_le (rdM l s (rdC l s - 1)).2 (gR l (l.length - 1) / s * s) with g | g
  · have := mul_next hs (show (vl l (lsA l (rdV l s (rdC l s - 1))) / s) * s < (gR l (l.length - 1) / s) * s from g)
    have m := rdM_mul l s (rdC l s - 1)
    omega
  · omega
/-- each multiple has the height of a mark, whose volume is the greatest multiple there -/
theorem rd_each {l : List (Int × Int)} (h : MR l) {s : Int} (hs : 1 ≤ s) (h0 : rdC l s ≠ 0) (h1 : rdC l s ≤ 128) {v t : Int} (e : v = t * s) (v0 : s ≤ v) (v1 : v ≤ gR l (l.length - 1)) :
    ∃ j, j < rdC l s ∧ lsA l v = lsA l (rdV l s j) := by
  have la := rd_last h hs h0 h1
  have vl' := dvs_le hs e v1
  have ex : ∀ k, k < rdC l s → v ≤ (rdM l s k).2 → ∃ j, j < rdC l s ∧ v ≤ (rdM l s j).2 ∧ rdV l s j ≤ v := by
    intro k
    induction k with
    | zero => intro hk hv; exact ⟨0, hk, hv, v0⟩
    | succ k ih =>
      intro hk hv
      by_cases g : v ≤ (rdM l s k).2
      · exact ih (by omega) g
      · refine ⟨k + 1, hk, hv, ?_⟩
        have r := rd_k h hs (rd_lt (show k < rdC l s by omega))
        have n := r.nx
        have m := rdM_mul l s k
        have := mul_next hs (show (vl l (lsA l (rdV l s k)) / s) * s < t * s by omega)
        omega
  obtain ⟨j, hj, j1, j2⟩ := ex (rdC l s - 1) (by omega) (by omega)
  refine ⟨j, hj, ?_⟩
  have r := rd_k h hs (rd_lt hj)
  have a := (ls_iff h v r.h0 r.h1).1 (by have := r.m1; omega)
  have b := ls_up h j2
  omega
theorem rmE_zero {l : List (Int × Int)} {tol s : Int} : rmE l tol s = 0 ↔ tbE l tol = 0 ∧ (1 ≤ s ∧ s ≤ 1073741824) ∧ rdC l s ≠ 0 ∧ rdC l s ≤ 128 := by
  unfold rmE
  by_cases h : tbE l tol = 0
  · rw [if_neg (by simpa using h)]
    split
    · omega
    · split
      · omega
      · split <;> omega
  · rw [if_pos h]; omega
end Go.Proofs.YtdjlainhaoaeiaaDoor

/- Package rod: reach. -/
namespace Go.Proofs.YtdjlainhaoaeiaaDoor
open Go.RowKit

set_option maxHeartbeats 16000000 in
set_option maxRecDepth 100000 in
theorem reach_core (b off m cap : Nat) (tol v x0 v0 A B E Q E2 R : Int) (w : World) (m1 : m ≤ 1000) (hb : b < w.heap.size) (hA : -1000 ≤ A ∧ A ≤ 300000)
    (c0 : Hid (w.cell? ⟨b, off, none⟩ = some (.int .i64 x0))) (c1 : Hid (w.cell? ⟨b, off + 1, none⟩ = some (.int .i64 v0)))
    (hR : (v ≤ v0 ∧ R = x0) ∨ (v0 < v ∧ Q < v ∧ R = A + 1) ∨ (v0 < v ∧ v ≤ Q ∧ R = A))
    (H1 : Hid (v0 < v → ∀ W, Below w.heap.size w W → Calls Tryd.prog 54 #[.agg #[.slice (some ⟨b, off, none⟩) (m + 1) cap, .int .i64 tol], .int .i64 v] W fun e w' => e = .returned (.tuple #[.agg #[.int .i64 A, .int .i64 B], .int .i64 E]) ∧ Below W.heap.size W w'))
    (H2 : Hid (v0 < v → ∀ W, Below w.heap.size w W → Calls Tryd.prog 27 #[.agg #[.slice (some ⟨b, off, none⟩) (m + 1) cap, .int .i64 tol], .int .i64 A] W fun e w' => e = .returned (.tuple #[.int .i64 Q, .int .i64 E2]) ∧ Below W.heap.size W w')) :
    Calls Tryd.prog 33 #[.agg #[.slice (some ⟨b, off, none⟩) (m + 1) cap, .int .i64 tol], .int .i64 v] w fun e w' => e = .returned (.int .i64 R) ∧ Below w.heap.size w w' := by
  have T0 := Lib.hid ((Two.new w (.slice (some ⟨b, off, none⟩) (m + 1) cap) (.int .i64 tol) 24).alloc (.cells #[.int .i64 x0, .int .i64 v0] 39))
  have X0 : Hid (Below w.heap.size w ((w.alloc (.cells #[.slice (some ⟨b, off, none⟩) (m + 1) cap, .int .i64 tol] 24)).alloc (.cells #[.int .i64 x0, .int .i64 v0] 39))) := Lib.hid (bel_alloc (bel_alloc (Below.refl _ _)))
  have N0 := Lib.hid (Two.new (w.alloc (.cells #[.slice (some ⟨b, off, none⟩) (m + 1) cap, .int .i64 tol] 24)) (.int .i64 x0) (.int .i64 v0) 39)
  rw [World.size_alloc] at N0
  have d0 : (w.alloc (.cells #[.slice (some ⟨b, off, none⟩) (m + 1) cap, .int .i64 tol] 24)).cell? ⟨b, off, none⟩ = some (.int .i64 x0) := by rw [World.cell?_alloc_lt w _ _ hb]; exact c0.out
  have d1 : (w.alloc (.cells #[.slice (some ⟨b, off, none⟩) (m + 1) cap, .int .i64 tol] 24)).cell? ⟨b, off + 1, none⟩ = some (.int .i64 v0) := by rw [World.cell?_alloc_lt w _ _ hb]; exact c1.out
  have wk4 : (0 : Int) < (m : Int) + 1 := by omega
  have wA : IntKind.i64.wrap (A + 1) = A + 1 := wrap_in _ ⟨by omega, by omega⟩
  obtain ⟨t0, t1, _, _, _⟩ := T0.out
  obtain ⟨n0, n1, _, _, _⟩ := N0.out
  clear c0 c1
  rcases hR with ⟨h, rfl⟩ | hR
  · go_enter Tryd.func33, Tryd.ntmps33
    go_wp2
    go_returns
    exact ⟨rfl, X0.out⟩
  · have hv : v0 < v := by omega
    have hvv : ¬ v ≤ v0 := by omega
    replace H1 := Lib.hid (H1.out hv)
    replace H2 := Lib.hid (H2.out hv)
    go_enter Tryd.func33, Tryd.ntmps33
    go_wp2_with fail
    refine (H1.out _ X0.out).mono ?_
    rintro e w1 ⟨rfl, gg⟩
    replace T0 := Lib.hid ((T0.out.below gg).alloc (.cells #[.int .i64 A, .int .i64 B] 34))
    replace N0 := Lib.hid ((N0.out.below gg).alloc (.cells #[.int .i64 A, .int .i64 B] 34))
    have P0 := Lib.hid (Two.new w1 (.int .i64 A) (.int .i64 B) 34)
    replace X0 := Lib.hid (bel_trans X0.out (bel_trans gg (bel_alloc (o := .cells #[.int .i64 A, .int .i64 B] 34) (Below.refl _ _)))); clear gg t0 t1 n0 n1 d0 d1
    obtain ⟨t0, t1, _, _, _⟩ := T0.out
    obtain ⟨p0, p1, _, _, _⟩ := P0.out
    go_wp2_with fail
    refine (H2.out _ X0.out).mono ?_
    rintro e w2 ⟨rfl, gg⟩
    replace P0 := Lib.hid (P0.out.below gg)
    replace X0 := Lib.hid (bel_trans X0.out gg); clear gg t0 t1 p0 p1
    obtain ⟨p0, p1, _, _, _⟩ := P0.out
    rcases hR with ⟨_, h, rfl⟩ | ⟨_, h, rfl⟩
    · have d1 : decide (Q < v) = true := decide_eq_true h
      go_wp2
      go_returns
      exact ⟨rfl, X0.out⟩
    · have d1 : decide (Q < v) = false := decide_eq_false (by omega)
      go_wp2
      go_returns
      exact ⟨rfl, X0.out⟩
theorem reach_any (z : Value) (l : List (Int × Int)) (tol v : Int) (w : World) (hz : TbV w z l tol) (h : tbE l tol = 0) (hv : v ≤ gR l (l.length - 1)) :
    Calls Tryd.prog 33 #[z, .int .i64 v] w fun e w' => e = .returned (.int .i64 (lsA l v)) ∧ Below w.heap.size w w' := by
  obtain ⟨hR, _⟩ := tbE_iff.1 h
  have n0 := hR.n0
  have n1 := hR.n1
  have sp := hR.span
  have lb := ls_bd hR v
  have l1 := ls_bd hR (v + 1)
  have lu := ls_up hR (show v ≤ v + 1 by omega)
  have e0 := vl_mark hR (i := 0) (by omega)
  have e1 := vl_mark hR (i := l.length - 1) (by omega)
  have H1 : Hid (∀ W, Below w.heap.size w W → _) := Lib.hid fun W hW => dipHt_any z l tol v W (hz.below hW)
  have H2 : Hid (∀ W, Below w.heap.size w W → _) := Lib.hid fun W hW => dipRead_any z l tol (htA l tol v) W (hz.below hW)
  obtain ⟨a, cap, rfl, hp⟩ := hz
  obtain ⟨b, off, rfl, hb, hc⟩ := hp.at (by omega)
  obtain ⟨m, hm⟩ : ∃ m, l.length = m + 1 := ⟨l.length - 1, by omega⟩
  have c0 := hc 0 (by omega)
  rw [Nat.zero_mul, Nat.add_zero] at c0
  have i1 := ls_iff hR v (x := gX l (l.length - 1)) (by omega) (Int.le_refl _)
  have i0 := ls_iff hR v (x := gX l 0) (Int.le_refl _) (by omega)
  have hA : htA l tol v = if htE l tol v = 0 then min (lsA l v) (lsA l (v + 1) - 1) else 0 := rfl
  by_cases g : v ≤ gR l 0
  · have := i0.1 (by omega)
    rw [hm] at H1 H2 ⊢
    refine reach_core b off m cap tol v (gX l 0) (gR l 0) (htA l tol v) (htB l tol v) (htE l tol v) _ _ _ w (by omega) hb ?_ (Lib.hid c0.1) (Lib.hid c0.2) (.inl ⟨g, by omega⟩) (Lib.hid fun _ => H1.out) (Lib.hid fun _ => H2.out)
    rw [hA]; split <;> omega
  · have hE : htE l tol v = 0 := htE_zero.2 ⟨h, by omega, hv⟩
    rw [if_pos hE] at hA
    have l0 : gX l 0 < lsA l v := by
      rcases Int.lt_or_le (gX l 0) (lsA l v) with g2 | g2
      · exact g2
      · have := i0.2 g2; omega
    have l2 : lsA l v ≤ gX l (l.length - 1) := i1.1 (by omega)
    have hE2 : rdE l tol (htA l tol v) = 0 := rdE_zero.2 ⟨h, by omega, by omega⟩
    have hQ : rdQ l tol (htA l tol v) = vl l (htA l tol v) := by unfold rdQ; rw [if_pos hE2]
    have i2 := ls_iff hR v (x := htA l tol v) (by omega) (by omega)
    have i3 := ls_iff hR v (x := lsA l v - 1) (by omega) (by omega)
    rw [hm] at H1 H2 ⊢
    refine reach_core b off m cap tol v (gX l 0) (gR l 0) (htA l tol v) (htB l tol v) (htE l tol v) _ _ _ w (by omega) hb (by omega) (Lib.hid c0.1) (Lib.hid c0.2) ?_ (Lib.hid fun _ => H1.out) (Lib.hid fun _ => H2.out)
    right
    rw [hQ]
    by_cases q : lsA l v ≤ htA l tol v
    · right; exact ⟨by omega, i2.2 q, by omega⟩
    · left
      refine ⟨by omega, ?_, by omega⟩
      rcases Int.lt_or_le (vl l (htA l tol v)) v with g2 | g2
      · exact g2
      · have := i2.1 g2; omega
end Go.Proofs.YtdjlainhaoaeiaaDoor

/- Rows of marks of the call's own. -/
namespace Go.Proofs.YtdjlainhaoaeiaaDoor
open Go.RowKit

namespace RM
theorem info_parts {P : Program} {t : TypeId} {z : Value} {s by' : Nat} (h : (P.info? t).map (fun i => (i.zero, i.size, i.bytes)) = some (some z, s, by')) : ∃ i, P.info? t = some i ∧ i.zero = some z ∧ i.size = s ∧ i.bytes = by' := by
  cases hi : P.info? t with
  | none => rw [hi] at h; cases h
  | some i => rw [hi] at h; simp at h; exact ⟨i, rfl, h.1, h.2.1, h.2.2⟩
theorem mk_info : (Tryd.prog.info? 39).map (fun i => (i.zero, i.size, i.bytes)) = some (some (.agg #[.int .i64 0, .int .i64 0]), 2, 16) := by kernel_rfl
theorem row_belM {W W' : World} {B n size : Nat} {e : TypeId} {v : Value} {xs : List Value} (h : W.ownsRow B e size v n xs) (hb : Below W.heap.size W W') : W'.ownsRow B e size v n xs := by
  obtain ⟨h1, h2⟩ := h
  refine ⟨h1, ?_⟩
  rcases h2 with ⟨h2, h3⟩ | ⟨g, cap, cur, h2, hg, hh, r⟩
  · exact .inl ⟨h2, h3⟩
  · refine .inr ⟨g, cap, cur, h2, hg, ?_, r⟩
    rw [hb.block _ (Array.getElem?_eq_some_iff.1 hh).1]
    exact hh
def OwnM (w : World) (B : Nat) (v : Value) (l : List (Int × Int)) : Prop := w.ownsRow B 39 2 v l.length (flat l)
theorem nil (W : World) (B : Nat) : OwnM W B (.slice none 0 0) [] := World.ownsRow_nil _ _ _ _
theorem below {W W' : World} {B : Nat} {v : Value} {l : List (Int × Int)} (h : OwnM W B v l) (hb : Below W.heap.size W W') : OwnM W' B v l := row_belM h hb
theorem pts {w : World} {B : Nat} {v : Value} {l : List (Int × Int)} (h : OwnM w B v l) : Pts w v l := by
  have h' := h
  obtain ⟨_, h2⟩ := h
  rcases h2 with ⟨rfl, hn⟩ | ⟨g, cap, cur, rfl, hg, hh, hc, hm, hs, ht⟩
  · exact ⟨none, 0, by rw [hn], by omega, .inl hn⟩
  · have hlt : g < w.heap.size := (Array.getElem?_eq_some_iff.1 hh).1
    unfold maxLen at hm
    refine ⟨_, cap, rfl, ⟨hc, by omega⟩, .inr ⟨g, 0, rfl, hlt, fun j hj => ?_⟩⟩
    have hcell := World.ownsRow.cells h' (g := g) rfl
    have hf := flat_at l j hj
    have c0 := hcell _ _ hf.1
    have c1 := hcell _ _ hf.2
    rw [Go.WideShapes.add_plain] at c0 c1
    exact ⟨c0, by rw [Nat.add_assoc]; exact c1⟩
theorem flat_two (x y : Int) : flat [(x, y)] = [.int .i64 x, .int .i64 y] := rfl
theorem pair_new (w : World) (y0 y1 : Int) (T : TypeId) (j : Nat) (u : Value) (hj : [Value.int .i64 y0, .int .i64 y1][j]? = some u) : (w.alloc (.cells #[.int .i64 y0, .int .i64 y1] T)).cell? ((⟨w.heap.size, 0, none⟩ : Addr).add j) = some u := by
  obtain ⟨n0, n1, _, _, _⟩ := Two.new w (.int .i64 y0) (.int .i64 y1) T
  rw [Go.WideShapes.add_plain, Nat.zero_add]
  match j, hj with
  | 0, hj => simp at hj; rw [← hj]; exact n0
  | 1, hj => simp at hj; rw [← hj]; exact n1
  | j + 2, hj => simp at hj
theorem pair_one (y0 y1 : Int) : ∀ u ∈ [Value.int .i64 y0, .int .i64 y1], u.oneCell' = true := by
  intro u hu; simp at hu; rcases hu with rfl | rfl <;> rfl
theorem push {W : World} {B k : Nat} {v : Value} {l m : List (Int × Int)} {y0 y1 : Int} (e : m = l ++ [(y0, y1)]) (hk : l.length = k) (h : W.ownsRow B 39 2 v (k + 1) (flat l ++ [.int .i64 y0, .int .i64 y1])) : OwnM W B v m := by
  rw [e]
  unfold OwnM
  rw [flat_app, flat_two, List.length_append, hk]
  exact h
/-- what the loop of Make keeps -/
def MkI (w1 : World) (v : Value) (L : List (Int × Int)) (W : World) : Prop := Below w1.heap.size w1 W ∧ OwnM W w1.heap.size v L
theorem MkI.below {w1 : World} {v : Value} {L : List (Int × Int)} {W W' : World} (h : MkI w1 v L W) (hb : Below W.heap.size W W') : MkI w1 v L W' := ⟨bel_trans h.1 hb, RM.below h.2 hb⟩
theorem shape {W : World} {B : Nat} {v : Value} {L : List (Int × Int)} (h : OwnM W B v L) : ∃ a cap, v = .slice a L.length cap := by
  obtain ⟨a, cap, e, _⟩ := pts h
  exact ⟨a, cap, e⟩
end RM
open RM
set_option maxHeartbeats 8000000 in
theorem mk_bad (a : Option Addr) (n cap : Nat) (tol s E V : Int) (w : World) (h : ((E != 0) = true ∧ V = 1) ∨ (E = 0 ∧ s < 1 ∧ V = 2) ∨ (E = 0 ∧ ¬ s < 1 ∧ 1073741824 < s ∧ V = 2))
    (H1 : Hid (∀ W, Below w.heap.size w W → Calls Tryd.prog 32 #[.agg #[.slice a n cap, .int .i64 tol]] W fun e w' => e = .returned (.int .i64 E) ∧ Below W.heap.size W w')) :
    Calls Tryd.prog 12 #[.agg #[.slice a n cap, .int .i64 tol], .int .i64 s] w fun e w' => e = .returned (.tuple #[.slice none 0 0, .int .i64 V]) ∧ Below w.heap.size w w' := by
  go_enter Tryd.func12, Tryd.ntmps12
  go_wp2_with fail
  refine (H1.out _ (bel_alloc (Below.refl _ _))).mono ?_
  rintro e w1 ⟨rfl, gg⟩
  have X1 := Lib.hid (bel_alloc gg); clear gg
  rcases h with ⟨e2, rfl⟩ | ⟨rfl, h, rfl⟩ | ⟨rfl, h, h2, rfl⟩
  · go_wp2
    go_returns
    exact ⟨rfl, X1.out⟩
  · have d1 : decide (s < 1) = true := decide_eq_true h
    go_wp2
    go_returns
    exact ⟨rfl, X1.out⟩
  · have d1 : decide (s < 1) = false := decide_eq_false (by omega)
    have d2 : decide (1073741824 < s) = true := decide_eq_true h2
    go_wp2
    go_returns
    exact ⟨rfl, X1.out⟩
set_option maxHeartbeats 32000000 in
set_option maxRecDepth 100000 in
theorem mk_ok (b off m cap : Nat) (tol s last : Int) (V H Q M : Nat → Int) (N : Nat) (w : World) (m1 : m ≤ 1000) (hb : b < w.heap.size) (s0 : 1 ≤ s) (s1 : s ≤ 1073741824) (N1 : N ≤ 129) (l1 : 0 ≤ last ∧ last ≤ 4294967296)
    (hc : Hid (w.cell? ⟨b, off + m * 2 + 1, none⟩ = some (.int .i64 last)))
    (v0 : V 0 = s) (hv : Hid (∀ k, k < N → V k ≤ last ∧ 0 ≤ Q k ∧ Q k ≤ 4294967296 ∧ M k = Q k - Q k % s ∧ V (k + 1) = M k + s)) (hN : N < 129 → last < V N)
    (H1 : Hid (∀ W, Below w.heap.size w W → Calls Tryd.prog 32 #[.agg #[.slice (some ⟨b, off, none⟩) (m + 1) cap, .int .i64 tol]] W fun e w' => e = .returned (.int .i64 0) ∧ Below W.heap.size W w'))
    (H2 : Hid (∀ k W, k < N → Below w.heap.size w W → Calls Tryd.prog 33 #[.agg #[.slice (some ⟨b, off, none⟩) (m + 1) cap, .int .i64 tol], .int .i64 (V k)] W fun e w' => e = .returned (.int .i64 (H k)) ∧ Below W.heap.size W w'))
    (H3 : Hid (∀ k W, k < N → Below w.heap.size w W → Calls Tryd.prog 27 #[.agg #[.slice (some ⟨b, off, none⟩) (m + 1) cap, .int .i64 tol], .int .i64 (H k)] W fun e w' => e = .returned (.tuple #[.int .i64 (Q k), .int .i64 0]) ∧ Below W.heap.size W w')) :
    Calls Tryd.prog 12 #[.agg #[.slice (some ⟨b, off, none⟩) (m + 1) cap, .int .i64 tol], .int .i64 s] w fun e w' => ∃ u, e = .returned (.tuple #[u, .int .i64 (if N = 0 then 9 else if 128 < N then 8 else 0)]) ∧ Pts w' u (if N = 0 then [] else if 128 < N then [] else (List.range N).map fun k => (H k, M k)) ∧ Below w.heap.size w w' := by
  obtain ⟨i0, hi, hz0, hz1, hz2⟩ := RM.info_parts mk_info
  replace hi := Lib.hid hi
  replace hz0 := Lib.hid hz0
  replace hz1 := Lib.hid hz1
  replace hz2 := Lib.hid hz2
  have T0 := Lib.hid (Two.new w (.slice (some ⟨b, off, none⟩) (m + 1) cap) (.int .i64 tol) 24)
  have wk : IntKind.i64.wrap (((m + 1 : Nat) : Int) - 1) = (m : Int) := by rw [wrap_in _ ⟨by omega, by omega⟩]; omega
  have wk1 : IntKind.i64.wrap ((m : Int) + 1 - 1) = (m : Int) := by rw [wrap_in _ ⟨by omega, by omega⟩]; omega
  have wk2 : (m : Int) < ((m + 1 : Nat) : Int) := by omega
  have wk3 : (m : Int) < (m : Int) + 1 := by omega
  have ds : decide (s < 1) = false := decide_eq_false (by omega)
  have ds2 : decide (1073741824 < s) = false := decide_eq_false (by omega)
  go_enter Tryd.func12, Tryd.ntmps12
  go_wp2_with fail
  refine (H1.out _ (bel_alloc (Below.refl _ _))).mono ?_
  rintro e w1 ⟨rfl, gg⟩
  replace T0 := Lib.hid (T0.out.below gg)
  have X1 := Lib.hid (bel_alloc gg); clear gg
  obtain ⟨t0, t1, _, _, _⟩ := T0.out
  have cl : w1.cell? ⟨b, off + m * 2 + 1, none⟩ = some (.int .i64 last) := by rw [(bcell X1.out).1 _ _ hb]; exact hc.out
  have S0 : Hid (MkI w1 (.slice none 0 0) ((List.range 0).map fun k => (H k, M k)) w1) := Lib.hid ⟨Below.refl _ _, RM.nil _ _⟩
  go_wp2_with fail
  go_loopw [6, 8, 9, 10, 11] (fun v mm _ _ _ wr => ∃ k : Nat, k ≤ N ∧ k ≤ 128 ∧ mm = .int .i64 (V k) ∧ Hid (MkI w1 v ((List.range k).map fun k => (H k, M k)) wr)) (fun v _ _ _ _ _ => 200 - (match v with | .slice _ n _ => n | _ => 0))
  case atStart => exact ⟨0, Nat.zero_le _, by omega, by rw [v0], S0⟩
  case round =>
    clear S0 t0 t1 cl
    obtain ⟨k, hk, hk2, rfl, hS⟩ := hrel
    obtain ⟨av, cv, ev⟩ := RM.shape hS.out.2
    have hln : ((List.range k).map fun k => (H k, M k)).length = k := by simp
    rw [hln] at ev
    subst ev
    by_cases hlt : k < N
    · obtain ⟨f0, f1, f2, f3, f4⟩ := hv.out k hlt
      have dl : decide (V k ≤ last) = true := decide_eq_true f0
      by_cases h8 : k = 128
      · subst h8
        obtain rfl : N = 129 := by omega
        have X2 := Lib.hid (X1.out.trans (hS.out.1.mono X1.out.size))
        generalize V 128 = vk at *
        go_wp2
        go_returns
        exact ⟨_, rfl, pts_nil _, X2.out⟩
      · have HR := Lib.hid (fun W hW => H2.out k W hlt hW)
        have HQ := Lib.hid (fun W hW => H3.out k W hlt hW)
        have PK : Hid ((List.range (k + 1)).map (fun k => (H k, M k)) = (List.range k).map (fun k => (H k, M k)) ++ [(H k, M k)]) := Lib.hid (by rw [List.range_succ, List.map_append]; rfl)
        have e8 : ((k : Int) == 128) = false := by simp; omega
        have sz : ¬ s = 0 := by omega
        have sz2 : (s == 0) = false := by simp; omega
        have md := Int.emod_nonneg (Q k) (show s ≠ 0 by omega)
        have md2 := Int.emod_lt_of_pos (Q k) (show 0 < s by omega)
        have w1' : IntKind.i64.wrap (Q k % s) = Q k % s := wrap_in _ ⟨by omega, by omega⟩
        have w2' : IntKind.i64.wrap (Q k - Q k % s) = M k := by rw [← f3]; exact wrap_in _ ⟨by omega, by omega⟩
        have w3' : IntKind.i64.wrap (M k + s) = V (k + 1) := by rw [f4]; exact wrap_in _ ⟨by omega, by omega⟩
        have w4' : (Q k).tmod s = Q k % s := Int.tmod_eq_emod_of_nonneg f1
        replace f3 := Lib.hid f3
        replace f4 := Lib.hid f4
        generalize hL : (List.range k).map (fun k => (H k, M k)) = L at *
        replace hL := Lib.hid hL
        replace hln := Lib.hid hln
        generalize hq : Q k = qk at *
        generalize hm : M k = mk at *
        generalize hh : H k = hk' at *
        generalize hvk : V k = vk at *
        generalize hvk1 : V (k + 1) = vk1 at *
        clear hq hm hh hvk
        replace hvk1 := Lib.hid hvk1
        have X2 := Lib.hid (X1.out.trans (hS.out.1.mono X1.out.size))
        have KT := Lib.hid (fun W (hW : Below w1.heap.size w1 W) => T0.out.below hW)
        obtain ⟨t0, t1, _, _, _⟩ := KT.out wr hS.out.1
        go_wp2_with fail
        refine (HR.out _ X2.out).mono ?_
        rintro e w3 ⟨rfl, gg⟩
        have S3 := Lib.hid (hS.out.below gg)
        clear gg t0 t1
        have X3 := Lib.hid (X1.out.trans (S3.out.1.mono X1.out.size))
        obtain ⟨t0, t1, _, _, _⟩ := KT.out w3 S3.out.1
        go_wp2_with fail
        refine (HQ.out _ X3.out).mono ?_
        rintro e w4 ⟨rfl, gg⟩
        have S4 := Lib.hid (S3.out.below gg)
        clear gg t0 t1
        have OA : Hid ((w4.alloc (.cells #[.int .i64 hk', .int .i64 mk] 39)).ownsRow w1.heap.size 39 2 (.slice av k cv) k (flat L)) := Lib.hid (by
          have := RM.below S4.out.2 (bel_alloc (o := .cells #[.int .i64 hk', .int .i64 mk] 39) (Below.refl _ _))
          unfold OwnM at this
          rwa [hln.out] at this)
        have CN := Lib.hid (RM.pair_new w4 hk' mk 39)
        have S5 := Lib.hid (S4.out.below (bel_alloc (o := .cells #[.int .i64 hk', .int .i64 mk] 39) (Below.refl _ _)))
        have HS : Hid (w1.heap.size ≤ (w4.alloc (.cells #[.int .i64 hk', .int .i64 mk] 39)).heap.size) := Lib.hid S5.out.1.size
        have M1 : Hid (k + 1 ≤ maxLen) := Lib.hid (by unfold maxLen; omega)
        have M2 : Hid ((k + 1) * 16 ≤ 140737488355328) := Lib.hid (by omega)
        go_wp2_with (at_builtin; refine wpList_append_own_at _ rfl _ _ 22 rfl w1.heap.size 39 i0 (.agg #[.int .i64 0, .int .i64 0]) 2 16 Tryd.underlying22 hi.out hz0.out hz1.out hz2.out rfl (by omega) _ _ _ rfl OA.out ⟨w4.heap.size, 0, none⟩ 1 1 [.int .i64 hk', .int .i64 mk] rfl rfl CN.out (RM.pair_one hk' mk) M1.out M2.out HS.out ?_)
        intro v2 w5 hown hgrow _ _
        have SN : Hid (MkI w1 v2 ((List.range (k + 1)).map (fun k => (H k, M k))) w5) := Lib.hid (by
          have lt := fun r hr => (World.ownsRow.lt OA.out r hr).1
          exact ⟨S5.out.1.grown hgrow HS.out lt, RM.push PK.out hln.out hown⟩)
        obtain ⟨a9, c9, ev⟩ := RM.shape SN.out.2
        rw [show ((List.range (k + 1)).map (fun k => (H k, M k))).length = k + 1 by simp] at ev
        replace ev := Lib.hid ev
        clear hown hgrow OA CN
        go_wp2
        go_roundw
        case rel => exact ⟨k + 1, by omega, by omega, by rw [hvk1.out], SN⟩
        case measure => rw [ev.out]; show 200 - (k + 1) < 200 - k; omega
    · obtain rfl : k = N := by omega
      have h9 := hN (by omega)
      have dl : decide (V k ≤ last) = false := decide_eq_false (by omega)
      have X2 := Lib.hid (X1.out.trans (hS.out.1.mono X1.out.size))
      have PV := Lib.hid (RM.pts hS.out.2)
      generalize V k = vk at *
      by_cases h0 : k = 0
      · subst h0
        go_wp2
        go_returns
        exact ⟨_, rfl, pts_nil _, X2.out⟩
      · have e0 : ((k : Int) == 0) = false := by simp; omega
        have i1 : ¬ 128 < k := by omega
        go_wp2
        go_returns
        exact ⟨_, rfl, PV.out, X2.out⟩
theorem mk_any (z : Value) (l : List (Int × Int)) (tol s : Int) (w : World) (hz : TbV w z l tol) :
    Calls Tryd.prog 12 #[z, .int .i64 s] w fun e w' => ∃ u, e = .returned (.tuple #[u, .int .i64 (rmE l tol s)]) ∧ Pts w' u (rmL l tol s) ∧ Below w.heap.size w w' := by
  have H1 : Hid (∀ W, Below w.heap.size w W → _) := Lib.hid fun W hW => dipChk_any z l tol W (hz.below hW)
  have bad : ∀ V : Int, rmE l tol s = V → V ≠ 0 → (Calls Tryd.prog 12 #[z, .int .i64 s] w fun e w' => e = .returned (.tuple #[.slice none 0 0, .int .i64 V]) ∧ Below w.heap.size w w') → Calls Tryd.prog 12 #[z, .int .i64 s] w fun e w' => ∃ u, e = .returned (.tuple #[u, .int .i64 (rmE l tol s)]) ∧ Pts w' u (rmL l tol s) ∧ Below w.heap.size w w' := fun V e1 e2 hC => by
    refine hC.mono ?_
    rintro e w' ⟨rfl, hb⟩
    refine ⟨_, by rw [e1], ?_, hb⟩
    unfold rmL
    rw [if_neg (by omega)]
    exact pts_nil _
  by_cases h : tbE l tol = 0
  · by_cases g : s < 1 ∨ 1073741824 < s
    · have e1 : rmE l tol s = 2 := by unfold rmE; rw [if_neg (by simpa using h), if_pos g]
      refine bad 2 e1 (by decide) ?_
      rw [h] at H1
      obtain ⟨a, cap, rfl, hp⟩ := hz
      exact mk_bad a _ cap tol s 0 2 w ((Classical.em (s < 1)).elim (fun g1 => .inr (.inl ⟨rfl, g1, rfl⟩)) (fun g1 => .inr (.inr ⟨rfl, g1, by omega, rfl⟩))) H1
    · obtain ⟨hR, _⟩ := tbE_iff.1 h
      have n0 := hR.n0
      have n1 := hR.n1
      have hs : 1 ≤ s := by omega
      have e1 : rmE l tol s = if rdC l s = 0 then 9 else if 128 < rdC l s then 8 else 0 := by unfold rmE; rw [if_neg (by simpa using h), if_neg g]
      have e2 : rmL l tol s = if rdC l s = 0 then [] else if 128 < rdC l s then [] else (List.range (rdC l s)).map fun k => (lsA l (rdV l s k), vl l (lsA l (rdV l s k)) / s * s) := by
        unfold rmL
        rw [e1]
        by_cases q1 : rdC l s = 0
        · rw [if_pos q1, if_pos q1, if_neg (by decide)]
        · rw [if_neg q1, if_neg q1]
          by_cases q2 : 128 < rdC l s
          · rw [if_pos q2, if_pos q2, if_neg (by decide)]
          · rw [if_neg q2, if_neg q2, if_pos rfl]
            rfl
      rw [e1, e2]
      have H2 : Hid (∀ k W, k < rdC l s → Below w.heap.size w W → _) := Lib.hid fun k W hk hW => reach_any z l tol (rdV l s k) W (hz.below hW) h (rd_lt hk)
      have H3 : Hid (∀ k W, k < rdC l s → Below w.heap.size w W → Calls Tryd.prog 27 #[z, .int .i64 (lsA l (rdV l s k))] W fun e w' => e = .returned (.tuple #[.int .i64 (vl l (lsA l (rdV l s k))), .int .i64 0]) ∧ Below W.heap.size W w') := Lib.hid fun k W hk hW => by
        have r := rd_k hR hs (rd_lt hk)
        have e := dipRead_any z l tol (lsA l (rdV l s k)) W (hz.below hW)
        have e0 : rdE l tol (lsA l (rdV l s k)) = 0 := rdE_zero.2 ⟨h, r.h0, r.h1⟩
        unfold rdQ at e
        rwa [if_pos e0, e0] at e
      rw [h] at H1
      obtain ⟨a, cap, rfl, hp⟩ := hz
      obtain ⟨b, off, rfl, hb, hc⟩ := hp.at (by omega)
      obtain ⟨m, hm⟩ : ∃ m, l.length = m + 1 := ⟨l.length - 1, by omega⟩
      have c0 := (hc m (by omega)).2
      have b1 := hR.bv m (by omega)
      have el : l.length - 1 = m := by omega
      rw [hm] at H1 H2 H3 ⊢
      refine mk_ok b off m cap tol s (gR l m) (rdV l s) (fun k => lsA l (rdV l s k)) (fun k => vl l (lsA l (rdV l s k))) (fun k => vl l (lsA l (rdV l s k)) / s * s) (rdC l s) w (by omega) hb hs (by omega) (fst_le _ _) b1 (Lib.hid c0) rfl (Lib.hid fun k hk => ?_) (fun hN => ?_) H1 H2 H3
      · have r := rd_k hR hs (rd_lt hk)
        have q := rd_lt hk
        have v := r.v1
        have sp := hR.span
        have vb := vl_bd hR r.h0 r.h1
        have v0 := (hR.bv 0 (by omega)).1
        rw [el] at q v vb
        have dm := Int.mul_ediv_add_emod (vl l (lsA l (rdV l s k))) s
        rw [Int.mul_comm] at dm
        refine ⟨q, by omega, by omega, ?_, rfl⟩
        show vl l (lsA l (rdV l s k)) / s * s = vl l (lsA l (rdV l s k)) - vl l (lsA l (rdV l s k)) % s
        omega
      · have := rd_end (l := l) (s := s) (by omega)
        rwa [el] at this
  · have e1 : rmE l tol s = 1 := by unfold rmE; rw [if_pos (by simpa using h)]
    refine bad 1 e1 (by decide) ?_
    obtain ⟨a, cap, rfl, hp⟩ := hz
    exact mk_bad a _ cap tol s _ 1 w (.inl ⟨by simpa using h, rfl⟩) H1
end Go.Proofs.YtdjlainhaoaeiaaDoor

/- Package rod: Check, Reading, Compare. -/
namespace Go.Proofs.YtdjlainhaoaeiaaDoor
open Go.RowKit

/-! ### Check of a rod -/
set_option maxHeartbeats 4000000 in
theorem rodOut_any (x v : Int) (w : World) :
    Calls Tryd.prog 42 #[.agg #[.int .i64 x, .int .i64 v]] w fun e w' => e = .returned (.bool (rkOut (x, v))) ∧ Below w.heap.size w w' := by
  unfold rkOut
  have X := Lib.hid (bel_alloc (o := .cells #[.int .i64 x, .int .i64 v] 39) (Below.refl _ (w.alloc (.cells #[.int .i64 x, .int .i64 v] 39))))
  show Calls _ _ _ _ fun e w' => e = .returned (.bool (decide (x < 0) || decide (200000 < x) || decide (v < 1) || decide (4294967296 < v))) ∧ _
  by_cases h0 : x < 0
  · have d0 : decide (x < 0) = true := decide_eq_true h0
    rw [d0, Bool.true_or, Bool.true_or, Bool.true_or]
    clear h0
    go_enter Tryd.func42, Tryd.ntmps42
    go_wp2
    go_returns
    exact ⟨rfl, X.out⟩
  have d0 : decide (x < 0) = false := decide_eq_false h0
  by_cases h1 : 200000 < x
  · have d1 : decide (200000 < x) = true := decide_eq_true h1
    rw [d0, d1, Bool.false_or, Bool.true_or, Bool.true_or]
    clear h0 h1
    go_enter Tryd.func42, Tryd.ntmps42
    go_wp2
    go_returns
    exact ⟨rfl, X.out⟩
  have d1 : decide (200000 < x) = false := decide_eq_false h1
  by_cases h2 : v < 1
  · have d2 : decide (v < 1) = true := decide_eq_true h2
    rw [d0, d1, d2, Bool.false_or, Bool.false_or, Bool.true_or]
    clear h0 h1 h2
    go_enter Tryd.func42, Tryd.ntmps42
    go_wp2
    go_returns
    exact ⟨rfl, X.out⟩
  have d2 : decide (v < 1) = false := decide_eq_false h2
  rw [d0, d1, d2, Bool.false_or, Bool.false_or, Bool.false_or]
  clear h0 h1 h2
  generalize hB : decide (4294967296 < v) = B
  go_enter Tryd.func42, Tryd.ntmps42
  go_wp2
  go_returns
  exact ⟨rfl, X.out⟩
set_option maxHeartbeats 8000000 in
set_option maxRecDepth 100000 in
theorem rodRis_some (b off q cap : Nat) (l : List (Int × Int)) (A : Bool) (w : World) (n0 : 1 ≤ q) (n1 : q ≤ 200) (hb : b < w.heap.size) (hcap : q + 1 ≤ cap)
    (hc : Hid (∀ j, j < q + 1 → w.cell? ⟨b, off + j * 2, none⟩ = some (.int .i64 (gX l j)) ∧ w.cell? ⟨b, off + j * 2 + 1, none⟩ = some (.int .i64 (gR l j))))
    (h5 : Hid ((∃ i, i < q ∧ ¬ (gX l i < gX l (i + 1) ∧ gR l i < gR l (i + 1))) → A = false)) (h6 : Hid ((∀ i, i < q → gX l i < gX l (i + 1) ∧ gR l i < gR l (i + 1)) → A = true)) :
    Calls Tryd.prog 43 #[.slice (some ⟨b, off, none⟩) (q + 1) cap] w fun e w' => e = .returned (.bool A) ∧ Below w.heap.size w w' := by
  have hc1 : ¬ cap = 1 := by omega
  go_enter Tryd.func43, Tryd.ntmps43
  go_wp2_with fail
  go_loopw [8] (fun ii wr => ∃ j : Nat, j ≤ q ∧ ii = .int .i64 (j : Int) ∧ Hid (Below w.heap.size w wr) ∧ Hid (∀ i, i < j → gX l i < gX l (i + 1) ∧ gR l i < gR l (i + 1))) (fun ii _ => q - (intOf ii).toNat)
  case atStart => exact ⟨0, by omega, rfl, Below.refl _ _, fun i hi => by omega⟩
  case round =>
    obtain ⟨j, hj, rfl, hB, hs⟩ := hrel
    by_cases hlt : j < q
    · have bb : b < wr.heap.size := Nat.lt_of_lt_of_le hb hB.out.size
      have c0 : wr.cell? ⟨b, off + j * 2, none⟩ = some (.int .i64 (gX l j)) := by rw [(bcell hB.out).1 _ _ hb]; exact (hc.out j (by omega)).1
      have c1 : wr.cell? ⟨b, off + j * 2 + 1, none⟩ = some (.int .i64 (gR l j)) := by rw [(bcell hB.out).1 _ _ hb]; exact (hc.out j (by omega)).2
      have c2 : wr.cell? ⟨b, off + 2 + j * 2, none⟩ = some (.int .i64 (gX l (j + 1))) := by rw [show off + 2 + j * 2 = off + (j + 1) * 2 by omega, (bcell hB.out).1 _ _ hb]; exact (hc.out (j + 1) (by omega)).1
      have c3 : wr.cell? ⟨b, off + 2 + j * 2 + 1, none⟩ = some (.int .i64 (gR l (j + 1))) := by rw [show off + 2 + j * 2 + 1 = off + (j + 1) * 2 + 1 by omega, (bcell hB.out).1 _ _ hb]; exact (hc.out (j + 1) (by omega)).2
      have HG : Hid (gX l j < gX l (j + 1) ∧ gR l j < gR l (j + 1) → ∀ i, i < j + 1 → gX l i < gX l (i + 1) ∧ gR l i < gR l (i + 1)) := fun h i hi => by
        by_cases e : i = j
        · rw [e]; exact h
        · exact hs.out i (by omega)
      have HN : Hid (¬ (gX l j < gX l (j + 1) ∧ gR l j < gR l (j + 1)) → A = false) := fun h => h5.out ⟨j, hlt, h⟩
      generalize gX l j = x at *
      generalize gR l j = u at *
      generalize gX l (j + 1) = y at *
      generalize gR l (j + 1) = v at *
      have l0 : (j : Int) < (q : Int) + 1 := by omega
      have d0 : (wr.alloc (.cells #[.int .i64 y, .int .i64 v] 39)).cell? ⟨b, off + j * 2, none⟩ = some (.int .i64 x) := by rw [World.cell?_alloc_lt wr _ _ bb]; exact c0
      have d1 : (wr.alloc (.cells #[.int .i64 y, .int .i64 v] 39)).cell? ⟨b, off + j * 2 + 1, none⟩ = some (.int .i64 u) := by rw [World.cell?_alloc_lt wr _ _ bb]; exact c1
      have X := Lib.hid (bel_trans hB.out (bel_alloc (o := .cells #[.int .i64 y, .int .i64 v] 39) (Below.refl _ _)))
      have X2 : Hid (∀ m, Below w.heap.size w ((wr.alloc (.cells #[.int .i64 y, .int .i64 v] 39)).drewN m)) := Lib.hid fun m => ⟨X.out.os, X.out.tape, X.out.output, X.out.size, X.out.block⟩
      by_cases hxy : y ≤ x
      · obtain rfl := HN.out (by omega)
        have hd : decide (y ≤ x) = true := decide_eq_true hxy
        clear HN HG h5 h6 hxy
        go_wp2_with fail
        go_quiet (fail)
        go_wp2
        go_returns
        exact ⟨rfl, X2.out _⟩
      · have hd : decide (y ≤ x) = false := decide_eq_false hxy
        by_cases huv : v ≤ u
        · obtain rfl := HN.out (by omega)
          have hd2 : decide (v ≤ u) = true := decide_eq_true huv
          clear HN HG h5 h6 hxy huv
          go_wp2_with fail
          go_quiet (fail)
          go_wp2
          go_returns
          exact ⟨rfl, X2.out _⟩
        · have hd2 : decide (v ≤ u) = false := decide_eq_false huv
          replace HG := Lib.hid (HG.out (by omega))
          clear HN hxy huv
          go_wp2_with fail
          go_quiet (fail)
          go_wp2
          go_roundw
          case rel => exact ⟨j + 1, by omega, by go_num, X2.out _, HG.out⟩
          case measure => simp [intOf]; omega
    · obtain rfl : j = q := by omega
      obtain rfl := h6.out hs.out
      clear h5 h6
      go_wp2
      go_returns
      exact ⟨rfl, hB.out⟩
set_option maxHeartbeats 8000000 in
theorem rodRis_one (b off cap : Nat) (w : World) (hcap : 1 ≤ cap) :
    Calls Tryd.prog 43 #[.slice (some ⟨b, off, none⟩) 1 cap] w fun e w' => e = .returned (.bool true) ∧ Below w.heap.size w w' := by
  by_cases h : cap = 1
  · subst h
    go_enter Tryd.func43, Tryd.ntmps43
    go_wp2_with fail
    go_loopw [8] (fun ii wr => ii = .int .i64 0 ∧ Hid (Below w.heap.size w wr)) (fun _ _ => 0)
    case atStart => exact ⟨rfl, Below.refl _ _⟩
    case round =>
      obtain ⟨rfl, hB⟩ := hrel
      go_wp2
      go_returns
      exact ⟨rfl, hB.out⟩
  · go_enter Tryd.func43, Tryd.ntmps43
    go_wp2_with fail
    go_loopw [8] (fun ii wr => ii = .int .i64 0 ∧ Hid (Below w.heap.size w wr)) (fun _ _ => 0)
    case atStart => exact ⟨rfl, Below.refl _ _⟩
    case round =>
      obtain ⟨rfl, hB⟩ := hrel
      go_wp2
      go_returns
      exact ⟨rfl, hB.out⟩
set_option maxHeartbeats 8000000 in
theorem rodChk_len (a : Option Addr) (n cap : Nat) (V : Int) (w : World) (h : (n = 0 ∧ V = 9) ∨ (n ≠ 0 ∧ 128 < n ∧ n ≤ 9223372036854775807 ∧ V = 8)) :
    Calls Tryd.prog 21 #[.slice a n cap] w fun e w' => e = .returned (.int .i64 V) ∧ Below w.heap.size w w' := by
  rcases h with ⟨rfl, rfl⟩ | ⟨h, h2, h3, rfl⟩
  · go_enter Tryd.func21, Tryd.ntmps21
    go_wp2
    go_returns
    exact ⟨rfl, Below.refl _ _⟩
  · have e0 : ((n : Int) == 0) = false := by simp; omega
    go_enter Tryd.func21, Tryd.ntmps21
    go_wp2
    go_returns
    exact ⟨rfl, Below.refl _ _⟩
set_option maxHeartbeats 8000000 in
theorem rodChk_core (a : Option Addr) (n cap : Nat) (V : Int) (O A : Bool) (w : World) (n0 : n ≠ 0) (n1 : n ≤ 128) (hV : (O = true ∧ V = 2) ∨ (O = false ∧ A = false ∧ V = 5) ∨ (O = false ∧ A = true ∧ V = 0))
    (H3 : Hid (∀ W, Below w.heap.size w W → Calls Tryd.prog 28 #[.slice a n cap, .func (.func 42) #[] #[]] W fun e w' => e = .returned (.bool O) ∧ Below W.heap.size W w'))
    (H4 : Hid (∀ W, Below w.heap.size w W → Calls Tryd.prog 43 #[.slice a n cap] W fun e w' => e = .returned (.bool A) ∧ Below W.heap.size W w')) :
    Calls Tryd.prog 21 #[.slice a n cap] w fun e w' => e = .returned (.int .i64 V) ∧ Below w.heap.size w w' := by
  have e0 : ((n : Int) == 0) = false := by simp; omega
  go_enter Tryd.func21, Tryd.ntmps21
  go_wp2_with fail
  refine (H3.out _ (Below.refl _ _)).mono ?_
  rintro e w1 ⟨rfl, gg⟩
  have X1 := Lib.hid gg; clear gg
  rcases hV with ⟨rfl, rfl⟩ | hV
  · go_wp2
    go_returns
    exact ⟨rfl, X1.out⟩
  rcases hV with ⟨rfl, rfl, rfl⟩ | ⟨rfl, rfl, rfl⟩
  all_goals
    go_wp2_with fail
    refine (H4.out _ X1.out).mono ?_
    rintro e w2 ⟨rfl, gg⟩
    replace X1 := Lib.hid (bel_trans X1.out gg); clear gg
    go_wp2
    go_returns
    exact ⟨rfl, X1.out⟩
theorem rodChk_any (v : Value) (l : List (Int × Int)) (w : World) (hp : Pts w v l) :
    Calls Tryd.prog 21 #[v] w fun e w' => e = .returned (.int .i64 (roE l)) ∧ Below w.heap.size w w' := by
  have hp' := hp
  obtain ⟨a, cap, rfl, hcap, hh⟩ := hp'
  unfold roE
  by_cases g1 : l.length = 0
  · rw [if_pos g1]
    exact rodChk_len a _ cap _ w (.inl ⟨g1, rfl⟩)
  · rw [if_neg g1]
    by_cases g2 : 128 < l.length
    · rw [if_pos g2]
      exact rodChk_len a _ cap _ w (.inr ⟨g1, g2, by omega, rfl⟩)
    · rw [if_neg g2]
      have H3 : Hid (∀ W, Below w.heap.size w W → Calls Tryd.prog 28 #[.slice a l.length cap, .func (.func 42) #[] #[]] W fun e w' => e = .returned (.bool (l.any rkOut)) ∧ Below W.heap.size W w') := Lib.hid fun W hW => by
        refine conm_of _ _ a _ cap rfl (fun j => rkOut (gX l j, gR l j)) _ W (Lib.hid (idxm_any 42 #[] _ (enters_of Tryd.func42 (by kernel_rfl) rfl) _ l W (by omega) (hp.below hW) (Lib.hid fun j W2 hj hW2 => rodOut_any _ _ W2))) (Lib.hid ?_)
        exact anyq_at
      obtain ⟨b, off, rfl, hb, hc⟩ := hp.at (by omega)
      obtain ⟨q, hq⟩ : ∃ q, l.length = q + 1 := ⟨l.length - 1, by omega⟩
      rw [hq] at H3 hc hcap ⊢
      rw [Nat.add_sub_cancel]
      refine rodChk_core _ _ cap _ (l.any rkOut) (rrB l q) w (by omega) (by omega) ?_ H3 (Lib.hid fun W hW => ?_)
      · cases l.any rkOut with
        | true => left; simp
        | false =>
          right
          cases rrB l q with
          | false => left; simp
          | true => right; simp
      · by_cases q0 : q = 0
        · subst q0
          exact rodRis_one b off cap W (by omega)
        refine rodRis_some b off q cap l _ W (by omega) (by omega) (Nat.lt_of_lt_of_le hb hW.size) hcap.1 (Lib.hid fun j hj => ⟨by rw [(bcell hW).1 _ _ hb]; exact (hc j hj).1, by rw [(bcell hW).1 _ _ hb]; exact (hc j hj).2⟩) (Lib.hid fun ⟨i, hi, hx⟩ => ?_) (Lib.hid fun h => (rrB_iff l q).2 h)
        rw [Bool.eq_false_iff]
        intro h
        exact hx ((rrB_iff l q).1 h i hi)
/-! ### Reading -/
def rgE (l : List (Int × Int)) (x : Int) : Int := if roE l ≠ 0 then 1 else if x < 0 ∨ gX l (l.length - 1) < x then 2 else 0
/-- the first mark above a height -/
def rgK (l : List (Int × Int)) (x : Int) : Nat := fst (fun j => decide (x < gX l j)) l.length
def rgL (l : List (Int × Int)) (x : Int) : Int := if rgE l x ≠ 0 then 0 else if x = gX l (l.length - 1) then gR l (l.length - 1) else if rgK l x = 0 then 0 else gR l (rgK l x - 1)
def rgH (l : List (Int × Int)) (x : Int) : Int := if rgE l x ≠ 0 then 0 else if x = gX l (l.length - 1) then gR l (l.length - 1) else gR l (rgK l x) - 1
theorem rodRg1_any (x v y : Int) (q : Nat) (w : World) (h : w.cell? ⟨q, 0, none⟩ = some (.int .i64 y)) (hq : q < w.heap.size) :
    Calls Tryd.prog 39 #[.agg #[.int .i64 x, .int .i64 v], .pointer (some ⟨q, 0, none⟩)] w fun e w' => e = .returned (.bool (decide (y < x))) ∧ Below w.heap.size w w' := by
  have c0 : (w.alloc (.cells #[.int .i64 x, .int .i64 v] 39)).cell? ⟨q, 0, none⟩ = some (.int .i64 y) := by rw [World.cell?_alloc_lt w _ _ hq]; exact h
  have X := Lib.hid (bel_alloc (o := .cells #[.int .i64 x, .int .i64 v] 39) (Below.refl _ (w.alloc (.cells #[.int .i64 x, .int .i64 v] 39))))
  clear h
  generalize hB : decide (y < x) = B
  go_enter Tryd.func39, Tryd.ntmps39
  go_wp2
  go_returns
  exact ⟨rfl, X.out⟩
def RgI (w : World) (x : Value) (W : World) : Prop :=
  Boxed W w.heap.size 3 x ∧ Two (w.heap.size + 1) W (.int .i64 0) (.int .i64 0) ∧ Below w.heap.size w W
theorem rbx_below {W W' : World} {b : Nat} {t : TypeId} {v : Value} (h : Boxed W b t v) (hb : Below W.heap.size W W') : Boxed W' b t v := by
  show W'.heap[b]? = _
  rw [hb.block _ h.lt]
  exact h
theorem RgI.below {w : World} {x : Value} {W W' : World} (h : RgI w x W) (hb : Below W.heap.size W W') : RgI w x W' := ⟨rbx_below h.1 hb, h.2.1.below hb, bel_trans h.2.2 hb⟩
theorem RgI.init (w : World) (x : Value) (U : TypeId) : RgI w x ((w.alloc (.cells #[x] 3)).alloc (.cells #[.int .i64 0, .int .i64 0] U)) := by
  have h2 := Two.new (w.alloc (.cells #[x] 3)) (.int .i64 0) (.int .i64 0) U
  rw [World.size_alloc] at h2
  exact ⟨(Boxed.new w 3 x).alloc _, h2, bel_alloc (bel_alloc (Below.refl _ _))⟩
theorem RgI.put {w : World} {x : Value} {W : World} (h : RgI w x W) (p q : Value) :
    Two (w.heap.size + 1) ((W.setCell ⟨w.heap.size + 1, 0, none⟩ p).setCell ⟨w.heap.size + 1, 1, none⟩ q) p q ∧ Below w.heap.size w ((W.setCell ⟨w.heap.size + 1, 0, none⟩ p).setCell ⟨w.heap.size + 1, 1, none⟩ q) :=
  ⟨(h.2.1.set0 p).set1 q, (h.2.2.setCell (p := ⟨w.heap.size + 1, 0, none⟩) (by show w.heap.size ≤ w.heap.size + 1; omega) _).setCell (p := ⟨w.heap.size + 1, 1, none⟩) (by show w.heap.size ≤ w.heap.size + 1; omega) _⟩
set_option maxHeartbeats 8000000 in
theorem rodRg_bad (v : Value) (x E : Int) (w : World) (e2 : (E != 0) = true)
    (H1 : Hid (∀ W, Below w.heap.size w W → Calls Tryd.prog 21 #[v] W fun e w' => e = .returned (.int .i64 E) ∧ Below W.heap.size W w')) :
    Calls Tryd.prog 16 #[v, .int .i64 x] w fun e w' => e = .returned (.tuple #[.agg #[.int .i64 0, .int .i64 0], .int .i64 1]) ∧ Below w.heap.size w w' := by
  have S0 := Lib.hid (RgI.init w (.int .i64 x) 34)
  go_enter Tryd.func16, Tryd.ntmps16
  go_wp2_with fail
  refine (H1.out _ S0.out.2.2).mono ?_
  rintro e w1 ⟨rfl, gg⟩
  replace S0 := Lib.hid (S0.out.below gg); clear gg
  obtain ⟨_, ⟨z0, z1, zf0, zf1, _⟩, _⟩ := S0.out
  go_wp2
  obtain ⟨⟨p0, p1, _, _, _⟩, B⟩ := S0.out.put (.int .i64 0) (.int .i64 0)
  refine bodyPost_ret (v := .tuple #[.agg #[.int .i64 0, .int .i64 0], .int .i64 1]) (by simp [results, Tryd.results16, go_sem, p0, p1]) rfl ?_
  exact ⟨rfl, B⟩
set_option maxHeartbeats 16000000 in
set_option maxRecDepth 100000 in
theorem rodRg_core (b off m cap k : Nat) (x x1 v1 vk vp A B V : Int) (w : World) (m1 : m ≤ 1000) (hb : b < w.heap.size) (hk : k ≤ m) (bv : 1 ≤ vk ∧ vk ≤ 4294967296)
    (c0 : Hid (w.cell? ⟨b, off + m * 2, none⟩ = some (.int .i64 x1))) (c1 : Hid (w.cell? ⟨b, off + m * 2 + 1, none⟩ = some (.int .i64 v1)))
    (c2 : Hid (w.cell? ⟨b, off + k * 2 + 1, none⟩ = some (.int .i64 vk))) (c3 : Hid (0 < k → w.cell? ⟨b, off + (k - 1) * 2 + 1, none⟩ = some (.int .i64 vp)))
    (hV : (x < 0 ∧ V = 2 ∧ A = 0 ∧ B = 0) ∨ (¬ x < 0 ∧ x1 < x ∧ V = 2 ∧ A = 0 ∧ B = 0) ∨ (¬ x < 0 ∧ x = x1 ∧ V = 0 ∧ A = v1 ∧ B = v1) ∨ (¬ x < 0 ∧ x < x1 ∧ V = 0 ∧ ((k = 0 ∧ A = 0) ∨ (0 < k ∧ A = vp)) ∧ B = vk - 1))
    (H1 : Hid (∀ W, Below w.heap.size w W → Calls Tryd.prog 21 #[.slice (some ⟨b, off, none⟩) (m + 1) cap] W fun e w' => e = .returned (.int .i64 0) ∧ Below W.heap.size W w'))
    (H2 : Hid (¬ x < 0 → x < x1 → ∀ W q, Below w.heap.size w W → Boxed W q 3 (.int .i64 x) → Calls Tryd.prog 38 #[.slice (some ⟨b, off, none⟩) (m + 1) cap, .func (.func 39) #[] #[.pointer (some ⟨q, 0, none⟩)]] W fun e w' => e = .returned (.int .i64 k) ∧ Below W.heap.size W w')) :
    Calls Tryd.prog 16 #[.slice (some ⟨b, off, none⟩) (m + 1) cap, .int .i64 x] w fun e w' => e = .returned (.tuple #[.agg #[.int .i64 A, .int .i64 B], .int .i64 V]) ∧ Below w.heap.size w w' := by
  have hmf : ∀ (fn : Fn) (first cap : Array Value) (w : World), (Instr.makeFunc fn first cap).run Tryd.prog w = .ok (.func fn first cap) w := fun _ _ _ _ => rfl
  have S0 := Lib.hid (RgI.init w (.int .i64 x) 34)
  have wk : IntKind.i64.wrap (((m + 1 : Nat) : Int) - 1) = (m : Int) := by rw [wrap_in _ ⟨by omega, by omega⟩]; omega
  have wk1 : IntKind.i64.wrap ((m : Int) + 1 - 1) = (m : Int) := by rw [wrap_in _ ⟨by omega, by omega⟩]; omega
  have wk2 : (m : Int) < ((m + 1 : Nat) : Int) := by omega
  have wk3 : (m : Int) < (m : Int) + 1 := by omega
  go_enter Tryd.func16, Tryd.ntmps16
  go_wp2_with fail
  refine (H1.out _ S0.out.2.2).mono ?_
  rintro e w1 ⟨rfl, gg⟩
  replace S0 := Lib.hid (S0.out.below gg); clear gg
  have d0 : w1.cell? ⟨b, off + m * 2, none⟩ = some (.int .i64 x1) := by rw [(bcell S0.out.2.2).1 _ _ hb]; exact c0.out
  have d1 : w1.cell? ⟨b, off + m * 2 + 1, none⟩ = some (.int .i64 v1) := by rw [(bcell S0.out.2.2).1 _ _ hb]; exact c1.out
  have S1 := Lib.hid (S0.out.below (bel_alloc (o := .cells #[.int .i64 x1, .int .i64 v1] 39) (Below.refl _ _)))
  have N1 := Lib.hid (Two.new w1 (.int .i64 x1) (.int .i64 v1) 39)
  have y0 := S1.out.1.cell
  obtain ⟨_, ⟨z0, z1, zf0, zf1, _⟩, _⟩ := S1.out
  obtain ⟨n0, n1, _, _, _⟩ := N1.out
  rcases hV with ⟨h, rfl, rfl, rfl⟩ | ⟨h, h2, rfl, rfl, rfl⟩ | ⟨h, h2, rfl, hA, hB⟩ | ⟨h, h2, rfl, hA, rfl⟩
  · have g1 : decide (x < 0) = true := decide_eq_true h
    go_wp2
    obtain ⟨⟨p0, p1, _, _, _⟩, B⟩ := S1.out.put (.int .i64 0) (.int .i64 0)
    refine bodyPost_ret (v := .tuple #[.agg #[.int .i64 0, .int .i64 0], .int .i64 2]) (by simp [results, Tryd.results16, go_sem, p0, p1]) rfl ?_
    exact ⟨rfl, B⟩
  · have g1 : decide (x < 0) = false := decide_eq_false (by omega)
    have g2 : decide (x1 < x) = true := decide_eq_true h2
    go_wp2
    obtain ⟨⟨p0, p1, _, _, _⟩, B⟩ := S1.out.put (.int .i64 0) (.int .i64 0)
    refine bodyPost_ret (v := .tuple #[.agg #[.int .i64 0, .int .i64 0], .int .i64 2]) (by simp [results, Tryd.results16, go_sem, p0, p1]) rfl ?_
    exact ⟨rfl, B⟩
  · have g1 : decide (x < 0) = false := decide_eq_false (by omega)
    subst h2
    have g2 : decide (x < x) = false := decide_eq_false (by omega)
    have g3 : (x == x) = true := by simp
    go_wp2
    obtain ⟨⟨p0, p1, _, _, _⟩, BB⟩ := S1.out.put (.int .i64 v1) (.int .i64 v1)
    refine bodyPost_ret (v := .tuple #[.agg #[.int .i64 v1, .int .i64 v1], .int .i64 0]) (by simp [results, Tryd.results16, go_sem, p0, p1]) rfl ?_
    exact ⟨by rw [hA, hB], BB⟩
  · have g1 : decide (x < 0) = false := decide_eq_false (by omega)
    have g2 : decide (x1 < x) = false := decide_eq_false (by omega)
    have g3 : (x == x1) = false := by simp; omega
    have HI := Lib.hid (H2.out (by omega) h2 _ _ S1.out.2.2 S1.out.1)
    have wb : IntKind.i64.wrap (vk - 1) = vk - 1 := wrap_in _ ⟨by omega, by omega⟩
    have l1 : (k : Int) < (m : Int) + 1 := by omega
    clear h h2
    go_wp2_with fail
    refine HI.out.mono ?_
    rintro e w2 ⟨rfl, gg⟩
    clear y0 z0 z1 zf0 zf1 n0 n1 d0 d1
    replace S1 := Lib.hid (S1.out.below gg); clear gg
    have d2 : w2.cell? ⟨b, off + k * 2 + 1, none⟩ = some (.int .i64 vk) := by rw [(bcell S1.out.2.2).1 _ _ hb]; exact c2.out
    have N2 := Lib.hid (Two.new w2 (.int .i64 0) (.int .i64 (vk - 1)) 34)
    rcases hA with ⟨rfl, rfl⟩ | ⟨k0, rfl⟩
    · replace S1 := Lib.hid (S1.out.below (bel_alloc (o := .cells #[.int .i64 0, .int .i64 (vk - 1)] 34) (Below.refl _ _)))
      obtain ⟨_, ⟨z0, z1, zf0, zf1, _⟩, _⟩ := S1.out
      go_wp2
      obtain ⟨⟨p0, p1, _, _, _⟩, B⟩ := S1.out.put (.int .i64 0) (.int .i64 (vk - 1))
      refine bodyPost_ret (v := .tuple #[.agg #[.int .i64 0, .int .i64 (vk - 1)], .int .i64 0]) (by simp [results, Tryd.results16, go_sem, p0, p1]) rfl ?_
      exact ⟨rfl, B⟩
    · obtain ⟨j, rfl⟩ : ∃ j, k = j + 1 := ⟨k - 1, by omega⟩
      have d3 : w2.cell? ⟨b, off + j * 2 + 1, none⟩ = some (.int .i64 A) := by rw [(bcell S1.out.2.2).1 _ _ hb]; exact c3.out (by omega)
      have d4 : (w2.alloc (.cells #[.int .i64 0, .int .i64 (vk - 1)] 34)).cell? ⟨b, off + j * 2 + 1, none⟩ = some (.int .i64 A) := by rw [World.cell?_alloc_lt w2 _ _ (Nat.lt_of_lt_of_le hb S1.out.2.2.size)]; exact d3
      have d5 : w2.cell? ⟨b, off + (j + 1) * 2 + 1, none⟩ = some (.int .i64 vk) := d2
      have wj : IntKind.i64.wrap ((j : Int) + 1 - 1) = (j : Int) := by rw [wrap_in _ ⟨by omega, by omega⟩]; omega
      have wj2 : IntKind.i64.wrap (j : Int) = (j : Int) := wrap_in _ ⟨by omega, by omega⟩
      have l2 : (j : Int) < (m : Int) + 1 := by omega
      have l3 : (0 : Int) < (j : Int) + 1 := by omega
      have l4 : 0 ≤ (j : Int) + 1 := by omega
      have l5 : ((j : Int) + 1).toNat = j + 1 := by omega
      have l6 : (j : Int) + 1 < (m : Int) + 1 := by omega
      replace S1 := Lib.hid (S1.out.below (bel_alloc (o := .cells #[.int .i64 A, .int .i64 (vk - 1)] 34) (Below.refl _ _)))
      obtain ⟨_, ⟨z0, z1, zf0, zf1, _⟩, _⟩ := S1.out
      go_wp2
      obtain ⟨⟨p0, p1, _, _, _⟩, B⟩ := S1.out.put (.int .i64 A) (.int .i64 (vk - 1))
      refine bodyPost_ret (v := .tuple #[.agg #[.int .i64 A, .int .i64 (vk - 1)], .int .i64 0]) (by simp [results, Tryd.results16, go_sem, p0, p1]) rfl ?_
      exact ⟨rfl, B⟩
end Go.Proofs.YtdjlainhaoaeiaaDoor

/- Package rod: Reading, Compare. -/
namespace Go.Proofs.YtdjlainhaoaeiaaDoor
open Go.RowKit

theorem RR.lt {l : List (Int × Int)} (h : RR l) {i j : Nat} (hij : i < j) (hj : j < l.length) : gX l i < gX l j := by
  induction j with
  | zero => omega
  | succ j ih =>
    have := h.asc j hj
    by_cases e : i = j
    · rw [e]; exact this
    · have := ih (by omega) (by omega); omega
theorem ixR_pos {p : Nat → Bool} {n : Nat} (h : fst p n < n) : ixR p n = (fst p n : Int) := by unfold ixR; rw [if_pos h]
theorem rodRg_any (v : Value) (l : List (Int × Int)) (x : Int) (w : World) (hp : Pts w v l) :
    Calls Tryd.prog 16 #[v, .int .i64 x] w fun e w' => e = .returned (.tuple #[.agg #[.int .i64 (rgL l x), .int .i64 (rgH l x)], .int .i64 (rgE l x)]) ∧ Below w.heap.size w w' := by
  have H1 : Hid (∀ W, Below w.heap.size w W → _) := Lib.hid fun W hW => rodChk_any v l W (hp.below hW)
  by_cases h : roE l = 0
  · rw [h] at H1
    have hR := roE_iff.1 h
    have n0 := hR.n0
    have n1 := hR.n1
    obtain ⟨m, hm⟩ : ∃ m, l.length = m + 1 := ⟨l.length - 1, by omega⟩
    have el : l.length - 1 = m := by omega
    have hE : rgE l x = if x < 0 ∨ gX l m < x then 2 else 0 := by unfold rgE; rw [if_neg (by simpa using h), el]
    have sp := fst_spec (fun j => decide (x < gX l j)) l.length
    have sl := fst_le (fun j => decide (x < gX l j)) l.length
    have hk : x < gX l m → rgK l x ≤ m := fun g => by
      unfold rgK
      rcases Nat.lt_or_ge m (fst (fun j => decide (x < gX l j)) l.length) with q | q
      · have := of_decide_eq_false (sp.1 m q); omega
      · exact q
    have HI : Hid (x < gX l m → ∀ W q, Below w.heap.size w W → Boxed W q 3 (.int .i64 x) → Calls Tryd.prog 38 #[v, .func (.func 39) #[] #[.pointer (some ⟨q, 0, none⟩)]] W fun e w' => e = .returned (.int .i64 ((rgK l x : Nat) : Int)) ∧ Below W.heap.size W w') := Lib.hid fun g W q hW hq => by
      have := idxm_any 39 #[.pointer (some ⟨q, 0, none⟩)] (fun j => decide (x < gX l j)) (enters_of Tryd.func39 (by kernel_rfl) rfl) v l W (by omega) (hp.below hW) (Lib.hid fun j W2 hj hW2 => rodRg1_any _ _ x q W2 (rbx_below hq hW2).cell (rbx_below hq hW2).lt)
      rw [ixR_pos (by have := hk g; unfold rgK at this; omega)] at this
      exact this
    have bv := hR.bv
    have hp2 := hp
    obtain ⟨a', cap', rfl, _, _⟩ := hp2
    obtain ⟨b, off, rfl, hb, hc⟩ := hp.at (by omega)
    have bm := hR.bv m (by omega)
    have c0 := hc m (by omega)
    rw [hm] at H1 HI ⊢
    by_cases g1 : x < 0 ∨ gX l m < x
    · rw [if_pos g1] at hE
      have e1 : rgL l x = 0 ∧ rgH l x = 0 := by unfold rgL rgH; rw [if_pos (by omega), if_pos (by omega)]; exact ⟨rfl, rfl⟩
      rw [hE, e1.1, e1.2]
      exact rodRg_core b off m cap' m x _ _ _ (gR l (m - 1)) 0 0 2 w (by omega) hb (Nat.le_refl _) bm (Lib.hid c0.1) (Lib.hid c0.2) (Lib.hid c0.2) (Lib.hid fun q => (hc (m - 1) (by omega)).2) ((Classical.em (x < 0)).elim (fun q => .inl ⟨q, rfl, rfl, rfl⟩) (fun q => .inr (.inl ⟨q, by omega, rfl, rfl, rfl⟩))) H1 (Lib.hid fun q q2 => by omega)
    · rw [if_neg g1] at hE
      by_cases g2 : x = gX l m
      · have e1 : rgL l x = gR l m ∧ rgH l x = gR l m := ⟨by unfold rgL; rw [if_neg (by rw [hE]; simp), el, if_pos g2], by unfold rgH; rw [if_neg (by rw [hE]; simp), el, if_pos g2]⟩
        rw [hE, e1.1, e1.2]
        exact rodRg_core b off m cap' m x _ _ _ (gR l (m - 1)) _ _ 0 w (by omega) hb (Nat.le_refl _) bm (Lib.hid c0.1) (Lib.hid c0.2) (Lib.hid c0.2) (Lib.hid fun q => (hc (m - 1) (by omega)).2) (.inr (.inr (.inl ⟨by omega, g2, rfl, rfl, rfl⟩))) H1 (Lib.hid fun q q2 => by omega)
      · have hk2 := hk (by omega)
        have bk := hR.bv (rgK l x) (by omega)
        have e1 : rgL l x = (if rgK l x = 0 then 0 else gR l (rgK l x - 1)) ∧ rgH l x = gR l (rgK l x) - 1 := ⟨by unfold rgL; rw [if_neg (by rw [hE]; simp), el, if_neg g2], by unfold rgH; rw [if_neg (by rw [hE]; simp), el, if_neg g2]⟩
        rw [hE, e1.1, e1.2]
        refine rodRg_core b off m cap' (rgK l x) x _ _ (gR l (rgK l x)) (gR l (rgK l x - 1)) _ _ 0 w (by omega) hb hk2 bk (Lib.hid c0.1) (Lib.hid c0.2) (Lib.hid (hc _ (by omega)).2) (Lib.hid fun q => (hc (rgK l x - 1) (by omega)).2) (.inr (.inr (.inr ⟨by omega, by omega, rfl, ?_, rfl⟩))) H1 (Lib.hid fun _ => HI.out)
        by_cases q : rgK l x = 0
        · exact .inl ⟨q, by rw [if_pos q]⟩
        · exact .inr ⟨by omega, by rw [if_neg q]⟩
  · have hE : rgE l x = 1 := by unfold rgE; rw [if_pos (by simpa using h)]
    have e1 : rgL l x = 0 ∧ rgH l x = 0 := by unfold rgL rgH; rw [if_pos (by omega), if_pos (by omega)]; exact ⟨rfl, rfl⟩
    rw [hE, e1.1, e1.2]
    exact rodRg_bad v x _ w (by simpa using h) H1
/-! ### Compare -/
/-- whether a mark does not agree with a table -/
def cmB (t : List (Int × Int)) (tol tl : Int) (q : Int × Int) : Bool := decide (rdE t tol q.1 ≠ 0) || decide (tl < max (rdQ t tol q.1 - q.2) (q.2 - rdQ t tol q.1))
def cmE (l t : List (Int × Int)) (tol tl : Int) : Int := if roE l ≠ 0 ∨ tbE t tol ≠ 0 then 1 else if tl < 0 ∨ 1073741824 < tl then 2 else 0
def cmK (l t : List (Int × Int)) (tol tl : Int) : Int := if cmE l t tol tl ≠ 0 then -1 else ixR (fun j => cmB t tol tl (gX l j, gR l j)) l.length
set_option maxHeartbeats 16000000 in
set_option maxRecDepth 100000 in
theorem cm1_core (x v tol tl Q E : Int) (q1 q2 : Nat) (a : Option Addr) (n cap : Nat) (B : Bool) (w : World) (bq : 0 ≤ Q ∧ Q ≤ 4294967296) (bv : 0 ≤ v ∧ v ≤ 4294967296)
    (c1 : w.cell? ⟨q1, 0, none⟩ = some (.slice a n cap)) (c2 : w.cell? ⟨q1, 1, none⟩ = some (.int .i64 tol)) (c3 : w.cell? ⟨q2, 0, none⟩ = some (.int .i64 tl)) (h1 : q1 < w.heap.size) (h2 : q2 < w.heap.size)
    (hB : ((E != 0) = true ∧ B = true) ∨ (E = 0 ∧ decide (tl < max (Q - v) (v - Q)) = B))
    (H : Hid (∀ W, Below w.heap.size w W → Calls Tryd.prog 27 #[.agg #[.slice a n cap, .int .i64 tol], .int .i64 x] W fun e w' => e = .returned (.tuple #[.int .i64 Q, .int .i64 E]) ∧ Below W.heap.size W w')) :
    Calls Tryd.prog 40 #[.agg #[.int .i64 x, .int .i64 v], .pointer (some ⟨q1, 0, none⟩), .pointer (some ⟨q2, 0, none⟩)] w fun e w' => e = .returned (.bool B) ∧ Below w.heap.size w w' := by
  have N0 := Lib.hid (Two.new w (.int .i64 x) (.int .i64 v) 39)
  have X0 : Hid (Below w.heap.size w (w.alloc (.cells #[.int .i64 x, .int .i64 v] 39))) := Lib.hid (bel_alloc (Below.refl _ _))
  have d1 : (w.alloc (.cells #[.int .i64 x, .int .i64 v] 39)).cell? ⟨q1, 0, none⟩ = some (.slice a n cap) := by rw [World.cell?_alloc_lt w _ _ h1]; exact c1
  have d2 : (w.alloc (.cells #[.int .i64 x, .int .i64 v] 39)).cell? ⟨q1, 1, none⟩ = some (.int .i64 tol) := by rw [World.cell?_alloc_lt w _ _ h1]; exact c2
  have C3 : Hid (∀ W, Below w.heap.size w W → W.cell? ⟨q2, 0, none⟩ = some (.int .i64 tl)) := Lib.hid fun W hW => cell_bel c3 hW
  have w1 : IntKind.i64.wrap (Q - v) = Q - v := wrap_in _ ⟨by omega, by omega⟩
  have w2 : IntKind.i64.wrap (v - Q) = v - Q := wrap_in _ ⟨by omega, by omega⟩
  clear c1 c2 c3
  go_enter Tryd.func40, Tryd.ntmps40
  go_wp2_with fail
  refine (H.out _ X0.out).mono ?_
  rintro e w3 ⟨rfl, gg⟩
  replace N0 := Lib.hid (N0.out.below gg)
  replace X0 := Lib.hid (bel_trans X0.out gg); clear gg d1 d2
  obtain ⟨n0, n1, _, _, _⟩ := N0.out
  have d3 := C3.out _ X0.out
  rcases hB with ⟨e2, rfl⟩ | ⟨rfl, hB⟩
  · go_wp2
    go_returns
    exact ⟨rfl, X0.out⟩
  · go_wp2
    go_returns
    exact ⟨rfl, X0.out⟩
theorem cm1_any (x v tol tl : Int) (q1 q2 : Nat) (a : Option Addr) (cap : Nat) (t : List (Int × Int)) (w : World) (hp : Pts w (.slice a t.length cap) t) (bv : 0 ≤ v ∧ v ≤ 4294967296) (ht : tbE t tol = 0)
    (c1 : w.cell? ⟨q1, 0, none⟩ = some (.slice a t.length cap)) (c2 : w.cell? ⟨q1, 1, none⟩ = some (.int .i64 tol)) (c3 : w.cell? ⟨q2, 0, none⟩ = some (.int .i64 tl)) (h1 : q1 < w.heap.size) (h2 : q2 < w.heap.size) :
    Calls Tryd.prog 40 #[.agg #[.int .i64 x, .int .i64 v], .pointer (some ⟨q1, 0, none⟩), .pointer (some ⟨q2, 0, none⟩)] w fun e w' => e = .returned (.bool (cmB t tol tl (x, v))) ∧ Below w.heap.size w w' := by
  obtain ⟨hR, _⟩ := tbE_iff.1 ht
  have bq : 0 ≤ rdQ t tol x ∧ rdQ t tol x ≤ 4294967296 := by
    unfold rdQ
    by_cases e : rdE t tol x = 0
    · rw [if_pos e]
      obtain ⟨_, x0, x1⟩ := rdE_zero.1 e
      have b := vl_bd hR x0 x1
      have n0 := hR.n0
      have := hR.bv 0 (by omega)
      have := hR.bv (t.length - 1) (by omega)
      omega
    · rw [if_neg e]; omega
  refine cm1_core x v tol tl (rdQ t tol x) (rdE t tol x) q1 q2 a _ cap _ w bq bv c1 c2 c3 h1 h2 ?_ (Lib.hid fun W hW => dipRead_any _ t tol x W ⟨a, cap, rfl, hp.below hW⟩)
  unfold cmB
  by_cases e : rdE t tol x = 0
  · right
    refine ⟨e, ?_⟩
    have d : decide (rdE t tol x ≠ 0) = false := decide_eq_false (fun h => h e)
    show _ = (decide (rdE t tol x ≠ 0) || _)
    rw [d, Bool.false_or]
  · left
    refine ⟨by simpa using e, ?_⟩
    show (decide (rdE t tol x ≠ 0) || _) = true
    rw [decide_eq_true e, Bool.true_or]
set_option maxHeartbeats 16000000 in
set_option maxRecDepth 100000 in
theorem rodCm_core (u : Value) (a : Option Addr) (n cap : Nat) (tol tl E1 E2 K V : Int) (w : World)
    (hV : ((E1 != 0) = true ∧ K = -1 ∧ V = 1) ∨ (E1 = 0 ∧ (E2 != 0) = true ∧ K = -1 ∧ V = 1) ∨ (E1 = 0 ∧ E2 = 0 ∧ tl < 0 ∧ K = -1 ∧ V = 2) ∨ (E1 = 0 ∧ E2 = 0 ∧ ¬ tl < 0 ∧ 1073741824 < tl ∧ K = -1 ∧ V = 2) ∨ (E1 = 0 ∧ E2 = 0 ∧ ¬ tl < 0 ∧ ¬ 1073741824 < tl ∧ V = 0))
    (H1 : Hid (∀ W, Below w.heap.size w W → Calls Tryd.prog 21 #[u] W fun e w' => e = .returned (.int .i64 E1) ∧ Below W.heap.size W w'))
    (H2 : Hid (∀ W, Below w.heap.size w W → Calls Tryd.prog 32 #[.agg #[.slice a n cap, .int .i64 tol]] W fun e w' => e = .returned (.int .i64 E2) ∧ Below W.heap.size W w'))
    (H3 : Hid (E1 = 0 → E2 = 0 → ¬ tl < 0 → ¬ 1073741824 < tl → ∀ W q1 q2, Below w.heap.size w W → Two q1 W (.slice a n cap) (.int .i64 tol) → Boxed W q2 3 (.int .i64 tl) → Calls Tryd.prog 38 #[u, .func (.func 40) #[] #[.pointer (some ⟨q1, 0, none⟩), .pointer (some ⟨q2, 0, none⟩)]] W fun e w' => e = .returned (.int .i64 K) ∧ Below W.heap.size W w')) :
    Calls Tryd.prog 19 #[u, .agg #[.slice a n cap, .int .i64 tol], .int .i64 tl] w fun e w' => e = .returned (.tuple #[.int .i64 K, .int .i64 V]) ∧ Below w.heap.size w w' := by
  have hmf : ∀ (fn : Fn) (first cap : Array Value) (w : World), (Instr.makeFunc fn first cap).run Tryd.prog w = .ok (.func fn first cap) w := fun _ _ _ _ => rfl
  have T0 := Lib.hid ((Two.new w (.slice a n cap) (.int .i64 tol) 24).alloc (.cells #[.int .i64 tl] 3))
  have X0 := Lib.hid (Boxed.new (w.alloc (.cells #[.slice a n cap, .int .i64 tol] 24)) 3 (.int .i64 tl))
  rw [World.size_alloc] at X0
  have B0 : Hid (Below w.heap.size w ((w.alloc (.cells #[.slice a n cap, .int .i64 tol] 24)).alloc (.cells #[.int .i64 tl] 3))) := Lib.hid (bel_alloc (bel_alloc (Below.refl _ _)))
  go_enter Tryd.func19, Tryd.ntmps19
  go_wp2_with fail
  refine (H1.out _ B0.out).mono ?_
  rintro e w1 ⟨rfl, gg⟩
  replace T0 := Lib.hid (T0.out.below gg)
  replace X0 := Lib.hid (rbx_below X0.out gg)
  replace B0 := Lib.hid (bel_trans B0.out gg); clear gg
  obtain ⟨t0, t1, _, _, _⟩ := T0.out
  rcases hV with ⟨e1, rfl, rfl⟩ | ⟨rfl, e2, rfl, rfl⟩ | ⟨rfl, rfl, h, rfl, rfl⟩ | ⟨rfl, rfl, h, h2, rfl, rfl⟩ | ⟨rfl, rfl, h, h2, rfl⟩
  · go_wp2
    go_returns
    exact ⟨rfl, B0.out⟩
  all_goals
    go_wp2_with fail
    refine (H2.out _ B0.out).mono ?_
    rintro e w2 ⟨rfl, gg⟩
    replace T0 := Lib.hid (T0.out.below gg)
    replace X0 := Lib.hid (rbx_below X0.out gg)
    replace B0 := Lib.hid (bel_trans B0.out gg); clear gg t0 t1
    have y0 := X0.out.cell
  · go_wp2
    go_returns
    exact ⟨rfl, B0.out⟩
  · have d1 : decide (tl < 0) = true := decide_eq_true h
    go_wp2
    go_returns
    exact ⟨rfl, B0.out⟩
  · have d1 : decide (tl < 0) = false := decide_eq_false (by omega)
    have d2 : decide (1073741824 < tl) = true := decide_eq_true h2
    go_wp2
    go_returns
    exact ⟨rfl, B0.out⟩
  · have d1 : decide (tl < 0) = false := decide_eq_false (by omega)
    have d2 : decide (1073741824 < tl) = false := decide_eq_false (by omega)
    have HI := Lib.hid (H3.out (by trivial) (by trivial) (by omega) (by omega) _ _ _ B0.out T0.out X0.out)
    go_wp2_with fail
    refine HI.out.mono ?_
    rintro e w3 ⟨rfl, gg⟩
    replace B0 := Lib.hid (bel_trans B0.out gg); clear gg y0
    go_wp2
    go_returns
    exact ⟨rfl, B0.out⟩
theorem rodCm_any (u z : Value) (l t : List (Int × Int)) (tol tl : Int) (w : World) (hu : Pts w u l) (hz : TbV w z t tol) :
    Calls Tryd.prog 19 #[u, z, .int .i64 tl] w fun e w' => e = .returned (.tuple #[.int .i64 (cmK l t tol tl), .int .i64 (cmE l t tol tl)]) ∧ Below w.heap.size w w' := by
  have H1 : Hid (∀ W, Below w.heap.size w W → _) := Lib.hid fun W hW => rodChk_any u l W (hu.below hW)
  have H2 : Hid (∀ W, Below w.heap.size w W → _) := Lib.hid fun W hW => dipChk_any z t tol W (hz.below hW)
  obtain ⟨a, cap, rfl, hp⟩ := hz
  refine rodCm_core u a _ cap tol tl (roE l) (tbE t tol) _ _ w ?_ H1 H2 (Lib.hid fun h1 h2 g1 g2 W q1 q2 hW hT hB => ?_)
  · unfold cmK
    by_cases h1 : roE l = 0
    · right
      by_cases h2 : tbE t tol = 0
      · right
        have e : ¬ (roE l ≠ 0 ∨ tbE t tol ≠ 0) := by omega
        by_cases g : tl < 0 ∨ 1073741824 < tl
        · have eE : cmE l t tol tl = 2 := by unfold cmE; rw [if_neg e, if_pos g]
          rw [eE, if_pos (by decide)]
          by_cases g1 : tl < 0
          · left; exact ⟨h1, h2, g1, rfl, rfl⟩
          · right; left; exact ⟨h1, h2, g1, by omega, rfl, rfl⟩
        · have eE : cmE l t tol tl = 0 := by unfold cmE; rw [if_neg e, if_neg g]
          right; right; exact ⟨h1, h2, by omega, by omega, eE⟩
      · left
        have eE : cmE l t tol tl = 1 := by unfold cmE; rw [if_pos (Or.inr h2)]
        rw [eE, if_pos (by decide)]
        exact ⟨h1, by simpa using h2, rfl, rfl⟩
    · left
      have eE : cmE l t tol tl = 1 := by unfold cmE; rw [if_pos (Or.inl h1)]
      rw [eE, if_pos (by decide)]
      exact ⟨by simpa using h1, rfl, rfl⟩
  · have hR := roE_iff.1 h1
    have eE : cmE l t tol tl = 0 := by unfold cmE; rw [if_neg (by omega), if_neg (by omega)]
    unfold cmK
    rw [if_neg (by omega)]
    refine idxm_any 40 #[.pointer (some ⟨q1, 0, none⟩), .pointer (some ⟨q2, 0, none⟩)] (fun j => cmB t tol tl (gX l j, gR l j)) (enters_of Tryd.func40 (by kernel_rfl) rfl) u l W (by have := hR.n1; omega) (hu.below hW) (Lib.hid fun j W2 hj hW2 => ?_)
    have hT2 := hT.below hW2
    have hB2 := rbx_below hB hW2
    have bv := hR.bv j hj
    exact cm1_any _ _ tol tl q1 q2 a cap t W2 ((hp.below hW).below hW2) (by omega) h2 hT2.1 hT2.2.1 hB2.cell hT2.2.2.2.2 hB2.lt
end Go.Proofs.YtdjlainhaoaeiaaDoor

/- Plain facts: a volume lies within the reading. No program stands in this text. -/
namespace Go.Proofs.YtdjlainhaoaeiaaDoor

theorem rd_read {t : List (Int × Int)} {tol s x : Int} (he : rmE t tol s = 0) (hx : rdE t tol x = 0) :
    1 ≤ (rmL t tol s).length ∧
    ((rgE (rmL t tol s) x = 2 ∧ gX (rmL t tol s) ((rmL t tol s).length - 1) < x) ∨
     (rgE (rmL t tol s) x = 0 ∧ rgL (rmL t tol s) x ≤ rdQ t tol x ∧ (rdQ t tol x ≤ rgH (rmL t tol s) x ∨ x = gX (rmL t tol s) ((rmL t tol s).length - 1)))) := by
  obtain ⟨ht, ⟨s0, s1⟩, c0, c1⟩ := rmE_zero.1 he
  obtain ⟨h, _⟩ := tbE_iff.1 ht
  obtain ⟨_, x0, x1⟩ := rdE_zero.1 hx
  have eL : rmL t tol s = rdS t s (rdC t s) := by unfold rmL; rw [if_pos he]
  have eQ : rdQ t tol x = vl t x := by unfold rdQ; rw [if_pos hx]
  have hR := rd_right h s0 c0 c1
  rw [eL, eQ]
  have ln := rdS_len t s (rdC t s)
  have ro := roE_iff.2 hR
  have sp := h.span
  refine ⟨by omega, ?_⟩
  rw [ln]
  have la := rd_k h s0 (rd_lt (show rdC t s - 1 < rdC t s by omega))
  obtain ⟨aX, aR⟩ := rdS_at (l := t) (s := s) (show rdC t s - 1 < rdC t s by omega)
  have hE : rgE (rdS t s (rdC t s)) x = if x < 0 ∨ gX (rdS t s (rdC t s)) (rdC t s - 1) < x then 2 else 0 := by unfold rgE; rw [if_neg (by simpa using ro), ln]
  by_cases g : gX (rdS t s (rdC t s)) (rdC t s - 1) < x
  · left; rw [hE, if_pos (by omega)]; exact ⟨rfl, g⟩
  · right
    rw [if_neg (by omega)] at hE
    refine ⟨hE, ?_⟩
    by_cases q : x = gX (rdS t s (rdC t s)) (rdC t s - 1)
    · have e1 : rgL (rdS t s (rdC t s)) x = gR (rdS t s (rdC t s)) (rdC t s - 1) := by unfold rgL; rw [if_neg (by rw [hE]; simp), ln, if_pos q]
      refine ⟨?_, .inr q⟩
      rw [e1, aR, q, aX]
      exact la.m1
    · have spc := fst_spec (fun j => decide (x < gX (rdS t s (rdC t s)) j)) (rdS t s (rdC t s)).length
      have hk : rgK (rdS t s (rdC t s)) x ≤ rdC t s - 1 := by
        unfold rgK
        rcases Nat.lt_or_ge (rdC t s - 1) (fst (fun j => decide (x < gX (rdS t s (rdC t s)) j)) (rdS t s (rdC t s)).length) with z | z
        · have := of_decide_eq_false (spc.1 _ z); omega
        · exact z
      have lt : x < gX (rdS t s (rdC t s)) (rgK (rdS t s (rdC t s)) x) := of_decide_eq_true (spc.2 (by unfold rgK at hk; omega))
      have bl : ∀ j, j < rgK (rdS t s (rdC t s)) x → gX (rdS t s (rdC t s)) j ≤ x := fun j hj => by
        have := of_decide_eq_false (spc.1 j hj); omega
      have e1 : rgL (rdS t s (rdC t s)) x = if rgK (rdS t s (rdC t s)) x = 0 then 0 else gR (rdS t s (rdC t s)) (rgK (rdS t s (rdC t s)) x - 1) := by unfold rgL; rw [if_neg (by rw [hE]; simp), ln, if_neg q]
      have e2 : rgH (rdS t s (rdC t s)) x = gR (rdS t s (rdC t s)) (rgK (rdS t s (rdC t s)) x) - 1 := by unfold rgH; rw [if_neg (by rw [hE]; simp), ln, if_neg q]
      generalize rgK (rdS t s (rdC t s)) x = k at *
      rw [e1, e2]
      have vb := vl_bd h x0 x1
      have v0 := (h.bv 0 (by have := h.n0; omega)).1
      obtain ⟨kX, kR⟩ := rdS_at (l := t) (s := s) (show k < rdC t s by omega)
      have rk := rd_k h s0 (rd_lt (show k < rdC t s by omega))
      rw [kX] at lt
      have b := rk.below x x0 lt
      refine ⟨?_, .inl ?_⟩
      · by_cases z : k = 0
        · rw [if_pos z]; omega
        · rw [if_neg z]
          obtain ⟨jX, jR⟩ := rdS_at (l := t) (s := s) (show k - 1 < rdC t s by omega)
          have rj := rd_k h s0 (rd_lt (show k - 1 < rdC t s by omega))
          have := bl (k - 1) (by omega)
          rw [jX] at this
          have mo := vl_mono h rj.h0 this x1
          rw [jR]
          have := rj.m1
          omega
      · rw [kR]
        have := rk.m0
        omega
end Go.Proofs.YtdjlainhaoaeiaaDoor

/- A builder's WriteString and String in the shape of a loop; a builder among other blocks. -/
namespace Go.Proofs.YtdjlainhaoaeiaaDoor
open Go.RowKit

/-- block b is a builder of the call's own with the bytes l -/
def Bld (w : World) (B b : Nat) (l : List UInt8) : Prop := Lib.IsBuilderF 64 5 B b (Lib.byteCells l) w
/-- all blocks but the builder's, and rows of bytes, are kept -/
def Kp (b : Nat) (w w' : World) : Prop := Lib.OthersKept 5 (some b) w w'
theorem bld_new (w : World) : Bld (w.alloc (.cells #[.pointer none, .slice none 0 0] 64)) w.heap.size w.heap.size [] := Lib.IsBuilderF.of (Lib.fresh_isBuilder _ _ w)
theorem strC (s : ByteArray) : Lib.strCells s = Lib.byteCells s.data.toList := rfl
theorem byteC_app (a b : List UInt8) : Lib.byteCells (a ++ b) = Lib.byteCells a ++ Lib.byteCells b := by simp [Lib.byteCells]
theorem writeS_any (B b : Nat) (l : List UInt8) (s : ByteArray) (w : World) (h : Bld w B b l) (hlen : l.length + s.size ≤ 100000000000000) (hB : B ≤ w.heap.size) :
    Calls Tryd.prog 44 #[.pointer (some ⟨b, 0, none⟩), .string s] w fun e w' => e = .returned (.tuple #[.int .i64 s.size, .nilIface]) ∧ Bld w' B b (l ++ s.data.toList) ∧ Below B w w' ∧ Kp b w w' := by
  refine (Any.Builder_WriteString_k (P := Tryd.prog) (ρ := Tryd.lays166_ren) { Tryd.lays166 with } Tryd.Builder_Extra_166 B b (Lib.byteCells l) s w h (by rw [Lib.byteCells_length]; omega) hB).mono ?_
  rintro e w' ⟨rfl, h1, h2, h3⟩
  refine ⟨rfl, ?_, h2, h3⟩
  unfold Bld
  rw [byteC_app, ← strC]
  exact .inr h1
theorem string_any (B b : Nat) (l : List UInt8) (w : World) (h : Bld w B b l) (hB : B ≤ w.heap.size) :
    Calls Tryd.prog 46 #[.pointer (some ⟨b, 0, none⟩)] w fun e w' => e = .returned (.string ⟨l.toArray⟩) ∧ Below B w w' := by
  refine (Tryd.Builder_String_any_k B b l w h hB).mono ?_
  rintro e w' ⟨rfl, _, h2, _⟩
  exact ⟨rfl, h2⟩
/-- a builder is kept by what keeps the blocks below the heap's end -/
theorem Bld.below {w w' : World} {B b : Nat} {l : List UInt8} (h : Bld w B b l) (hb : Below w.heap.size w w') : Bld w' B b l := by
  have key : ∀ p, Lib.BuilderAtF 64 5 B b p (Lib.byteCells l) w → Lib.BuilderAtF 64 5 B b p (Lib.byteCells l) w' := by
    rintro p ⟨hB, v, hbk, hown, hne⟩
    have lt : ∀ {k o}, w.heap[k]? = some o → k < w.heap.size := fun hk => (Array.getElem?_eq_some_iff.1 hk).1
    refine ⟨hB, v, by rw [hb.block _ (lt hbk)]; exact hbk, ⟨hown.1, ?_⟩, hne⟩
    rcases hown.2 with h0 | ⟨g, cap, cur, fz, hv, hg, hh, r⟩
    · exact .inl h0
    · exact .inr ⟨g, cap, cur, fz, hv, hg, by rw [hb.block _ (lt hh)]; exact hh, r⟩
  exact h.elim (fun x => .inl (key _ x)) (fun x => .inr (key _ x))
theorem Bld.alloc {w : World} {B b : Nat} {l : List UInt8} (h : Bld w B b l) (o : Obj) : Bld (w.alloc o) B b l := h.below (bel_alloc (Below.refl _ _))
theorem Bld.lt {w : World} {B b : Nat} {l : List UInt8} (h : Bld w B b l) : b < w.heap.size := by
  rcases h with ⟨_, v, hb, _⟩ | ⟨_, v, hb, _⟩
  · exact (Array.getElem?_eq_some_iff.1 hb).1
  · exact (Array.getElem?_eq_some_iff.1 hb).1
theorem Kp.refl (b : Nat) (w : World) : Kp b w w := Lib.OthersKept.refl _ _ w
theorem Kp.trans {b : Nat} {w1 w2 w3 : World} (h : Kp b w1 w2) (k : Kp b w2 w3) : Kp b w1 w3 := Lib.OthersKept.trans h k
theorem Kp.of {b : Nat} {w w' : World} (h : Below w.heap.size w w') : Kp b w w' := fun k o hk _ _ => by
  rw [h.block k (Array.getElem?_eq_some_iff.1 hk).1]; exact hk
end Go.Proofs.YtdjlainhaoaeiaaDoor

/- Plain facts on a line between two points: its heights rounded down and up. No program stands in this text. -/
namespace Go.Proofs.YtdjlainhaoaeiaaDoor

/-- a ratio, rounded up -/
def cdv (n d : Int) : Int := (n + d - 1) / d
theorem fl_iff (n d k : Int) (h : 0 < d) : k ≤ n / d ↔ k * d ≤ n := Int.le_ediv_iff_mul_le h
theorem cl_iff (n d k : Int) (h : 0 < d) : cdv n d ≤ k ↔ n ≤ k * d := by
  unfold cdv
  have e : (k + 1) * d = k * d + d := by rw [Int.add_mul]; omega
  constructor
  · intro hk
    have : (n + d - 1) / d < k + 1 := by omega
    have := Int.lt_mul_of_ediv_lt h this
    rw [e] at this
    omega
  · intro hk
    have : (n + d - 1) / d < k + 1 := Int.ediv_lt_of_lt_mul h (by rw [e]; omega)
    omega
/-- m / b ≤ n / c, as ratios -/
theorem fl_mono {m b n c : Int} (hb : 0 < b) (hc : 0 < c) (h : m * c ≤ n * b) : m / b ≤ n / c := by
  rw [fl_iff _ _ _ hc]
  have h1 := Int.ediv_mul_le m (show b ≠ 0 by omega)
  have h2 := Int.mul_le_mul_of_nonneg_right h1 (show 0 ≤ c by omega)
  have h3 : (m / b * c) * b ≤ n * b := by
    have : m / b * c * b = m / b * b * c := by rw [Int.mul_right_comm]
    omega
  exact Int.le_of_mul_le_mul_right h3 hb
theorem cl_ge (n d : Int) (h : 0 < d) : n ≤ cdv n d * d := (cl_iff n d _ h).1 (Int.le_refl _)
theorem cl_mono {m b n c : Int} (hb : 0 < b) (hc : 0 < c) (h : m * c ≤ n * b) : cdv m b ≤ cdv n c := by
  rw [cl_iff _ _ _ hb]
  have h1 := cl_ge n c hc
  have h2 := Int.mul_le_mul_of_nonneg_right h1 (show 0 ≤ b by omega)
  have h3 : m * c ≤ (cdv n c * b) * c := by
    have : cdv n c * b * c = cdv n c * c * b := by rw [Int.mul_right_comm]
    omega
  exact Int.le_of_mul_le_mul_right h3 hc
theorem fl_same {m b n c : Int} (hb : 0 < b) (hc : 0 < c) (h : m * c = n * b) : m / b = n / c :=
  Int.le_antisymm (fl_mono hb hc (by omega)) (fl_mono hc hb (by omega))
theorem cl_same {m b n c : Int} (hb : 0 < b) (hc : 0 < c) (h : m * c = n * b) : cdv m b = cdv n c :=
  Int.le_antisymm (cl_mono hb hc (by omega)) (cl_mono hc hb (by omega))
theorem fl_cl (n d : Int) (h : 0 < d) : n / d ≤ cdv n d ∧ cdv n d ≤ n / d + 1 := by
  constructor
  · have h1 := Int.ediv_mul_le n (show d ≠ 0 by omega)
    have h2 := cl_ge n d h
    exact Int.le_of_mul_le_mul_right (show n / d * d ≤ cdv n d * d by omega) h
  · rw [cl_iff _ _ _ h, Int.add_mul]
    have h1 := Int.emod_add_mul_ediv n d
    have h2 := Int.emod_lt_of_pos n h
    rw [Int.mul_comm] at h1
    omega
theorem fl_int (k d : Int) (h : 0 < d) : k * d / d = k := Int.mul_ediv_cancel k (by omega)
theorem cl_int (k d : Int) (h : 0 < d) : cdv (k * d) d = k := by
  have h1 := (cl_iff (k * d) d k h).2 (Int.le_refl _)
  have h2 := cl_ge (k * d) d h
  have := Int.le_of_mul_le_mul_right h2 h
  omega

/-! ### a line from (a, p) to (b, q) -/
def lnN (a p b q x : Int) : Int := p * (b - a) + (q - p) * (x - a)
theorem lnN_left (a p b q : Int) : lnN a p b q a = p * (b - a) := by unfold lnN; simp
theorem lnN_right (a p b q : Int) : lnN a p b q b = q * (b - a) := by unfold lnN; grind
theorem lnN_up {a p b q x y : Int} (h : p ≤ q) (hx : x ≤ y) : lnN a p b q x ≤ lnN a p b q y := by
  unfold lnN
  have := Int.mul_le_mul_of_nonneg_left (show x - a ≤ y - a by omega) (show 0 ≤ q - p by omega)
  omega
theorem lnN_down {a p b q x y : Int} (h : q ≤ p) (hx : x ≤ y) : lnN a p b q y ≤ lnN a p b q x := by
  unfold lnN
  have := Int.mul_le_mul_of_nonneg_left (show x - a ≤ y - a by omega) (show 0 ≤ p - q by omega)
  have e : ∀ z, (q - p) * z = -((p - q) * z) := fun z => by grind
  rw [e, e]
  omega
theorem ln_between {a p b q x : Int} (hab : a < b) (h1 : a ≤ x) (h2 : x ≤ b) : min p q ≤ lnN a p b q x / (b - a) ∧ cdv (lnN a p b q x) (b - a) ≤ max p q := by
  have hd : 0 < b - a := by omega
  rw [fl_iff _ _ _ hd, cl_iff _ _ _ hd]
  by_cases h : p ≤ q
  · have u1 := lnN_up (a := a) (b := b) h h1
    have u2 := lnN_up (a := a) (b := b) h h2
    rw [lnN_left] at u1
    rw [lnN_right] at u2
    rw [show min p q = p by omega, show max p q = q by omega]
    exact ⟨u1, u2⟩
  · have u1 := lnN_down (a := a) (b := b) (show q ≤ p by omega) h1
    have u2 := lnN_down (a := a) (b := b) (show q ≤ p by omega) h2
    rw [lnN_left] at u1
    rw [lnN_right] at u2
    rw [show min p q = q by omega, show max p q = p by omega]
    exact ⟨u2, u1⟩
/-- a point (m, s) on the line: both parts are the line -/
theorem ln_part1 {a p b q m s x : Int} (hab : a < b) (hm : a < m) (hs : s * (b - a) = lnN a p b q m) :
    lnN a p m s x / (m - a) = lnN a p b q x / (b - a) ∧ cdv (lnN a p m s x) (m - a) = cdv (lnN a p b q x) (b - a) := by
  have e : lnN a p m s x * (b - a) = lnN a p b q x * (m - a) := by unfold lnN at *; grind
  exact ⟨fl_same (by omega) (by omega) e, cl_same (by omega) (by omega) e⟩
theorem ln_part2 {a p b q m s x : Int} (hab : a < b) (hm : m < b) (hs : s * (b - a) = lnN a p b q m) :
    lnN m s b q x / (b - m) = lnN a p b q x / (b - a) ∧ cdv (lnN m s b q x) (b - m) = cdv (lnN a p b q x) (b - a) := by
  have e : lnN m s b q x * (b - a) = lnN a p b q x * (b - m) := by unfold lnN at *; grind
  exact ⟨fl_same (by omega) (by omega) e, cl_same (by omega) (by omega) e⟩
/-- the line from the other end -/
theorem ln_turn (a p b q x L : Int) : lnN (L - b) q (L - a) p (L - x) = lnN a p b q x ∧ (L - a) - (L - b) = b - a := by
  refine ⟨?_, by omega⟩
  unfold lnN; grind
/-- a line that lies at both ends of a part by t below another one lies so between them -/
theorem ln_below {a p b q c u d v x t : Int} (hab : a < b) (hcd : c < d) (h1 : c ≤ x) (h2 : x ≤ d) (hu : (u + t) * (b - a) ≤ lnN a p b q c) (hv : (v + t) * (b - a) ≤ lnN a p b q d) :
    lnN c u d v x / (d - c) ≤ lnN a p b q x / (b - a) - t ∧ cdv (lnN c u d v x) (d - c) ≤ cdv (lnN a p b q x) (b - a) - t := by
  have m1 := Int.mul_le_mul_of_nonneg_right hu (show 0 ≤ d - x by omega)
  have m2 := Int.mul_le_mul_of_nonneg_right hv (show 0 ≤ x - c by omega)
  have e1 : (lnN c u d v x + t * (d - c)) * (b - a) = (u + t) * (b - a) * (d - x) + (v + t) * (b - a) * (x - c) := by unfold lnN; grind
  have e2 : lnN a p b q x * (d - c) = lnN a p b q c * (d - x) + lnN a p b q d * (x - c) := by unfold lnN; grind
  have key : (lnN c u d v x + t * (d - c)) * (b - a) ≤ lnN a p b q x * (d - c) := by omega
  have hd : 0 < d - c := by omega
  have f1 := fl_mono hd (show 0 < b - a by omega) key
  have f2 := cl_mono hd (show 0 < b - a by omega) key
  have g1 : (lnN c u d v x + t * (d - c)) / (d - c) = lnN c u d v x / (d - c) + t := Int.add_mul_ediv_right _ _ (by omega)
  have g2 : cdv (lnN c u d v x + t * (d - c)) (d - c) = cdv (lnN c u d v x) (d - c) + t := by
    unfold cdv
    rw [show lnN c u d v x + t * (d - c) + (d - c) - 1 = lnN c u d v x + (d - c) - 1 + t * (d - c) by omega]
    exact Int.add_mul_ediv_right _ _ (by omega)
  omega
end Go.Proofs.YtdjlainhaoaeiaaDoor

/- Plain facts: lengths. -/
namespace Go.Proofs.YtdjlainhaoaeiaaDoor

def lenB (n : Int) : Bool := decide (0 ≤ n) && decide (n ≤ 100000)
theorem lenB_iff (n : Int) : lenB n = true ↔ 0 ≤ n ∧ n ≤ 100000 := by simp [lenB]
end Go.Proofs.YtdjlainhaoaeiaaDoor

/- Plain facts of profiles: the first fault, the bung, the pieces. -/
namespace Go.Proofs.YtdjlainhaoaeiaaDoor

def ptOut (q : Int × Int) : Bool := !(lenB q.1 && lenB q.2)
def ptCl (q : Int × Int) : Bool := q.2 == 0
/-- the X of the first k + 1 points increase -/
def adv (l : List (Int × Int)) : Nat → Bool
  | 0 => true
  | k + 1 => adv l k && decide (gX l k < gX l (k + 1))
/-- one of the first k pieces falls -/
def fal (l : List (Int × Int)) : Nat → Bool
  | 0 => false
  | k + 1 => fal l k || decide (gR l (k + 1) < gR l k)
/-- one of the first k pieces rises behind one that falls -/
def swl (l : List (Int × Int)) : Nat → Bool
  | 0 => false
  | k + 1 => swl l k || (fal l k && decide (gR l k < gR l (k + 1)))
/-- the first fault -/
def ckE (l : List (Int × Int)) : Int :=
  if l.length < 2 then 9 else if 32 < l.length then 8 else if l.any ptOut then 2 else if (adv l (l.length - 1) && (gX l 0 == 0)) = false then 5 else if l.any ptCl then 16 else if swl l (l.length - 1) then 10 else 0
/-- a right profile -/
structure RP (l : List (Int × Int)) : Prop where
  n0 : 2 ≤ l.length
  n1 : l.length ≤ 32
  bx : ∀ i, i < l.length → 0 ≤ gX l i ∧ gX l i ≤ 100000
  br : ∀ i, i < l.length → 1 ≤ gR l i ∧ gR l i ≤ 100000
  x0 : gX l 0 = 0
  asc : ∀ i, i + 1 < l.length → gX l i < gX l (i + 1)
  ns : ∀ i j, i ≤ j → j + 1 < l.length → gR l (i + 1) < gR l i → gR l (j + 1) ≤ gR l j

theorem any_of {p : Int × Int → Bool} {l : List (Int × Int)} {i : Nat} (h : i < l.length) (hp : p (l.getD i (0, 0)) = true) : l.any p = true := by
  rw [List.any_eq_true]
  rw [List.getD_eq_getElem?_getD, List.getElem?_eq_getElem h, Option.getD_some] at hp
  exact ⟨_, List.getElem_mem h, hp⟩
theorem any_not {p : Int × Int → Bool} {l : List (Int × Int)} (h : ∀ i, i < l.length → p (l.getD i (0, 0)) = false) : l.any p = false := by
  rw [List.any_eq_false]
  intro x hx
  obtain ⟨i, hi, rfl⟩ := List.getElem_of_mem hx
  have := h i hi
  rw [List.getD_eq_getElem?_getD, List.getElem?_eq_getElem hi, Option.getD_some] at this
  rw [this]; simp
theorem not_any {p : Int × Int → Bool} {l : List (Int × Int)} (h : l.any p = false) {i : Nat} (hi : i < l.length) : p (l.getD i (0, 0)) = false := by
  cases hq : p (l.getD i (0, 0)) with
  | false => rfl
  | true => rw [any_of hi hq] at h; cases h
theorem adv_iff (l : List (Int × Int)) (k : Nat) : adv l k = true ↔ ∀ i, i < k → gX l i < gX l (i + 1) := by
  induction k with
  | zero => simp [adv]
  | succ k ih =>
    rw [adv, Bool.and_eq_true, ih, decide_eq_true_eq]
    constructor
    · rintro ⟨h1, h2⟩ i hi
      by_cases e : i = k
      · rw [e]; exact h2
      · exact h1 i (by omega)
    · intro h
      exact ⟨fun i hi => h i (by omega), h k (by omega)⟩
theorem fal_iff (l : List (Int × Int)) (k : Nat) : fal l k = true ↔ ∃ i, i < k ∧ gR l (i + 1) < gR l i := by
  induction k with
  | zero => simp [fal]
  | succ k ih =>
    rw [fal, Bool.or_eq_true, ih, decide_eq_true_eq]
    constructor
    · rintro (⟨i, h1, h2⟩ | h)
      · exact ⟨i, by omega, h2⟩
      · exact ⟨k, by omega, h⟩
    · rintro ⟨i, h1, h2⟩
      by_cases e : i = k
      · right; rw [← e]; exact h2
      · left; exact ⟨i, by omega, h2⟩
theorem swl_iff (l : List (Int × Int)) (k : Nat) : swl l k = true ↔ ∃ i j, i < j ∧ j < k ∧ gR l (i + 1) < gR l i ∧ gR l j < gR l (j + 1) := by
  induction k with
  | zero => simp [swl]
  | succ k ih =>
    rw [swl, Bool.or_eq_true, ih, Bool.and_eq_true, fal_iff, decide_eq_true_eq]
    constructor
    · rintro (⟨i, j, h1, h2, h3⟩ | ⟨⟨i, h1, h2⟩, h3⟩)
      · exact ⟨i, j, h1, by omega, h3⟩
      · exact ⟨i, k, h1, by omega, h2, h3⟩
    · rintro ⟨i, j, h1, h2, h3, h4⟩
      by_cases e : j = k
      · right; rw [e] at h1 h4; exact ⟨⟨i, h1, h3⟩, h4⟩
      · left; exact ⟨i, j, h1, by omega, h3, h4⟩
theorem ckE_iff (l : List (Int × Int)) : ckE l = 0 ↔ RP l := by
  unfold ckE
  constructor
  · intro h
    split at h
    · omega
    · split at h
      · omega
      · split at h
        · omega
        · split at h
          · omega
          · split at h
            · omega
            · split at h
              · omega
              · rename_i g1 g2 g3 g4 g5 g6
                have g3' : l.any ptOut = false := by simpa using g3
                have g5' : l.any ptCl = false := by simpa using g5
                have g4' : adv l (l.length - 1) = true ∧ (gX l 0 == 0) = true := by simpa using g4
                have o : ∀ i, i < l.length → (0 ≤ gX l i ∧ gX l i ≤ 100000) ∧ 0 ≤ gR l i ∧ gR l i ≤ 100000 := fun i hi => by
                  have := not_any g3' hi
                  simp only [ptOut, Bool.not_eq_false', Bool.and_eq_true, lenB_iff] at this
                  exact this
                refine ⟨by omega, by omega, fun i hi => (o i hi).1, fun i hi => ?_, by simpa using g4'.2, fun i hi => (adv_iff _ _).1 g4'.1 i (by omega), fun i j h1 h2 h3 => ?_⟩
                · have := not_any g5' hi
                  have e : gR l i ≠ 0 := by
                    have t : (gR l i == 0) = false := this
                    simpa using t
                  have := (o i hi).2
                  omega
                · by_cases e : gR l j < gR l (j + 1)
                  · by_cases hij : i = j
                    · subst hij; omega
                    · exact absurd ((swl_iff _ _).2 ⟨i, j, by omega, by omega, h3, e⟩) g6
                  · omega
  · intro h
    have g3 : l.any ptOut = false := any_not fun i hi => by
      have a := (lenB_iff _).2 (h.bx i hi)
      have b := h.br i hi
      have b2 := (lenB_iff (gR l i)).2 (by omega)
      show (!(lenB (gX l i) && lenB (gR l i))) = false
      rw [a, b2]; rfl
    have g5 : l.any ptCl = false := any_not fun i hi => by
      have b := h.br i hi
      show (gR l i == 0) = false
      rw [beq_eq_false_iff_ne]; omega
    have g6 : ¬ swl l (l.length - 1) = true := fun hs => by
      obtain ⟨i, j, h1, h2, h3, h4⟩ := (swl_iff _ _).1 hs
      have := h.ns i j (by omega) (by omega) h3
      omega
    have g4 : (adv l (l.length - 1) && (gX l 0 == 0)) = true := by
      rw [Bool.and_eq_true]
      exact ⟨(adv_iff _ _).2 fun i hi => h.asc i (by omega), by rw [h.x0]; rfl⟩
    rw [if_neg (by have := h.n0; omega), if_neg (by have := h.n1; omega), if_neg (by rw [g3]; simp), if_neg (by rw [g4]; simp), if_neg (by rw [g5]; simp), if_neg g6]

/-! ### the bung -/
def bg (l : List (Int × Int)) : Nat → Nat
  | 0 => 0
  | k + 1 => if gR l (bg l k) < gR l k then k else bg l k
theorem bg_lt (l : List (Int × Int)) (k : Nat) : bg l k = 0 ∨ bg l k < k := by
  induction k with
  | zero => exact .inl rfl
  | succ k ih =>
    unfold bg
    split
    · right; omega
    · omega
theorem bg_max (l : List (Int × Int)) (k : Nat) : ∀ i, i < k → gR l i ≤ gR l (bg l k) := by
  induction k with
  | zero => intro i hi; omega
  | succ k ih =>
    intro i hi
    unfold bg
    by_cases h : gR l (bg l k) < gR l k
    · rw [if_pos h]
      by_cases e : i = k
      · rw [e]; exact Int.le_refl _
      · have := ih i (by omega); omega
    · rw [if_neg h]
      by_cases e : i = k
      · rw [e]; omega
      · exact ih i (by omega)
/-- what Length and Bung return -/
def lgQ (l : List (Int × Int)) : Int := if ckE l = 0 then gX l (l.length - 1) else 0
def buQ (l : List (Int × Int)) : Int := if ckE l = 0 then (bg l l.length : Int) else 0

/-! ### the piece that reaches to x -/
structure IsPc (l : List (Int × Int)) (x : Int) (i : Nat) : Prop where
  h1 : 1 ≤ i
  h2 : i < l.length
  h3 : x ≤ gX l i
  h4 : ∀ j, 1 ≤ j → j < i → gX l j < x
theorem IsPc.one {l : List (Int × Int)} {x : Int} {i j : Nat} (a : IsPc l x i) (b : IsPc l x j) : i = j := by
  rcases Nat.lt_trichotomy i j with h | h | h
  · have := b.h4 i a.h1 h; have := a.h3; omega
  · exact h
  · have := a.h4 j b.h1 h; have := b.h3; omega
theorem pc_ex {l : List (Int × Int)} {x : Int} (n0 : 2 ≤ l.length) (h : x ≤ gX l (l.length - 1)) : ∃ i, IsPc l x i := by
  suffices ∀ k, 1 ≤ k → k < l.length → x ≤ gX l k → ∃ i, IsPc l x i from this (l.length - 1) (by omega) (by omega) h
  intro k
  induction k with
  | zero => intro h; omega
  | succ k ih =>
    intro _ h2 h3
    by_cases hk : 1 ≤ k ∧ x ≤ gX l k
    · exact ih hk.1 (by omega) hk.2
    · by_cases he : ∃ j, 1 ≤ j ∧ j < k + 1 ∧ x ≤ gX l j
      · obtain ⟨j, j1, j2, j3⟩ := he
        have : ∀ m, ∀ j, j ≤ m → 1 ≤ j → j < l.length → x ≤ gX l j → ∃ i, IsPc l x i := by
          intro m
          induction m with
          | zero => intro j h1 h2; omega
          | succ m im =>
            intro j h1 h2 h3 h4
            by_cases hc : ∃ i, 1 ≤ i ∧ i < j ∧ x ≤ gX l i
            · obtain ⟨i, i1, i2, i3⟩ := hc
              exact im i (by omega) i1 (by omega) i3
            · exact ⟨j, h2, h3, h4, fun i i1 i2 => by
                by_cases hi : x ≤ gX l i
                · exact absurd ⟨i, i1, i2, hi⟩ hc
                · omega⟩
        exact this j j (Nat.le_refl _) j1 (by omega) j3
      · exact ⟨k + 1, by omega, h2, h3, fun j j1 j2 => by
          by_cases hj : x ≤ gX l j
          · exact absurd ⟨j, j1, j2, hj⟩ he
          · omega⟩
open Classical in
noncomputable def pc (l : List (Int × Int)) (x : Int) : Nat := if h : ∃ i, IsPc l x i then h.choose else 0
theorem pc_is {l : List (Int × Int)} {x : Int} (n0 : 2 ≤ l.length) (h : x ≤ gX l (l.length - 1)) : IsPc l x (pc l x) := by
  have he := pc_ex n0 h
  unfold pc
  rw [dif_pos he]
  exact he.choose_spec
theorem pc_of {l : List (Int × Int)} {x : Int} {i : Nat} (h : IsPc l x i) : pc l x = i := by
  have he : ∃ i, IsPc l x i := ⟨i, h⟩
  unfold pc
  rw [dif_pos he]
  exact he.choose_spec.one h
/-- the radius between two points, rounded down and up -/
def lnL (a p b q x : Int) : Int := lnN a p b q x / (b - a)
def lnH (a p b q x : Int) : Int := cdv (lnN a p b q x) (b - a)
noncomputable def rdL (l : List (Int × Int)) (x : Int) : Int := lnL (gX l (pc l x - 1)) (gR l (pc l x - 1)) (gX l (pc l x)) (gR l (pc l x)) x
noncomputable def rdH (l : List (Int × Int)) (x : Int) : Int := lnH (gX l (pc l x - 1)) (gR l (pc l x - 1)) (gX l (pc l x)) (gR l (pc l x)) x
/-- what place and At return -/
def plE (l : List (Int × Int)) (x : Int) : Int := if ckE l = 0 then (if x < 0 ∨ gX l (l.length - 1) < x then 2 else 0) else 1
noncomputable def atL (l : List (Int × Int)) (x : Int) : Int := if plE l x = 0 then rdL l x else 0
noncomputable def atH (l : List (Int × Int)) (x : Int) : Int := if plE l x = 0 then rdH l x else 0
end Go.Proofs.YtdjlainhaoaeiaaDoor

/- The reference of layer 8: Few. -/
namespace Go.Proofs.YtdjlainhaoaeiaaDoor
open Go.RowKit

theorem sam_eq {l m : List (Int × Int)} (hl : l.length = m.length) (h : ∀ j, j < l.length → samP (gX l j) (gR l j) (gX m j) (gR m j) = true) : l = m := by
  apply List.ext_getElem hl
  intro i h1 h2
  have := h i h1
  simp only [samP, Bool.and_eq_true, beq_iff_eq, gX, gR, List.getD_eq_getElem?_getD, List.getElem?_eq_getElem h1, List.getElem?_eq_getElem h2, Option.getD_some] at this
  exact Prod.ext this.1 this.2
end Go.Proofs.YtdjlainhaoaeiaaDoor

/- The reference of layer 8: Check. -/
namespace Go.Proofs.YtdjlainhaoaeiaaDoor
open Go.RowKit

end Go.Proofs.YtdjlainhaoaeiaaDoor

/- Plain facts on decimal digits. No program stands in this text. -/
namespace Go.Proofs.YtdjlainhaoaeiaaDoor

/-- a decimal digit -/
def isDg (c : UInt8) : Bool := decide (48 ≤ c.toNat) && decide (c.toNat ≤ 57)
theorem isDg_iff (c : UInt8) : isDg c = true ↔ 48 ≤ c.toNat ∧ c.toNat ≤ 57 := by simp [isDg]
theorem isDg_not (c : UInt8) : isDg c = false ↔ c.toNat < 48 ∨ 57 < c.toNat := by rw [Bool.eq_false_iff, ne_eq, isDg_iff]; omega
def dgs (l : List UInt8) : Bool := l.all isDg
/-- the number with some digits -/
def val (l : List UInt8) : Int := l.foldl (fun a c => 10 * a + ((c.toNat : Int) - 48)) 0
theorem val_snoc (l : List UInt8) (c : UInt8) : val (l ++ [c]) = 10 * val l + ((c.toNat : Int) - 48) := by simp [val]
theorem dgs_snoc (l : List UInt8) (c : UInt8) : dgs (l ++ [c]) = (dgs l && isDg c) := by simp [dgs]
theorem val_bd (l : List UInt8) (h : dgs l = true) : 0 ≤ val l ∧ val l < 10 ^ l.length := by
  have key : ∀ (n : Nat) (l : List UInt8), l.length = n → dgs l = true → 0 ≤ val l ∧ val l < 10 ^ l.length := by
    intro n
    induction n with
    | zero => intro l hl _; rw [List.length_eq_zero_iff.1 hl]; simp [val]
    | succ n ih =>
      intro l hl h
      have hne : l ≠ [] := fun e => by subst e; simp at hl
      have e := List.dropLast_concat_getLast hne
      rw [← e] at h ⊢
      rw [dgs_snoc, Bool.and_eq_true, isDg_iff] at h
      obtain ⟨a, b⟩ := ih l.dropLast (by simp; omega) h.1
      rw [val_snoc, List.length_append, List.length_singleton, Int.pow_succ]
      omega
  exact key _ l rfl h
theorem val_small (l : List UInt8) (h : dgs l = true) (hl : l.length ≤ 15) : 0 ≤ val l ∧ val l ≤ 999999999999999 := by
  obtain ⟨a, b⟩ := val_bd l h
  have : (10 : Int) ^ l.length ≤ 10 ^ 15 := by
    have := Nat.pow_le_pow_right (show 0 < 10 by omega) hl
    exact_mod_cast this
  omega

theorem take_snoc (s : ByteArray) (k : Nat) (h : k < s.size) : s.data.toList.take (k + 1) = s.data.toList.take k ++ [s[k]] := by
  rw [List.take_succ_eq_append_getElem (by simpa using h)]; rfl
theorem dgs_take (s : ByteArray) (k : Nat) (h : k < s.size) (hd : isDg s[k] = false) : dgs s.data.toList = false := by
  rw [Bool.eq_false_iff]; intro hall
  unfold dgs at hall
  rw [List.all_eq_true] at hall
  have hm : s[k] ∈ s.data.toList := by
    show s.data[k] ∈ s.data.toList
    exact List.getElem_mem (l := s.data.toList) (by simpa using h)
  rw [hall _ hm] at hd; cases hd
theorem take_all (s : ByteArray) (k : Nat) (h : s.size ≤ k) : s.data.toList.take k = s.data.toList := List.take_of_length_le (by simpa using h)

/-- the last decimal digit of a number -/
def dg (n : Int) : UInt8 := UInt8.ofNat (48 + (n % 10).toNat)
theorem dg_nat (n : Int) : (dg n).toNat = 48 + (n % 10).toNat := by
  have : (n % 10).toNat < 10 := by omega
  unfold dg
  rw [UInt8.toNat_ofNat']
  omega
theorem dg_is (n : Int) : isDg (dg n) = true := by
  rw [isDg_iff, dg_nat]; omega
theorem dg_val (n : Int) : ((dg n).toNat : Int) - 48 = n % 10 := by rw [dg_nat]; omega
def two (n : Int) : List UInt8 := [dg (n / 10), dg n]
def four (n : Int) : List UInt8 := [dg (n / 1000), dg (n / 100), dg (n / 10), dg n]
theorem dgs_two (n : Int) : dgs (two n) = true := by simp [dgs, two, dg_is]
theorem dgs_four (n : Int) : dgs (four n) = true := by simp [dgs, four, dg_is]
theorem val_two (n : Int) (h0 : 0 ≤ n) (h1 : n ≤ 99) : val (two n) = n := by
  simp only [val, two, List.foldl_cons, List.foldl_nil, dg_val]; omega
theorem val_four (n : Int) (h0 : 0 ≤ n) (h1 : n ≤ 9999) : val (four n) = n := by
  simp only [val, four, List.foldl_cons, List.foldl_nil, dg_val]; omega
theorem dec_four (n : Int) (h0 : 1000 ≤ n) (h1 : n ≤ 9999) : Lib.decDigits n.toNat = four n := by
  have d1 : Lib.decDigits n.toNat = Lib.decDigits (n.toNat / 10) ++ [UInt8.ofNat (48 + n.toNat % 10)] := by rw [Lib.decDigits, dif_neg (by omega)]
  have d2 : Lib.decDigits (n.toNat / 10) = Lib.decDigits (n.toNat / 10 / 10) ++ [UInt8.ofNat (48 + n.toNat / 10 % 10)] := by rw [Lib.decDigits, dif_neg (by omega)]
  rw [d1, d2, Lib.decDigits_two (by omega) (by omega)]
  simp only [four, dg, List.cons_append, List.nil_append]
  rw [show n.toNat / 10 / 10 / 10 = (n / 1000 % 10).toNat by omega, show n.toNat / 10 / 10 % 10 = (n / 100 % 10).toNat by omega, show n.toNat / 10 % 10 = (n / 10 % 10).toNat by omega, show n.toNat % 10 = (n % 10).toNat by omega]
theorem dec_one (n : Int) (h0 : 0 ≤ n) (h1 : n ≤ 9) : 48 :: Lib.decDigits n.toNat = two n := by
  rw [Lib.decDigits_one (by omega)]
  simp only [two, dg]
  rw [show n / 10 % 10 = 0 by omega, show n.toNat = (n % 10).toNat by omega]; rfl
theorem dec_two (n : Int) (h0 : 10 ≤ n) (h1 : n ≤ 99) : Lib.decDigits n.toNat = two n := by
  rw [Lib.decDigits_two (by omega) (by omega)]
  simp only [two, dg]
  rw [show n.toNat / 10 = (n / 10 % 10).toNat by omega, show n.toNat % 10 = (n % 10).toNat by omega]
end Go.Proofs.YtdjlainhaoaeiaaDoor
