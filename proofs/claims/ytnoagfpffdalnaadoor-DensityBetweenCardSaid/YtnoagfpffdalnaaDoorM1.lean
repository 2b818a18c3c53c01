/- Texts that the proofs of this seat share, one behind the other: Kit, Two, QL0, QL, QW, QA, CB0, QT0, QT1, ND0, IA, QO0, RWB, NPL, PKept, ND1, NI, NW, QS0, QS, NO, ND3, RGg, ND4, ND2. -/
import Derived.Test.YtnoagfpffdalnaaDoorProg
import Derived.Test.YtnoagfpffdalnaaDoorRows
import Derived.Test.YtnoagfpffdalnaaDoorShelf
import Derived.WalkKit
import Derived.Handy
import Derived.Lib.Hide
import Derived.Lib.LaidTab
import Derived.Lib.LaidU8
import Derived.Lib.ItoaNum
import Derived.Outline
import Derived.Deep.DeepCutAuto
import Derived.Deep.CutBlock
import Derived.Deep.QuietTactic
import Derived.BigQuiet
import Derived.Lib.OwnBridge
import Derived.OwnWalk
import Derived.Shelf.SlicesQ.Reverse
import Derived.Ground.SlgnProg
import Derived.FnLit
import Derived.RangeFuncBox
import Derived.StillTailTactics
import Derived.ProofKit
import Derived.OpenShut
import Derived.ShutString
import Derived.ChangeOld
import Derived.Lib.SmallJoins
import Derived.MakeChecks
import Derived.Deep.Slices
import Derived.Deep.Fields
import Derived.ChangeSame
import Derived.Deep.SlicePairs
import Derived.Shelf.Strings.BuilderK
import Derived.Test.YtnoagfpffdalnaaDoorShelfW
import Derived.Lib.AppendIntMem
import Derived.Lib.ItoaLen
import Derived.Laws.Concat
import Derived.RangeFuncNested
import Derived.RangeFuncBound
import Derived.RangeFuncCalls
import Derived.RangeFuncLeaves
import Derived.Deep.RegionHeld3
import Derived.ArgAppend
import Derived.Laws.IdiomCopy
import Derived.Shelf.Spec.SlicesInsertGrow
import Derived.OneCell
import Derived.HandedShaped
import Derived.Maps.AppendAt

set_option linter.unusedVariables false
set_option linter.unusedSimpArgs false

/- What every text of this seat needs: worlds that only grow, the listed variables. -/
namespace Go.Proofs.YtnoagfpffdalnaaDoor
open Go.RowKit

theorem bel_alloc {w w' : World} {o : Obj} (h : Below (w.alloc o).heap.size (w.alloc o) w') : Below w.heap.size w w' :=
  ((Below.refl _ _).alloc (Nat.le_refl _) o).trans (h.mono (by simp))
theorem bel_trans {w w1 w2 : World} (h : Below w.heap.size w w1) (h2 : Below w1.heap.size w1 w2) : Below w.heap.size w w2 := h.trans (h2.mono h.size)
theorem bel_drewN (w : World) (n : Nat) : Below w.heap.size w (w.drewN n) := ⟨rfl, rfl, rfl, Nat.le_refl _, fun _ _ => rfl⟩
theorem bel_drew (w : World) : Below w.heap.size w w.drew := ⟨rfl, rfl, rfl, Nat.le_refl _, fun _ _ => rfl⟩
theorem bcell {W w1 : World} (hb : Below W.heap.size W w1) : (∀ b o, b < W.heap.size → w1.cell? ⟨b, o, none⟩ = W.cell? ⟨b, o, none⟩) ∧ (∀ b o, b < W.heap.size → w1.frozen? ⟨b, o, none⟩ = W.frozen? ⟨b, o, none⟩) :=
  ⟨fun b o h => hb.cell (p := ⟨b, o, none⟩) h, fun b o h => hb.frozen (p := ⟨b, o, none⟩) h⟩

theorem var_keep {P : Program} {w w' : World} {n : String} (g : Nat) (hg : P.globalNamed n = some g) (hlt : g < w.heap.size) (hb : Below w.heap.size w w') : w'.var? P n = w.var? P n := by
  simp only [World.var?, hg, Option.bind_some]
  rw [hb.block g hlt]
theorem tab_keep {P : Program} {w w' : World} {n : String} {k : IntKind} {zs : List Int} (g : Nat) (hg : P.globalNamed n = some g) (hz : 0 < zs.length) (h : Lib.TabIs P w n k zs) (hb : Below w.heap.size w w') : Lib.TabIs P w' n k zs := by
  unfold Lib.TabIs at *
  rw [var_keep g hg ?_ hb, h]
  have := Lib.TabIs.cell (P := P) (W := w) h hg 0 hz
  exact World.block_lt_of_cell? w ⟨g, 0, none⟩ this

/-- a listed table of integers -/
theorem tab_of {P : Program} {W : World} {l : List (String × DataW Unit)} {name : String} {d : DataW Unit} {k : IntKind} {zs : List Int} {g : Nat} {t e : TypeId} {n : Nat}
    (h : laidMet P l W) (hm : (name, d) ∈ l) (hd : d = Lib.tabData k zs)
    (hg : P.globalNamed name = some g) (hty : (P.globals[g]?).map (·.type) = some t) (ht : P.underlying t = some (.array n e)) (he : P.underlying e = some (.int k)) (hce : P.cellsOf e = 1) (hct : P.cellsOf t = n) : Lib.TabIs P W name k zs := by
  subst hd
  obtain ⟨g', t', cs, fuel, p, hg', ht', hvar, hr⟩ := Lib.laidMet.reads h hm
  obtain rfl := Option.some.inj (hg.symm.trans hg')
  obtain rfl := Option.some.inj (hty.symm.trans ht')
  unfold Lib.TabIs
  rw [hvar, ← Lib.cells_of_tab ht he hce hct hr]

theorem wrap_wrap_add (a b : Int) : IntKind.i64.wrap (IntKind.i64.wrap a + b) = IntKind.i64.wrap (a + b) := by simp only [IntKind.wrap_i64]; omega
theorem wrap_wrap_sub (a b : Int) : IntKind.i64.wrap (IntKind.i64.wrap a - b) = IntKind.i64.wrap (a - b) := by simp only [IntKind.wrap_i64]; omega
theorem wrap_add_wrap (a b : Int) : IntKind.i64.wrap (a + IntKind.i64.wrap b) = IntKind.i64.wrap (a + b) := by simp only [IntKind.wrap_i64]; omega
theorem wrap_sub_wrap (a b : Int) : IntKind.i64.wrap (a - IntKind.i64.wrap b) = IntKind.i64.wrap (a - b) := by simp only [IntKind.wrap_i64]; omega
theorem wrap_bd (a : Int) : -9223372036854775808 ≤ IntKind.i64.wrap a ∧ IntKind.i64.wrap a ≤ 9223372036854775807 := by simp only [IntKind.wrap_i64]; omega
theorem wrap_in (a : Int) (h : -9223372036854775808 ≤ a ∧ a ≤ 9223372036854775807) : IntKind.i64.wrap a = a := by simp only [IntKind.wrap_i64]; omega

theorem ret_int {k : IntKind} {a b : Int} (h : a = b) : Ending.returned (.int k a) = .returned (.int k b) := by rw [h]
theorem ret_bool {a b : Bool} (h : a = b) : Ending.returned (.bool a) = .returned (.bool b) := by rw [h]
end Go.Proofs.YtnoagfpffdalnaaDoor

/- A block with two cells. -/
namespace Go.Proofs.YtnoagfpffdalnaaDoor
open Go.RowKit

def Two (b : Nat) (W : World) (x y : Value) : Prop := W.cell? ⟨b, 0, none⟩ = some x ∧ W.cell? ⟨b, 1, none⟩ = some y ∧ W.frozen? ⟨b, 0, none⟩ = false ∧ W.frozen? ⟨b, 1, none⟩ = false ∧ b < W.heap.size
theorem Two.below {b : Nat} {W W' : World} {x y : Value} (h : Two b W x y) (hb : Below W.heap.size W W') : Two b W' x y := by
  obtain ⟨h0, h1, h2, h3, h4⟩ := h
  exact ⟨by rw [(bcell hb).1 _ _ h4]; exact h0, by rw [(bcell hb).1 _ _ h4]; exact h1, by rw [(bcell hb).2 _ _ h4]; exact h2, by rw [(bcell hb).2 _ _ h4]; exact h3, Nat.lt_of_lt_of_le h4 hb.size⟩
theorem Two.alloc {b : Nat} {W : World} {x y : Value} (h : Two b W x y) (o : Obj) : Two b (W.alloc o) x y := h.below (bel_alloc (Below.refl _ _))
theorem Two.new (W : World) (x y : Value) (T : TypeId) : Two W.heap.size (W.alloc (.cells #[x, y] T)) x y := ⟨by simp [go_sem], by simp [go_sem], by simp [go_sem], by simp [go_sem], by simp⟩
theorem two_read (w : World) (b : Nat) (u v : Value) {a c : Value} (h0 : w.cell? ⟨b, 0, none⟩ = some a) (h1 : w.cell? ⟨b, 1, none⟩ = some c) :
    ((w.setCell ⟨b, 0, none⟩ u).setCell ⟨b, 1, none⟩ v).cell? ⟨b, 0, none⟩ = some u ∧ ((w.setCell ⟨b, 0, none⟩ u).setCell ⟨b, 1, none⟩ v).cell? ⟨b, 1, none⟩ = some v := by
  refine ⟨?_, ?_⟩
  · rw [World.cell?_setCell_other _ _ _ _ (by simp), World.cell?_setCell_same _ _ _ h0]
  · rw [World.cell?_setCell_same (u := c)]
    rw [World.cell?_setCell_other _ _ _ _ (by simp), h1]
theorem Two.set1 {b : Nat} {W : World} {x y : Value} (h : Two b W x y) (z : Value) : Two b (W.setCell ⟨b, 1, none⟩ z) x z := by
  obtain ⟨h0, h1, h2, h3, h4⟩ := h
  refine ⟨?_, ?_, ?_, ?_, ?_⟩
  · rw [World.cell?_setCell_other _ _ _ _ (by simp)]; exact h0
  · exact World.cell?_setCell_same _ _ _ h1
  · rw [World.frozen?_setCell]; exact h2
  · rw [World.frozen?_setCell]; exact h3
  · simpa [World.setCell] using h4
theorem Two.other {b : Nat} {W : World} {x y : Value} (h : Two b W x y) (p : Addr) (hp : p.block ≠ b) (z : Value) : Two b (W.setCell p z) x y := by
  obtain ⟨h0, h1, h2, h3, h4⟩ := h
  refine ⟨?_, ?_, ?_, ?_, ?_⟩
  · rw [World.cell?_setCell_other _ _ _ _ (by intro e; apply hp; rw [e])]; exact h0
  · rw [World.cell?_setCell_other _ _ _ _ (by intro e; apply hp; rw [e])]; exact h1
  · rw [World.frozen?_setCell]; exact h2
  · rw [World.frozen?_setCell]; exact h3
  · simpa [World.setCell] using h4
theorem Two.set0 {b : Nat} {W : World} {x y : Value} (h : Two b W x y) (z : Value) : Two b (W.setCell ⟨b, 0, none⟩ z) z y := by
  obtain ⟨h0, h1, h2, h3, h4⟩ := h
  refine ⟨?_, ?_, ?_, ?_, ?_⟩
  · exact World.cell?_setCell_same _ _ _ h0
  · rw [World.cell?_setCell_other _ _ _ _ (by simp)]; exact h1
  · rw [World.frozen?_setCell]; exact h2
  · rw [World.frozen?_setCell]; exact h3
  · simpa [World.setCell] using h4
end Go.Proofs.YtnoagfpffdalnaaDoor

/- Slices that read as lists of rows; comparisons. -/
namespace Go.Proofs.YtnoagfpffdalnaaDoor
open Go.RowKit Go.Sort

/-- the point at a place of a list -/
def gX (l : List (Int × Int)) (j : Nat) : Int := (l.getD j (0, 0)).1
def gR (l : List (Int × Int)) (j : Nat) : Int := (l.getD j (0, 0)).2

/-- a value is a slice that reads as a list of points -/
def Pts (w : World) (v : Value) (l : List (Int × Int)) : Prop :=
  ∃ a cap, v = .slice a l.length cap ∧ (l.length ≤ cap ∧ cap ≤ 9223372036854775807) ∧
    (l.length = 0 ∨ ∃ b off, a = some ⟨b, off, none⟩ ∧ b < w.heap.size ∧ ∀ j, j < l.length → w.cell? ⟨b, off + j * 2, none⟩ = some (.int .i64 (gX l j)) ∧ w.cell? ⟨b, off + j * 2 + 1, none⟩ = some (.int .i64 (gR l j)))
theorem Pts.below {w w' : World} {v : Value} {l : List (Int × Int)} (h : Pts w v l) (hb : Below w.heap.size w w') : Pts w' v l := by
  obtain ⟨a, cap, rfl, hl, h | ⟨b, off, rfl, hlt, hc⟩⟩ := h
  · exact ⟨a, cap, rfl, hl, .inl h⟩
  · exact ⟨_, cap, rfl, hl, .inr ⟨b, off, rfl, Nat.lt_of_lt_of_le hlt hb.size, fun j hj => by rw [(bcell hb).1 _ _ hlt, (bcell hb).1 _ _ hlt]; exact hc j hj⟩⟩
theorem Pts.alloc {w : World} {v : Value} {l : List (Int × Int)} (h : Pts w v l) (o : Obj) : Pts (w.alloc o) v l := h.below (bel_alloc (Below.refl _ _))
theorem Pts.shape {W : World} {v : Value} {l : List (Int × Int)} (h : Pts W v l) : ∃ a cap, v = .slice a l.length cap ∧ l.length ≤ cap ∧ cap ≤ 9223372036854775807 := by
  obtain ⟨a, cap, e, ⟨h1, h2⟩, _⟩ := h
  exact ⟨a, cap, e, h1, h2⟩
theorem Pts.len {W : World} {a : Option Addr} {n cap : Nat} {l : List (Int × Int)} (h : Pts W (.slice a n cap) l) : n = l.length := by
  obtain ⟨a', c', e, _⟩ := h
  simp only [Value.slice.injEq] at e
  exact e.2.1
theorem Pts.at {W : World} {a : Option Addr} {n cap : Nat} {l : List (Int × Int)} (h : Pts W (.slice a n cap) l) (h0 : 0 < n) :
    ∃ b off, a = some ⟨b, off, none⟩ ∧ b < W.heap.size ∧ ∀ j, j < n → W.cell? ⟨b, off + j * 2, none⟩ = some (.int .i64 (gX l j)) ∧ W.cell? ⟨b, off + j * 2 + 1, none⟩ = some (.int .i64 (gR l j)) := by
  have hl := h.len
  obtain ⟨a', c', e, _, hh⟩ := h
  simp only [Value.slice.injEq] at e
  obtain ⟨rfl, rfl, rfl⟩ := e
  rcases hh with hh | hh
  · omega
  · exact hh
theorem pts_nil (w : World) : Pts w (.slice none 0 0) [] := ⟨none, 0, rfl, by simp, .inl rfl⟩

/-- the cells of a list of points -/
def flat : List (Int × Int) → List Value
  | [] => []
  | q :: l => .int .i64 q.1 :: .int .i64 q.2 :: flat l
theorem flat_len (l : List (Int × Int)) : (flat l).length = l.length * 2 := by
  induction l with
  | nil => rfl
  | cons q l ih => simp only [flat, List.length_cons, ih]; omega
theorem flat_app (l m : List (Int × Int)) : flat (l ++ m) = flat l ++ flat m := by
  induction l with
  | nil => rfl
  | cons q l ih => simp only [List.cons_append, flat, ih]
theorem flat_at (l : List (Int × Int)) (j : Nat) (h : j < l.length) : (flat l)[j * 2]? = some (.int .i64 (gX l j)) ∧ (flat l)[j * 2 + 1]? = some (.int .i64 (gR l j)) := by
  induction l generalizing j with
  | nil => simp at h
  | cons q l ih =>
    cases j with
    | zero => simp [flat, gX, gR]
    | succ j =>
      have := ih j (by simpa using h)
      rw [show (j + 1) * 2 = j * 2 + 1 + 1 by omega]
      simp only [flat, List.getElem?_cons_succ, gX, gR, List.getD_cons_succ]
      exact this
theorem flat_one (l : List (Int × Int)) : ∀ u ∈ flat l, u.oneCell' = true := by
  induction l with
  | nil => intro u h; cases h
  | cons q l ih =>
    intro u h
    simp only [flat, List.mem_cons] at h
    rcases h with rfl | rfl | h
    · rfl
    · rfl
    · exact ih u h
theorem flat_inv (l : List (Int × Int)) (j : Nat) (u : Value) (h : (flat l)[j]? = some u) : ∃ i, i < l.length ∧ ((j = i * 2 ∧ u = .int .i64 (gX l i)) ∨ (j = i * 2 + 1 ∧ u = .int .i64 (gR l i))) := by
  have hj : j < (flat l).length := (List.getElem?_eq_some_iff.1 h).1
  rw [flat_len] at hj
  refine ⟨j / 2, by omega, ?_⟩
  have := flat_at l (j / 2) (by omega)
  rcases Nat.mod_two_eq_zero_or_one j with e | e
  · left
    have hj2 : j = j / 2 * 2 := by omega
    refine ⟨hj2, ?_⟩
    have h' := h
    rw [hj2, this.1] at h'
    exact (Option.some.inj h').symm
  · right
    have hj2 : j = j / 2 * 2 + 1 := by omega
    refine ⟨hj2, ?_⟩
    have h' := h
    rw [hj2, this.2] at h'
    exact (Option.some.inj h').symm

/-- a slice of the call's own holds the points -/
def OwnP (w : World) (B : Nat) (v : Value) (l : List (Int × Int)) : Prop := w.ownsRow B 40 2 v l.length (flat l)
theorem OwnP.pts {w : World} {B : Nat} {v : Value} {l : List (Int × Int)} (h : OwnP w B v l) : Pts w v l := by
  have h' := h
  obtain ⟨_, h2⟩ := h
  rcases h2 with ⟨rfl, hn⟩ | ⟨g, cap, cur, rfl, hg, hh, hc, hm, hs, ht⟩
  · exact ⟨none, 0, by rw [hn], by omega, .inl hn⟩
  · have hlt : g < w.heap.size := by
      rcases Nat.lt_or_ge g w.heap.size with h | h
      · exact h
      · rw [Array.getElem?_eq_none h] at hh; cases hh
    unfold maxLen at hm
    refine ⟨_, cap, rfl, ⟨hc, by omega⟩, .inr ⟨g, 0, rfl, hlt, fun j hj => ?_⟩⟩
    have hcell := World.ownsRow.cells h' (g := g) rfl
    have hf := flat_at l j hj
    have c0 := hcell _ _ hf.1
    have c1 := hcell _ _ hf.2
    rw [Go.WideShapes.add_plain] at c0 c1
    exact ⟨c0, by rw [Nat.add_assoc]; exact c1⟩
theorem pts_lit (w : World) (l : List (Int × Int)) (cs : List Value) (h : cs = flat l) (hn : l.length ≤ 1000) :
    Pts (w.alloc (.cells cs.toArray 40)) (.slice (some ⟨w.heap.size, 0, none⟩) l.length l.length) l := by
  refine ⟨_, _, rfl, by omega, .inr ⟨w.heap.size, 0, rfl, by simp, fun j hj => ?_⟩⟩
  subst h
  have hf := flat_at l j hj
  have hl := flat_len l
  rw [World.cell?_alloc_new, World.cell?_alloc_new]
  simp only [Nat.zero_add]
  exact ⟨by simpa using hf.1, by simpa using hf.2⟩

theorem pt_info : (Tryd.prog.info? 40).map (fun i => (i.zero, i.size, i.bytes)) = some (some (.agg #[.int .i64 0, .int .i64 0]), 2, 16) := by kernel_rfl

/-! ### points, compared -/
def samP (a b x y : Int) : Bool := a == x && b == y
theorem run_same_point (a b x y : Int) (w : World) :
    (Op.equalIn 10000 40 (.agg #[.int .i64 a, .int .i64 b]) (.agg #[.int .i64 x, .int .i64 y])).run Tryd.prog w = .ok (samP a b x y) w := by
  rw [show (10000 : Nat) = 9999 + 1 from rfl, run_equalIn_agg w 9999 40 _ _ (by kernel_rfl) (by kernel_rfl)]
  have hf : (Tryd.prog.fieldsOf 40).toList.map (fun f => (f.name, f.type, f.offset)) = [("Strength", 3, 0), ("Density", 3, 1)] := by kernel_rfl
  generalize (Tryd.prog.fieldsOf 40).toList = fs at *
  obtain ⟨f, g, rfl⟩ : ∃ f g, fs = [f, g] := by
    have hl := congrArg List.length hf
    rw [List.length_map] at hl
    rcases fs with _ | ⟨f, _ | ⟨g, _ | ⟨h, fs⟩⟩⟩ <;> simp at hl
    exact ⟨f, g, rfl⟩
  simp only [List.map_cons, List.map_nil, List.cons.injEq, Prod.mk.injEq, and_true] at hf
  obtain ⟨⟨f1, f2, f3⟩, g1, g2, g3⟩ := hf
  have eq : ∀ (u v : Int) (W : World), (Op.equalIn 9999 3 (.int .i64 u) (.int .i64 v)).run Tryd.prog W = .ok (u == v) W := fun u v W => run_equalIn_int W 9998 3 .i64 .i64 u v Tryd.underlying3
  by_cases e1 : a = x <;> by_cases e2 : b = y <;> simp [Op.eqFields, f1, f2, f3, g1, g2, g3, go_sem, samP, eq, e1, e2]
theorem run_neq_point (a b x y : Int) (w : World) :
    (binOp .neq 40 (.agg #[.int .i64 a, .int .i64 b]) (.agg #[.int .i64 x, .int .i64 y])).run Tryd.prog w = .ok (.bool (!samP a b x y)) w := by
  rw [run_neq_struct, run_same_point]; rfl
theorem run_eql_point (a b x y : Int) (w : World) :
    (binOp .eql 40 (.agg #[.int .i64 a, .int .i64 b]) (.agg #[.int .i64 x, .int .i64 y])).run Tryd.prog w = .ok (.bool (samP a b x y)) w := by
  rw [run_eql_struct, run_same_point]; rfl
/-! ### bounds, compared -/
def samB (a b x y : Int) : Bool := a == x && b == y
end Go.Proofs.YtnoagfpffdalnaaDoor

/- Slices that read as lists of rows: copies. -/
namespace Go.Proofs.YtnoagfpffdalnaaDoor
open Go.RowKit Go.Sort

set_option maxRecDepth 100000 in
set_option maxHeartbeats 2000000 in
theorem clone_some (ad : Addr) (n c : Nat) (news : List Value) (w : World) (hl : news.length = n * 2) (hn : n ≤ 1000)
    (hc : Hid (∀ j u, news[j]? = some u → (w.alloc (.cells #[] 40)).cell? (ad.add j) = some u)) (h1 : Hid (∀ u ∈ news, u.oneCell' = true)) :
    Calls Tryd.prog 30 #[.slice (some ad) n c] w fun e w' => ∃ v', e = .returned v' ∧ w'.ownsRow w.heap.size 40 2 v' n news ∧ v' ≠ .slice none 0 0 ∧ Below w.heap.size w w' := by
  obtain ⟨i0, hi0, hz0, hz1, hz2⟩ := info_parts pt_info
  have q22 : ∀ (w : World) (a : Option Addr) (n c n' c' : Nat), (binOp .eql 22 (.slice a n c) (.slice none n' c')).run Tryd.prog w = .ok (.bool a.isNone) w := fun w a n c n' c' => Lib.run_eql_slice_nil w _ _ a n c n' c' Tryd.underlying22
  go_enter Tryd.func30, Tryd.ntmps30
  go_wp2_with (at_builtin; refine wpList_append_own _ rfl _ _ 22 rfl w.heap.size 40 i0 (.agg #[.int .i64 0, .int .i64 0]) 2 16 Tryd.underlying22 hi0 hz0 hz1 hz2 rfl (by omega) _ _ _ rfl (World.ownsRow_made w #[] 0 (Nat.le_refl _) (Nat.zero_le _) (by simp)) ad n c news rfl ?qc1 ?qc2 ?qc3 ?qc4 ?qc5 ?qc6 ?_)
  case qc1 => exact hl
  case qc2 => exact hc.out
  case qc3 => exact h1.out
  case qc4 => rw [Nat.zero_add]; unfold maxLen; omega
  case qc5 => rw [Nat.zero_add]; omega
  case qc6 => simp
  intro v' w1 hown hgrow hnil
  have HO := Lib.hid hown
  have HG := Lib.hid hgrow
  have HN := Lib.hid hnil
  clear hown hgrow hnil hl
  go_wp2
  go_ret
  refine ⟨v', rfl, by simpa using HO.out, ?_, ?_⟩
  · exact HN.out
  · exact ((Below.refl _ w).alloc (Nat.le_refl _) _).grown HG.out (by simp) (by intro k hk; simp [Value.ownBlock] at hk; omega)
set_option maxRecDepth 100000 in
theorem clone_none (n c : Nat) (w : World) :
    Calls Tryd.prog 30 #[.slice none n c] w fun e w' => e = .returned (.slice none 0 0) ∧ w' = w := by
  have q22 : ∀ (w : World) (a : Option Addr) (n c n' c' : Nat), (binOp .eql 22 (.slice a n c) (.slice none n' c')).run Tryd.prog w = .ok (.bool a.isNone) w := fun w a n c n' c' => Lib.run_eql_slice_nil w _ _ a n c n' c' Tryd.underlying22
  go_enter Tryd.func30, Tryd.ntmps30
  go_wp2
  go_ret
  exact ⟨rfl, rfl⟩
/-- a copy reads as what it is copied from -/
theorem clone_p (v : Value) (l : List (Int × Int)) (w : World) (h : Pts w v l) (hn : l.length ≤ 1000) :
    Calls Tryd.prog 30 #[v] w fun e w' => ∃ u, e = .returned u ∧ Pts w' u l ∧ Below w.heap.size w w' := by
  obtain ⟨a, c, rfl, hl, h⟩ := h
  cases a with
  | none =>
    rcases h with h | ⟨b, off, hx, _⟩
    · obtain rfl := List.length_eq_zero_iff.1 h
      refine (clone_none _ c w).mono fun _ w' g => ⟨_, g.1, ?_, by rw [g.2]; exact Below.refl _ _⟩
      exact pts_nil w'
    · cases hx
  | some ad =>
    refine (clone_some ad l.length c (flat l) w (flat_len l) hn ?_ (flat_one l)).mono fun _ w' ⟨u, g1, g2, _, g4⟩ => ⟨u, g1, OwnP.pts (show OwnP w' w.heap.size u l from g2), g4⟩
    intro j u hj
    rcases h with h | ⟨b, off, hx, hb, hc⟩
    · obtain rfl := List.length_eq_zero_iff.1 h
      simp [flat] at hj
    · obtain rfl := Option.some.inj hx
      obtain ⟨i, hi, ⟨rfl, rfl⟩ | ⟨rfl, rfl⟩⟩ := flat_inv l j u hj
      · rw [Go.WideShapes.add_plain, World.cell?_alloc_lt w _ _ hb]
        exact (hc i hi).1
      · rw [Go.WideShapes.add_plain, World.cell?_alloc_lt w _ _ hb, ← Nat.add_assoc]
        exact (hc i hi).2
end Go.Proofs.YtnoagfpffdalnaaDoor

/- Copies of lists of points that can be written; parts of slices. -/
namespace Go.Proofs.YtnoagfpffdalnaaDoor
open Go.RowKit

/-- the cells of points that can be written -/
def CC (W : World) (g n : Nat) (F R : Nat → Int) : Prop :=
  ∀ j, j < n → (W.cell? ⟨g, j * 2, none⟩ = some (.int .i64 (F j)) ∧ W.cell? ⟨g, j * 2 + 1, none⟩ = some (.int .i64 (R j))) ∧ W.frozen? ⟨g, j * 2, none⟩ = false ∧ W.frozen? ⟨g, j * 2 + 1, none⟩ = false
theorem CC.drew {W : World} {g n : Nat} {F R : Nat → Int} (h : CC W g n F R) : CC W.drew g n F R := h
theorem CC.below {W W' : World} {g n : Nat} {F R : Nat → Int} (h : CC W g n F R) (hg : g < W.heap.size) (hb : Below W.heap.size W W') : CC W' g n F R := fun j hj => by
  obtain ⟨⟨h0, h1⟩, h2, h3⟩ := h j hj
  exact ⟨⟨by rw [(bcell hb).1 _ _ hg]; exact h0, by rw [(bcell hb).1 _ _ hg]; exact h1⟩, by rw [(bcell hb).2 _ _ hg]; exact h2, by rw [(bcell hb).2 _ _ hg]; exact h3⟩
theorem CC.congr {W : World} {g n : Nat} {F R F' R' : Nat → Int} (h : CC W g n F R) (e : ∀ j, j < n → F j = F' j ∧ R j = R' j) : CC W g n F' R' := fun j hj => by
  obtain ⟨e1, e2⟩ := e j hj
  have := h j hj
  rwa [e1, e2] at this
theorem cell_off {W : World} {g i k : Nat} {u v : Value} (h : W.cell? ⟨g, i, none⟩ = some v) (e : i ≠ k) : (W.setCell ⟨g, k, none⟩ u).cell? ⟨g, i, none⟩ = some v := by
  rw [World.cell?_setCell_other _ _ _ _ (by intro e2; simp only [Addr.mk.injEq] at e2; omega)]; exact h
/-- a store to an X -/
theorem CC.setX {W : World} {g n k : Nat} {F R : Nat → Int} (h : CC W g n F R) (hk : k < n) (z : Int) : CC (W.setCell ⟨g, k * 2, none⟩ (.int .i64 z)) g n (fun j => if j = k then z else F j) R := by
  intro j hj
  obtain ⟨⟨h0, h1⟩, h2, h3⟩ := h j hj
  refine ⟨⟨?_, cell_off h1 (by omega)⟩, by rw [World.frozen?_setCell]; exact h2, by rw [World.frozen?_setCell]; exact h3⟩
  by_cases e : j = k
  · subst e
    simp only [if_true]
    exact World.cell?_setCell_same _ _ _ h0
  · simp only [if_neg e]
    exact cell_off h0 (by omega)
/-- a store to a radius -/
theorem CC.setR {W : World} {g n k : Nat} {F R : Nat → Int} (h : CC W g n F R) (hk : k < n) (z : Int) : CC (W.setCell ⟨g, k * 2 + 1, none⟩ (.int .i64 z)) g n F (fun j => if j = k then z else R j) := by
  intro j hj
  obtain ⟨⟨h0, h1⟩, h2, h3⟩ := h j hj
  refine ⟨⟨cell_off h0 (by omega), ?_⟩, by rw [World.frozen?_setCell]; exact h2, by rw [World.frozen?_setCell]; exact h3⟩
  by_cases e : j = k
  · subst e
    simp only [if_true]
    exact World.cell?_setCell_same _ _ _ h1
  · simp only [if_neg e]
    exact cell_off h1 (by omega)
theorem CC.pts {W : World} {g n cap : Nat} {F R : Nat → Int} {l : List (Int × Int)} (h : CC W g n F R) (hg : g < W.heap.size) (hl : l.length = n) (hc : n ≤ cap ∧ cap ≤ 9223372036854775807) (e : ∀ j, j < n → F j = gX l j ∧ R j = gR l j) : Pts W (.slice (some ⟨g, 0, none⟩) n cap) l := by
  subst hl
  refine ⟨_, cap, rfl, hc, .inr ⟨g, 0, rfl, hg, fun j hj => ?_⟩⟩
  obtain ⟨⟨h0, h1⟩, _, _⟩ := h j hj
  obtain ⟨e1, e2⟩ := e j hj
  rw [Nat.zero_add, ← e1, ← e2]
  exact ⟨h0, h1⟩
/-- a copy that can be written -/
theorem clone_w (v : Value) (l : List (Int × Int)) (w : World) (h : Pts w v l) (h0 : 0 < l.length) (hn : l.length ≤ 1000) :
    Calls Tryd.prog 30 #[v] w fun e w' => ∃ g cap, e = .returned (.slice (some ⟨g, 0, none⟩) l.length cap) ∧ (l.length ≤ cap ∧ cap ≤ 9223372036854775807) ∧ w.heap.size ≤ g ∧ g < w'.heap.size ∧ CC w' g l.length (gX l) (gR l) ∧ Below w.heap.size w w' := by
  obtain ⟨a, c, rfl, hl, h | ⟨b, off, rfl, hb, hc⟩⟩ := h
  · omega
  · refine (clone_some ⟨b, off, none⟩ l.length c (flat l) w (flat_len l) hn ?_ (flat_one l)).mono fun _ w' ⟨u, g1, g2, _, g4⟩ => ?_
    · intro j u hj
      obtain ⟨i, hi, ⟨rfl, rfl⟩ | ⟨rfl, rfl⟩⟩ := flat_inv l j u hj
      · rw [Go.WideShapes.add_plain, World.cell?_alloc_lt w _ _ hb]
        exact (hc i hi).1
      · rw [Go.WideShapes.add_plain, World.cell?_alloc_lt w _ _ hb, ← Nat.add_assoc]
        exact (hc i hi).2
    · have g2' := g2
      obtain ⟨_, g5⟩ := g2
      rcases g5 with ⟨_, hx⟩ | ⟨g, cap, cur, rfl, hg, hh, hcc, hm, _⟩
      · omega
      · have hlt : g < w'.heap.size := (Array.getElem?_eq_some_iff.1 hh).1
        unfold maxLen at hm
        refine ⟨g, cap, g1, by omega, hg, hlt, fun j hj => ?_, g4⟩
        have hcell := World.ownsRow.cells g2' (g := g) rfl
        have hf := flat_at l j hj
        have c0 := hcell _ _ hf.1
        have c1 := hcell _ _ hf.2
        rw [Go.WideShapes.add_plain, Nat.zero_add] at c0 c1
        exact ⟨⟨c0, c1⟩, by simp [World.frozen?, hh], by simp [World.frozen?, hh]⟩
end Go.Proofs.YtnoagfpffdalnaaDoor

/- Plain facts of layers 16 and 17: right rows, first faults. No program stands in this text. -/
namespace Go.Proofs.YtnoagfpffdalnaaDoor

/-- the first place below n at which p holds; n if there is none -/
def fst (p : Nat → Bool) : Nat → Nat
  | 0 => 0
  | n + 1 => if fst p n < n then fst p n else if p n then n else n + 1
theorem fst_le (p : Nat → Bool) (n : Nat) : fst p n ≤ n := by
  induction n with
  | zero => exact Nat.le_refl _
  | succ n ih => unfold fst; split <;> (try split) <;> omega
theorem fst_spec (p : Nat → Bool) (n : Nat) : (∀ j, j < fst p n → p j = false) ∧ (fst p n < n → p (fst p n) = true) := by
  induction n with
  | zero => exact ⟨fun j hj => by simp [fst] at hj, fun h => by omega⟩
  | succ n ih =>
    obtain ⟨i1, i2⟩ := ih
    have le := fst_le p n
    unfold fst
    by_cases h : fst p n < n
    · rw [if_pos h]; exact ⟨i1, fun _ => i2 h⟩
    · rw [if_neg h]
      have e : fst p n = n := by omega
      rw [e] at i1
      cases hp : p n with
      | true => simp only [if_true]; exact ⟨i1, fun _ => hp⟩
      | false =>
        simp only [Bool.false_eq_true, if_false]
        refine ⟨fun j hj => ?_, fun h => by omega⟩
        by_cases g : j = n
        · rw [g]; exact hp
        · exact i1 j (by omega)
theorem fst_is {p : Nat → Bool} {n k : Nat} (hk : k ≤ n) (h1 : ∀ j, j < k → p j = false) (h2 : k < n → p k = true) : fst p n = k := by
  obtain ⟨s1, s2⟩ := fst_spec p n
  have le := fst_le p n
  rcases Nat.lt_trichotomy (fst p n) k with h | h | h
  · have := h1 _ h; have := s2 (by omega); simp_all
  · exact h
  · have := s1 _ h; have := h2 (by omega); simp_all
theorem fst_iff {p : Nat → Bool} {n : Nat} (hm : ∀ a b, a ≤ b → b < n → p a = true → p b = true) {i : Nat} (hi : i < n) : p i = true ↔ fst p n ≤ i := by
  obtain ⟨s1, s2⟩ := fst_spec p n
  constructor
  · intro h
    rcases Nat.lt_or_ge i (fst p n) with g | g
    · rw [s1 i g] at h; cases h
    · exact g
  · intro h
    exact hm _ i h hi (s2 (by omega))


theorem bel_drew2 (w : World) (a b : Nat) : Go.RowKit.Below w.heap.size w ((w.drewN a).drewN b) := ⟨rfl, rfl, rfl, Nat.le_refl _, fun _ _ => rfl⟩
def outB (x r : Int) : Bool := decide (x < 0) || decide (10000 < x) || decide (r < 50000) || decide (120000 < r)
theorem outB_false {x r : Int} : outB x r = false ↔ (0 ≤ x ∧ x ≤ 10000 ∧ 50000 ≤ r ∧ r ≤ 120000) := by
  simp only [outB, Bool.or_eq_false_iff, decide_eq_false_iff_not]; omega
/-- the fault of a measured row -/
def auF (l : List (Int × Int)) (k : Nat) : Int := if outB (gX l k) (gR l k) = true then 2 else if k ≠ 0 ∧ gX l k < gX l (k - 1) then 5 else 0
def auK (l : List (Int × Int)) : Nat := fst (fun k => auF l k != 0) l.length
def auE (l : List (Int × Int)) : Int := if 128 < l.length then 8 else if l.length = 0 then 9 else if auK l < l.length then auF l (auK l) else 0
def auI (l : List (Int × Int)) : Int := if 128 < l.length then -1 else if l.length = 0 then -1 else if auK l < l.length then (auK l : Int) else -1
structure AR (l : List (Int × Int)) : Prop where
  n0 : 1 ≤ l.length
  n1 : l.length ≤ 128
  b : ∀ i, i < l.length → 0 ≤ gX l i ∧ gX l i ≤ 10000 ∧ 50000 ≤ gR l i ∧ gR l i ≤ 120000
  asc : ∀ i, i + 1 < l.length → gX l i ≤ gX l (i + 1)
theorem auF_zero {l : List (Int × Int)} {k : Nat} : auF l k = 0 ↔ ((0 ≤ gX l k ∧ gX l k ≤ 10000 ∧ 50000 ≤ gR l k ∧ gR l k ≤ 120000) ∧ (k ≠ 0 → gX l (k - 1) ≤ gX l k)) := by
  unfold auF
  cases h : outB (gX l k) (gR l k) with
  | true => 
    simp only [if_true]
    constructor
    · intro h; cases h
    · rintro ⟨h1, _⟩
      rw [outB_false.2 h1] at h; cases h
  | false =>
    have := outB_false.1 h
    simp only [Bool.false_eq_true, if_false]
    by_cases g : k ≠ 0 ∧ gX l k < gX l (k - 1)
    · rw [if_pos g]
      constructor
      · intro h; cases h
      · rintro ⟨_, h2⟩
        have := h2 g.1; omega
    · rw [if_neg g]
      refine ⟨fun _ => ⟨this, fun hk => ?_⟩, fun _ => rfl⟩
      rcases Int.lt_or_le (gX l k) (gX l (k - 1)) with h' | h'
      · exact absurd ⟨hk, h'⟩ g
      · exact h'
theorem auE_zero {l : List (Int × Int)} : auE l = 0 ↔ AR l := by
  obtain ⟨s1, s2⟩ := fst_spec (fun k => auF l k != 0) l.length
  have le := fst_le (fun k => auF l k != 0) l.length
  unfold auE
  by_cases h0 : 128 < l.length
  · rw [if_pos h0]
    exact ⟨fun h => (by cases h), fun h => by have := h.n1; omega⟩
  · rw [if_neg h0]
    by_cases h1 : l.length = 0
    · rw [if_pos h1]
      exact ⟨fun h => (by cases h), fun h => by have := h.n0; omega⟩
    · rw [if_neg h1]
      by_cases h2 : auK l < l.length
      · rw [if_pos h2]
        have h3 := s2 h2
        constructor
        · intro h
          have : auF l (fst (fun k => auF l k != 0) l.length) = 0 := h
          rw [this] at h3
          cases h3
        · intro h
          refine auF_zero.2 ⟨h.b _ h2, fun hk => ?_⟩
          have := h.asc (auK l - 1) (by omega)
          rwa [show auK l - 1 + 1 = auK l by omega] at this
      · rw [if_neg h2]
        have e : fst (fun k => auF l k != 0) l.length = l.length := by unfold auK at h2; omega
        rw [e] at s1
        have z : ∀ j, j < l.length → auF l j = 0 := fun j hj => by simpa using s1 j hj
        refine ⟨fun _ => ⟨by omega, by omega, fun i hi => (auF_zero.1 (z i hi)).1, fun i hi => ?_⟩, fun _ => rfl⟩
        have := (auF_zero.1 (z (i + 1) hi)).2 (by omega)
        simpa using this
theorem auE_at {l : List (Int × Int)} {k : Nat} (h0 : l.length ≤ 128) (hk : k < l.length) (h1 : ∀ j, j < k → auF l j = 0) (h2 : auF l k ≠ 0) : auE l = auF l k ∧ auI l = k := by
  have e : auK l = k := fst_is (by omega) (fun j hj => by simpa using h1 j hj) (fun _ => by simpa using h2)
  unfold auE auI
  simp only [if_neg (show ¬ 128 < l.length by omega), if_neg (show ¬ l.length = 0 by omega), e, if_pos hk]
  exact ⟨trivial, trivial⟩
theorem auE_ok {l : List (Int × Int)} (h0 : l.length ≤ 128) (h3 : l.length ≠ 0) (h1 : ∀ j, j < l.length → auF l j = 0) : auE l = 0 ∧ auI l = -1 := by
  have e : auK l = l.length := fst_is (by omega) (fun j hj => by simpa using h1 j hj) (fun h => by omega)
  unfold auE auI
  simp only [if_neg (show ¬ 128 < l.length by omega), if_neg h3, e, if_neg (show ¬ l.length < l.length by omega)]
  exact ⟨trivial, trivial⟩

/-! ### right density tables -/
def dnF (l : List (Int × Int)) (k : Nat) : Int := if outB (gX l k) (gR l k) = true then 2 else if k ≠ 0 ∧ gX l k ≤ gX l (k - 1) then 5 else if k ≠ 0 ∧ gR l (k - 1) < gR l k then 18 else 0
def dnK (l : List (Int × Int)) : Nat := fst (fun k => dnF l k != 0) l.length
def dnE (l : List (Int × Int)) : Int := if 128 < l.length then 8 else if l.length < 2 then 9 else if dnK l < l.length then dnF l (dnK l) else if gX l 0 ≠ 0 then 10 else if gX l (l.length - 1) ≠ 10000 then 10 else 0
def dnI (l : List (Int × Int)) : Int := if 128 < l.length then -1 else if l.length < 2 then -1 else if dnK l < l.length then (dnK l : Int) else if gX l 0 ≠ 0 then 0 else if gX l (l.length - 1) ≠ 10000 then ((l.length - 1 : Nat) : Int) else -1
structure DR (l : List (Int × Int)) : Prop where
  n0 : 2 ≤ l.length
  n1 : l.length ≤ 128
  b : ∀ i, i < l.length → 0 ≤ gX l i ∧ gX l i ≤ 10000 ∧ 50000 ≤ gR l i ∧ gR l i ≤ 120000
  asc : ∀ i, i + 1 < l.length → gX l i < gX l (i + 1)
  down : ∀ i, i + 1 < l.length → gR l (i + 1) ≤ gR l i
  z : gX l 0 = 0
  t : gX l (l.length - 1) = 10000
theorem dnF_zero {l : List (Int × Int)} {k : Nat} : dnF l k = 0 ↔ ((0 ≤ gX l k ∧ gX l k ≤ 10000 ∧ 50000 ≤ gR l k ∧ gR l k ≤ 120000) ∧ (k ≠ 0 → gX l (k - 1) < gX l k) ∧ (k ≠ 0 → gR l k ≤ gR l (k - 1))) := by
  unfold dnF
  cases h : outB (gX l k) (gR l k) with
  | true => 
    simp only [if_true]
    constructor
    · intro h; cases h
    · rintro ⟨h1, _⟩
      rw [outB_false.2 h1] at h; cases h
  | false =>
    have := outB_false.1 h
    simp only [Bool.false_eq_true, if_false]
    by_cases g : k ≠ 0 ∧ gX l k ≤ gX l (k - 1)
    · rw [if_pos g]
      constructor
      · intro h; cases h
      · rintro ⟨_, h2, _⟩
        have := h2 g.1; omega
    · rw [if_neg g]
      by_cases g2 : k ≠ 0 ∧ gR l (k - 1) < gR l k
      · rw [if_pos g2]
        constructor
        · intro h; cases h
        · rintro ⟨_, _, h2⟩
          have := h2 g2.1; omega
      · rw [if_neg g2]
        refine ⟨fun _ => ⟨this, fun hk => ?_, fun hk => ?_⟩, fun _ => rfl⟩
        · rcases Int.lt_or_le (gX l (k - 1)) (gX l k) with h' | h'
          · exact h'
          · exact absurd ⟨hk, h'⟩ g
        · rcases Int.lt_or_le (gR l (k - 1)) (gR l k) with h' | h'
          · exact absurd ⟨hk, h'⟩ g2
          · exact h'
theorem dnE_at {l : List (Int × Int)} {k : Nat} (h0 : l.length ≤ 128) (h3 : 2 ≤ l.length) (hk : k < l.length) (h1 : ∀ j, j < k → dnF l j = 0) (h2 : dnF l k ≠ 0) : dnE l = dnF l k ∧ dnI l = k := by
  have e : dnK l = k := fst_is (by omega) (fun j hj => by simpa using h1 j hj) (fun _ => by simpa using h2)
  unfold dnE dnI
  simp only [if_neg (show ¬ 128 < l.length by omega), if_neg (show ¬ l.length < 2 by omega), e, if_pos hk]
  exact ⟨trivial, trivial⟩
theorem dnE_ok {l : List (Int × Int)} (h0 : l.length ≤ 128) (h3 : 2 ≤ l.length) (h1 : ∀ j, j < l.length → dnF l j = 0) :
    (gX l 0 ≠ 0 → dnE l = 10 ∧ dnI l = 0) ∧ (gX l 0 = 0 → gX l (l.length - 1) ≠ 10000 → dnE l = 10 ∧ dnI l = ((l.length - 1 : Nat) : Int)) ∧ (gX l 0 = 0 → gX l (l.length - 1) = 10000 → dnE l = 0 ∧ dnI l = -1) := by
  have e : dnK l = l.length := fst_is (by omega) (fun j hj => by simpa using h1 j hj) (fun h => by omega)
  unfold dnE dnI
  simp only [if_neg (show ¬ 128 < l.length by omega), if_neg (show ¬ l.length < 2 by omega), e, if_neg (show ¬ l.length < l.length by omega)]
  refine ⟨fun h => ?_, fun h g => ?_, fun h g => ?_⟩
  · simp only [if_pos h]; exact ⟨trivial, trivial⟩
  · simp only [if_neg (show ¬ gX l 0 ≠ 0 by omega), if_pos g]; exact ⟨trivial, trivial⟩
  · simp only [if_neg (show ¬ gX l 0 ≠ 0 by omega), if_neg (show ¬ gX l (l.length - 1) ≠ 10000 by omega)]; exact ⟨trivial, trivial⟩
theorem dnE_zero {l : List (Int × Int)} : dnE l = 0 ↔ DR l := by
  obtain ⟨s1, s2⟩ := fst_spec (fun k => dnF l k != 0) l.length
  have le := fst_le (fun k => dnF l k != 0) l.length
  constructor
  · intro h
    by_cases h0 : 128 < l.length
    · unfold dnE at h; rw [if_pos h0] at h; cases h
    by_cases h1 : l.length < 2
    · unfold dnE at h; rw [if_neg h0, if_pos h1] at h; cases h
    by_cases h2 : fst (fun k => dnF l k != 0) l.length < l.length
    · have h3 := s2 h2
      have := (dnE_at (by omega) (by omega) h2 (fun j hj => by simpa using s1 j hj) (by simpa using h3)).1
      rw [h] at this
      rw [← this] at h3
      cases h3
    · have e : fst (fun k => dnF l k != 0) l.length = l.length := by omega
      rw [e] at s1
      have z : ∀ j, j < l.length → dnF l j = 0 := fun j hj => by simpa using s1 j hj
      obtain ⟨g1, g2, g3⟩ := dnE_ok (by omega) (by omega) z
      refine ⟨by omega, by omega, fun i hi => (dnF_zero.1 (z i hi)).1, fun i hi => ?_, fun i hi => ?_, ?_, ?_⟩
      · have := (dnF_zero.1 (z (i + 1) hi)).2.1 (by omega)
        simpa using this
      · have := (dnF_zero.1 (z (i + 1) hi)).2.2 (by omega)
        simpa using this
      · rcases Decidable.em (gX l 0 = 0) with q | q
        · exact q
        · have := (g1 q).1; omega
      · rcases Decidable.em (gX l 0 = 0) with q | q
        · rcases Decidable.em (gX l (l.length - 1) = 10000) with q2 | q2
          · exact q2
          · have := (g2 q q2).1; omega
        · have := (g1 q).1; omega
  · intro h
    have z : ∀ j, j < l.length → dnF l j = 0 := fun j hj => by
      refine dnF_zero.2 ⟨h.b j hj, fun hk => ?_, fun hk => ?_⟩
      · have := h.asc (j - 1) (by omega)
        rwa [show j - 1 + 1 = j by omega] at this
      · have := h.down (j - 1) (by omega)
        rwa [show j - 1 + 1 = j by omega] at this
    exact ((dnE_ok h.n1 h.n0 z).2.2 h.z h.t).1
end Go.Proofs.YtnoagfpffdalnaaDoor

/- A cell below. -/
namespace Go.Proofs.YtnoagfpffdalnaaDoor
open Go.RowKit

theorem cell_bel {w w' : World} {p : Addr} {v : Value} (h : w.cell? p = some v) (hb : Below w.heap.size w w') : w'.cell? p = some v := by
  rw [hb.cell (World.block_lt_of_cell? w _ h)]; exact h
end Go.Proofs.YtnoagfpffdalnaaDoor

/- Package density and its reference: Check. -/
namespace Go.Proofs.YtnoagfpffdalnaaDoor
open Go.RowKit

set_option maxHeartbeats 4000000 in
theorem dnOut_any (x v : Int) (w : World) :
    Calls Tryd.prog 51 #[.agg #[.int .i64 x, .int .i64 v]] w fun e w' => e = .returned (.bool (outB x v)) ∧ Below w.heap.size w w' := by
  unfold outB
  have X := Lib.hid (bel_alloc (o := .cells #[.int .i64 x, .int .i64 v] 40) (Below.refl _ (w.alloc (.cells #[.int .i64 x, .int .i64 v] 40))))
  by_cases h0 : x < 0
  · have d0 : decide (x < 0) = true := decide_eq_true h0
    rw [d0, Bool.true_or, Bool.true_or, Bool.true_or]
    clear h0
    go_enter Tryd.func51, Tryd.ntmps51
    go_wp2
    go_returns
    exact ⟨rfl, X.out⟩
  have d0 : decide (x < 0) = false := decide_eq_false h0
  by_cases h1 : 10000 < x
  · have d1 : decide (10000 < x) = true := decide_eq_true h1
    rw [d0, d1, Bool.false_or, Bool.true_or, Bool.true_or]
    clear h0 h1
    go_enter Tryd.func51, Tryd.ntmps51
    go_wp2
    go_returns
    exact ⟨rfl, X.out⟩
  have d1 : decide (10000 < x) = false := decide_eq_false h1
  by_cases h2 : v < 50000
  · have d2 : decide (v < 50000) = true := decide_eq_true h2
    rw [d0, d1, d2, Bool.false_or, Bool.false_or, Bool.true_or]
    clear h0 h1 h2
    go_enter Tryd.func51, Tryd.ntmps51
    go_wp2
    go_returns
    exact ⟨rfl, X.out⟩
  have d2 : decide (v < 50000) = false := decide_eq_false h2
  rw [d0, d1, d2, Bool.false_or, Bool.false_or, Bool.false_or]
  clear h0 h1 h2
  generalize hB : decide (120000 < v) = B
  go_enter Tryd.func51, Tryd.ntmps51
  go_wp2
  go_returns
  exact ⟨rfl, X.out⟩

set_option maxHeartbeats 16000000 in
set_option maxRecDepth 100000 in
theorem dnFlt_some (b off n cap k : Nat) (l : List (Int × Int)) (w : World) (n1 : n ≤ 128) (hb : b < w.heap.size) (hk : k < n)
    (hc : Hid (∀ j, j < n → w.cell? ⟨b, off + j * 2, none⟩ = some (.int .i64 (gX l j)) ∧ w.cell? ⟨b, off + j * 2 + 1, none⟩ = some (.int .i64 (gR l j)))) :
    Calls Tryd.prog 32 #[.slice (some ⟨b, off, none⟩) n cap, .int .i64 k] w fun e w' => e = .returned (.int .i64 (dnF l k)) ∧ Below w.heap.size w w' := by
  have c0 := (hc.out k hk).1
  have c1 := (hc.out k hk).2
  have l0 : (k : Int) < (n : Int) := by omega
  have HO := Lib.hid (fun W => dnOut_any (gX l k) (gR l k) W)
  have cp : Hid (k ≠ 0 → w.cell? ⟨b, off + (k - 1) * 2, none⟩ = some (.int .i64 (gX l (k - 1))) ∧ w.cell? ⟨b, off + (k - 1) * 2 + 1, none⟩ = some (.int .i64 (gR l (k - 1)))) := fun hk0 => hc.out (k - 1) (by omega)
  have HF : Hid (dnF l k = if outB (gX l k) (gR l k) = true then 2 else if k ≠ 0 ∧ gX l k ≤ gX l (k - 1) then 5 else if k ≠ 0 ∧ gR l (k - 1) < gR l k then 18 else 0) := Lib.hid rfl
  generalize dnF l k = F at *
  generalize gX l k = x at *
  generalize gR l k = r at *
  generalize gX l (k - 1) = y at *
  generalize gR l (k - 1) = s at *
  clear hc
  cases ho : outB x r with
  | true =>
    rw [ho] at HO HF
    have e : F = 2 := HF.out
    subst e
    clear ho HF cp
    go_enter Tryd.func32, Tryd.ntmps32
    go_wp2_with fail
    refine (HO.out _).mono ?_
    rintro e w1 ⟨rfl, gg⟩
    have X := Lib.hid gg; clear gg
    go_wp2
    go_returns
    exact ⟨rfl, X.out⟩
  | false =>
    rw [ho] at HO HF
    by_cases k0 : k = 0
    · have e : F = 0 := by rw [HF.out]; simp [k0]
      subst e
      have dk : decide (0 < (k : Int)) = false := decide_eq_false (by omega)
      have dk2 : decide (0 < k) = false := decide_eq_false (by omega)
      have dk3 : ¬ 0 < k := by omega
      replace k0 := Lib.hid k0
      clear ho HF cp
      go_enter Tryd.func32, Tryd.ntmps32
      go_wp2_with fail
      refine (HO.out _).mono ?_
      rintro e w1 ⟨rfl, gg⟩
      have X := Lib.hid gg
      replace c0 := cell_bel c0 gg
      replace c1 := cell_bel c1 gg
      clear gg
      go_wp2_with fail
      go_quiet (fail)
      go_wp2_with fail
      go_quiet (fail)
      go_wp2
      go_returns
      exact ⟨rfl, bel_trans X.out (by first | exact bel_drewN _ _ | exact bel_drew2 _ _ _)⟩
    · have dk : decide (0 < (k : Int)) = true := decide_eq_true (by omega)
      obtain ⟨m, rfl⟩ : ∃ m, k = m + 1 := ⟨k - 1, by omega⟩
      have w1' : IntKind.i64.wrap (((m + 1 : Nat) : Int) - 1) = (m : Int) := by rw [wrap_in _ ⟨by omega, by omega⟩]; omega
      have w2 : IntKind.i64.wrap ((m : Int) + 1 - 1) = (m : Int) := by rw [wrap_in _ ⟨by omega, by omega⟩]; omega
      have w3 : IntKind.i64.wrap (m : Int) = (m : Int) := wrap_in _ ⟨by omega, by omega⟩
      have l1 : (m : Int) < (n : Int) := by omega
      obtain ⟨q0, q1⟩ := cp.out (by omega)
      rw [show m + 1 - 1 = m by omega] at q0 q1
      clear cp
      by_cases hxy : x ≤ y
      · have e : F = 5 := by rw [HF.out]; simp [hxy]
        subst e
        have dxy : decide (x ≤ y) = true := decide_eq_true hxy
        clear ho HF
        go_enter Tryd.func32, Tryd.ntmps32
        go_wp2_with fail
        refine (HO.out _).mono ?_
        rintro e w1 ⟨rfl, gg⟩
        have X := Lib.hid gg
        replace c0 := cell_bel c0 gg
        replace c1 := cell_bel c1 gg
        replace q0 := cell_bel q0 gg
        replace q1 := cell_bel q1 gg
        clear gg
        go_wp2_with fail
        go_quiet (fail)
        go_wp2
        go_returns
        exact ⟨rfl, bel_trans X.out (by first | exact bel_drewN _ _ | exact bel_drew2 _ _ _)⟩
      · have dxy : decide (x ≤ y) = false := decide_eq_false hxy
        by_cases hrs : s < r
        · have e : F = 18 := by rw [HF.out]; simp [hxy, hrs]
          subst e
          have drs : decide (s < r) = true := decide_eq_true hrs
          clear ho HF
          go_enter Tryd.func32, Tryd.ntmps32
          go_wp2_with fail
          refine (HO.out _).mono ?_
          rintro e w1 ⟨rfl, gg⟩
          have X := Lib.hid gg
          replace c0 := cell_bel c0 gg
          replace c1 := cell_bel c1 gg
          replace q0 := cell_bel q0 gg
          replace q1 := cell_bel q1 gg
          clear gg
          go_wp2_with fail
          go_quiet (fail)
          go_wp2_with fail
          go_quiet (fail)
          go_wp2
          go_returns
          exact ⟨rfl, bel_trans X.out (by first | exact bel_drewN _ _ | exact bel_drew2 _ _ _)⟩
        · have e : F = 0 := by rw [HF.out]; simp [hxy, hrs]
          subst e
          have drs : decide (s < r) = false := decide_eq_false hrs
          clear ho HF
          go_enter Tryd.func32, Tryd.ntmps32
          go_wp2_with fail
          refine (HO.out _).mono ?_
          rintro e w1 ⟨rfl, gg⟩
          have X := Lib.hid gg
          replace c0 := cell_bel c0 gg
          replace c1 := cell_bel c1 gg
          replace q0 := cell_bel q0 gg
          replace q1 := cell_bel q1 gg
          clear gg
          go_wp2_with fail
          go_quiet (fail)
          go_wp2_with fail
          go_quiet (fail)
          go_wp2
          go_returns
          exact ⟨rfl, bel_trans X.out (by first | exact bel_drewN _ _ | exact bel_drew2 _ _ _)⟩
set_option maxHeartbeats 4000000 in
theorem dnChk_len (a : Option Addr) (n cap : Nat) (V : Int) (w : World) (h : (n < 2 ∧ V = 9) ∨ (128 < n ∧ n ≤ 9223372036854775807 ∧ V = 8)) :
    Calls Tryd.prog 12 #[.slice a n cap] w fun e w' => e = .returned (.tuple #[.int .i64 (-1), .int .i64 V]) ∧ Below w.heap.size w w' := by
  rcases h with ⟨h, rfl⟩ | ⟨h, h2, rfl⟩
  all_goals
    go_enter Tryd.func12, Tryd.ntmps12
    go_wp2
    go_returns
    exact ⟨rfl, Below.refl _ _⟩
set_option maxHeartbeats 16000000 in
set_option maxRecDepth 100000 in
theorem dnChk_some (b off m cap : Nat) (l : List (Int × Int)) (I E : Int) (w : World) (n0 : 1 ≤ m) (n1 : m + 1 ≤ 128) (hb : b < w.heap.size)
    (hc : Hid (∀ j, j < m + 1 → w.cell? ⟨b, off + j * 2, none⟩ = some (.int .i64 (gX l j)) ∧ w.cell? ⟨b, off + j * 2 + 1, none⟩ = some (.int .i64 (gR l j))))
    (h1 : Hid (∀ k, k < m + 1 → (∀ j, j < k → dnF l j = 0) → dnF l k ≠ 0 → I = k ∧ E = dnF l k))
    (h2 : Hid ((∀ j, j < m + 1 → dnF l j = 0) → (gX l 0 ≠ 0 → E = 10 ∧ I = 0) ∧ (gX l 0 = 0 → gX l m ≠ 10000 → E = 10 ∧ I = (m : Int)) ∧ (gX l 0 = 0 → gX l m = 10000 → E = 0 ∧ I = -1))) :
    Calls Tryd.prog 12 #[.slice (some ⟨b, off, none⟩) (m + 1) cap] w fun e w' => e = .returned (.tuple #[.int .i64 I, .int .i64 E]) ∧ Below w.heap.size w w' := by
  have d8 : decide (128 < (m : Int) + 1) = false := decide_eq_false (by omega)
  have d9 : decide ((m : Int) + 1 < 2) = false := decide_eq_false (by omega)
  have wm : IntKind.i64.wrap ((m : Int) + 1 - 1) = (m : Int) := by rw [wrap_in _ ⟨by omega, by omega⟩]; omega
  have wm2 : IntKind.i64.wrap (m : Int) = (m : Int) := wrap_in _ ⟨by omega, by omega⟩
  go_enter Tryd.func12, Tryd.ntmps12
  go_wp2_with fail
  go_loopw [15] (fun ii wr => ∃ k : Nat, k ≤ m + 1 ∧ ii = .int .i64 (k : Int) ∧ Hid (Below w.heap.size w wr) ∧ Hid (∀ j, j < k → dnF l j = 0)) (fun ii _ => m + 1 - (intOf ii).toNat)
  case atStart => exact ⟨0, Nat.zero_le _, rfl, Below.refl _ _, fun j hj => by omega⟩
  case round =>
    obtain ⟨k, hk, rfl, hB, ha⟩ := hrel
    by_cases hlt : k < m + 1
    · have bb : b < wr.heap.size := Nat.lt_of_lt_of_le hb hB.out.size
      have l0 : (k : Int) < (m : Int) + 1 := by omega
      have l00 : (k : Int) < ((m + 1 : Nat) : Int) := by omega
      have H1 := Lib.hid (h1.out k hlt ha.out)
      have HS : Hid (dnF l k = 0 → ∀ j, j < k + 1 → dnF l j = 0) := fun h j hj => by
        by_cases e : j = k
        · rw [e]; exact h
        · exact ha.out j (by omega)
      have HK := Lib.hid (dnFlt_some b off (m + 1) cap k l wr (by omega) bb hlt (Lib.hid fun j hj => ⟨cell_bel (hc.out j hj).1 hB.out, cell_bel (hc.out j hj).2 hB.out⟩))
      generalize dnF l k = F at *
      by_cases hF : F = 0
      · have hs2 := Lib.hid (HS.out hF)
        subst hF
        clear HS H1
        go_wp2_with fail
        refine HK.out.mono ?_
        rintro e w1 ⟨rfl, gg⟩
        have X := Lib.hid (bel_trans hB.out gg); clear gg
        go_wp2
        go_roundw
        case rel => exact ⟨k + 1, by omega, by go_num, X, hs2⟩
        case measure => simp [intOf]; omega
      · obtain ⟨rfl, rfl⟩ := H1.out hF
        have dF : (E != 0) = true := by simpa using hF
        clear HS H1 h1 h2
        go_wp2_with fail
        refine HK.out.mono ?_
        rintro e w1 ⟨rfl, gg⟩
        have X := Lib.hid (bel_trans hB.out gg); clear gg
        go_wp2
        go_returns
        exact ⟨rfl, X.out⟩
    · obtain rfl : k = m + 1 := by omega
      obtain ⟨g1, g2, g3⟩ := h2.out ha.out
      have c0 := cell_bel (hc.out 0 (by omega)).1 hB.out
      have c1 := cell_bel (hc.out m (by omega)).1 hB.out
      have l1 : (m : Int) < (m : Int) + 1 := by omega
      have l2 : (0 : Int) < (m : Int) + 1 := by omega
      rw [Nat.zero_mul, Nat.add_zero] at c0
      clear h1 h2 hc ha
      generalize gX l 0 = x at *
      generalize gX l m = y at *
      by_cases e0 : x = 0
      · have dx : (x != 0) = false := by simp [e0]
        by_cases e1 : y = 10000
        · have dy : (y != 10000) = false := by simp [e1]
          obtain ⟨rfl, rfl⟩ := g3 e0 e1
          clear g1 g2 g3 e0 e1
          go_wp2
          go_returns
          exact ⟨rfl, hB.out⟩
        · have dy : (y != 10000) = true := by simpa using e1
          obtain ⟨rfl, rfl⟩ := g2 e0 e1
          clear g1 g2 g3 e0 e1
          go_wp2
          go_returns
          exact ⟨rfl, hB.out⟩
      · have dx : (x != 0) = true := by simpa using e0
        obtain ⟨rfl, rfl⟩ := g1 e0
        clear g1 g2 g3 e0
        go_wp2
        go_returns
        exact ⟨rfl, hB.out⟩
theorem dnChk_any (v : Value) (l : List (Int × Int)) (w : World) (hv : Pts w v l) :
    Calls Tryd.prog 12 #[v] w fun e w' => e = .returned (.tuple #[.int .i64 (dnI l), .int .i64 (dnE l)]) ∧ Below w.heap.size w w' := by
  obtain ⟨a, cap, rfl, hl, hh⟩ := hv
  by_cases h1 : 128 < l.length
  · have := dnChk_len a l.length cap 8 w (.inr ⟨h1, by omega, rfl⟩)
    rwa [show dnI l = -1 by unfold dnI; rw [if_pos h1], show dnE l = 8 by unfold dnE; rw [if_pos h1]]
  · by_cases h0 : l.length < 2
    · have := dnChk_len a l.length cap 9 w (.inl ⟨h0, rfl⟩)
      rwa [show dnI l = -1 by unfold dnI; rw [if_neg h1, if_pos h0], show dnE l = 9 by unfold dnE; rw [if_neg h1, if_pos h0]]
    · rcases hh with hh | ⟨b, off, rfl, hb, hc⟩
      · omega
      · have e : l.length - 1 + 1 = l.length := by omega
        have := dnChk_some b off (l.length - 1) cap l (dnI l) (dnE l) w (by omega) (by omega) hb (Lib.hid (by rw [e]; exact hc)) (Lib.hid fun k hk g1 g2 => ⟨(dnE_at (by omega) (by omega) (by omega) g1 g2).2, (dnE_at (by omega) (by omega) (by omega) g1 g2).1⟩) (Lib.hid fun g => dnE_ok (by omega) (by omega) (fun j hj => g j (by omega)))
        rwa [e] at this
end Go.Proofs.YtnoagfpffdalnaaDoor

/- The reference of layer 16: Check. -/
namespace Go.Proofs.YtnoagfpffdalnaaDoor
open Go.RowKit

set_option maxHeartbeats 4000000 in
theorem rnChk_len (a : Option Addr) (n cap : Nat) (V : Int) (w : World) (h : (n < 2 ∧ V = 9) ∨ (128 < n ∧ n ≤ 9223372036854775807 ∧ V = 8)) :
    Calls Tryd.prog 13 #[.slice a n cap] w fun e w' => e = .returned (.tuple #[.int .i64 (-1), .int .i64 V]) ∧ Below w.heap.size w w' := by
  rcases h with ⟨h, rfl⟩ | ⟨h, h2, rfl⟩
  all_goals
    go_enter Tryd.func13, Tryd.ntmps13
    go_wp2
    go_returns
    exact ⟨rfl, Below.refl _ _⟩
set_option maxHeartbeats 16000000 in
set_option maxRecDepth 100000 in
theorem rnChk_some (b off m cap : Nat) (l : List (Int × Int)) (I E : Int) (w : World) (n0 : 1 ≤ m) (n1 : m + 1 ≤ 128) (hb : b < w.heap.size)
    (hc : Hid (∀ j, j < m + 1 → w.cell? ⟨b, off + j * 2, none⟩ = some (.int .i64 (gX l j)) ∧ w.cell? ⟨b, off + j * 2 + 1, none⟩ = some (.int .i64 (gR l j))))
    (h1 : Hid (∀ k, k < m + 1 → (∀ j, j < k → dnF l j = 0) → dnF l k ≠ 0 → I = k ∧ E = dnF l k))
    (h2 : Hid ((∀ j, j < m + 1 → dnF l j = 0) → (gX l 0 ≠ 0 → E = 10 ∧ I = 0) ∧ (gX l 0 = 0 → gX l m ≠ 10000 → E = 10 ∧ I = (m : Int)) ∧ (gX l 0 = 0 → gX l m = 10000 → E = 0 ∧ I = -1))) :
    Calls Tryd.prog 13 #[.slice (some ⟨b, off, none⟩) (m + 1) cap] w fun e w' => e = .returned (.tuple #[.int .i64 I, .int .i64 E]) ∧ Below w.heap.size w w' := by
  have d8 : decide (128 < (m : Int) + 1) = false := decide_eq_false (by omega)
  have d9 : decide ((m : Int) + 1 < 2) = false := decide_eq_false (by omega)
  have wm : IntKind.i64.wrap ((m : Int) + 1 - 1) = (m : Int) := by rw [wrap_in _ ⟨by omega, by omega⟩]; omega
  have wm2 : IntKind.i64.wrap (m : Int) = (m : Int) := wrap_in _ ⟨by omega, by omega⟩
  go_enter Tryd.func13, Tryd.ntmps13
  go_wp2_with fail
  go_loopw [4] (fun ii wr => ∃ k : Nat, k ≤ m + 1 ∧ ii = .int .i64 (k : Int) ∧ Hid (Below w.heap.size w wr) ∧ Hid (∀ j, j < k → dnF l j = 0)) (fun ii _ => m + 1 - (intOf ii).toNat)
  case atStart => exact ⟨0, Nat.zero_le _, rfl, Below.refl _ _, fun j hj => by omega⟩
  case round =>
    obtain ⟨k, hk, rfl, hB, ha⟩ := hrel
    by_cases hlt : k < m + 1
    · have bb : b < wr.heap.size := Nat.lt_of_lt_of_le hb hB.out.size
      have l0 : (k : Int) < (m : Int) + 1 := by omega
      have l00 : (k : Int) < ((m + 1 : Nat) : Int) := by omega
      have H1 := Lib.hid (h1.out k hlt ha.out)
      have HS : Hid (dnF l k = 0 → ∀ j, j < k + 1 → dnF l j = 0) := fun h j hj => by
        by_cases e : j = k
        · rw [e]; exact h
        · exact ha.out j (by omega)
      have c0 := cell_bel (hc.out k hlt).1 hB.out
      have c1 := cell_bel (hc.out k hlt).2 hB.out
      have cp : Hid (k ≠ 0 → wr.cell? ⟨b, off + (k - 1) * 2, none⟩ = some (.int .i64 (gX l (k - 1))) ∧ wr.cell? ⟨b, off + (k - 1) * 2 + 1, none⟩ = some (.int .i64 (gR l (k - 1)))) := fun hk0 => ⟨cell_bel (hc.out (k - 1) (by omega)).1 hB.out, cell_bel (hc.out (k - 1) (by omega)).2 hB.out⟩
      have HF : Hid (dnF l k = if outB (gX l k) (gR l k) = true then 2 else if k ≠ 0 ∧ gX l k ≤ gX l (k - 1) then 5 else if k ≠ 0 ∧ gR l (k - 1) < gR l k then 18 else 0) := Lib.hid rfl
      have hE : Hid (outB (gX l k) (gR l k) = (decide (gX l k < 0) || decide (10000 < gX l k) || decide (gR l k < 50000) || decide (120000 < gR l k))) := Lib.hid rfl
      generalize dnF l k = F at *
      generalize gX l k = x at *
      generalize gR l k = r at *
      generalize gX l (k - 1) = y at *
      generalize gR l (k - 1) = s at *
      cases ho : outB x r with
      | true =>
        rw [ho] at hE HF
        have e : F = 2 := HF.out
        obtain ⟨rfl, rfl⟩ := H1.out (by rw [e]; simp)
        subst e
        have hD : (decide (x < 0) = true) ∨ (decide (x < 0) = false ∧ decide (10000 < x) = true) ∨ (decide (x < 0) = false ∧ decide (10000 < x) = false ∧ decide (r < 50000) = true) ∨ (decide (x < 0) = false ∧ decide (10000 < x) = false ∧ decide (r < 50000) = false ∧ decide (120000 < r) = true) := by
          have := hE.out
          revert this
          cases decide (x < 0) <;> cases decide (10000 < x) <;> cases decide (r < 50000) <;> cases decide (120000 < r) <;> simp
        clear ho HF HS H1 h1 h2 hE cp
        rcases hD with d1 | ⟨d1, d2⟩ | ⟨d1, d2, d3⟩ | ⟨d1, d2, d3, d4⟩
        all_goals
          go_wp2
          go_returns
          exact ⟨rfl, hB.out⟩
      | false =>
        rw [ho] at hE HF
        have hD : decide (x < 0) = false ∧ decide (10000 < x) = false ∧ decide (r < 50000) = false ∧ decide (120000 < r) = false := by
          have := hE.out
          revert this
          cases decide (x < 0) <;> cases decide (10000 < x) <;> cases decide (r < 50000) <;> cases decide (120000 < r) <;> simp
        obtain ⟨d1, d2, d3, d4⟩ := hD
        clear hE ho
        by_cases k0 : k = 0
        · have e : F = 0 := by rw [HF.out]; simp [k0]
          have hs2 := Lib.hid (HS.out e)
          have dk : decide (0 < (k : Int)) = false := decide_eq_false (by omega)
          have dk2 : decide (0 < k) = false := decide_eq_false (by omega)
          have dk3 : ¬ 0 < k := by omega
          replace k0 := Lib.hid k0
          clear HF HS H1 e cp
          go_wp2_with fail
          go_quiet (fail)
          go_wp2_with fail
          go_quiet (fail)
          go_wp2
          go_roundw
          case rel => exact ⟨k + 1, by omega, by go_num, bel_trans hB.out (by first | exact bel_drewN _ _ | exact bel_drew2 _ _ _), hs2⟩
          case measure => simp [intOf]; omega
        · have dk : decide (0 < (k : Int)) = true := decide_eq_true (by omega)
          obtain ⟨q, rfl⟩ : ∃ q, k = q + 1 := ⟨k - 1, by omega⟩
          have w1' : IntKind.i64.wrap (((q + 1 : Nat) : Int) - 1) = (q : Int) := by rw [wrap_in _ ⟨by omega, by omega⟩]; omega
          have w2 : IntKind.i64.wrap ((q : Int) + 1 - 1) = (q : Int) := by rw [wrap_in _ ⟨by omega, by omega⟩]; omega
          have w3 : IntKind.i64.wrap (q : Int) = (q : Int) := wrap_in _ ⟨by omega, by omega⟩
          have l1 : (q : Int) < (m : Int) + 1 := by omega
          obtain ⟨q0, q1⟩ := cp.out (by omega)
          rw [show q + 1 - 1 = q by omega] at q0 q1
          clear cp
          by_cases hxy : x ≤ y
          · have e : F = 5 := by rw [HF.out]; simp [hxy]
            obtain ⟨rfl, rfl⟩ := H1.out (by rw [e]; simp)
            subst e
            have dxy : decide (x ≤ y) = true := decide_eq_true hxy
            clear HF HS H1 h1 h2
            go_wp2_with fail
            go_quiet (fail)
            go_wp2
            go_returns
            exact ⟨rfl, bel_trans hB.out (by first | exact bel_drewN _ _ | exact bel_drew2 _ _ _)⟩
          · have dxy : decide (x ≤ y) = false := decide_eq_false hxy
            by_cases hrs : s < r
            · have e : F = 18 := by rw [HF.out]; simp [hxy, hrs]
              obtain ⟨rfl, rfl⟩ := H1.out (by rw [e]; simp)
              subst e
              have drs : decide (s < r) = true := decide_eq_true hrs
              clear HF HS H1 h1 h2
              go_wp2_with fail
              go_quiet (fail)
              go_wp2_with fail
              go_quiet (fail)
              go_wp2
              go_returns
              exact ⟨rfl, bel_trans hB.out (by first | exact bel_drewN _ _ | exact bel_drew2 _ _ _)⟩
            · have e : F = 0 := by rw [HF.out]; simp [hxy, hrs]
              have hs2 := Lib.hid (HS.out e)
              have drs : decide (s < r) = false := decide_eq_false hrs
              clear HF HS H1 e
              go_wp2_with fail
              go_quiet (fail)
              go_wp2_with fail
              go_quiet (fail)
              go_wp2
              go_roundw
              case rel => exact ⟨q + 1 + 1, by omega, by go_num, bel_trans hB.out (by first | exact bel_drewN _ _ | exact bel_drew2 _ _ _), hs2⟩
              case measure => simp [intOf]; omega
    · obtain rfl : k = m + 1 := by omega
      obtain ⟨g1, g2, g3⟩ := h2.out ha.out
      have c0 := cell_bel (hc.out 0 (by omega)).1 hB.out
      have c1 := cell_bel (hc.out m (by omega)).1 hB.out
      have l1 : (m : Int) < (m : Int) + 1 := by omega
      have l2 : (0 : Int) < (m : Int) + 1 := by omega
      rw [Nat.zero_mul, Nat.add_zero] at c0
      clear h1 h2 hc ha
      generalize gX l 0 = x at *
      generalize gX l m = y at *
      by_cases e0 : x = 0
      · have dx : (x != 0) = false := by simp [e0]
        by_cases e1 : y = 10000
        · have dy : (y != 10000) = false := by simp [e1]
          obtain ⟨rfl, rfl⟩ := g3 e0 e1
          clear g1 g2 g3 e0 e1
          go_wp2
          go_returns
          exact ⟨rfl, hB.out⟩
        · have dy : (y != 10000) = true := by simpa using e1
          obtain ⟨rfl, rfl⟩ := g2 e0 e1
          clear g1 g2 g3 e0 e1
          go_wp2
          go_returns
          exact ⟨rfl, hB.out⟩
      · have dx : (x != 0) = true := by simpa using e0
        obtain ⟨rfl, rfl⟩ := g1 e0
        clear g1 g2 g3 e0
        go_wp2
        go_returns
        exact ⟨rfl, hB.out⟩
theorem rnChk_any (v : Value) (l : List (Int × Int)) (w : World) (hv : Pts w v l) :
    Calls Tryd.prog 13 #[v] w fun e w' => e = .returned (.tuple #[.int .i64 (dnI l), .int .i64 (dnE l)]) ∧ Below w.heap.size w w' := by
  obtain ⟨a, cap, rfl, hl, hh⟩ := hv
  by_cases h1 : 128 < l.length
  · have := rnChk_len a l.length cap 8 w (.inr ⟨h1, by omega, rfl⟩)
    rwa [show dnI l = -1 by unfold dnI; rw [if_pos h1], show dnE l = 8 by unfold dnE; rw [if_pos h1]]
  · by_cases h0 : l.length < 2
    · have := rnChk_len a l.length cap 9 w (.inl ⟨h0, rfl⟩)
      rwa [show dnI l = -1 by unfold dnI; rw [if_neg h1, if_pos h0], show dnE l = 9 by unfold dnE; rw [if_neg h1, if_pos h0]]
    · rcases hh with hh | ⟨b, off, rfl, hb, hc⟩
      · omega
      · have e : l.length - 1 + 1 = l.length := by omega
        have := rnChk_some b off (l.length - 1) cap l (dnI l) (dnE l) w (by omega) (by omega) hb (Lib.hid (by rw [e]; exact hc)) (Lib.hid fun k hk g1 g2 => ⟨(dnE_at (by omega) (by omega) (by omega) g1 g2).2, (dnE_at (by omega) (by omega) (by omega) g1 g2).1⟩) (Lib.hid fun g => dnE_ok (by omega) (by omega) (fun j hj => g j (by omega)))
        rwa [e] at this
end Go.Proofs.YtnoagfpffdalnaaDoor

/- Package density: reach, Find; the reference's Find. -/
namespace Go.Proofs.YtnoagfpffdalnaaDoor
open Go.RowKit

set_option maxHeartbeats 8000000 in
set_option maxRecDepth 100000 in
theorem search_bel (g : Nat) (cb : Array Value) (n : Nat) (p : Nat → Bool) (w : World) (eg : ∀ args w, (callFunc g args).run Tryd.prog w = .ok (.enter g args) w) (hsz : n ≤ 1000000)
    (hf : Hid (∀ (i : Nat) W, i < n → Below w.heap.size w W → Calls Tryd.prog g (#[.int .i64 i] ++ cb) W fun e w' => e = .returned (.bool (p i)) ∧ Below W.heap.size W w'))
    (hm : Hid (∀ a b, a ≤ b → b < n → p a = true → p b = true)) :
    Calls Tryd.prog 52 #[.int .i64 n, .func (.func g) #[] cb] w fun e w' => e = .returned (.int .i64 (fst p n : Nat)) ∧ Below w.heap.size w w' := by
  go_enter Tryd.func52, Tryd.ntmps52
  go_wp2_with fail
  go_loopw [5, 6] (fun s5 s6 wr => ∃ lo hi : Nat, s5 = .int .i64 lo ∧ s6 = .int .i64 hi ∧ lo ≤ hi ∧ hi ≤ n ∧ Hid (Below w.heap.size w wr) ∧ Hid ((∀ t, t < lo → p t = false) ∧ (∀ t, hi ≤ t → t < n → p t = true))) (fun s5 s6 _ => (intOf s6).toNat - (intOf s5).toNat)
  case atStart => exact ⟨0, n, rfl, rfl, Nat.zero_le _, Nat.le_refl _, Below.refl _ _, ⟨fun t ht => absurd ht (Nat.not_lt_zero _), fun t h1 h2 => by omega⟩⟩
  case round =>
    obtain ⟨lo, hi, rfl, rfl, hlh, hin, hB, I⟩ := hrel
    by_cases hlt : lo < hi
    · have hc := hf.out ((lo + hi) / 2)
      have HM := Lib.hid (fun t (h1 : (lo + hi) / 2 ≤ t) (h2 : t < n) (h3 : p ((lo + hi) / 2) = true) => hm.out ((lo + hi) / 2) t h1 h2 h3)
      have HN := Lib.hid (fun t (h1 : t ≤ (lo + hi) / 2) (h3 : p ((lo + hi) / 2) = false) => show p t = false by
        cases hp : p t with
        | false => rfl
        | true => rw [hm.out t ((lo + hi) / 2) h1 (by omega) hp] at h3; cases h3)
      rw [show (((lo + hi) / 2 : Nat) : Int) = ((lo : Int) + (hi : Int)) / 2 by omega] at hc
      have HC := Lib.hid (fun W hW => hc W (by omega) hW)
      clear hc
      have l0 : (lo : Int) < (hi : Int) := by omega
      have m1 : (lo + hi) / 2 < hi := by omega
      have m2 : lo ≤ (lo + hi) / 2 := by omega
      have me : ((lo : Int) + (hi : Int)) / 2 = (((lo + hi) / 2 : Nat) : Int) := by omega
      replace me := Lib.hid me
      cases hp : p ((lo + hi) / 2) with
      | false =>
        rw [hp] at HC
        replace hp := Lib.hid hp
        go_wp2_with fail
        refine (HC.out _ hB.out).mono ?_
        rintro e w2 ⟨rfl, gg⟩
        have X := Lib.hid (bel_trans hB.out gg); clear gg
        go_wp2
        go_roundw
        case rel => exact ⟨(lo + hi) / 2 + 1, hi, by rw [me.out]; go_num, rfl, by omega, hin, X, ⟨fun t ht => HN.out t (by omega) hp.out, I.out.2⟩⟩
        case measure => simp [intOf]; omega
      | true =>
        rw [hp] at HC
        replace hp := Lib.hid hp
        go_wp2_with fail
        refine (HC.out _ hB.out).mono ?_
        rintro e w2 ⟨rfl, gg⟩
        have X := Lib.hid (bel_trans hB.out gg); clear gg
        go_wp2
        go_roundw
        case rel => exact ⟨lo, (lo + hi) / 2, rfl, by rw [me.out], m2, by omega, X, ⟨I.out.1, fun t h1 h2 => HM.out t h1 h2 hp.out⟩⟩
        case measure => simp [intOf]; omega
    · obtain rfl : lo = hi := by omega
      have e : fst p n = lo := fst_is hin I.out.1 (fun h => I.out.2 lo (Nat.le_refl _) h)
      replace e := Lib.hid e
      go_wp2
      go_returns
      exact ⟨by show Ending.returned (.int .i64 (lo : Int)) = _; rw [e.out], hB.out⟩
set_option maxHeartbeats 4000000 in
theorem dnR1_any (i q1 q2 b off n cap : Nat) (x : Int) (l : List (Int × Int)) (w : World) (hi : i < n) (n1 : n ≤ 1000) (c1 : w.cell? ⟨q1, 0, none⟩ = some (.slice (some ⟨b, off, none⟩) n cap)) (c2 : w.cell? ⟨q2, 0, none⟩ = some (.int .i64 x))
    (c3 : w.cell? ⟨b, off + i * 2, none⟩ = some (.int .i64 (gX l i))) :
    Calls Tryd.prog 53 #[.int .i64 i, .pointer (some ⟨q1, 0, none⟩), .pointer (some ⟨q2, 0, none⟩)] w fun e w' => e = .returned (.bool (decide (x ≤ gX l i))) ∧ Below w.heap.size w w' := by
  have l0 : (i : Int) < (n : Int) := by omega
  have X1 : Hid (∀ m, Below w.heap.size w (w.drewN m)) := Lib.hid fun m => ⟨rfl, rfl, rfl, Nat.le_refl _, fun i hi => rfl⟩
  generalize gX l i = y at *
  go_enter Tryd.func53, Tryd.ntmps53
  go_wp2_with fail
  go_quiet (fail)
  go_wp2
  go_returns
  exact ⟨rfl, X1.out _⟩
theorem bxd_below {W W' : World} {b : Nat} {t : TypeId} {v : Value} (h : Boxed W b t v) (hb : Below W.heap.size W W') : Boxed W' b t v := by
  show W'.heap[b]? = _
  rw [hb.block _ h.lt]
  exact h
/-- the first row whose strength is at least a number -/
def rcN (l : List (Int × Int)) (x : Int) : Nat := fst (fun i => decide (x ≤ gX l i)) l.length
theorem DR.chain {l : List (Int × Int)} (h : DR l) (j : Nat) : ∀ i : Nat, j < i → i < l.length → gX l j < gX l i ∧ gR l i ≤ gR l j
  | 0, h1, _ => by omega
  | i + 1, h1, h2 => by
    have a := h.asc i h2
    have b := h.down i h2
    by_cases e : j = i
    · subst e; exact ⟨a, b⟩
    · obtain ⟨c, d⟩ := DR.chain h j i (by omega) (by omega)
      exact ⟨by omega, by omega⟩
theorem DR.le {l : List (Int × Int)} (h : DR l) {j i : Nat} (hj : j ≤ i) (hi : i < l.length) : gX l j ≤ gX l i := by
  by_cases e : j = i
  · rw [e]; exact Int.le_refl _
  · exact Int.le_of_lt (h.chain j i (by omega) hi).1
theorem rcN_spec {l : List (Int × Int)} (h : DR l) (x : Int) : rcN l x ≤ l.length ∧ (∀ j, j < rcN l x → gX l j < x) ∧ ∀ j, rcN l x ≤ j → j < l.length → x ≤ gX l j := by
  obtain ⟨s1, s2⟩ := fst_spec (fun i => decide (x ≤ gX l i)) l.length
  have le := fst_le (fun i => decide (x ≤ gX l i)) l.length
  refine ⟨le, fun j hj => ?_, fun j h1 h2 => ?_⟩
  · have := of_decide_eq_false (s1 j hj); omega
  · have a := of_decide_eq_true (s2 (by unfold rcN at h1; omega))
    have := h.le h1 h2
    unfold rcN at *
    omega
set_option maxHeartbeats 8000000 in
set_option maxRecDepth 100000 in
theorem dnRc_any (v : Value) (l : List (Int × Int)) (x : Int) (w : World) (hv : Pts w v l) (h : DR l) :
    Calls Tryd.prog 35 #[v, .int .i64 x] w fun e w' => e = .returned (.int .i64 (rcN l x : Nat)) ∧ Below w.heap.size w w' := by
  have n0 := h.n0
  have n1 := h.n1
  obtain ⟨a, cap, rfl, hl, hh⟩ := hv
  rcases hh with hh | ⟨b, off, rfl, hb, hc⟩
  · omega
  have hmf : ∀ (fn : Fn) (first cap : Array Value) (w : World), (Instr.makeFunc fn first cap).run Tryd.prog w = .ok (.func fn first cap) w := fun _ _ _ _ => rfl
  have HS : Hid (∀ W q1 q2, Below w.heap.size w W → Boxed W q1 22 (.slice (some ⟨b, off, none⟩) l.length cap) → Boxed W q2 3 (.int .i64 x) → Calls Tryd.prog 52 #[.int .i64 l.length, .func (.func 53) #[] #[.pointer (some ⟨q1, 0, none⟩), .pointer (some ⟨q2, 0, none⟩)]] W fun e w' => e = .returned (.int .i64 (rcN l x : Nat)) ∧ Below W.heap.size W w') := Lib.hid fun W q1 q2 hW h1 h2 =>
    search_bel 53 #[.pointer (some ⟨q1, 0, none⟩), .pointer (some ⟨q2, 0, none⟩)] l.length (fun i => decide (x ≤ gX l i)) W (enters_of Tryd.func53 (by kernel_rfl) rfl) (by omega)
      (Lib.hid fun i W2 hi hW2 => dnR1_any i q1 q2 b off l.length cap x l W2 hi (by omega) (cell_bel h1.cell hW2) (cell_bel h2.cell hW2) (cell_bel (cell_bel (hc i hi).1 hW) hW2))
      (Lib.hid fun i j hij hj hp => by
        have := of_decide_eq_true hp
        have := h.le hij hj
        exact decide_eq_true (by omega))
  have B0 := Lib.hid ((Boxed.new w 22 (.slice (some ⟨b, off, none⟩) l.length cap)).alloc (.cells #[.int .i64 x] 3))
  have B1 : Hid (Boxed ((w.alloc (.cells #[.slice (some ⟨b, off, none⟩) l.length cap] 22)).alloc (.cells #[.int .i64 x] 3)) (w.heap.size + 1) 3 (.int .i64 x)) := Lib.hid (by
    have := Boxed.new (w.alloc (.cells #[.slice (some ⟨b, off, none⟩) l.length cap] 22)) 3 (.int .i64 x)
    rwa [World.size_alloc] at this)
  have X0 : Hid (Below w.heap.size w ((w.alloc (.cells #[.slice (some ⟨b, off, none⟩) l.length cap] 22)).alloc (.cells #[.int .i64 x] 3))) := Lib.hid (bel_alloc (bel_alloc (Below.refl _ _)))
  have c0 := B0.out.cell
  clear hc
  generalize rcN l x = k at *
  generalize l.length = n at *
  go_enter Tryd.func35, Tryd.ntmps35
  go_wp2_with fail
  refine (HS.out _ _ _ X0.out B0.out B1.out).mono ?_
  rintro e w1 ⟨rfl, gg⟩
  have X1 := Lib.hid (bel_trans X0.out gg); clear gg
  go_wp2
  go_returns
  exact ⟨rfl, X1.out⟩
theorem dnSt_any (x : Int) (w : World) :
    Calls Tryd.prog 34 #[.int .i64 x] w fun e w' => e = .returned (.bool (decide (0 ≤ x ∧ x ≤ 10000))) ∧ w' = w := by
  by_cases h0 : 0 ≤ x
  · have d0 : decide (0 ≤ x) = true := decide_eq_true h0
    have e : decide (0 ≤ x ∧ x ≤ 10000) = decide (x ≤ 10000) := by rw [Bool.eq_iff_iff, decide_eq_true_eq, decide_eq_true_eq]; omega
    rw [e]
    go_enter Tryd.func34, Tryd.ntmps34
    go_wp2
    go_returns
    exact ⟨rfl, rfl⟩
  · have d0 : decide (0 ≤ x) = false := decide_eq_false h0
    have e : decide (0 ≤ x ∧ x ≤ 10000) = false := decide_eq_false (by omega)
    rw [e]
    go_enter Tryd.func34, Tryd.ntmps34
    go_wp2
    go_returns
    exact ⟨rfl, rfl⟩
theorem dnRt_any (v : Value) (l : List (Int × Int)) (w : World) (hv : Pts w v l) :
    Calls Tryd.prog 33 #[v] w fun e w' => e = .returned (.bool (dnE l == 0)) ∧ Below w.heap.size w w' := by
  have H := Lib.hid (dnChk_any v l w hv)
  generalize dnI l = I at *
  generalize dnE l = E at *
  go_enter Tryd.func33, Tryd.ntmps33
  go_wp2_with fail
  refine H.out.mono ?_
  rintro e w1 ⟨rfl, gg⟩
  have X := Lib.hid gg; clear gg
  go_wp2
  go_returns
  exact ⟨rfl, X.out⟩
theorem rnRt_any (v : Value) (l : List (Int × Int)) (w : World) (hv : Pts w v l) :
    Calls Tryd.prog 36 #[v] w fun e w' => e = .returned (.bool (dnE l == 0)) ∧ Below w.heap.size w w' := by
  have H := Lib.hid (rnChk_any v l w hv)
  generalize dnI l = I at *
  generalize dnE l = E at *
  go_enter Tryd.func36, Tryd.ntmps36
  go_wp2_with fail
  refine H.out.mono ?_
  rintro e w1 ⟨rfl, gg⟩
  have X := Lib.hid gg; clear gg
  go_wp2
  go_returns
  exact ⟨rfl, X.out⟩
def fnE (l : List (Int × Int)) (s : Int) : Int := if dnE l ≠ 0 then 1 else if 0 ≤ s ∧ s ≤ 10000 then 0 else 2
def fnI (l : List (Int × Int)) (s : Int) : Int := if fnE l s = 0 then (rcN l (s + 1) : Int) - 1 else 0
theorem rcN_pos {l : List (Int × Int)} (h : DR l) {s : Int} (hs : 0 ≤ s) : 1 ≤ rcN l (s + 1) := by
  obtain ⟨h1, h2, h3⟩ := rcN_spec h (s + 1)
  have n0 := h.n0
  have z := h.z
  rcases Nat.eq_zero_or_pos (rcN l (s + 1)) with e | e
  · have := h3 0 (by omega) (by omega); omega
  · exact e
set_option maxHeartbeats 8000000 in
theorem dnFn_any (v : Value) (l : List (Int × Int)) (s : Int) (w : World) (hv : Pts w v l) :
    Calls Tryd.prog 14 #[v, .int .i64 s] w fun e w' => e = .returned (.tuple #[.int .i64 (fnI l s), .int .i64 (fnE l s)]) ∧ Below w.heap.size w w' := by
  have HR := Lib.hid (dnRt_any v l w hv)
  have HS := Lib.hid (fun W => dnSt_any s W)
  by_cases he : dnE l = 0
  · have hD := dnE_zero.1 he
    rw [show (dnE l == 0) = true by simpa using he] at HR
    by_cases hs : 0 ≤ s ∧ s ≤ 10000
    · have HC := Lib.hid (fun W (hW : Below w.heap.size w W) => dnRc_any v l (s + 1) W (hv.below hW) hD)
      have e1 : fnE l s = 0 := by unfold fnE; rw [if_neg (by omega), if_pos hs]
      have e2 : fnI l s = (rcN l (s + 1) : Int) - 1 := by unfold fnI; rw [if_pos e1]
      have p1 := rcN_pos hD hs.1
      have p2 := (rcN_spec hD (s + 1)).1
      have n1 := hD.n1
      rw [e1, e2]
      rw [decide_eq_true hs] at HS
      have w1 : IntKind.i64.wrap (s + 1) = s + 1 := wrap_in _ ⟨by omega, by omega⟩
      generalize rcN l (s + 1) = k at *
      have w2 : IntKind.i64.wrap ((k : Int) - 1) = (k : Int) - 1 := wrap_in _ ⟨by omega, by omega⟩
      clear e1 e2 p1 p2 he hD
      go_enter Tryd.func14, Tryd.ntmps14
      go_wp2_with fail
      refine HR.out.mono ?_
      rintro e w1 ⟨rfl, gg⟩
      have X := Lib.hid gg; clear gg
      go_wp2_with fail
      refine (HS.out _).mono ?_
      rintro e w2 ⟨rfl, rfl⟩
      go_wp2_with fail
      refine (HC.out _ X.out).mono ?_
      rintro e w3 ⟨rfl, gg⟩
      have X2 := Lib.hid (bel_trans X.out gg); clear gg
      go_wp2
      go_returns
      exact ⟨rfl, X2.out⟩
    · have e1 : fnE l s = 2 := by unfold fnE; rw [if_neg (by omega), if_neg hs]
      have e2 : fnI l s = 0 := by unfold fnI; rw [if_neg (by omega)]
      rw [e1, e2]
      rw [decide_eq_false hs] at HS
      go_enter Tryd.func14, Tryd.ntmps14
      go_wp2_with fail
      refine HR.out.mono ?_
      rintro e w1 ⟨rfl, gg⟩
      have X := Lib.hid gg; clear gg
      go_wp2_with fail
      refine (HS.out _).mono ?_
      rintro e w2 ⟨rfl, rfl⟩
      go_wp2
      go_returns
      exact ⟨rfl, X.out⟩
  · have e1 : fnE l s = 1 := by unfold fnE; rw [if_pos he]
    have e2 : fnI l s = 0 := by unfold fnI; rw [if_neg (by omega)]
    rw [e1, e2]
    rw [show (dnE l == 0) = false by simpa using he] at HR
    go_enter Tryd.func14, Tryd.ntmps14
    go_wp2_with fail
    refine HR.out.mono ?_
    rintro e w1 ⟨rfl, gg⟩
    have X := Lib.hid gg; clear gg
    go_wp2
    go_returns
    exact ⟨rfl, X.out⟩
end Go.Proofs.YtnoagfpffdalnaaDoor

/- Plain facts of layer 18: the density at a strength. No program stands in the facts of this text. -/
namespace Go.Proofs.YtnoagfpffdalnaaDoor

/-- the density between two rows -/
def btD (x0 r0 x1 r1 s : Int) : Int := r1 + (2 * (r0 - r1) * (x1 - s) + (x1 - x0)) / (2 * (x1 - x0))
theorem half_bd {D E L : Int} (hD : 0 ≤ D) (hE : 0 ≤ E) (hL : 0 < L) (hEL : E ≤ L) : 0 ≤ (2 * D * E + L) / (2 * L) ∧ (2 * D * E + L) / (2 * L) ≤ D := by
  have P : 0 ≤ D * E := Int.mul_nonneg hD hE
  have Q : D * E ≤ D * L := Int.mul_le_mul_of_nonneg_left hEL hD
  have e1 : 2 * D * E = 2 * (D * E) := by rw [Int.mul_assoc]
  rw [e1]
  constructor
  · exact Int.ediv_nonneg (by omega) (by omega)
  · have : (2 * (D * E) + L) / (2 * L) < D + 1 := by
      rw [Int.ediv_lt_iff_lt_mul (by omega)]
      have e2 : (D + 1) * (2 * L) = 2 * (D * L) + 2 * L := by rw [Int.add_mul, Int.one_mul, ← Int.mul_assoc, Int.mul_comm D 2, Int.mul_assoc]
      rw [e2]; omega
    omega
theorem btD_bd {x0 r0 x1 r1 s : Int} (h0 : x0 < x1) (h1 : x0 ≤ s) (h2 : s ≤ x1) (h3 : r1 ≤ r0) : r1 ≤ btD x0 r0 x1 r1 s ∧ btD x0 r0 x1 r1 s ≤ r0 := by
  unfold btD
  obtain ⟨a, b⟩ := half_bd (D := r0 - r1) (E := x1 - s) (L := x1 - x0) (by omega) (by omega) (by omega) (by omega)
  omega
theorem btD_anti {x0 r0 x1 r1 s t : Int} (h0 : x0 < x1) (h3 : r1 ≤ r0) (h : s ≤ t) : btD x0 r0 x1 r1 t ≤ btD x0 r0 x1 r1 s := by
  unfold btD
  have Q : (r0 - r1) * (x1 - t) ≤ (r0 - r1) * (x1 - s) := Int.mul_le_mul_of_nonneg_left (by omega) (by omega)
  have : (2 * (r0 - r1) * (x1 - t) + (x1 - x0)) / (2 * (x1 - x0)) ≤ (2 * (r0 - r1) * (x1 - s) + (x1 - x0)) / (2 * (x1 - x0)) := by
    refine Int.ediv_le_ediv (by omega) ?_
    rw [Int.mul_assoc, Int.mul_assoc]; omega
  omega
theorem btD_hi {x0 r0 x1 r1 : Int} (h0 : x0 < x1) : btD x0 r0 x1 r1 x1 = r1 := by
  unfold btD
  rw [Int.sub_self, Int.mul_zero, Int.zero_add, Int.ediv_eq_zero_of_lt (by omega) (by omega), Int.add_zero]
theorem btD_lo {x0 r0 x1 r1 : Int} (h0 : x0 < x1) : btD x0 r0 x1 r1 x0 = r0 := by
  unfold btD
  have e : 2 * (r0 - r1) * (x1 - x0) + (x1 - x0) = (x1 - x0) + (2 * (x1 - x0)) * (r0 - r1) := by
    rw [Int.add_comm, Int.mul_assoc, Int.mul_comm (r0 - r1), ← Int.mul_assoc]
  rw [e, Int.add_mul_ediv_left _ _ (by omega), Int.ediv_eq_zero_of_lt (by omega) (by omega)]
  omega
/-- the same from the row before -/
theorem btD_line {x0 r0 x1 r1 s : Int} (h0 : x0 < x1) : (2 * (r0 * (x1 - x0) + (r1 - r0) * (s - x0)) + (x1 - x0)) / (2 * (x1 - x0)) = btD x0 r0 x1 r1 s := by
  unfold btD
  have e : 2 * (r0 * (x1 - x0) + (r1 - r0) * (s - x0)) + (x1 - x0) = (2 * (r0 - r1) * (x1 - s) + (x1 - x0)) + (2 * (x1 - x0)) * r1 := by grind
  rw [e, Int.add_mul_ediv_left _ _ (by omega)]
  omega

/-- the index of the row behind a strength, and the density at it -/
def atI (l : List (Int × Int)) (s : Int) : Nat := 1 + fst (fun i => decide (s ≤ gX l (i + 1))) (l.length - 2)
def atD (l : List (Int × Int)) (s : Int) : Int := btD (gX l (atI l s - 1)) (gR l (atI l s - 1)) (gX l (atI l s)) (gR l (atI l s)) s
theorem atI_spec {l : List (Int × Int)} (h : DR l) {s : Int} (h0 : 0 ≤ s) (h1 : s ≤ 10000) :
    1 ≤ atI l s ∧ atI l s < l.length ∧ gX l (atI l s - 1) ≤ s ∧ s ≤ gX l (atI l s) := by
  have n0 := h.n0
  have z := h.z
  have t := h.t
  obtain ⟨s1, s2⟩ := fst_spec (fun i => decide (s ≤ gX l (i + 1))) (l.length - 2)
  have le := fst_le (fun i => decide (s ≤ gX l (i + 1))) (l.length - 2)
  unfold atI
  generalize fst (fun i => decide (s ≤ gX l (i + 1))) (l.length - 2) = k at *
  refine ⟨by omega, by omega, ?_, ?_⟩
  · rw [show 1 + k - 1 = k by omega]
    rcases k with _ | k
    · rw [z]; exact h0
    · have := of_decide_eq_false (s1 k (by omega)); omega
  · by_cases hk : k < l.length - 2
    · have := of_decide_eq_true (s2 hk)
      rwa [Nat.add_comm] at this
    · rw [show 1 + k = l.length - 1 by omega, t]; exact h1
theorem DR.lt {l : List (Int × Int)} (h : DR l) {j i : Nat} (hj : j < i) (hi : i < l.length) : gX l j < gX l i := (h.chain j i hj hi).1
theorem DR.ge {l : List (Int × Int)} (h : DR l) {j i : Nat} (hj : j ≤ i) (hi : i < l.length) : gR l i ≤ gR l j := by
  by_cases e : j = i
  · rw [e]; exact Int.le_refl _
  · exact (h.chain j i (by omega) hi).2
/-- between any two neighbours that enclose the strength -/
theorem atD_eq {l : List (Int × Int)} (h : DR l) {s : Int} {k : Nat} (hk : k + 1 < l.length) (h1 : gX l k ≤ s) (h2 : s ≤ gX l (k + 1)) : atD l s = btD (gX l k) (gR l k) (gX l (k + 1)) (gR l (k + 1)) s := by
  have b1 := (h.b k (by omega)).1
  have b2 := (h.b (k + 1) hk).2.1
  obtain ⟨i1, i2, i3, i4⟩ := atI_spec h (s := s) (by omega) (by omega)
  unfold atD
  generalize atI l s = i at *
  obtain ⟨i, rfl⟩ : ∃ j, i = j + 1 := ⟨i - 1, by omega⟩
  rw [show i + 1 - 1 = i by omega] at *
  rcases Nat.lt_trichotomy i k with c | c | c
  · have := h.le (show i + 1 ≤ k by omega) (by omega)
    have e : s = gX l (i + 1) := by omega
    have e2 : i + 1 = k := by
      rcases Nat.lt_or_ge (i + 1) k with g | g
      · have := h.lt g (by omega); omega
      · omega
    rw [e, btD_hi (h.lt (by omega) (by omega)), e2, btD_lo (h.lt (by omega) (by omega))]
  · rw [c]
  · have := h.le (show k + 1 ≤ i by omega) (by omega)
    have e : s = gX l i := by omega
    have e2 : k + 1 = i := by
      rcases Nat.lt_or_ge (k + 1) i with g | g
      · have := h.lt g (by omega); omega
      · omega
    rw [e, btD_lo (h.lt (by omega) (by omega)), ← e2, btD_hi (h.lt (by omega) (by omega))]
theorem atD_row {l : List (Int × Int)} (h : DR l) {k : Nat} (hk : k < l.length) : atD l (gX l k) = gR l k := by
  have n0 := h.n0
  rcases k with _ | k
  · rw [atD_eq h (k := 0) (by omega) (Int.le_refl _) (Int.le_of_lt (h.lt (by omega) (by omega))), btD_lo (h.lt (by omega) (by omega))]
  · rw [atD_eq h (k := k) hk (Int.le_of_lt (h.lt (by omega) hk)) (Int.le_refl _), btD_hi (h.lt (by omega) (by omega))]
theorem atD_bd {l : List (Int × Int)} (h : DR l) {s : Int} (h0 : 0 ≤ s) (h1 : s ≤ 10000) :
    gR l (atI l s) ≤ atD l s ∧ atD l s ≤ gR l (atI l s - 1) ∧ 50000 ≤ atD l s ∧ atD l s ≤ 120000 := by
  obtain ⟨i1, i2, i3, i4⟩ := atI_spec h h0 h1
  have a := btD_bd (h.lt (j := atI l s - 1) (i := atI l s) (by omega) i2) i3 i4 (h.ge (j := atI l s - 1) (by omega) i2)
  have b := h.b _ i2
  have c := h.b (atI l s - 1) (by omega)
  unfold atD
  omega
theorem atD_anti {l : List (Int × Int)} (h : DR l) {s t : Int} (h0 : 0 ≤ s) (h1 : t ≤ 10000) (hst : s ≤ t) : atD l t ≤ atD l s := by
  obtain ⟨i1, i2, i3, i4⟩ := atI_spec h h0 (by omega)
  obtain ⟨k1, k2, k3, k4⟩ := atI_spec h (s := t) (by omega) h1
  have a := atD_bd h h0 (s := s) (by omega)
  have b := atD_bd h (s := t) (by omega) h1
  rcases Nat.lt_or_ge (atI l t) (atI l s) with c | c
  · have := h.le (show atI l t ≤ atI l s - 1 by omega) (by omega)
    have e : s = t := by omega
    subst e
    exact Int.le_refl _
  · by_cases e : atI l s = atI l t
    · unfold atD
      rw [e]
      exact btD_anti (h.lt (by omega) k2) (h.ge (by omega) k2) hst
    · have := h.ge (show atI l s ≤ atI l t - 1 by omega) (by omega)
      omega

/-- the least strength whose density is less than a number, or what follows the greatest strength -/
def blN (l : List (Int × Int)) (n : Int) : Nat := fst (fun s => decide (atD l (s : Int) < n)) 10001
theorem blN_mono {l : List (Int × Int)} (h : DR l) (n : Int) : ∀ a b : Nat, a ≤ b → b < 10001 → decide (atD l (a : Int) < n) = true → decide (atD l (b : Int) < n) = true := fun a b hab hb ha => by
  have := of_decide_eq_true ha
  have := atD_anti h (s := a) (t := b) (by omega) (by omega) (by omega)
  exact decide_eq_true (by omega)
theorem blN_spec {l : List (Int × Int)} (h : DR l) (n : Int) : blN l n ≤ 10001 ∧ (∀ s : Int, 0 ≤ s → s < blN l n → n ≤ atD l s) ∧ ∀ s : Int, (blN l n : Int) ≤ s → s ≤ 10000 → atD l s < n := by
  obtain ⟨s1, s2⟩ := fst_spec (fun s => decide (atD l (s : Int) < n)) 10001
  have le := fst_le (fun s => decide (atD l (s : Int) < n)) 10001
  refine ⟨le, fun s h0 hs => ?_, fun s hs h1 => ?_⟩
  · have := of_decide_eq_false (s1 s.toNat (by unfold blN at hs; omega))
    rw [Int.toNat_of_nonneg h0] at this
    omega
  · have a := of_decide_eq_true (s2 (by unfold blN at hs; omega))
    have := atD_anti h (s := (blN l n : Int)) (t := s) (by omega) h1 hs
    unfold blN at this hs
    omega
def denE (l : List (Int × Int)) (s : Int) : Int := if dnE l ≠ 0 then 1 else if 0 ≤ s ∧ s ≤ 10000 then 0 else 2
def denV (l : List (Int × Int)) (s : Int) : Int := if denE l s = 0 then atD l s else 0
theorem denE_zero {l : List (Int × Int)} {s : Int} : denE l s = 0 ↔ DR l ∧ 0 ≤ s ∧ s ≤ 10000 := by
  unfold denE
  by_cases h : dnE l = 0
  · rw [if_neg (by omega)]
    have hD := dnE_zero.1 h
    by_cases g : 0 ≤ s ∧ s ≤ 10000
    · rw [if_pos g]; exact ⟨fun _ => ⟨hD, g⟩, fun _ => rfl⟩
    · rw [if_neg g]; exact ⟨fun e => (by cases e), fun e => absurd e.2 g⟩
  · rw [if_pos h]; exact ⟨fun e => (by cases e), fun e => absurd (dnE_zero.2 e.1) h⟩
theorem denV_ok {l : List (Int × Int)} {s : Int} (h : denE l s = 0) : denV l s = atD l s := by unfold denV; rw [if_pos h]
theorem denV_no {l : List (Int × Int)} {s : Int} (h : denE l s ≠ 0) : denV l s = 0 := by unfold denV; rw [if_neg h]
end Go.Proofs.YtnoagfpffdalnaaDoor

/- How arguments are opened: slices of points. -/
namespace Go.Proofs.YtnoagfpffdalnaaDoor
open Go.ChangeShapes Go.WideShapes Go.ChangeAt Go.RowKit Go.Joins

theorem own : ownKnob Tryd.prog.godebug = none := by kernel_rfl
theorem laidOut : laidOutB Tryd.prog = true := by kernel_rfl
theorem wf_bd {n : Int} (h : (Lit.int .i64 n).wf = true) : -9223372036854775808 ≤ n ∧ n ≤ 9223372036854775807 := by
  have := bounds_i64 h
  omega
set_option maxRecDepth 100000 in
theorem open_pts_at {H : Type} {enc : TypeId × Value → H} {w : World} {base fuel : Nat} {spare : Nat → Bool} {held : Bool} {v : Value} {y : DataW H × List MemPlace} (hs : ∀ k, spare k = true)
    (hf : DataW.trod enc Tryd.prog w base spare held fuel 22 [v] = some y) :
    ∃ l : List (Int × Int), Pts w v l := by
  rcases Deep.open_slice_pairs Tryd.underlying22 Tryd.underlying40 (by kernel_rfl) rfl rfl (by kernel_rfl) (by kernel_rfl) hf with ⟨hcs, _⟩ | ⟨x, len0, cap0, m, n, V0, V1, D0, D1, P0, P1, hcs, _, hl, hm, hmm, _, hi⟩
  · simp only [List.cons.injEq, and_true] at hcs
    subst hcs
    exact ⟨[], none, 0, rfl, ⟨by simp, by omega⟩, .inl rfl⟩
  · simp only [List.cons.injEq, and_true] at hcs
    subst hcs
    unfold maxLen at hm
    rw [hs] at hmm
    simp only [if_true] at hmm
    subst hmm
    have hint : ∀ i, i < len0 → ∃ q : Int × Int, w.cell? (x.add (i * 2)) = some (.int .i64 q.1) ∧ w.cell? (x.add (i * 2 + 1)) = some (.int .i64 q.2) := by
      intro i hlt
      obtain ⟨h0, h1, h2, h3⟩ := hi i (by omega)
      obtain ⟨a, ea, _, _⟩ := DataW.trod_int (k := .i64) Tryd.underlying3 h2
      obtain ⟨b, eb, _, _⟩ := DataW.trod_int (k := .i64) Tryd.underlying3 h3
      simp only [List.cons.injEq, and_true] at ea eb
      exact ⟨(a, b), by rw [h0, ea], by rw [h1, eb]⟩
    let f : Nat → Int × Int := fun i => if hlt : i < len0 then (hint i hlt).choose else (0, 0)
    have hf2 : ∀ i, i < len0 → w.cell? (x.add (i * 2)) = some (.int .i64 (f i).1) ∧ w.cell? (x.add (i * 2 + 1)) = some (.int .i64 (f i).2) := by
      intro i hlt
      have := (hint i hlt).choose_spec
      simp only [f, dif_pos hlt]
      exact this
    have hlen : ((List.range len0).map f).length = len0 := by simp
    refine ⟨(List.range len0).map f, some x, m, by rw [hlen], by rw [hlen]; omega, ?_⟩
    rw [hlen]
    by_cases h0 : len0 = 0
    · exact .inl h0
    · right
      obtain ⟨b, off, spot⟩ := x
      have hspot : spot = none := by simpa [Addr.add] using World.cell?_spot (hf2 0 (by omega)).1
      subst hspot
      have hb := World.block_lt_of_cell? w _ (hf2 0 (by omega)).1
      refine ⟨b, off, rfl, by simpa [Addr.add] using hb, fun j hj => ?_⟩
      obtain ⟨g0, g1⟩ := hf2 j hj
      rw [Go.WideShapes.add_plain] at g0 g1
      unfold gX gR
      rw [List.getD_eq_getElem?_getD, List.getElem?_map, List.getElem?_range hj]
      exact ⟨g0, by rw [Nat.add_assoc]; exact g1⟩
set_option maxRecDepth 100000 in
theorem open_pts {H : Type} {enc : TypeId × Value → H} {w : World} {r : Reach} {b0 : Nat} {v : Value} {d : DataW H} {p : List MemPlace}
    (hv : Value.okWide Tryd.prog w r b0 22 v) (h : DataW.Trod enc Tryd.prog w 0 (fun _ => true) true 22 v d p) :
    ∃ l : List (Int × Int), Pts w v l := by
  obtain ⟨a0, len0, cap0, rfl⟩ := okWide_slice Tryd.underlying22 hv
  obtain ⟨fuel, hf⟩ := h
  exact open_pts_at (fun _ => rfl) hf
end Go.Proofs.YtnoagfpffdalnaaDoor

/- A builder's WriteString and String in the shape of a loop; a builder among other blocks. -/
namespace Go.Proofs.YtnoagfpffdalnaaDoor
open Go.RowKit

/-- block b is a builder of the call's own with the bytes l -/
def Bld (w : World) (B b : Nat) (l : List UInt8) : Prop := Lib.IsBuilderF 53 5 B b (Lib.byteCells l) w
/-- all blocks but the builder's, and rows of bytes, are kept -/
def Kp (b : Nat) (w w' : World) : Prop := Lib.OthersKept 5 (some b) w w'
theorem bld_new (w : World) : Bld (w.alloc (.cells #[.pointer none, .slice none 0 0] 53)) w.heap.size w.heap.size [] := Lib.IsBuilderF.of (Lib.fresh_isBuilder _ _ w)
theorem strC (s : ByteArray) : Lib.strCells s = Lib.byteCells s.data.toList := rfl
theorem byteC_app (a b : List UInt8) : Lib.byteCells (a ++ b) = Lib.byteCells a ++ Lib.byteCells b := by simp [Lib.byteCells]
theorem writeS_any (B b : Nat) (l : List UInt8) (s : ByteArray) (w : World) (h : Bld w B b l) (hlen : l.length + s.size ≤ 100000000000000) (hB : B ≤ w.heap.size) :
    Calls Tryd.prog 38 #[.pointer (some ⟨b, 0, none⟩), .string s] w fun e w' => e = .returned (.tuple #[.int .i64 s.size, .nilIface]) ∧ Bld w' B b (l ++ s.data.toList) ∧ Below B w w' ∧ Kp b w w' := by
  refine (Any.Builder_WriteString_k (P := Tryd.prog) (ρ := Tryd.lays166_ren) { Tryd.lays166 with } Tryd.Builder_Extra_166 B b (Lib.byteCells l) s w h (by rw [Lib.byteCells_length]; omega) hB).mono ?_
  rintro e w' ⟨rfl, h1, h2, h3⟩
  refine ⟨rfl, ?_, h2, h3⟩
  unfold Bld
  rw [byteC_app, ← strC]
  exact .inr h1
theorem string_any (B b : Nat) (l : List UInt8) (w : World) (h : Bld w B b l) (hB : B ≤ w.heap.size) :
    Calls Tryd.prog 40 #[.pointer (some ⟨b, 0, none⟩)] w fun e w' => e = .returned (.string ⟨l.toArray⟩) ∧ Below B w w' := by
  refine (Tryd.Builder_String_any_k B b l w h hB).mono ?_
  rintro e w' ⟨rfl, _, h2, _⟩
  exact ⟨rfl, h2⟩
/-- a builder is kept by what keeps the blocks below the heap's end -/
theorem Bld.below {w w' : World} {B b : Nat} {l : List UInt8} (h : Bld w B b l) (hb : Below w.heap.size w w') : Bld w' B b l := by
  have key : ∀ p, Lib.BuilderAtF 53 5 B b p (Lib.byteCells l) w → Lib.BuilderAtF 53 5 B b p (Lib.byteCells l) w' := by
    rintro p ⟨hB, v, hbk, hown, hne⟩
    have lt : ∀ {k o}, w.heap[k]? = some o → k < w.heap.size := fun hk => (Array.getElem?_eq_some_iff.1 hk).1
    refine ⟨hB, v, by rw [hb.block _ (lt hbk)]; exact hbk, ⟨hown.1, ?_⟩, hne⟩
    rcases hown.2 with h0 | ⟨g, cap, cur, fz, hv, hg, hh, r⟩
    · exact .inl h0
    · exact .inr ⟨g, cap, cur, fz, hv, hg, by rw [hb.block _ (lt hh)]; exact hh, r⟩
  exact h.elim (fun x => .inl (key _ x)) (fun x => .inr (key _ x))
theorem Bld.alloc {w : World} {B b : Nat} {l : List UInt8} (h : Bld w B b l) (o : Obj) : Bld (w.alloc o) B b l := h.below (bel_alloc (Below.refl _ _))
theorem Bld.lt {w : World} {B b : Nat} {l : List UInt8} (h : Bld w B b l) : b < w.heap.size := by
  rcases h with ⟨_, v, hb, _⟩ | ⟨_, v, hb, _⟩
  · exact (Array.getElem?_eq_some_iff.1 hb).1
  · exact (Array.getElem?_eq_some_iff.1 hb).1
theorem Kp.refl (b : Nat) (w : World) : Kp b w w := Lib.OthersKept.refl _ _ w
theorem Kp.trans {b : Nat} {w1 w2 w3 : World} (h : Kp b w1 w2) (k : Kp b w2 w3) : Kp b w1 w3 := Lib.OthersKept.trans h k
theorem Kp.of {b : Nat} {w w' : World} (h : Below w.heap.size w w') : Kp b w w' := fun k o hk _ _ => by
  rw [h.block k (Array.getElem?_eq_some_iff.1 hk).1]; exact hk
end Go.Proofs.YtnoagfpffdalnaaDoor

/- Decimal numerals; the variables that the package reads. -/
namespace Go.Proofs.YtnoagfpffdalnaaDoor
open Go.RowKit

/-- a string, of a list of bytes -/
def str (l : List UInt8) : Value := .string ⟨l.toArray⟩
/-- what the listed variables hold -/
structure CV (w : World) : Prop where
  pow : Lib.TabIs Tryd.prog w "internal/strconv.uint64pow10" .u64 Lib.pow10Tab
  mxl : ∃ m, w.cell? ⟨1, 0, none⟩ = some (.int .i64 m)
theorem CV.below {w w' : World} (h : CV w) (hb : Below w.heap.size w w') : CV w' :=
  ⟨tab_keep (n := "internal/strconv.uint64pow10") 0 (by kernel_rfl) (by decide) h.pow hb, (let ⟨m, a⟩ := h.mxl; ⟨m, cell_bel a hb⟩)⟩
theorem itoa_any (n : Int) (w : World) (hn : -9223372036854775808 ≤ n ∧ n ≤ 9223372036854775807) (hw : CV w) :
    Calls Tryd.prog 39 #[.int .i64 n] w fun e w' => e = .returned (str (Lib.itoa n)) ∧ Below w.heap.size w w' :=
  (Tryd.strconv_Itoa n (by omega) (by omega) w hw.pow).mono fun _ _ ⟨h, k, os, hw⟩ => ⟨h, by rw [hw]; exact Lib.below_grow _ _ (Nat.le_refl _) _ _⟩
theorem app_nl (l : List UInt8) : (⟨l.toArray⟩ : ByteArray) ++ ⟨#[10]⟩ = ⟨(l ++ [10]).toArray⟩ := by
  apply ByteArray.ext; simp [ByteArray.data_append]
theorem str_size (l : List UInt8) : (⟨l.toArray⟩ : ByteArray).size = l.length := by show l.toArray.size = _; simp
end Go.Proofs.YtnoagfpffdalnaaDoor

/- What is kept by blocks that are laid, and by stores elsewhere. -/
namespace Go.Proofs.YtnoagfpffdalnaaDoor
open Go.RowKit

theorem bA {w Y : World} (h : Below w.heap.size w Y) (o : Obj) : Below w.heap.size w (Y.alloc o) := h.alloc h.size o
theorem bS {w Y : World} (g i : Nat) (v : Value) (h : Below w.heap.size w Y) (hg : w.heap.size ≤ g) : Below w.heap.size w (Y.setCell ⟨g, i, none⟩ v) := h.setCell (p := ⟨g, i, none⟩) hg v
theorem Two.newAt {P : Nat} (W : World) (x y : Value) (T : TypeId) (h : P = W.heap.size) : Two P (W.alloc (.cells #[x, y] T)) x y := by subst h; exact Two.new W x y T
theorem Two.both {b : Nat} {W : World} {x y : Value} (u v : Value) (h : Two b W x y) : Two b ((W.setCell ⟨b, 0, none⟩ u).setCell ⟨b, 1, none⟩ v) u v := (h.set0 u).set1 v
theorem Two.apart {b : Nat} {W : World} {x y : Value} (g i : Nat) (v : Value) (h : Two b W x y) (hp : g ≠ b) : Two b (W.setCell ⟨g, i, none⟩ v) x y := h.other ⟨g, i, none⟩ hp v
theorem cell_al {W : World} {a : Addr} {v : Value} (o : Obj) (h : W.cell? a = some v) : (W.alloc o).cell? a = some v := by rw [World.cell?_alloc_lt W o _ (World.block_lt_of_cell? W _ h)]; exact h
theorem two_kept {b : Nat} {A B : World} {x y : Value} {row : Option Nat} (h : Two b A x y) (hg : A.grownBy B row) (hr : ∀ r, row = some r → ∃ o : Obj, A.heap[r]? = some o ∧ o.isCells = false) : Two b B x y := by
  obtain ⟨h0, h1, h2, h3, h4⟩ := h
  exact ⟨cell_kept h0 hg hr, cell_kept h1 hg hr, (frozen_kept h0 hg hr).trans h2, (frozen_kept h1 hg hr).trans h3, Nat.lt_of_lt_of_le h4 hg.size⟩

theorem keeps_set2 {W X : World} (B : Nat) (p q : Addr) (u v : Value) (h : Below W.heap.size W X) : KeepsFrom B W ((X.setCell p u).setCell q v) := by
  have h0 : KeepsOthers W X := ⟨h.size, fun k o hk _ => by
    have hlt : k < W.heap.size := (Array.getElem?_eq_some_iff.1 hk).1
    rw [h.block k hlt]; exact hk⟩
  exact ((h0.trans (KeepsOthers.setCell _ _ _)).trans (KeepsOthers.setCell _ _ _)).from B
theorem cell_apart {W : World} {b i g j : Nat} {v : Value} (u : Value) (h : W.cell? ⟨b, i, none⟩ = some v) (hn : b ≠ g) : (W.setCell ⟨g, j, none⟩ u).cell? ⟨b, i, none⟩ = some v := by
  rw [World.cell?_setCell_other _ _ _ _ (fun e => by injection e; omega)]; exact h

end Go.Proofs.YtnoagfpffdalnaaDoor

/- Package density: Print. -/
namespace Go.Proofs.YtnoagfpffdalnaaDoor
open Go.RowKit

/-- the words of a line -/
def wS : List UInt8 := [115, 116, 114, 101, 110, 103, 116, 104, 32]
def wD : List UInt8 := [32, 100, 101, 110, 115, 105, 116, 121, 32]
/-- the line of a row -/
def mkN (q : Int × Int) : List UInt8 := wS ++ Lib.itoa q.1 ++ wD ++ Lib.itoa q.2 ++ [10]
/-- the lines of the first k marks -/
def roK (l : List (Int × Int)) (k : Nat) : List UInt8 := (List.range k).flatMap fun j => mkN (gX l j, gR l j)
theorem roK_succ (l : List (Int × Int)) (k : Nat) : roK l (k + 1) = roK l k ++ mkN (gX l k, gR l k) := by
  unfold roK
  rw [List.range_succ, List.flatMap_append]
  simp
theorem mkN_len {x v : Int} (hx : 0 ≤ x ∧ x ≤ 10000) (hv : 0 ≤ v ∧ v ≤ 120000) : (Lib.itoa x).length ≤ 21 ∧ (Lib.itoa v).length ≤ 21 ∧ (mkN (x, v)).length ≤ 61 := by
  have i1 := Lib.itoa_length_le x (by omega) (by omega)
  have i2 := Lib.itoa_length_le v (by omega) (by omega)
  refine ⟨i1, i2, ?_⟩
  unfold mkN wS wD
  simp only [List.length_append, List.length_cons, List.length_nil]
  omega
theorem roK_len {l : List (Int × Int)} {n : Nat} (h : ∀ j, j < n → (0 ≤ gX l j ∧ gX l j ≤ 10000) ∧ 0 ≤ gR l j ∧ gR l j ≤ 120000) (k : Nat) (hk : k ≤ n) : (roK l k).length ≤ 61 * k := by
  induction k with
  | zero => simp [roK]
  | succ k ih =>
    have := ih (by omega)
    have m := (mkN_len (h k (by omega)).1 (h k (by omega)).2).2.2
    rw [roK_succ, List.length_append]; omega
namespace RW
/-- what stands while Print writes: the builder in block b with the bytes tx; block q -/
def PS (w W : World) (b q : Nat) (tx : List UInt8) (o : Obj) : Prop := Below w.heap.size w W ∧ Bld W b b tx ∧ w.heap.size ≤ b ∧ b < q ∧ W.heap[q]? = some o
theorem PS.below {w W W' : World} {b q : Nat} {tx : List UInt8} {o : Obj} (h : PS w W b q tx o) (hb : Below W.heap.size W W') : PS w W' b q tx o := by
  obtain ⟨h1, h2, h3, h4, h5⟩ := h
  exact ⟨bel_trans h1 hb, h2.below hb, h3, h4, by rw [hb.block _ (Array.getElem?_eq_some_iff.1 h5).1]; exact h5⟩
theorem PS.new {w W : World} {b : Nat} {tx : List UInt8} (h1 : Below w.heap.size w W) (h2 : Bld W b b tx) (h3 : w.heap.size ≤ b) (o : Obj) : PS w (W.alloc o) b W.heap.size tx o :=
  ⟨h1.alloc h1.size o, h2.alloc o, h3, h2.lt, (MapKept.heap_alloc W _).1⟩
theorem PS.cells {w W : World} {b q : Nat} {tx : List UInt8} {cs : Array Value} {T : TypeId} (h : PS w W b q tx (.cells cs T)) (j : Nat) : W.cell? ⟨q, j, none⟩ = cs[j]? := Lib.cell_of_heap h.2.2.2.2 j
theorem PS.write {w W : World} {b q : Nat} {tx : List UInt8} {o : Obj} (h : PS w W b q tx o) (ho : ∀ c fz, o ≠ .cells c 5 fz) (s : ByteArray) (hs : tx.length + s.size ≤ 100000000000000) :
    Calls Tryd.prog 38 #[.pointer (some ⟨b, 0, none⟩), .string s] W fun e w' => e = .returned (.tuple #[.int .i64 s.size, .nilIface]) ∧ PS w w' b q (tx ++ s.data.toList) o := by
  obtain ⟨h1, h2, h3, h4, h5⟩ := h
  refine (writeS_any b b tx s W h2 hs (Nat.le_of_lt h2.lt)).mono ?_
  rintro e w' ⟨rfl, g1, g2, g3⟩
  exact ⟨rfl, h1.trans (g2.mono h3), g1, h3, h4, g3 q o h5 (by intro e; injection e; omega) ho⟩
/-- the builder alone -/
def PB (w W : World) (b : Nat) (tx : List UInt8) : Prop := Below w.heap.size w W ∧ Bld W b b tx ∧ w.heap.size ≤ b
theorem PS.bld {w W : World} {b q : Nat} {tx : List UInt8} {o : Obj} (h : PS w W b q tx o) : PB w W b tx := ⟨h.1, h.2.1, h.2.2.1⟩
end RW
open RW
set_option maxHeartbeats 4000000 in
theorem dnPr_bad (v : Value) (E : Int) (w : World) (e2 : (E == 0) = false)
    (H1 : Hid (Calls Tryd.prog 33 #[v] w fun e w' => e = .returned (.bool (E == 0)) ∧ Below w.heap.size w w')) :
    Calls Tryd.prog 21 #[v] w fun e w' => e = .returned (.tuple #[str [], .int .i64 1]) ∧ Below w.heap.size w w' := by
  go_enter Tryd.func21, Tryd.ntmps21
  go_wp2_with fail
  refine H1.out.mono ?_
  rintro e w1 ⟨rfl, gg⟩
  have X1 := Lib.hid gg; clear gg
  go_wp2
  go_returns
  exact ⟨rfl, X1.out⟩
set_option maxHeartbeats 3100000 in
set_option maxRecDepth 100000 in
theorem dnPr_some (b0 off n cap : Nat) (l : List (Int × Int)) (w : World) (hw : CV w) (n1 : n ≤ 128) (hb : b0 < w.heap.size)
    (hc : Hid (∀ j, j < n → w.cell? ⟨b0, off + j * 2, none⟩ = some (.int .i64 (gX l j)) ∧ w.cell? ⟨b0, off + j * 2 + 1, none⟩ = some (.int .i64 (gR l j))))
    (bd : Hid (∀ j, j < n → (0 ≤ gX l j ∧ gX l j ≤ 10000) ∧ 0 ≤ gR l j ∧ gR l j ≤ 120000))
    (H1 : Hid (Calls Tryd.prog 33 #[.slice (some ⟨b0, off, none⟩) n cap] w fun e w' => e = .returned (.bool true) ∧ Below w.heap.size w w')) :
    Calls Tryd.prog 21 #[.slice (some ⟨b0, off, none⟩) n cap] w fun e w' => e = .returned (.tuple #[str (roK l n), .int .i64 0]) ∧ Below w.heap.size w w' := by
  have HW := Lib.hid hw
  clear hw
  go_enter Tryd.func21, Tryd.ntmps21
  go_wp2_with fail
  refine H1.out.mono ?_
  rintro e w1 ⟨rfl, gg⟩
  have P0 : Hid (PB w (w1.alloc (.cells #[.pointer none, .slice none 0 0] 53)) w1.heap.size (roK l 0)) := ⟨gg.alloc gg.size _, bld_new w1, gg.size⟩
  clear gg H1
  go_wp2_with fail
  generalize w1.heap.size = b at *
  go_loopw [12] (fun ii wr => ∃ k : Nat, k ≤ n ∧ ii = .int .i64 k ∧ Hid (PB w wr b (roK l k))) (fun ii _ => n - (intOf ii).toNat)
  case atStart => exact ⟨0, Nat.zero_le _, rfl, P0⟩
  case round =>
    clear P0
    obtain ⟨k, hk, rfl, hQ⟩ := hrel
    by_cases hlt : k < n
    · have l2 : (k : Int) < (n : Int) := by omega
      obtain ⟨c0, c1⟩ := hc.out k hlt
      replace c0 := cell_bel c0 hQ.out.1
      replace c1 := cell_bel c1 hQ.out.1
      have hx := bd.out k hlt
      have ln := mkN_len hx.1 hx.2
      have tl := roK_len bd.out k hk
      have eP := roK_succ l k
      generalize gX l k = X at *
      generalize gR l k = R at *
      generalize roK l k = tx at *
      generalize hT2 : roK l (k + 1) = tx2 at *
      replace hT2 := Lib.hid hT2
      obtain ⟨D1, hD1⟩ : ∃ D : ByteArray, D = ⟨(Lib.itoa X).toArray⟩ := ⟨_, rfl⟩
      obtain ⟨D2, hD2⟩ : ∃ D : ByteArray, D = ⟨(Lib.itoa R).toArray⟩ := ⟨_, rfl⟩
      have s1 : D1.size ≤ 21 := by rw [hD1, str_size]; omega
      have s2 : D2.size ≤ 21 := by rw [hD2, str_size]; omega
      have z1 : (⟨#[115, 116, 114, 101, 110, 103, 116, 104, 32]⟩ : ByteArray).size = 9 := rfl
      have z2 : (⟨#[32, 100, 101, 110, 115, 105, 116, 121, 32]⟩ : ByteArray).size = 9 := rfl
      have z3 : (⟨#[10]⟩ : ByteArray).size = 1 := rfl
      have s3 : ((⟨#[115, 116, 114, 101, 110, 103, 116, 104, 32]⟩ : ByteArray) ++ D1).size = 9 + D1.size := by rw [ByteArray.size_append, z1]
      have s4 : ((⟨#[115, 116, 114, 101, 110, 103, 116, 104, 32]⟩ : ByteArray) ++ D1 ++ (⟨#[32, 100, 101, 110, 115, 105, 116, 121, 32]⟩ : ByteArray)).size = 9 + D1.size + 9 := by rw [ByteArray.size_append, s3, z2]
      have s5 : ((⟨#[115, 116, 114, 101, 110, 103, 116, 104, 32]⟩ : ByteArray) ++ D1 ++ (⟨#[32, 100, 101, 110, 115, 105, 116, 121, 32]⟩ : ByteArray) ++ D2).size = 9 + D1.size + 9 + D2.size := by rw [ByteArray.size_append, s4]
      have s6 : ((⟨#[115, 116, 114, 101, 110, 103, 116, 104, 32]⟩ : ByteArray) ++ D1 ++ (⟨#[32, 100, 101, 110, 115, 105, 116, 121, 32]⟩ : ByteArray) ++ D2 ++ (⟨#[10]⟩ : ByteArray)).size = 9 + D1.size + 9 + D2.size + 1 := by rw [ByteArray.size_append, s5, z3]
      have eL : ((⟨#[115, 116, 114, 101, 110, 103, 116, 104, 32]⟩ : ByteArray) ++ D1 ++ (⟨#[32, 100, 101, 110, 115, 105, 116, 121, 32]⟩ : ByteArray) ++ D2 ++ (⟨#[10]⟩ : ByteArray)).data.toList = mkN (X, R) := by rw [hD1, hD2]; unfold mkN wS wD; simp [ByteArray.data_append]
      have K1 : Hid (∀ W tx o q, PS w W b q tx o → Calls Tryd.prog 39 #[.int .i64 X] W fun e w' => e = .returned (.string D1) ∧ PS w w' b q tx o) := fun W tx o q h =>
        (itoa_any X W (by omega) (HW.out.below h.1)).mono fun _ _ g => ⟨by rw [hD1]; exact g.1, h.below g.2⟩
      have K2 : Hid (∀ W tx o q, PS w W b q tx o → Calls Tryd.prog 39 #[.int .i64 R] W fun e w' => e = .returned (.string D2) ∧ PS w w' b q tx o) := fun W tx o q h =>
        (itoa_any R W (by omega) (HW.out.below h.1)).mono fun _ _ g => ⟨by rw [hD2]; exact g.1, h.below g.2⟩
      have K4 : Hid (∀ W cs q, PS w W b q tx (.cells cs 40) → Calls Tryd.prog 38 #[.pointer (some ⟨b, 0, none⟩), .string ((⟨#[115, 116, 114, 101, 110, 103, 116, 104, 32]⟩ : ByteArray) ++ D1 ++ (⟨#[32, 100, 101, 110, 115, 105, 116, 121, 32]⟩ : ByteArray) ++ D2 ++ (⟨#[10]⟩ : ByteArray))] W fun e w' => e = .returned (.tuple #[.int .i64 ((⟨#[115, 116, 114, 101, 110, 103, 116, 104, 32]⟩ : ByteArray) ++ D1 ++ (⟨#[32, 100, 101, 110, 115, 105, 116, 121, 32]⟩ : ByteArray) ++ D2 ++ (⟨#[10]⟩ : ByteArray)).size, .nilIface]) ∧ PS w w' b q tx2 (.cells cs 40)) := fun W cs q h => by
        have := h.write (by intro c fz e; injection e with _ e2 _; revert e2; decide) ((⟨#[115, 116, 114, 101, 110, 103, 116, 104, 32]⟩ : ByteArray) ++ D1 ++ (⟨#[32, 100, 101, 110, 115, 105, 116, 121, 32]⟩ : ByteArray) ++ D2 ++ (⟨#[10]⟩ : ByteArray)) (by omega)
        rwa [eL, ← eP] at this
      have B1 := Lib.hid ((PS.new hQ.out.1 hQ.out.2.1 hQ.out.2.2 (.cells #[.int .i64 X, .int .i64 R] 40)).below (bel_drew _))
      have HS : Hid (∀ W tx, PS w W b wr.heap.size tx (.cells #[.int .i64 X, .int .i64 R] 40) → W.cell? ⟨wr.heap.size, 0, none⟩ = some (.int .i64 X) ∧ W.cell? ⟨wr.heap.size, 1, none⟩ = some (.int .i64 R)) := fun W tx h => ⟨h.cells 0, h.cells 1⟩
      have q1 : 9 + D1.size ≤ 9223372036854775807 := by omega
      have q2 : 9 + D1.size + 9 ≤ 9223372036854775807 := by omega
      have q3 : 9 + D1.size + 9 + D2.size ≤ 9223372036854775807 := by omega
      have q4 : 9 + D1.size + 9 + D2.size + 1 ≤ 9223372036854775807 := by omega
      have r1 : ¬ 9 + D1.size > 9223372036854775807 := by omega
      have r2 : ¬ 9 + D1.size + 9 > 9223372036854775807 := by omega
      have r3 : ¬ 9 + D1.size + 9 + D2.size > 9223372036854775807 := by omega
      have r4 : ¬ 9 + D1.size + 9 + D2.size + 1 > 9223372036854775807 := by omega
      have u1 : ¬ (⟨#[115, 116, 114, 101, 110, 103, 116, 104, 32]⟩ : ByteArray).size + D1.size > 9223372036854775807 := by rw [z1]; omega
      have u2 : ¬ ((⟨#[115, 116, 114, 101, 110, 103, 116, 104, 32]⟩ : ByteArray) ++ D1).size + (⟨#[32, 100, 101, 110, 115, 105, 116, 121, 32]⟩ : ByteArray).size > 9223372036854775807 := by rw [s3, z2]; omega
      have u3 : ¬ ((⟨#[115, 116, 114, 101, 110, 103, 116, 104, 32]⟩ : ByteArray) ++ D1 ++ (⟨#[32, 100, 101, 110, 115, 105, 116, 121, 32]⟩ : ByteArray)).size + D2.size > 9223372036854775807 := by rw [s4]; omega
      have u4 : ¬ ((⟨#[115, 116, 114, 101, 110, 103, 116, 104, 32]⟩ : ByteArray) ++ D1 ++ (⟨#[32, 100, 101, 110, 115, 105, 116, 121, 32]⟩ : ByteArray) ++ D2).size + (⟨#[10]⟩ : ByteArray).size > 9223372036854775807 := by rw [s5, z3]; omega
      clear hx ln tl eP hD1 hD2 eL hQ hc bd
      go_wp2_with fail
      go_region_held3 (fun w' => w'.cell? ⟨wr.heap.size, 0, none⟩ = some (.int .i64 X) ∧ w'.cell? ⟨wr.heap.size, 1, none⟩ = some (.int .i64 R)) (go_keep)
        (first | (go_at_call 39; (with_reducible refine (K1.out _ _ _ _ B1.out).mono ?_); rintro e w5 ⟨rfl, B2⟩; obtain ⟨x0, x1⟩ := HS.out _ _ B2; replace B2 := Lib.hid B2) | (go_at_call 39; (with_reducible refine (K2.out _ _ _ _ B2.out).mono ?_); rintro e w6 ⟨rfl, B3⟩; obtain ⟨y0, y1⟩ := HS.out _ _ B3; replace B3 := Lib.hid B3) | (go_at_call 38; (with_reducible refine (K4.out _ _ _ B3.out).mono ?_); rintro e w8 ⟨rfl, B5⟩; obtain ⟨u0, u1⟩ := HS.out _ _ B5; replace B5 := Lib.hid B5))
      all_goals
        have Z := Lib.hid B5.out.bld
        go_wp2
        go_roundw
        case rel => exact ⟨k + 1, by omega, by go_num, by rw [hT2.out]; exact Z⟩
        case measure => simp [intOf]; omega
    · obtain rfl : k = n := by omega
      have HF := Lib.hid (string_any b b (roK l k) wr hQ.out.2.1 (Nat.le_of_lt hQ.out.2.1.lt))
      go_wp2_with fail
      refine HF.out.mono ?_
      rintro e w2 ⟨rfl, gg⟩
      have X := Lib.hid (hQ.out.1.trans (gg.mono hQ.out.2.2))
      clear gg
      go_wp2
      go_returns
      exact ⟨rfl, X.out⟩
/-- what Print returns -/
def pnS (l : List (Int × Int)) : List UInt8 := if dnE l = 0 then roK l l.length else []
def pnE (l : List (Int × Int)) : Int := if dnE l = 0 then 0 else 1
theorem dnPr_any (v : Value) (l : List (Int × Int)) (w : World) (hw : CV w) (hp : Pts w v l) :
    Calls Tryd.prog 21 #[v] w fun e w' => e = .returned (.tuple #[str (pnS l), .int .i64 (pnE l)]) ∧ Below w.heap.size w w' := by
  have H1 := Lib.hid (dnRt_any v l w hp)
  unfold pnS pnE
  by_cases h : dnE l = 0
  · rw [if_pos h, if_pos h]
    rw [show (dnE l == 0) = true by simpa using h] at H1
    have hR := dnE_zero.1 h
    have n0 := hR.n0
    obtain ⟨a', cap', rfl, _, hh⟩ := hp
    rcases hh with hh | ⟨b, off, rfl, hb, hc⟩
    · omega
    exact dnPr_some b off _ cap' l w hw hR.n1 hb (Lib.hid hc) (Lib.hid fun j hj => by have := hR.b j hj; exact ⟨⟨this.1, this.2.1⟩, by omega, by omega⟩) H1
  · rw [if_neg h, if_neg h]
    exact dnPr_bad v (dnE l) w (by simpa using h) H1
end Go.Proofs.YtnoagfpffdalnaaDoor

/- slices.Insert of one row into three. -/
namespace Go.Proofs.YtnoagfpffdalnaaDoor
open Go.RowKit

theorem run_copy_k {P : Program} (w : World) (dT sT ty elem : TypeId) (k b o dLen dCap : Nat) (a : Addr) (sLen sCap : Nat) (cs : List Value)
    (hu : P.underlying dT = some (.slice elem)) (hs : (P.info? elem).map (·.size) = some k) (hn : cs.length = Nat.min sLen dLen * k)
    (hsrc : ∀ j v, cs[j]? = some v → w.cell? (a.add j) = some v) (hc : ∀ j, j < cs.length → (w.cell? ⟨b, o + j, none⟩).isSome = true) (hf : ∀ j, j < cs.length → w.frozen? ⟨b, o + j, none⟩ = false) (h1 : ∀ v ∈ cs, v.oneCell' = true) :
    (Builtin.copy_ #[dT, sT] ty #[.slice (some ⟨b, o, none⟩) dLen dCap, .slice (some a) sLen sCap]).run P w = .ok (goInt (Nat.min sLen dLen)) (w.setCells b o cs) := by
  have hl := run_loadCells_list (P := P) w a cs hsrc
  have hst := run_storeCells_cells (P := P) b o cs 0 w (by simpa using hc) (by simpa using hf) h1
  cases hq : P.info? elem with
  | none => simp [hq] at hs
  | some i =>
    have hi : i.size = k := by simpa [hq] using hs
    simp [Builtin.copy_, run_underlying hu, Builtin.lenOf, Builtin.firstCells, sizeOf, typeInfo, hq, hi, ← hn, hl, hst]
def insR (w : World) (a0 b0 : Int) : Array Value :=
  #[.int .i64 a0, .int .i64 b0] ++ (Builtin.zeroCells #[.int .i64 0, .int .i64 0] 3 ++ Builtin.zeroCells #[.int .i64 0, .int .i64 0] ((Question.appendCap 4 3 40).cut (w.tape w.drawn (Question.appendCap 4 3 40)) - 4))
def insW (w : World) (a0 b0 : Int) : World := (w.alloc (.cells (insR w a0 b0) 40)).drew
theorem insR_size (w : World) (a0 b0 : Int) : 8 ≤ (insR w a0 b0).size := by
  simp [insR, Builtin.zeroCells]
  omega
theorem insW_cell (w : World) (a0 b0 : Int) (j : Nat) : (insW w a0 b0).cell? ⟨w.heap.size, j, none⟩ = (insR w a0 b0)[j]? := by
  show (w.alloc (.cells (insR w a0 b0) 40)).cell? _ = _
  simp [go_sem]
theorem insW_old (w : World) (a0 b0 : Int) {p : Addr} {v : Value} (h : w.cell? p = some v) : (insW w a0 b0).cell? p = some v :=
  cell_bel h (bel_alloc (o := .cells (insR w a0 b0) 40) ((Below.refl _ _).drew))
theorem insW_size (w : World) (a0 b0 : Int) : (insW w a0 b0).heap.size = w.heap.size + 1 := by
  show (w.alloc (.cells (insR w a0 b0) 40)).heap.size = _
  rw [World.size_alloc]
theorem insW_bel (w : World) (a0 b0 : Int) {B : Nat} (hb : B ≤ w.heap.size) : Below B w (insW w a0 b0) :=
  ((Below.refl B w).alloc hb (.cells (insR w a0 b0) 40)).drew
theorem insW_fz (w : World) (a0 b0 : Int) (j : Nat) : (insW w a0 b0).frozen? ⟨w.heap.size, j, none⟩ = false := by
  show (w.alloc (.cells (insR w a0 b0) 40)).frozen? _ = _
  simp [go_sem]
set_option maxHeartbeats 8000000 in
set_option maxRecDepth 100000 in
theorem ins1_grow (g vb : Nat) (x r a0 b0 a1 b1 a2 b2 : Int) (w : World) (c0 : w.cell? ⟨g, 0, none⟩ = some (.int .i64 a0)) (c1 : w.cell? ⟨g, 1, none⟩ = some (.int .i64 b0))
    (hcp1 : ∀ ty dc, (Builtin.copy_ #[22, 22] ty #[.slice (some ⟨w.heap.size, 2, none⟩) 3 dc, .slice (some ⟨vb, 0, none⟩) 1 1]).run Tryd.prog (insW w a0 b0) = .ok (.int .i64 1) ((insW w a0 b0).setCells w.heap.size 2 [.int .i64 x, .int .i64 r]))
    (hcp2 : ∀ W, (∀ p, W.cell? p = ((insW w a0 b0).setCells w.heap.size 2 [.int .i64 x, .int .i64 r]).cell? p) → (∀ p, W.frozen? p = ((insW w a0 b0).setCells w.heap.size 2 [.int .i64 x, .int .i64 r]).frozen? p) → ∀ ty dc, (Builtin.copy_ #[22, 22] ty #[.slice (some ⟨w.heap.size, 4, none⟩) 2 dc, .slice (some ⟨g, 2, none⟩) 2 2]).run Tryd.prog W = .ok (.int .i64 2) (W.setCells w.heap.size 4 [.int .i64 a1, .int .i64 b1, .int .i64 a2, .int .i64 b2])) :
    Calls Tryd.prog 31 #[.slice (some ⟨g, 0, none⟩) 3 3, .int .i64 1, .slice (some ⟨vb, 0, none⟩) 1 1] w fun e w' => e = .returned (.slice (some ⟨w.heap.size, 0, none⟩) 4 ((Question.appendCap 4 3 40).cut (w.tape w.drawn (Question.appendCap 4 3 40)))) ∧ w' = (((insW w a0 b0).setCells w.heap.size 2 [.int .i64 x, .int .i64 r]).drew).setCells w.heap.size 4 [.int .i64 a1, .int .i64 b1, .int .i64 a2, .int .i64 b2] := by
  have hK : ¬ (Question.appendCap 4 3 40).cut (w.tape w.drawn (Question.appendCap 4 3 40)) = 1 := by
    have := grownCap_ge w 4 3 40
    unfold grownCap at this
    omega
  have hK2 : ¬ (Question.appendCap 4 3 40).cut (w.tape w.drawn (Question.appendCap 4 3 40)) = 2 := by
    have := grownCap_ge w 4 3 40
    unfold grownCap at this
    omega
  have w2 : IntKind.i64.wrap 2 = 2 := by decide
  have hcp2b := hcp2 ((insW w a0 b0).setCells w.heap.size 2 [.int .i64 x, .int .i64 r]).drew (fun _ => rfl) (fun _ => rfl)
  clear hcp2
  have mixed : Tryd.prog.follows .mixedOrders = true := by kernel_rfl
  unfold insW insR at hcp1 hcp2b
  go_enter Tryd.func31, Tryd.ntmps31
  go_wp2_with fail
  go_region_law_o (fail)
  go_wp2
  go_ret
  exact ⟨rfl, rfl⟩
set_option maxHeartbeats 8000000 in
set_option maxRecDepth 100000 in
theorem ins1_room (g vb cap : Nat) (x r a1 b1 a2 b2 : Int) (w : World) (hc : 4 ≤ cap) (hm : cap ≤ 9223372036854775807)
    (hov : ∀ lb cb, (callFunc 49 #[.slice (some ⟨vb, 0, none⟩) 1 1, .slice (some ⟨g, 4, none⟩) lb cb]).run Tryd.prog w = .ok (.value (.bool false)) w)
    (hcp1 : ∀ ty dc sc, (Builtin.copy_ #[22, 22] ty #[.slice (some ⟨g, 4, none⟩) 2 dc, .slice (some ⟨g, 2, none⟩) 3 sc]).run Tryd.prog w.drew = .ok (.int .i64 2) (w.drew.setCells g 4 [.int .i64 a1, .int .i64 b1, .int .i64 a2, .int .i64 b2]))
    (hcp2 : ∀ ty dc, (Builtin.copy_ #[22, 22] ty #[.slice (some ⟨g, 2, none⟩) 3 dc, .slice (some ⟨vb, 0, none⟩) 1 1]).run Tryd.prog (w.drew.setCells g 4 [.int .i64 a1, .int .i64 b1, .int .i64 a2, .int .i64 b2]) = .ok (.int .i64 1) ((w.drew.setCells g 4 [.int .i64 a1, .int .i64 b1, .int .i64 a2, .int .i64 b2]).setCells g 2 [.int .i64 x, .int .i64 r])) :
    Calls Tryd.prog 31 #[.slice (some ⟨g, 0, none⟩) 3 cap, .int .i64 1, .slice (some ⟨vb, 0, none⟩) 1 1] w fun e w' => e = .returned (.slice (some ⟨g, 0, none⟩) 4 cap) ∧ w' = (w.drew.setCells g 4 [.int .i64 a1, .int .i64 b1, .int .i64 a2, .int .i64 b2]).setCells g 2 [.int .i64 x, .int .i64 r] := by
  have d0 : decide ((cap : Int) < 4) = false := decide_eq_false (by omega)
  have k0 : ¬ cap < 4 := by omega
  have k1 : ¬ cap = 1 := by omega
  have k2 : ¬ cap = 2 := by omega
  have k3 : (4 : Int) ≤ (cap : Int) := by omega
  have w2 : IntKind.i64.wrap 2 = 2 := by decide
  have w4 : IntKind.i64.wrap 4 = 4 := by decide
  have mixed : Tryd.prog.follows .mixedOrders = true := by kernel_rfl
  go_enter Tryd.func31, Tryd.ntmps31
  go_wp2_with (simp only [hov])
  go_region_law_o (fail)
  go_wp2
  go_ret
  exact ⟨rfl, rfl⟩
theorem nib_cells {B g : Nat} (hg : B ≤ g) : ∀ (vs : List Value) (o : Nat) (w : World), Below B w (w.setCells g o vs)
  | [], _, _ => Below.refl _ _
  | v :: r, o, w => ((Below.refl B w).setCell (p := ⟨g, o, none⟩) hg v).trans (nib_cells hg r (o + 1) _)
theorem ni_size (b : Nat) : ∀ (vs : List Value) (o : Nat) (w : World), (w.setCells b o vs).heap.size = w.heap.size
  | [], _, _ => rfl
  | v :: r, o, w => by rw [World.setCells, ni_size b r]; simp [World.setCell]
theorem one4 (a b c d : Int) : ∀ v ∈ [Value.int .i64 a, .int .i64 b, .int .i64 c, .int .i64 d], v.oneCell' = true := by
  intro v hv
  simp only [List.mem_cons, List.not_mem_nil, or_false] at hv
  rcases hv with rfl | rfl | rfl | rfl <;> rfl
theorem one2 (a b : Int) : ∀ v ∈ [Value.int .i64 a, .int .i64 b], v.oneCell' = true := by
  intro v hv
  simp only [List.mem_cons, List.not_mem_nil, or_false] at hv
  rcases hv with rfl | rfl <;> rfl
theorem get2 {W : World} {b o : Nat} {a c : Int} (h0 : W.cell? ⟨b, o, none⟩ = some (.int .i64 a)) (h1 : W.cell? ⟨b, o + 1, none⟩ = some (.int .i64 c)) :
    ∀ j v, [Value.int .i64 a, .int .i64 c][j]? = some v → W.cell? ((⟨b, o, none⟩ : Addr).add j) = some v := by
  intro j v h
  rw [Go.WideShapes.add_plain]
  match j, h with
  | 0, h => exact h0.trans h
  | 1, h => exact h1.trans h
  | j + 2, h => simp at h
theorem get4 {W : World} {b o : Nat} {a c d e : Int} (h0 : W.cell? ⟨b, o, none⟩ = some (.int .i64 a)) (h1 : W.cell? ⟨b, o + 1, none⟩ = some (.int .i64 c)) (h2 : W.cell? ⟨b, o + 2, none⟩ = some (.int .i64 d)) (h3 : W.cell? ⟨b, o + 3, none⟩ = some (.int .i64 e)) :
    ∀ j v, [Value.int .i64 a, .int .i64 c, .int .i64 d, .int .i64 e][j]? = some v → W.cell? ((⟨b, o, none⟩ : Addr).add j) = some v := by
  intro j v h
  rw [Go.WideShapes.add_plain]
  match j, h with
  | 0, h => exact h0.trans h
  | 1, h => exact h1.trans h
  | 2, h => exact h2.trans h
  | 3, h => exact h3.trans h
  | j + 4, h => simp at h
theorem grade_size : (Tryd.prog.info? 40).map (·.size) = some 2 := by kernel_rfl
/-- two stores into a row of at least eight cells, read -/
theorem two_in {W : World} {b : Nat} {a0 b0 x r a1 b1 a2 b2 : Int} (hs : ∀ j, j < 8 → (W.cell? ⟨b, j, none⟩).isSome = true) (h0 : W.cell? ⟨b, 0, none⟩ = some (.int .i64 a0)) (h1 : W.cell? ⟨b, 1, none⟩ = some (.int .i64 b0)) (V : World)
    (hV : (∀ p, V.cell? p = ((W.setCells b 2 [.int .i64 x, .int .i64 r]).setCells b 4 [.int .i64 a1, .int .i64 b1, .int .i64 a2, .int .i64 b2]).cell? p) ∨ (∀ p, V.cell? p = ((W.setCells b 4 [.int .i64 a1, .int .i64 b1, .int .i64 a2, .int .i64 b2]).setCells b 2 [.int .i64 x, .int .i64 r]).cell? p)) :
    ∀ j, j < 4 → V.cell? ⟨b, 0 + j * 2, none⟩ = some (.int .i64 (gX [(a0, b0), (x, r), (a1, b1), (a2, b2)] j)) ∧ V.cell? ⟨b, 0 + j * 2 + 1, none⟩ = some (.int .i64 (gR [(a0, b0), (x, r), (a1, b1), (a2, b2)] j)) := by
  have isS : ∀ (vs : List Value) (o : Nat) (W : World), (∀ j, j < 8 → (W.cell? ⟨b, j, none⟩).isSome = true) → o + vs.length ≤ 8 → ∀ j, j < 8 → ((W.setCells b o vs).cell? ⟨b, j, none⟩).isSome = true := fun vs o W h ho j hj => by
    by_cases e : o ≤ j ∧ j < o + vs.length
    · have := World.cell?_setCells_in b vs o W (fun k hk => h _ (by omega)) (j - o) (by omega)
      rw [show o + (j - o) = j by omega] at this
      rw [this]; rfl
    · rw [World.cell?_setCells_out b vs o W _ (fun _ _ => by show j < o ∨ o + vs.length ≤ j; omega)]
      exact h j hj
  have inn : ∀ (vs : List Value) (o : Nat) (W : World), (∀ j, j < 8 → (W.cell? ⟨b, j, none⟩).isSome = true) → o + vs.length ≤ 8 → ∀ k (hk : k < vs.length), (W.setCells b o vs).cell? ⟨b, o + k, none⟩ = some vs[k] := fun vs o W h ho k hk =>
    World.cell?_setCells_in b vs o W (fun q hq => h _ (by omega)) k hk
  have out : ∀ (vs : List Value) (o : Nat) (W : World) (j : Nat), (j < o ∨ o + vs.length ≤ j) → (W.setCells b o vs).cell? ⟨b, j, none⟩ = W.cell? ⟨b, j, none⟩ := fun vs o W j hj =>
    World.cell?_setCells_out b vs o W _ (fun _ _ => hj)
  have all : V.cell? ⟨b, 0, none⟩ = some (.int .i64 a0) ∧ V.cell? ⟨b, 1, none⟩ = some (.int .i64 b0) ∧ V.cell? ⟨b, 2, none⟩ = some (.int .i64 x) ∧ V.cell? ⟨b, 3, none⟩ = some (.int .i64 r) ∧ V.cell? ⟨b, 4, none⟩ = some (.int .i64 a1) ∧ V.cell? ⟨b, 5, none⟩ = some (.int .i64 b1) ∧ V.cell? ⟨b, 6, none⟩ = some (.int .i64 a2) ∧ V.cell? ⟨b, 7, none⟩ = some (.int .i64 b2) := by
    rcases hV with hV | hV
    · have s1 := isS [.int .i64 x, .int .i64 r] 2 W hs (by simp)
      have i4 := inn [.int .i64 a1, .int .i64 b1, .int .i64 a2, .int .i64 b2] 4 _ s1 (by simp)
      have i2 := inn [.int .i64 x, .int .i64 r] 2 W hs (by simp)
      refine ⟨?_, ?_, ?_, ?_, (hV _).trans (i4 0 (by simp)), (hV _).trans (i4 1 (by simp)), (hV _).trans (i4 2 (by simp)), (hV _).trans (i4 3 (by simp))⟩
      · rw [hV, out _ _ _ _ (.inl (by omega)), out _ _ _ _ (.inl (by omega))]; exact h0
      · rw [hV, out _ _ _ _ (.inl (by omega)), out _ _ _ _ (.inl (by omega))]; exact h1
      · rw [hV, out _ _ _ _ (.inl (by omega))]; exact i2 0 (by simp)
      · rw [hV, out _ _ _ _ (.inl (by omega))]; exact i2 1 (by simp)
    · have s1 := isS [.int .i64 a1, .int .i64 b1, .int .i64 a2, .int .i64 b2] 4 W hs (by simp)
      have i2 := inn [.int .i64 x, .int .i64 r] 2 _ s1 (by simp)
      have i4 := inn [.int .i64 a1, .int .i64 b1, .int .i64 a2, .int .i64 b2] 4 W hs (by simp)
      refine ⟨?_, ?_, (hV _).trans (i2 0 (by simp)), (hV _).trans (i2 1 (by simp)), ?_, ?_, ?_, ?_⟩
      · rw [hV, out _ _ _ _ (.inl (by omega)), out _ _ _ _ (.inl (by omega))]; exact h0
      · rw [hV, out _ _ _ _ (.inl (by omega)), out _ _ _ _ (.inl (by omega))]; exact h1
      · rw [hV, out _ _ _ _ (.inr (by simp))]; exact i4 0 (by simp)
      · rw [hV, out _ _ _ _ (.inr (by simp))]; exact i4 1 (by simp)
      · rw [hV, out _ _ _ _ (.inr (by simp))]; exact i4 2 (by simp)
      · rw [hV, out _ _ _ _ (.inr (by simp))]; exact i4 3 (by simp)
  obtain ⟨e0, e1, e2, e3, e4, e5, e6, e7⟩ := all
  intro j hj
  match j, hj with
  | 0, _ => exact ⟨e0, e1⟩
  | 1, _ => exact ⟨e2, e3⟩
  | 2, _ => exact ⟨e4, e5⟩
  | 3, _ => exact ⟨e6, e7⟩
theorem ni_drew (b : Nat) : ∀ (vs : List Value) (o : Nat) (w : World), w.drew.setCells b o vs = (w.setCells b o vs).drew
  | [], _, _ => rfl
  | v :: r, o, w => by
    show ((w.setCell ⟨b, o, none⟩ v).drew).setCells b (o + 1) r = _
    rw [ni_drew b r (o + 1)]; rfl
theorem ni_fz (b : Nat) (p : Addr) : ∀ (vs : List Value) (o : Nat) (w : World), (w.setCells b o vs).frozen? p = w.frozen? p
  | [], _, _ => rfl
  | v :: r, o, w => by rw [World.setCells, ni_fz b p r, World.frozen?_setCell]
theorem ni_fin (B G K : Nat) (a0 b0 x r a1 b1 a2 b2 : Int) (W Z w' : World) (hb : B ≤ G) (hG : G < Z.heap.size) (cs : ∀ j, j < 8 → (Z.cell? ⟨G, j, none⟩).isSome = true) (i0 : Z.cell? ⟨G, 0, none⟩ = some (.int .i64 a0)) (i1 : Z.cell? ⟨G, 1, none⟩ = some (.int .i64 b0))
    (hw' : w' = ((Z.setCells G 2 [.int .i64 x, .int .i64 r]).setCells G 4 [.int .i64 a1, .int .i64 b1, .int .i64 a2, .int .i64 b2]).drew) (gc : 4 ≤ K) (gm : K ≤ 9223372036854775807) (bX : Below B W Z) :
    Pts w' (.slice (some ⟨G, 0, none⟩) 4 K) [(a0, b0), (x, r), (a1, b1), (a2, b2)] ∧ Below B W w' := by
  obtain ⟨Y, hY⟩ : ∃ Y, Y = (Z.setCells G 2 [.int .i64 x, .int .i64 r]).setCells G 4 [.int .i64 a1, .int .i64 b1, .int .i64 a2, .int .i64 b2] := ⟨_, rfl⟩
  have hd : ∀ (Y : World) p, Y.drew.cell? p = Y.cell? p := fun _ _ => rfl
  have hcell := two_in (x := x) (r := r) (a1 := a1) (b1 := b1) (a2 := a2) (b2 := b2) cs i0 i1 w' (.inl fun p => by rw [hw', ← hY]; exact hd Y p)
  have bw : Below B Z w' := by rw [hw']; exact ((nib_cells hb _ _ _).trans (nib_cells hb _ _ _)).drew
  have sw : G < w'.heap.size := by
    have hds : ∀ Y : World, Y.drew.heap.size = Y.heap.size := fun _ => rfl
    rw [hw', hds, ni_size, ni_size]; exact hG
  exact ⟨⟨_, K, rfl, ⟨gc, gm⟩, .inr ⟨G, 0, rfl, sw, hcell⟩⟩, bX.trans bw⟩
set_option maxHeartbeats 4000000 in
theorem ins1_any (u : Value) (x r a0 b0 a1 b1 a2 b2 : Int) (B : Nat) (w : World) (T : TypeId) (h : OwnP w B u [(a0, b0), (a1, b1), (a2, b2)]) (hB : B ≤ w.heap.size) :
    Calls Tryd.prog 31 #[u, .int .i64 1, .slice (some ⟨w.heap.size, 0, none⟩) 1 1] (w.alloc (.cells #[.int .i64 x, .int .i64 r] T)) fun e w' => ∃ z, e = .returned z ∧ Pts w' z [(a0, b0), (x, r), (a1, b1), (a2, b2)] ∧ Below B w w' := by
  have hP := OwnP.pts h
  obtain ⟨_, h2⟩ := h
  rcases h2 with ⟨_, hn0⟩ | ⟨g, cap, cur, rfl, hg, hh, hc, hm, hs, ht⟩
  · exact absurd hn0 (by simp)
  have hlt : g < w.heap.size := (Array.getElem?_eq_some_iff.1 hh).1
  unfold maxLen at hm
  simp only [List.length_cons, List.length_nil] at hc hs
  obtain ⟨a', cap', e', _, hh'⟩ := hP
  simp only [Value.slice.injEq] at e'
  obtain ⟨e1, _, _⟩ := e'
  rcases hh' with hh' | ⟨b', o', rfl, _, hc'⟩
  · simp at hh'
  simp only [Option.some.injEq, Addr.mk.injEq, and_true] at e1
  obtain ⟨rfl, rfl⟩ := e1
  obtain ⟨W, hW⟩ : ∃ W, W = w.alloc (.cells #[.int .i64 x, .int .i64 r] T) := ⟨_, rfl⟩
  have XW : Below w.heap.size w W := by rw [hW]; exact bel_alloc (Below.refl _ _)
  have XB : Below B w W := XW.mono hB
  have hsz : W.heap.size = w.heap.size + 1 := by rw [hW, World.size_alloc]
  have q : ∀ {p : Addr} {v : Value}, w.cell? p = some v → W.cell? p = some v := fun hp => cell_bel hp XW
  have k0 := q (hc' 0 (by simp)).1
  have k1 := q (hc' 0 (by simp)).2
  have k2 := q (hc' 1 (by simp)).1
  have k3 := q (hc' 1 (by simp)).2
  have k4 := q (hc' 2 (by simp)).1
  have k5 := q (hc' 2 (by simp)).2
  have v0 : W.cell? ⟨w.heap.size, 0, none⟩ = some (.int .i64 x) := by rw [hW, World.cell?_alloc_new]; rfl
  have v1 : W.cell? ⟨w.heap.size, 0 + 1, none⟩ = some (.int .i64 r) := by rw [hW, World.cell?_alloc_new]; rfl
  rw [← hW]
  by_cases hr : cap < 4
  · obtain rfl : cap = 3 := by omega
    have sz := insR_size W a0 b0
    have cs : ∀ j, j < 8 → ((insW W a0 b0).cell? ⟨W.heap.size, j, none⟩).isSome = true := fun j hj => by
      rw [insW_cell, Array.getElem?_eq_getElem (by omega)]; rfl
    have i0 : (insW W a0 b0).cell? ⟨W.heap.size, 0, none⟩ = some (.int .i64 a0) := by
      rw [insW_cell]; unfold insR; rw [Array.getElem?_append_left (by simp)]; rfl
    have i1 : (insW W a0 b0).cell? ⟨W.heap.size, 1, none⟩ = some (.int .i64 b0) := by
      rw [insW_cell]; unfold insR; rw [Array.getElem?_append_left (by simp)]; rfl
    have gc := grownCap_ge W 4 3 40
    have gm := grownCap_le_maxLen W 4 3 40 (by unfold maxLen; omega)
    unfold grownCap at gc gm
    refine (ins1_grow g w.heap.size x r a0 b0 a1 b1 a2 b2 W k0 k1 (fun ty dc => ?_) (fun V hv1 hv2 ty dc => ?_)).mono ?_
    · exact run_copy_k (insW W a0 b0) _ _ ty 40 2 W.heap.size 2 3 dc ⟨w.heap.size, 0, none⟩ 1 1 [.int .i64 x, .int .i64 r] Tryd.underlying22 grade_size rfl (get2 (insW_old W a0 b0 v0) (insW_old W a0 b0 v1)) (fun j hj => cs _ (by simp at hj; omega)) (fun j _ => insW_fz W a0 b0 _) (one2 x r)
    · have old : ∀ {j : Nat} {v : Value}, W.cell? ⟨g, j, none⟩ = some v → V.cell? ⟨g, j, none⟩ = some v := fun hp => by
        rw [hv1, World.cell?_setCells_out _ _ _ _ _ (fun e => by simp at e; omega)]
        exact insW_old W a0 b0 hp
      exact run_copy_k V _ _ ty 40 2 W.heap.size 4 2 dc ⟨g, 2, none⟩ 2 2 [.int .i64 a1, .int .i64 b1, .int .i64 a2, .int .i64 b2] Tryd.underlying22 grade_size rfl (get4 (old k2) (old k3) (old k4) (old k5))
        (fun j hj => by
          simp at hj
          rw [hv1, World.cell?_setCells_out _ _ _ _ _ (fun _ _ => .inr (by simp))]
          exact cs _ (by omega)) (fun j _ => by rw [hv2, ni_fz]; exact insW_fz W a0 b0 _) (one4 a1 b1 a2 b2)
    · rintro e w' ⟨rfl, hw'⟩
      have hb : B ≤ W.heap.size := by omega
      obtain ⟨p1, p2⟩ := ni_fin B W.heap.size _ a0 b0 x r a1 b1 a2 b2 W (insW W a0 b0) w' hb (by rw [insW_size]; omega) cs i0 i1 (hw'.trans (ni_drew _ _ _ _)) gc (by unfold maxLen at gm; omega) (insW_bel W a0 b0 hb)
      exact ⟨_, rfl, p1, XB.trans p2⟩
  · have hne : w.heap.size ≠ g := by omega
    have hhW : W.heap[g]? = some (.cells cur 40) := by rw [XW.block g hlt]; exact hh
    have cs : ∀ j, j < 8 → (W.drew.cell? ⟨g, j, none⟩).isSome = true := fun j hj => by
      show (W.cell? ⟨g, j, none⟩).isSome = true
      simp only [World.cell?, hhW]
      rw [if_neg (by simp), Array.getElem?_eq_getElem (by omega)]; rfl
    have fz : ∀ j, W.drew.frozen? ⟨g, j, none⟩ = false := fun j => by
      show W.frozen? ⟨g, j, none⟩ = false
      simp [World.frozen?, hhW]
    refine (ins1_room g w.heap.size cap x r a1 b1 a2 b2 W (by omega) (by omega) (fun lb cb => ?_) (fun ty dc sc => ?_) (fun ty dc => ?_)).mono ?_
    · rw [run_callFunc_extern Tryd.func49 (by kernel_rfl) (by kernel_rfl) (by kernel_rfl) (e := Extern.SlicesOverlaps.overlaps #[22, 22] #[4]) (by kernel_rfl),
        Lib.run_overlaps_apart W 22 4 40 Tryd.underlying22 2 Tryd.sizeOf40 ⟨w.heap.size, 0, none⟩ ⟨g, 4, none⟩ 1 1 lb cb hne T 40 2 cur.size (by rw [hW]; show World.shape? _ w.heap.size = _; unfold World.shape?; rw [show (w.alloc (.cells #[Value.int .i64 x, .int .i64 r] T)).heap[w.heap.size]? = some (.cells #[Value.int .i64 x, .int .i64 r] T) from Array.getElem?_push_size]; rfl) (by simp [World.shape?, hhW]) (by omega) (by rw [hW]; simp [go_sem]) (by rw [hW]; simp [go_sem])]
      rfl
    · exact run_copy_k W.drew _ _ ty 40 2 g 4 2 dc ⟨g, 2, none⟩ 3 sc [.int .i64 a1, .int .i64 b1, .int .i64 a2, .int .i64 b2] Tryd.underlying22 grade_size rfl (get4 k2 k3 k4 k5) (fun j hj => cs _ (by simp at hj; omega)) (fun j _ => fz _) (one4 a1 b1 a2 b2)
    · have old : ∀ {j : Nat} {v : Value}, W.cell? ⟨w.heap.size, j, none⟩ = some v → (W.drew.setCells g 4 [.int .i64 a1, .int .i64 b1, .int .i64 a2, .int .i64 b2]).cell? ⟨w.heap.size, j, none⟩ = some v := fun hp => by
        rw [World.cell?_setCells_out _ _ _ _ _ (fun e => by simp at e; omega)]
        exact hp
      exact run_copy_k _ _ _ ty 40 2 g 2 3 dc ⟨w.heap.size, 0, none⟩ 1 1 [.int .i64 x, .int .i64 r] Tryd.underlying22 grade_size rfl (get2 (old v0) (old v1)) (fun j hj => by
          simp at hj
          rw [World.cell?_setCells_out _ _ _ _ _ (fun _ _ => .inl (by show 2 + j < 4; omega))]
          exact cs _ (by omega)) (fun j _ => by rw [ni_fz]; exact fz _) (one2 x r)
    · rintro e w' ⟨rfl, hw'⟩
      have hcell := two_in cs k0 k1 w' (.inr fun p => by rw [hw'])
      have bw : Below B W w' := by rw [hw']; exact ((Below.refl B W).drew.trans (nib_cells hg _ _ _)).trans (nib_cells hg _ _ _)
      have sw : g < w'.heap.size := by
        rw [hw', ni_size, ni_size]
        show g < W.heap.size
        omega
      exact ⟨_, rfl, ⟨_, _, rfl, ⟨by show 4 ≤ cap; omega, by omega⟩, .inr ⟨g, 0, rfl, sw, hcell⟩⟩, XB.trans bw⟩
end Go.Proofs.YtnoagfpffdalnaaDoor

/- Package density: the example. -/
namespace Go.Proofs.YtnoagfpffdalnaaDoor
open Go.RowKit

def nxL : List (Int × Int) := [(0, 99820), (5000, 93016), (10000, 78924)]
def nxM : List (Int × Int) := [(0, 99820), (2000, 99900), (5000, 93016), (10000, 78924)]
theorem nx_chk : dnI nxL = -1 ∧ dnE nxL = 0 := by decide
theorem nx_ins : dnI nxM = 1 ∧ dnE nxM = 18 := by decide
theorem nx_find : fnI nxL 7000 = 1 ∧ fnE nxL 7000 = 0 := by decide
theorem nx_txt : (pnS nxL).length = 82 ∧ pnE nxL = 0 := ⟨by decide +kernel, by decide⟩
theorem cloneO (v : Value) (l : List (Int × Int)) (w : World) (h : Pts w v l) (h0 : 0 < l.length) (hn : l.length ≤ 1000) :
    Calls Tryd.prog 30 #[v] w fun e w' => ∃ u, e = .returned u ∧ OwnP w' w.heap.size u l ∧ Below w.heap.size w w' := by
  obtain ⟨a, c, rfl, hl, h | ⟨b, off, rfl, hb, hc⟩⟩ := h
  · omega
  · refine (clone_some ⟨b, off, none⟩ l.length c (flat l) w (flat_len l) hn ?_ (flat_one l)).mono fun _ w' ⟨u, g1, g2, _, g4⟩ => ⟨u, g1, g2, g4⟩
    intro j u hj
    obtain ⟨i, hi, ⟨rfl, rfl⟩ | ⟨rfl, rfl⟩⟩ := flat_inv l j u hj
    · rw [Go.WideShapes.add_plain, World.cell?_alloc_lt w _ _ hb]
      exact (hc i hi).1
    · rw [Go.WideShapes.add_plain, World.cell?_alloc_lt w _ _ hb, ← Nat.add_assoc]
      exact (hc i hi).2
set_option maxHeartbeats 16000000 in
set_option maxRecDepth 100000 in
theorem nawake_any (w : World) (hw : CV w) : Calls Tryd.prog 10 #[] w fun e w' => e = .returned (.bool true) ∧ Below w.heap.size w w' := by
  have HW := Lib.hid (fun W (h : Below w.heap.size w W) => hw.below h)
  clear hw
  have P0 := pts_lit w nxL (flat nxL) rfl (by decide)
  have X0 : Below w.heap.size w (w.alloc (.cells (flat nxL).toArray 40)) := bel_alloc (Below.refl _ _)
  have C1 := Lib.hid (fun v W h => dnChk_any v nxL W h)
  have C2 := Lib.hid (fun v W h => dnFn_any v nxL 7000 W h)
  have C3 := Lib.hid (fun v W h => cloneO v nxL W h (by decide) (by decide))
  have C4 := Lib.hid (fun v W h => dnChk_any v nxM W h)
  have C5 := Lib.hid (fun v W h h2 => dnPr_any v nxL W h h2)
  rw [nx_chk.1, nx_chk.2] at C1
  rw [nx_find.1, nx_find.2] at C2
  rw [nx_ins.1, nx_ins.2] at C4
  rw [nx_txt.2] at C5
  have sz : (⟨(pnS nxL).toArray⟩ : ByteArray).size = 82 := by rw [str_size]; exact nx_txt.1
  obtain ⟨S, hS⟩ : ∃ S : ByteArray, S = ⟨(pnS nxL).toArray⟩ := ⟨_, rfl⟩
  unfold str at C5
  rw [← hS] at C5 sz
  clear hS
  replace P0 := Lib.hid P0
  have HB := Lib.hid X0; clear X0
  go_enter Tryd.func10, Tryd.ntmps10
  go_wp2_with fail
  refine (C1.out _ _ P0.out).mono ?_
  rintro e w1 ⟨rfl, h1⟩
  replace P0 := Lib.hid (P0.out.below h1)
  replace HB := Lib.hid (bel_trans HB.out h1); clear h1
  go_wp2_with fail
  refine (C2.out _ _ P0.out).mono ?_
  rintro e w2 ⟨rfl, h1⟩
  replace P0 := Lib.hid (P0.out.below h1)
  replace HB := Lib.hid (bel_trans HB.out h1); clear h1
  go_wp2_with fail
  refine (C3.out _ _ P0.out).mono ?_
  rintro e w3 ⟨u, rfl, ho, h1⟩
  have sz3 := h1.size
  have H3 := Lib.hid h1; clear h1
  have CI := Lib.hid (ins1_any u 2000 99900 0 99820 5000 93016 10000 78924 w2.heap.size w3 40 ho sz3)
  clear ho sz3
  go_wp2_with fail
  refine CI.out.mono ?_
  rintro e w4 ⟨z, rfl, hp4, h4⟩
  have P4 := Lib.hid hp4; clear hp4
  have H4 := Lib.hid (H3.out.trans h4)
  replace P0 := Lib.hid (P0.out.below H4.out)
  replace HB := Lib.hid (bel_trans HB.out H4.out); clear h4 H3 H4
  go_wp2_with fail
  refine (C4.out _ _ P4.out).mono ?_
  rintro e w5 ⟨rfl, h1⟩
  replace P0 := Lib.hid (P0.out.below h1)
  replace HB := Lib.hid (bel_trans HB.out h1); clear h1 P4
  go_wp2_with fail
  refine (C5.out _ _ (HW.out _ HB.out) P0.out).mono ?_
  rintro e w6 ⟨rfl, h1⟩
  replace HB := Lib.hid (bel_trans HB.out h1); clear h1
  go_wp2
  go_returns
  exact ⟨rfl, HB.out⟩
end Go.Proofs.YtnoagfpffdalnaaDoor

/- Layer 16: Few. -/
namespace Go.Proofs.YtnoagfpffdalnaaDoor
open Go.RowKit

def fwB (n : Nat) : Bool := decide (n ≤ 20) || (decide (128 < n) && decide (n ≤ 133))
theorem few_any (v : Value) (l : List (Int × Int)) (w : World) (hv : Pts w v l) :
    Calls Tryd.prog 11 #[v] w fun e w' => e = .returned (.bool (fwB l.length)) ∧ w' = w := by
  obtain ⟨a, cap, rfl, h1, h2⟩ := hv.shape
  by_cases q0 : l.length ≤ 20
  · go_enter Tryd.func11, Tryd.ntmps11
    go_wp2
    go_ret
    exact ⟨ret_bool (by simp [fwB, q0]), rfl⟩
  · by_cases q1 : 128 < l.length
    · go_enter Tryd.func11, Tryd.ntmps11
      go_wp2
      go_ret
      exact ⟨ret_bool (by rw [Bool.eq_iff_iff]; simp [fwB]; omega), rfl⟩
    · go_enter Tryd.func11, Tryd.ntmps11
      go_wp2
      go_ret
      exact ⟨ret_bool (by rw [Bool.eq_iff_iff]; simp [fwB]; omega), rfl⟩
theorem sam_eq {l m : List (Int × Int)} (hl : l.length = m.length) (h : ∀ j, j < l.length → samP (gX l j) (gR l j) (gX m j) (gR m j) = true) : l = m := by
  apply List.ext_getElem hl
  intro i h1 h2
  have := h i h1
  simp only [samP, Bool.and_eq_true, beq_iff_eq, gX, gR, List.getD_eq_getElem?_getD, List.getElem?_eq_getElem h1, List.getElem?_eq_getElem h2, Option.getD_some] at this
  exact Prod.ext this.1 this.2
end Go.Proofs.YtnoagfpffdalnaaDoor

/- The reference of layer 8: Same. -/
namespace Go.Proofs.YtnoagfpffdalnaaDoor
open Go.RowKit

theorem same_lens (a c : Option Addr) (n cap m cap2 : Nat) (w : World) (h : ((n : Int) != (m : Int)) = true) :
    Calls Tryd.prog 18 #[.slice a n cap, .slice c m cap2] w fun e w' => e = .returned (.bool false) ∧ Below w.heap.size w w' := by
  go_enter Tryd.func18, Tryd.ntmps18
  go_wp2
  go_returns
  exact ⟨rfl, Below.refl _ _⟩
theorem same_nil (a c : Option Addr) (cap cap2 : Nat) (w : World) :
    Calls Tryd.prog 18 #[.slice a 0 cap, .slice c 0 cap2] w fun e w' => e = .returned (.bool true) ∧ Below w.heap.size w w' := by
  go_enter Tryd.func18, Tryd.ntmps18
  go_wp2_with fail
  go_loopw [5] (fun ii wr => ii = .int .i64 0 ∧ Hid (Below w.heap.size w wr)) (fun _ _ => 0)
  case atStart => exact ⟨rfl, Below.refl _ _⟩
  case round =>
    obtain ⟨rfl, hB⟩ := hrel
    go_wp2
    go_returns
    exact ⟨rfl, hB.out⟩
set_option maxHeartbeats 4000000 in
theorem same_some (b off b2 off2 n cap cap2 : Nat) (f g f2 g2 : Nat → Int) (S : Bool) (w : World) (n1 : n ≤ 1000) (hb : b < w.heap.size) (hb2 : b2 < w.heap.size)
    (hc : Hid (∀ j, j < n → w.cell? ⟨b, off + j * 2, none⟩ = some (.int .i64 (f j)) ∧ w.cell? ⟨b, off + j * 2 + 1, none⟩ = some (.int .i64 (g j))))
    (hc2 : Hid (∀ j, j < n → w.cell? ⟨b2, off2 + j * 2, none⟩ = some (.int .i64 (f2 j)) ∧ w.cell? ⟨b2, off2 + j * 2 + 1, none⟩ = some (.int .i64 (g2 j))))
    (h1 : Hid ((∃ j, j < n ∧ samP (f j) (g j) (f2 j) (g2 j) = false) → S = false)) (h2 : Hid ((∀ j, j < n → samP (f j) (g j) (f2 j) (g2 j) = true) → S = true)) :
    Calls Tryd.prog 18 #[.slice (some ⟨b, off, none⟩) n cap, .slice (some ⟨b2, off2, none⟩) n cap2] w fun e w' => e = .returned (.bool S) ∧ Below w.heap.size w w' := by
  go_enter Tryd.func18, Tryd.ntmps18
  go_wp2_with fail
  go_loopw [5] (fun ii wr => ∃ k : Nat, k ≤ n ∧ ii = .int .i64 k ∧ Hid (Below w.heap.size w wr) ∧ Hid (∀ j, j < k → samP (f j) (g j) (f2 j) (g2 j) = true)) (fun ii _ => n - (intOf ii).toNat)
  case atStart => exact ⟨0, Nat.zero_le _, rfl, Below.refl _ _, fun j hj => by omega⟩
  case round =>
    obtain ⟨k, hk, rfl, hB, ha⟩ := hrel
    by_cases hlt : k < n
    · have c0 : wr.cell? ⟨b, off + k * 2, none⟩ = some (.int .i64 (f k)) := by rw [(bcell hB.out).1 _ _ hb]; exact (hc.out k hlt).1
      have c1 : wr.cell? ⟨b, off + k * 2 + 1, none⟩ = some (.int .i64 (g k)) := by rw [(bcell hB.out).1 _ _ hb]; exact (hc.out k hlt).2
      have d0 : wr.cell? ⟨b2, off2 + k * 2, none⟩ = some (.int .i64 (f2 k)) := by rw [(bcell hB.out).1 _ _ hb2]; exact (hc2.out k hlt).1
      have d1 : wr.cell? ⟨b2, off2 + k * 2 + 1, none⟩ = some (.int .i64 (g2 k)) := by rw [(bcell hB.out).1 _ _ hb2]; exact (hc2.out k hlt).2
      have HF : Hid (samP (f k) (g k) (f2 k) (g2 k) = false → S = false) := fun h => h1.out ⟨k, hlt, h⟩
      have HT : Hid (samP (f k) (g k) (f2 k) (g2 k) = true → ∀ j, j < k + 1 → samP (f j) (g j) (f2 j) (g2 j) = true) := fun h j hj => by
        by_cases e : j = k
        · rw [e]; exact h
        · exact ha.out j (by omega)
      have l1 : (k : Int) < (n : Int) := by omega
      generalize f k = x at *
      generalize g k = y at *
      generalize f2 k = u at *
      generalize g2 k = v at *
      cases hq : samP x y u v with
      | false =>
        obtain rfl := HF.out hq
        have q1 : ∀ W, (binOp .neq 40 (.agg #[.int .i64 x, .int .i64 y]) (.agg #[.int .i64 u, .int .i64 v])).run Tryd.prog W = .ok (.bool true) W := fun W => by rw [run_neq_point, hq]; rfl
        clear HF HT hq
        go_wp2_with fail
        go_quiet (fail)
        go_wp2
        go_returns
        exact ⟨rfl, bel_trans hB.out (bel_drewN _ _)⟩
      | true =>
        have ha2 := Lib.hid (HT.out hq)
        have q1 : ∀ W, (binOp .neq 40 (.agg #[.int .i64 x, .int .i64 y]) (.agg #[.int .i64 u, .int .i64 v])).run Tryd.prog W = .ok (.bool false) W := fun W => by rw [run_neq_point, hq]; rfl
        clear HF HT hq
        go_wp2_with fail
        go_quiet (fail)
        go_wp2
        go_roundw
        case rel => exact ⟨k + 1, by omega, by go_num, bel_trans hB.out (bel_drewN _ _), ha2⟩
        case measure => simp [intOf]; omega
    · obtain rfl : k = n := by omega
      have hS := h2.out ha.out
      subst hS
      go_wp2
      go_returns
      exact ⟨rfl, hB.out⟩
/-- Same says whether two lists are equal -/
theorem same_any (v u : Value) (l m : List (Int × Int)) (w : World) (hv : Pts w v l) (hu : Pts w u m) (hn : l.length ≤ 1000) :
    Calls Tryd.prog 18 #[v, u] w fun e w' => e = .returned (.bool (l == m)) ∧ Below w.heap.size w w' := by
  obtain ⟨a, cap, rfl, hl, hh⟩ := hv
  obtain ⟨c, cap2, rfl, hl2, hh2⟩ := hu
  by_cases hlen : l.length = m.length
  · rcases hh with hh | ⟨b, off, rfl, hb, hc⟩
    · have e1 := List.length_eq_zero_iff.1 hh
      have e2 := List.length_eq_zero_iff.1 (hlen ▸ hh)
      subst e1 e2
      exact same_nil a c cap cap2 w
    · rcases hh2 with hh2 | ⟨b2, off2, rfl, hb2, hc2⟩
      · have e2 := List.length_eq_zero_iff.1 hh2
        have e1 := List.length_eq_zero_iff.1 (hlen.trans hh2)
        subst e1 e2
        exact same_nil _ c cap cap2 w
      · rw [← hlen] at hc2 ⊢
        refine same_some b off b2 off2 l.length cap cap2 (gX l) (gR l) (gX m) (gR m) _ w hn hb hb2 hc hc2 (fun ⟨j, hj, h⟩ => ?_) (fun h => ?_)
        · rw [beq_eq_false_iff_ne]
          intro e
          subst e
          simp [samP] at h
        · rw [beq_iff_eq]; exact sam_eq hlen h
  · have := same_lens a c l.length cap m.length cap2 w (by simpa using fun e : (l.length : Int) = m.length => hlen (by omega))
    refine this.mono fun _ _ g => ⟨?_, g.2⟩
    rw [g.1]
    congr 2
    symm
    rw [beq_eq_false_iff_ne]
    intro e; exact hlen (by rw [e])
end Go.Proofs.YtnoagfpffdalnaaDoor

/- How the arguments of the statements about layer 16 are opened; the listed variables. -/
namespace Go.Proofs.YtnoagfpffdalnaaDoor
open Go.ChangeShapes Go.WideShapes Go.ChangeAt Go.RowKit Go.Joins

theorem gPow : Tryd.prog.globalNamed "internal/strconv.uint64pow10" = some 0 := by kernel_rfl
theorem laid_of {W : World} {l : List (String × DataW Unit)} (hp : l = [("math/bits.deBruijn32tab", Rows.laid_math_bits_deBruijn32tab), ("math/bits.deBruijn64tab", Rows.laid_math_bits_deBruijn64tab), ("internal/strconv.uint64pow10", Rows.laid_internal_strconv_uint64pow10)]) (h : laidMetH Tryd.prog l W) (hS : W.ShapedOpen Tryd.prog) : CV W := by
  subst hp
  rw [MakeChecks.laidMetH_plain _ _ _ (by kernel_rfl)] at h
  exact ⟨tab_of h (.tail _ (.tail _ (.head _))) (by kernel_rfl) gPow (by kernel_rfl) (t := 100) Tryd.underlying100 Tryd.underlying89 (by kernel_rfl) (by kernel_rfl), Tryd.laysM138.s1_3 W hS⟩
theorem wf_u8 {n : Int} (h : (Lit.int .u8 n).wf = true) : 0 ≤ n ∧ n ≤ 255 := by
  have := bounds_u8 h
  omega
end Go.Proofs.YtnoagfpffdalnaaDoor

/- Package density: Cut. -/
namespace Go.Proofs.YtnoagfpffdalnaaDoor
open Go.RowKit

def cutE (l : List (Int × Int)) (f t : Int) : Int := if dnE l ≠ 0 then 1 else if (0 ≤ f ∧ f ≤ 10000) ∧ (0 ≤ t ∧ t ≤ 10000) ∧ f ≤ t then 0 else 2
def cutL (l : List (Int × Int)) (f t : Int) : List (Int × Int) := if cutE l f t = 0 then (l.take (rcN l (t + 1))).drop (rcN l f) else []
theorem cutE_zero {l : List (Int × Int)} {f t : Int} : cutE l f t = 0 ↔ DR l ∧ (0 ≤ f ∧ f ≤ 10000) ∧ (0 ≤ t ∧ t ≤ 10000) ∧ f ≤ t := by
  unfold cutE
  by_cases h : dnE l = 0
  · rw [if_neg (by omega)]
    have hD := dnE_zero.1 h
    by_cases g : (0 ≤ f ∧ f ≤ 10000) ∧ (0 ≤ t ∧ t ≤ 10000) ∧ f ≤ t
    · rw [if_pos g]; exact ⟨fun _ => ⟨hD, g⟩, fun _ => rfl⟩
    · rw [if_neg g]; exact ⟨fun e => (by cases e), fun e => absurd e.2 g⟩
  · rw [if_pos h]; exact ⟨fun e => (by cases e), fun e => absurd (dnE_zero.2 e.1) h⟩
theorem rcN_le {l : List (Int × Int)} (h : DR l) {x y : Int} (hxy : x ≤ y) : rcN l x ≤ rcN l y := by
  obtain ⟨a1, a2, a3⟩ := rcN_spec h x
  obtain ⟨b1, b2, b3⟩ := rcN_spec h y
  rcases Nat.lt_or_ge (rcN l y) (rcN l x) with g | g
  · have p := a2 (rcN l y) g
    have q := b3 (rcN l y) (Nat.le_refl _) (by omega)
    omega
  · exact g
theorem cutL_len (l : List (Int × Int)) (f t : Int) : (cutL l f t).length ≤ l.length := by
  unfold cutL
  split
  · rw [List.length_drop, List.length_take]; omega
  · simp
theorem Pts.part {W : World} {a : Option Addr} {n cap : Nat} {l : List (Int × Int)} (h : Pts W (.slice a n cap) l) {i k : Nat} (hi : i ≤ k) (hk : k ≤ n) : Pts W (sliced a i k cap 2) ((l.take k).drop i) := by
  have hl := h.len
  obtain ⟨a', cap', e, ⟨hc1, hc2⟩, hh⟩ := h
  simp only [Value.slice.injEq] at e
  obtain ⟨rfl, rfl, rfl⟩ := e
  have len : ((l.take k).drop i).length = k - i := by rw [List.length_drop, List.length_take]; omega
  unfold sliced
  by_cases h0 : i = k
  · exact ⟨_, cap - i, by rw [len], by rw [len]; omega, .inl (by rw [len]; omega)⟩
  · rcases hh with hh | ⟨b, off, rfl, hb, hcs⟩
    · omega
    · rw [if_neg (by omega)]
      refine ⟨some ⟨b, off + i * 2, none⟩, cap - i, by rw [len]; simp [Go.WideShapes.add_plain], by rw [len]; omega, .inr ⟨b, off + i * 2, rfl, hb, fun j hj => ?_⟩⟩
      rw [len] at hj
      have := hcs (i + j) (by omega)
      have gx : gX ((l.take k).drop i) j = gX l (i + j) ∧ gR ((l.take k).drop i) j = gR l (i + j) := by
        unfold gX gR
        simp only [List.getD_eq_getElem?_getD, List.getElem?_drop, List.getElem?_take]
        rw [if_pos (by omega)]
        exact ⟨rfl, rfl⟩
      rw [gx.1, gx.2]
      rw [Nat.add_mul, ← Nat.add_assoc] at this
      exact this
set_option maxRecDepth 100000 in
theorem sl_both (a : Option Addr) (n cap i k : Nat) (h : i ≤ k) (hk : k ≤ n) (hc : n ≤ cap) (w : World) :
    (Instr.slice 22 (.slice a n cap) (some (.int .i64 i)) (some (.int .i64 k)) none).run Tryd.prog w = .ok (sliced a i k cap 2) w := by
  have := run_slice_lh (P := Tryd.prog) (w := w) 22 a n cap Tryd.underlying22 .i64 .i64 (i : Int) (k : Int) (by omega) (by omega) (by omega)
  exact this
set_option maxHeartbeats 8000000 in
theorem dnCut_any (v : Value) (l : List (Int × Int)) (f t : Int) (w : World) (hv : Pts w v l) :
    Calls Tryd.prog 16 #[v, .int .i64 f, .int .i64 t] w fun e w' => ∃ u, e = .returned (.tuple #[u, .int .i64 (cutE l f t)]) ∧ Pts w' u (cutL l f t) ∧ Below w.heap.size w w' := by
  have HR := Lib.hid (dnRt_any v l w hv)
  have HF := Lib.hid (fun W => dnSt_any f W)
  have HT := Lib.hid (fun W => dnSt_any t W)
  by_cases he : dnE l = 0
  · have hD := dnE_zero.1 he
    rw [show (dnE l == 0) = true by simpa using he] at HR
    by_cases g : (0 ≤ f ∧ f ≤ 10000) ∧ (0 ≤ t ∧ t ≤ 10000) ∧ f ≤ t
    · obtain ⟨gf, gt, ft⟩ := g
      have e0 : cutE l f t = 0 := cutE_zero.2 ⟨hD, gf, gt, ft⟩
      have eL : cutL l f t = (l.take (rcN l (t + 1))).drop (rcN l f) := by unfold cutL; rw [if_pos e0]
      have n1 := hD.n1
      have r1 := (rcN_spec hD (t + 1)).1
      have r2 := rcN_le hD (x := f) (y := t + 1) (by omega)
      have C1 := Lib.hid (fun W (hW : Below w.heap.size w W) => dnRc_any v l f W (hv.below hW) hD)
      have C2 := Lib.hid (fun W (hW : Below w.heap.size w W) => dnRc_any v l (t + 1) W (hv.below hW) hD)
      rw [decide_eq_true gf] at HF
      rw [decide_eq_true gt] at HT
      have wt : IntKind.i64.wrap (t + 1) = t + 1 := wrap_in _ ⟨by omega, by omega⟩
      have dft : decide (t < f) = false := decide_eq_false (by omega)
      rw [e0, eL]
      generalize rcN l (t + 1) = k at *
      generalize rcN l f = i at *
      have hv2 := hv
      obtain ⟨a, cap, rfl, hcap, _⟩ := hv.shape
      have SL := sl_both a l.length cap i k r2 r1 hcap
      have PP := Lib.hid (fun W (hW : Below w.heap.size w W) => (hv2.below hW).part r2 r1)
      have len : ((l.take k).drop i).length ≤ 1000 := by rw [List.length_drop, List.length_take]; omega
      have CC := Lib.hid (fun v W h => clone_p v ((l.take k).drop i) W h len)
      generalize sliced a i k cap 2 = sv at *
      generalize (l.take k).drop i = L at *
      generalize l.length = n at *
      clear e0 eL he hv hv2 hD
      go_enter Tryd.func16, Tryd.ntmps16
      go_wp2_with fail
      refine HR.out.mono ?_
      rintro e w1 ⟨rfl, gg⟩
      have X := Lib.hid gg; clear gg
      go_wp2_with fail
      refine (HF.out _).mono ?_
      rintro e w2 ⟨rfl, hw⟩
      subst hw
      go_wp2_with fail
      refine (HT.out _).mono ?_
      rintro e w3 ⟨rfl, hw⟩
      subst hw
      go_wp2_with fail
      refine (C1.out _ X.out).mono ?_
      rintro e w4 ⟨rfl, gg⟩
      replace X := Lib.hid (bel_trans X.out gg); clear gg
      go_wp2_with fail
      refine (C2.out _ X.out).mono ?_
      rintro e w5 ⟨rfl, gg⟩
      replace X := Lib.hid (bel_trans X.out gg); clear gg
      go_wp2_with fail
      refine (CC.out _ _ (PP.out _ X.out)).mono ?_
      rintro e w6 ⟨u, rfl, hu, gg⟩
      have PU := Lib.hid hu
      replace X := Lib.hid (bel_trans X.out gg); clear gg hu
      go_wp2
      go_returns
      exact ⟨u, rfl, PU.out, X.out⟩
    · have e0 : cutE l f t = 2 := by unfold cutE; rw [if_neg (by omega), if_neg g]
      have eL : cutL l f t = [] := by unfold cutL; rw [if_neg (by omega)]
      rw [e0, eL]
      by_cases gf : 0 ≤ f ∧ f ≤ 10000
      · rw [decide_eq_true gf] at HF
        by_cases gt : 0 ≤ t ∧ t ≤ 10000
        · rw [decide_eq_true gt] at HT
          have dft : decide (t < f) = true := decide_eq_true (by omega)
          clear g e0 eL
          go_enter Tryd.func16, Tryd.ntmps16
          go_wp2_with fail
          refine HR.out.mono ?_
          rintro e w1 ⟨rfl, gg⟩
          have X := Lib.hid gg; clear gg
          go_wp2_with fail
          refine (HF.out _).mono ?_
          rintro e w2 ⟨rfl, hw⟩
          subst hw
          go_wp2_with fail
          refine (HT.out _).mono ?_
          rintro e w3 ⟨rfl, hw⟩
          subst hw
          go_wp2
          go_returns
          exact ⟨_, rfl, pts_nil _, X.out⟩
        · rw [decide_eq_false gt] at HT
          clear g e0 eL
          go_enter Tryd.func16, Tryd.ntmps16
          go_wp2_with fail
          refine HR.out.mono ?_
          rintro e w1 ⟨rfl, gg⟩
          have X := Lib.hid gg; clear gg
          go_wp2_with fail
          refine (HF.out _).mono ?_
          rintro e w2 ⟨rfl, hw⟩
          subst hw
          go_wp2_with fail
          refine (HT.out _).mono ?_
          rintro e w3 ⟨rfl, hw⟩
          subst hw
          go_wp2
          go_returns
          exact ⟨_, rfl, pts_nil _, X.out⟩
      · rw [decide_eq_false gf] at HF
        clear g e0 eL
        go_enter Tryd.func16, Tryd.ntmps16
        go_wp2_with fail
        refine HR.out.mono ?_
        rintro e w1 ⟨rfl, gg⟩
        have X := Lib.hid gg; clear gg
        go_wp2_with fail
        refine (HF.out _).mono ?_
        rintro e w2 ⟨rfl, hw⟩
        subst hw
        go_wp2
        go_returns
        exact ⟨_, rfl, pts_nil _, X.out⟩
  · have e0 : cutE l f t = 1 := by unfold cutE; rw [if_pos he]
    have eL : cutL l f t = [] := by unfold cutL; rw [if_neg (by omega)]
    rw [e0, eL]
    rw [show (dnE l == 0) = false by simpa using he] at HR
    go_enter Tryd.func16, Tryd.ntmps16
    go_wp2_with fail
    refine HR.out.mono ?_
    rintro e w1 ⟨rfl, gg⟩
    have X := Lib.hid gg; clear gg
    go_wp2
    go_returns
    exact ⟨_, rfl, pts_nil _, X.out⟩
end Go.Proofs.YtnoagfpffdalnaaDoor

/- Rows of the call's own. -/
namespace Go.Proofs.YtnoagfpffdalnaaDoor
open Go.RowKit

namespace RG
theorem info_parts {P : Program} {t : TypeId} {z : Value} {s by' : Nat} (h : (P.info? t).map (fun i => (i.zero, i.size, i.bytes)) = some (some z, s, by')) : ∃ i, P.info? t = some i ∧ i.zero = some z ∧ i.size = s ∧ i.bytes = by' := by
  cases hi : P.info? t with
  | none => rw [hi] at h; cases h
  | some i => rw [hi] at h; simp at h; exact ⟨i, rfl, h.1, h.2.1, h.2.2⟩
theorem mk_info : (Tryd.prog.info? 40).map (fun i => (i.zero, i.size, i.bytes)) = some (some (.agg #[.int .i64 0, .int .i64 0]), 2, 16) := by kernel_rfl
theorem row_belM {W W' : World} {B n size : Nat} {e : TypeId} {v : Value} {xs : List Value} (h : W.ownsRow B e size v n xs) (hb : Below W.heap.size W W') : W'.ownsRow B e size v n xs := by
  obtain ⟨h1, h2⟩ := h
  refine ⟨h1, ?_⟩
  rcases h2 with ⟨h2, h3⟩ | ⟨g, cap, cur, h2, hg, hh, r⟩
  · exact .inl ⟨h2, h3⟩
  · refine .inr ⟨g, cap, cur, h2, hg, ?_, r⟩
    rw [hb.block _ (Array.getElem?_eq_some_iff.1 hh).1]
    exact hh
def OwnM (w : World) (B : Nat) (v : Value) (l : List (Int × Int)) : Prop := w.ownsRow B 40 2 v l.length (flat l)
theorem nil (W : World) (B : Nat) : OwnM W B (.slice none 0 0) [] := World.ownsRow_nil _ _ _ _
theorem below {W W' : World} {B : Nat} {v : Value} {l : List (Int × Int)} (h : OwnM W B v l) (hb : Below W.heap.size W W') : OwnM W' B v l := row_belM h hb
theorem pts {w : World} {B : Nat} {v : Value} {l : List (Int × Int)} (h : OwnM w B v l) : Pts w v l := by
  have h' := h
  obtain ⟨_, h2⟩ := h
  rcases h2 with ⟨rfl, hn⟩ | ⟨g, cap, cur, rfl, hg, hh, hc, hm, hs, ht⟩
  · exact ⟨none, 0, by rw [hn], by omega, .inl hn⟩
  · have hlt : g < w.heap.size := (Array.getElem?_eq_some_iff.1 hh).1
    unfold maxLen at hm
    refine ⟨_, cap, rfl, ⟨hc, by omega⟩, .inr ⟨g, 0, rfl, hlt, fun j hj => ?_⟩⟩
    have hcell := World.ownsRow.cells h' (g := g) rfl
    have hf := flat_at l j hj
    have c0 := hcell _ _ hf.1
    have c1 := hcell _ _ hf.2
    rw [Go.WideShapes.add_plain] at c0 c1
    exact ⟨c0, by rw [Nat.add_assoc]; exact c1⟩
theorem flat_two (x y : Int) : flat [(x, y)] = [.int .i64 x, .int .i64 y] := rfl
theorem pair_new (w : World) (y0 y1 : Int) (T : TypeId) (j : Nat) (u : Value) (hj : [Value.int .i64 y0, .int .i64 y1][j]? = some u) : (w.alloc (.cells #[.int .i64 y0, .int .i64 y1] T)).cell? ((⟨w.heap.size, 0, none⟩ : Addr).add j) = some u := by
  obtain ⟨n0, n1, _, _, _⟩ := Two.new w (.int .i64 y0) (.int .i64 y1) T
  rw [Go.WideShapes.add_plain, Nat.zero_add]
  match j, hj with
  | 0, hj => simp at hj; rw [← hj]; exact n0
  | 1, hj => simp at hj; rw [← hj]; exact n1
  | j + 2, hj => simp at hj
theorem pair_one (y0 y1 : Int) : ∀ u ∈ [Value.int .i64 y0, .int .i64 y1], u.oneCell' = true := by
  intro u hu; simp at hu; rcases hu with rfl | rfl <;> rfl
theorem push {W : World} {B k : Nat} {v : Value} {l m : List (Int × Int)} {y0 y1 : Int} (e : m = l ++ [(y0, y1)]) (hk : l.length = k) (h : W.ownsRow B 40 2 v (k + 1) (flat l ++ [.int .i64 y0, .int .i64 y1])) : OwnM W B v m := by
  rw [e]
  unfold OwnM
  rw [flat_app, flat_two, List.length_append, hk]
  exact h
/-- what the loop of Make keeps -/
def MkI (w1 : World) (v : Value) (L : List (Int × Int)) (W : World) : Prop := Below w1.heap.size w1 W ∧ OwnM W w1.heap.size v L
theorem MkI.below {w1 : World} {v : Value} {L : List (Int × Int)} {W W' : World} (h : MkI w1 v L W) (hb : Below W.heap.size W W') : MkI w1 v L W' := ⟨bel_trans h.1 hb, RG.below h.2 hb⟩
theorem shape {W : World} {B : Nat} {v : Value} {L : List (Int × Int)} (h : OwnM W B v L) : ∃ a cap, v = .slice a L.length cap := by
  obtain ⟨a, cap, e, _⟩ := pts h
  exact ⟨a, cap, e⟩
end RG
end Go.Proofs.YtnoagfpffdalnaaDoor

/- Package density's reference: Cut. -/
namespace Go.Proofs.YtnoagfpffdalnaaDoor
open Go.RowKit

/-- the first rows that lie between two strengths -/
def ctF (l : List (Int × Int)) (f t : Int) : Nat → List (Int × Int)
  | 0 => []
  | k + 1 => if f ≤ gX l k ∧ gX l k ≤ t then ctF l f t k ++ [(gX l k, gR l k)] else ctF l f t k
theorem ctF_len (l : List (Int × Int)) (f t : Int) : ∀ k, (ctF l f t k).length ≤ k
  | 0 => Nat.le_refl _
  | k + 1 => by have := ctF_len l f t k; unfold ctF; split <;> simp <;> omega
theorem take_gx (l : List (Int × Int)) {k : Nat} (hk : k < l.length) : l.take (k + 1) = l.take k ++ [(gX l k, gR l k)] := by
  have e : (gX l k, gR l k) = l[k] := by simp [gX, gR, List.getD_eq_getElem?_getD, List.getElem?_eq_getElem hk]
  rw [List.take_succ_eq_append_getElem hk, e]
theorem ctF_is {l : List (Int × Int)} (h : DR l) {f t : Int} (ft : f ≤ t) : ∀ k, k ≤ l.length → ctF l f t k = (l.take (min k (rcN l (t + 1)))).drop (rcN l f)
  | 0, _ => by simp [ctF]
  | k + 1, hk => by
    have ih := ctF_is h ft k (by omega)
    obtain ⟨a1, a2, a3⟩ := rcN_spec h f
    obtain ⟨b1, b2, b3⟩ := rcN_spec h (t + 1)
    unfold ctF
    rw [ih]
    by_cases c2 : k < rcN l (t + 1)
    · rw [Nat.min_eq_left (show k ≤ rcN l (t + 1) by omega), Nat.min_eq_left (show k + 1 ≤ rcN l (t + 1) by omega)]
      have p2 := b2 k c2
      rw [take_gx l (show k < l.length by omega)]
      by_cases c1 : rcN l f ≤ k
      · have p1 := a3 k c1 (by omega)
        rw [if_pos ⟨p1, by omega⟩, List.drop_append_of_le_length (by rw [List.length_take]; omega)]
      · have p1 := a2 k (by omega)
        rw [if_neg (by omega), List.drop_eq_nil_of_le (by rw [List.length_take]; omega), List.drop_eq_nil_of_le (by rw [List.length_append, List.length_take, List.length_singleton]; omega)]
    · have p2 := b3 k (by omega) (by omega)
      rw [if_neg (by omega), Nat.min_eq_right (by omega), Nat.min_eq_right (by omega)]
theorem ctF_cut {l : List (Int × Int)} {f t : Int} (h : cutE l f t = 0) : ctF l f t l.length = cutL l f t := by
  obtain ⟨hD, _, _, ft⟩ := cutE_zero.1 h
  rw [ctF_is hD ft _ (Nat.le_refl _), Nat.min_eq_right (rcN_spec hD (t + 1)).1]
  unfold cutL
  rw [if_pos h]
set_option maxHeartbeats 32000000 in
set_option maxRecDepth 100000 in
theorem rnCt_ok (b off n cap : Nat) (l : List (Int × Int)) (f t : Int) (w : World) (n1 : n ≤ 128) (hb : b < w.heap.size) (gf : 0 ≤ f ∧ f ≤ 10000) (gt : 0 ≤ t ∧ t ≤ 10000) (ft : f ≤ t)
    (hc : Hid (∀ j, j < n → w.cell? ⟨b, off + j * 2, none⟩ = some (.int .i64 (gX l j)) ∧ w.cell? ⟨b, off + j * 2 + 1, none⟩ = some (.int .i64 (gR l j))))
    (H : Hid (Calls Tryd.prog 36 #[.slice (some ⟨b, off, none⟩) n cap] w fun e w' => e = .returned (.bool true) ∧ Below w.heap.size w w')) :
    Calls Tryd.prog 17 #[.slice (some ⟨b, off, none⟩) n cap, .int .i64 f, .int .i64 t] w fun e w' => ∃ u, e = .returned (.tuple #[u, .int .i64 0]) ∧ Pts w' u (ctF l f t n) ∧ Below w.heap.size w w' := by
  obtain ⟨i0, hi, hz0, hz1, hz2⟩ := RG.info_parts RG.mk_info
  replace hi := Lib.hid hi
  replace hz0 := Lib.hid hz0
  replace hz1 := Lib.hid hz1
  replace hz2 := Lib.hid hz2
  have d1 : decide (f < 0) = false := decide_eq_false (by omega)
  have d2 : decide (10000 < f) = false := decide_eq_false (by omega)
  have d3 : decide (t < 0) = false := decide_eq_false (by omega)
  have d4 : decide (10000 < t) = false := decide_eq_false (by omega)
  have d5 : decide (t < f) = false := decide_eq_false (by omega)
  go_enter Tryd.func17, Tryd.ntmps17
  go_wp2_with fail
  refine H.out.mono ?_
  rintro e w1 ⟨rfl, gg⟩
  have X1 := Lib.hid gg; clear gg
  have S0 : Hid (RG.MkI w (.slice (some ⟨w1.heap.size, 0, none⟩) 0 0) (ctF l f t 0) (w1.alloc (.cells #[] 40))) := Lib.hid ⟨bel_trans X1.out (bel_alloc (Below.refl _ _)), World.ownsRow_made w1 #[] 0 X1.out.size (Nat.zero_le _) (by simp)⟩
  go_wp2_with fail
  go_loopw [8, 9] (fun v ii wr => ∃ k : Nat, k ≤ n ∧ ii = .int .i64 (k : Int) ∧ Hid (RG.MkI w v (ctF l f t k) wr)) (fun _ ii _ => n - (intOf ii).toNat)
  case atStart => exact ⟨0, Nat.zero_le _, rfl, S0⟩
  case round =>
    clear S0
    obtain ⟨k, hk, rfl, hS⟩ := hrel
    by_cases hlt : k < n
    · have l0 : (k : Int) < (n : Int) := by omega
      obtain ⟨av, cv, ev⟩ := RG.shape hS.out.2
      have c0 := cell_bel (hc.out k hlt).1 hS.out.1
      have c1 := cell_bel (hc.out k hlt).2 hS.out.1
      have hln := ctF_len l f t k
      have PK : Hid (ctF l f t (k + 1) = if f ≤ gX l k ∧ gX l k ≤ t then ctF l f t k ++ [(gX l k, gR l k)] else ctF l f t k) := Lib.hid rfl
      generalize hT : ctF l f t k = T at *
      replace hT := Lib.hid hT
      obtain ⟨q, hq⟩ : ∃ q, T.length = q := ⟨_, rfl⟩
      rw [hq] at ev hln
      subst ev
      replace hq := Lib.hid hq
      generalize gX l k = x at *
      generalize gR l k = r at *
      by_cases e1 : f ≤ x
      · have e1' : decide (f ≤ x) = true := decide_eq_true e1
        by_cases e2 : x ≤ t
        · have e2' : decide (x ≤ t) = true := decide_eq_true e2
          replace PK : Hid (ctF l f t (k + 1) = T ++ [(x, r)]) := Lib.hid (by rw [PK.out, if_pos ⟨e1, e2⟩])
          clear e1 e2
          have OA : Hid ((wr.alloc (.cells #[.int .i64 x, .int .i64 r] 40)).ownsRow w.heap.size 40 2 (.slice av q cv) q (flat T)) := Lib.hid (by
            have := RG.below hS.out.2 (bel_alloc (o := .cells #[.int .i64 x, .int .i64 r] 40) (Below.refl _ _))
            unfold RG.OwnM at this
            rwa [hq.out] at this)
          have CN := Lib.hid (RG.pair_new wr x r 40)
          have S5 := Lib.hid (hS.out.below (bel_alloc (o := .cells #[.int .i64 x, .int .i64 r] 40) (Below.refl _ _)))
          have HS : Hid (w.heap.size ≤ (wr.alloc (.cells #[.int .i64 x, .int .i64 r] 40)).heap.size) := Lib.hid S5.out.1.size
          have M1 : Hid (q + 1 ≤ maxLen) := Lib.hid (by unfold maxLen; omega)
          have M2 : Hid ((q + 1) * 16 ≤ 140737488355328) := Lib.hid (by omega)
          go_wp2_with (at_builtin; refine wpList_append_own_at _ rfl _ _ 22 rfl w.heap.size 40 i0 (.agg #[.int .i64 0, .int .i64 0]) 2 16 Tryd.underlying22 hi.out hz0.out hz1.out hz2.out rfl (by omega) _ _ _ rfl OA.out ⟨wr.heap.size, 0, none⟩ 1 1 [.int .i64 x, .int .i64 r] rfl rfl CN.out (RG.pair_one x r) M1.out M2.out HS.out ?_)
          intro v2 w5 hown hgrow _ _
          have SN : Hid (RG.MkI w v2 (ctF l f t (k + 1)) w5) := Lib.hid (by
            have lt := fun r hr => (World.ownsRow.lt OA.out r hr).1
            exact ⟨S5.out.1.grown hgrow HS.out lt, RG.push PK.out hq.out hown⟩)
          clear hown hgrow OA CN
          go_wp2
          go_roundw
          case rel => exact ⟨k + 1, by omega, by go_num, SN⟩
          case measure => simp [intOf]; omega
        · have e2' : decide (x ≤ t) = false := decide_eq_false e2
          replace PK : Hid (ctF l f t (k + 1) = T) := Lib.hid (by rw [PK.out, if_neg (fun h => e2 h.2)])
          clear e1 e2
          have SN : Hid (RG.MkI w (.slice av q cv) (ctF l f t (k + 1)) wr) := Lib.hid (by rw [PK.out]; exact hS.out)
          go_wp2
          go_roundw
          case rel => exact ⟨k + 1, by omega, by go_num, SN⟩
          case measure => simp [intOf]; omega
      · have e1' : decide (f ≤ x) = false := decide_eq_false e1
        replace PK : Hid (ctF l f t (k + 1) = T) := Lib.hid (by rw [PK.out, if_neg (fun h => e1 h.1)])
        clear e1
        have SN : Hid (RG.MkI w (.slice av q cv) (ctF l f t (k + 1)) wr) := Lib.hid (by rw [PK.out]; exact hS.out)
        go_wp2
        go_roundw
        case rel => exact ⟨k + 1, by omega, by go_num, SN⟩
        case measure => simp [intOf]; omega
    · obtain rfl : n = k := by omega
      have PF := Lib.hid (RG.pts hS.out.2)
      have XF := Lib.hid hS.out.1
      clear hS
      go_wp2
      go_returns
      exact ⟨_, rfl, PF.out, XF.out⟩
set_option maxHeartbeats 8000000 in
theorem rnCt_any (v : Value) (l : List (Int × Int)) (f t : Int) (w : World) (hv : Pts w v l) :
    Calls Tryd.prog 17 #[v, .int .i64 f, .int .i64 t] w fun e w' => ∃ u, e = .returned (.tuple #[u, .int .i64 (cutE l f t)]) ∧ Pts w' u (cutL l f t) ∧ Below w.heap.size w w' := by
  have HR := Lib.hid (rnRt_any v l w hv)
  by_cases he : dnE l = 0
  · have hD := dnE_zero.1 he
    rw [show (dnE l == 0) = true by simpa using he] at HR
    by_cases g : (0 ≤ f ∧ f ≤ 10000) ∧ (0 ≤ t ∧ t ≤ 10000) ∧ f ≤ t
    · obtain ⟨gf, gt, ft⟩ := g
      have e0 : cutE l f t = 0 := cutE_zero.2 ⟨hD, gf, gt, ft⟩
      rw [e0, ← ctF_cut e0]
      have n0 := hD.n0
      obtain ⟨a, cap, rfl, hl, hh⟩ := hv
      rcases hh with hh | ⟨b, off, rfl, hb, hc⟩
      · omega
      exact rnCt_ok b off l.length cap l f t w hD.n1 hb gf gt ft (Lib.hid hc) HR
    · have e0 : cutE l f t = 2 := by unfold cutE; rw [if_neg (by omega), if_neg g]
      have eL : cutL l f t = [] := by unfold cutL; rw [if_neg (by omega)]
      rw [e0, eL]
      have dd : (decide (f < 0) = true) ∨ (decide (f < 0) = false ∧ decide (10000 < f) = true) ∨ (decide (f < 0) = false ∧ decide (10000 < f) = false ∧ decide (t < 0) = true) ∨ (decide (f < 0) = false ∧ decide (10000 < f) = false ∧ decide (t < 0) = false ∧ decide (10000 < t) = true) ∨ (decide (f < 0) = false ∧ decide (10000 < f) = false ∧ decide (t < 0) = false ∧ decide (10000 < t) = false ∧ decide (t < f) = true) := by
        simp only [decide_eq_true_eq, decide_eq_false_iff_not]; omega
      clear g e0 eL
      rcases dd with d1 | ⟨d1, d2⟩ | ⟨d1, d2, d3⟩ | ⟨d1, d2, d3, d4⟩ | ⟨d1, d2, d3, d4, d5⟩
      all_goals
        go_enter Tryd.func17, Tryd.ntmps17
        go_wp2_with fail
        refine HR.out.mono ?_
        rintro e w1 ⟨rfl, gg⟩
        have X := Lib.hid gg; clear gg
        go_wp2
        go_returns
        exact ⟨_, rfl, pts_nil _, X.out⟩
  · have e0 : cutE l f t = 1 := by unfold cutE; rw [if_pos he]
    have eL : cutL l f t = [] := by unfold cutL; rw [if_neg (by omega)]
    rw [e0, eL]
    rw [show (dnE l == 0) = false by simpa using he] at HR
    go_enter Tryd.func17, Tryd.ntmps17
    go_wp2_with fail
    refine HR.out.mono ?_
    rintro e w1 ⟨rfl, gg⟩
    have X := Lib.hid gg; clear gg
    go_wp2
    go_returns
    exact ⟨_, rfl, pts_nil _, X.out⟩
end Go.Proofs.YtnoagfpffdalnaaDoor

/- Package density's reference: At, Find. -/
namespace Go.Proofs.YtnoagfpffdalnaaDoor
open Go.RowKit

/-- the last of the first rows whose strength is not greater -/
def atN (l : List (Int × Int)) (s : Int) : Nat → Nat
  | 0 => 0
  | k + 1 => if gX l k ≤ s then k else atN l s k
theorem atN_is {l : List (Int × Int)} (h : DR l) {s : Int} (hs : 0 ≤ s) : ∀ k, k ≤ l.length → 1 ≤ k → (atN l s k : Int) = if k ≤ rcN l (s + 1) then (k : Int) - 1 else (rcN l (s + 1) : Int) - 1
  | 0, _, h1 => by omega
  | k + 1, hk, _ => by
    obtain ⟨r1, r2, r3⟩ := rcN_spec h (s + 1)
    have rp := rcN_pos h hs
    unfold atN
    by_cases e : gX l k ≤ s
    · rw [if_pos e]
      have : k + 1 ≤ rcN l (s + 1) := by
        rcases Nat.lt_or_ge k (rcN l (s + 1)) with g | g
        · exact g
        · have := r3 k g (by omega); omega
      rw [if_pos this]; omega
    · rw [if_neg e]
      have h2 : ¬ k + 1 ≤ rcN l (s + 1) := fun g => by have := r2 k (by omega); omega
      rw [if_neg h2, atN_is h hs k (by omega) (by omega)]
      by_cases g : k ≤ rcN l (s + 1)
      · rw [if_pos g]; omega
      · rw [if_neg g]
theorem atN_rc {l : List (Int × Int)} (h : DR l) {s : Int} (hs : 0 ≤ s) : (atN l s l.length : Int) = (rcN l (s + 1) : Int) - 1 := by
  have n0 := h.n0
  have r1 := (rcN_spec h (s + 1)).1
  rw [atN_is h hs l.length (Nat.le_refl _) (by omega)]
  split <;> omega
set_option maxHeartbeats 8000000 in
theorem rnAt_some (b off n cap : Nat) (l : List (Int × Int)) (s : Int) (w : World) (n1 : n ≤ 1000) (hb : b < w.heap.size) (hc : Hid (∀ j, j < n → w.cell? ⟨b, off + j * 2, none⟩ = some (.int .i64 (gX l j)))) :
    Calls Tryd.prog 37 #[.slice (some ⟨b, off, none⟩) n cap, .int .i64 s] w fun e w' => e = .returned (.int .i64 (atN l s n : Nat)) ∧ Below w.heap.size w w' := by
  go_enter Tryd.func37, Tryd.ntmps37
  go_wp2_with fail
  go_loopw [5, 6] (fun aa ii wr => ∃ k : Nat, k ≤ n ∧ ii = .int .i64 (k : Int) ∧ aa = .int .i64 (atN l s k : Nat) ∧ Hid (Below w.heap.size w wr)) (fun _ ii _ => n - (intOf ii).toNat)
  case atStart => exact ⟨0, Nat.zero_le _, rfl, rfl, Below.refl _ _⟩
  case round =>
    obtain ⟨k, hk, rfl, rfl, hB⟩ := hrel
    by_cases hlt : k < n
    · have c0 := cell_bel (hc.out k hlt) hB.out
      have l0 : (k : Int) < (n : Int) := by omega
      by_cases e : gX l k ≤ s
      · have hN : Hid (atN l s (k + 1) = k) := Lib.hid (by unfold atN; rw [if_pos e])
        have d0 : decide (gX l k ≤ s) = true := decide_eq_true e
        clear e
        generalize gX l k = y at *
        go_wp2
        go_roundw
        case rel => exact ⟨k + 1, by omega, by go_num, by rw [hN.out], hB⟩
        case measure => simp [intOf]; omega
      · have hN : Hid (atN l s (k + 1) = atN l s k) := Lib.hid (by show (if gX l k ≤ s then k else atN l s k) = _; rw [if_neg e])
        have d0 : decide (gX l k ≤ s) = false := decide_eq_false e
        clear e
        generalize gX l k = y at *
        go_wp2
        go_roundw
        case rel => exact ⟨k + 1, by omega, by go_num, by rw [hN.out], hB⟩
        case measure => simp [intOf]; omega
    · obtain rfl : k = n := by omega
      go_wp2
      go_returns
      exact ⟨rfl, hB.out⟩
theorem rnAt_any (v : Value) (l : List (Int × Int)) (s : Int) (w : World) (hv : Pts w v l) (h : DR l) (hs : 0 ≤ s) :
    Calls Tryd.prog 37 #[v, .int .i64 s] w fun e w' => e = .returned (.int .i64 ((rcN l (s + 1) : Int) - 1)) ∧ Below w.heap.size w w' := by
  have n0 := h.n0
  have n1 := h.n1
  obtain ⟨a, cap, rfl, hl, hh⟩ := hv
  rcases hh with hh | ⟨b, off, rfl, hb, hc⟩
  · omega
  have := rnAt_some b off l.length cap l s w (by omega) hb (Lib.hid fun j hj => (hc j hj).1)
  rwa [atN_rc h hs] at this
set_option maxHeartbeats 8000000 in
theorem rnFn_any (v : Value) (l : List (Int × Int)) (s : Int) (w : World) (hv : Pts w v l) :
    Calls Tryd.prog 15 #[v, .int .i64 s] w fun e w' => e = .returned (.tuple #[.int .i64 (fnI l s), .int .i64 (fnE l s)]) ∧ Below w.heap.size w w' := by
  have HR := Lib.hid (rnRt_any v l w hv)
  by_cases he : dnE l = 0
  · have hD := dnE_zero.1 he
    rw [show (dnE l == 0) = true by simpa using he] at HR
    by_cases h0 : s < 0
    · have e1 : fnE l s = 2 := by unfold fnE; rw [if_neg (by omega), if_neg (by omega)]
      have e2 : fnI l s = 0 := by unfold fnI; rw [if_neg (by omega)]
      rw [e1, e2]
      have d0 : decide (s < 0) = true := decide_eq_true h0
      go_enter Tryd.func15, Tryd.ntmps15
      go_wp2_with fail
      refine HR.out.mono ?_
      rintro e w1 ⟨rfl, gg⟩
      have X := Lib.hid gg; clear gg
      go_wp2
      go_returns
      exact ⟨rfl, X.out⟩
    · have d0 : decide (s < 0) = false := decide_eq_false h0
      by_cases h1 : 10000 < s
      · have e1 : fnE l s = 2 := by unfold fnE; rw [if_neg (by omega), if_neg (by omega)]
        have e2 : fnI l s = 0 := by unfold fnI; rw [if_neg (by omega)]
        rw [e1, e2]
        have d1 : decide (10000 < s) = true := decide_eq_true h1
        go_enter Tryd.func15, Tryd.ntmps15
        go_wp2_with fail
        refine HR.out.mono ?_
        rintro e w1 ⟨rfl, gg⟩
        have X := Lib.hid gg; clear gg
        go_wp2
        go_returns
        exact ⟨rfl, X.out⟩
      · have d1 : decide (10000 < s) = false := decide_eq_false h1
        have HA := Lib.hid (fun W (hW : Below w.heap.size w W) => rnAt_any v l s W (hv.below hW) hD (by omega))
        have e1 : fnE l s = 0 := by unfold fnE; rw [if_neg (by omega), if_pos (by omega)]
        have e2 : fnI l s = (rcN l (s + 1) : Int) - 1 := by unfold fnI; rw [if_pos e1]
        rw [e1, e2]
        generalize (rcN l (s + 1) : Int) - 1 = I at *
        go_enter Tryd.func15, Tryd.ntmps15
        go_wp2_with fail
        refine HR.out.mono ?_
        rintro e w1 ⟨rfl, gg⟩
        have X := Lib.hid gg; clear gg
        go_wp2_with fail
        refine (HA.out _ X.out).mono ?_
        rintro e w2 ⟨rfl, gg⟩
        have X2 := Lib.hid (bel_trans X.out gg); clear gg
        go_wp2
        go_returns
        exact ⟨rfl, X2.out⟩
  · have e1 : fnE l s = 1 := by unfold fnE; rw [if_pos he]
    have e2 : fnI l s = 0 := by unfold fnI; rw [if_neg (by omega)]
    rw [e1, e2]
    rw [show (dnE l == 0) = false by simpa using he] at HR
    go_enter Tryd.func15, Tryd.ntmps15
    go_wp2_with fail
    refine HR.out.mono ?_
    rintro e w1 ⟨rfl, gg⟩
    have X := Lib.hid gg; clear gg
    go_wp2
    go_returns
    exact ⟨rfl, X.out⟩
end Go.Proofs.YtnoagfpffdalnaaDoor
