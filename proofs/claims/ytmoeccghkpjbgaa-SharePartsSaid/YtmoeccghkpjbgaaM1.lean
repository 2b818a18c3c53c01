/- Texts that the proofs of this seat share, one behind the other: Kit, Two, QL0, QA, CB0, QT0, QT1, ND0, IA, AA, Num, Div, OfK, Up, Ref1, Sum, Give, Dvd, Draw, Share, MA, AL0, MB. -/
import Derived.Test.YtmoeccghkpjbgaaProg
import Derived.Test.YtmoeccghkpjbgaaRows
import Derived.Test.YtmoeccghkpjbgaaShelf
import Derived.WalkKit
import Derived.Handy
import Derived.Lib.Hide
import Derived.Lib.LaidTab
import Derived.Lib.LaidU8
import Derived.Lib.ItoaNum
import Derived.Outline
import Derived.Deep.DeepCutAuto
import Derived.Deep.CutBlock
import Derived.Deep.QuietTactic
import Derived.BigQuiet
import Derived.Lib.OwnBridge
import Derived.OwnWalk
import Derived.Shelf.SlicesQ.Reverse
import Derived.Ground.SlgnProg
import Derived.FnLit
import Derived.RangeFuncBox
import Derived.StillTailTactics
import Derived.Lib.BitFns
import Derived.Laws.Bits64
import Derived.Laws.BitsAllLaws
import Derived.Deep.RegionHeld3
import Derived.OneCell
import Derived.Lib.Slices
import Derived.Deep.LoopGhost

set_option linter.unusedVariables false
set_option linter.unusedSimpArgs false

/- What every text of this seat needs: worlds that only grow, the listed variables. -/
namespace Go.Proofs.Ytmoeccghkpjbgaa
open Go.RowKit

theorem bel_alloc {w w' : World} {o : Obj} (h : Below (w.alloc o).heap.size (w.alloc o) w') : Below w.heap.size w w' :=
  ((Below.refl _ _).alloc (Nat.le_refl _) o).trans (h.mono (by simp))
theorem bel_trans {w w1 w2 : World} (h : Below w.heap.size w w1) (h2 : Below w1.heap.size w1 w2) : Below w.heap.size w w2 := h.trans (h2.mono h.size)
theorem bel_drewN (w : World) (n : Nat) : Below w.heap.size w (w.drewN n) := ⟨rfl, rfl, rfl, Nat.le_refl _, fun _ _ => rfl⟩
theorem bel_drew (w : World) : Below w.heap.size w w.drew := ⟨rfl, rfl, rfl, Nat.le_refl _, fun _ _ => rfl⟩
theorem bcell {W w1 : World} (hb : Below W.heap.size W w1) : (∀ b o, b < W.heap.size → w1.cell? ⟨b, o, none⟩ = W.cell? ⟨b, o, none⟩) ∧ (∀ b o, b < W.heap.size → w1.frozen? ⟨b, o, none⟩ = W.frozen? ⟨b, o, none⟩) :=
  ⟨fun b o h => hb.cell (p := ⟨b, o, none⟩) h, fun b o h => hb.frozen (p := ⟨b, o, none⟩) h⟩

theorem var_keep {P : Program} {w w' : World} {n : String} (g : Nat) (hg : P.globalNamed n = some g) (hlt : g < w.heap.size) (hb : Below w.heap.size w w') : w'.var? P n = w.var? P n := by
  simp only [World.var?, hg, Option.bind_some]
  rw [hb.block g hlt]
theorem tab_keep {P : Program} {w w' : World} {n : String} {k : IntKind} {zs : List Int} (g : Nat) (hg : P.globalNamed n = some g) (hz : 0 < zs.length) (h : Lib.TabIs P w n k zs) (hb : Below w.heap.size w w') : Lib.TabIs P w' n k zs := by
  unfold Lib.TabIs at *
  rw [var_keep g hg ?_ hb, h]
  have := Lib.TabIs.cell (P := P) (W := w) h hg 0 hz
  exact World.block_lt_of_cell? w ⟨g, 0, none⟩ this

/-- a listed table of integers -/
theorem tab_of {P : Program} {W : World} {l : List (String × DataW Unit)} {name : String} {d : DataW Unit} {k : IntKind} {zs : List Int} {g : Nat} {t e : TypeId} {n : Nat}
    (h : laidMet P l W) (hm : (name, d) ∈ l) (hd : d = Lib.tabData k zs)
    (hg : P.globalNamed name = some g) (hty : (P.globals[g]?).map (·.type) = some t) (ht : P.underlying t = some (.array n e)) (he : P.underlying e = some (.int k)) (hce : P.cellsOf e = 1) (hct : P.cellsOf t = n) : Lib.TabIs P W name k zs := by
  subst hd
  obtain ⟨g', t', cs, fuel, p, hg', ht', hvar, hr⟩ := Lib.laidMet.reads h hm
  obtain rfl := Option.some.inj (hg.symm.trans hg')
  obtain rfl := Option.some.inj (hty.symm.trans ht')
  unfold Lib.TabIs
  rw [hvar, ← Lib.cells_of_tab ht he hce hct hr]

theorem wrap_wrap_add (a b : Int) : IntKind.i64.wrap (IntKind.i64.wrap a + b) = IntKind.i64.wrap (a + b) := by simp only [IntKind.wrap_i64]; omega
theorem wrap_wrap_sub (a b : Int) : IntKind.i64.wrap (IntKind.i64.wrap a - b) = IntKind.i64.wrap (a - b) := by simp only [IntKind.wrap_i64]; omega
theorem wrap_add_wrap (a b : Int) : IntKind.i64.wrap (a + IntKind.i64.wrap b) = IntKind.i64.wrap (a + b) := by simp only [IntKind.wrap_i64]; omega
theorem wrap_sub_wrap (a b : Int) : IntKind.i64.wrap (a - IntKind.i64.wrap b) = IntKind.i64.wrap (a - b) := by simp only [IntKind.wrap_i64]; omega
theorem wrap_bd (a : Int) : -9223372036854775808 ≤ IntKind.i64.wrap a ∧ IntKind.i64.wrap a ≤ 9223372036854775807 := by simp only [IntKind.wrap_i64]; omega
theorem wrap_in (a : Int) (h : -9223372036854775808 ≤ a ∧ a ≤ 9223372036854775807) : IntKind.i64.wrap a = a := by simp only [IntKind.wrap_i64]; omega

theorem ret_int {k : IntKind} {a b : Int} (h : a = b) : Ending.returned (.int k a) = .returned (.int k b) := by rw [h]
theorem ret_bool {a b : Bool} (h : a = b) : Ending.returned (.bool a) = .returned (.bool b) := by rw [h]
end Go.Proofs.Ytmoeccghkpjbgaa

/- A block with two cells. -/
namespace Go.Proofs.Ytmoeccghkpjbgaa
open Go.RowKit

def Two (b : Nat) (W : World) (x y : Value) : Prop := W.cell? ⟨b, 0, none⟩ = some x ∧ W.cell? ⟨b, 1, none⟩ = some y ∧ W.frozen? ⟨b, 0, none⟩ = false ∧ W.frozen? ⟨b, 1, none⟩ = false ∧ b < W.heap.size
theorem Two.below {b : Nat} {W W' : World} {x y : Value} (h : Two b W x y) (hb : Below W.heap.size W W') : Two b W' x y := by
  obtain ⟨h0, h1, h2, h3, h4⟩ := h
  exact ⟨by rw [(bcell hb).1 _ _ h4]; exact h0, by rw [(bcell hb).1 _ _ h4]; exact h1, by rw [(bcell hb).2 _ _ h4]; exact h2, by rw [(bcell hb).2 _ _ h4]; exact h3, Nat.lt_of_lt_of_le h4 hb.size⟩
theorem Two.alloc {b : Nat} {W : World} {x y : Value} (h : Two b W x y) (o : Obj) : Two b (W.alloc o) x y := h.below (bel_alloc (Below.refl _ _))
theorem Two.new (W : World) (x y : Value) (T : TypeId) : Two W.heap.size (W.alloc (.cells #[x, y] T)) x y := ⟨by simp [go_sem], by simp [go_sem], by simp [go_sem], by simp [go_sem], by simp⟩
theorem two_read (w : World) (b : Nat) (u v : Value) {a c : Value} (h0 : w.cell? ⟨b, 0, none⟩ = some a) (h1 : w.cell? ⟨b, 1, none⟩ = some c) :
    ((w.setCell ⟨b, 0, none⟩ u).setCell ⟨b, 1, none⟩ v).cell? ⟨b, 0, none⟩ = some u ∧ ((w.setCell ⟨b, 0, none⟩ u).setCell ⟨b, 1, none⟩ v).cell? ⟨b, 1, none⟩ = some v := by
  refine ⟨?_, ?_⟩
  · rw [World.cell?_setCell_other _ _ _ _ (by simp), World.cell?_setCell_same _ _ _ h0]
  · rw [World.cell?_setCell_same (u := c)]
    rw [World.cell?_setCell_other _ _ _ _ (by simp), h1]
theorem Two.set1 {b : Nat} {W : World} {x y : Value} (h : Two b W x y) (z : Value) : Two b (W.setCell ⟨b, 1, none⟩ z) x z := by
  obtain ⟨h0, h1, h2, h3, h4⟩ := h
  refine ⟨?_, ?_, ?_, ?_, ?_⟩
  · rw [World.cell?_setCell_other _ _ _ _ (by simp)]; exact h0
  · exact World.cell?_setCell_same _ _ _ h1
  · rw [World.frozen?_setCell]; exact h2
  · rw [World.frozen?_setCell]; exact h3
  · simpa [World.setCell] using h4
theorem Two.other {b : Nat} {W : World} {x y : Value} (h : Two b W x y) (p : Addr) (hp : p.block ≠ b) (z : Value) : Two b (W.setCell p z) x y := by
  obtain ⟨h0, h1, h2, h3, h4⟩ := h
  refine ⟨?_, ?_, ?_, ?_, ?_⟩
  · rw [World.cell?_setCell_other _ _ _ _ (by intro e; apply hp; rw [e])]; exact h0
  · rw [World.cell?_setCell_other _ _ _ _ (by intro e; apply hp; rw [e])]; exact h1
  · rw [World.frozen?_setCell]; exact h2
  · rw [World.frozen?_setCell]; exact h3
  · simpa [World.setCell] using h4
theorem Two.set0 {b : Nat} {W : World} {x y : Value} (h : Two b W x y) (z : Value) : Two b (W.setCell ⟨b, 0, none⟩ z) z y := by
  obtain ⟨h0, h1, h2, h3, h4⟩ := h
  refine ⟨?_, ?_, ?_, ?_, ?_⟩
  · exact World.cell?_setCell_same _ _ _ h0
  · rw [World.cell?_setCell_other _ _ _ _ (by simp)]; exact h1
  · rw [World.frozen?_setCell]; exact h2
  · rw [World.frozen?_setCell]; exact h3
  · simpa [World.setCell] using h4
end Go.Proofs.Ytmoeccghkpjbgaa

/- Slices that read as lists of rows; comparisons. -/
namespace Go.Proofs.Ytmoeccghkpjbgaa
open Go.RowKit Go.Sort

/-- the point at a place of a list -/
def gX (l : List (Int × Int)) (j : Nat) : Int := (l.getD j (0, 0)).1
def gR (l : List (Int × Int)) (j : Nat) : Int := (l.getD j (0, 0)).2

/-- a value is a slice that reads as a list of points -/
def Pts (w : World) (v : Value) (l : List (Int × Int)) : Prop :=
  ∃ a cap, v = .slice a l.length cap ∧ (l.length ≤ cap ∧ cap ≤ 9223372036854775807) ∧
    (l.length = 0 ∨ ∃ b off, a = some ⟨b, off, none⟩ ∧ b < w.heap.size ∧ ∀ j, j < l.length → w.cell? ⟨b, off + j * 2, none⟩ = some (.int .i64 (gX l j)) ∧ w.cell? ⟨b, off + j * 2 + 1, none⟩ = some (.int .i64 (gR l j)))
theorem Pts.below {w w' : World} {v : Value} {l : List (Int × Int)} (h : Pts w v l) (hb : Below w.heap.size w w') : Pts w' v l := by
  obtain ⟨a, cap, rfl, hl, h | ⟨b, off, rfl, hlt, hc⟩⟩ := h
  · exact ⟨a, cap, rfl, hl, .inl h⟩
  · exact ⟨_, cap, rfl, hl, .inr ⟨b, off, rfl, Nat.lt_of_lt_of_le hlt hb.size, fun j hj => by rw [(bcell hb).1 _ _ hlt, (bcell hb).1 _ _ hlt]; exact hc j hj⟩⟩
theorem Pts.alloc {w : World} {v : Value} {l : List (Int × Int)} (h : Pts w v l) (o : Obj) : Pts (w.alloc o) v l := h.below (bel_alloc (Below.refl _ _))
theorem Pts.shape {W : World} {v : Value} {l : List (Int × Int)} (h : Pts W v l) : ∃ a cap, v = .slice a l.length cap ∧ l.length ≤ cap ∧ cap ≤ 9223372036854775807 := by
  obtain ⟨a, cap, e, ⟨h1, h2⟩, _⟩ := h
  exact ⟨a, cap, e, h1, h2⟩
theorem Pts.len {W : World} {a : Option Addr} {n cap : Nat} {l : List (Int × Int)} (h : Pts W (.slice a n cap) l) : n = l.length := by
  obtain ⟨a', c', e, _⟩ := h
  simp only [Value.slice.injEq] at e
  exact e.2.1
theorem Pts.at {W : World} {a : Option Addr} {n cap : Nat} {l : List (Int × Int)} (h : Pts W (.slice a n cap) l) (h0 : 0 < n) :
    ∃ b off, a = some ⟨b, off, none⟩ ∧ b < W.heap.size ∧ ∀ j, j < n → W.cell? ⟨b, off + j * 2, none⟩ = some (.int .i64 (gX l j)) ∧ W.cell? ⟨b, off + j * 2 + 1, none⟩ = some (.int .i64 (gR l j)) := by
  have hl := h.len
  obtain ⟨a', c', e, _, hh⟩ := h
  simp only [Value.slice.injEq] at e
  obtain ⟨rfl, rfl, rfl⟩ := e
  rcases hh with hh | hh
  · omega
  · exact hh
theorem pts_nil (w : World) : Pts w (.slice none 0 0) [] := ⟨none, 0, rfl, by simp, .inl rfl⟩

/-- the cells of a list of points -/
def flat : List (Int × Int) → List Value
  | [] => []
  | q :: l => .int .i64 q.1 :: .int .i64 q.2 :: flat l
theorem flat_len (l : List (Int × Int)) : (flat l).length = l.length * 2 := by
  induction l with
  | nil => rfl
  | cons q l ih => simp only [flat, List.length_cons, ih]; omega
theorem flat_app (l m : List (Int × Int)) : flat (l ++ m) = flat l ++ flat m := by
  induction l with
  | nil => rfl
  | cons q l ih => simp only [List.cons_append, flat, ih]
theorem flat_at (l : List (Int × Int)) (j : Nat) (h : j < l.length) : (flat l)[j * 2]? = some (.int .i64 (gX l j)) ∧ (flat l)[j * 2 + 1]? = some (.int .i64 (gR l j)) := by
  induction l generalizing j with
  | nil => simp at h
  | cons q l ih =>
    cases j with
    | zero => simp [flat, gX, gR]
    | succ j =>
      have := ih j (by simpa using h)
      rw [show (j + 1) * 2 = j * 2 + 1 + 1 by omega]
      simp only [flat, List.getElem?_cons_succ, gX, gR, List.getD_cons_succ]
      exact this
theorem flat_one (l : List (Int × Int)) : ∀ u ∈ flat l, u.oneCell' = true := by
  induction l with
  | nil => intro u h; cases h
  | cons q l ih =>
    intro u h
    simp only [flat, List.mem_cons] at h
    rcases h with rfl | rfl | h
    · rfl
    · rfl
    · exact ih u h
theorem flat_inv (l : List (Int × Int)) (j : Nat) (u : Value) (h : (flat l)[j]? = some u) : ∃ i, i < l.length ∧ ((j = i * 2 ∧ u = .int .i64 (gX l i)) ∨ (j = i * 2 + 1 ∧ u = .int .i64 (gR l i))) := by
  have hj : j < (flat l).length := (List.getElem?_eq_some_iff.1 h).1
  rw [flat_len] at hj
  refine ⟨j / 2, by omega, ?_⟩
  have := flat_at l (j / 2) (by omega)
  rcases Nat.mod_two_eq_zero_or_one j with e | e
  · left
    have hj2 : j = j / 2 * 2 := by omega
    refine ⟨hj2, ?_⟩
    have h' := h
    rw [hj2, this.1] at h'
    exact (Option.some.inj h').symm
  · right
    have hj2 : j = j / 2 * 2 + 1 := by omega
    refine ⟨hj2, ?_⟩
    have h' := h
    rw [hj2, this.2] at h'
    exact (Option.some.inj h').symm

/-! ### points, compared -/
def samP (a b x y : Int) : Bool := a == x && b == y
/-! ### bounds, compared -/
def samB (a b x y : Int) : Bool := a == x && b == y
end Go.Proofs.Ytmoeccghkpjbgaa

/- Plain facts of layers 16 and 17: right rows, first faults. No program stands in this text. -/
namespace Go.Proofs.Ytmoeccghkpjbgaa

/-- the first place below n at which p holds; n if there is none -/
def fst (p : Nat → Bool) : Nat → Nat
  | 0 => 0
  | n + 1 => if fst p n < n then fst p n else if p n then n else n + 1
theorem fst_le (p : Nat → Bool) (n : Nat) : fst p n ≤ n := by
  induction n with
  | zero => exact Nat.le_refl _
  | succ n ih => unfold fst; split <;> (try split) <;> omega
theorem fst_spec (p : Nat → Bool) (n : Nat) : (∀ j, j < fst p n → p j = false) ∧ (fst p n < n → p (fst p n) = true) := by
  induction n with
  | zero => exact ⟨fun j hj => by simp [fst] at hj, fun h => by omega⟩
  | succ n ih =>
    obtain ⟨i1, i2⟩ := ih
    have le := fst_le p n
    unfold fst
    by_cases h : fst p n < n
    · rw [if_pos h]; exact ⟨i1, fun _ => i2 h⟩
    · rw [if_neg h]
      have e : fst p n = n := by omega
      rw [e] at i1
      cases hp : p n with
      | true => simp only [if_true]; exact ⟨i1, fun _ => hp⟩
      | false =>
        simp only [Bool.false_eq_true, if_false]
        refine ⟨fun j hj => ?_, fun h => by omega⟩
        by_cases g : j = n
        · rw [g]; exact hp
        · exact i1 j (by omega)
theorem fst_is {p : Nat → Bool} {n k : Nat} (hk : k ≤ n) (h1 : ∀ j, j < k → p j = false) (h2 : k < n → p k = true) : fst p n = k := by
  obtain ⟨s1, s2⟩ := fst_spec p n
  have le := fst_le p n
  rcases Nat.lt_trichotomy (fst p n) k with h | h | h
  · have := h1 _ h; have := s2 (by omega); simp_all
  · exact h
  · have := s1 _ h; have := h2 (by omega); simp_all
theorem fst_iff {p : Nat → Bool} {n : Nat} (hm : ∀ a b, a ≤ b → b < n → p a = true → p b = true) {i : Nat} (hi : i < n) : p i = true ↔ fst p n ≤ i := by
  obtain ⟨s1, s2⟩ := fst_spec p n
  constructor
  · intro h
    rcases Nat.lt_or_ge i (fst p n) with g | g
    · rw [s1 i g] at h; cases h
    · exact g
  · intro h
    exact hm _ i h hi (s2 (by omega))


theorem bel_drew2 (w : World) (a b : Nat) : Go.RowKit.Below w.heap.size w ((w.drewN a).drewN b) := ⟨rfl, rfl, rfl, Nat.le_refl _, fun _ _ => rfl⟩
def outB (x r : Int) : Bool := decide (x < 0) || decide (10000 < x) || decide (r < 50000) || decide (120000 < r)
theorem outB_false {x r : Int} : outB x r = false ↔ (0 ≤ x ∧ x ≤ 10000 ∧ 50000 ≤ r ∧ r ≤ 120000) := by
  simp only [outB, Bool.or_eq_false_iff, decide_eq_false_iff_not]; omega
/-- the fault of a measured row -/
def auF (l : List (Int × Int)) (k : Nat) : Int := if outB (gX l k) (gR l k) = true then 2 else if k ≠ 0 ∧ gX l k < gX l (k - 1) then 5 else 0
def auK (l : List (Int × Int)) : Nat := fst (fun k => auF l k != 0) l.length
def auE (l : List (Int × Int)) : Int := if 128 < l.length then 8 else if l.length = 0 then 9 else if auK l < l.length then auF l (auK l) else 0
def auI (l : List (Int × Int)) : Int := if 128 < l.length then -1 else if l.length = 0 then -1 else if auK l < l.length then (auK l : Int) else -1
structure AR (l : List (Int × Int)) : Prop where
  n0 : 1 ≤ l.length
  n1 : l.length ≤ 128
  b : ∀ i, i < l.length → 0 ≤ gX l i ∧ gX l i ≤ 10000 ∧ 50000 ≤ gR l i ∧ gR l i ≤ 120000
  asc : ∀ i, i + 1 < l.length → gX l i ≤ gX l (i + 1)
theorem auF_zero {l : List (Int × Int)} {k : Nat} : auF l k = 0 ↔ ((0 ≤ gX l k ∧ gX l k ≤ 10000 ∧ 50000 ≤ gR l k ∧ gR l k ≤ 120000) ∧ (k ≠ 0 → gX l (k - 1) ≤ gX l k)) := by
  unfold auF
  cases h : outB (gX l k) (gR l k) with
  | true => 
    simp only [if_true]
    constructor
    · intro h; cases h
    · rintro ⟨h1, _⟩
      rw [outB_false.2 h1] at h; cases h
  | false =>
    have := outB_false.1 h
    simp only [Bool.false_eq_true, if_false]
    by_cases g : k ≠ 0 ∧ gX l k < gX l (k - 1)
    · rw [if_pos g]
      constructor
      · intro h; cases h
      · rintro ⟨_, h2⟩
        have := h2 g.1; omega
    · rw [if_neg g]
      refine ⟨fun _ => ⟨this, fun hk => ?_⟩, fun _ => rfl⟩
      rcases Int.lt_or_le (gX l k) (gX l (k - 1)) with h' | h'
      · exact absurd ⟨hk, h'⟩ g
      · exact h'
theorem auE_zero {l : List (Int × Int)} : auE l = 0 ↔ AR l := by
  obtain ⟨s1, s2⟩ := fst_spec (fun k => auF l k != 0) l.length
  have le := fst_le (fun k => auF l k != 0) l.length
  unfold auE
  by_cases h0 : 128 < l.length
  · rw [if_pos h0]
    exact ⟨fun h => (by cases h), fun h => by have := h.n1; omega⟩
  · rw [if_neg h0]
    by_cases h1 : l.length = 0
    · rw [if_pos h1]
      exact ⟨fun h => (by cases h), fun h => by have := h.n0; omega⟩
    · rw [if_neg h1]
      by_cases h2 : auK l < l.length
      · rw [if_pos h2]
        have h3 := s2 h2
        constructor
        · intro h
          have : auF l (fst (fun k => auF l k != 0) l.length) = 0 := h
          rw [this] at h3
          cases h3
        · intro h
          refine auF_zero.2 ⟨h.b _ h2, fun hk => ?_⟩
          have := h.asc (auK l - 1) (by omega)
          rwa [show auK l - 1 + 1 = auK l by omega] at this
      · rw [if_neg h2]
        have e : fst (fun k => auF l k != 0) l.length = l.length := by unfold auK at h2; omega
        rw [e] at s1
        have z : ∀ j, j < l.length → auF l j = 0 := fun j hj => by simpa using s1 j hj
        refine ⟨fun _ => ⟨by omega, by omega, fun i hi => (auF_zero.1 (z i hi)).1, fun i hi => ?_⟩, fun _ => rfl⟩
        have := (auF_zero.1 (z (i + 1) hi)).2 (by omega)
        simpa using this
theorem auE_at {l : List (Int × Int)} {k : Nat} (h0 : l.length ≤ 128) (hk : k < l.length) (h1 : ∀ j, j < k → auF l j = 0) (h2 : auF l k ≠ 0) : auE l = auF l k ∧ auI l = k := by
  have e : auK l = k := fst_is (by omega) (fun j hj => by simpa using h1 j hj) (fun _ => by simpa using h2)
  unfold auE auI
  simp only [if_neg (show ¬ 128 < l.length by omega), if_neg (show ¬ l.length = 0 by omega), e, if_pos hk]
  exact ⟨trivial, trivial⟩
theorem auE_ok {l : List (Int × Int)} (h0 : l.length ≤ 128) (h3 : l.length ≠ 0) (h1 : ∀ j, j < l.length → auF l j = 0) : auE l = 0 ∧ auI l = -1 := by
  have e : auK l = l.length := fst_is (by omega) (fun j hj => by simpa using h1 j hj) (fun h => by omega)
  unfold auE auI
  simp only [if_neg (show ¬ 128 < l.length by omega), if_neg h3, e, if_neg (show ¬ l.length < l.length by omega)]
  exact ⟨trivial, trivial⟩

/-! ### right density tables -/
def dnF (l : List (Int × Int)) (k : Nat) : Int := if outB (gX l k) (gR l k) = true then 2 else if k ≠ 0 ∧ gX l k ≤ gX l (k - 1) then 5 else if k ≠ 0 ∧ gR l (k - 1) < gR l k then 18 else 0
def dnK (l : List (Int × Int)) : Nat := fst (fun k => dnF l k != 0) l.length
def dnE (l : List (Int × Int)) : Int := if 128 < l.length then 8 else if l.length < 2 then 9 else if dnK l < l.length then dnF l (dnK l) else if gX l 0 ≠ 0 then 10 else if gX l (l.length - 1) ≠ 10000 then 10 else 0
def dnI (l : List (Int × Int)) : Int := if 128 < l.length then -1 else if l.length < 2 then -1 else if dnK l < l.length then (dnK l : Int) else if gX l 0 ≠ 0 then 0 else if gX l (l.length - 1) ≠ 10000 then ((l.length - 1 : Nat) : Int) else -1
structure DR (l : List (Int × Int)) : Prop where
  n0 : 2 ≤ l.length
  n1 : l.length ≤ 128
  b : ∀ i, i < l.length → 0 ≤ gX l i ∧ gX l i ≤ 10000 ∧ 50000 ≤ gR l i ∧ gR l i ≤ 120000
  asc : ∀ i, i + 1 < l.length → gX l i < gX l (i + 1)
  down : ∀ i, i + 1 < l.length → gR l (i + 1) ≤ gR l i
  z : gX l 0 = 0
  t : gX l (l.length - 1) = 10000
theorem dnF_zero {l : List (Int × Int)} {k : Nat} : dnF l k = 0 ↔ ((0 ≤ gX l k ∧ gX l k ≤ 10000 ∧ 50000 ≤ gR l k ∧ gR l k ≤ 120000) ∧ (k ≠ 0 → gX l (k - 1) < gX l k) ∧ (k ≠ 0 → gR l k ≤ gR l (k - 1))) := by
  unfold dnF
  cases h : outB (gX l k) (gR l k) with
  | true => 
    simp only [if_true]
    constructor
    · intro h; cases h
    · rintro ⟨h1, _⟩
      rw [outB_false.2 h1] at h; cases h
  | false =>
    have := outB_false.1 h
    simp only [Bool.false_eq_true, if_false]
    by_cases g : k ≠ 0 ∧ gX l k ≤ gX l (k - 1)
    · rw [if_pos g]
      constructor
      · intro h; cases h
      · rintro ⟨_, h2, _⟩
        have := h2 g.1; omega
    · rw [if_neg g]
      by_cases g2 : k ≠ 0 ∧ gR l (k - 1) < gR l k
      · rw [if_pos g2]
        constructor
        · intro h; cases h
        · rintro ⟨_, _, h2⟩
          have := h2 g2.1; omega
      · rw [if_neg g2]
        refine ⟨fun _ => ⟨this, fun hk => ?_, fun hk => ?_⟩, fun _ => rfl⟩
        · rcases Int.lt_or_le (gX l (k - 1)) (gX l k) with h' | h'
          · exact h'
          · exact absurd ⟨hk, h'⟩ g
        · rcases Int.lt_or_le (gR l (k - 1)) (gR l k) with h' | h'
          · exact absurd ⟨hk, h'⟩ g2
          · exact h'
theorem dnE_at {l : List (Int × Int)} {k : Nat} (h0 : l.length ≤ 128) (h3 : 2 ≤ l.length) (hk : k < l.length) (h1 : ∀ j, j < k → dnF l j = 0) (h2 : dnF l k ≠ 0) : dnE l = dnF l k ∧ dnI l = k := by
  have e : dnK l = k := fst_is (by omega) (fun j hj => by simpa using h1 j hj) (fun _ => by simpa using h2)
  unfold dnE dnI
  simp only [if_neg (show ¬ 128 < l.length by omega), if_neg (show ¬ l.length < 2 by omega), e, if_pos hk]
  exact ⟨trivial, trivial⟩
theorem dnE_ok {l : List (Int × Int)} (h0 : l.length ≤ 128) (h3 : 2 ≤ l.length) (h1 : ∀ j, j < l.length → dnF l j = 0) :
    (gX l 0 ≠ 0 → dnE l = 10 ∧ dnI l = 0) ∧ (gX l 0 = 0 → gX l (l.length - 1) ≠ 10000 → dnE l = 10 ∧ dnI l = ((l.length - 1 : Nat) : Int)) ∧ (gX l 0 = 0 → gX l (l.length - 1) = 10000 → dnE l = 0 ∧ dnI l = -1) := by
  have e : dnK l = l.length := fst_is (by omega) (fun j hj => by simpa using h1 j hj) (fun h => by omega)
  unfold dnE dnI
  simp only [if_neg (show ¬ 128 < l.length by omega), if_neg (show ¬ l.length < 2 by omega), e, if_neg (show ¬ l.length < l.length by omega)]
  refine ⟨fun h => ?_, fun h g => ?_, fun h g => ?_⟩
  · simp only [if_pos h]; exact ⟨trivial, trivial⟩
  · simp only [if_neg (show ¬ gX l 0 ≠ 0 by omega), if_pos g]; exact ⟨trivial, trivial⟩
  · simp only [if_neg (show ¬ gX l 0 ≠ 0 by omega), if_neg (show ¬ gX l (l.length - 1) ≠ 10000 by omega)]; exact ⟨trivial, trivial⟩
theorem dnE_zero {l : List (Int × Int)} : dnE l = 0 ↔ DR l := by
  obtain ⟨s1, s2⟩ := fst_spec (fun k => dnF l k != 0) l.length
  have le := fst_le (fun k => dnF l k != 0) l.length
  constructor
  · intro h
    by_cases h0 : 128 < l.length
    · unfold dnE at h; rw [if_pos h0] at h; cases h
    by_cases h1 : l.length < 2
    · unfold dnE at h; rw [if_neg h0, if_pos h1] at h; cases h
    by_cases h2 : fst (fun k => dnF l k != 0) l.length < l.length
    · have h3 := s2 h2
      have := (dnE_at (by omega) (by omega) h2 (fun j hj => by simpa using s1 j hj) (by simpa using h3)).1
      rw [h] at this
      rw [← this] at h3
      cases h3
    · have e : fst (fun k => dnF l k != 0) l.length = l.length := by omega
      rw [e] at s1
      have z : ∀ j, j < l.length → dnF l j = 0 := fun j hj => by simpa using s1 j hj
      obtain ⟨g1, g2, g3⟩ := dnE_ok (by omega) (by omega) z
      refine ⟨by omega, by omega, fun i hi => (dnF_zero.1 (z i hi)).1, fun i hi => ?_, fun i hi => ?_, ?_, ?_⟩
      · have := (dnF_zero.1 (z (i + 1) hi)).2.1 (by omega)
        simpa using this
      · have := (dnF_zero.1 (z (i + 1) hi)).2.2 (by omega)
        simpa using this
      · rcases Decidable.em (gX l 0 = 0) with q | q
        · exact q
        · have := (g1 q).1; omega
      · rcases Decidable.em (gX l 0 = 0) with q | q
        · rcases Decidable.em (gX l (l.length - 1) = 10000) with q2 | q2
          · exact q2
          · have := (g2 q q2).1; omega
        · have := (g1 q).1; omega
  · intro h
    have z : ∀ j, j < l.length → dnF l j = 0 := fun j hj => by
      refine dnF_zero.2 ⟨h.b j hj, fun hk => ?_, fun hk => ?_⟩
      · have := h.asc (j - 1) (by omega)
        rwa [show j - 1 + 1 = j by omega] at this
      · have := h.down (j - 1) (by omega)
        rwa [show j - 1 + 1 = j by omega] at this
    exact ((dnE_ok h.n1 h.n0 z).2.2 h.z h.t).1
end Go.Proofs.Ytmoeccghkpjbgaa

/- A cell below. -/
namespace Go.Proofs.Ytmoeccghkpjbgaa
open Go.RowKit

theorem cell_bel {w w' : World} {p : Addr} {v : Value} (h : w.cell? p = some v) (hb : Below w.heap.size w w') : w'.cell? p = some v := by
  rw [hb.cell (World.block_lt_of_cell? w _ h)]; exact h
end Go.Proofs.Ytmoeccghkpjbgaa

/- Package density and its reference: Check. -/
namespace Go.Proofs.Ytmoeccghkpjbgaa
open Go.RowKit

end Go.Proofs.Ytmoeccghkpjbgaa

/- The reference of layer 16: Check. -/
namespace Go.Proofs.Ytmoeccghkpjbgaa
open Go.RowKit

end Go.Proofs.Ytmoeccghkpjbgaa

/- Package density: reach, Find; the reference's Find. -/
namespace Go.Proofs.Ytmoeccghkpjbgaa
open Go.RowKit

theorem bxd_below {W W' : World} {b : Nat} {t : TypeId} {v : Value} (h : Boxed W b t v) (hb : Below W.heap.size W W') : Boxed W' b t v := by
  show W'.heap[b]? = _
  rw [hb.block _ h.lt]
  exact h
/-- the first row whose strength is at least a number -/
def rcN (l : List (Int × Int)) (x : Int) : Nat := fst (fun i => decide (x ≤ gX l i)) l.length
theorem DR.chain {l : List (Int × Int)} (h : DR l) (j : Nat) : ∀ i : Nat, j < i → i < l.length → gX l j < gX l i ∧ gR l i ≤ gR l j
  | 0, h1, _ => by omega
  | i + 1, h1, h2 => by
    have a := h.asc i h2
    have b := h.down i h2
    by_cases e : j = i
    · subst e; exact ⟨a, b⟩
    · obtain ⟨c, d⟩ := DR.chain h j i (by omega) (by omega)
      exact ⟨by omega, by omega⟩
theorem DR.le {l : List (Int × Int)} (h : DR l) {j i : Nat} (hj : j ≤ i) (hi : i < l.length) : gX l j ≤ gX l i := by
  by_cases e : j = i
  · rw [e]; exact Int.le_refl _
  · exact Int.le_of_lt (h.chain j i (by omega) hi).1
theorem rcN_spec {l : List (Int × Int)} (h : DR l) (x : Int) : rcN l x ≤ l.length ∧ (∀ j, j < rcN l x → gX l j < x) ∧ ∀ j, rcN l x ≤ j → j < l.length → x ≤ gX l j := by
  obtain ⟨s1, s2⟩ := fst_spec (fun i => decide (x ≤ gX l i)) l.length
  have le := fst_le (fun i => decide (x ≤ gX l i)) l.length
  refine ⟨le, fun j hj => ?_, fun j h1 h2 => ?_⟩
  · have := of_decide_eq_false (s1 j hj); omega
  · have a := of_decide_eq_true (s2 (by unfold rcN at h1; omega))
    have := h.le h1 h2
    unfold rcN at *
    omega
def fnE (l : List (Int × Int)) (s : Int) : Int := if dnE l ≠ 0 then 1 else if 0 ≤ s ∧ s ≤ 10000 then 0 else 2
def fnI (l : List (Int × Int)) (s : Int) : Int := if fnE l s = 0 then (rcN l (s + 1) : Int) - 1 else 0
theorem rcN_pos {l : List (Int × Int)} (h : DR l) {s : Int} (hs : 0 ≤ s) : 1 ≤ rcN l (s + 1) := by
  obtain ⟨h1, h2, h3⟩ := rcN_spec h (s + 1)
  have n0 := h.n0
  have z := h.z
  rcases Nat.eq_zero_or_pos (rcN l (s + 1)) with e | e
  · have := h3 0 (by omega) (by omega); omega
  · exact e
end Go.Proofs.Ytmoeccghkpjbgaa

/- Plain facts of layer 18: the density at a strength. No program stands in the facts of this text. -/
namespace Go.Proofs.Ytmoeccghkpjbgaa

/-- the density between two rows -/
def btD (x0 r0 x1 r1 s : Int) : Int := r1 + (2 * (r0 - r1) * (x1 - s) + (x1 - x0)) / (2 * (x1 - x0))
theorem half_bd {D E L : Int} (hD : 0 ≤ D) (hE : 0 ≤ E) (hL : 0 < L) (hEL : E ≤ L) : 0 ≤ (2 * D * E + L) / (2 * L) ∧ (2 * D * E + L) / (2 * L) ≤ D := by
  have P : 0 ≤ D * E := Int.mul_nonneg hD hE
  have Q : D * E ≤ D * L := Int.mul_le_mul_of_nonneg_left hEL hD
  have e1 : 2 * D * E = 2 * (D * E) := by rw [Int.mul_assoc]
  rw [e1]
  constructor
  · exact Int.ediv_nonneg (by omega) (by omega)
  · have : (2 * (D * E) + L) / (2 * L) < D + 1 := by
      rw [Int.ediv_lt_iff_lt_mul (by omega)]
      have e2 : (D + 1) * (2 * L) = 2 * (D * L) + 2 * L := by rw [Int.add_mul, Int.one_mul, ← Int.mul_assoc, Int.mul_comm D 2, Int.mul_assoc]
      rw [e2]; omega
    omega
theorem btD_bd {x0 r0 x1 r1 s : Int} (h0 : x0 < x1) (h1 : x0 ≤ s) (h2 : s ≤ x1) (h3 : r1 ≤ r0) : r1 ≤ btD x0 r0 x1 r1 s ∧ btD x0 r0 x1 r1 s ≤ r0 := by
  unfold btD
  obtain ⟨a, b⟩ := half_bd (D := r0 - r1) (E := x1 - s) (L := x1 - x0) (by omega) (by omega) (by omega) (by omega)
  omega
theorem btD_anti {x0 r0 x1 r1 s t : Int} (h0 : x0 < x1) (h3 : r1 ≤ r0) (h : s ≤ t) : btD x0 r0 x1 r1 t ≤ btD x0 r0 x1 r1 s := by
  unfold btD
  have Q : (r0 - r1) * (x1 - t) ≤ (r0 - r1) * (x1 - s) := Int.mul_le_mul_of_nonneg_left (by omega) (by omega)
  have : (2 * (r0 - r1) * (x1 - t) + (x1 - x0)) / (2 * (x1 - x0)) ≤ (2 * (r0 - r1) * (x1 - s) + (x1 - x0)) / (2 * (x1 - x0)) := by
    refine Int.ediv_le_ediv (by omega) ?_
    rw [Int.mul_assoc, Int.mul_assoc]; omega
  omega
theorem btD_hi {x0 r0 x1 r1 : Int} (h0 : x0 < x1) : btD x0 r0 x1 r1 x1 = r1 := by
  unfold btD
  rw [Int.sub_self, Int.mul_zero, Int.zero_add, Int.ediv_eq_zero_of_lt (by omega) (by omega), Int.add_zero]
theorem btD_lo {x0 r0 x1 r1 : Int} (h0 : x0 < x1) : btD x0 r0 x1 r1 x0 = r0 := by
  unfold btD
  have e : 2 * (r0 - r1) * (x1 - x0) + (x1 - x0) = (x1 - x0) + (2 * (x1 - x0)) * (r0 - r1) := by
    rw [Int.add_comm, Int.mul_assoc, Int.mul_comm (r0 - r1), ← Int.mul_assoc]
  rw [e, Int.add_mul_ediv_left _ _ (by omega), Int.ediv_eq_zero_of_lt (by omega) (by omega)]
  omega
/-- the same from the row before -/
theorem btD_line {x0 r0 x1 r1 s : Int} (h0 : x0 < x1) : (2 * (r0 * (x1 - x0) + (r1 - r0) * (s - x0)) + (x1 - x0)) / (2 * (x1 - x0)) = btD x0 r0 x1 r1 s := by
  unfold btD
  have e : 2 * (r0 * (x1 - x0) + (r1 - r0) * (s - x0)) + (x1 - x0) = (2 * (r0 - r1) * (x1 - s) + (x1 - x0)) + (2 * (x1 - x0)) * r1 := by grind
  rw [e, Int.add_mul_ediv_left _ _ (by omega)]
  omega

/-- rows that rise in strength and don't in density -/
structure WR (l : List (Int × Int)) : Prop where
  n0 : 2 ≤ l.length
  n1 : l.length ≤ 128
  b : ∀ i, i < l.length → 0 ≤ gX l i ∧ gX l i ≤ 10000 ∧ 50000 ≤ gR l i ∧ gR l i ≤ 120000
  asc : ∀ i, i + 1 < l.length → gX l i < gX l (i + 1)
  down : ∀ i, i + 1 < l.length → gR l (i + 1) ≤ gR l i
theorem DR.wr {l : List (Int × Int)} (h : DR l) : WR l := ⟨h.n0, h.n1, h.b, h.asc, h.down⟩
theorem WR.chain {l : List (Int × Int)} (h : WR l) (j : Nat) : ∀ i : Nat, j < i → i < l.length → gX l j < gX l i ∧ gR l i ≤ gR l j
  | 0, h1, _ => by omega
  | i + 1, h1, h2 => by
    have a := h.asc i h2
    have b := h.down i h2
    by_cases e : j = i
    · subst e; exact ⟨a, b⟩
    · obtain ⟨c, d⟩ := WR.chain h j i (by omega) (by omega)
      exact ⟨by omega, by omega⟩
theorem WR.lt {l : List (Int × Int)} (h : WR l) {j i : Nat} (hj : j < i) (hi : i < l.length) : gX l j < gX l i := (h.chain j i hj hi).1
theorem WR.le {l : List (Int × Int)} (h : WR l) {j i : Nat} (hj : j ≤ i) (hi : i < l.length) : gX l j ≤ gX l i := by
  by_cases e : j = i
  · rw [e]; exact Int.le_refl _
  · exact Int.le_of_lt (h.chain j i (by omega) hi).1
theorem WR.ge {l : List (Int × Int)} (h : WR l) {j i : Nat} (hj : j ≤ i) (hi : i < l.length) : gR l i ≤ gR l j := by
  by_cases e : j = i
  · rw [e]; exact Int.le_refl _
  · exact (h.chain j i (by omega) hi).2
/-- the index of the row behind a strength, and the density at it -/
def atI (l : List (Int × Int)) (s : Int) : Nat := 1 + fst (fun i => decide (s ≤ gX l (i + 1))) (l.length - 2)
def atD (l : List (Int × Int)) (s : Int) : Int := btD (gX l (atI l s - 1)) (gR l (atI l s - 1)) (gX l (atI l s)) (gR l (atI l s)) s
theorem atI_specW {l : List (Int × Int)} (h : WR l) {s : Int} (h0 : gX l 0 ≤ s) (h1 : s ≤ gX l (l.length - 1)) :
    1 ≤ atI l s ∧ atI l s < l.length ∧ gX l (atI l s - 1) ≤ s ∧ s ≤ gX l (atI l s) := by
  have n0 := h.n0
  obtain ⟨s1, s2⟩ := fst_spec (fun i => decide (s ≤ gX l (i + 1))) (l.length - 2)
  have le := fst_le (fun i => decide (s ≤ gX l (i + 1))) (l.length - 2)
  unfold atI
  generalize fst (fun i => decide (s ≤ gX l (i + 1))) (l.length - 2) = k at *
  refine ⟨by omega, by omega, ?_, ?_⟩
  · rw [show 1 + k - 1 = k by omega]
    rcases k with _ | k
    · exact h0
    · have := of_decide_eq_false (s1 k (by omega)); omega
  · by_cases hk : k < l.length - 2
    · have := of_decide_eq_true (s2 hk)
      rwa [Nat.add_comm] at this
    · rw [show 1 + k = l.length - 1 by omega]; exact h1
theorem atI_spec {l : List (Int × Int)} (h : DR l) {s : Int} (h0 : 0 ≤ s) (h1 : s ≤ 10000) :
    1 ≤ atI l s ∧ atI l s < l.length ∧ gX l (atI l s - 1) ≤ s ∧ s ≤ gX l (atI l s) := atI_specW h.wr (by rw [h.z]; exact h0) (by rw [h.t]; exact h1)
theorem DR.lt {l : List (Int × Int)} (h : DR l) {j i : Nat} (hj : j < i) (hi : i < l.length) : gX l j < gX l i := (h.chain j i hj hi).1
theorem DR.ge {l : List (Int × Int)} (h : DR l) {j i : Nat} (hj : j ≤ i) (hi : i < l.length) : gR l i ≤ gR l j := by
  by_cases e : j = i
  · rw [e]; exact Int.le_refl _
  · exact (h.chain j i (by omega) hi).2
/-- between any two neighbours that enclose the strength -/
theorem atD_eqW {l : List (Int × Int)} (h : WR l) {s : Int} {k : Nat} (hk : k + 1 < l.length) (h1 : gX l k ≤ s) (h2 : s ≤ gX l (k + 1)) : atD l s = btD (gX l k) (gR l k) (gX l (k + 1)) (gR l (k + 1)) s := by
  have b1 := h.le (Nat.zero_le k) (by omega)
  have b2 := h.le (show k + 1 ≤ l.length - 1 by omega) (by omega)
  obtain ⟨i1, i2, i3, i4⟩ := atI_specW h (s := s) (by omega) (by omega)
  unfold atD
  generalize atI l s = i at *
  obtain ⟨i, rfl⟩ : ∃ j, i = j + 1 := ⟨i - 1, by omega⟩
  rw [show i + 1 - 1 = i by omega] at *
  rcases Nat.lt_trichotomy i k with c | c | c
  · have := h.le (show i + 1 ≤ k by omega) (by omega)
    have e : s = gX l (i + 1) := by omega
    have e2 : i + 1 = k := by
      rcases Nat.lt_or_ge (i + 1) k with g | g
      · have := h.lt g (by omega); omega
      · omega
    rw [e, btD_hi (h.lt (by omega) (by omega)), e2, btD_lo (h.lt (by omega) (by omega))]
  · rw [c]
  · have := h.le (show k + 1 ≤ i by omega) (by omega)
    have e : s = gX l i := by omega
    have e2 : k + 1 = i := by
      rcases Nat.lt_or_ge (k + 1) i with g | g
      · have := h.lt g (by omega); omega
      · omega
    rw [e, btD_lo (h.lt (by omega) (by omega)), ← e2, btD_hi (h.lt (by omega) (by omega))]
theorem atD_eq {l : List (Int × Int)} (h : DR l) {s : Int} {k : Nat} (hk : k + 1 < l.length) (h1 : gX l k ≤ s) (h2 : s ≤ gX l (k + 1)) : atD l s = btD (gX l k) (gR l k) (gX l (k + 1)) (gR l (k + 1)) s := atD_eqW h.wr hk h1 h2
theorem atD_row {l : List (Int × Int)} (h : DR l) {k : Nat} (hk : k < l.length) : atD l (gX l k) = gR l k := by
  have n0 := h.n0
  rcases k with _ | k
  · rw [atD_eq h (k := 0) (by omega) (Int.le_refl _) (Int.le_of_lt (h.lt (by omega) (by omega))), btD_lo (h.lt (by omega) (by omega))]
  · rw [atD_eq h (k := k) hk (Int.le_of_lt (h.lt (by omega) hk)) (Int.le_refl _), btD_hi (h.lt (by omega) (by omega))]
theorem atD_bd {l : List (Int × Int)} (h : DR l) {s : Int} (h0 : 0 ≤ s) (h1 : s ≤ 10000) :
    gR l (atI l s) ≤ atD l s ∧ atD l s ≤ gR l (atI l s - 1) ∧ 50000 ≤ atD l s ∧ atD l s ≤ 120000 := by
  obtain ⟨i1, i2, i3, i4⟩ := atI_spec h h0 h1
  have a := btD_bd (h.lt (j := atI l s - 1) (i := atI l s) (by omega) i2) i3 i4 (h.ge (j := atI l s - 1) (by omega) i2)
  have b := h.b _ i2
  have c := h.b (atI l s - 1) (by omega)
  unfold atD
  omega
theorem atD_anti {l : List (Int × Int)} (h : DR l) {s t : Int} (h0 : 0 ≤ s) (h1 : t ≤ 10000) (hst : s ≤ t) : atD l t ≤ atD l s := by
  obtain ⟨i1, i2, i3, i4⟩ := atI_spec h h0 (by omega)
  obtain ⟨k1, k2, k3, k4⟩ := atI_spec h (s := t) (by omega) h1
  have a := atD_bd h h0 (s := s) (by omega)
  have b := atD_bd h (s := t) (by omega) h1
  rcases Nat.lt_or_ge (atI l t) (atI l s) with c | c
  · have := h.le (show atI l t ≤ atI l s - 1 by omega) (by omega)
    have e : s = t := by omega
    subst e
    exact Int.le_refl _
  · by_cases e : atI l s = atI l t
    · unfold atD
      rw [e]
      exact btD_anti (h.lt (by omega) k2) (h.ge (by omega) k2) hst
    · have := h.ge (show atI l s ≤ atI l t - 1 by omega) (by omega)
      omega

/-- the least strength whose density is less than a number, or what follows the greatest strength -/
def blN (l : List (Int × Int)) (n : Int) : Nat := fst (fun s => decide (atD l (s : Int) < n)) 10001
theorem blN_mono {l : List (Int × Int)} (h : DR l) (n : Int) : ∀ a b : Nat, a ≤ b → b < 10001 → decide (atD l (a : Int) < n) = true → decide (atD l (b : Int) < n) = true := fun a b hab hb ha => by
  have := of_decide_eq_true ha
  have := atD_anti h (s := a) (t := b) (by omega) (by omega) (by omega)
  exact decide_eq_true (by omega)
theorem blN_spec {l : List (Int × Int)} (h : DR l) (n : Int) : blN l n ≤ 10001 ∧ (∀ s : Int, 0 ≤ s → s < blN l n → n ≤ atD l s) ∧ ∀ s : Int, (blN l n : Int) ≤ s → s ≤ 10000 → atD l s < n := by
  obtain ⟨s1, s2⟩ := fst_spec (fun s => decide (atD l (s : Int) < n)) 10001
  have le := fst_le (fun s => decide (atD l (s : Int) < n)) 10001
  refine ⟨le, fun s h0 hs => ?_, fun s hs h1 => ?_⟩
  · have := of_decide_eq_false (s1 s.toNat (by unfold blN at hs; omega))
    rw [Int.toNat_of_nonneg h0] at this
    omega
  · have a := of_decide_eq_true (s2 (by unfold blN at hs; omega))
    have := atD_anti h (s := (blN l n : Int)) (t := s) (by omega) h1 hs
    unfold blN at this hs
    omega
def denE (l : List (Int × Int)) (s : Int) : Int := if dnE l ≠ 0 then 1 else if 0 ≤ s ∧ s ≤ 10000 then 0 else 2
def denV (l : List (Int × Int)) (s : Int) : Int := if denE l s = 0 then atD l s else 0
theorem denE_zero {l : List (Int × Int)} {s : Int} : denE l s = 0 ↔ DR l ∧ 0 ≤ s ∧ s ≤ 10000 := by
  unfold denE
  by_cases h : dnE l = 0
  · rw [if_neg (by omega)]
    have hD := dnE_zero.1 h
    by_cases g : 0 ≤ s ∧ s ≤ 10000
    · rw [if_pos g]; exact ⟨fun _ => ⟨hD, g⟩, fun _ => rfl⟩
    · rw [if_neg g]; exact ⟨fun e => (by cases e), fun e => absurd e.2 g⟩
  · rw [if_pos h]; exact ⟨fun e => (by cases e), fun e => absurd (dnE_zero.2 e.1) h⟩
theorem denV_ok {l : List (Int × Int)} {s : Int} (h : denE l s = 0) : denV l s = atD l s := by unfold denV; rw [if_pos h]
theorem denV_no {l : List (Int × Int)} {s : Int} (h : denE l s ≠ 0) : denV l s = 0 := by unfold denV; rw [if_neg h]
end Go.Proofs.Ytmoeccghkpjbgaa

/- Plain facts of layer 20: strength and volume of liquids. No program stands in the facts of this text. -/
namespace Go.Proofs.Ytmoeccghkpjbgaa

/-- a liquid is right for a table -/
structure LR (l : List (Int × Int)) (A M : Int) : Prop where
  a0 : 0 ≤ A
  a1 : A ≤ 10737418240000
  m0 : 0 ≤ M
  m1 : M ≤ 128849018880000
  t : A * atD l 10000 ≤ M * 10000
def alE (l : List (Int × Int)) (A M : Int) : Int := if dnE l ≠ 0 then 1 else if 0 ≤ A ∧ A ≤ 10737418240000 ∧ 0 ≤ M ∧ M ≤ 128849018880000 then (if M * 10000 < A * atD l 10000 then 10 else 0) else 2
theorem alE_zero {l : List (Int × Int)} {A M : Int} : alE l A M = 0 ↔ DR l ∧ LR l A M := by
  unfold alE
  by_cases h : dnE l = 0
  · rw [if_neg (by omega)]
    have hD := dnE_zero.1 h
    by_cases g : 0 ≤ A ∧ A ≤ 10737418240000 ∧ 0 ≤ M ∧ M ≤ 128849018880000
    · rw [if_pos g]
      obtain ⟨g1, g2, g3, g4⟩ := g
      by_cases k : M * 10000 < A * atD l 10000
      · rw [if_pos k]; exact ⟨fun e => (by cases e), fun e => by have := e.2.t; omega⟩
      · rw [if_neg k]; exact ⟨fun _ => ⟨hD, g1, g2, g3, g4, by omega⟩, fun _ => rfl⟩
    · rw [if_neg g]; exact ⟨fun e => (by cases e), fun e => absurd ⟨e.2.a0, e.2.a1, e.2.m0, e.2.m1⟩ g⟩
  · rw [if_pos h]; exact ⟨fun e => (by cases e), fun e => absurd (dnE_zero.2 e.1) h⟩
/-- the liquid has not the alcohol of the strength i + 1 -/
def sgP (l : List (Int × Int)) (A M : Int) (i : Nat) : Bool := !decide (M * ((i : Int) + 1) ≤ A * atD l ((i : Int) + 1))
def sgN (l : List (Int × Int)) (A M : Int) : Nat := if A = 0 ∧ M = 0 then 0 else fst (sgP l A M) 10000
def vlN (l : List (Int × Int)) (A M : Int) : Int := M / atD l (sgN l A M : Int)
theorem has_anti {l : List (Int × Int)} (h : DR l) {A M s t : Int} (hA : 0 ≤ A) (hM : 0 ≤ M) (h0 : 0 ≤ s) (hst : s ≤ t) (h1 : t ≤ 10000) (g : M * t ≤ A * atD l t) : M * s ≤ A * atD l s := by
  have a := Int.mul_le_mul_of_nonneg_left hst hM
  have b := Int.mul_le_mul_of_nonneg_left (atD_anti h h0 h1 hst) hA
  omega
theorem sgP_mono {l : List (Int × Int)} (h : DR l) {A M : Int} (hA : 0 ≤ A) (hM : 0 ≤ M) : ∀ a b, a ≤ b → b < 10000 → sgP l A M a = true → sgP l A M b = true := fun a b hab hb ha => by
  unfold sgP at *
  rw [Bool.not_eq_true'] at *
  have a1 := of_decide_eq_false ha
  refine decide_eq_false fun g => a1 (has_anti h hA hM (by omega) (by omega) (by omega) g)
theorem LR.zero {l : List (Int × Int)} (h : DR l) {A M : Int} (g : LR l A M) (e : M = 0) : A = 0 := by
  have b := (atD_bd h (s := 10000) (by omega) (by omega)).2.2
  have t := g.t
  have a := g.a0
  subst e
  have := Int.mul_le_mul_of_nonneg_left b.1 a
  omega
theorem sgN_le (l : List (Int × Int)) (A M : Int) : sgN l A M ≤ 10000 := by
  unfold sgN; split
  · omega
  · exact fst_le _ _
/-- the strengths at which the alcohol suffices -/
theorem sgN_iff {l : List (Int × Int)} (h : DR l) {A M : Int} (g : LR l A M) (hM : M ≠ 0) {s : Int} (h0 : 0 ≤ s) (h1 : s ≤ 10000) : M * s ≤ A * atD l s ↔ s ≤ (sgN l A M : Int) := by
  have hA := g.a0
  have hM0 := g.m0
  obtain ⟨s1, s2⟩ := fst_spec (sgP l A M) 10000
  have le := fst_le (sgP l A M) 10000
  unfold sgN
  rw [if_neg (fun e => hM e.2)]
  constructor
  · intro q
    rcases Int.lt_or_le ((fst (sgP l A M) 10000 : Nat) : Int) s with c | c
    · have := s2 (by omega)
      generalize fst (sgP l A M) 10000 = k at *
      unfold sgP at this
      rw [Bool.not_eq_true'] at this
      exact absurd (has_anti h hA hM0 (by omega) (by omega) h1 q) (of_decide_eq_false this)
    · exact c
  · intro q
    by_cases e : s = 0
    · subst e
      have b := (atD_bd h (s := 0) (by omega) (by omega)).2.2
      have := Int.mul_nonneg hA (show 0 ≤ atD l 0 by omega)
      omega
    · have := s1 (s - 1).toNat (by omega)
      unfold sgP at this
      rw [Bool.not_eq_false'] at this
      have := of_decide_eq_true this
      rwa [Int.toNat_of_nonneg (by omega), show s - 1 + 1 = s by omega] at this
theorem sgN_has {l : List (Int × Int)} (h : DR l) {A M : Int} (g : LR l A M) : M * (sgN l A M : Int) ≤ A * atD l (sgN l A M) := by
  have le := sgN_le l A M
  by_cases e : M = 0
  · have b := (atD_bd h (s := (sgN l A M : Int)) (by omega) (by omega)).2.2
    have := Int.mul_nonneg g.a0 (show 0 ≤ atD l (sgN l A M) by omega)
    rw [e] at *
    omega
  · exact (sgN_iff h g e (by omega) (by omega)).2 (Int.le_refl _)
theorem sgN_is {l : List (Int × Int)} (h : DR l) {A M : Int} (g : LR l A M) (hM : M ≠ 0) {k : Nat} (hk : k ≤ 10000) (h1 : M * (k : Int) ≤ A * atD l k) (h2 : k < 10000 → A * atD l ((k : Int) + 1) < M * ((k : Int) + 1)) : sgN l A M = k := by
  have le := sgN_le l A M
  have a := (sgN_iff h g hM (s := (k : Int)) (by omega) (by omega)).1 h1
  rcases Nat.lt_or_ge k 10000 with c | c
  · have b := h2 c
    have := (sgN_iff h g hM (s := (k : Int) + 1) (by omega) (by omega))
    rcases Int.lt_or_le (sgN l A M : Int) ((k : Int) + 1) with d | d
    · omega
    · have := this.2 d; omega
  · omega
theorem sgN_dry (l : List (Int × Int)) : sgN l 0 0 = 0 := by unfold sgN; rw [if_pos ⟨rfl, rfl⟩]
theorem at_sg {l : List (Int × Int)} (h : DR l) (A M : Int) : 50000 ≤ atD l (sgN l A M) ∧ atD l (sgN l A M) ≤ 120000 := by
  have le := sgN_le l A M
  exact (atD_bd h (s := (sgN l A M : Int)) (by omega) (by omega)).2.2
theorem vlN_bd {l : List (Int × Int)} (h : DR l) {A M : Int} (g : LR l A M) : 0 ≤ vlN l A M ∧ vlN l A M * atD l (sgN l A M) ≤ M ∧ M < (vlN l A M + 1) * atD l (sgN l A M) ∧ vlN l A M ≤ 2576980377 := by
  have b := at_sg h A M
  have m0 := g.m0
  have m1 := g.m1
  have e1 := Int.ediv_mul_le M (show atD l (sgN l A M) ≠ 0 by omega)
  have e2 := Int.lt_ediv_add_one_mul_self M (show 0 < atD l (sgN l A M) by omega)
  have e3 : 0 ≤ M / atD l (sgN l A M) := Int.ediv_nonneg m0 (by omega)
  unfold vlN
  refine ⟨e3, e1, e2, ?_⟩
  have := Int.mul_le_mul_of_nonneg_left b.1 e3
  omega
/-- what does not show is not negative -/
theorem lost_bd {l : List (Int × Int)} (h : DR l) {A M : Int} (g : LR l A M) : 0 ≤ vlN l A M * (sgN l A M : Int) ∧ vlN l A M * (sgN l A M : Int) ≤ A := by
  have b := at_sg h A M
  obtain ⟨v0, v1, _, _⟩ := vlN_bd h g
  have s := sgN_has h g
  have a0 := g.a0
  generalize vlN l A M = v at *
  generalize atD l (sgN l A M) = d at *
  generalize (sgN l A M) = k at *
  refine ⟨Int.mul_nonneg v0 (by omega), ?_⟩
  have e1 := Int.mul_le_mul_of_nonneg_right v1 (show (0 : Int) ≤ (k : Int) by omega)
  have e2 : v * d * (k : Int) = v * (k : Int) * d := by rw [Int.mul_assoc, Int.mul_comm d, ← Int.mul_assoc]
  rw [e2] at e1
  have e3 : v * (k : Int) * d ≤ A * d := by omega
  exact Int.le_of_mul_le_mul_right e3 (by omega)
/-! ### what the functions answer -/
def aofE (l : List (Int × Int)) (v s : Int) : Int := if dnE l ≠ 0 then 1 else if (0 ≤ v ∧ v ≤ 1073741824) ∧ 0 ≤ s ∧ s ≤ 10000 then 0 else 2
def ofA (l : List (Int × Int)) (v s : Int) : Int := if aofE l v s = 0 then v * s else 0
def ofM (l : List (Int × Int)) (v s : Int) : Int := if aofE l v s = 0 then v * atD l s else 0
def meE (l : List (Int × Int)) (A M : Int) : Int := if alE l A M = 0 then 0 else 1
def sgV (l : List (Int × Int)) (A M : Int) : Int := if alE l A M = 0 then (sgN l A M : Int) else 0
def vlV (l : List (Int × Int)) (A M : Int) : Int := if alE l A M = 0 then vlN l A M else 0
def dsV (l : List (Int × Int)) (A M : Int) : Int := if alE l A M = 0 then atD l (sgN l A M) else 0
def maE (l : List (Int × Int)) (A M v : Int) : Int := if alE l A M ≠ 0 then 1 else if 0 ≤ v ∧ v ≤ 1073741824 then (if vlN l A M < v then 17 else 0) else 2
def maV (l : List (Int × Int)) (A M v : Int) : Int := if maE l A M v = 0 then v * atD l (sgN l A M) else 0
def loV (l : List (Int × Int)) (A M : Int) : Int := if alE l A M = 0 then A - vlN l A M * (sgN l A M : Int) else 0
theorem aofE_zero {l : List (Int × Int)} {v s : Int} : aofE l v s = 0 ↔ DR l ∧ (0 ≤ v ∧ v ≤ 1073741824) ∧ 0 ≤ s ∧ s ≤ 10000 := by
  unfold aofE
  by_cases h : dnE l = 0
  · rw [if_neg (by omega)]
    have hD := dnE_zero.1 h
    by_cases g : (0 ≤ v ∧ v ≤ 1073741824) ∧ 0 ≤ s ∧ s ≤ 10000
    · rw [if_pos g]; exact ⟨fun _ => ⟨hD, g⟩, fun _ => rfl⟩
    · rw [if_neg g]; exact ⟨fun e => (by cases e), fun e => absurd e.2 g⟩
  · rw [if_pos h]; exact ⟨fun e => (by cases e), fun e => absurd (dnE_zero.2 e.1) h⟩
end Go.Proofs.Ytmoeccghkpjbgaa

/- Plain arithmetic: amounts, and the steps of the division of two words by one. No program stands in this text. -/
namespace Go.Proofs.Ytmoeccghkpjbgaa

/-- an amount -/
def isAm (n : Int) : Bool := decide (0 ≤ n) && decide (n ≤ 128849018880000)

theorem isAm_iff (n : Int) : isAm n = true ↔ 0 ≤ n ∧ n ≤ 128849018880000 := by simp [isAm]
theorem isAm_not (n : Int) : isAm n = false ↔ n < 0 ∨ 128849018880000 < n := by
  rw [Bool.eq_false_iff, ne_eq, isAm_iff]; omega

theorem all_take_succ (zs : List Int) (k : Nat) (hk : k < zs.length) : ((zs.take (k + 1)).all isAm) = ((zs.take k).all isAm && isAm (zs.getD k 0)) := by
  rw [List.take_add_one, List.all_append]
  simp [List.getD, List.getElem?_eq_getElem hk]

theorem all_false_at (zs : List Int) (k : Nat) (hk : k < zs.length) (h : isAm (zs.getD k 0) = false) : zs.all isAm = false := by
  rw [Bool.eq_false_iff]; intro hall
  rw [List.all_eq_true] at hall
  have := hall (zs.getD k 0) (by simp [List.getD, List.getElem?_eq_getElem hk])
  rw [this] at h; cases h

/-! the division of two words by one -/

theorem norm_shift (y : Nat) (h1 : 1 ≤ y) (h2 : y < 2 ^ 47) : ∃ s : Nat, 64 - Lib.bitLen y = s ∧ 17 ≤ s ∧ s ≤ 63 ∧ Lib.bitLen y ≤ 64 ∧ 2 ^ 63 ≤ y * 2 ^ s ∧ y * 2 ^ s < 2 ^ 64 := by
  obtain ⟨a, b, c⟩ := Lib.bitLenAux_bounds 64 y (by omega) (by omega)
  have hle := Lib.bitLen_le y 47 (by omega) h2
  unfold Lib.bitLen at *
  generalize hL : Lib.bitLenAux 64 y = L at *
  refine ⟨64 - L, rfl, by omega, by omega, by omega, ?_, ?_⟩
  · have : 2 ^ (L - 1) * 2 ^ (64 - L) ≤ y * 2 ^ (64 - L) := Nat.mul_le_mul_right _ b
    rw [← Nat.pow_add, show L - 1 + (64 - L) = 63 by omega] at this
    exact this
  · have : y * 2 ^ (64 - L) < 2 ^ L * 2 ^ (64 - L) := Nat.mul_lt_mul_of_pos_right c (Nat.two_pow_pos _)
    rw [← Nat.pow_add, show L + (64 - L) = 64 by omega] at this
    exact this

theorem split_prod (q Y a c : Int) (hY : Y = a * 4294967296 + c) : q * Y = q * a * 4294967296 + q * c := by
  rw [hY, Int.mul_add, Int.mul_assoc]

/-- the first guess is not too small -/
theorem dig_start (U u Y a c : Int) (hY : Y = a * 4294967296 + c) (c0 : 0 ≤ c) (ha : 1 ≤ a) (hU : 0 ≤ U) (u0 : 0 ≤ u) (u1 : u < 4294967296) :
    (U * 4294967296 + u) / Y ≤ U / a := by
  have hYp : 0 < Y := by omega
  apply Int.le_ediv_of_mul_le (by omega)
  have h1 : (U * 4294967296 + u) / Y * Y ≤ U * 4294967296 + u := Int.ediv_mul_le _ (by omega)
  have hq : 0 ≤ (U * 4294967296 + u) / Y := Int.ediv_nonneg (by omega) (by omega)
  generalize (U * 4294967296 + u) / Y = q at *
  rw [split_prod q Y a c hY] at h1
  have := Int.mul_nonneg hq c0
  omega

/-- if the guess's test says 'too great', the next one is not too small -/
theorem dig_next (U u Y a c q1 r : Int) (hY : Y = a * 4294967296 + c) (hYp : 0 < Y) (hU : U < Y) (u1 : u < 4294967296) (hr : q1 * a + r = U)
    (ht : 4294967296 ≤ q1 ∨ 4294967296 * r + u < q1 * c) : (U * 4294967296 + u) / Y ≤ q1 - 1 := by
  have h1 : (U * 4294967296 + u) / Y < q1 := by
    apply Int.ediv_lt_of_lt_mul hYp
    rcases ht with ht | ht
    · have : 4294967296 * Y ≤ q1 * Y := Int.mul_le_mul_of_nonneg_right ht (by omega)
      omega
    · rw [split_prod q1 Y a c hY]; omega
  omega

/-- if the guess's test says 'not too great', it is right -/
theorem dig_done (U u Y a c q1 r : Int) (hY : Y = a * 4294967296 + c) (hYp : 0 < Y) (hr : q1 * a + r = U)
    (hq : (U * 4294967296 + u) / Y ≤ q1) (ht : q1 * c ≤ 4294967296 * r + u) : q1 = (U * 4294967296 + u) / Y := by
  have : q1 ≤ (U * 4294967296 + u) / Y := by
    apply Int.le_ediv_of_mul_le hYp
    rw [split_prod q1 Y a c hY]; omega
  omega

/-- where the rest has become as great as 2^32, the guess is right -/
theorem dig_stop (U u Y a c q1 r : Int) (hY : Y = a * 4294967296 + c) (c0 : 0 ≤ c) (c1 : c < 4294967296) (ha : 1 ≤ a) (hU : U < Y) (hr : q1 * a + r = U) (hq0 : 0 ≤ q1)
    (u0 : 0 ≤ u) (hrb : 4294967296 ≤ r) (hq : (U * 4294967296 + u) / Y ≤ q1) : q1 = (U * 4294967296 + u) / Y := by
  have hlt : q1 < 4294967296 := by
    apply Int.not_le.1; intro hge
    have := Int.mul_le_mul_of_nonneg_right hge (show 0 ≤ a by omega)
    omega
  apply dig_done U u Y a c q1 r hY (by omega) hr hq
  have h1 : q1 * c ≤ 4294967295 * 4294967295 := Int.mul_le_mul (by omega) (by omega) c0 (by omega)
  omega

/-- the digit fits 32 bits -/
theorem dig_lt (U u Y : Int) (hU0 : 0 ≤ U) (hU : U < Y) (u0 : 0 ≤ u) (u1 : u < 4294967296) : 0 ≤ (U * 4294967296 + u) / Y ∧ (U * 4294967296 + u) / Y < 4294967296 := by
  constructor
  · exact Int.ediv_nonneg (by omega) (by omega)
  · apply Int.ediv_lt_of_lt_mul (by omega); omega

/-- what is left behind a digit, in wrapped words -/
theorem dig_rest (U u Y q : Int) (hY : 0 < Y) (hY1 : Y ≤ 18446744073709551616) (hq : q = (U * 4294967296 + u) / Y) :
    IntKind.u64.wrap (IntKind.u64.wrap (IntKind.u64.wrap (U * 4294967296) + u) - IntKind.u64.wrap (q * Y)) = (U * 4294967296 + u) % Y := by
  have h1 := Int.emod_add_mul_ediv (U * 4294967296 + u) Y
  have h2 := Int.emod_nonneg (U * 4294967296 + u) (show Y ≠ 0 by omega)
  have h3 := Int.emod_lt_of_pos (U * 4294967296 + u) hY
  rw [← hq, Int.mul_comm Y q] at h1
  simp only [IntKind.wrap_u64]
  omega

theorem dig_quot (U u0 u1 Y : Int) (hY : 0 < Y) :
    (U * 4294967296 + u1) / Y * 4294967296 + ((U * 4294967296 + u1) % Y * 4294967296 + u0) / Y = ((U * 4294967296 + u1) * 4294967296 + u0) / Y := by
  have h1 := Int.emod_add_mul_ediv (U * 4294967296 + u1) Y
  generalize U * 4294967296 + u1 = N at *
  have : N * 4294967296 + u0 = (N % Y * 4294967296 + u0) + (N / Y * 4294967296) * Y := by
    have e : N / Y * 4294967296 * Y = Y * (N / Y) * 4294967296 := by
      rw [Int.mul_right_comm, Int.mul_comm (N / Y) Y]
    rw [e]; omega
  rw [this, Int.add_mul_ediv_right _ _ (by omega)]
  omega

theorem dig_rem (U u0 u1 Y : Int) :
    ((U * 4294967296 + u1) % Y * 4294967296 + u0) % Y = ((U * 4294967296 + u1) * 4294967296 + u0) % Y := by
  have h1 := Int.emod_add_mul_ediv (U * 4294967296 + u1) Y
  generalize U * 4294967296 + u1 = N at *
  have : N * 4294967296 + u0 = (N % Y * 4294967296 + u0) + (N / Y * 4294967296) * Y := by
    have e : N / Y * 4294967296 * Y = Y * (N / Y) * 4294967296 := by
      rw [Int.mul_right_comm, Int.mul_comm (N / Y) Y]
    rw [e]; omega
  rw [this, Int.add_mul_emod_self_right]

/-- two words as one number -/
def twoW (hi lo : Int) : Int := hi * 18446744073709551616 + lo

/-- the upper and the lower word -/
def hiW (p : Int) : Int := p / 18446744073709551616
def loW (p : Int) : Int := p % 18446744073709551616
theorem hiW_big (p c : Int) (h : 128849018880000 * c < p) (hp : p < 18446744073709551616 * c) (hc : 0 < c): hiW p < c := by unfold hiW; exact Int.ediv_lt_of_lt_mul (by omega) (by rw [Int.mul_comm]; omega)
theorem hiW_ge (p c : Int) (h : c ≤ hiW p) (hc : 0 < c) : 18446744073709551616 ≤ p / c := by
  apply Int.le_ediv_of_mul_le hc
  unfold hiW at h; rw [Int.mul_comm]; omega
theorem twoW_split (p : Int) : twoW (hiW p) (loW p) = p := by unfold twoW hiW loW; omega
theorem loW_nonneg (p : Int) : 0 ≤ loW p := by unfold loW; omega
theorem loW_le (p : Int) : loW p ≤ 18446744073709551615 := by unfold loW; omega
theorem hiW_nonneg (p : Int) (h : 0 ≤ p) : 0 ≤ hiW p := by unfold hiW; omega

theorem or_add (h g : Int) (s : Nat) (h0 : 0 ≤ h) (g0 : 0 ≤ g) (gs : g < 2 ^ s) (b : h * 2 ^ s + g < 18446744073709551616) : bits .or .u64 (h * 2 ^ s) g = h * 2 ^ s + g := by
  obtain ⟨A, rfl⟩ := Int.eq_ofNat_of_zero_le h0
  obtain ⟨B, rfl⟩ := Int.eq_ofNat_of_zero_le g0
  have e : ((A : Int) * 2 ^ s) = ((A * 2 ^ s : Nat) : Int) := by simp
  have gs' : B < 2 ^ s := by exact_mod_cast gs
  rw [e] at b ⊢
  rw [u64_or_nat _ _ (by omega) (by omega), Nat.mul_comm A, ← Nat.two_pow_add_eq_or_of_lt gs']
  omega

theorem and_low (n : Int) (h0 : 0 ≤ n) (h1 : n ≤ 18446744073709551615) : bits .and .u64 n 4294967295 = n % 4294967296 := by
  obtain ⟨A, rfl⟩ := Int.eq_ofNat_of_zero_le h0
  have := u64_and_nat A 4294967295 (by omega) (by omega)
  rw [nat_mask32] at this
  simpa using this

theorem shift_low (lo : Int) (s : Nat) (h0 : 0 ≤ lo) (hs : s ≤ 64) :
    lo * 2 ^ s = lo / 2 ^ (64 - s) * 18446744073709551616 + lo * 2 ^ s % 18446744073709551616 := by
  have hp : (2 : Int) ^ (64 - s) * 2 ^ s = 18446744073709551616 := by
    rw [← Int.pow_add, show 64 - s + s = 64 by omega]; rfl
  have hs0 : (0 : Int) < 2 ^ s := Int.pow_pos (by omega)
  have hs1 : (0 : Int) < 2 ^ (64 - s) := Int.pow_pos (by omega)
  have e1 := Int.emod_add_mul_ediv lo (2 ^ (64 - s))
  have e2 := Int.emod_nonneg lo (show (2 : Int) ^ (64 - s) ≠ 0 by omega)
  have e3 := Int.emod_lt_of_pos lo hs1
  generalize lo / 2 ^ (64 - s) = G at *
  generalize lo % 2 ^ (64 - s) = t at *
  have e4 : lo * 2 ^ s = t * 2 ^ s + G * 18446744073709551616 := by
    rw [← e1, Int.add_mul, Int.mul_right_comm, hp, Int.mul_comm G]
  have e5 : 0 ≤ t * 2 ^ s := Int.mul_nonneg e2 (by omega)
  have e6 : t * 2 ^ s < 18446744073709551616 := by
    rw [← hp]; exact Int.mul_lt_mul_of_pos_right e3 hs0
  rw [e4]; omega

/-- all that the walk of Div64 has to be told of its numbers -/
structure Shifted (hi lo y : Int) (s : Nat) (H G L U : Int) : Prop where
  G0 : 0 ≤ G
  Gs : G < 2 ^ s
  H0 : 0 ≤ H
  sum : U = H + G
  L0 : 0 ≤ L
  L1 : L < 18446744073709551616
  tot : U * 18446744073709551616 + L = twoW hi lo * 2 ^ s
  lt : U < y * 2 ^ s

theorem Shifted.mk' (hi lo y : Int) (s : Nat) (h0 : 0 ≤ hi) (h1 : hi < y) (h2 : 0 ≤ lo) (h3 : lo ≤ 18446744073709551615) (hs : s ≤ 64) :
    Shifted hi lo y s (hi * 2 ^ s) (lo / 2 ^ (64 - s)) (lo * 2 ^ s % 18446744073709551616) (hi * 2 ^ s + lo / 2 ^ (64 - s)) := by
  have hs0 : (0 : Int) < 2 ^ s := Int.pow_pos (by omega)
  have hs1 : (0 : Int) < 2 ^ (64 - s) := Int.pow_pos (by omega)
  have hp : (2 : Int) ^ s * 2 ^ (64 - s) = 18446744073709551616 := by
    rw [← Int.pow_add, show s + (64 - s) = 64 by omega]; rfl
  have tot : (hi * 2 ^ s + lo / 2 ^ (64 - s)) * 18446744073709551616 + lo * 2 ^ s % 18446744073709551616 = twoW hi lo * 2 ^ s := by
    have := shift_low lo s h2 hs
    unfold twoW
    rw [Int.add_mul, Int.add_mul, Int.mul_right_comm hi]
    omega
  have hL0 := Int.emod_nonneg (lo * 2 ^ s) (show (18446744073709551616 : Int) ≠ 0 by omega)
  have hL1 := Int.emod_lt_of_pos (lo * 2 ^ s) (show (0 : Int) < 18446744073709551616 by omega)
  refine ⟨Int.ediv_nonneg h2 (by omega), ?_, Int.mul_nonneg h0 (by omega), rfl, hL0, hL1, tot, ?_⟩
  · apply Int.ediv_lt_of_lt_mul hs1; rw [hp]; omega
  · have hlt : twoW hi lo * 2 ^ s < y * 18446744073709551616 * 2 ^ s := by
      apply Int.mul_lt_mul_of_pos_right _ hs0
      unfold twoW; omega
    rw [Int.mul_right_comm y] at hlt
    generalize hi * 2 ^ s + lo / 2 ^ (64 - s) = U at *
    generalize y * 2 ^ s = Y at *
    generalize lo * 2 ^ s % 18446744073709551616 = L at *
    omega

theorem fin_quot (U L Y N y : Int) (s : Nat) (hY : Y = y * 2 ^ s) (hYp : 0 < Y) (hU0 : 0 ≤ U) (hU : U < Y) (hY1 : Y ≤ 18446744073709551616) (L0 : 0 ≤ L) (L1 : L < 18446744073709551616)
    (tot : U * 18446744073709551616 + L = N * 2 ^ s) :
    IntKind.u64.wrap (IntKind.u64.wrap ((U * 4294967296 + L / 4294967296) / Y * 4294967296) + ((U * 4294967296 + L / 4294967296) % Y * 4294967296 + L % 4294967296) / Y) = N / y := by
  have a1 := dig_lt U (L / 4294967296) Y hU0 hU (by omega) (by omega)
  have b0 := Int.emod_nonneg (U * 4294967296 + L / 4294967296) (show Y ≠ 0 by omega)
  have b1 := Int.emod_lt_of_pos (U * 4294967296 + L / 4294967296) hYp
  have a2 := dig_lt ((U * 4294967296 + L / 4294967296) % Y) (L % 4294967296) Y b0 b1 (by omega) (by omega)
  have e := dig_quot U (L % 4294967296) (L / 4294967296) Y hYp
  have e2 : (U * 4294967296 + L / 4294967296) * 4294967296 + L % 4294967296 = N * 2 ^ s := by omega
  have hs0 : (0 : Int) < 2 ^ s := Int.pow_pos (by omega)
  rw [e2] at e
  have e3 : N * 2 ^ s / Y = N / y := by rw [hY, Int.mul_ediv_mul_of_pos_left _ _ hs0]
  rw [e3] at e
  rw [← e]
  simp only [IntKind.wrap_u64]
  omega

theorem fin_rest (U L Y N y : Int) (s : Nat) (hY : Y = y * 2 ^ s) (hYp : 0 < Y) (hY1 : Y ≤ 18446744073709551616)
    (tot : U * 18446744073709551616 + L = N * 2 ^ s) :
    IntKind.u64.wrap (IntKind.u64.wrap (IntKind.u64.wrap ((U * 4294967296 + L / 4294967296) % Y * 4294967296) + L % 4294967296) - IntKind.u64.wrap (((U * 4294967296 + L / 4294967296) % Y * 4294967296 + L % 4294967296) / Y * Y)) / 2 ^ s = N % y := by
  rw [dig_rest _ (L % 4294967296) Y _ hYp hY1 rfl, dig_rem]
  have e2 : (U * 4294967296 + L / 4294967296) * 4294967296 + L % 4294967296 = N * 2 ^ s := by omega
  have hs0 : (0 : Int) < 2 ^ s := Int.pow_pos (by omega)
  rw [e2, hY, Int.mul_comm N, Int.mul_comm y, Int.mul_emod_mul_of_pos _ _ hs0, Int.mul_ediv_cancel_left _ (by omega)]

/-- what proportion.Of returns: the error, the quotient, the remainder -/
def ofE (a b c : Int) : Int :=
  if isAm a && isAm b && isAm c then (if c = 0 then 16 else if a * b / c ≤ 128849018880000 then 0 else 15) else 2
def ofQ (a b c : Int) : Int := if ofE a b c = 0 then a * b / c else 0
def ofR (a b c : Int) : Int := if ofE a b c = 0 then a * b % c else 0

/-- what Up makes of what Of returns -/
def upE (q r e : Int) : Int := if e = 0 then (if q + (if 0 < r then 1 else 0) ≤ 128849018880000 then 0 else 15) else e
def upQ (q r e : Int) : Int := if upE q r e = 0 then q + (if 0 < r then 1 else 0) else 0
/-- what Compare returns -/
def cmpE (a b c d : Int) : Int := if isAm a && isAm b && isAm c && isAm d then (if b = 0 then 16 else if d = 0 then 16 else 0) else 2
def cmpN (x y : Int) : Int := if x < y then -1 else if y < x then 1 else 0
def cmpC (a b c d : Int) : Int := if cmpE a b c d = 0 then cmpN (a * d) (c * b) else 0

theorem ofQ_bd (a b c : Int) : 0 ≤ ofQ a b c ∧ ofQ a b c ≤ 128849018880000 := by
  unfold ofQ
  by_cases h : ofE a b c = 0
  · rw [if_pos h]
    unfold ofE at h
    split at h
    · rename_i h1
      simp only [Bool.and_eq_true, isAm_iff] at h1
      split at h
      · omega
      · split at h
        · exact ⟨Int.ediv_nonneg (Int.mul_nonneg h1.1.1.1 h1.1.2.1) h1.2.1, by assumption⟩
        · omega
    · omega
  · rw [if_neg h]; omega
theorem ofR_bd (a b c : Int) : 0 ≤ ofR a b c ∧ ofR a b c ≤ 128849018880000 := by
  unfold ofR
  by_cases h : ofE a b c = 0
  · rw [if_pos h]
    unfold ofE at h
    split at h
    · rename_i h1
      simp only [Bool.and_eq_true, isAm_iff] at h1
      split at h
      · omega
      · have := Int.emod_nonneg (a * b) (show c ≠ 0 by assumption)
        have := Int.emod_lt_of_pos (a * b) (show 0 < c by omega)
        omega
    · omega
  · rw [if_neg h]; omega

end Go.Proofs.Ytmoeccghkpjbgaa

/- math/bits.Div64: what it returns where the upper word is less than the divisor. -/
namespace Go.Proofs.Ytmoeccghkpjbgaa
open Go.RowKit

/-- what the guess's loop has to be told of a digit: 'D' is the digit -/
structure Dig (a c U u D : Int) : Prop where
  next : ∀ q r : Int, D ≤ q → q * a + r = U → (4294967296 ≤ q ∨ 4294967296 * r + u < q * c) → D ≤ q - 1
  done : ∀ q r : Int, D ≤ q → q * a + r = U → q * c ≤ 4294967296 * r + u → q = D
  stop : ∀ q r : Int, D ≤ q → q * a + r = U → 4294967296 ≤ r → q = D
  prod : ∀ q : Int, 0 ≤ q → q < 4294967296 → 0 ≤ q * c ∧ q * c ≤ 18446744073709551615
  pos : 0 ≤ D

theorem Dig.mk' (U u Y a c : Int) (hY : Y = a * 4294967296 + c) (c0 : 0 ≤ c) (c1 : c < 4294967296) (ha : 1 ≤ a) (hU0 : 0 ≤ U) (hU : U < Y) (u0 : 0 ≤ u) (u1 : u < 4294967296) :
    Dig a c U u ((U * 4294967296 + u) / Y) where
  next q r _ hr ht := dig_next U u Y a c q r hY (by omega) hU u1 hr ht
  done q r hq hr ht := dig_done U u Y a c q r hY (by omega) hr hq ht
  stop q r hq hr ht := dig_stop U u Y a c q r hY c0 c1 ha hU hr (by have := (dig_lt U u Y hU0 hU u0 u1).1; omega) u0 ht hq
  prod q h0 h1 := by
    have a1 := Int.mul_nonneg h0 c0
    have a2 : q * c ≤ 4294967295 * 4294967295 := Int.mul_le_mul (by omega) (by omega) c0 (by omega)
    omega
  pos := (dig_lt U u Y hU0 hU u0 u1).1

theorem ret_two {k l : IntKind} {a b c d : Int} (h : a = b) (g : c = d) : Ending.returned (.tuple #[.int k a, .int l c]) = .returned (.tuple #[.int k b, .int l d]) := by rw [h, g]

theorem mul_pred (q a r U : Int) (h : q * a + r = U) : (q - 1) * a + (r + a) = U := by
  rw [Int.sub_mul]; omega

set_option maxHeartbeats 1000000 in
set_option maxRecDepth 100000 in
theorem div64_core (hi lo y : Int) (s : Nat) (Y a c H G U L u1 u0 g r g2 r2 Q1 R1 Q0 Q R : Int) (w : World) (h0 : 1 ≤ hi) (h1 : hi < y) (h2 : 0 ≤ lo) (h3 : lo ≤ 18446744073709551615) (h4 : y ≤ 140737488355327)
   (hs0 : 17 ≤ s) (hs1 : s ≤ 63)
   (lz : Hid (Calls Try.prog 95 #[.int .u64 y] w fun e w' => e = .returned (.int .i64 s) ∧ w = w'))
   (yb0 : 0 ≤ y * 2 ^ s) (yb1 : y * 2 ^ s ≤ 18446744073709551615) (hb0 : 0 ≤ hi * 2 ^ s) (hb1 : hi * 2 ^ s ≤ 18446744073709551615)
   (eY : y * 2 ^ s = Y) (ea : Y / 4294967296 = a) (ec : bits .and .u64 Y 4294967295 = c) (eH : hi * 2 ^ s = H) (eG : lo / 2 ^ (64 - s) = G) (eU : bits .or .u64 H G = U)
   (eL : IntKind.u64.wrap (lo * 2 ^ s) = L) (e1 : L / 4294967296 = u1) (e0 : bits .and .u64 L 4294967295 = u0) (eg : U / a = g) (er : U - g * a = r) 
   (b1 : 2147483648 ≤ a) (b2 : 0 ≤ U) (b3 : U ≤ 18446744073709551615) (b4 : a ≤ 4294967295) (b5 : 0 ≤ c) (b6 : c ≤ 4294967295) (b7 : 0 ≤ u1) (b8 : u1 ≤ 4294967295) (b9 : 0 ≤ u0) (b10 : u0 ≤ 4294967295) (b11 : 9223372036854775808 ≤ Y) (b12 : Y ≤ 18446744073709551615) (b13 : 0 ≤ g * a) (b14 : g * a ≤ U)
   (hR1 : Hid (IntKind.u64.wrap (IntKind.u64.wrap (IntKind.u64.wrap (U * 4294967296) + u1) - IntKind.u64.wrap (Q1 * Y)) = R1)) (c1 : 0 ≤ R1) (c2 : R1 ≤ 18446744073709551615) (eg2 : Hid (R1 / a = g2)) (er2 : Hid (R1 - R1 / a * a = r2)) (b15 : 0 ≤ R1 / a * a) (b16 : R1 / a * a ≤ R1)
   (dg2 : Dig a c R1 u0 Q0) (st2 : Q0 ≤ g2 ∧ 0 ≤ g2 ∧ g2 ≤ 18446744073709551615 ∧ 0 ≤ r2 ∧ r2 < 4294967296 ∧ Hid (g2 * a + r2 = R1))
   (dg1 : Dig a c U u1 Q1) (st1 : Q1 ≤ g ∧ 0 ≤ g ∧ g ≤ 18446744073709551615 ∧ 0 ≤ r ∧ r < 4294967296 ∧ Hid (g * a + r = U))
   (hQ : Hid (IntKind.u64.wrap (IntKind.u64.wrap (Q1 * 4294967296) + Q0) = Q)) (hR : Hid (IntKind.u64.wrap (IntKind.u64.wrap (IntKind.u64.wrap (R1 * 4294967296) + u0) - IntKind.u64.wrap (Q0 * Y)) / 2 ^ s = R)) :
    Calls Try.prog 81 #[.int .u64 hi, .int .u64 lo, .int .u64 y] w fun e w' => e = .returned (.tuple #[.int .u64 Q, .int .u64 R]) ∧ w' = w := by
  go_enter Try.func81, Try.ntmps81
  go_upto_region 16 with (go_at_call 95; refine (lz.out).mono ?_; rintro e w' ⟨rfl, rfl⟩)
  go_cut [2, 8, 9, 10, 11, 13, 14, 15, 16] (fun s2 s8 s9 s10 s11 s13 s14 s15 s16 wx => s2 = .int .u64 Y ∧ s8 = .int .u64 s ∧ s9 = .int .u64 a ∧ s10 = .int .u64 c ∧ s11 = .int .u64 U ∧ s13 = .int .u64 u1 ∧ s14 = .int .u64 u0 ∧ s15 = .int .u64 g ∧ s16 = .int .u64 r ∧ w = wx)
  case first =>
    go_wp2
    go_meet
    case rel => exact ⟨rfl, rfl, rfl, rfl, rfl, rfl, rfl, by rw [eg], rfl, rfl⟩
  case rest =>
  obtain ⟨rfl, rfl, rfl, rfl, rfl, rfl, rfl, rfl, rfl, rfl⟩ := hcut
  clear eY ea ec eH eG eU eL e1 e0 eg er
  go_upto_block 0 with fail
  go_cut [15] (fun s15 wx => s15 = .int .u64 Q1 ∧ w = wx)
  case first =>
    go_wp2_with fail
    go_loop [15, 16] (fun q r => ∃ q1 r1 : Int, q = .int .u64 q1 ∧ r = .int .u64 r1 ∧ Q1 ≤ q1 ∧ 0 ≤ q1 ∧ q1 ≤ 18446744073709551615 ∧ 0 ≤ r1 ∧ r1 < 4294967296 ∧ Hid (q1 * a + r1 = U)) (fun q _ => (intOf q).toNat)
    case atStart => exact ⟨g, r, rfl, rfl, st1.1, st1.2.1, st1.2.2.1, st1.2.2.2.1, st1.2.2.2.2.1, st1.2.2.2.2.2⟩
    case round =>
      obtain ⟨q1, r1, rfl, rfl, p1, p2, p2', p3, p4, p5⟩ := hrel
      by_cases t1 : 4294967296 ≤ q1
      · have HN := Lib.hid (dg1.next q1 r1 p1 p5.out (Or.inl t1))
        have HS := Lib.hid (dg1.stop (q1 - 1) (r1 + a) HN.out (mul_pred _ _ _ _ p5.out))
        have HR := Lib.hid (mul_pred _ _ _ _ p5.out)
        go_wp2
        · have ht : 4294967296 ≤ r1 + a := by assumption
          go_meet
          case rel => exact ⟨by rw [HS.out ht], rfl⟩
        · have ht : r1 + a < 4294967296 := by assumption
          go_round
          case rel => exact ⟨q1 - 1, r1 + a, rfl, rfl, HN.out, by omega, by omega, by omega, ht, HR.out⟩
          case measure => simp [intOf]; omega
      · obtain ⟨m1, m2⟩ := dg1.prod q1 p2 (by omega)
        by_cases t2 : 4294967296 * r1 + u1 < q1 * c
        · have HN := Lib.hid (dg1.next q1 r1 p1 p5.out (Or.inr t2))
          have HS := Lib.hid (dg1.stop (q1 - 1) (r1 + a) HN.out (mul_pred _ _ _ _ p5.out))
          have HR := Lib.hid (mul_pred _ _ _ _ p5.out)
          have q1p : 1 ≤ q1 := by have := dg1.pos; have := HN.out; omega
          go_wp2
          · have ht : 4294967296 ≤ r1 + a := by assumption
            go_meet
            case rel => exact ⟨by rw [HS.out ht], rfl⟩
          · have ht : r1 + a < 4294967296 := by assumption
            go_round
            case rel => exact ⟨q1 - 1, r1 + a, rfl, rfl, HN.out, by omega, by omega, by omega, ht, HR.out⟩
            case measure => simp [intOf]; omega
        · have HD := Lib.hid (dg1.done q1 r1 p1 p5.out (by omega))
          go_wp2
          go_meet
          case rel => exact ⟨by rw [HD.out], rfl⟩
  case rest =>
  obtain ⟨rfl, rfl⟩ := hcut
  clear st1 b13 b14
  go_upto_region 21 with fail
  go_cut [17] (fun s17 wx => s17 = .int .u64 R1 ∧ w = wx)
  case first =>
    go_wp2
    go_meet
    case rel => exact ⟨by rw [← hR1.out], rfl⟩
  case rest =>
  obtain ⟨rfl, rfl⟩ := hcut
  go_upto_region 23 with fail
  go_cut [18, 16] (fun s18 s16 wx => s18 = .int .u64 g2 ∧ s16 = .int .u64 r2 ∧ w = wx)
  case first =>
    go_wp2
    go_meet
    case rel => exact ⟨by rw [← eg2.out], by rw [← er2.out], rfl⟩
  case rest =>
  obtain ⟨rfl, rfl, rfl⟩ := hcut
  clear b15 b16
  go_upto_block 2 with fail
  go_cut [18] (fun s18 wx => s18 = .int .u64 Q0 ∧ w = wx)
  case first =>
    go_wp2_with fail
    go_loop [18, 16] (fun q r => ∃ q1 r1 : Int, q = .int .u64 q1 ∧ r = .int .u64 r1 ∧ Q0 ≤ q1 ∧ 0 ≤ q1 ∧ q1 ≤ 18446744073709551615 ∧ 0 ≤ r1 ∧ r1 < 4294967296 ∧ Hid (q1 * a + r1 = R1)) (fun q _ => (intOf q).toNat)
    case atStart => exact ⟨g2, r2, rfl, rfl, st2.1, st2.2.1, st2.2.2.1, st2.2.2.2.1, st2.2.2.2.2.1, st2.2.2.2.2.2⟩
    case round =>
      obtain ⟨q1, r1, rfl, rfl, p1, p2, p2', p3, p4, p5⟩ := hrel
      by_cases t1 : 4294967296 ≤ q1
      · have HN := Lib.hid (dg2.next q1 r1 p1 p5.out (Or.inl t1))
        have HS := Lib.hid (dg2.stop (q1 - 1) (r1 + a) HN.out (mul_pred _ _ _ _ p5.out))
        have HR := Lib.hid (mul_pred _ _ _ _ p5.out)
        go_wp2
        · have ht : 4294967296 ≤ r1 + a := by assumption
          go_meet
          case rel => exact ⟨by rw [HS.out ht], rfl⟩
        · have ht : r1 + a < 4294967296 := by assumption
          go_round
          case rel => exact ⟨q1 - 1, r1 + a, rfl, rfl, HN.out, by omega, by omega, by omega, ht, HR.out⟩
          case measure => simp [intOf]; omega
      · obtain ⟨m1, m2⟩ := dg2.prod q1 p2 (by omega)
        by_cases t2 : 4294967296 * r1 + u0 < q1 * c
        · have HN := Lib.hid (dg2.next q1 r1 p1 p5.out (Or.inr t2))
          have HS := Lib.hid (dg2.stop (q1 - 1) (r1 + a) HN.out (mul_pred _ _ _ _ p5.out))
          have HR := Lib.hid (mul_pred _ _ _ _ p5.out)
          have q1p : 1 ≤ q1 := by have := dg2.pos; have := HN.out; omega
          go_wp2
          · have ht : 4294967296 ≤ r1 + a := by assumption
            go_meet
            case rel => exact ⟨by rw [HS.out ht], rfl⟩
          · have ht : r1 + a < 4294967296 := by assumption
            go_round
            case rel => exact ⟨q1 - 1, r1 + a, rfl, rfl, HN.out, by omega, by omega, by omega, ht, HR.out⟩
            case measure => simp [intOf]; omega
        · have HD := Lib.hid (dg2.done q1 r1 p1 p5.out (by omega))
          go_wp2
          go_meet
          case rel => exact ⟨by rw [HD.out], rfl⟩
  case rest =>
  obtain ⟨rfl, rfl⟩ := hcut
  clear st2
  go_wp2
  go_ret2
  exact ⟨ret_two hQ.out hR.out, rfl⟩

theorem div64_pos (hi lo y : Int) (w : World) (h0 : 1 ≤ hi) (h1 : hi < y) (h2 : 0 ≤ lo) (h3 : lo ≤ 18446744073709551615) (h4 : y ≤ 140737488355327) :
    Calls Try.prog 81 #[.int .u64 hi, .int .u64 lo, .int .u64 y] w fun e w' => e = .returned (.tuple #[.int .u64 (twoW hi lo / y), .int .u64 (twoW hi lo % y)]) ∧ w' = w := by
  obtain ⟨s, e1, s0, s1, hL, n0, n1⟩ := norm_shift y.toNat (by omega) (by omega)
  have lz := Try.bits_LeadingZeros64 y w (by omega) (by omega)
  rw [show (64 - (Lib.bitLen y.toNat : Int)) = (s : Int) by omega] at lz
  have lz' : Calls Try.prog 95 #[.int .u64 y] w fun e w' => e = .returned (.int .i64 s) ∧ w = w' := lz.mono fun _ _ h => ⟨h.1, h.2.symm⟩
  have hy : ((y.toNat * 2 ^ s : Nat) : Int) = y * 2 ^ s := by rw [Int.natCast_mul, Int.toNat_of_nonneg (by omega)]; simp
  have m0 : 9223372036854775808 ≤ y * 2 ^ s := by rw [← hy]; have : 2 ^ 63 = 9223372036854775808 := rfl; omega
  have m1 : y * 2 ^ s ≤ 18446744073709551615 := by rw [← hy]; have : 2 ^ 64 = 18446744073709551616 := rfl; omega
  have sh := Shifted.mk' hi lo y s (by omega) h1 h2 h3 (by omega)
  have or := or_add hi (lo / 2 ^ (64 - s)) s (by omega) sh.G0 sh.Gs (by have := sh.lt; omega)
  have g0 := sh.G0
  have H0 := sh.H0
  have L0 := sh.L0
  have L1 := sh.L1
  have tot := sh.tot
  have lt := sh.lt
  clear sh e1 hL n0 n1 hy lz
  generalize hY : y * 2 ^ s = Y at *
  generalize hG : lo / 2 ^ (64 - s) = G at *
  generalize hLL : lo * 2 ^ s % 18446744073709551616 = L at *
  generalize hH : hi * 2 ^ s = H at *
  generalize hU : H + G = U at *
  have lt0 := and_low Y (by omega) (by omega)
  have lt1 := and_low L (by omega) (by omega)
  have u0 : 0 ≤ U := by omega
  have a0 : 2147483648 ≤ Y / 4294967296 := by omega
  have p0 : 0 ≤ U / (Y / 4294967296) * (Y / 4294967296) := Int.mul_nonneg (Int.ediv_nonneg u0 (by omega)) (by omega)
  have p1 : U / (Y / 4294967296) * (Y / 4294967296) ≤ U := Int.ediv_mul_le _ (by omega)
  have p2 : U % (Y / 4294967296) = U - U / (Y / 4294967296) * (Y / 4294967296) := by
    have := Int.emod_add_mul_ediv U (Y / 4294967296); rw [Int.mul_comm] at this; omega
  have p3 := Int.emod_nonneg U (show Y / 4294967296 ≠ 0 by omega)
  have p4 := Int.emod_lt_of_pos U (show 0 < Y / 4294967296 by omega)
  have p5 : U / (Y / 4294967296) ≤ U := Int.ediv_le_self _ u0
  have hYs : Y = Y / 4294967296 * 4294967296 + Y % 4294967296 := by omega
  have r0 := Int.emod_nonneg (U * 4294967296 + L / 4294967296) (show Y ≠ 0 by omega)
  have r1 := Int.emod_lt_of_pos (U * 4294967296 + L / 4294967296) (show 0 < Y by omega)
  have dg1 := Dig.mk' U (L / 4294967296) Y (Y / 4294967296) (Y % 4294967296) hYs (by omega) (by omega) (by omega) u0 lt (by omega) (by omega)
  have st1 := dig_start U (L / 4294967296) Y (Y / 4294967296) (Y % 4294967296) hYs (by omega) (by omega) u0 (by omega) (by omega)
  have rest := dig_rest U (L / 4294967296) Y _ (by omega) (by omega) rfl
  have fq := fin_quot U L Y (twoW hi lo) y s hY.symm (by omega) u0 lt (by omega) L0 (by omega) tot
  have fr := fin_rest U L Y (twoW hi lo) y s hY.symm (by omega) (by omega) tot
  generalize hR1 : (U * 4294967296 + L / 4294967296) % Y = R1 at *
  have dg2 := Dig.mk' R1 (L % 4294967296) Y (Y / 4294967296) (Y % 4294967296) hYs (by omega) (by omega) (by omega) r0 r1 (by omega) (by omega)
  have st2 := dig_start R1 (L % 4294967296) Y (Y / 4294967296) (Y % 4294967296) hYs (by omega) (by omega) r0 (by omega) (by omega)
  have q0 : 0 ≤ R1 / (Y / 4294967296) * (Y / 4294967296) := Int.mul_nonneg (Int.ediv_nonneg r0 (by omega)) (by omega)
  have q1 : R1 / (Y / 4294967296) * (Y / 4294967296) ≤ R1 := Int.ediv_mul_le _ (by omega)
  have q2 : R1 % (Y / 4294967296) = R1 - R1 / (Y / 4294967296) * (Y / 4294967296) := by
    have := Int.emod_add_mul_ediv R1 (Y / 4294967296); rw [Int.mul_comm] at this; omega
  have q3 := Int.emod_nonneg R1 (show Y / 4294967296 ≠ 0 by omega)
  have q4 := Int.emod_lt_of_pos R1 (show 0 < Y / 4294967296 by omega)
  have q5 : R1 / (Y / 4294967296) ≤ R1 := Int.ediv_le_self _ r0
  exact div64_core hi lo y s Y (Y / 4294967296) (Y % 4294967296) H G U L (L / 4294967296) (L % 4294967296) (U / (Y / 4294967296)) (U - U / (Y / 4294967296) * (Y / 4294967296)) (R1 / (Y / 4294967296)) (R1 - R1 / (Y / 4294967296) * (Y / 4294967296))
    ((U * 4294967296 + L / 4294967296) / Y) R1 ((R1 * 4294967296 + L % 4294967296) / Y) _ _ w h0 h1 h2 h3 h4 s0 s1 lz' (by rw [hY]; omega) (by rw [hY]; omega) (by rw [hH]; omega) (by rw [hH]; omega)
    hY rfl lt0 hH hG (by rw [or]) (by rw [IntKind.wrap_u64]; exact hLL) rfl lt1 rfl rfl a0 u0 (by omega) (by omega) (by omega) (by omega) (by omega) (by omega) (by omega) (by omega) (by omega) (by omega) p0 p1
    rest r0 (by omega) rfl rfl q0 q1 dg2 ⟨st2, Int.ediv_nonneg r0 (by omega), by omega, by omega, by omega, by show _ = _; omega⟩
    dg1 ⟨st1, Int.ediv_nonneg u0 (by omega), by omega, by omega, by omega, by show _ = _; omega⟩ fq fr

set_option maxHeartbeats 1000000 in
set_option maxRecDepth 100000 in
theorem div64_zero (lo y : Int) (w : World) (h1 : 0 < y) (h2 : 0 ≤ lo) (h3 : lo ≤ 18446744073709551615) (h4 : y ≤ 140737488355327) :
    Calls Try.prog 81 #[.int .u64 0, .int .u64 lo, .int .u64 y] w fun e w' => e = .returned (.tuple #[.int .u64 (lo / y), .int .u64 (lo % y)]) ∧ ∃ n, w' = w.drewN n := by
  go_enter Try.func81, Try.ntmps81
  go_wp2_with fail
  go_quiet (fail)
  go_wp2
  go_ret2
  exact ⟨rfl, _, rfl⟩

theorem div64_any (hi lo y : Int) (w : World) (h0 : 0 ≤ hi) (h1 : hi < y) (h2 : 0 ≤ lo) (h3 : lo ≤ 18446744073709551615) (h4 : y ≤ 140737488355327) :
    Calls Try.prog 81 #[.int .u64 hi, .int .u64 lo, .int .u64 y] w fun e w' => e = .returned (.tuple #[.int .u64 (twoW hi lo / y), .int .u64 (twoW hi lo % y)]) ∧ ∃ n, w' = w.drewN n := by
  by_cases hz : hi = 0
  · subst hz
    rw [show twoW 0 lo = lo by unfold twoW; omega]
    exact div64_zero lo y w (by omega) h2 h3 h4
  · exact (div64_pos hi lo y w (by omega) h1 h2 h3 h4).mono fun _ _ h => ⟨h.1, 0, h.2⟩

end Go.Proofs.Ytmoeccghkpjbgaa

/- Package proportion: what Of, Up and Compare return, for every input. -/
namespace Go.Proofs.Ytmoeccghkpjbgaa
open Go.RowKit

theorem amounts_any (b off len cap : Nat) (zs : List Int) (w : World) (hz : len = zs.length) (hbig : len ≤ 9223372036854775807) (hc : ∀ j, j < zs.length → w.cell? ⟨b, off + j, none⟩ = some (.int .i64 (zs.getD j 0))) :
    Calls Try.prog 69 #[.slice (some ⟨b, off, none⟩) len cap] w fun e w' => e = .returned (.bool (zs.all isAm)) ∧ w' = w := by
  have HC := Lib.hid hc; clear hc
  have HZ := Lib.hid hz; clear hz
  go_enter Try.func69, Try.ntmps69
  go_wp2
  go_loop [7] (fun i => ∃ k : Nat, k ≤ len ∧ i = .int .i64 k ∧ (zs.take k).all isAm = true) (fun i => len - (intOf i).toNat)
  case atStart => exact ⟨0, Nat.zero_le _, rfl, by simp⟩
  case round =>
    obtain ⟨k, hk, rfl, hall⟩ := hrel
    have HA := Lib.hid hall; clear hall
    by_cases hlt : k < len
    · have hkz : k < zs.length := by rw [← HZ.out]; exact hlt
      have hcell : w.cell? ⟨b, off + k, none⟩ = some (.int .i64 (zs.getD k 0)) := HC.out k hkz
      have HS := Lib.hid (all_take_succ zs k hkz)
      have HF := Lib.hid (all_false_at zs k hkz)
      generalize zs.getD k 0 = z at *
      by_cases hb : 0 ≤ z ∧ z ≤ 128849018880000
      · have HB := Lib.hid ((isAm_iff z).2 hb)
        obtain ⟨hb1, hb2⟩ := hb
        clear hkz
        go_wp2
        go_round
        case rel => exact ⟨k + 1, by omega, by go_num, by rw [HS.out, HA.out, HB.out]; rfl⟩
        case measure => simp [intOf]; omega
      · have HB := Lib.hid (HF.out (by rw [isAm_not]; omega))
        by_cases hz0 : z < 0
        · clear hb hkz
          go_wp2
          go_ret
          rw [HB.out]; exact ⟨rfl, rfl⟩
        · have hz1 : 128849018880000 < z := by omega
          clear hb hkz
          go_wp2
          go_ret
          rw [HB.out]; exact ⟨rfl, rfl⟩
    · have HT : RowKit.Hid (zs.take k = zs) := by
        show zs.take k = zs
        exact List.take_of_length_le (by have := HZ.out; omega)
      go_wp2
      go_ret
      rw [← HA.out, HT.out]; exact ⟨rfl, rfl⟩

theorem mul64_int (x y : Int) (w : World) (hx0 : 0 ≤ x) (hx : x ≤ 9223372036854775807) (hy0 : 0 ≤ y) (hy : y ≤ 9223372036854775807) :
    Calls Try.prog 94 #[.int .u64 x, .int .u64 y] w fun e w' => e = .returned (.tuple #[.int .u64 (hiW (x * y)), .int .u64 (loW (x * y))]) ∧ w = w' := by
  obtain ⟨A, rfl⟩ := Int.eq_ofNat_of_zero_le hx0
  obtain ⟨B, rfl⟩ := Int.eq_ofNat_of_zero_le hy0
  refine (Try.bits_Mul64 A B (by omega) (by omega) w).mono fun e w' h => ⟨?_, h.2.symm⟩
  rw [h.1, hiW, loW]; simp

theorem multiply_any (a b : Int) (w : World) (ha0 : 0 ≤ a) (ha : a ≤ 9223372036854775807) (hb0 : 0 ≤ b) (hb : b ≤ 9223372036854775807) :
    Calls Try.prog 80 #[.int .i64 a, .int .i64 b] w fun e w' => e = .returned (.agg #[.int .u64 (hiW (a * b)), .int .u64 (loW (a * b))]) ∧ Below w.heap.size w w' := by
  go_enter Try.func80, Try.ntmps80
  go_wp2_with (go_at_call 94; refine (mul64_int a b _ ha0 ha hb0 hb).mono ?_; rintro e w' ⟨rfl, rfl⟩)
  go_returns
  exact ⟨rfl, by go_grown⟩

theorem amounts_row (zs : List Int) (vs : List Value) (w : World) (hv : vs = zs.map (Value.int .i64)) (hl : zs.length ≤ 1000) (r : Bool) (h : zs.all isAm = r) :
    Calls Try.prog 69 #[.slice (some ⟨w.heap.size, 0, none⟩) zs.length zs.length] (w.alloc (.cells vs.toArray 3)) fun e w' => e = .returned (.bool r) ∧ (w.alloc (.cells vs.toArray 3)) = w' := by
  refine (amounts_any _ 0 zs.length zs.length zs _ rfl (by omega) ?_).mono fun e w' g => ⟨by rw [g.1, h], g.2.symm⟩
  intro j hj
  subst hv
  rw [World.cell?_alloc_new]
  simp [List.getD, List.getElem?_eq_getElem hj]

theorem amounts1 (a : Int) (w : World) (r : Bool) (h : isAm a = r) :
    Calls Try.prog 69 #[.slice (some ⟨w.heap.size, 0, none⟩) 1 1] (w.alloc (.cells #[.int .i64 a] 3)) fun e w' => e = .returned (.bool r) ∧ (w.alloc (.cells #[.int .i64 a] 3)) = w' :=
  amounts_row [a] [.int .i64 a] w rfl (by simp) r (by simpa using h)
theorem amounts2 (a b : Int) (w : World) (r : Bool) (h : (isAm a && isAm b) = r) :
    Calls Try.prog 69 #[.slice (some ⟨w.heap.size, 0, none⟩) 2 2] (w.alloc (.cells #[.int .i64 a, .int .i64 b] 3)) fun e w' => e = .returned (.bool r) ∧ (w.alloc (.cells #[.int .i64 a, .int .i64 b] 3)) = w' :=
  amounts_row [a, b] [.int .i64 a, .int .i64 b] w rfl (by simp) r (by simpa using h)
theorem amounts3 (a b c : Int) (w : World) (r : Bool) (h : (isAm a && isAm b && isAm c) = r) :
    Calls Try.prog 69 #[.slice (some ⟨w.heap.size, 0, none⟩) 3 3] (w.alloc (.cells #[.int .i64 a, .int .i64 b, .int .i64 c] 3)) fun e w' => e = .returned (.bool r) ∧ (w.alloc (.cells #[.int .i64 a, .int .i64 b, .int .i64 c] 3)) = w' :=
  amounts_row [a, b, c] [.int .i64 a, .int .i64 b, .int .i64 c] w rfl (by simp) r (by simpa [Bool.and_assoc] using h)
theorem amounts4 (a b c d : Int) (w : World) (r : Bool) (h : (isAm a && isAm b && isAm c && isAm d) = r) :
    Calls Try.prog 69 #[.slice (some ⟨w.heap.size, 0, none⟩) 4 4] (w.alloc (.cells #[.int .i64 a, .int .i64 b, .int .i64 c, .int .i64 d] 3)) fun e w' => e = .returned (.bool r) ∧ (w.alloc (.cells #[.int .i64 a, .int .i64 b, .int .i64 c, .int .i64 d] 3)) = w' :=
  amounts_row [a, b, c, d] [.int .i64 a, .int .i64 b, .int .i64 c, .int .i64 d] w rfl (by simp) r (by simpa [Bool.and_assoc] using h)

theorem of_bad (a b c : Int) (w : World) (h : (isAm a && isAm b && isAm c) = false) :
    Calls Try.prog 60 #[.int .i64 a, .int .i64 b, .int .i64 c] w fun e w' => e = .returned (.tuple #[.int .i64 0, .int .i64 0, .int .i64 2]) ∧ Below w.heap.size w w' := by
  have H := Lib.hid h; clear h
  go_enter Try.func60, Try.ntmps60
  go_wp2_with (go_at_call 69; refine (amounts3 _ _ _ _ _ H.out).mono ?_; rintro e w' ⟨rfl, rfl⟩)
  go_returns
  exact ⟨rfl, by go_grown⟩

theorem of_zero (a b : Int) (w : World) (h : (isAm a && isAm b && isAm 0) = true) :
    Calls Try.prog 60 #[.int .i64 a, .int .i64 b, .int .i64 0] w fun e w' => e = .returned (.tuple #[.int .i64 0, .int .i64 0, .int .i64 16]) ∧ Below w.heap.size w w' := by
  have H := Lib.hid h; clear h
  go_enter Try.func60, Try.ntmps60
  go_wp2_with (go_at_call 69; refine (amounts3 _ _ _ _ _ H.out).mono ?_; rintro e w' ⟨rfl, rfl⟩)
  go_returns
  exact ⟨rfl, by go_grown⟩

theorem of_ok (a b c Q R : Int) (w : World) (h : (isAm a && isAm b && isAm c) = true) (hc : 1 ≤ c) (hQ : Hid (a * b / c = Q)) (hR : Hid (a * b % c = R)) (hq : Q ≤ 128849018880000) :
    Calls Try.prog 60 #[.int .i64 a, .int .i64 b, .int .i64 c] w fun e w' => e = .returned (.tuple #[.int .i64 Q, .int .i64 R, .int .i64 0]) ∧ Below w.heap.size w w' := by
  have h' := h
  simp only [Bool.and_eq_true, isAm_iff] at h'
  obtain ⟨⟨⟨a0, a1⟩, b0, b1⟩, c0, c1⟩ := h'
  have H := Lib.hid h; clear h
  have p0 : 0 ≤ a * b := Int.mul_nonneg a0 b0
  have q0 : 0 ≤ Q := by rw [← hQ.out]; exact Int.ediv_nonneg p0 c0
  have r0 : 0 ≤ R := by rw [← hR.out]; exact Int.emod_nonneg _ (by omega)
  have r1 : R < c := by rw [← hR.out]; exact Int.emod_lt_of_pos _ (by omega)
  have k : hiW (a * b) < c := by
    rcases Int.lt_or_le (hiW (a * b)) c with k | k
    · exact k
    · have := hiW_ge _ _ k (by omega); rw [hQ.out] at this; omega
  have k0 := hiW_nonneg _ p0
  clear p0
  go_enter Try.func60, Try.ntmps60
  go_wp2_with (go_at_call 69; refine (amounts3 _ _ _ _ _ H.out).mono ?_; rintro e w' ⟨rfl, rfl⟩)
  refine (multiply_any a b _ a0 (by omega) b0 (by omega)).mono ?_
  rintro e w1 ⟨rfl, hb1⟩
  go_wp2_with fail
  refine (div64_any (hiW (a * b)) (loW (a * b)) c _ k0 k (loW_nonneg _) (loW_le _) (by omega)).mono ?_
  rw [twoW_split, hQ.out, hR.out]
  rintro e w2 ⟨rfl, n, rfl⟩
  go_wp2
  go_returns
  exact ⟨rfl, bel_trans (bel_alloc hb1) (bel_alloc (bel_drewN _ _))⟩

theorem of_big (a b c Q R : Int) (w : World) (h : (isAm a && isAm b && isAm c) = true) (hc : 1 ≤ c) (hQ : Hid (a * b / c = Q)) (hR : Hid (a * b % c = R)) (hq : 128849018880000 < Q) :
    Calls Try.prog 60 #[.int .i64 a, .int .i64 b, .int .i64 c] w fun e w' => e = .returned (.tuple #[.int .i64 0, .int .i64 0, .int .i64 15]) ∧ Below w.heap.size w w' := by
  have h' := h
  simp only [Bool.and_eq_true, isAm_iff] at h'
  obtain ⟨⟨⟨a0, a1⟩, b0, b1⟩, c0, c1⟩ := h'
  have H := Lib.hid h; clear h
  have p0 : 0 ≤ a * b := Int.mul_nonneg a0 b0
  have k0 := hiW_nonneg _ p0
  by_cases k : hiW (a * b) < c
  · have q1 : Q ≤ 18446744073709551615 := by
      rw [← hQ.out]
      have : a * b / c < 18446744073709551616 := by
        apply Int.ediv_lt_of_lt_mul (by omega)
        unfold hiW at k; omega
      omega
    have r0 : 0 ≤ R := by rw [← hR.out]; exact Int.emod_nonneg _ (by omega)
    have r1 : R < c := by rw [← hR.out]; exact Int.emod_lt_of_pos _ (by omega)
    clear p0
    go_enter Try.func60, Try.ntmps60
    go_wp2_with (go_at_call 69; refine (amounts3 _ _ _ _ _ H.out).mono ?_; rintro e w' ⟨rfl, rfl⟩)
    refine (multiply_any a b _ a0 (by omega) b0 (by omega)).mono ?_
    rintro e w1 ⟨rfl, hb1⟩
    go_wp2_with fail
    refine (div64_any (hiW (a * b)) (loW (a * b)) c _ k0 k (loW_nonneg _) (loW_le _) (by omega)).mono ?_
    rw [twoW_split, hQ.out, hR.out]
    rintro e w2 ⟨rfl, n, rfl⟩
    go_wp2
    go_returns
    exact ⟨rfl, bel_trans (bel_alloc hb1) (bel_alloc (bel_drewN _ _))⟩
  · clear p0
    go_enter Try.func60, Try.ntmps60
    go_wp2_with (go_at_call 69; refine (amounts3 _ _ _ _ _ H.out).mono ?_; rintro e w' ⟨rfl, rfl⟩)
    refine (multiply_any a b _ a0 (by omega) b0 (by omega)).mono ?_
    rintro e w1 ⟨rfl, hb1⟩
    go_wp2
    go_returns
    exact ⟨rfl, bel_trans (bel_alloc hb1) (bel_alloc (Below.refl _ _))⟩

/-- 'Of', whatever it is handed -/
theorem of_any (a b c : Int) (w : World) :
    Calls Try.prog 60 #[.int .i64 a, .int .i64 b, .int .i64 c] w fun e w' => e = .returned (.tuple #[.int .i64 (ofQ a b c), .int .i64 (ofR a b c), .int .i64 (ofE a b c)]) ∧ Below w.heap.size w w' := by
  unfold ofQ ofR
  cases h : (isAm a && isAm b && isAm c) with
  | false =>
    have e : ofE a b c = 2 := by unfold ofE; rw [h]; rfl
    rw [e]; exact of_bad a b c w h
  | true =>
    by_cases hc : c = 0
    · subst hc
      have e : ofE a b 0 = 16 := by unfold ofE; rw [h]; rfl
      rw [e]; exact of_zero a b w h
    · have h' := h
      simp only [Bool.and_eq_true, isAm_iff] at h'
      by_cases hq : a * b / c ≤ 128849018880000
      · have e : ofE a b c = 0 := by unfold ofE; rw [h, if_pos rfl, if_neg hc, if_pos hq]
        rw [e]; exact of_ok a b c _ _ w h (by omega) rfl rfl hq
      · have e : ofE a b c = 15 := by unfold ofE; rw [h, if_pos rfl, if_neg hc, if_neg hq]
        rw [e]; exact of_big a b c _ _ w h (by omega) rfl rfl (by omega)

end Go.Proofs.Ytmoeccghkpjbgaa

/- Package proportion: Up and Compare. -/
namespace Go.Proofs.Ytmoeccghkpjbgaa
open Go.RowKit


/-- two words compared: the upper ones first -/
def cmpW (h1 l1 h2 l2 : Int) : Int := if cmpN h1 h2 = 0 then cmpN l1 l2 else cmpN h1 h2
theorem cmpW_eq (p q : Int) : cmpW (hiW p) (loW p) (hiW q) (loW q) = cmpN p q := by
  unfold cmpW cmpN hiW loW; grind

end Go.Proofs.Ytmoeccghkpjbgaa

/- The reference of layer 1: products in halves, their order and difference. -/
namespace Go.Proofs.Ytmoeccghkpjbgaa
open Go.RowKit

/-- the two parts of a wide number of the reference: 62 bits in the lower one -/
def hi62 (p : Int) : Int := p / 4611686018427387904
def lo62 (p : Int) : Int := p % 4611686018427387904
def lessB (h1 l1 h2 l2 : Int) : Bool := decide (h1 < h2) || (decide (h1 = h2) && decide (l1 < l2))
theorem lessB_eq (p q : Int) : lessB (hi62 p) (lo62 p) (hi62 q) (lo62 q) = decide (p < q) := by
  unfold lessB hi62 lo62
  rw [Bool.eq_iff_iff]; simp; omega

theorem ret_agg {k l : IntKind} {a b c d : Int} (h : a = b) (g : c = d) : Ending.returned (.agg #[.int k a, .int l c]) = .returned (.agg #[.int k b, .int l d]) := by rw [h, g]

def threeE (a b c : Int) : Int := if isAm a && isAm b && isAm c then (if c = 0 then 16 else 0) else 2


theorem is_any (n : Int) (w : World) :
    Calls Try.prog 88 #[.int .i64 n] w fun e w' => e = .returned (.bool (isAm n)) ∧ w = w' := by
  go_enter Try.func88, Try.ntmps88
  go_wp2
  all_goals go_ret
  all_goals (refine ⟨ret_bool ?_, rfl⟩; unfold isAm; grind)

theorem less_any (h1 l1 h2 l2 : Int) (w : World) :
    Calls Try.prog 97 #[.agg #[.int .u64 h1, .int .u64 l1], .agg #[.int .u64 h2, .int .u64 l2]] w fun e w' => e = .returned (.bool (lessB h1 l1 h2 l2)) ∧ Below w.heap.size w w' := by
  go_enter Try.func97, Try.ntmps97
  go_wp2
  all_goals go_ret
  all_goals (refine ⟨ret_bool ?_, by go_grown⟩; unfold lessB; grind)

theorem and_31 (n : Int) (h0 : 0 ≤ n) (h1 : n ≤ 18446744073709551615) : bits .and .u64 n 2147483647 = n % 2147483648 := by
  obtain ⟨A, rfl⟩ := Int.eq_ofNat_of_zero_le h0
  have := u64_and_nat A 2147483647 (by omega) (by omega)
  rw [nat_mask31] at this
  simpa using this
theorem or_31 (h g : Int) (h0 : 0 ≤ h) (h1 : h < 2147483648) (g0 : 0 ≤ g) (g1 : g < 2147483648) : bits .or .u64 (h * 2147483648) g = h * 2147483648 + g :=
  or_add h g 31 h0 g0 g1 (by omega)

set_option maxHeartbeats 1000000 in
theorem product_core (a b A0 A1 B0 B1 P00 P01 P10 P11 M M0 O O0 L0 H L : Int) (w : World) (a0 : 0 ≤ a) (a1 : a ≤ 4611686018427387903) (b0 : 0 ≤ b) (b1 : b ≤ 4611686018427387903)
    (x1 : bits .and .u64 a 2147483647 = A0) (x2 : a / 2147483648 = A1) (x3 : bits .and .u64 b 2147483647 = B0) (x4 : b / 2147483648 = B1)
    (e00 : A0 * B0 = P00) (e01 : A0 * B1 = P01) (e10 : A1 * B0 = P10) (e11 : A1 * B1 = P11)
    (k0 : 0 ≤ P00) (k1 : P00 ≤ 4611686018427387904) (k2 : 0 ≤ P01) (k3 : P01 ≤ 4611686018427387904) (k4 : 0 ≤ P10) (k5 : P10 ≤ 4611686018427387904) (k6 : 0 ≤ P11) (k7 : P11 ≤ 4611686018427387904)
    (y1 : P01 + P00 / 2147483648 = M) (y2 : bits .and .u64 M 2147483647 = M0) (m0 : 0 ≤ M0) (m1 : M0 ≤ 2147483647) (y3 : P10 + M0 = O) (y4 : bits .and .u64 O 2147483647 = O0) (y5 : bits .and .u64 P00 2147483647 = L0)
    (o0 : 0 ≤ O0) (o1 : O0 ≤ 2147483647) (n0 : 0 ≤ M) (n1 : M ≤ 9223372036854775808) (n2 : 0 ≤ O) (n3 : O ≤ 9223372036854775808)
    (y6 : bits .or .u64 (O0 * 2147483648) L0 = L) (y7 : Hid (P11 + M / 2147483648 + O / 2147483648 = H)) :
    Calls Try.prog 96 #[.int .i64 a, .int .i64 b] w fun e w' => e = .returned (.agg #[.int .u64 H, .int .u64 L]) ∧ Below w.heap.size w w' := by
  go_enter Try.func96, Try.ntmps96
  go_wp2
  go_returns
  rw [← y7.out]
  exact ⟨rfl, by go_grown⟩

theorem product_any (a b : Int) (w : World) (a0 : 0 ≤ a) (a1 : a ≤ 4611686018427387903) (b0 : 0 ≤ b) (b1 : b ≤ 4611686018427387903) :
    Calls Try.prog 96 #[.int .i64 a, .int .i64 b] w fun e w' => e = .returned (.agg #[.int .u64 (hi62 (a * b)), .int .u64 (lo62 (a * b))]) ∧ Below w.heap.size w w' := by
  have e : a * b = (a / 2147483648) * (b / 2147483648) * 4611686018427387904 + (a / 2147483648 * (b % 2147483648) + a % 2147483648 * (b / 2147483648)) * 2147483648 + a % 2147483648 * (b % 2147483648) := by
    have ea : a = a / 2147483648 * 2147483648 + a % 2147483648 := by omega
    have eb : b = b / 2147483648 * 2147483648 + b % 2147483648 := by omega
    generalize a / 2147483648 = A1 at *
    generalize a % 2147483648 = A0 at *
    generalize b / 2147483648 = B1 at *
    generalize b % 2147483648 = B0 at *
    subst ea; subst eb
    grind
  have bd : ∀ x y : Int, 0 ≤ x → x ≤ 2147483647 → 0 ≤ y → y ≤ 2147483647 → 0 ≤ x * y ∧ x * y ≤ 4611686014132420609 := fun x y h1 h2 h3 h4 =>
    ⟨Int.mul_nonneg h1 h3, by have := Int.mul_le_mul h2 h4 h3 (by omega); omega⟩
  have f00 := bd (a % 2147483648) (b % 2147483648) (by omega) (by omega) (by omega) (by omega)
  have f01 := bd (a % 2147483648) (b / 2147483648) (by omega) (by omega) (by omega) (by omega)
  have f10 := bd (a / 2147483648) (b % 2147483648) (by omega) (by omega) (by omega) (by omega)
  have f11 := bd (a / 2147483648) (b / 2147483648) (by omega) (by omega) (by omega) (by omega)
  have x1 := and_31 a (by omega) (by omega)
  have x3 := and_31 b (by omega) (by omega)
  have core := product_core a b (a % 2147483648) (a / 2147483648) (b % 2147483648) (b / 2147483648)
  generalize a % 2147483648 * (b % 2147483648) = P00 at *
  generalize a % 2147483648 * (b / 2147483648) = P01 at *
  generalize a / 2147483648 * (b % 2147483648) = P10 at *
  generalize a / 2147483648 * (b / 2147483648) = P11 at *
  refine core P00 P01 P10 P11 (P01 + P00 / 2147483648) ((P01 + P00 / 2147483648) % 2147483648) (P10 + (P01 + P00 / 2147483648) % 2147483648) ((P10 + (P01 + P00 / 2147483648) % 2147483648) % 2147483648) (P00 % 2147483648) _ _ w a0 a1 b0 b1 x1 rfl x3 rfl rfl rfl rfl rfl
    (by omega) (by omega) (by omega) (by omega) (by omega) (by omega) (by omega) (by omega)
    rfl (and_31 _ (by omega) (by omega)) (by omega) (by omega) rfl (and_31 _ (by omega) (by omega)) (and_31 _ (by omega) (by omega)) (by omega) (by omega) (by omega) (by omega) (by omega) (by omega) ?_ ?_
  · rw [or_31 _ _ (by omega) (by omega) (by omega) (by omega)]
    unfold lo62; omega
  · show _ = _
    unfold hi62; omega

theorem minus_any (p q : Int) (w : World) (q0 : 0 ≤ q) (h : q ≤ p) (hp : p ≤ 19807040628566084398385987584) :
    Calls Try.prog 98 #[.agg #[.int .u64 (hi62 p), .int .u64 (lo62 p)], .agg #[.int .u64 (hi62 q), .int .u64 (lo62 q)]] w fun e w' => e = .returned (.agg #[.int .u64 (hi62 (p - q)), .int .u64 (lo62 (p - q))]) ∧ Below w.heap.size w w' := by
  go_enter Try.func98, Try.ntmps98
  go_wp2
  · have ht : lo62 p < lo62 q := by assumption
    go_returns
    refine ⟨ret_agg ?_ ?_, by go_grown⟩
    · simp only [IntKind.wrap_u64]; unfold hi62 lo62 at *; omega
    · simp only [IntKind.wrap_u64]; unfold hi62 lo62 at *; omega
  · have ht : lo62 q ≤ lo62 p := by assumption
    go_returns
    refine ⟨ret_agg ?_ ?_, by go_grown⟩
    · simp only [IntKind.wrap_u64]; unfold hi62 lo62 at *; omega
    · simp only [IntKind.wrap_u64]; unfold hi62 lo62 at *; omega

end Go.Proofs.Ytmoeccghkpjbgaa

/- Package proportion: slices that are read, and what total returns. -/
namespace Go.Proofs.Ytmoeccghkpjbgaa
open Go.RowKit

/-! ### slices of integers, as they are read -/

/-- a value is a slice that reads as a list of integers -/
def Ins (w : World) (v : Value) (zs : List Int) : Prop :=
  ∃ a cap, v = .slice a zs.length cap ∧ zs.length ≤ 9223372036854775807 ∧
    (zs.length = 0 ∨ ∃ b off, a = some ⟨b, off, none⟩ ∧ b < w.heap.size ∧ ∀ j, j < zs.length → w.cell? ⟨b, off + j, none⟩ = some (.int .i64 (zs.getD j 0)))

theorem Ins.below {w w' : World} {v : Value} {zs : List Int} (h : Ins w v zs) (hb : Below w.heap.size w w') : Ins w' v zs := by
  obtain ⟨a, cap, rfl, hl, h | ⟨b, off, rfl, hlt, hc⟩⟩ := h
  · exact ⟨a, cap, rfl, hl, .inl h⟩
  · exact ⟨_, cap, rfl, hl, .inr ⟨b, off, rfl, Nat.lt_of_lt_of_le hlt hb.size, fun j hj => by rw [(bcell hb).1 _ _ hlt]; exact hc j hj⟩⟩

theorem Ins.alloc {w : World} {v : Value} {zs : List Int} (h : Ins w v zs) (o : Obj) : Ins (w.alloc o) v zs := h.below (bel_alloc (Below.refl _ _))

/-- a row that the call itself made -/
abbrev Own (w : World) (B g n cap : Nat) (zs : List Int) : Prop := w.ownsRow B 3 1 (.slice (some ⟨g, 0, none⟩) n cap) n (zs.map (Value.int .i64))

theorem Own.len {w : World} {B g n cap : Nat} {zs : List Int} (h : Own w B g n cap zs) : zs.length = n := by
  have := h.1; simpa using this
theorem Own.cell {w : World} {B g n cap : Nat} {zs : List Int} (h : Own w B g n cap zs) (j : Nat) (hj : j < n) : w.cell? ⟨g, j, none⟩ = some (.int .i64 (zs.getD j 0)) := by
  have hl := h.len
  rw [World.ownsRow.cellAt h j (by omega)]
  simp [List.getD, List.getElem?_eq_getElem (show j < zs.length by omega)]
theorem Own.set {w : World} {B g n cap : Nat} {zs : List Int} (h : Own w B g n cap zs) (j : Nat) (x : Int) : Own (w.setCell ⟨g, j, none⟩ (.int .i64 x)) B g n cap (zs.set j x) := by
  have := (World.ownsRow.stored h j (.int .i64 x)).1
  rw [← List.map_set] at this
  exact this
theorem Own.other {w : World} {B g n cap : Nat} {zs : List Int} (h : Own w B g n cap zs) (p : Addr) (hp : p.block ≠ g) (u : Value) : Own (w.setCell p u) B g n cap zs :=
  ownsRow_setCell_other h (by simp [Value.ownBlock]; omega) u
theorem Own.lt {w : World} {B g n cap : Nat} {zs : List Int} (h : Own w B g n cap zs) : B ≤ g ∧ g < w.heap.size := World.ownsRow.lt h g rfl
theorem Own.below {w w' : World} {B g n cap : Nat} {zs : List Int} (h : Own w B g n cap zs) (hb : Below w.heap.size w w') : Own w' B g n cap zs := by
  obtain ⟨h1, h2⟩ := h
  refine ⟨h1, ?_⟩
  rcases h2 with ⟨h2, _⟩ | ⟨g', c', cur, hv, hg, hh, r⟩
  · cases h2
  · refine .inr ⟨g', c', cur, hv, hg, ?_, r⟩
    have hlt : g' < w.heap.size := by
      rcases Nat.lt_or_ge g' w.heap.size with h | h
      · exact h
      · rw [Array.getElem?_eq_none h] at hh; cases hh
    rw [hb.block _ hlt]; exact hh
theorem Own.base {w : World} {B B' g n cap : Nat} {zs : List Int} (h : Own w B g n cap zs) (hb : B' ≤ B) : Own w B' g n cap zs := by
  obtain ⟨h1, h2⟩ := h
  refine ⟨h1, ?_⟩
  rcases h2 with ⟨h2, _⟩ | ⟨g', c', cur, hv, hg, r⟩
  · cases h2
  · exact .inr ⟨g', c', cur, hv, Nat.le_trans hb hg, r⟩
theorem Own.ins {w : World} {B g n cap : Nat} {zs : List Int} (h : Own w B g n cap zs) (hn : n ≤ 9223372036854775807) : Ins w (.slice (some ⟨g, 0, none⟩) n cap) zs := by
  have hl := h.len
  refine ⟨some ⟨g, 0, none⟩, cap, by rw [hl], by omega, .inr ⟨g, 0, rfl, h.lt.2, fun j hj => ?_⟩⟩
  rw [Nat.zero_add]; exact h.cell j (by omega)

/-- a row that is written out -/
theorem ins_lit (w : World) (zs : List Int) (vs : List Value) (hv : vs = zs.map (Value.int .i64)) (hl : zs.length ≤ 1000) :
    Ins (w.alloc (.cells vs.toArray 3)) (.slice (some ⟨w.heap.size, 0, none⟩) zs.length zs.length) zs := by
  refine ⟨_, _, rfl, by omega, .inr ⟨w.heap.size, 0, rfl, by simp, fun j hj => ?_⟩⟩
  subst hv
  rw [World.cell?_alloc_new]
  simp [List.getD, List.getElem?_eq_getElem hj]

/-! ### total -/

/-- what total returns: the error, the sum -/
def totE (zs : List Int) : Int :=
  if zs.length = 0 then 9 else if 64 < zs.length then 8 else if zs.all isAm then (if isAm zs.sum then (if zs.sum = 0 then 16 else 0) else 2) else 2
def totS (zs : List Int) : Int := if totE zs = 0 then zs.sum else 0

theorem sum_take_succ (zs : List Int) (k : Nat) (hk : k < zs.length) : (zs.take (k + 1)).sum = (zs.take k).sum + zs.getD k 0 := by
  rw [List.take_add_one, List.sum_append]
  simp [List.getD, List.getElem?_eq_getElem hk]
theorem sum_bd (zs : List Int) (h : zs.all isAm = true) : 0 ≤ zs.sum ∧ zs.sum ≤ 128849018880000 * zs.length := by
  induction zs with
  | nil => simp
  | cons z zs ih =>
    simp only [List.all_cons, Bool.and_eq_true, isAm_iff] at h
    have := ih h.2
    simp only [List.sum_cons, List.length_cons]
    omega
theorem all_take (zs : List Int) (h : zs.all isAm = true) (k : Nat) : (zs.take k).all isAm = true := by
  rw [List.all_eq_true] at *; intro x hx; exact h x (List.mem_of_mem_take hx)
theorem all_get (zs : List Int) (h : zs.all isAm = true) (k : Nat) (hk : k < zs.length) : isAm (zs.getD k 0) = true := by
  rw [List.all_eq_true] at h; apply h; simp [List.getD, List.getElem?_eq_getElem hk]

theorem total_none (a : Option Addr) (cap : Nat) (w : World) :
    Calls Try.prog 66 #[.slice a 0 cap] w fun e w' => e = .returned (.tuple #[.int .i64 0, .int .i64 9]) ∧ Below w.heap.size w w' := by
  go_enter Try.func66, Try.ntmps66
  go_wp2
  go_returns
  exact ⟨rfl, Below.refl _ _⟩
theorem total_many (a : Option Addr) (n cap : Nat) (w : World) (h : 64 < n) (h2 : n ≤ 9223372036854775807) :
    Calls Try.prog 66 #[.slice a n cap] w fun e w' => e = .returned (.tuple #[.int .i64 0, .int .i64 8]) ∧ Below w.heap.size w w' := by
  have h1 : ((n : Int) == 0) = false := by rw [beq_eq_false_iff_ne]; omega
  go_enter Try.func66, Try.ntmps66
  go_wp2
  go_returns
  exact ⟨rfl, Below.refl _ _⟩

theorem total_bad (b off n cap : Nat) (zs : List Int) (w : World) (hz : n = zs.length) (h0 : 0 < n) (h1 : n ≤ 64) (hc : ∀ j, j < zs.length → w.cell? ⟨b, off + j, none⟩ = some (.int .i64 (zs.getD j 0))) (ha : zs.all isAm = false) :
    Calls Try.prog 66 #[.slice (some ⟨b, off, none⟩) n cap] w fun e w' => e = .returned (.tuple #[.int .i64 0, .int .i64 2]) ∧ Below w.heap.size w w' := by
  have HA := Lib.hid (amounts_any b off n cap zs w hz (by omega) hc); clear hc
  have HF := Lib.hid ha; clear ha hz
  have h2 : ((n : Int) == 0) = false := by rw [beq_eq_false_iff_ne]; omega
  go_enter Try.func66, Try.ntmps66
  go_wp2_with fail
  refine HA.out.mono ?_
  rw [HF.out]
  rintro e w' ⟨rfl, rfl⟩
  go_wp2
  go_returns
  exact ⟨rfl, Below.refl _ _⟩

theorem total_good (b off n cap : Nat) (zs : List Int) (X E : Int) (w : World) (q1 : Hid (isAm zs.sum = false → 0 = X ∧ 2 = E)) (q2 : Hid (isAm zs.sum = true → zs.sum = 0 → 0 = X ∧ 16 = E)) (q3 : Hid (isAm zs.sum = true → zs.sum ≠ 0 → zs.sum = X ∧ 0 = E)) (hz : n = zs.length) (h0 : 0 < n) (h1 : n ≤ 64) (hc : ∀ j, j < zs.length → w.cell? ⟨b, off + j, none⟩ = some (.int .i64 (zs.getD j 0))) (ha : zs.all isAm = true) :
    Calls Try.prog 66 #[.slice (some ⟨b, off, none⟩) n cap] w fun e w' => e = .returned (.tuple #[.int .i64 X, .int .i64 E]) ∧ Below w.heap.size w w' := by
  have HA := Lib.hid (amounts_any b off n cap zs w hz (by omega) hc)
  have HC := Lib.hid hc; clear hc
  have HT := Lib.hid ha; clear ha
  have HZ := Lib.hid hz; clear hz
  have h2 : ((n : Int) == 0) = false := by rw [beq_eq_false_iff_ne]; omega
  have hsb := sum_bd zs HT.out
  have hsl : zs.sum ≤ 8246337208320000 := by have := HZ.out; omega
  generalize hS : zs.sum = S at *
  have HS := Lib.hid hS; clear hS
  replace hsb := hsb.1
  go_enter Try.func66, Try.ntmps66
  go_wp2_with fail
  refine HA.out.mono ?_
  rw [HT.out]
  rintro e w' ⟨rfl, hw⟩
  subst hw
  go_upto_block 0 with fail
  go_cut [4] (fun s4 wx => s4 = .int .i64 S ∧ w' = wx)
  case first =>
    go_wp2_with fail
    go_loop [4, 18] (fun s i => ∃ k : Nat, k ≤ n ∧ i = .int .i64 k ∧ s = .int .i64 (zs.take k).sum) (fun _ i => n - (intOf i).toNat)
    case atStart => exact ⟨0, Nat.zero_le _, rfl, rfl⟩
    case round =>
      obtain ⟨k, hk, rfl, rfl⟩ := hrel
      have hb := sum_bd _ (all_take zs HT.out k)
      have hl : (zs.take k).length ≤ 64 := by have := List.length_take_le k zs; omega
      have hb2 : (zs.take k).sum ≤ 8246337208320000 := by omega
      replace hb := hb.1
      clear hl
      by_cases hlt : k < n
      · have hkz : k < zs.length := by rw [← HZ.out]; exact hlt
        have hcell := HC.out k hkz
        have HS := Lib.hid (sum_take_succ zs k hkz)
        obtain ⟨z0, z1⟩ := (isAm_iff _).1 (all_get zs HT.out k hkz)
        clear hkz
        generalize zs.getD k 0 = z at *
        generalize (zs.take k).sum = t at *
        go_wp2
        go_round
        case rel => exact ⟨k + 1, by omega, by go_num, by rw [HS.out]⟩
        case measure => simp [intOf]; omega
      · have HE : Hid (zs.take k = zs) := by
          show zs.take k = zs
          exact List.take_of_length_le (by have := HZ.out; omega)
        have HE2 : Hid ((zs.take k).sum = S) := by show _ = _; rw [HE.out, HS.out]
        generalize (zs.take k).sum = t at *
        go_wp2
        go_meet
        case rel => exact ⟨by rw [HE2.out], rfl⟩
  case rest =>
  obtain ⟨rfl, rfl⟩ := hcut
  cases hs : isAm S with
  | false =>
    have H := Lib.hid hs; clear hs
    have Q := Lib.hid (q1.out H.out)
    go_wp2_with (go_at_call 69; refine (amounts1 _ _ _ H.out).mono ?_; rintro e w2 ⟨rfl, rfl⟩)
    go_returns
    exact ⟨ret_two Q.out.1 Q.out.2, by go_grown⟩
  | true =>
    have H := Lib.hid hs; clear hs
    by_cases hS0 : S = 0
    · subst hS0
      have Q := Lib.hid (q2.out H.out rfl)
      go_wp2_with (go_at_call 69; refine (amounts1 _ _ _ H.out).mono ?_; rintro e w2 ⟨rfl, rfl⟩)
      go_returns
      exact ⟨ret_two Q.out.1 Q.out.2, by go_grown⟩
    · have hSb : (S == 0) = false := by rw [beq_eq_false_iff_ne]; exact hS0
      have Q := Lib.hid (q3.out H.out hS0)
      clear hS0
      go_wp2_with (go_at_call 69; refine (amounts1 _ _ _ H.out).mono ?_; rintro e w2 ⟨rfl, rfl⟩)
      go_returns
      exact ⟨ret_two Q.out.1 Q.out.2, by go_grown⟩

theorem total_any (v : Value) (zs : List Int) (w : World) (h : Ins w v zs) :
    Calls Try.prog 66 #[v] w fun e w' => e = .returned (.tuple #[.int .i64 (totS zs), .int .i64 (totE zs)]) ∧ Below w.heap.size w w' := by
  obtain ⟨a, cap, rfl, hl, h⟩ := h
  by_cases h0 : zs.length = 0
  · have e : totE zs = 9 := by unfold totE; rw [if_pos h0]
    unfold totS; rw [e, h0]; exact total_none a cap w
  · by_cases h64 : 64 < zs.length
    · have e : totE zs = 8 := by unfold totE; rw [if_neg h0, if_pos h64]
      unfold totS; rw [e]; exact total_many a _ cap w h64 hl
    · rcases h with h | ⟨b, off, rfl, hlt, hc⟩
      · omega
      cases ha : zs.all isAm with
      | false =>
        have e : totE zs = 2 := by unfold totE; rw [if_neg h0, if_neg h64, ha]; rfl
        unfold totS; rw [e]; exact total_bad b off _ cap zs w rfl (by omega) (by omega) hc ha
      | true =>
        have e : totE zs = (if isAm zs.sum then (if zs.sum = 0 then 16 else 0) else 2) := by unfold totE; rw [if_neg h0, if_neg h64, ha]; rfl
        refine total_good b off _ cap zs _ _ w ?_ ?_ ?_ rfl (by omega) (by omega) hc ha
        · intro hs; unfold totS; rw [e, hs]; exact ⟨rfl, rfl⟩
        · intro hs hz; unfold totS; rw [e, hs, hz]; exact ⟨rfl, rfl⟩
        · intro hs hz; unfold totS; rw [e, hs, if_pos rfl, if_neg hz]; exact ⟨rfl, rfl⟩

end Go.Proofs.Ytmoeccghkpjbgaa

/- Package proportion: giving out what is left. -/
namespace Go.Proofs.Ytmoeccghkpjbgaa
open Go.RowKit

/-! ### the place of the greatest number -/
theorem foldl_max (l : List Int) : ∀ a : Int, (l.foldl max a = a ∨ l.foldl max a ∈ l) ∧ a ≤ l.foldl max a ∧ ∀ x ∈ l, x ≤ l.foldl max a := by
  induction l with
  | nil => intro a; exact ⟨.inl rfl, Int.le_refl _, by simp⟩
  | cons z l ih =>
    intro a
    simp only [List.foldl_cons]
    obtain ⟨h1, h2, h3⟩ := ih (max a z)
    refine ⟨?_, by omega, ?_⟩
    · rcases h1 with h1 | h1
      · rw [h1]
        by_cases h : z ≤ a
        · exact .inl (by omega)
        · exact .inr (by rw [show max a z = z by omega]; exact List.mem_cons_self)
      · exact .inr (List.mem_cons_of_mem _ h1)
    · intro x hx
      rcases List.mem_cons.1 hx with rfl | hx
      · omega
      · exact h3 x hx
theorem maxOf_spec (zs : List Int) (h : zs ≠ []) : Lib.maxOf zs ∈ zs ∧ ∀ x ∈ zs, x ≤ Lib.maxOf zs := by
  cases zs with
  | nil => exact absurd rfl h
  | cons z l =>
    unfold Lib.maxOf
    simp only [List.headD_cons]
    obtain ⟨h1, h2, h3⟩ := foldl_max (z :: l) z
    refine ⟨?_, h3⟩
    rcases h1 with h1 | h1
    · rw [h1]; exact List.mem_cons_self
    · exact h1
theorem idxFrom_spec (x : Int) : ∀ (zs : List Int) (i : Nat), x ∈ zs → ∃ k : Nat, k < zs.length ∧ zs.getD k 0 = x ∧ Lib.idxFrom zs x i = ((i + k : Nat) : Int) ∧ ∀ j, j < k → zs.getD j 0 ≠ x
  | [], _, h => by cases h
  | z :: zs, i, h => by
    by_cases hz : z = x
    · exact ⟨0, by simp, by simp [hz], by simp [Lib.idxFrom, hz], by omega⟩
    · obtain ⟨k, h1, h2, h3, h4⟩ := idxFrom_spec x zs (i + 1) (by rcases List.mem_cons.1 h with h | h; exact absurd h.symm hz; exact h)
      refine ⟨k + 1, by simp; omega, by simpa using h2, ?_, ?_⟩
      · simp only [Lib.idxFrom, hz, if_false]
        rw [h3]; congr 1; omega
      · intro j hj
        cases j with
        | zero => simpa using hz
        | succ j => simpa using h4 j (by omega)

/-- the place of the greatest one of some numbers, the first one of equal ones -/
def pick (rs : List Int) : Nat := (Lib.idxOf rs (Lib.maxOf rs)).toNat
theorem pick_spec (rs : List Int) (h : rs ≠ []) : Lib.idxOf rs (Lib.maxOf rs) = (pick rs : Int) ∧ pick rs < rs.length ∧ rs.getD (pick rs) 0 = Lib.maxOf rs ∧ ∀ x ∈ rs, x ≤ rs.getD (pick rs) 0 := by
  obtain ⟨h1, h2⟩ := maxOf_spec rs h
  obtain ⟨k, k1, k2, k3, _⟩ := idxFrom_spec _ rs 0 h1
  have : pick rs = k := by unfold pick Lib.idxOf; rw [k3]; omega
  rw [this, k2]
  exact ⟨by unfold Lib.idxOf; rw [k3]; simp, k1, rfl, h2⟩

/-- one more is given out -/
def giveStep (p : List Int × List Int) : List Int × List Int := (p.1.set (pick p.2) (p.1.getD (pick p.2) 0 + 1), p.2.set (pick p.2) 0)
def give : Nat → List Int × List Int → List Int × List Int
  | 0, p => p
  | k + 1, p => giveStep (give k p)
theorem give_len (k : Nat) (p : List Int × List Int) : (give k p).1.length = p.1.length ∧ (give k p).2.length = p.2.length := by
  induction k with
  | zero => exact ⟨rfl, rfl⟩
  | succ k ih => simp [give, giveStep, ih]
theorem give_bd (k : Nat) (ps rs : List Int) (M : Int) (h : ∀ j, 0 ≤ ps.getD j 0 ∧ ps.getD j 0 ≤ M) : ∀ j, 0 ≤ (give k (ps, rs)).1.getD j 0 ∧ (give k (ps, rs)).1.getD j 0 ≤ M + k := by
  induction k with
  | zero => intro j; have := h j; simp only [give]; omega
  | succ k ih =>
    intro j
    simp only [give, giveStep]
    generalize pick (give k (ps, rs)).2 = i
    have hi := ih i
    have hj := ih j
    generalize (give k (ps, rs)).1 = l at *
    rw [List.getD_eq_getElem?_getD, List.getElem?_set]
    split
    · split
      · simp only [Option.getD_some]; omega
      · simp only [Option.getD_none]; omega
    · rw [← List.getD_eq_getElem?_getD]; omega

set_option maxHeartbeats 1000000 in
theorem giveOut_any (B gp gr n cp cr L : Nat) (ps rs : List Int) (w : World) (hne : gp ≠ gr) (hn : 0 < n) (hn2 : n ≤ 1000) (hL : L ≤ 1000) (hp : Own w B gp n cp ps) (hr : Own w B gr n cr rs)
    (hb : ∀ j, 0 ≤ ps.getD j 0 ∧ ps.getD j 0 ≤ 128849018880000) :
    Calls Try.prog 70 #[.int .i64 L, .slice (some ⟨gp, 0, none⟩) n cp, .slice (some ⟨gr, 0, none⟩) n cr] w fun e w' => e = .returned (.tuple #[]) ∧ Own w' B gp n cp (give L (ps, rs)).1 ∧ Below B w w' := by
  have HB := Lib.hid (fun k => give_bd k ps rs _ hb)
  have HP := Lib.hid hp
  have HR := Lib.hid hr
  clear hp hr hb
  go_enter Try.func70, Try.ntmps70
  go_wp2_with fail
  go_loopw [8] (fun i wr => ∃ k : Nat, k ≤ L ∧ i = .int .i64 k ∧ Hid (Own wr B gp n cp (give k (ps, rs)).1) ∧ Hid (Own wr B gr n cr (give k (ps, rs)).2) ∧ Hid (Below B w wr)) (fun i _ => L - (intOf i).toNat)
  case atStart => exact ⟨0, Nat.zero_le _, rfl, HP, HR, Below.refl _ _⟩
  case round =>
    obtain ⟨k, hk, rfl, h1, h2, h3⟩ := hrel
    by_cases hlt : k < L
    · have hl2 := h2.out.len
      obtain ⟨e1, e2, _, _⟩ := pick_spec (give k (ps, rs)).2 (by intro h; rw [h] at hl2; simp at hl2; omega)
      have hc : ∀ j, j < (give k (ps, rs)).2.length → wr.cell? ⟨gr, 0 + j, none⟩ = some (.int .i64 ((give k (ps, rs)).2.getD j 0)) := fun j hj => by rw [Nat.zero_add]; exact h2.out.cell j (by omega)
      have HM := Lib.hid (Try.slices_Max_int gr 0 n cr (give k (ps, rs)).2 wr hn (by omega) (by omega) hc)
      have HI := Lib.hid (Try.slices_Index_int gr 0 n cr (give k (ps, rs)).2 (Lib.maxOf (give k (ps, rs)).2) wr (by omega) (by omega) hc)
      have HT : Hid ((give k (ps, rs)).2.take n = (give k (ps, rs)).2) := by show _ = _; exact List.take_of_length_le (by omega)
      have HG := Lib.hid (show give (k + 1) (ps, rs) = giveStep (give k (ps, rs)) from rfl)
      have hbk := HB.out k (pick (give k (ps, rs)).2)
      obtain ⟨b0, b1⟩ := hbk
      have c1 := h1.out.cell (pick (give k (ps, rs)).2) (by omega)
      have f1 := World.ownsRow.frozenAt h1.out (pick (give k (ps, rs)).2)
      have c2 := h2.out.cell (pick (give k (ps, rs)).2) (by omega)
      have f2 := World.ownsRow.frozenAt h2.out (pick (give k (ps, rs)).2)
      have lp := h1.out.lt.1
      have lr := h2.out.lt.1
      have HG1 : Hid ((give (k + 1) (ps, rs)).1 = (give k (ps, rs)).1.set (pick (give k (ps, rs)).2) ((give k (ps, rs)).1.getD (pick (give k (ps, rs)).2) 0 + 1)) := rfl
      have HG2 : Hid ((give (k + 1) (ps, rs)).2 = (give k (ps, rs)).2.set (pick (give k (ps, rs)).2) 0) := rfl
      have ilt : pick (give k (ps, rs)).2 < n := by omega
      have E1 := Lib.hid e1
      clear e1 hc HG e2 hl2
      generalize pick (give k (ps, rs)).2 = i at *
      generalize (give k (ps, rs)).1.getD i 0 = p at *
      generalize (give k (ps, rs)).2.getD i 0 = q at *
      have S1 := Lib.hid ((h1.out.set i (p + 1)).other ⟨gr, i, none⟩ (by simp; omega) (.int .i64 0))
      have S2 := Lib.hid ((h2.out.other ⟨gp, i, none⟩ hne (.int .i64 (p + 1))).set i 0)
      have S3 := Lib.hid ((h3.out.setCell (p := ⟨gp, i, none⟩) lp (.int .i64 (p + 1))).setCell (p := ⟨gr, i, none⟩) lr (.int .i64 0))
      go_wp2_with fail
      refine HM.out.mono ?_
      rw [HT.out]
      rintro e w1 ⟨rfl, hw⟩
      subst hw
      go_wp2_with fail
      refine HI.out.mono ?_
      rw [HT.out, E1.out]
      rintro e w2 ⟨rfl, hw⟩
      subst hw
      go_wp2
      go_roundw
      case rel => exact ⟨k + 1, by omega, by go_num, by rw [HG1.out]; exact S1, by rw [HG2.out]; exact S2, S3⟩
      case measure => simp [intOf]; omega
    · obtain rfl : k = L := by omega
      go_wp2
      go_end0
      exact ⟨rfl, h1.out, h3.out⟩

end Go.Proofs.Ytmoeccghkpjbgaa

/- Package proportion: Divide. -/
namespace Go.Proofs.Ytmoeccghkpjbgaa
open Go.RowKit

/-! ### what Divide returns -/
def divQ (a : Int) (ws : List Int) : List Int := ws.map fun x => a * x / ws.sum
def divR (a : Int) (ws : List Int) : List Int := ws.map fun x => a * x % ws.sum
def divL (a : Int) (ws : List Int) : Nat := (a - (divQ a ws).sum).toNat
def divE (a : Int) (ws : List Int) : Int := if isAm a then totE ws else 2
def divP (a : Int) (ws : List Int) : List Int := if divE a ws = 0 then (give (divL a ws) (divQ a ws, divR a ws)).1 else []

theorem totE_zero {ws : List Int} (h : totE ws = 0) : 0 < ws.length ∧ ws.length ≤ 64 ∧ ws.all isAm = true ∧ isAm ws.sum = true ∧ 0 < ws.sum := by
  unfold totE at h
  split at h
  · omega
  · split at h
    · omega
    · split at h
      · rename_i h3
        split at h
        · rename_i h4
          split at h
          · omega
          · have := (isAm_iff _).1 h4
            exact ⟨by omega, by omega, h3, h4, by omega⟩
        · omega
      · omega

theorem div_sums (a s : Int) (ws : List Int) : (ws.map fun x => a * x / s).sum * s + (ws.map fun x => a * x % s).sum = a * ws.sum := by
  induction ws with
  | nil => simp
  | cons x ws ih =>
    simp only [List.map_cons, List.sum_cons, Int.mul_add, Int.add_mul]
    have := Int.emod_add_mul_ediv (a * x) s
    rw [Int.mul_comm s] at this
    omega

theorem mem_le_sum (ws : List Int) (h : ws.all isAm = true) (x : Int) (hx : x ∈ ws) : x ≤ ws.sum := by
  induction ws with
  | nil => cases hx
  | cons z ws ih =>
    simp only [List.all_cons, Bool.and_eq_true, isAm_iff] at h
    have := (sum_bd ws h.2).1
    simp only [List.sum_cons]
    rcases List.mem_cons.1 hx with rfl | hx
    · omega
    · have := ih h.2 hx; omega

/-- one weight's proportion is no error -/
theorem of_weight (a x : Int) (ws : List Int) (ha : isAm a = true) (ht : totE ws = 0) (hx : x ∈ ws) :
    ofE a x ws.sum = 0 ∧ ofQ a x ws.sum = a * x / ws.sum ∧ ofR a x ws.sum = a * x % ws.sum ∧ 0 ≤ a * x / ws.sum ∧ a * x / ws.sum ≤ a ∧ 0 ≤ a * x % ws.sum ∧ a * x % ws.sum < ws.sum := by
  obtain ⟨t1, t2, t3, t4, t5⟩ := totE_zero ht
  have hxa : isAm x = true := by rw [List.all_eq_true] at t3; exact t3 x hx
  have hxs := mem_le_sum ws t3 x hx
  obtain ⟨a0, a1⟩ := (isAm_iff a).1 ha
  obtain ⟨x0, x1⟩ := (isAm_iff x).1 hxa
  have hq : a * x / ws.sum ≤ a := by
    apply Int.le_of_lt_add_one
    apply Int.ediv_lt_of_lt_mul t5
    have : a * x ≤ a * ws.sum := Int.mul_le_mul_of_nonneg_left hxs a0
    rw [Int.add_mul]; omega
  have e : ofE a x ws.sum = 0 := by
    unfold ofE; rw [ha, hxa, t4]; simp only [Bool.and_self, if_true]
    rw [if_neg (by omega), if_pos (by omega)]
  exact ⟨e, by unfold ofQ; rw [if_pos e], by unfold ofR; rw [if_pos e], Int.ediv_nonneg (Int.mul_nonneg a0 x0) (by omega), hq, Int.emod_nonneg _ (by omega), Int.emod_lt_of_pos _ t5⟩

theorem sum_nonneg (l : List Int) (h : ∀ x ∈ l, 0 ≤ x) : 0 ≤ l.sum := by
  induction l with
  | nil => simp
  | cons z l ih => simp only [List.sum_cons]; have := h z (by simp); have := ih (fun x hx => h x (by simp [hx])); omega
theorem sum_lt (l : List Int) (s : Int) (h : ∀ x ∈ l, x < s) (hne : l ≠ []) : l.sum < s * l.length := by
  induction l with
  | nil => exact absurd rfl hne
  | cons z l ih =>
    simp only [List.sum_cons, List.length_cons]
    have h1 := h z (by simp)
    by_cases hl : l = []
    · subst hl; simp; omega
    · have := ih (fun x hx => h x (by simp [hx])) hl
      have e : s * ((l.length + 1 : Nat) : Int) = s * l.length + s := by
        rw [Int.natCast_add, Int.mul_add]; simp
      rw [e]; omega

/-- what is left is less than there are weights -/
theorem div_left (a : Int) (ws : List Int) (ha : isAm a = true) (ht : totE ws = 0) : (divQ a ws).sum ≤ a ∧ a - (divQ a ws).sum < ws.length ∧ (divL a ws : Int) = a - (divQ a ws).sum := by
  obtain ⟨t1, t2, t3, t4, t5⟩ := totE_zero ht
  have e := div_sums a ws.sum ws
  have r0 : 0 ≤ (divR a ws).sum := by
    apply sum_nonneg; intro x hx; unfold divR at hx
    obtain ⟨y, hy, rfl⟩ := List.mem_map.1 hx
    exact (of_weight a y ws ha ht hy).2.2.2.2.2.1
  have r1 : (divR a ws).sum < ws.sum * ws.length := by
    have := sum_lt (divR a ws) ws.sum (by
      intro x hx; unfold divR at hx
      obtain ⟨y, hy, rfl⟩ := List.mem_map.1 hx
      exact (of_weight a y ws ha ht hy).2.2.2.2.2.2) (by unfold divR; intro h; rw [List.map_eq_nil_iff] at h; subst h; simp at t1)
    simpa [divR] using this
  have e' : (divQ a ws).sum * ws.sum + (divR a ws).sum = a * ws.sum := e
  have h1 : (divQ a ws).sum ≤ a := by
    apply Int.not_lt.1; intro hlt
    have := Int.mul_lt_mul_of_pos_right hlt t5
    omega
  have h2 : a - (divQ a ws).sum < ws.length := by
    apply Int.not_le.1; intro hge
    have := Int.mul_le_mul_of_nonneg_right hge (show 0 ≤ ws.sum by omega)
    rw [Int.sub_mul, Int.mul_comm (ws.length : Int)] at this
    omega
  exact ⟨h1, h2, by unfold divL; omega⟩

theorem sum_take_le (l : List Int) (h : ∀ x ∈ l, 0 ≤ x) (k : Nat) : 0 ≤ (l.take k).sum ∧ (l.take k).sum ≤ l.sum := by
  have e : l.sum = (l.take k).sum + (l.drop k).sum := by rw [← List.sum_append, List.take_append_drop]
  have := sum_nonneg (l.take k) (fun x hx => h x (List.mem_of_mem_take hx))
  have := sum_nonneg (l.drop k) (fun x hx => h x (List.mem_of_mem_drop hx))
  omega

/-! ### a row that is filled from the left -/
def fillTo (qs : List Int) (k : Nat) : List Int := qs.take k ++ List.replicate (qs.length - k) 0
theorem fillTo_zero (qs : List Int) : fillTo qs 0 = List.replicate qs.length 0 := by simp [fillTo]
theorem fillTo_all (qs : List Int) (k : Nat) (h : qs.length ≤ k) : fillTo qs k = qs := by
  unfold fillTo; rw [List.take_of_length_le h, show qs.length - k = 0 by omega]; simp
theorem fillTo_set (qs : List Int) (k : Nat) (h : k < qs.length) : (fillTo qs k).set k (qs.getD k 0) = fillTo qs (k + 1) := by
  apply List.ext_getElem?
  intro i
  unfold fillTo
  rw [List.getElem?_set]
  have m1 : min k qs.length = k := by omega
  have m2 : min (k + 1) qs.length = k + 1 := by omega
  simp only [List.getElem?_append, List.length_append, List.length_take, List.length_replicate, List.getElem?_take, List.getElem?_replicate, m1, m2]
  by_cases h1 : k = i
  · subst h1
    rw [if_pos rfl, if_pos (by omega), if_pos (by omega), if_pos (by omega)]
    simp [List.getD, List.getElem?_eq_getElem h]
  · rw [if_neg h1]
    by_cases h2 : i < k
    · rw [if_pos (by omega), if_pos h2, if_pos (by omega), if_pos (by omega)]
    · rw [if_neg h2, if_neg (show ¬ i < k + 1 by omega)]
      congr 1
      rw [eq_iff_iff]; omega

theorem divQ_get (a : Int) (ws : List Int) (k : Nat) (h : k < ws.length) : (divQ a ws).getD k 0 = a * ws.getD k 0 / ws.sum := by
  simp [divQ, List.getD, List.getElem?_eq_getElem h]
theorem divR_get (a : Int) (ws : List Int) (k : Nat) (h : k < ws.length) : (divR a ws).getD k 0 = a * ws.getD k 0 % ws.sum := by
  simp [divR, List.getD, List.getElem?_eq_getElem h]

theorem divide_bad (a : Int) (v : Value) (w : World) (h : isAm a = false) :
    Calls Try.prog 43 #[.int .i64 a, v] w fun e w' => e = .returned (.tuple #[.slice none 0 0, .int .i64 2]) ∧ Below w.heap.size w w' := by
  have H := Lib.hid h; clear h
  go_enter Try.func43, Try.ntmps43
  go_wp2_with (go_at_call 69; refine (amounts1 _ _ _ H.out).mono ?_; rintro e w' ⟨rfl, rfl⟩)
  go_returns
  exact ⟨rfl, by go_grown⟩

theorem divide_err (a E : Int) (v : Value) (ws : List Int) (w : World) (h : isAm a = true) (hv : Ins w v ws) (hE : Hid (totE ws = E)) (hne : (E != 0) = true) :
    Calls Try.prog 43 #[.int .i64 a, v] w fun e w' => e = .returned (.tuple #[.slice none 0 0, .int .i64 E]) ∧ Below w.heap.size w w' := by
  have H := Lib.hid h; clear h
  have HV := Lib.hid hv; clear hv
  go_enter Try.func43, Try.ntmps43
  go_wp2_with (go_at_call 69; refine (amounts1 _ _ _ H.out).mono ?_; rintro e w' ⟨rfl, rfl⟩)
  refine (total_any v ws _ (HV.out.alloc _)).mono ?_
  rw [hE.out]
  rintro e w1 ⟨rfl, hb⟩
  go_wp2
  go_returns
  exact ⟨rfl, bel_alloc hb⟩

theorem Try.info3 : (Try.prog.info? 3).map (fun i => (i.zero, i.size, i.bytes)) = some (some (.int .i64 0), 1, 8) := by kernel_rfl

theorem madeZeros (n : Nat) : (madeCells (Value.int .i64 0).cells (n * 1)).toList = (List.replicate n (0 : Int)).map (Value.int .i64) := by
  rw [Nat.mul_one]; simp [Value.cells, toList_madeCells_one]

set_option maxHeartbeats 2000000 in
theorem divide_good (a : Int) (ad : Option Addr) (n cap : Nat) (ws : List Int) (w : World) (h : isAm a = true) (hn : n = ws.length) (hv : Ins w (.slice ad n cap) ws) (ht : totE ws = 0) :
    Calls Try.prog 43 #[.int .i64 a, .slice ad n cap] w fun e w' => ∃ g c, e = .returned (.tuple #[.slice (some ⟨g, 0, none⟩) n c, .int .i64 0]) ∧ Own w' w.heap.size g n c (divP a ws) ∧ Below w.heap.size w w' := by
  obtain ⟨t1, t2, t3, t4, t5⟩ := totE_zero ht
  obtain ⟨a0, a1⟩ := (isAm_iff a).1 h
  obtain ⟨s0, s1⟩ := (isAm_iff _).1 t4
  obtain ⟨d1, d2, d3⟩ := div_left a ws h ht
  have hn0 : 0 < n := by omega
  have hn1 : n ≤ 64 := by omega
  have HW := Lib.hid (of_weight a · ws h ht)
  have HSum := Lib.hid (show totS ws = ws.sum by unfold totS; rw [if_pos ht])
  have HP : Hid (divP a ws = (give (divL a ws) (divQ a ws, divR a ws)).1) := by show _ = _; unfold divP divE; rw [h, if_pos rfl, if_pos ht]
  have HQ0 : Hid (∀ x ∈ divQ a ws, 0 ≤ x ∧ x ≤ a) := by
    intro x hx; unfold divQ at hx
    obtain ⟨y, hy, rfl⟩ := List.mem_map.1 hx
    exact ⟨(HW.out y hy).2.2.2.1, (HW.out y hy).2.2.2.2.1⟩
  have lq : (divQ a ws).length = n := by unfold divQ; rw [List.length_map, hn]
  have lr : (divR a ws).length = n := by unfold divR; rw [List.length_map, hn]
  have HLQ := Lib.hid lq
  have HLR := Lib.hid lr
  have HN := Lib.hid hn
  have HA := Lib.hid h
  have HT := Lib.hid ht
  have HV := Lib.hid hv
  have HD1 := Lib.hid d1
  have HD3 := Lib.hid d3
  have HD2 := Lib.hid d2
  have HB : Hid (Below w.heap.size w w) := Below.refl _ _
  obtain ⟨i0, hi, hz0, hz1, hz2⟩ := info_parts Try.info3
  have HI := Lib.hid hi; have HZ0 := Lib.hid hz0; have HZ1 := Lib.hid hz1; have HZ2 := Lib.hid hz2
  clear hi hz0 hz1 hz2 h hn hv ht lq lr d1 d2 d3 t1 t2 t3 t4
  go_enter Try.func43, Try.ntmps43
  go_wp2_with (go_at_call 69; refine (amounts1 _ _ _ HA.out).mono ?_; rintro e w' ⟨rfl, rfl⟩)
  refine (total_any _ ws _ (HV.out.alloc _)).mono ?_
  rw [HT.out, HSum.out]
  rintro e w1 ⟨rfl, hb⟩
  have HB1 := Lib.hid (bel_alloc hb); clear hb
  have z1 := HB1.out.size
  go_upto_region 7 with (at_make; refine wpList_make_full _ rfl _ _ 30 rfl w.heap.size 3 i0 (.int .i64 0) 1 Try.underlying30 HI.out HZ0.out HZ1.out .i64 .i64 _ _ n rfl rfl rfl rfl (by rw [HZ2.out]; omega) (by unfold maxLen; omega) (by omega) ?_; intro w2 ho2 hg2)
  rw [madeZeros] at ho2
  have hb2 : Below w1.heap.size w1 w2 := (Below.refl _ _).grown hg2 (Nat.le_refl _) (by simp)
  have O2 : Hid (Own w2 w.heap.size w1.heap.size n n (List.replicate n 0)) := ho2
  have HB2 := Lib.hid (bel_trans HB1.out hb2)
  have z2 := hg2.size
  clear ho2 hg2
  go_upto_region 8 with (at_make; refine wpList_make_full _ rfl _ _ 30 rfl w.heap.size 3 i0 (.int .i64 0) 1 Try.underlying30 HI.out HZ0.out HZ1.out .i64 .i64 _ _ n rfl rfl rfl rfl (by rw [HZ2.out]; omega) (by unfold maxLen; omega) (by omega) ?_; intro w3 ho3 hg3)
  rw [madeZeros] at ho3
  have hb3 : Below w2.heap.size w2 w3 := (Below.refl _ _).grown hg3 (Nat.le_refl _) (by simp)
  have O3 : Hid (Own w3 w.heap.size w2.heap.size n n (List.replicate n 0)) := ho3
  have HB3 := Lib.hid (bel_trans HB2.out hb3)
  have z3 := hg3.size
  have O4 : Hid (Own w3 w.heap.size w1.heap.size n n (List.replicate n 0)) := O2.out.below hb3
  have hne : w1.heap.size ≠ w2.heap.size := by have := O2.out.lt.2; omega
  have HG := Lib.hid (giveOut_any w.heap.size w1.heap.size w2.heap.size n n n (divL a ws) (divQ a ws) (divR a ws))
  clear ho3 hg3 O2
  generalize w1.heap.size = gp at *
  generalize w2.heap.size = gr at *
  clear hb2 hb3 HB1 HB2 z1 z2 z3
  go_upto_block 0 with fail
  go_cut [10] (fun s10 wx => s10 = .int .i64 (divL a ws) ∧ Hid (Own wx w.heap.size gp n n (divQ a ws)) ∧ Hid (Own wx w.heap.size gr n n (divR a ws)) ∧ Hid (Below w.heap.size w wx))
  case first =>
    go_wp2_with fail
    go_loopw [10, 34] (fun l i wr => ∃ k : Nat, k ≤ n ∧ i = .int .i64 k ∧ l = .int .i64 (a - ((divQ a ws).take k).sum) ∧ Hid (Own wr w.heap.size gp n n (fillTo (divQ a ws) k)) ∧ Hid (Own wr w.heap.size gr n n (fillTo (divR a ws) k)) ∧ Hid (Below w.heap.size w wr)) (fun _ i _ => n - (intOf i).toNat)
    case atStart => exact ⟨0, Nat.zero_le _, rfl, by simp, by rw [fillTo_zero, HLQ.out]; exact O4, by rw [fillTo_zero, HLR.out]; exact O3, HB3⟩
    case round =>
      obtain ⟨k, hk, rfl, rfl, P1, P2, P3⟩ := hrel
      have htk := sum_take_le (divQ a ws) (fun x hx => (HQ0.out x hx).1) k
      have hta : ((divQ a ws).take k).sum ≤ a := by have := HD1.out; omega
      replace htk := htk.1
      by_cases hlt : k < n
      · have hkz : k < ws.length := by rw [← HN.out]; exact hlt
        obtain ⟨ad', cap', hveq, _, hin⟩ := HV.out.below P3.out
        have hcell : ∃ b off, ad = some ⟨b, off, none⟩ ∧ wr.cell? ⟨b, off + k, none⟩ = some (.int .i64 (ws.getD k 0)) := by
          simp only [Value.slice.injEq] at hveq
          rcases hin with hin | ⟨b, off, e, _, hc⟩
          · omega
          · exact ⟨b, off, by rw [hveq.1, e], hc k hkz⟩
        clear hveq hin ad' cap'
        obtain ⟨b, off, rfl, hcell⟩ := hcell
        have hx : ws.getD k 0 ∈ ws := by simp [List.getD, List.getElem?_eq_getElem hkz]
        obtain ⟨w1', w2', w3', w4', w5', w6', w7'⟩ := HW.out _ hx
        have hof := of_any a (ws.getD k 0) ws.sum wr
        rw [w1', w2', w3', ← divQ_get a ws k hkz, ← divR_get a ws k hkz] at hof
        rw [← divQ_get a ws k hkz] at w4' w5'
        rw [← divR_get a ws k hkz] at w6' w7'
        have HOF := Lib.hid hof
        have HS := Lib.hid (sum_take_succ (divQ a ws) k (by have := HLQ.out; omega))
        have hS2 := (sum_take_le (divQ a ws) (fun x hx => (HQ0.out x hx).1) (k + 1)).2
        rw [HS.out] at hS2
        have hS3 : ((divQ a ws).take k).sum + (divQ a ws).getD k 0 ≤ a := by have := HD1.out; omega
        have F1 := Lib.hid (fillTo_set (divQ a ws) k (by have := HLQ.out; omega))
        have F2 := Lib.hid (fillTo_set (divR a ws) k (by have := HLR.out; omega))
        clear w1' w2' w3' hof hS2 hx hkz
        generalize ws.getD k 0 = x at *
        generalize (divQ a ws).getD k 0 = q at *
        generalize (divR a ws).getD k 0 = r at *
        generalize ((divQ a ws).take k).sum = t at *
        go_wp2_with fail
        refine HOF.out.mono ?_
        rintro e wn ⟨rfl, hbn⟩
        have N1 := P1.out.below hbn
        have N2 := P2.out.below hbn
        have lp := N1.lt.1
        have lr := N2.lt.1
        have c1 := N1.cell k hlt
        have f1 := World.ownsRow.frozenAt N1 k
        have c2 := N2.cell k hlt
        have f2 := World.ownsRow.frozenAt N2 k
        have S1 := Lib.hid ((N1.set k q).other ⟨gr, k, none⟩ (by simp; omega) (.int .i64 r))
        have S2 := Lib.hid ((N2.other ⟨gp, k, none⟩ hne (.int .i64 q)).set k r)
        have S3 := Lib.hid (((P3.out.trans (hbn.mono (P3.out.size))).setCell (p := ⟨gp, k, none⟩) lp (.int .i64 q)).setCell (p := ⟨gr, k, none⟩) lr (.int .i64 r))
        rw [F1.out] at S1
        rw [F2.out] at S2
        clear N1 N2
        clear hbn
        go_wp2
        go_roundw
        case rel => exact ⟨k + 1, by omega, by go_num, by rw [HS.out]; go_num, S1, S2, S3⟩
        case measure => simp [intOf]; omega
      · obtain rfl : k = n := by omega
        have HE : Hid (((divQ a ws).take k).sum = (divQ a ws).sum) := by
          show _ = _
          rw [List.take_of_length_le (by have := HLQ.out; omega)]
        have E1 := fillTo_all (divQ a ws) k (by have := HLQ.out; omega)
        have E2 := fillTo_all (divR a ws) k (by have := HLR.out; omega)
        rw [E1] at P1
        rw [E2] at P2
        clear E1 E2
        generalize ((divQ a ws).take k).sum = t at *
        go_wp2
        go_meet
        case rel => exact ⟨by rw [HE.out, HD3.out], P1, P2, P3⟩
  case rest =>
  obtain ⟨rfl, P1, P2, P3⟩ := hcut
  have hL : divL a ws ≤ 64 := by have := HD2.out; have := HD3.out; have := HN.out; omega
  have hQb : ∀ j, 0 ≤ (divQ a ws).getD j 0 ∧ (divQ a ws).getD j 0 ≤ 128849018880000 := by
    intro j
    by_cases hj : j < (divQ a ws).length
    · have := HQ0.out ((divQ a ws).getD j 0) (by simp [List.getD, List.getElem?_eq_getElem hj])
      omega
    · rw [List.getD_eq_getElem?_getD, List.getElem?_eq_none (by omega)]; simp
  have HG2 := Lib.hid (HG.out wc hne hn0 (by omega) (by omega) P1.out P2.out hQb)
  have z4 := P3.out.size
  clear hQb HG
  go_wp2_with fail
  refine HG2.out.mono ?_
  rintro e w5 ⟨rfl, G1, G2⟩
  have G3 := Lib.hid G1
  have G4 := Lib.hid G2
  clear G1 G2
  go_wp2
  go_returns
  exact ⟨gp, n, rfl, by rw [HP.out]; exact G3.out, P3.out.trans G4.out⟩

theorem divide_any (a : Int) (v : Value) (ws : List Int) (w : World) (hv : Ins w v ws) :
    Calls Try.prog 43 #[.int .i64 a, v] w fun e w' => ∃ v', e = .returned (.tuple #[v', .int .i64 (divE a ws)]) ∧ Ins w' v' (divP a ws) ∧ Below w.heap.size w w' := by
  cases h : isAm a with
  | false =>
    have e : divE a ws = 2 := by unfold divE; rw [h]; rfl
    refine (divide_bad a v w h).mono fun _ w' g => ⟨_, by rw [e]; exact g.1, ?_, g.2⟩
    unfold divP; rw [e]; exact ⟨none, 0, rfl, by simp, .inl rfl⟩
  | true =>
    have e : divE a ws = totE ws := by unfold divE; rw [h]; rfl
    by_cases ht : totE ws = 0
    · have hv0 := hv
      obtain ⟨ad, cap, rfl, hl, _⟩ := hv0
      have l64 := (totE_zero ht).2.1
      refine (divide_good a ad _ cap ws w h rfl hv ht).mono ?_
      rintro _ w' ⟨g, c, rfl, ho, hb⟩
      exact ⟨_, by rw [e, ht], ho.ins (by omega), hb⟩
    · refine (divide_err a _ v ws w h hv rfl (by rw [bne_iff_ne]; exact ht)).mono fun _ w' g => ⟨_, by rw [e]; exact g.1, ?_, g.2⟩
      unfold divP; rw [e, if_neg ht]; exact ⟨none, 0, rfl, by simp, .inl rfl⟩

end Go.Proofs.Ytmoeccghkpjbgaa

/- Package proportion: Draw and Reduce. -/
namespace Go.Proofs.Ytmoeccghkpjbgaa
open Go.RowKit

/-! ### what Draw returns -/
def drawE (ps : List Int) (a : Int) : Int := if divE a ps = 0 then (if a ≤ ps.sum then 0 else 17) else divE a ps
def drawD (ps : List Int) (a : Int) : List Int := if drawE ps a = 0 then divP a ps else []
def drawS (ps : List Int) (a : Int) : List Int := if drawE ps a = 0 then List.zipWith (· - ·) ps (divP a ps) else []

theorem ins_nil (w : World) : Ins w (.slice none 0 0) [] := ⟨none, 0, rfl, by simp, .inl rfl⟩
theorem bneq {x y : Int} (h : x ≠ y) : (x != y) = true := by rw [bne_iff_ne]; exact h

theorem draw_err (ps : List Int) (a E : Int) (v : Value) (w : World) (hv : Ins w v ps) (hE : Hid (divE a ps = E)) (hne : (E != 0) = true) :
    Calls Try.prog 40 #[v, .int .i64 a] w fun e w' => e = .returned (.tuple #[.slice none 0 0, .slice none 0 0, .int .i64 E]) ∧ Below w.heap.size w w' := by
  have HD := Lib.hid (divide_any a v ps w hv); clear hv
  go_enter Try.func40, Try.ntmps40
  go_wp2_with fail
  refine HD.out.mono ?_
  rw [hE.out]
  rintro e w1 ⟨v', rfl, hi, hb⟩
  clear hi
  have HB := Lib.hid hb; clear hb
  go_wp2
  go_returns
  exact ⟨rfl, HB.out⟩

theorem draw_short (ps : List Int) (a : Int) (v : Value) (w : World) (hv : Ins w v ps) (hE : Hid (divE a ps = 0)) (hs : Hid (totS ps = ps.sum)) (hlt : ps.sum < a) :
    Calls Try.prog 40 #[v, .int .i64 a] w fun e w' => e = .returned (.tuple #[.slice none 0 0, .slice none 0 0, .int .i64 17]) ∧ Below w.heap.size w w' := by
  have HD := Lib.hid (divide_any a v ps w hv)
  have HV := Lib.hid hv; clear hv
  go_enter Try.func40, Try.ntmps40
  go_wp2_with fail
  refine HD.out.mono ?_
  rw [hE.out]
  rintro e w1 ⟨v', rfl, hi, hb⟩
  clear hi
  have HB := Lib.hid hb; clear hb
  go_wp2_with fail
  refine (total_any v ps _ (HV.out.below HB.out)).mono ?_
  rw [hs.out]
  rintro e w2 ⟨rfl, hb⟩
  have HB2 := Lib.hid (bel_trans HB.out hb); clear hb
  go_wp2
  go_returns
  exact ⟨rfl, HB2.out⟩

theorem divP_len (a : Int) (ws : List Int) (h : divE a ws = 0) : (divP a ws).length = ws.length := by
  unfold divP; rw [if_pos h, (give_len _ _).1]; simp [divQ]

theorem divE_zero {a : Int} {ws : List Int} (h : divE a ws = 0) : isAm a = true ∧ totE ws = 0 := by
  unfold divE at h
  split at h
  · rename_i h1; exact ⟨h1, h⟩
  · omega

theorem divP_bd (a : Int) (ws : List Int) (h : divE a ws = 0) : ∀ j, 0 ≤ (divP a ws).getD j 0 ∧ (divP a ws).getD j 0 ≤ 128849018880064 := by
  intro j
  obtain ⟨h1, h2⟩ := divE_zero h
  obtain ⟨d1, d2, d3⟩ := div_left a ws h1 h2
  obtain ⟨t1, t2, t3, t4, t5⟩ := totE_zero h2
  obtain ⟨a0, a1⟩ := (isAm_iff a).1 h1
  unfold divP; rw [if_pos h]
  have := give_bd (divL a ws) (divQ a ws) (divR a ws) 128849018880000 (by
    intro j
    by_cases hj : j < (divQ a ws).length
    · have hm : (divQ a ws).getD j 0 ∈ divQ a ws := by simp [List.getD, List.getElem?_eq_getElem hj]
      generalize (divQ a ws).getD j 0 = x at *
      unfold divQ at hm
      obtain ⟨y, hy, rfl⟩ := List.mem_map.1 hm
      have := of_weight a y ws h1 h2 hy
      omega
    · rw [List.getD_eq_getElem?_getD, List.getElem?_eq_none (by omega)]; simp) j
  omega

theorem zipSub_get (xs ys : List Int) (k : Nat) (h1 : k < xs.length) (h2 : k < ys.length) : (List.zipWith (· - ·) xs ys).getD k 0 = xs.getD k 0 - ys.getD k 0 := by
  simp [List.getD, List.getElem?_zipWith, List.getElem?_eq_getElem h1, List.getElem?_eq_getElem h2]

set_option maxHeartbeats 2000000 in
set_option maxRecDepth 100000 in
theorem draw_good (ps : List Int) (a : Int) (ad : Option Addr) (n cap : Nat) (w : World) (hn : n = ps.length) (hv : Ins w (.slice ad n cap) ps) (hE : divE a ps = 0) (hle : a ≤ ps.sum) :
    Calls Try.prog 40 #[.slice ad n cap, .int .i64 a] w fun e w' => ∃ v1 v2, e = .returned (.tuple #[v1, v2, .int .i64 0]) ∧ Ins w' v1 (divP a ps) ∧ Ins w' v2 (List.zipWith (· - ·) ps (divP a ps)) ∧ Below w.heap.size w w' := by
  obtain ⟨e1, e2⟩ := divE_zero hE
  obtain ⟨t1, t2, t3, t4, t5⟩ := totE_zero e2
  have lz := divP_len a ps hE
  have HBD := Lib.hid (divP_bd a ps hE)
  have HD := Lib.hid (divide_good a ad n cap ps w e1 hn hv e2)
  have HV := Lib.hid hv
  have HS := Lib.hid (show totS ps = ps.sum by unfold totS; rw [if_pos e2])
  have HT := Lib.hid e2
  have HA := Lib.hid t3
  have HN := Lib.hid hn
  have HLZ := Lib.hid (show (divP a ps).length = n by omega)
  have HLS := Lib.hid (show (List.zipWith (· - ·) ps (divP a ps)).length = n by rw [List.length_zipWith]; omega)
  have hn0 : 0 < n := by omega
  have hn1 : n ≤ 64 := by omega
  obtain ⟨i0, hi, hz0, hz1, hz2⟩ := info_parts Try.info3
  have HI := Lib.hid hi; have HZ0 := Lib.hid hz0; have HZ1 := Lib.hid hz1; have HZ2 := Lib.hid hz2
  clear hi hz0 hz1 hz2 hv hE e1 e2 t1 t2 t3 t4 t5 lz hn
  go_enter Try.func40, Try.ntmps40
  go_wp2_with fail
  refine HD.out.mono ?_
  rintro e w1 ⟨gd, cd, rfl, ho, hb⟩
  have O1 := Lib.hid ho; clear ho
  have HB := Lib.hid hb; clear hb
  go_wp2_with fail
  refine (total_any _ ps _ (HV.out.below HB.out)).mono ?_
  rw [HS.out, HT.out]
  rintro e w2 ⟨rfl, hb⟩
  have O2 := Lib.hid (O1.out.below hb)
  have HB2 := Lib.hid (bel_trans HB.out hb)
  have z2 := HB2.out.size
  clear hb O1 HB
  go_upto_region 8 with (at_make; refine wpList_make_full _ rfl _ _ 30 rfl w.heap.size 3 i0 (.int .i64 0) 1 Try.underlying30 HI.out HZ0.out HZ1.out .i64 .i64 _ _ n rfl rfl rfl rfl (by rw [HZ2.out]; omega) (by unfold maxLen; omega) (by omega) ?_; intro w3 ho3 hg3)
  rw [madeZeros] at ho3
  have hb3 : Below w2.heap.size w2 w3 := (Below.refl _ _).grown hg3 (Nat.le_refl _) (by simp)
  have O3 : Hid (Own w3 w.heap.size w2.heap.size n n (List.replicate n 0)) := ho3
  have HB3 := Lib.hid (bel_trans HB2.out hb3)
  have O4 := Lib.hid (O2.out.below hb3)
  have hne : gd ≠ w2.heap.size := by have := O2.out.lt.2; omega
  clear ho3 hg3 O2 hb3 HB2 z2
  generalize w2.heap.size = gs at *
  go_upto_block 0 with fail
  go_cut [] (fun wx => Hid (Own wx w.heap.size gd n cd (divP a ps)) ∧ Hid (Own wx w.heap.size gs n n (List.zipWith (· - ·) ps (divP a ps))) ∧ Hid (Below w.heap.size w wx))
  case first =>
    go_wp2_with fail
    go_loopw [36] (fun i wr => ∃ k : Nat, k ≤ n ∧ i = .int .i64 k ∧ Hid (Own wr w.heap.size gd n cd (divP a ps)) ∧ Hid (Own wr w.heap.size gs n n (fillTo (List.zipWith (· - ·) ps (divP a ps)) k)) ∧ Hid (Below w.heap.size w wr)) (fun i _ => n - (intOf i).toNat)
    case atStart => exact ⟨0, Nat.zero_le _, rfl, O4, by rw [fillTo_zero, HLS.out]; exact O3, HB3⟩
    case round =>
      obtain ⟨k, hk, rfl, P1, P2, P3⟩ := hrel
      by_cases hlt : k < n
      · have hkz : k < ps.length := by rw [← HN.out]; exact hlt
        obtain ⟨ad', cap', hveq, _, hin⟩ := HV.out.below P3.out
        have hcell : ∃ b off, ad = some ⟨b, off, none⟩ ∧ wr.cell? ⟨b, off + k, none⟩ = some (.int .i64 (ps.getD k 0)) := by
          simp only [Value.slice.injEq] at hveq
          rcases hin with hin | ⟨b, off, e, _, hc⟩
          · omega
          · exact ⟨b, off, by rw [hveq.1, e], hc k hkz⟩
        clear hveq hin ad' cap'
        obtain ⟨b, off, rfl, hcell⟩ := hcell
        obtain ⟨x0, x1⟩ := (isAm_iff _).1 (all_get ps HA.out k hkz)
        obtain ⟨y0, y1⟩ := HBD.out k
        have hz := zipSub_get ps (divP a ps) k hkz (by have := HLZ.out; omega)
        have F1 := Lib.hid (fillTo_set (List.zipWith (· - ·) ps (divP a ps)) k (by have := HLS.out; omega))
        rw [hz] at F1
        have lp := P1.out.lt.1
        have lr := P2.out.lt.1
        have c1 := P1.out.cell k hlt
        have c2 := P2.out.cell k hlt
        have f2 := World.ownsRow.frozenAt P2.out k
        have S1 := Lib.hid (P1.out.other ⟨gs, k, none⟩ (by simp; omega) (.int .i64 (ps.getD k 0 - (divP a ps).getD k 0)))
        have S2 := Lib.hid (P2.out.set k (ps.getD k 0 - (divP a ps).getD k 0))
        rw [F1.out] at S2
        have S3 := Lib.hid (P3.out.setCell (p := ⟨gs, k, none⟩) lr (.int .i64 (ps.getD k 0 - (divP a ps).getD k 0)))
        clear hz F1 hkz
        generalize ps.getD k 0 = x at *
        generalize (divP a ps).getD k 0 = y at *
        go_wp2
        go_roundw
        case rel => exact ⟨k + 1, by omega, by go_num, S1, S2, S3⟩
        case measure => simp [intOf]; omega
      · obtain rfl : k = n := by omega
        have E1 := fillTo_all (List.zipWith (· - ·) ps (divP a ps)) k (by have := HLS.out; omega)
        rw [E1] at P2
        clear E1
        go_wp2
        go_meet
        case rel => exact ⟨P1, P2, P3⟩
  case rest =>
  obtain ⟨P1, P2, P3⟩ := hcut
  go_wp2
  go_returns
  exact ⟨_, _, rfl, P1.out.ins (by omega), P2.out.ins (by omega), P3.out⟩

theorem draw_any (ps : List Int) (a : Int) (v : Value) (w : World) (hv : Ins w v ps) :
    Calls Try.prog 40 #[v, .int .i64 a] w fun e w' => ∃ v1 v2, e = .returned (.tuple #[v1, v2, .int .i64 (drawE ps a)]) ∧ Ins w' v1 (drawD ps a) ∧ Ins w' v2 (drawS ps a) ∧ Below w.heap.size w w' := by
  unfold drawD drawS
  by_cases h0 : divE a ps = 0
  · by_cases hle : a ≤ ps.sum
    · have e : drawE ps a = 0 := by unfold drawE; rw [if_pos h0, if_pos hle]
      rw [e, if_pos rfl, if_pos rfl]
      have hv0 := hv
      obtain ⟨ad, cap, rfl, hl, _⟩ := hv0
      exact draw_good ps a ad _ cap w rfl hv h0 hle
    · have e : drawE ps a = 17 := by unfold drawE; rw [if_pos h0, if_neg hle]
      rw [e, if_neg (by omega), if_neg (by omega)]
      exact (draw_short ps a v w hv h0 (by show _ = _; unfold totS; rw [if_pos (divE_zero h0).2]) (by omega)).mono fun _ w' g => ⟨_, _, g.1, ins_nil w', ins_nil w', g.2⟩
  · have e : drawE ps a = divE a ps := by unfold drawE; rw [if_neg h0]
    rw [e, if_neg h0, if_neg h0]
    exact (draw_err ps a _ v w hv rfl (bneq h0)).mono fun _ w' g => ⟨_, _, g.1, ins_nil w', ins_nil w', g.2⟩

/-! ### Reduce -/
def redE (a b : Int) : Int := if isAm a && isAm b then (if b = 0 then 16 else 0) else 2
def gcdI (a b : Int) : Int := (Nat.gcd a.toNat b.toNat : Int)
def redA (a b : Int) : Int := if redE a b = 0 then a / gcdI a b else 0
def redB (a b : Int) : Int := if redE a b = 0 then b / gcdI a b else 0

theorem gcdI_step (a b : Int) (ha : 0 ≤ a) (hb : 0 < b) : gcdI b (a % b) = gcdI a b := by
  obtain ⟨A, rfl⟩ := Int.eq_ofNat_of_zero_le ha
  obtain ⟨B, rfl⟩ := Int.eq_ofNat_of_zero_le (show 0 ≤ b by omega)
  unfold gcdI
  have : ((A : Int) % (B : Int)).toNat = A % B := by rw [← Int.natCast_emod, Int.toNat_natCast]
  rw [this]
  simp only [Int.toNat_natCast]
  rw [Nat.gcd_comm A B, Nat.gcd_comm B (A % B), ← Nat.gcd_rec]
theorem gcdI_zero (a : Int) (ha : 0 ≤ a) : gcdI a 0 = a := by unfold gcdI; simp; omega
theorem gcdI_pos (a b : Int) (hb : 0 < b) : 0 < gcdI a b := by
  unfold gcdI
  have := Nat.gcd_pos_of_pos_right a.toNat (show 0 < b.toNat by omega)
  omega
theorem gcdI_le (a b : Int) (hb : 0 < b) : gcdI a b ≤ b := by
  unfold gcdI
  have := Nat.gcd_le_right a.toNat (show 0 < b.toNat by omega)
  omega

end Go.Proofs.Ytmoeccghkpjbgaa

/- What follows from the definition of dividing: parts sum, none exceeds its weight, a factor of all weights changes nothing. -/
namespace Go.Proofs.Ytmoeccghkpjbgaa

theorem sum_set (l : List Int) : ∀ (i : Nat) (x : Int), i < l.length → (l.set i x).sum = l.sum + x - l.getD i 0 := by
  induction l with
  | nil => intro i x h; simp at h
  | cons z l ih =>
    intro i x h
    cases i with
    | zero => simp; omega
    | succ i => simp only [List.set_cons_succ, List.sum_cons, List.getD_cons_succ]; rw [ih i x (by simpa using h)]; omega

theorem get_set (l : List Int) (i j : Nat) (x : Int) (hi : i < l.length) : (l.set i x).getD j 0 = if i = j then x else l.getD j 0 := by
  rw [List.getD_eq_getElem?_getD, List.getElem?_set]
  by_cases h : i = j
  · subst h; rw [if_pos rfl, if_pos hi, if_pos rfl]; rfl
  · rw [if_neg h, if_neg h, ← List.getD_eq_getElem?_getD]

/-- how many of some numbers are positive -/
def posN : List Int → Nat
  | [] => 0
  | x :: l => (if 0 < x then 1 else 0) + posN l
theorem posN_set (l : List Int) : ∀ i, i < l.length → 0 < l.getD i 0 → posN (l.set i 0) + 1 = posN l := by
  induction l with
  | nil => intro i h; simp at h
  | cons z l ih =>
    intro i h hp
    cases i with
    | zero => simp at hp; simp [posN, hp]; omega
    | succ i =>
      simp only [List.set_cons_succ, posN]
      have := ih i (by simpa using h) (by simpa using hp)
      omega
theorem posN_pos (l : List Int) (h : 0 < posN l) : ∃ x ∈ l, 0 < x := by
  induction l with
  | nil => simp [posN] at h
  | cons z l ih =>
    by_cases hz : 0 < z
    · exact ⟨z, by simp, hz⟩
    · simp only [posN, if_neg hz, Nat.zero_add] at h
      obtain ⟨x, hx, hp⟩ := ih h
      exact ⟨x, by simp [hx], hp⟩
theorem posN_sum (l : List Int) (s : Int) (h : ∀ x ∈ l, 0 ≤ x ∧ x < s) : l.sum ≤ (s - 1) * posN l := by
  induction l with
  | nil => simp [posN]
  | cons z l ih =>
    have h1 := h z (by simp)
    have := ih (fun x hx => h x (by simp [hx]))
    simp only [List.sum_cons, posN]
    by_cases hz : 0 < z
    · rw [if_pos hz, Int.natCast_add, Int.mul_add]; simp; omega
    · rw [if_neg hz]; simp; omega

/-- what holds behind k rounds of giving out -/
structure Inv (k : Nat) (qs rs ps ts : List Int) : Prop where
  l1 : ps.length = qs.length
  l2 : ts.length = rs.length
  each : ∀ i, i < rs.length → (ts.getD i 0 = rs.getD i 0 ∧ ps.getD i 0 = qs.getD i 0) ∨ (ts.getD i 0 = 0 ∧ 0 < rs.getD i 0 ∧ ps.getD i 0 = qs.getD i 0 + 1)
  cnt : posN ts + k = posN rs
  sum : ps.sum = qs.sum + k

theorem inv_give (qs rs : List Int) (hl : qs.length = rs.length) : ∀ k, k ≤ posN rs → Inv k qs rs (give k (qs, rs)).1 (give k (qs, rs)).2
  | 0, _ => ⟨rfl, rfl, fun _ _ => .inl ⟨rfl, rfl⟩, by simp [give], by simp [give]⟩
  | k + 1, hk => by
    have I := inv_give qs rs hl k (by omega)
    simp only [give, giveStep]
    generalize (give k (qs, rs)).1 = ps at *
    generalize (give k (qs, rs)).2 = ts at *
    have hp : 0 < posN ts := by have := I.cnt; omega
    obtain ⟨x, hx, hx0⟩ := posN_pos ts hp
    obtain ⟨_, p1, p2, p3⟩ := pick_spec ts (by intro h; rw [h] at hx; cases hx)
    have hm : 0 < ts.getD (pick ts) 0 := by have := p3 x hx; omega
    generalize pick ts = j at *
    have l1 := I.l1
    have l2 := I.l2
    refine ⟨by simp [l1], by simp [l2], fun i hi => ?_, ?_, ?_⟩
    · rw [get_set ts j i 0 p1, get_set ps j i _ (by omega)]
      by_cases h : j = i
      · subst h
        rw [if_pos rfl, if_pos rfl]
        right
        rcases I.each j hi with ⟨e1, e2⟩ | ⟨e1, _, _⟩
        · exact ⟨rfl, by omega, by omega⟩
        · omega
      · rw [if_neg h, if_neg h]; exact I.each i hi
    · have := posN_set ts j p1 hm
      have := I.cnt
      omega
    · rw [sum_set ps j _ (by omega)]
      have := I.sum
      omega

theorem divL_pos (a : Int) (ws : List Int) (h : divE a ws = 0) : divL a ws ≤ posN (divR a ws) := by
  obtain ⟨h1, h2⟩ := divE_zero h
  obtain ⟨t1, t2, t3, t4, t5⟩ := totE_zero h2
  obtain ⟨d1, d2, d3⟩ := div_left a ws h1 h2
  have e : (divQ a ws).sum * ws.sum + (divR a ws).sum = a * ws.sum := div_sums a ws.sum ws
  have hb := posN_sum (divR a ws) ws.sum (fun x hx => by
    unfold divR at hx
    obtain ⟨y, hy, rfl⟩ := List.mem_map.1 hx
    have := of_weight a y ws h1 h2 hy
    omega)
  have e2 : (divR a ws).sum = (divL a ws : Int) * ws.sum := by rw [d3, Int.sub_mul]; omega
  rw [e2] at hb
  apply Nat.le_of_not_lt
  intro hlt
  have h3 : ((posN (divR a ws) : Int) + 1) * ws.sum ≤ (divL a ws : Int) * ws.sum := Int.mul_le_mul_of_nonneg_right (by omega) (by omega)
  have h4 : (ws.sum - 1) * (posN (divR a ws) : Int) = posN (divR a ws) * ws.sum - posN (divR a ws) := by rw [Int.sub_mul, Int.mul_comm ws.sum]; omega
  rw [Int.add_mul] at h3
  omega

theorem div_inv (a : Int) (ws : List Int) (h : divE a ws = 0) : Inv (divL a ws) (divQ a ws) (divR a ws) (divP a ws) (give (divL a ws) (divQ a ws, divR a ws)).2 := by
  have := inv_give (divQ a ws) (divR a ws) (by simp [divQ, divR]) (divL a ws) (divL_pos a ws h)
  unfold divP; rw [if_pos h]; exact this

/-- parts sum to the amount -/
theorem divP_sum (a : Int) (ws : List Int) (h : divE a ws = 0) : (divP a ws).sum = a := by
  obtain ⟨h1, h2⟩ := divE_zero h
  obtain ⟨d1, d2, d3⟩ := div_left a ws h1 h2
  have := (div_inv a ws h).sum
  omega

/-- what is drawn of a part is not more than the part -/
theorem divP_le (a : Int) (ws : List Int) (h : divE a ws = 0) (hle : a ≤ ws.sum) (k : Nat) (hk : k < ws.length) : 0 ≤ (divP a ws).getD k 0 ∧ (divP a ws).getD k 0 ≤ ws.getD k 0 := by
  obtain ⟨h1, h2⟩ := divE_zero h
  obtain ⟨t1, t2, t3, t4, t5⟩ := totE_zero h2
  refine ⟨(divP_bd a ws h k).1, ?_⟩
  have I := (div_inv a ws h).each k (by simpa [divR] using hk)
  rw [divQ_get a ws k hk, divR_get a ws k hk] at I
  have hx : ws.getD k 0 ∈ ws := by simp [List.getD, List.getElem?_eq_getElem hk]
  obtain ⟨_, _, _, q0, _, r0, r1⟩ := of_weight a (ws.getD k 0) ws h1 h2 hx
  obtain ⟨x0, x1⟩ := (isAm_iff _).1 (all_get ws t3 k hk)
  generalize ws.getD k 0 = x at *
  have e := Int.emod_add_mul_ediv (a * x) ws.sum
  have hm : a * x ≤ ws.sum * x := Int.mul_le_mul_of_nonneg_right hle x0
  rcases I with ⟨_, e2⟩ | ⟨_, e1, e2⟩
  · rw [e2]
    apply Int.le_of_mul_le_mul_left (a := ws.sum) _ t5
    omega
  · rw [e2]
    have : a * x / ws.sum < x := by
      apply Int.lt_of_mul_lt_mul_left (a := ws.sum) _ (by omega)
      omega
    omega

/-- drawing everything leaves nothing -/
theorem divP_all (ws : List Int) (h : divE ws.sum ws = 0) : divP ws.sum ws = ws := by
  obtain ⟨h1, h2⟩ := divE_zero h
  obtain ⟨t1, t2, t3, t4, t5⟩ := totE_zero h2
  have eq : divQ ws.sum ws = ws := by
    unfold divQ
    conv => rhs; rw [← List.map_id ws]
    apply List.map_congr_left
    intro x _
    rw [Int.mul_ediv_cancel_left _ (by omega)]; rfl
  have el : divL ws.sum ws = 0 := by unfold divL; rw [eq]; omega
  unfold divP; rw [if_pos h, el, eq]; rfl

theorem divE_sum (a : Int) (ws : List Int) (h : divE a ws = 0) : divE ws.sum ws = 0 := by
  obtain ⟨h1, h2⟩ := divE_zero h
  obtain ⟨t1, t2, t3, t4, t5⟩ := totE_zero h2
  unfold divE; rw [t4, if_pos rfl]; exact h2

/-! ### a factor of all weights -/
theorem maxOf_scale (rs : List Int) (c : Int) (hc : 0 < c) : Lib.maxOf (rs.map (· * c)) = Lib.maxOf rs * c := by
  have fold : ∀ (l : List Int) (a : Int), (l.map (· * c)).foldl max (a * c) = l.foldl max a * c := by
    intro l
    induction l with
    | nil => intro a; rfl
    | cons z l ih =>
      intro a
      simp only [List.map_cons, List.foldl_cons]
      rw [show max (a * c) (z * c) = max a z * c by
        by_cases h : a ≤ z
        · have := Int.mul_le_mul_of_nonneg_right h (show 0 ≤ c by omega)
          rw [show max a z = z by omega]; omega
        · have := Int.mul_le_mul_of_nonneg_right (show z ≤ a by omega) (show 0 ≤ c by omega)
          rw [show max a z = a by omega]; omega]
      exact ih _
  unfold Lib.maxOf
  cases rs with
  | nil => simp
  | cons z l => exact fold (z :: l) z
theorem idxFrom_scale (c : Int) (hc : 0 < c) (x : Int) : ∀ (rs : List Int) (i : Nat), Lib.idxFrom (rs.map (· * c)) (x * c) i = Lib.idxFrom rs x i
  | [], _ => rfl
  | z :: rs, i => by
    simp only [List.map_cons, Lib.idxFrom]
    rw [idxFrom_scale c hc x rs (i + 1)]
    by_cases h : z = x
    · rw [if_pos h, if_pos (by rw [h])]
    · rw [if_neg h, if_neg (fun e => h (Int.eq_of_mul_eq_mul_right (by omega) e))]
theorem pick_scale (rs : List Int) (c : Int) (hc : 0 < c) : pick (rs.map (· * c)) = pick rs := by
  unfold pick Lib.idxOf
  rw [maxOf_scale rs c hc, idxFrom_scale c hc]
theorem give_scale (k : Nat) (qs rs : List Int) (c : Int) (hc : 0 < c) : (give k (qs, rs.map (· * c))) = ((give k (qs, rs)).1, (give k (qs, rs)).2.map (· * c)) := by
  induction k with
  | zero => rfl
  | succ k ih =>
    simp only [give]
    rw [ih]
    simp only [giveStep]
    rw [pick_scale _ c hc, List.map_set, Int.zero_mul]
theorem sum_scale (ws : List Int) (c : Int) : (ws.map (· * c)).sum = ws.sum * c := by
  induction ws with
  | nil => simp
  | cons z ws ih => simp only [List.map_cons, List.sum_cons, ih, Int.add_mul]
theorem divP_scale (a : Int) (ws : List Int) (c : Int) (hc : 0 < c) (h1 : divE a ws = 0) (h2 : divE a (ws.map (· * c)) = 0) : divP a (ws.map (· * c)) = divP a ws := by
  have eq : divQ a (ws.map (· * c)) = divQ a ws := by
    unfold divQ
    rw [sum_scale, List.map_map]
    apply List.map_congr_left
    intro x _
    simp only [Function.comp]
    rw [← Int.mul_assoc, Int.mul_ediv_mul_of_pos_left _ _ hc]
  have er : divR a (ws.map (· * c)) = (divR a ws).map (· * c) := by
    unfold divR
    rw [sum_scale, List.map_map, List.map_map]
    apply List.map_congr_left
    intro x _
    simp only [Function.comp]
    rw [← Int.mul_assoc, Int.mul_comm (a * x), Int.mul_comm ws.sum, Int.mul_emod_mul_of_pos _ _ hc, Int.mul_comm c]
  have el : divL a (ws.map (· * c)) = divL a ws := by unfold divL; rw [eq]
  unfold divP
  rw [if_pos h1, if_pos h2, el, eq, er, give_scale _ _ _ c hc]

end Go.Proofs.Ytmoeccghkpjbgaa

/- Plain facts of layer 21: liquids mixed, drawn and divided. No program stands in the facts of this text. -/
namespace Go.Proofs.Ytmoeccghkpjbgaa

/-- a liquid is plain -/
def plB (A M : Int) : Bool := !(decide (A < 0) || decide (10737418240000 < A) || decide (M < 0) || decide (128849018880000 < M)) && (decide (A = 0) || decide (0 < M))
theorem plB_iff {A M : Int} : plB A M = true ↔ 0 ≤ A ∧ A ≤ 10737418240000 ∧ 0 ≤ M ∧ M ≤ 128849018880000 ∧ (M = 0 → A = 0) := by
  unfold plB
  simp only [Bool.and_eq_true, Bool.not_eq_true', Bool.or_eq_false_iff, Bool.or_eq_true, decide_eq_true_eq, decide_eq_false_iff_not]
  omega
theorem plB_zero : plB 0 0 = true := by decide
/-- sums over rows -/
def sm (f : Int → Int → Int) (l : List (Int × Int)) : Int := (l.map fun q => f q.1 q.2).sum
theorem sm_nil (f : Int → Int → Int) : sm f [] = 0 := rfl
theorem sm_step (f : Int → Int → Int) (l : List (Int × Int)) (k : Nat) (h : k < l.length) : sm f (l.take (k + 1)) = sm f (l.take k) + f (gX l k) (gR l k) := by
  unfold sm gX gR
  rw [List.take_succ_eq_append_getElem h, List.map_append, List.sum_append]
  simp [List.getD_eq_getElem?_getD, List.getElem?_eq_getElem h]
theorem sm_full (f : Int → Int → Int) (l : List (Int × Int)) : sm f (l.take l.length) = sm f l := by rw [List.take_length]
theorem sm_app (f : Int → Int → Int) (l m : List (Int × Int)) : sm f (l ++ m) = sm f l + sm f m := by unfold sm; rw [List.map_append, List.sum_append]
theorem sm_rev (f : Int → Int → Int) (l : List (Int × Int)) : sm f l.reverse = sm f l := by
  induction l with
  | nil => rfl
  | cons q l ih => rw [List.reverse_cons, sm_app, ih]; unfold sm; simp; omega
theorem sm_split (f : Int → Int → Int) (l : List (Int × Int)) (n : Nat) : sm f (l.take n) + sm f (l.drop n) = sm f l := by rw [← sm_app, List.take_append_drop]
theorem sm_bd {f : Int → Int → Int} {c : Int} (l : List (Int × Int)) (h : ∀ q ∈ l, 0 ≤ f q.1 q.2 ∧ f q.1 q.2 ≤ c) : 0 ≤ sm f l ∧ sm f l ≤ c * l.length := by
  induction l with
  | nil => unfold sm; simp
  | cons q l ih =>
    have i := ih fun x hx => h x (List.mem_cons_of_mem _ hx)
    have := h q List.mem_cons_self
    unfold sm at *
    simp only [List.map_cons, List.sum_cons, List.length_cons]
    rw [show ((l.length + 1 : Nat) : Int) = (l.length : Int) + 1 by omega, Int.mul_add, Int.mul_one]
    omega
def fA (A _ : Int) : Int := A
def fM (_ M : Int) : Int := M
def allP (l : List (Int × Int)) : Bool := l.all fun q => plB q.1 q.2
theorem allP_iff {l : List (Int × Int)} : allP l = true ↔ ∀ q ∈ l, plB q.1 q.2 = true := by unfold allP; exact List.all_eq_true
theorem row_mem {l : List (Int × Int)} {k : Nat} (h : k < l.length) : (gX l k, gR l k) ∈ l := by
  have : (gX l k, gR l k) = l[k] := by simp [gX, gR, List.getD_eq_getElem?_getD, List.getElem?_eq_getElem h]
  rw [this]; exact List.getElem_mem h
theorem allP_at {l : List (Int × Int)} (h : allP l = true) {k : Nat} (hk : k < l.length) : plB (gX l k) (gR l k) = true := allP_iff.1 h _ (row_mem hk)
theorem allP_bad {l : List (Int × Int)} (h : allP l = false) : ∃ k, k < l.length ∧ plB (gX l k) (gR l k) = false ∧ ∀ j, j < k → plB (gX l j) (gR l j) = true := by
  obtain ⟨s1, s2⟩ := fst_spec (fun k => !plB (gX l k) (gR l k)) l.length
  have le := fst_le (fun k => !plB (gX l k) (gR l k)) l.length
  generalize fst (fun k => !plB (gX l k) (gR l k)) l.length = k at *
  rcases Nat.lt_or_ge k l.length with g | g
  · exact ⟨k, g, by simpa using s2 g, fun j hj => by simpa using s1 j hj⟩
  · exfalso
    have : allP l = true := by
      rw [allP_iff]
      intro q hq
      obtain ⟨i, hi, e⟩ := List.getElem_of_mem hq
      have := s1 i (by omega)
      simp [gX, gR, List.getD_eq_getElem?_getD, List.getElem?_eq_getElem hi, e] at this
      exact this
    rw [this] at h; cases h
theorem mix_bd {l : List (Int × Int)} (h : allP l = true) : (0 ≤ sm fA l ∧ sm fA l ≤ 10737418240000 * l.length) ∧ 0 ≤ sm fM l ∧ sm fM l ≤ 128849018880000 * l.length := by
  refine ⟨sm_bd l fun q hq => ?_, sm_bd l fun q hq => ?_⟩
  · have := plB_iff.1 (allP_iff.1 h q hq); exact ⟨this.1, this.2.1⟩
  · have := plB_iff.1 (allP_iff.1 h q hq); exact ⟨this.2.2.1, this.2.2.2.1⟩
theorem allP_take {l : List (Int × Int)} (h : allP l = true) (k : Nat) : allP (l.take k) = true := allP_iff.2 fun q hq => allP_iff.1 h q (List.mem_of_mem_take hq)
theorem allP_drop {l : List (Int × Int)} (h : allP l = true) (k : Nat) : allP (l.drop k) = true := allP_iff.2 fun q hq => allP_iff.1 h q (List.mem_of_mem_drop hq)
def suE (l : List (Int × Int)) : Int := if 8 < l.length then 8 else if allP l = false then 1 else if plB (sm fA l) (sm fM l) = false then 15 else 0
def suA (l : List (Int × Int)) : Int := if suE l = 0 then sm fA l else 0
def suM (l : List (Int × Int)) : Int := if suE l = 0 then sm fM l else 0
theorem suE_zero {l : List (Int × Int)} : suE l = 0 ↔ l.length ≤ 8 ∧ allP l = true ∧ plB (sm fA l) (sm fM l) = true := by
  unfold suE
  by_cases h1 : 8 < l.length
  · rw [if_pos h1]; exact ⟨fun e => (by cases e), fun e => by omega⟩
  · rw [if_neg h1]
    cases h2 : allP l with
    | false => exact ⟨fun e => (by cases e), fun e => by cases e.2.1⟩
    | true =>
      cases h3 : plB (sm fA l) (sm fM l) with
      | false => exact ⟨fun e => (by cases e), fun e => by cases e.2.2⟩
      | true => exact ⟨fun _ => ⟨by omega, rfl, rfl⟩, fun _ => rfl⟩
/-! ### drawing -/
def drE (A M m : Int) : Int := if plB A M = false then 1 else if m < 0 then 2 else if M < m then 17 else 0
def drA (A M m : Int) : Int := if drE A M m = 0 then A * m / M else 0
def drM (A M m : Int) : Int := if drE A M m = 0 then m else 0
def rsA (A M m : Int) : Int := if drE A M m = 0 then A - A * m / M else 0
def rsM (A M m : Int) : Int := if drE A M m = 0 then M - m else 0
theorem drE_zero {A M m : Int} : drE A M m = 0 ↔ plB A M = true ∧ 0 ≤ m ∧ m ≤ M := by
  unfold drE
  cases h : plB A M with
  | false => exact ⟨fun e => (by cases e), fun e => by cases e.1⟩
  | true =>
    rw [if_neg (by simp)]
    by_cases h1 : m < 0
    · rw [if_pos h1]; exact ⟨fun e => (by cases e), fun e => by omega⟩
    · rw [if_neg h1]
      by_cases h2 : M < m
      · rw [if_pos h2]; exact ⟨fun e => (by cases e), fun e => by omega⟩
      · rw [if_neg h2]; exact ⟨fun _ => ⟨rfl, by omega, by omega⟩, fun _ => rfl⟩
theorem drV_ok {A M m : Int} (h : drE A M m = 0) : drA A M m = A * m / M ∧ drM A M m = m ∧ rsA A M m = A - A * m / M ∧ rsM A M m = M - m := by
  unfold drA drM rsA rsM; rw [if_pos h, if_pos h, if_pos h, if_pos h]; exact ⟨rfl, rfl, rfl, rfl⟩
theorem drV_no {A M m : Int} (h : drE A M m ≠ 0) : drA A M m = 0 ∧ drM A M m = 0 ∧ rsA A M m = 0 ∧ rsM A M m = 0 := by
  unfold drA drM rsA rsM; rw [if_neg h, if_neg h, if_neg h, if_neg h]; exact ⟨rfl, rfl, rfl, rfl⟩
theorem draw_bd {A M m : Int} (h : plB A M = true) (h0 : 0 ≤ m) (h1 : m ≤ M) : 0 ≤ A * m / M ∧ A * m / M ≤ A ∧ A * m / M * M ≤ A * m ∧ (M ≠ 0 → A * m < (A * m / M + 1) * M) := by
  obtain ⟨a0, a1, m0, m1, z⟩ := plB_iff.1 h
  have p := Int.mul_nonneg a0 h0
  by_cases e : M = 0
  · subst e; rw [Int.ediv_zero]
    refine ⟨Int.le_refl _, a0, by omega, fun x => absurd rfl x⟩
  · have e1 := Int.ediv_mul_le (A * m) e
    have e2 := Int.lt_ediv_add_one_mul_self (A * m) (show 0 < M by omega)
    have e3 : 0 ≤ A * m / M := Int.ediv_nonneg p m0
    refine ⟨e3, ?_, e1, fun _ => e2⟩
    have e4 := Int.mul_le_mul_of_nonneg_left h1 a0
    exact Int.le_of_mul_le_mul_right (by omega) (show 0 < M by omega)
theorem draw_of {A M m : Int} (h : plB A M = true) (h0 : 0 ≤ m) (h1 : m ≤ M) : ofQ A m M = A * m / M := by
  obtain ⟨a0, a1, m0, m1, z⟩ := plB_iff.1 h
  have b := draw_bd h h0 h1
  have ia : isAm A = true := (isAm_iff _).2 ⟨a0, by omega⟩
  have im : isAm m = true := (isAm_iff _).2 ⟨h0, by omega⟩
  have iM : isAm M = true := (isAm_iff _).2 ⟨m0, m1⟩
  unfold ofQ ofE
  rw [ia, im, iM]
  simp only [Bool.and_self, if_true]
  by_cases e : M = 0
  · subst e; simp
  · rw [if_neg e, if_pos (by omega)]
/-! ### dividing -/
def dvE (A M : Int) (ws : List Int) : Int := if plB A M = false then 1 else divE M ws
def dvL (A M : Int) (ws : List Int) : List (Int × Int) := if dvE A M ws ≠ 0 then [] else if M = 0 then List.replicate ws.length (0, 0) else (divP A (divP M ws)).zip (divP M ws)
end Go.Proofs.Ytmoeccghkpjbgaa

/- Liquids, compared. -/
namespace Go.Proofs.Ytmoeccghkpjbgaa
open Go.RowKit Go.Sort

theorem run_same_liq (a b x y : Int) (w : World) :
    (Op.equalIn 10000 41 (.agg #[.int .i64 a, .int .i64 b]) (.agg #[.int .i64 x, .int .i64 y])).run Try.prog w = .ok (samP a b x y) w := by
  rw [show (10000 : Nat) = 9999 + 1 from rfl, run_equalIn_agg w 9999 41 _ _ (by kernel_rfl) (by kernel_rfl)]
  have hf : (Try.prog.fieldsOf 41).toList.map (fun f => (f.name, f.type, f.offset)) = [("Alcohol", 3, 0), ("Mass", 3, 1)] := by kernel_rfl
  generalize (Try.prog.fieldsOf 41).toList = fs at *
  obtain ⟨f, g, rfl⟩ : ∃ f g, fs = [f, g] := by
    have hl := congrArg List.length hf
    rw [List.length_map] at hl
    rcases fs with _ | ⟨f, _ | ⟨g, _ | ⟨h, fs⟩⟩⟩ <;> simp at hl
    exact ⟨f, g, rfl⟩
  simp only [List.map_cons, List.map_nil, List.cons.injEq, Prod.mk.injEq, and_true] at hf
  obtain ⟨⟨f1, f2, f3⟩, g1, g2, g3⟩ := hf
  have eq : ∀ (u v : Int) (W : World), (Op.equalIn 9999 3 (.int .i64 u) (.int .i64 v)).run Try.prog W = .ok (u == v) W := fun u v W => run_equalIn_int W 9998 3 .i64 .i64 u v Try.underlying3
  by_cases e1 : a = x <;> by_cases e2 : b = y <;> simp [Op.eqFields, f1, f2, f3, g1, g2, g3, go_sem, samP, eq, e1, e2]
theorem run_neq_liq (a b x y : Int) (w : World) :
    (binOp .neq 41 (.agg #[.int .i64 a, .int .i64 b]) (.agg #[.int .i64 x, .int .i64 y])).run Try.prog w = .ok (.bool (!samP a b x y)) w := by
  rw [run_neq_struct, run_same_liq]; rfl
theorem run_eql_liq (a b x y : Int) (w : World) :
    (binOp .eql 41 (.agg #[.int .i64 a, .int .i64 b]) (.agg #[.int .i64 x, .int .i64 y])).run Try.prog w = .ok (.bool (samP a b x y)) w := by
  rw [run_eql_struct, run_same_liq]; rfl
end Go.Proofs.Ytmoeccghkpjbgaa

/- Package mix: plain liquids; Draw. -/
namespace Go.Proofs.Ytmoeccghkpjbgaa
open Go.RowKit

set_option maxHeartbeats 4000000 in
theorem mxPl_any (A M : Int) (w : World) :
    Calls Try.prog 59 #[.agg #[.int .i64 A, .int .i64 M]] w fun e w' => e = .returned (.bool (plB A M)) ∧ Below w.heap.size w w' := by
  have X := Lib.hid (bel_alloc (o := .cells #[.int .i64 A, .int .i64 M] 41) (Below.refl _ (w.alloc (.cells #[.int .i64 A, .int .i64 M] 41))))
  unfold plB
  by_cases h0 : A < 0
  · have d0 : decide (A < 0) = true := decide_eq_true h0
    rw [d0, Bool.true_or, Bool.true_or, Bool.true_or, Bool.not_true, Bool.false_and]
    clear h0
    go_enter Try.func59, Try.ntmps59
    go_wp2
    go_returns
    exact ⟨rfl, X.out⟩
  have d0 : decide (A < 0) = false := decide_eq_false h0
  by_cases h1 : 10737418240000 < A
  · have d1 : decide (10737418240000 < A) = true := decide_eq_true h1
    rw [d0, d1, Bool.false_or, Bool.true_or, Bool.true_or, Bool.not_true, Bool.false_and]
    clear h0 h1
    go_enter Try.func59, Try.ntmps59
    go_wp2
    go_returns
    exact ⟨rfl, X.out⟩
  have d1 : decide (10737418240000 < A) = false := decide_eq_false h1
  by_cases h2 : M < 0
  · have d2 : decide (M < 0) = true := decide_eq_true h2
    rw [d0, d1, d2, Bool.false_or, Bool.false_or, Bool.true_or, Bool.not_true, Bool.false_and]
    clear h0 h1 h2
    go_enter Try.func59, Try.ntmps59
    go_wp2
    go_returns
    exact ⟨rfl, X.out⟩
  have d2 : decide (M < 0) = false := decide_eq_false h2
  by_cases h3 : 128849018880000 < M
  · have d3 : decide (128849018880000 < M) = true := decide_eq_true h3
    rw [d0, d1, d2, d3, Bool.false_or, Bool.false_or, Bool.false_or, Bool.not_true, Bool.false_and]
    clear h0 h1 h2 h3
    go_enter Try.func59, Try.ntmps59
    go_wp2
    go_returns
    exact ⟨rfl, X.out⟩
  have d3 : decide (128849018880000 < M) = false := decide_eq_false h3
  rw [d0, d1, d2, d3, Bool.false_or, Bool.false_or, Bool.false_or, Bool.not_false, Bool.true_and]
  clear h0 h1 h2 h3
  by_cases h4 : A = 0
  · rw [decide_eq_true h4, Bool.true_or]
    have d4 : (A == 0) = true := by simpa using h4
    clear h4
    go_enter Try.func59, Try.ntmps59
    go_wp2
    go_returns
    exact ⟨rfl, X.out⟩
  · rw [decide_eq_false h4, Bool.false_or]
    have d4 : (A == 0) = false := by simpa using h4
    clear h4
    generalize hB : decide (0 < M) = B
    go_enter Try.func59, Try.ntmps59
    go_wp2
    go_returns
    exact ⟨rfl, X.out⟩
theorem two_new1 (w : World) (o : Obj) (x y : Value) (T : TypeId) : Two (w.heap.size + 1) ((w.alloc o).alloc (.cells #[x, y] T)) x y := by
  have := Two.new (w.alloc o) x y T
  rwa [World.size_alloc] at this
theorem two_new2 (w : World) (o o' : Obj) (x y : Value) (T : TypeId) : Two (w.heap.size + 1 + 1) (((w.alloc o).alloc o').alloc (.cells #[x, y] T)) x y := by
  have := Two.new ((w.alloc o).alloc o') x y T
  rwa [World.size_alloc, World.size_alloc] at this
theorem two_read2 (w : World) (b c : Nat) (u v x y : Value) {p q r s : Value} (hn : b ≠ c) (h0 : w.cell? ⟨b, 0, none⟩ = some p) (h1 : w.cell? ⟨b, 1, none⟩ = some q) (h2 : w.cell? ⟨c, 0, none⟩ = some r) (h3 : w.cell? ⟨c, 1, none⟩ = some s) :
    (((((w.setCell ⟨b, 0, none⟩ u).setCell ⟨b, 1, none⟩ v).setCell ⟨c, 0, none⟩ x).setCell ⟨c, 1, none⟩ y).cell? ⟨b, 0, none⟩ = some u ∧ ((((w.setCell ⟨b, 0, none⟩ u).setCell ⟨b, 1, none⟩ v).setCell ⟨c, 0, none⟩ x).setCell ⟨c, 1, none⟩ y).cell? ⟨b, 1, none⟩ = some v) ∧
    ((((w.setCell ⟨b, 0, none⟩ u).setCell ⟨b, 1, none⟩ v).setCell ⟨c, 0, none⟩ x).setCell ⟨c, 1, none⟩ y).cell? ⟨c, 0, none⟩ = some x ∧ ((((w.setCell ⟨b, 0, none⟩ u).setCell ⟨b, 1, none⟩ v).setCell ⟨c, 0, none⟩ x).setCell ⟨c, 1, none⟩ y).cell? ⟨c, 1, none⟩ = some y := by
  have hc0 : ((w.setCell ⟨b, 0, none⟩ u).setCell ⟨b, 1, none⟩ v).cell? ⟨c, 0, none⟩ = some r := by
    rw [World.cell?_setCell_other _ _ _ _ (by first | (simp; done) | (simp; omega)), World.cell?_setCell_other _ _ _ _ (by first | (simp; done) | (simp; omega))]; exact h2
  have hc1 : ((w.setCell ⟨b, 0, none⟩ u).setCell ⟨b, 1, none⟩ v).cell? ⟨c, 1, none⟩ = some s := by
    rw [World.cell?_setCell_other _ _ _ _ (by first | (simp; done) | (simp; omega)), World.cell?_setCell_other _ _ _ _ (by first | (simp; done) | (simp; omega))]; exact h3
  obtain ⟨b0, b1⟩ := two_read w b u v h0 h1
  obtain ⟨c0, c1⟩ := two_read ((w.setCell ⟨b, 0, none⟩ u).setCell ⟨b, 1, none⟩ v) c x y hc0 hc1
  refine ⟨⟨?_, ?_⟩, c0, c1⟩
  · rw [World.cell?_setCell_other _ _ _ _ (by first | (simp; done) | (simp; omega)), World.cell?_setCell_other _ _ _ _ (by first | (simp; done) | (simp; omega))]; exact b0
  · rw [World.cell?_setCell_other _ _ _ _ (by first | (simp; done) | (simp; omega)), World.cell?_setCell_other _ _ _ _ (by first | (simp; done) | (simp; omega))]; exact b1
set_option maxHeartbeats 8000000 in
set_option maxRecDepth 100000 in
theorem mxDr_bad (A M m : Int) (w : World) (hP : plB A M = false) :
    Calls Try.prog 30 #[.agg #[.int .i64 A, .int .i64 M], .int .i64 m] w fun e w' => e = .returned (.tuple #[.agg #[.int .i64 0, .int .i64 0], .agg #[.int .i64 0, .int .i64 0], .int .i64 1]) ∧ Below w.heap.size w w' := by
  have HP := Lib.hid (fun W => mxPl_any A M W)
  rw [hP] at HP
  clear hP
  have T0 := Lib.hid (((Two.new w (.int .i64 A) (.int .i64 M) 41).alloc (.cells #[.int .i64 0, .int .i64 0] 41)).alloc (.cells #[.int .i64 0, .int .i64 0] 41))
  have T1 := Lib.hid ((two_new1 w (.cells #[.int .i64 A, .int .i64 M] 41) (.int .i64 0) (.int .i64 0) 41).alloc (.cells #[.int .i64 0, .int .i64 0] 41))
  have T2 := Lib.hid (two_new2 w (.cells #[.int .i64 A, .int .i64 M] 41) (.cells #[.int .i64 0, .int .i64 0] 41) (.int .i64 0) (.int .i64 0) 41)
  have HB : Hid (Below w.heap.size w (((w.alloc (.cells #[.int .i64 A, .int .i64 M] 41)).alloc (.cells #[.int .i64 0, .int .i64 0] 41)).alloc (.cells #[.int .i64 0, .int .i64 0] 41))) := Lib.hid (bel_alloc (bel_alloc (bel_alloc (Below.refl _ _))))
  obtain ⟨b0, b1, b2, b3, b4⟩ := T0.out
  go_enter Try.func30, Try.ntmps30
  go_wp2_with fail
  refine (HP.out _).mono ?_
  rintro e w1 ⟨rfl, h1⟩
  clear b0 b1 b2 b3 b4
  replace T0 := Lib.hid (T0.out.below h1)
  replace T1 := Lib.hid (T1.out.below h1)
  replace T2 := Lib.hid (T2.out.below h1)
  replace HB := Lib.hid (bel_trans HB.out h1)
  clear h1
  obtain ⟨b0, b1, b2, b3, b4⟩ := T0.out
  obtain ⟨c0, c1, c2, c3, c4⟩ := T1.out
  obtain ⟨d0, d1, d2, d3, d4⟩ := T2.out
  go_wp2
  obtain ⟨⟨r0, r1⟩, r2, r3⟩ := two_read2 w1 (w.heap.size + 1) (w.heap.size + 1 + 1) (.int .i64 0) (.int .i64 0) (.int .i64 0) (.int .i64 0) (by omega) c0 c1 d0 d1
  have l1 : w.heap.size ≤ w.heap.size + 1 := by omega
  have l2 : w.heap.size ≤ w.heap.size + 1 + 1 := by omega
  generalize w.heap.size + 1 + 1 = D at *
  generalize w.heap.size + 1 = C at *
  refine bodyPost_ret (v := .tuple #[.agg #[.int .i64 0, .int .i64 0], .agg #[.int .i64 0, .int .i64 0], .int .i64 1]) (by simp [results, Try.results30, go_sem, r0, r1, r2, r3]) rfl ?_
  exact ⟨rfl, (((HB.out.setCell l1 _).setCell l1 _).setCell l2 _).setCell l2 _⟩
set_option maxHeartbeats 8000000 in
set_option maxRecDepth 100000 in
theorem mxDr_neg (A M m : Int) (w : World) (hP : plB A M = true) (h : m < 0) :
    Calls Try.prog 30 #[.agg #[.int .i64 A, .int .i64 M], .int .i64 m] w fun e w' => e = .returned (.tuple #[.agg #[.int .i64 0, .int .i64 0], .agg #[.int .i64 0, .int .i64 0], .int .i64 2]) ∧ Below w.heap.size w w' := by
  have HP := Lib.hid (fun W => mxPl_any A M W)
  rw [hP] at HP
  clear hP
  have T0 := Lib.hid (((Two.new w (.int .i64 A) (.int .i64 M) 41).alloc (.cells #[.int .i64 0, .int .i64 0] 41)).alloc (.cells #[.int .i64 0, .int .i64 0] 41))
  have T1 := Lib.hid ((two_new1 w (.cells #[.int .i64 A, .int .i64 M] 41) (.int .i64 0) (.int .i64 0) 41).alloc (.cells #[.int .i64 0, .int .i64 0] 41))
  have T2 := Lib.hid (two_new2 w (.cells #[.int .i64 A, .int .i64 M] 41) (.cells #[.int .i64 0, .int .i64 0] 41) (.int .i64 0) (.int .i64 0) 41)
  have HB : Hid (Below w.heap.size w (((w.alloc (.cells #[.int .i64 A, .int .i64 M] 41)).alloc (.cells #[.int .i64 0, .int .i64 0] 41)).alloc (.cells #[.int .i64 0, .int .i64 0] 41))) := Lib.hid (bel_alloc (bel_alloc (bel_alloc (Below.refl _ _))))
  obtain ⟨b0, b1, b2, b3, b4⟩ := T0.out
  go_enter Try.func30, Try.ntmps30
  go_wp2_with fail
  refine (HP.out _).mono ?_
  rintro e w1 ⟨rfl, h1⟩
  clear b0 b1 b2 b3 b4
  replace T0 := Lib.hid (T0.out.below h1)
  replace T1 := Lib.hid (T1.out.below h1)
  replace T2 := Lib.hid (T2.out.below h1)
  replace HB := Lib.hid (bel_trans HB.out h1)
  clear h1
  obtain ⟨b0, b1, b2, b3, b4⟩ := T0.out
  obtain ⟨c0, c1, c2, c3, c4⟩ := T1.out
  obtain ⟨d0, d1, d2, d3, d4⟩ := T2.out
  have q : decide (m < 0) = true := decide_eq_true h
  go_wp2
  obtain ⟨⟨r0, r1⟩, r2, r3⟩ := two_read2 w1 (w.heap.size + 1) (w.heap.size + 1 + 1) (.int .i64 0) (.int .i64 0) (.int .i64 0) (.int .i64 0) (by omega) c0 c1 d0 d1
  have l1 : w.heap.size ≤ w.heap.size + 1 := by omega
  have l2 : w.heap.size ≤ w.heap.size + 1 + 1 := by omega
  generalize w.heap.size + 1 + 1 = D at *
  generalize w.heap.size + 1 = C at *
  refine bodyPost_ret (v := .tuple #[.agg #[.int .i64 0, .int .i64 0], .agg #[.int .i64 0, .int .i64 0], .int .i64 2]) (by simp [results, Try.results30, go_sem, r0, r1, r2, r3]) rfl ?_
  exact ⟨rfl, (((HB.out.setCell l1 _).setCell l1 _).setCell l2 _).setCell l2 _⟩
set_option maxHeartbeats 8000000 in
set_option maxRecDepth 100000 in
theorem mxDr_short (A M m : Int) (w : World) (hP : plB A M = true) (h : 0 ≤ m) (g : M < m) :
    Calls Try.prog 30 #[.agg #[.int .i64 A, .int .i64 M], .int .i64 m] w fun e w' => e = .returned (.tuple #[.agg #[.int .i64 0, .int .i64 0], .agg #[.int .i64 0, .int .i64 0], .int .i64 17]) ∧ Below w.heap.size w w' := by
  have HP := Lib.hid (fun W => mxPl_any A M W)
  rw [hP] at HP
  clear hP
  have T0 := Lib.hid (((Two.new w (.int .i64 A) (.int .i64 M) 41).alloc (.cells #[.int .i64 0, .int .i64 0] 41)).alloc (.cells #[.int .i64 0, .int .i64 0] 41))
  have T1 := Lib.hid ((two_new1 w (.cells #[.int .i64 A, .int .i64 M] 41) (.int .i64 0) (.int .i64 0) 41).alloc (.cells #[.int .i64 0, .int .i64 0] 41))
  have T2 := Lib.hid (two_new2 w (.cells #[.int .i64 A, .int .i64 M] 41) (.cells #[.int .i64 0, .int .i64 0] 41) (.int .i64 0) (.int .i64 0) 41)
  have HB : Hid (Below w.heap.size w (((w.alloc (.cells #[.int .i64 A, .int .i64 M] 41)).alloc (.cells #[.int .i64 0, .int .i64 0] 41)).alloc (.cells #[.int .i64 0, .int .i64 0] 41))) := Lib.hid (bel_alloc (bel_alloc (bel_alloc (Below.refl _ _))))
  obtain ⟨b0, b1, b2, b3, b4⟩ := T0.out
  go_enter Try.func30, Try.ntmps30
  go_wp2_with fail
  refine (HP.out _).mono ?_
  rintro e w1 ⟨rfl, h1⟩
  clear b0 b1 b2 b3 b4
  replace T0 := Lib.hid (T0.out.below h1)
  replace T1 := Lib.hid (T1.out.below h1)
  replace T2 := Lib.hid (T2.out.below h1)
  replace HB := Lib.hid (bel_trans HB.out h1)
  clear h1
  obtain ⟨b0, b1, b2, b3, b4⟩ := T0.out
  obtain ⟨c0, c1, c2, c3, c4⟩ := T1.out
  obtain ⟨d0, d1, d2, d3, d4⟩ := T2.out
  have q : decide (m < 0) = false := decide_eq_false (by omega)
  have q2 : decide (M < m) = true := decide_eq_true g
  go_wp2
  obtain ⟨⟨r0, r1⟩, r2, r3⟩ := two_read2 w1 (w.heap.size + 1) (w.heap.size + 1 + 1) (.int .i64 0) (.int .i64 0) (.int .i64 0) (.int .i64 0) (by omega) c0 c1 d0 d1
  have l1 : w.heap.size ≤ w.heap.size + 1 := by omega
  have l2 : w.heap.size ≤ w.heap.size + 1 + 1 := by omega
  generalize w.heap.size + 1 + 1 = D at *
  generalize w.heap.size + 1 = C at *
  refine bodyPost_ret (v := .tuple #[.agg #[.int .i64 0, .int .i64 0], .agg #[.int .i64 0, .int .i64 0], .int .i64 17]) (by simp [results, Try.results30, go_sem, r0, r1, r2, r3]) rfl ?_
  exact ⟨rfl, (((HB.out.setCell l1 _).setCell l1 _).setCell l2 _).setCell l2 _⟩
set_option maxHeartbeats 8000000 in
set_option maxRecDepth 100000 in
theorem mxDr_ok (A M m : Int) (q f r : Int) (w : World) (hP : plB A M = true) (h : 0 ≤ m) (g : m ≤ M) (hA : 0 ≤ A ∧ A ≤ 10737418240000) (hM : M ≤ 128849018880000) (hq : 0 ≤ q ∧ q ≤ A) (HO : Hid (∀ W, Calls Try.prog 60 #[.int .i64 A, .int .i64 m, .int .i64 M] W fun e w' => e = .returned (.tuple #[.int .i64 q, .int .i64 r, .int .i64 f]) ∧ Below W.heap.size W w')) :
    Calls Try.prog 30 #[.agg #[.int .i64 A, .int .i64 M], .int .i64 m] w fun e w' => e = .returned (.tuple #[.agg #[.int .i64 q, .int .i64 m], .agg #[.int .i64 (A - q), .int .i64 (M - m)], .int .i64 0]) ∧ Below w.heap.size w w' := by
  have HP := Lib.hid (fun W => mxPl_any A M W)
  rw [hP] at HP
  clear hP
  have T0 := Lib.hid (((Two.new w (.int .i64 A) (.int .i64 M) 41).alloc (.cells #[.int .i64 0, .int .i64 0] 41)).alloc (.cells #[.int .i64 0, .int .i64 0] 41))
  have T1 := Lib.hid ((two_new1 w (.cells #[.int .i64 A, .int .i64 M] 41) (.int .i64 0) (.int .i64 0) 41).alloc (.cells #[.int .i64 0, .int .i64 0] 41))
  have T2 := Lib.hid (two_new2 w (.cells #[.int .i64 A, .int .i64 M] 41) (.cells #[.int .i64 0, .int .i64 0] 41) (.int .i64 0) (.int .i64 0) 41)
  have HB : Hid (Below w.heap.size w (((w.alloc (.cells #[.int .i64 A, .int .i64 M] 41)).alloc (.cells #[.int .i64 0, .int .i64 0] 41)).alloc (.cells #[.int .i64 0, .int .i64 0] 41))) := Lib.hid (bel_alloc (bel_alloc (bel_alloc (Below.refl _ _))))
  obtain ⟨b0, b1, b2, b3, b4⟩ := T0.out
  go_enter Try.func30, Try.ntmps30
  go_wp2_with fail
  refine (HP.out _).mono ?_
  rintro e w1 ⟨rfl, h1⟩
  clear b0 b1 b2 b3 b4
  replace T0 := Lib.hid (T0.out.below h1)
  replace T1 := Lib.hid (T1.out.below h1)
  replace T2 := Lib.hid (T2.out.below h1)
  replace HB := Lib.hid (bel_trans HB.out h1)
  clear h1
  obtain ⟨b0, b1, b2, b3, b4⟩ := T0.out
  obtain ⟨c0, c1, c2, c3, c4⟩ := T1.out
  obtain ⟨d0, d1, d2, d3, d4⟩ := T2.out
  have q1 : decide (m < 0) = false := decide_eq_false (by omega)
  have q2 : decide (M < m) = false := decide_eq_false (by omega)
  go_wp2_with fail
  refine (HO.out _).mono ?_
  rintro e w2 ⟨rfl, h1⟩
  clear b0 b1 b2 b3 b4 c0 c1 c2 c3 c4 d0 d1 d2 d3 d4
  replace T0 := Lib.hid (T0.out.below h1)
  replace T1 := Lib.hid (T1.out.below h1)
  replace T2 := Lib.hid (T2.out.below h1)
  replace HB := Lib.hid (bel_trans HB.out h1)
  clear h1
  obtain ⟨b0, b1, b2, b3, b4⟩ := T0.out
  obtain ⟨c0, c1, c2, c3, c4⟩ := T1.out
  obtain ⟨d0, d1, d2, d3, d4⟩ := T2.out
  obtain ⟨⟨r0, r1⟩, r2, r3⟩ := two_read2 w2 (w.heap.size + 1) (w.heap.size + 1 + 1) (.int .i64 q) (.int .i64 m) (.int .i64 (A - q)) (.int .i64 (M - m)) (by omega) c0 c1 d0 d1
  obtain ⟨⟨s0, s1⟩, s2, s3⟩ := two_read2 w2 (w.heap.size + 1 + 1) (w.heap.size + 1) (.int .i64 (A - q)) (.int .i64 (M - m)) (.int .i64 q) (.int .i64 m) (by omega) d0 d1 c0 c1
  have l1 : w.heap.size ≤ w.heap.size + 1 := by omega
  have l2 : w.heap.size ≤ w.heap.size + 1 + 1 := by omega
  have B1 := Lib.hid ((((HB.out.setCell (p := ⟨w.heap.size + 1, 0, none⟩) l1 (.int .i64 q)).setCell (p := ⟨w.heap.size + 1, 1, none⟩) l1 (.int .i64 m)).setCell (p := ⟨w.heap.size + 1 + 1, 0, none⟩) l2 (.int .i64 (A - q))).setCell (p := ⟨w.heap.size + 1 + 1, 1, none⟩) l2 (.int .i64 (M - m)))
  have B2 := Lib.hid ((((HB.out.setCell (p := ⟨w.heap.size + 1 + 1, 0, none⟩) l2 (.int .i64 (A - q))).setCell (p := ⟨w.heap.size + 1 + 1, 1, none⟩) l2 (.int .i64 (M - m))).setCell (p := ⟨w.heap.size + 1, 0, none⟩) l1 (.int .i64 q)).setCell (p := ⟨w.heap.size + 1, 1, none⟩) l1 (.int .i64 m))
  have R1 := Lib.hid (And.intro (And.intro r0 r1) (And.intro r2 r3))
  have R2 := Lib.hid (And.intro (And.intro s0 s1) (And.intro s2 s3))
  clear r0 r1 r2 r3 s0 s1 s2 s3
  go_wp2_with fail
  go_region
  all_goals go_wp2
  all_goals
    obtain ⟨⟨r0, r1⟩, r2, r3⟩ := R1.out
    obtain ⟨⟨s0, s1⟩, s2, s3⟩ := R2.out
    generalize w.heap.size + 1 + 1 = D at *
    generalize w.heap.size + 1 = C at *
    refine bodyPost_ret (v := .tuple #[.agg #[.int .i64 q, .int .i64 m], .agg #[.int .i64 (A - q), .int .i64 (M - m)], .int .i64 0]) (by simp [results, Try.results30, go_sem, r0, r1, r2, r3, s0, s1, s2, s3]) rfl ?_
    exact ⟨rfl, by first | exact B1.out | exact B2.out | exact bel_trans B1.out (bel_drew _) | exact bel_trans B2.out (bel_drew _) | exact bel_trans B1.out (bel_drewN _ _) | exact bel_trans B2.out (bel_drewN _ _)⟩
theorem mxDr_any (A M m : Int) (w : World) :
    Calls Try.prog 30 #[.agg #[.int .i64 A, .int .i64 M], .int .i64 m] w fun e w' => e = .returned (.tuple #[.agg #[.int .i64 (drA A M m), .int .i64 (drM A M m)], .agg #[.int .i64 (rsA A M m), .int .i64 (rsM A M m)], .int .i64 (drE A M m)]) ∧ Below w.heap.size w w' := by
  unfold drA drM rsA rsM
  cases hP : plB A M with
  | false =>
    have e : drE A M m = 1 := by unfold drE; rw [if_pos hP]
    rw [e]; exact mxDr_bad A M m w hP
  | true =>
    by_cases h : m < 0
    · have e : drE A M m = 2 := by unfold drE; rw [hP, if_neg (by simp), if_pos h]
      rw [e]; exact mxDr_neg A M m w hP h
    · by_cases g : M < m
      · have e : drE A M m = 17 := by unfold drE; rw [hP, if_neg (by simp), if_neg h, if_pos g]
        rw [e]; exact mxDr_short A M m w hP (by omega) g
      · have e : drE A M m = 0 := drE_zero.2 ⟨hP, by omega, by omega⟩
        rw [e]
        have b := draw_bd hP (show 0 ≤ m by omega) (show m ≤ M by omega)
        have p := plB_iff.1 hP
        have o := Lib.hid (fun W => of_any A m M W)
        rw [draw_of hP (by omega) (by omega)] at o
        exact mxDr_ok A M m _ _ _ w hP (by omega) (by omega) ⟨p.1, p.2.1⟩ p.2.2.2.1 ⟨b.1, b.2.1⟩ o
end Go.Proofs.Ytmoeccghkpjbgaa
