/- Texts that the proofs of this seat share, one behind the other: CLW, Kit, Two, PPL0, PM, PPM, PRA, PRB, Txt, Quad, CKL, CTX, CTN, CEP, CTY, CTH, CRB, CRC, CTW, CTI, CTZ, CTV, CPQ, CSP, CTU. -/
import Derived.RangeFuncNested
import Derived.RangeFuncCalls
import Derived.RangeFuncBox
import Derived.Test.YtpnlfeljmpfeoaaGreatDoorProg
import Derived.Test.YtpnlfeljmpfeoaaGreatDoorRows
import Derived.Test.YtpnlfeljmpfeoaaGreatDoorShelf
import Derived.WalkKit
import Derived.Handy
import Derived.Lib.Hide
import Derived.Lib.LaidTab
import Derived.Lib.LaidU8
import Derived.Lib.ItoaNum
import Derived.Outline
import Derived.Deep.DeepCutAuto
import Derived.Deep.CutBlock
import Derived.Deep.QuietTactic
import Derived.BigQuiet
import Derived.Lib.OwnBridge
import Derived.OwnWalk
import Derived.Shelf.SlicesQ.Reverse
import Derived.Ground.SlgnProg
import Derived.Maps.AppendAt
import Derived.Deep.Upon
import Derived.Lib.ItoaLen
import Derived.Lib.SplitLaws

set_option linter.unusedVariables false
set_option linter.unusedSimpArgs false

/- A range over an iterator that keeps what is left in a box of its own. -/
namespace Go.Proofs.YtpnlfeljmpfeoaaGreatDoor
open Go Go.RowKit

/-- the iterator's word: what J says is kept by whatever turns its box alone; the lines to be yielded are L -/
def SeqBox {α : Type} (F : Fence) (n : Nat) (P : Program) (g : Nat) (lb : Array Value) (encs : α → Array Value) (Bs : Nat) (L : List α) (w : World) : Prop :=
  ∀ (l : Nat) (J : List α → World → Prop) (Jx : World → Prop) (W : World), W.heap[Bs]? = w.heap[Bs]? →
    (∀ s A B row, J s A → A.grownBy B row → (row = none ∨ row = some Bs) → J s B) →
    (∀ pre x rest W1, L = pre ++ x :: rest → J pre W1 → YieldAt F (n - 1) P l (encs x) W1 fun e W' =>
      (e = .returned (.bool true) ∧ J (pre ++ [x]) W' ∧ W'.heap[Bs]? = W1.heap[Bs]?) ∨ (e = .returned (.bool false) ∧ Jx W')) →
    J [] W →
    CallsIn F n P g (#[.func (.yield l) #[] #[]] ++ lb) W fun e W' => (∃ v, e = .returned v) ∧ (J L W' ∨ Jx W')

/-- how a round may be left: B and B + 1 are the loop's own blocks -/
def boxPost {α : Type} (Bs B : Nat) (I : List α → World → Prop) (Ix : Code → World → Prop) (xs : List α) (W : World) : Exit → Act → World → Prop
  | .normal, _, W' => W'.heap[Bs]? = W.heap[Bs]? ∧ W'.heap[B]? = W.heap[B]? ∧ W'.heap[B + 1]? = W.heap[B + 1]? ∧ I xs W'
  | .ret, _, W' => W'.heap[B]? = W.heap[B]? ∧ W'.heap[B + 1]? = W.heap[B + 1]? ∧ Ix .ret W'
  | .exit _, _, _ => False
  | .goto _, _, _ => False
  | .panic _, _, _ => False
  | .outgrown, _, _ => False

theorem wpIn_rangeFunc_box {α : Type} {F : Fence} {n : Nat} {P : Program} {g : Operand} {ps : Array Tmp} {assign body : Code} {Q : Exit → Act → World → Prop} {a : Act} {w : World}
    (hro : F.round = none) (h1 : 1 ≤ n) {gf : Nat} {lb : Array Value} (hg : a.eval g = .func (.func gf) #[] lb) (hFg : F.fn gf) (eg : ∀ args w, (callFunc gf args).run P w = .ok (.enter gf args) w)
    {encs : α → Array Value} {Bs : Nat} {L : List α} (hseq : SeqBox F (n - 1) P gf lb encs Bs L w) (hBs : Bs < w.heap.size) (hps : ∀ x, (encs x).size = ps.size)
    (I : List α → World → Prop) (Ix : Code → World → Prop)
    (hI : ∀ s A B row, I s A → A.grownBy B row → (∀ r, row = some r → r = Bs ∨ r = w.heap.size ∨ r = w.heap.size + 1) → I s B)
    (hIx : ∀ c A B row, Ix c A → A.grownBy B row → (∀ r, row = some r → r = Bs ∨ r = w.heap.size ∨ r = w.heap.size + 1) → Ix c B)
    (h0 : I [] w) (a₁ : α → Act)
    (hassign : ∀ (l : Nat) (x : α) (W : World) (K : Act → World → Prop), K (a₁ x) W →
      assign.wpIn (F.inRound l) (n - 1 - 1) P (Exit.then K (fun _ _ _ => False)) { tmps := (ps.zip (encs x)).foldl (fun t (p, v) => t.setIfInBounds p v) a.tmps, defers := [] } W)
    (hbody : ∀ (l : Nat) (pre : List α) (x : α) (rest : List α) (W : World), L = pre ++ x :: rest → I pre W → w.heap.size + 1 < W.heap.size → body.wpIn (F.inRound l) (n - 1 - 1) P (boxPost Bs w.heap.size I Ix (pre ++ [x]) W) (a₁ x) W)
    (hdone : ∀ (W : World), I L W → W.heap[w.heap.size]? = some (.deferred (some [])) → Q .normal { a with defers := { target := .collected w.heap.size, args := #[] } :: a.defers } W)
    (hstop : ∀ (W : World), Ix .ret W → W.heap[w.heap.size]? = some (.deferred (some [])) → Code.ret.wpIn F n P Q { a with defers := { target := .collected w.heap.size, args := #[] } :: a.defers } W) :
    (Code.rangeFunc g ps assign body).wpIn F n P Q a w := by
  refine wpIn_rangeFunc ?_
  intro fn hfn
  rw [hro]
  obtain ⟨rec, hrec⟩ : ∃ rec : LoopState → Option Code → Loop, rec = fun st pe => { state := st, pending := pe, fn, tmps := a.tmps, params := ps, assign, body, defers := w.heap.size } := ⟨_, rfl⟩
  obtain ⟨W1, hW1⟩ : ∃ W1, (w.alloc (.deferred (some []))).alloc (.loop (rec .ready none)) = W1 := ⟨_, rfl⟩
  have hL1 : W1.heap[w.heap.size + 1]? = some (.loop (rec .ready none)) := by
    rw [← hW1]; have := World.alloc_heap_new (w.alloc (.deferred (some []))) (.loop (rec .ready none)); rwa [World.size_alloc] at this
  have hK1 : W1.heap[w.heap.size]? = some (.deferred (some [])) := by
    rw [← hW1]; exact (Below.heap_alloc _ _ _ (by simp)).trans (World.alloc_heap_new w _)
  have hI1 : I [] W1 := by
    rw [← hW1]
    exact hI _ _ _ none (hI _ _ _ none h0 (World.grownBy_alloc w _ none) (fun r e => by cases e)) (World.grownBy_alloc _ _ none) (fun r e => by cases e)
  have hB1 : W1.heap[Bs]? = w.heap[Bs]? := by
    rw [← hW1]; exact (Below.heap_alloc _ _ _ (by simp; omega)).trans (Below.heap_alloc _ _ _ hBs)
  have rowL : ∀ {A : World} {v : Obj}, A.grownBy (A.putObj (w.heap.size + 1) v) (some (w.heap.size + 1)) := fun {A v} => grownBy_putObj' A _ v
  have okL : ∀ r, some (w.heap.size + 1) = some r → r = Bs ∨ r = w.heap.size ∨ r = w.heap.size + 1 := fun r e => by cases e; exact .inr (.inr rfl)
  refine ⟨w.heap.size + 1, [{ target := .collected w.heap.size, args := #[] }], W1, { target := .fn (.func gf) lb, args := #[.func (.yield (w.heap.size + 1)) #[] #[]] }, W1, gf,
    #[.func (.yield (w.heap.size + 1)) #[] #[]] ++ lb, W1, ?_, ?_, ?_, ?_, fun _ => h1, ?_⟩
  · rw [← hW1, hrec]; exact run_enterLoop_outer _ _ _ _ _
  · simp only [resolve, hg]
    simp [go_sem]
  · intro f' hf'; simp [Target.leads] at hf'; subst hf'; exact hFg
  · simp [invoke, go_sem, eg]
  · refine (hseq (w.heap.size + 1)
      (fun pre W => I pre W ∧ W.heap[w.heap.size + 1]? = some (.loop (rec .ready none)) ∧ W.heap[w.heap.size]? = some (.deferred (some [])))
      (fun W => Ix .ret W ∧ W.heap[w.heap.size + 1]? = some (.loop (rec .done (some .ret))) ∧ W.heap[w.heap.size]? = some (.deferred (some [])))
      W1 hB1
      (fun s A B row hs hg' hr => by
        have q : ∀ k, k ≠ Bs → k < A.heap.size → B.heap[k]? = A.heap[k]? := fun k hk hlt => hg'.block k hlt (fun e => by rcases hr with rfl | rfl <;> simp_all)
        refine ⟨hI s A B row hs.1 hg' (fun r e => ?_), (q _ (by omega) (Array.getElem?_eq_some_iff.1 hs.2.1).1).trans hs.2.1, (q _ (by omega) (Array.getElem?_eq_some_iff.1 hs.2.2).1).trans hs.2.2⟩
        rcases hr with rfl | rfl
        · cases e
        · cases e; exact .inl rfl)
      ?_ ⟨hI1, hL1, hK1⟩).mono ?_
    · -- a round
      rintro pre x rest W hL ⟨hi, hl, hk⟩
      have hlt : w.heap.size + 1 < W.heap.size := (Array.getElem?_eq_some_iff.1 hl).1
      have hy := run_yield (P := P) (args := encs x) hl (by rw [hrec]; exact hps x)
      rw [hrec] at hy
      refine ⟨fn, _, assign, body, hy, roundIn_of_wpIn hfn (hassign _ x W _ ⟨_, run_beginRound hl (by rw [hrec]), ?_⟩)⟩
      have hl2 : (W.putObj (w.heap.size + 1) (.loop { rec .ready none with state := .busy })).heap[w.heap.size + 1]? = some (.loop { rec .ready none with state := .busy }) := World.putObj_heap_same hlt
      have hk2 : (W.putObj (w.heap.size + 1) (.loop { rec .ready none with state := .busy })).heap[w.heap.size]? = some (.deferred (some [])) := (World.putObj_heap_other (by omega)).trans hk
      have hb2 : (W.putObj (w.heap.size + 1) (.loop { rec .ready none with state := .busy })).heap[Bs]? = W.heap[Bs]? := World.putObj_heap_other (by omega)
      have hlt2 : w.heap.size + 1 < (W.putObj (w.heap.size + 1) (.loop { rec .ready none with state := .busy })).heap.size := (Array.getElem?_eq_some_iff.1 hl2).1
      refine wpIn_mono (hbody _ pre x rest _ hL (hI _ _ _ _ hi rowL okL) hlt2) ?_
      have fin : ∀ (jump : Option Code) (W3 : World), W3.heap[w.heap.size]? = (W.putObj (w.heap.size + 1) (.loop { rec .ready none with state := .busy })).heap[w.heap.size]? → W3.heap[w.heap.size + 1]? = (W.putObj (w.heap.size + 1) (.loop { rec .ready none with state := .busy })).heap[w.heap.size + 1]? →
          (Instr.endRound (w.heap.size + 1) jump).run P W3 = .ok (.bool jump.isNone) (W3.putObj (w.heap.size + 1) (.loop (rec (if jump.isNone then .ready else .done) jump))) ∧
          W3.heap[w.heap.size + 1]? = some (.loop { rec .ready none with state := .busy }) ∧
          (W3.putObj (w.heap.size + 1) (.loop (rec (if jump.isNone then .ready else .done) jump))).heap[w.heap.size + 1]? = some (.loop (rec (if jump.isNone then .ready else .done) jump)) ∧
          (W3.putObj (w.heap.size + 1) (.loop (rec (if jump.isNone then .ready else .done) jump))).heap[w.heap.size]? = some (.deferred (some [])) := fun jump W3 hk3 hl3 => by
        have hl3 := hl3.trans hl2
        have := run_endRound (P := P) jump hl3
        rw [hrec] at this ⊢
        exact ⟨this, by rw [hrec] at hl3; exact hl3, World.putObj_heap_same (Array.getElem?_eq_some_iff.1 hl3).1, (World.putObj_heap_other (by omega)).trans (hk3.trans hk2)⟩
      rintro e a3 W3 hp
      cases e with
      | normal =>
        obtain ⟨hb3, hk3, hl3, hi3⟩ := hp
        obtain ⟨hr, hl3, hl4, hk4⟩ := fin none W3 hk3 hl3
        exact ⟨_, _, hr, .inl ⟨rfl, ⟨hI _ _ _ _ hi3 rowL okL, hl4, hk4⟩, (World.putObj_heap_other (by omega)).trans (hb3.trans hb2)⟩⟩
      | ret =>
        obtain ⟨hk3, hl3, hi3⟩ := hp
        obtain ⟨hr, hl3, hl4, hk4⟩ := fin (some .ret) W3 hk3 hl3
        exact ⟨_, _, hr, .inr ⟨rfl, hIx _ _ _ _ hi3 rowL okL, hl4, hk4⟩⟩
      | exit id => exact hp.elim
      | goto t => exact hp.elim
      | panic ch => exact hp.elim
      | outgrown => exact hp.elim
    · rintro e W2 ⟨⟨v, rfl⟩, (⟨hi, hl, hk⟩ | ⟨hi, hl, hk⟩)⟩
      · exact ⟨none, _, by have := run_endLoop (P := P) hl (by rw [hrec]; simp); rw [hrec] at this; exact this, hdone _ (hI _ _ _ _ hi rowL okL) ((World.putObj_heap_other (by omega)).trans hk)⟩
      · exact ⟨some .ret, _, by have := run_endLoop (P := P) hl (by rw [hrec]; simp); rw [hrec] at this; exact this, hstop _ (hIx _ _ _ _ hi rowL okL) ((World.putObj_heap_other (by omega)).trans hk)⟩
end Go.Proofs.YtpnlfeljmpfeoaaGreatDoor

/- What every text of this seat needs: worlds that only grow, the listed variables. -/
namespace Go.Proofs.YtpnlfeljmpfeoaaGreatDoor
open Go.RowKit

theorem bel_alloc {w w' : World} {o : Obj} (h : Below (w.alloc o).heap.size (w.alloc o) w') : Below w.heap.size w w' :=
  ((Below.refl _ _).alloc (Nat.le_refl _) o).trans (h.mono (by simp))
theorem bel_trans {w w1 w2 : World} (h : Below w.heap.size w w1) (h2 : Below w1.heap.size w1 w2) : Below w.heap.size w w2 := h.trans (h2.mono h.size)
theorem bel_drewN (w : World) (n : Nat) : Below w.heap.size w (w.drewN n) := ⟨rfl, rfl, rfl, Nat.le_refl _, fun _ _ => rfl⟩
theorem bel_drew (w : World) : Below w.heap.size w w.drew := ⟨rfl, rfl, rfl, Nat.le_refl _, fun _ _ => rfl⟩
theorem bcell {W w1 : World} (hb : Below W.heap.size W w1) : (∀ b o, b < W.heap.size → w1.cell? ⟨b, o, none⟩ = W.cell? ⟨b, o, none⟩) ∧ (∀ b o, b < W.heap.size → w1.frozen? ⟨b, o, none⟩ = W.frozen? ⟨b, o, none⟩) :=
  ⟨fun b o h => hb.cell (p := ⟨b, o, none⟩) h, fun b o h => hb.frozen (p := ⟨b, o, none⟩) h⟩

theorem var_keep {P : Program} {w w' : World} {n : String} (g : Nat) (hg : P.globalNamed n = some g) (hlt : g < w.heap.size) (hb : Below w.heap.size w w') : w'.var? P n = w.var? P n := by
  simp only [World.var?, hg, Option.bind_some]
  rw [hb.block g hlt]
theorem tab_keep {P : Program} {w w' : World} {n : String} {k : IntKind} {zs : List Int} (g : Nat) (hg : P.globalNamed n = some g) (hz : 0 < zs.length) (h : Lib.TabIs P w n k zs) (hb : Below w.heap.size w w') : Lib.TabIs P w' n k zs := by
  unfold Lib.TabIs at *
  rw [var_keep g hg ?_ hb, h]
  have := Lib.TabIs.cell (P := P) (W := w) h hg 0 hz
  exact World.block_lt_of_cell? w ⟨g, 0, none⟩ this

/-- a listed table of integers -/
theorem tab_of {P : Program} {W : World} {l : List (String × DataW Unit)} {name : String} {d : DataW Unit} {k : IntKind} {zs : List Int} {g : Nat} {t e : TypeId} {n : Nat}
    (h : laidMet P l W) (hm : (name, d) ∈ l) (hd : d = Lib.tabData k zs)
    (hg : P.globalNamed name = some g) (hty : (P.globals[g]?).map (·.type) = some t) (ht : P.underlying t = some (.array n e)) (he : P.underlying e = some (.int k)) (hce : P.cellsOf e = 1) (hct : P.cellsOf t = n) : Lib.TabIs P W name k zs := by
  subst hd
  obtain ⟨g', t', cs, fuel, p, hg', ht', hvar, hr⟩ := Lib.laidMet.reads h hm
  obtain rfl := Option.some.inj (hg.symm.trans hg')
  obtain rfl := Option.some.inj (hty.symm.trans ht')
  unfold Lib.TabIs
  rw [hvar, ← Lib.cells_of_tab ht he hce hct hr]

theorem wrap_wrap_add (a b : Int) : IntKind.i64.wrap (IntKind.i64.wrap a + b) = IntKind.i64.wrap (a + b) := by simp only [IntKind.wrap_i64]; omega
theorem wrap_wrap_sub (a b : Int) : IntKind.i64.wrap (IntKind.i64.wrap a - b) = IntKind.i64.wrap (a - b) := by simp only [IntKind.wrap_i64]; omega
theorem wrap_add_wrap (a b : Int) : IntKind.i64.wrap (a + IntKind.i64.wrap b) = IntKind.i64.wrap (a + b) := by simp only [IntKind.wrap_i64]; omega
theorem wrap_sub_wrap (a b : Int) : IntKind.i64.wrap (a - IntKind.i64.wrap b) = IntKind.i64.wrap (a - b) := by simp only [IntKind.wrap_i64]; omega
theorem wrap_bd (a : Int) : -9223372036854775808 ≤ IntKind.i64.wrap a ∧ IntKind.i64.wrap a ≤ 9223372036854775807 := by simp only [IntKind.wrap_i64]; omega
theorem wrap_in (a : Int) (h : -9223372036854775808 ≤ a ∧ a ≤ 9223372036854775807) : IntKind.i64.wrap a = a := by simp only [IntKind.wrap_i64]; omega

theorem ret_int {k : IntKind} {a b : Int} (h : a = b) : Ending.returned (.int k a) = .returned (.int k b) := by rw [h]
theorem ret_bool {a b : Bool} (h : a = b) : Ending.returned (.bool a) = .returned (.bool b) := by rw [h]
end Go.Proofs.YtpnlfeljmpfeoaaGreatDoor

/- A block with two cells. -/
namespace Go.Proofs.YtpnlfeljmpfeoaaGreatDoor
open Go.RowKit

def Two (b : Nat) (W : World) (x y : Value) : Prop := W.cell? ⟨b, 0, none⟩ = some x ∧ W.cell? ⟨b, 1, none⟩ = some y ∧ W.frozen? ⟨b, 0, none⟩ = false ∧ W.frozen? ⟨b, 1, none⟩ = false ∧ b < W.heap.size
theorem Two.below {b : Nat} {W W' : World} {x y : Value} (h : Two b W x y) (hb : Below W.heap.size W W') : Two b W' x y := by
  obtain ⟨h0, h1, h2, h3, h4⟩ := h
  exact ⟨by rw [(bcell hb).1 _ _ h4]; exact h0, by rw [(bcell hb).1 _ _ h4]; exact h1, by rw [(bcell hb).2 _ _ h4]; exact h2, by rw [(bcell hb).2 _ _ h4]; exact h3, Nat.lt_of_lt_of_le h4 hb.size⟩
theorem Two.alloc {b : Nat} {W : World} {x y : Value} (h : Two b W x y) (o : Obj) : Two b (W.alloc o) x y := h.below (bel_alloc (Below.refl _ _))
theorem Two.new (W : World) (x y : Value) (T : TypeId) : Two W.heap.size (W.alloc (.cells #[x, y] T)) x y := ⟨by simp [go_sem], by simp [go_sem], by simp [go_sem], by simp [go_sem], by simp⟩
theorem two_read (w : World) (b : Nat) (u v : Value) {a c : Value} (h0 : w.cell? ⟨b, 0, none⟩ = some a) (h1 : w.cell? ⟨b, 1, none⟩ = some c) :
    ((w.setCell ⟨b, 0, none⟩ u).setCell ⟨b, 1, none⟩ v).cell? ⟨b, 0, none⟩ = some u ∧ ((w.setCell ⟨b, 0, none⟩ u).setCell ⟨b, 1, none⟩ v).cell? ⟨b, 1, none⟩ = some v := by
  refine ⟨?_, ?_⟩
  · rw [World.cell?_setCell_other _ _ _ _ (by simp), World.cell?_setCell_same _ _ _ h0]
  · rw [World.cell?_setCell_same (u := c)]
    rw [World.cell?_setCell_other _ _ _ _ (by simp), h1]
theorem Two.set1 {b : Nat} {W : World} {x y : Value} (h : Two b W x y) (z : Value) : Two b (W.setCell ⟨b, 1, none⟩ z) x z := by
  obtain ⟨h0, h1, h2, h3, h4⟩ := h
  refine ⟨?_, ?_, ?_, ?_, ?_⟩
  · rw [World.cell?_setCell_other _ _ _ _ (by simp)]; exact h0
  · exact World.cell?_setCell_same _ _ _ h1
  · rw [World.frozen?_setCell]; exact h2
  · rw [World.frozen?_setCell]; exact h3
  · simpa [World.setCell] using h4
theorem Two.other {b : Nat} {W : World} {x y : Value} (h : Two b W x y) (p : Addr) (hp : p.block ≠ b) (z : Value) : Two b (W.setCell p z) x y := by
  obtain ⟨h0, h1, h2, h3, h4⟩ := h
  refine ⟨?_, ?_, ?_, ?_, ?_⟩
  · rw [World.cell?_setCell_other _ _ _ _ (by intro e; apply hp; rw [e])]; exact h0
  · rw [World.cell?_setCell_other _ _ _ _ (by intro e; apply hp; rw [e])]; exact h1
  · rw [World.frozen?_setCell]; exact h2
  · rw [World.frozen?_setCell]; exact h3
  · simpa [World.setCell] using h4
end Go.Proofs.YtpnlfeljmpfeoaaGreatDoor

/- Slices that read as lists of points; comparisons. -/
namespace Go.Proofs.YtpnlfeljmpfeoaaGreatDoor
open Go.RowKit Go.Sort

/-- the point at a place of a list -/
def gX (l : List (Int × Int)) (j : Nat) : Int := (l.getD j (0, 0)).1
def gR (l : List (Int × Int)) (j : Nat) : Int := (l.getD j (0, 0)).2

/-- a value is a slice that reads as a list of points -/
def Pts (w : World) (v : Value) (l : List (Int × Int)) : Prop :=
  ∃ a cap, v = .slice a l.length cap ∧ (l.length ≤ cap ∧ cap ≤ 9223372036854775807) ∧
    (l.length = 0 ∨ ∃ b off, a = some ⟨b, off, none⟩ ∧ b < w.heap.size ∧ ∀ j, j < l.length → w.cell? ⟨b, off + j * 2, none⟩ = some (.int .i64 (gX l j)) ∧ w.cell? ⟨b, off + j * 2 + 1, none⟩ = some (.int .i64 (gR l j)))
theorem Pts.below {w w' : World} {v : Value} {l : List (Int × Int)} (h : Pts w v l) (hb : Below w.heap.size w w') : Pts w' v l := by
  obtain ⟨a, cap, rfl, hl, h | ⟨b, off, rfl, hlt, hc⟩⟩ := h
  · exact ⟨a, cap, rfl, hl, .inl h⟩
  · exact ⟨_, cap, rfl, hl, .inr ⟨b, off, rfl, Nat.lt_of_lt_of_le hlt hb.size, fun j hj => by rw [(bcell hb).1 _ _ hlt, (bcell hb).1 _ _ hlt]; exact hc j hj⟩⟩
theorem Pts.alloc {w : World} {v : Value} {l : List (Int × Int)} (h : Pts w v l) (o : Obj) : Pts (w.alloc o) v l := h.below (bel_alloc (Below.refl _ _))
theorem Pts.shape {W : World} {v : Value} {l : List (Int × Int)} (h : Pts W v l) : ∃ a cap, v = .slice a l.length cap ∧ l.length ≤ cap ∧ cap ≤ 9223372036854775807 := by
  obtain ⟨a, cap, e, ⟨h1, h2⟩, _⟩ := h
  exact ⟨a, cap, e, h1, h2⟩
theorem Pts.len {W : World} {a : Option Addr} {n cap : Nat} {l : List (Int × Int)} (h : Pts W (.slice a n cap) l) : n = l.length := by
  obtain ⟨a', c', e, _⟩ := h
  simp only [Value.slice.injEq] at e
  exact e.2.1
theorem Pts.at {W : World} {a : Option Addr} {n cap : Nat} {l : List (Int × Int)} (h : Pts W (.slice a n cap) l) (h0 : 0 < n) :
    ∃ b off, a = some ⟨b, off, none⟩ ∧ b < W.heap.size ∧ ∀ j, j < n → W.cell? ⟨b, off + j * 2, none⟩ = some (.int .i64 (gX l j)) ∧ W.cell? ⟨b, off + j * 2 + 1, none⟩ = some (.int .i64 (gR l j)) := by
  have hl := h.len
  obtain ⟨a', c', e, _, hh⟩ := h
  simp only [Value.slice.injEq] at e
  obtain ⟨rfl, rfl, rfl⟩ := e
  rcases hh with hh | hh
  · omega
  · exact hh
theorem pts_nil (w : World) : Pts w (.slice none 0 0) [] := ⟨none, 0, rfl, by simp, .inl rfl⟩

/-- the cells of a list of points -/
def flat : List (Int × Int) → List Value
  | [] => []
  | q :: l => .int .i64 q.1 :: .int .i64 q.2 :: flat l
theorem flat_len (l : List (Int × Int)) : (flat l).length = l.length * 2 := by
  induction l with
  | nil => rfl
  | cons q l ih => simp only [flat, List.length_cons, ih]; omega
theorem flat_app (l m : List (Int × Int)) : flat (l ++ m) = flat l ++ flat m := by
  induction l with
  | nil => rfl
  | cons q l ih => simp only [List.cons_append, flat, ih]
theorem flat_at (l : List (Int × Int)) (j : Nat) (h : j < l.length) : (flat l)[j * 2]? = some (.int .i64 (gX l j)) ∧ (flat l)[j * 2 + 1]? = some (.int .i64 (gR l j)) := by
  induction l generalizing j with
  | nil => simp at h
  | cons q l ih =>
    cases j with
    | zero => simp [flat, gX, gR]
    | succ j =>
      have := ih j (by simpa using h)
      rw [show (j + 1) * 2 = j * 2 + 1 + 1 by omega]
      simp only [flat, List.getElem?_cons_succ, gX, gR, List.getD_cons_succ]
      exact this
theorem flat_one (l : List (Int × Int)) : ∀ u ∈ flat l, u.oneCell' = true := by
  induction l with
  | nil => intro u h; cases h
  | cons q l ih =>
    intro u h
    simp only [flat, List.mem_cons] at h
    rcases h with rfl | rfl | h
    · rfl
    · rfl
    · exact ih u h
theorem flat_inv (l : List (Int × Int)) (j : Nat) (u : Value) (h : (flat l)[j]? = some u) : ∃ i, i < l.length ∧ ((j = i * 2 ∧ u = .int .i64 (gX l i)) ∨ (j = i * 2 + 1 ∧ u = .int .i64 (gR l i))) := by
  have hj : j < (flat l).length := (List.getElem?_eq_some_iff.1 h).1
  rw [flat_len] at hj
  refine ⟨j / 2, by omega, ?_⟩
  have := flat_at l (j / 2) (by omega)
  rcases Nat.mod_two_eq_zero_or_one j with e | e
  · left
    have hj2 : j = j / 2 * 2 := by omega
    refine ⟨hj2, ?_⟩
    have h' := h
    rw [hj2, this.1] at h'
    exact (Option.some.inj h').symm
  · right
    have hj2 : j = j / 2 * 2 + 1 := by omega
    refine ⟨hj2, ?_⟩
    have h' := h
    rw [hj2, this.2] at h'
    exact (Option.some.inj h').symm

/-- a slice of the call's own holds the points -/
def OwnP (w : World) (B : Nat) (v : Value) (l : List (Int × Int)) : Prop := w.ownsRow B 46 2 v l.length (flat l)
theorem OwnP.pts {w : World} {B : Nat} {v : Value} {l : List (Int × Int)} (h : OwnP w B v l) : Pts w v l := by
  have h' := h
  obtain ⟨_, h2⟩ := h
  rcases h2 with ⟨rfl, hn⟩ | ⟨g, cap, cur, rfl, hg, hh, hc, hm, hs, ht⟩
  · exact ⟨none, 0, by rw [hn], by omega, .inl hn⟩
  · have hlt : g < w.heap.size := by
      rcases Nat.lt_or_ge g w.heap.size with h | h
      · exact h
      · rw [Array.getElem?_eq_none h] at hh; cases hh
    unfold maxLen at hm
    refine ⟨_, cap, rfl, ⟨hc, by omega⟩, .inr ⟨g, 0, rfl, hlt, fun j hj => ?_⟩⟩
    have hcell := World.ownsRow.cells h' (g := g) rfl
    have hf := flat_at l j hj
    have c0 := hcell _ _ hf.1
    have c1 := hcell _ _ hf.2
    rw [Go.WideShapes.add_plain] at c0 c1
    exact ⟨c0, by rw [Nat.add_assoc]; exact c1⟩
theorem pts_lit (w : World) (l : List (Int × Int)) (cs : List Value) (h : cs = flat l) (hn : l.length ≤ 1000) :
    Pts (w.alloc (.cells cs.toArray 46)) (.slice (some ⟨w.heap.size, 0, none⟩) l.length l.length) l := by
  refine ⟨_, _, rfl, by omega, .inr ⟨w.heap.size, 0, rfl, by simp, fun j hj => ?_⟩⟩
  subst h
  have hf := flat_at l j hj
  have hl := flat_len l
  rw [World.cell?_alloc_new, World.cell?_alloc_new]
  simp only [Nat.zero_add]
  exact ⟨by simpa using hf.1, by simpa using hf.2⟩

theorem pt_info : (Tryz.prog.info? 46).map (fun i => (i.zero, i.size, i.bytes)) = some (some (.agg #[.int .i64 0, .int .i64 0]), 2, 16) := by kernel_rfl

/-! ### points, compared -/
def samP (a b x y : Int) : Bool := a == x && b == y
theorem run_same_point (a b x y : Int) (w : World) :
    (Op.equalIn 10000 46 (.agg #[.int .i64 a, .int .i64 b]) (.agg #[.int .i64 x, .int .i64 y])).run Tryz.prog w = .ok (samP a b x y) w := by
  rw [show (10000 : Nat) = 9999 + 1 from rfl, run_equalIn_agg w 9999 46 _ _ (by kernel_rfl) (by kernel_rfl)]
  have hf : (Tryz.prog.fieldsOf 46).toList.map (fun f => (f.name, f.type, f.offset)) = [("X", 3, 0), ("Radius", 3, 1)] := by kernel_rfl
  generalize (Tryz.prog.fieldsOf 46).toList = fs at *
  obtain ⟨f, g, rfl⟩ : ∃ f g, fs = [f, g] := by
    have hl := congrArg List.length hf
    rw [List.length_map] at hl
    rcases fs with _ | ⟨f, _ | ⟨g, _ | ⟨h, fs⟩⟩⟩ <;> simp at hl
    exact ⟨f, g, rfl⟩
  simp only [List.map_cons, List.map_nil, List.cons.injEq, Prod.mk.injEq, and_true] at hf
  obtain ⟨⟨f1, f2, f3⟩, g1, g2, g3⟩ := hf
  have eq : ∀ (u v : Int) (W : World), (Op.equalIn 9999 3 (.int .i64 u) (.int .i64 v)).run Tryz.prog W = .ok (u == v) W := fun u v W => run_equalIn_int W 9998 3 .i64 .i64 u v Tryz.underlying3
  by_cases e1 : a = x <;> by_cases e2 : b = y <;> simp [Op.eqFields, f1, f2, f3, g1, g2, g3, go_sem, samP, eq, e1, e2]
theorem run_neq_point (a b x y : Int) (w : World) :
    (binOp .neq 46 (.agg #[.int .i64 a, .int .i64 b]) (.agg #[.int .i64 x, .int .i64 y])).run Tryz.prog w = .ok (.bool (!samP a b x y)) w := by
  rw [run_neq_struct, run_same_point]; rfl
theorem run_eql_point (a b x y : Int) (w : World) :
    (binOp .eql 46 (.agg #[.int .i64 a, .int .i64 b]) (.agg #[.int .i64 x, .int .i64 y])).run Tryz.prog w = .ok (.bool (samP a b x y)) w := by
  rw [run_eql_struct, run_same_point]; rfl
/-! ### bounds, compared -/
def samB (a b x y : Int) : Bool := a == x && b == y
theorem run_same_bounds (a b x y : Int) (w : World) :
    (Op.equalIn 10000 178 (.agg #[.int .i64 a, .int .i64 b]) (.agg #[.int .i64 x, .int .i64 y])).run Tryz.prog w = .ok (samB a b x y) w := by
  rw [show (10000 : Nat) = 9999 + 1 from rfl, run_equalIn_agg w 9999 178 _ _ (by kernel_rfl) (by kernel_rfl)]
  have hf : (Tryz.prog.fieldsOf 178).toList.map (fun f => (f.name, f.type, f.offset)) = [("Low", 3, 0), ("High", 3, 1)] := by kernel_rfl
  generalize (Tryz.prog.fieldsOf 178).toList = fs at *
  obtain ⟨f, g, rfl⟩ : ∃ f g, fs = [f, g] := by
    have hl := congrArg List.length hf
    rw [List.length_map] at hl
    rcases fs with _ | ⟨f, _ | ⟨g, _ | ⟨h, fs⟩⟩⟩ <;> simp at hl
    exact ⟨f, g, rfl⟩
  simp only [List.map_cons, List.map_nil, List.cons.injEq, Prod.mk.injEq, and_true] at hf
  obtain ⟨⟨f1, f2, f3⟩, g1, g2, g3⟩ := hf
  have eq : ∀ (u v : Int) (W : World), (Op.equalIn 9999 3 (.int .i64 u) (.int .i64 v)).run Tryz.prog W = .ok (u == v) W := fun u v W => run_equalIn_int W 9998 3 .i64 .i64 u v Tryz.underlying3
  by_cases e1 : a = x <;> by_cases e2 : b = y <;> simp [Op.eqFields, f1, f2, f3, g1, g2, g3, go_sem, samB, eq, e1, e2]
theorem run_neq_bounds (a b x y : Int) (w : World) :
    (binOp .neq 178 (.agg #[.int .i64 a, .int .i64 b]) (.agg #[.int .i64 x, .int .i64 y])).run Tryz.prog w = .ok (.bool (!samB a b x y)) w := by
  rw [run_neq_struct, run_same_bounds]; rfl
theorem run_eql_bounds (a b x y : Int) (w : World) :
    (binOp .eql 178 (.agg #[.int .i64 a, .int .i64 b]) (.agg #[.int .i64 x, .int .i64 y])).run Tryz.prog w = .ok (.bool (samB a b x y)) w := by
  rw [run_eql_struct, run_same_bounds]; rfl
end Go.Proofs.YtpnlfeljmpfeoaaGreatDoor

/- Plain facts on a line between two points: its heights rounded down and up. No program stands in this text. -/
namespace Go.Proofs.YtpnlfeljmpfeoaaGreatDoor

/-- a ratio, rounded up -/
def cdv (n d : Int) : Int := (n + d - 1) / d
theorem fl_iff (n d k : Int) (h : 0 < d) : k ≤ n / d ↔ k * d ≤ n := Int.le_ediv_iff_mul_le h
theorem cl_iff (n d k : Int) (h : 0 < d) : cdv n d ≤ k ↔ n ≤ k * d := by
  unfold cdv
  have e : (k + 1) * d = k * d + d := by rw [Int.add_mul]; omega
  constructor
  · intro hk
    have : (n + d - 1) / d < k + 1 := by omega
    have := Int.lt_mul_of_ediv_lt h this
    rw [e] at this
    omega
  · intro hk
    have : (n + d - 1) / d < k + 1 := Int.ediv_lt_of_lt_mul h (by rw [e]; omega)
    omega
/-- m / b ≤ n / c, as ratios -/
theorem fl_mono {m b n c : Int} (hb : 0 < b) (hc : 0 < c) (h : m * c ≤ n * b) : m / b ≤ n / c := by
  rw [fl_iff _ _ _ hc]
  have h1 := Int.ediv_mul_le m (show b ≠ 0 by omega)
  have h2 := Int.mul_le_mul_of_nonneg_right h1 (show 0 ≤ c by omega)
  have h3 : (m / b * c) * b ≤ n * b := by
    have : m / b * c * b = m / b * b * c := by rw [Int.mul_right_comm]
    omega
  exact Int.le_of_mul_le_mul_right h3 hb
theorem cl_ge (n d : Int) (h : 0 < d) : n ≤ cdv n d * d := (cl_iff n d _ h).1 (Int.le_refl _)
theorem cl_mono {m b n c : Int} (hb : 0 < b) (hc : 0 < c) (h : m * c ≤ n * b) : cdv m b ≤ cdv n c := by
  rw [cl_iff _ _ _ hb]
  have h1 := cl_ge n c hc
  have h2 := Int.mul_le_mul_of_nonneg_right h1 (show 0 ≤ b by omega)
  have h3 : m * c ≤ (cdv n c * b) * c := by
    have : cdv n c * b * c = cdv n c * c * b := by rw [Int.mul_right_comm]
    omega
  exact Int.le_of_mul_le_mul_right h3 hc
theorem fl_same {m b n c : Int} (hb : 0 < b) (hc : 0 < c) (h : m * c = n * b) : m / b = n / c :=
  Int.le_antisymm (fl_mono hb hc (by omega)) (fl_mono hc hb (by omega))
theorem cl_same {m b n c : Int} (hb : 0 < b) (hc : 0 < c) (h : m * c = n * b) : cdv m b = cdv n c :=
  Int.le_antisymm (cl_mono hb hc (by omega)) (cl_mono hc hb (by omega))
theorem fl_cl (n d : Int) (h : 0 < d) : n / d ≤ cdv n d ∧ cdv n d ≤ n / d + 1 := by
  constructor
  · have h1 := Int.ediv_mul_le n (show d ≠ 0 by omega)
    have h2 := cl_ge n d h
    exact Int.le_of_mul_le_mul_right (show n / d * d ≤ cdv n d * d by omega) h
  · rw [cl_iff _ _ _ h, Int.add_mul]
    have h1 := Int.emod_add_mul_ediv n d
    have h2 := Int.emod_lt_of_pos n h
    rw [Int.mul_comm] at h1
    omega
theorem fl_int (k d : Int) (h : 0 < d) : k * d / d = k := Int.mul_ediv_cancel k (by omega)
theorem cl_int (k d : Int) (h : 0 < d) : cdv (k * d) d = k := by
  have h1 := (cl_iff (k * d) d k h).2 (Int.le_refl _)
  have h2 := cl_ge (k * d) d h
  have := Int.le_of_mul_le_mul_right h2 h
  omega

/-! ### a line from (a, p) to (b, q) -/
def lnN (a p b q x : Int) : Int := p * (b - a) + (q - p) * (x - a)
theorem lnN_left (a p b q : Int) : lnN a p b q a = p * (b - a) := by unfold lnN; simp
theorem lnN_right (a p b q : Int) : lnN a p b q b = q * (b - a) := by unfold lnN; grind
theorem lnN_up {a p b q x y : Int} (h : p ≤ q) (hx : x ≤ y) : lnN a p b q x ≤ lnN a p b q y := by
  unfold lnN
  have := Int.mul_le_mul_of_nonneg_left (show x - a ≤ y - a by omega) (show 0 ≤ q - p by omega)
  omega
theorem lnN_down {a p b q x y : Int} (h : q ≤ p) (hx : x ≤ y) : lnN a p b q y ≤ lnN a p b q x := by
  unfold lnN
  have := Int.mul_le_mul_of_nonneg_left (show x - a ≤ y - a by omega) (show 0 ≤ p - q by omega)
  have e : ∀ z, (q - p) * z = -((p - q) * z) := fun z => by grind
  rw [e, e]
  omega
theorem ln_between {a p b q x : Int} (hab : a < b) (h1 : a ≤ x) (h2 : x ≤ b) : min p q ≤ lnN a p b q x / (b - a) ∧ cdv (lnN a p b q x) (b - a) ≤ max p q := by
  have hd : 0 < b - a := by omega
  rw [fl_iff _ _ _ hd, cl_iff _ _ _ hd]
  by_cases h : p ≤ q
  · have u1 := lnN_up (a := a) (b := b) h h1
    have u2 := lnN_up (a := a) (b := b) h h2
    rw [lnN_left] at u1
    rw [lnN_right] at u2
    rw [show min p q = p by omega, show max p q = q by omega]
    exact ⟨u1, u2⟩
  · have u1 := lnN_down (a := a) (b := b) (show q ≤ p by omega) h1
    have u2 := lnN_down (a := a) (b := b) (show q ≤ p by omega) h2
    rw [lnN_left] at u1
    rw [lnN_right] at u2
    rw [show min p q = q by omega, show max p q = p by omega]
    exact ⟨u2, u1⟩
/-- a point (m, s) on the line: both parts are the line -/
theorem ln_part1 {a p b q m s x : Int} (hab : a < b) (hm : a < m) (hs : s * (b - a) = lnN a p b q m) :
    lnN a p m s x / (m - a) = lnN a p b q x / (b - a) ∧ cdv (lnN a p m s x) (m - a) = cdv (lnN a p b q x) (b - a) := by
  have e : lnN a p m s x * (b - a) = lnN a p b q x * (m - a) := by unfold lnN at *; grind
  exact ⟨fl_same (by omega) (by omega) e, cl_same (by omega) (by omega) e⟩
theorem ln_part2 {a p b q m s x : Int} (hab : a < b) (hm : m < b) (hs : s * (b - a) = lnN a p b q m) :
    lnN m s b q x / (b - m) = lnN a p b q x / (b - a) ∧ cdv (lnN m s b q x) (b - m) = cdv (lnN a p b q x) (b - a) := by
  have e : lnN m s b q x * (b - a) = lnN a p b q x * (b - m) := by unfold lnN at *; grind
  exact ⟨fl_same (by omega) (by omega) e, cl_same (by omega) (by omega) e⟩
/-- the line from the other end -/
theorem ln_turn (a p b q x L : Int) : lnN (L - b) q (L - a) p (L - x) = lnN a p b q x ∧ (L - a) - (L - b) = b - a := by
  refine ⟨?_, by omega⟩
  unfold lnN; grind
/-- a line that lies at both ends of a part by t below another one lies so between them -/
theorem ln_below {a p b q c u d v x t : Int} (hab : a < b) (hcd : c < d) (h1 : c ≤ x) (h2 : x ≤ d) (hu : (u + t) * (b - a) ≤ lnN a p b q c) (hv : (v + t) * (b - a) ≤ lnN a p b q d) :
    lnN c u d v x / (d - c) ≤ lnN a p b q x / (b - a) - t ∧ cdv (lnN c u d v x) (d - c) ≤ cdv (lnN a p b q x) (b - a) - t := by
  have m1 := Int.mul_le_mul_of_nonneg_right hu (show 0 ≤ d - x by omega)
  have m2 := Int.mul_le_mul_of_nonneg_right hv (show 0 ≤ x - c by omega)
  have e1 : (lnN c u d v x + t * (d - c)) * (b - a) = (u + t) * (b - a) * (d - x) + (v + t) * (b - a) * (x - c) := by unfold lnN; grind
  have e2 : lnN a p b q x * (d - c) = lnN a p b q c * (d - x) + lnN a p b q d * (x - c) := by unfold lnN; grind
  have key : (lnN c u d v x + t * (d - c)) * (b - a) ≤ lnN a p b q x * (d - c) := by omega
  have hd : 0 < d - c := by omega
  have f1 := fl_mono hd (show 0 < b - a by omega) key
  have f2 := cl_mono hd (show 0 < b - a by omega) key
  have g1 : (lnN c u d v x + t * (d - c)) / (d - c) = lnN c u d v x / (d - c) + t := Int.add_mul_ediv_right _ _ (by omega)
  have g2 : cdv (lnN c u d v x + t * (d - c)) (d - c) = cdv (lnN c u d v x) (d - c) + t := by
    unfold cdv
    rw [show lnN c u d v x + t * (d - c) + (d - c) - 1 = lnN c u d v x + (d - c) - 1 + t * (d - c) by omega]
    exact Int.add_mul_ediv_right _ _ (by omega)
  omega
end Go.Proofs.YtpnlfeljmpfeoaaGreatDoor

/- Plain facts of profiles: the first fault, the bung, the pieces. -/
namespace Go.Proofs.YtpnlfeljmpfeoaaGreatDoor

def lenB (n : Int) : Bool := decide (0 ≤ n) && decide (n ≤ 100000)
theorem lenB_iff (n : Int) : lenB n = true ↔ 0 ≤ n ∧ n ≤ 100000 := by simp [lenB]
def ptOut (q : Int × Int) : Bool := !(lenB q.1 && lenB q.2)
def ptCl (q : Int × Int) : Bool := q.2 == 0
/-- the X of the first k + 1 points increase -/
def adv (l : List (Int × Int)) : Nat → Bool
  | 0 => true
  | k + 1 => adv l k && decide (gX l k < gX l (k + 1))
/-- one of the first k pieces falls -/
def fal (l : List (Int × Int)) : Nat → Bool
  | 0 => false
  | k + 1 => fal l k || decide (gR l (k + 1) < gR l k)
/-- one of the first k pieces rises behind one that falls -/
def swl (l : List (Int × Int)) : Nat → Bool
  | 0 => false
  | k + 1 => swl l k || (fal l k && decide (gR l k < gR l (k + 1)))
/-- the first fault -/
def ckE (l : List (Int × Int)) : Int :=
  if l.length < 2 then 9 else if 32 < l.length then 8 else if l.any ptOut then 2 else if (adv l (l.length - 1) && (gX l 0 == 0)) = false then 5 else if l.any ptCl then 16 else if swl l (l.length - 1) then 10 else 0
/-- a right profile -/
structure RP (l : List (Int × Int)) : Prop where
  n0 : 2 ≤ l.length
  n1 : l.length ≤ 32
  bx : ∀ i, i < l.length → 0 ≤ gX l i ∧ gX l i ≤ 100000
  br : ∀ i, i < l.length → 1 ≤ gR l i ∧ gR l i ≤ 100000
  x0 : gX l 0 = 0
  asc : ∀ i, i + 1 < l.length → gX l i < gX l (i + 1)
  ns : ∀ i j, i ≤ j → j + 1 < l.length → gR l (i + 1) < gR l i → gR l (j + 1) ≤ gR l j

theorem any_of {p : Int × Int → Bool} {l : List (Int × Int)} {i : Nat} (h : i < l.length) (hp : p (l.getD i (0, 0)) = true) : l.any p = true := by
  rw [List.any_eq_true]
  rw [List.getD_eq_getElem?_getD, List.getElem?_eq_getElem h, Option.getD_some] at hp
  exact ⟨_, List.getElem_mem h, hp⟩
theorem any_not {p : Int × Int → Bool} {l : List (Int × Int)} (h : ∀ i, i < l.length → p (l.getD i (0, 0)) = false) : l.any p = false := by
  rw [List.any_eq_false]
  intro x hx
  obtain ⟨i, hi, rfl⟩ := List.getElem_of_mem hx
  have := h i hi
  rw [List.getD_eq_getElem?_getD, List.getElem?_eq_getElem hi, Option.getD_some] at this
  rw [this]; simp
theorem not_any {p : Int × Int → Bool} {l : List (Int × Int)} (h : l.any p = false) {i : Nat} (hi : i < l.length) : p (l.getD i (0, 0)) = false := by
  cases hq : p (l.getD i (0, 0)) with
  | false => rfl
  | true => rw [any_of hi hq] at h; cases h
theorem adv_iff (l : List (Int × Int)) (k : Nat) : adv l k = true ↔ ∀ i, i < k → gX l i < gX l (i + 1) := by
  induction k with
  | zero => simp [adv]
  | succ k ih =>
    rw [adv, Bool.and_eq_true, ih, decide_eq_true_eq]
    constructor
    · rintro ⟨h1, h2⟩ i hi
      by_cases e : i = k
      · rw [e]; exact h2
      · exact h1 i (by omega)
    · intro h
      exact ⟨fun i hi => h i (by omega), h k (by omega)⟩
theorem fal_iff (l : List (Int × Int)) (k : Nat) : fal l k = true ↔ ∃ i, i < k ∧ gR l (i + 1) < gR l i := by
  induction k with
  | zero => simp [fal]
  | succ k ih =>
    rw [fal, Bool.or_eq_true, ih, decide_eq_true_eq]
    constructor
    · rintro (⟨i, h1, h2⟩ | h)
      · exact ⟨i, by omega, h2⟩
      · exact ⟨k, by omega, h⟩
    · rintro ⟨i, h1, h2⟩
      by_cases e : i = k
      · right; rw [← e]; exact h2
      · left; exact ⟨i, by omega, h2⟩
theorem swl_iff (l : List (Int × Int)) (k : Nat) : swl l k = true ↔ ∃ i j, i < j ∧ j < k ∧ gR l (i + 1) < gR l i ∧ gR l j < gR l (j + 1) := by
  induction k with
  | zero => simp [swl]
  | succ k ih =>
    rw [swl, Bool.or_eq_true, ih, Bool.and_eq_true, fal_iff, decide_eq_true_eq]
    constructor
    · rintro (⟨i, j, h1, h2, h3⟩ | ⟨⟨i, h1, h2⟩, h3⟩)
      · exact ⟨i, j, h1, by omega, h3⟩
      · exact ⟨i, k, h1, by omega, h2, h3⟩
    · rintro ⟨i, j, h1, h2, h3, h4⟩
      by_cases e : j = k
      · right; rw [e] at h1 h4; exact ⟨⟨i, h1, h3⟩, h4⟩
      · left; exact ⟨i, j, h1, by omega, h3, h4⟩
theorem ckE_iff (l : List (Int × Int)) : ckE l = 0 ↔ RP l := by
  unfold ckE
  constructor
  · intro h
    split at h
    · omega
    · split at h
      · omega
      · split at h
        · omega
        · split at h
          · omega
          · split at h
            · omega
            · split at h
              · omega
              · rename_i g1 g2 g3 g4 g5 g6
                have g3' : l.any ptOut = false := by simpa using g3
                have g5' : l.any ptCl = false := by simpa using g5
                have g4' : adv l (l.length - 1) = true ∧ (gX l 0 == 0) = true := by simpa using g4
                have o : ∀ i, i < l.length → (0 ≤ gX l i ∧ gX l i ≤ 100000) ∧ 0 ≤ gR l i ∧ gR l i ≤ 100000 := fun i hi => by
                  have := not_any g3' hi
                  simp only [ptOut, Bool.not_eq_false', Bool.and_eq_true, lenB_iff] at this
                  exact this
                refine ⟨by omega, by omega, fun i hi => (o i hi).1, fun i hi => ?_, by simpa using g4'.2, fun i hi => (adv_iff _ _).1 g4'.1 i (by omega), fun i j h1 h2 h3 => ?_⟩
                · have := not_any g5' hi
                  have e : gR l i ≠ 0 := by
                    have t : (gR l i == 0) = false := this
                    simpa using t
                  have := (o i hi).2
                  omega
                · by_cases e : gR l j < gR l (j + 1)
                  · by_cases hij : i = j
                    · subst hij; omega
                    · exact absurd ((swl_iff _ _).2 ⟨i, j, by omega, by omega, h3, e⟩) g6
                  · omega
  · intro h
    have g3 : l.any ptOut = false := any_not fun i hi => by
      have a := (lenB_iff _).2 (h.bx i hi)
      have b := h.br i hi
      have b2 := (lenB_iff (gR l i)).2 (by omega)
      show (!(lenB (gX l i) && lenB (gR l i))) = false
      rw [a, b2]; rfl
    have g5 : l.any ptCl = false := any_not fun i hi => by
      have b := h.br i hi
      show (gR l i == 0) = false
      rw [beq_eq_false_iff_ne]; omega
    have g6 : ¬ swl l (l.length - 1) = true := fun hs => by
      obtain ⟨i, j, h1, h2, h3, h4⟩ := (swl_iff _ _).1 hs
      have := h.ns i j (by omega) (by omega) h3
      omega
    have g4 : (adv l (l.length - 1) && (gX l 0 == 0)) = true := by
      rw [Bool.and_eq_true]
      exact ⟨(adv_iff _ _).2 fun i hi => h.asc i (by omega), by rw [h.x0]; rfl⟩
    rw [if_neg (by have := h.n0; omega), if_neg (by have := h.n1; omega), if_neg (by rw [g3]; simp), if_neg (by rw [g4]; simp), if_neg (by rw [g5]; simp), if_neg g6]

/-! ### the bung -/
def bg (l : List (Int × Int)) : Nat → Nat
  | 0 => 0
  | k + 1 => if gR l (bg l k) < gR l k then k else bg l k
theorem bg_lt (l : List (Int × Int)) (k : Nat) : bg l k = 0 ∨ bg l k < k := by
  induction k with
  | zero => exact .inl rfl
  | succ k ih =>
    unfold bg
    split
    · right; omega
    · omega
theorem bg_max (l : List (Int × Int)) (k : Nat) : ∀ i, i < k → gR l i ≤ gR l (bg l k) := by
  induction k with
  | zero => intro i hi; omega
  | succ k ih =>
    intro i hi
    unfold bg
    by_cases h : gR l (bg l k) < gR l k
    · rw [if_pos h]
      by_cases e : i = k
      · rw [e]; exact Int.le_refl _
      · have := ih i (by omega); omega
    · rw [if_neg h]
      by_cases e : i = k
      · rw [e]; omega
      · exact ih i (by omega)
/-- what Length and Bung return -/
def lgQ (l : List (Int × Int)) : Int := if ckE l = 0 then gX l (l.length - 1) else 0
def buQ (l : List (Int × Int)) : Int := if ckE l = 0 then (bg l l.length : Int) else 0

/-! ### the piece that reaches to x -/
structure IsPc (l : List (Int × Int)) (x : Int) (i : Nat) : Prop where
  h1 : 1 ≤ i
  h2 : i < l.length
  h3 : x ≤ gX l i
  h4 : ∀ j, 1 ≤ j → j < i → gX l j < x
theorem IsPc.one {l : List (Int × Int)} {x : Int} {i j : Nat} (a : IsPc l x i) (b : IsPc l x j) : i = j := by
  rcases Nat.lt_trichotomy i j with h | h | h
  · have := b.h4 i a.h1 h; have := a.h3; omega
  · exact h
  · have := a.h4 j b.h1 h; have := b.h3; omega
theorem pc_ex {l : List (Int × Int)} {x : Int} (n0 : 2 ≤ l.length) (h : x ≤ gX l (l.length - 1)) : ∃ i, IsPc l x i := by
  suffices ∀ k, 1 ≤ k → k < l.length → x ≤ gX l k → ∃ i, IsPc l x i from this (l.length - 1) (by omega) (by omega) h
  intro k
  induction k with
  | zero => intro h; omega
  | succ k ih =>
    intro _ h2 h3
    by_cases hk : 1 ≤ k ∧ x ≤ gX l k
    · exact ih hk.1 (by omega) hk.2
    · by_cases he : ∃ j, 1 ≤ j ∧ j < k + 1 ∧ x ≤ gX l j
      · obtain ⟨j, j1, j2, j3⟩ := he
        have : ∀ m, ∀ j, j ≤ m → 1 ≤ j → j < l.length → x ≤ gX l j → ∃ i, IsPc l x i := by
          intro m
          induction m with
          | zero => intro j h1 h2; omega
          | succ m im =>
            intro j h1 h2 h3 h4
            by_cases hc : ∃ i, 1 ≤ i ∧ i < j ∧ x ≤ gX l i
            · obtain ⟨i, i1, i2, i3⟩ := hc
              exact im i (by omega) i1 (by omega) i3
            · exact ⟨j, h2, h3, h4, fun i i1 i2 => by
                by_cases hi : x ≤ gX l i
                · exact absurd ⟨i, i1, i2, hi⟩ hc
                · omega⟩
        exact this j j (Nat.le_refl _) j1 (by omega) j3
      · exact ⟨k + 1, by omega, h2, h3, fun j j1 j2 => by
          by_cases hj : x ≤ gX l j
          · exact absurd ⟨j, j1, j2, hj⟩ he
          · omega⟩
open Classical in
noncomputable def pc (l : List (Int × Int)) (x : Int) : Nat := if h : ∃ i, IsPc l x i then h.choose else 0
theorem pc_is {l : List (Int × Int)} {x : Int} (n0 : 2 ≤ l.length) (h : x ≤ gX l (l.length - 1)) : IsPc l x (pc l x) := by
  have he := pc_ex n0 h
  unfold pc
  rw [dif_pos he]
  exact he.choose_spec
theorem pc_of {l : List (Int × Int)} {x : Int} {i : Nat} (h : IsPc l x i) : pc l x = i := by
  have he : ∃ i, IsPc l x i := ⟨i, h⟩
  unfold pc
  rw [dif_pos he]
  exact he.choose_spec.one h
/-- the radius between two points, rounded down and up -/
def lnL (a p b q x : Int) : Int := lnN a p b q x / (b - a)
def lnH (a p b q x : Int) : Int := cdv (lnN a p b q x) (b - a)
noncomputable def rdL (l : List (Int × Int)) (x : Int) : Int := lnL (gX l (pc l x - 1)) (gR l (pc l x - 1)) (gX l (pc l x)) (gR l (pc l x)) x
noncomputable def rdH (l : List (Int × Int)) (x : Int) : Int := lnH (gX l (pc l x - 1)) (gR l (pc l x - 1)) (gX l (pc l x)) (gR l (pc l x)) x
/-- what place and At return -/
def plE (l : List (Int × Int)) (x : Int) : Int := if ckE l = 0 then (if x < 0 ∨ gX l (l.length - 1) < x then 2 else 0) else 1
noncomputable def atL (l : List (Int × Int)) (x : Int) : Int := if plE l x = 0 then rdL l x else 0
noncomputable def atH (l : List (Int × Int)) (x : Int) : Int := if plE l x = 0 then rdH l x else 0
end Go.Proofs.YtpnlfeljmpfeoaaGreatDoor

/- The reference of layer 8: Few. -/
namespace Go.Proofs.YtpnlfeljmpfeoaaGreatDoor
open Go.RowKit

theorem few_any (v : Value) (l : List (Int × Int)) (w : World) (hv : Pts w v l) :
    Calls Tryz.prog 32 #[v] w fun e w' => e = .returned (.bool (decide (l.length ≤ 33))) ∧ w' = w := by
  obtain ⟨a, cap, rfl, h1, h2⟩ := hv.shape
  go_enter Tryz.func32, Tryz.ntmps32
  go_wp2
  go_ret
  exact ⟨ret_bool (decide_eq_decide.2 (by omega)), rfl⟩
theorem refLen_any (n : Int) (w : World) : Calls Tryz.prog 66 #[.int .i64 n] w fun e w' => e = .returned (.bool (lenB n)) ∧ w = w' := by
  by_cases h0 : 0 ≤ n <;> by_cases h1 : n ≤ 100000
  all_goals
    go_enter Tryz.func66, Tryz.ntmps66
    go_wp2
    go_ret
    exact ⟨by simp [lenB, h0, h1], rfl⟩

theorem sam_eq {l m : List (Int × Int)} (hl : l.length = m.length) (h : ∀ j, j < l.length → samP (gX l j) (gR l j) (gX m j) (gR m j) = true) : l = m := by
  apply List.ext_getElem hl
  intro i h1 h2
  have := h i h1
  simp only [samP, Bool.and_eq_true, beq_iff_eq, gX, gR, List.getD_eq_getElem?_getD, List.getElem?_eq_getElem h1, List.getElem?_eq_getElem h2, Option.getD_some] at this
  exact Prod.ext this.1 this.2
end Go.Proofs.YtpnlfeljmpfeoaaGreatDoor

/- The reference of layer 8: Check. -/
namespace Go.Proofs.YtpnlfeljmpfeoaaGreatDoor
open Go.RowKit

theorem refCk_few (a : Option Addr) (n cap : Nat) (w : World) (h : n < 2) :
    Calls Tryz.prog 44 #[.slice a n cap] w fun e w' => e = .returned (.int .i64 9) ∧ Below w.heap.size w w' := by
  go_enter Tryz.func44, Tryz.ntmps44
  go_wp2
  go_returns
  exact ⟨rfl, Below.refl _ _⟩
theorem refCk_many (a : Option Addr) (n cap : Nat) (w : World) (h : 32 < n) (h2 : n ≤ 9223372036854775807) :
    Calls Tryz.prog 44 #[.slice a n cap] w fun e w' => e = .returned (.int .i64 8) ∧ Below w.heap.size w w' := by
  go_enter Tryz.func44, Tryz.ntmps44
  go_wp2
  go_returns
  exact ⟨rfl, Below.refl _ _⟩
set_option maxRecDepth 100000 in
set_option maxHeartbeats 16000000 in
theorem refCk_some (b off n cap : Nat) (l : List (Int × Int)) (E : Int) (w : World) (n0 : 2 ≤ n) (n1 : n ≤ 32) (hb : b < w.heap.size)
    (hc : Hid (∀ j, j < n → w.cell? ⟨b, off + j * 2, none⟩ = some (.int .i64 (gX l j)) ∧ w.cell? ⟨b, off + j * 2 + 1, none⟩ = some (.int .i64 (gR l j))))
    (h1 : Hid ((∃ j, j < n ∧ (lenB (gX l j) && lenB (gR l j)) = false) → E = 2))
    (h2 : Hid ((∀ j, j < n → (lenB (gX l j) && lenB (gR l j)) = true) → (gX l 0 ≠ 0 ∨ ∃ j, j + 1 < n ∧ gX l (j + 1) ≤ gX l j) → E = 5))
    (h3 : Hid ((∀ j, j < n → (lenB (gX l j) && lenB (gR l j)) = true) → gX l 0 = 0 → (∀ j, j + 1 < n → gX l j < gX l (j + 1)) → (∃ j, j < n ∧ gR l j = 0) → E = 16))
    (h4 : Hid ((∀ j, j < n → (lenB (gX l j) && lenB (gR l j)) = true) → gX l 0 = 0 → (∀ j, j + 1 < n → gX l j < gX l (j + 1)) → (∀ j, j < n → gR l j ≠ 0) → E = (if swl l (n - 1) = true then 10 else 0))) :
    Calls Tryz.prog 44 #[.slice (some ⟨b, off, none⟩) n cap] w fun e w' => e = .returned (.int .i64 E) ∧ Below w.heap.size w w' := by
  go_enter Tryz.func44, Tryz.ntmps44
  go_wp2_with fail
  go_loopw [3] (fun ii wr => ∃ (k : Nat), k ≤ n ∧ ii = .int .i64 k ∧ Hid (Below w.heap.size w wr) ∧ Hid (∀ j, j < k → (lenB (gX l j) && lenB (gR l j)) = true)) (fun ii _ => n - (intOf ii).toNat)
  case atStart => exact ⟨0, by omega, rfl, Below.refl _ _, fun j hj => by omega⟩
  case round =>
    obtain ⟨k, hk, rfl, hB, ha⟩ := hrel
    by_cases hlt : k < n
    · have c0 : wr.cell? ⟨b, off + k * 2, none⟩ = some (.int .i64 (gX l k)) := by rw [(bcell hB.out).1 _ _ hb]; exact (hc.out k hlt).1
      have c1 : wr.cell? ⟨b, off + k * 2 + 1, none⟩ = some (.int .i64 (gR l k)) := by rw [(bcell hB.out).1 _ _ hb]; exact (hc.out k hlt).2
      have HF : Hid ((lenB (gX l k) && lenB (gR l k)) = false → E = 2) := fun h => h1.out ⟨k, hlt, h⟩
      have HT : Hid ((lenB (gX l k) && lenB (gR l k)) = true → ∀ j, j < k + 1 → (lenB (gX l j) && lenB (gR l j)) = true) := fun h j hj => by
        by_cases e : j = k
        · rw [e]; exact h
        · exact ha.out j (by omega)
      have L1 := Lib.hid (fun W => refLen_any (gX l k) W)
      have L2 := Lib.hid (fun W => refLen_any (gR l k) W)
      have l1 : (k : Int) < (n : Int) := by omega
      generalize gX l k = x at *
      generalize gR l k = r at *
      cases hx : lenB x with
      | false =>
        obtain rfl := HF.out (by rw [hx]; rfl)
        rw [hx] at L1
        clear HF HT hx
        go_wp2_with fail
        refine (L1.out _).mono ?_
        rintro e w1 ⟨rfl, hw⟩
        subst hw
        go_wp2
        go_returns
        exact ⟨rfl, hB.out⟩
      | true =>
        rw [hx] at L1
        cases hr : lenB r with
        | false =>
          obtain rfl := HF.out (by rw [hx, hr]; rfl)
          rw [hr] at L2
          clear HF HT hx hr
          go_wp2_with fail
          refine (L1.out _).mono ?_
          rintro e w1 ⟨rfl, hw⟩
          subst hw
          go_wp2_with fail
          refine (L2.out _).mono ?_
          rintro e w1 ⟨rfl, hw⟩
          subst hw
          go_wp2
          go_returns
          exact ⟨rfl, hB.out⟩
        | true =>
          have ha2 := Lib.hid (HT.out (by rw [hx, hr]; rfl))
          rw [hr] at L2
          clear HF HT hx hr
          go_wp2_with fail
          refine (L1.out _).mono ?_
          rintro e w1 ⟨rfl, hw⟩
          subst hw
          go_wp2_with fail
          refine (L2.out _).mono ?_
          rintro e w1 ⟨rfl, hw⟩
          subst hw
          go_wp2
          go_roundw
          case rel => exact ⟨k + 1, by omega, by go_num, hB, ha2⟩
          case measure => simp [intOf]; omega
    · obtain rfl : k = n := by omega
      have H2 := Lib.hid (h2.out ha.out)
      have H3 := Lib.hid (h3.out ha.out)
      have H4 := Lib.hid (h4.out ha.out)
      have hB0 := hB
      clear h1 h2 h3 h4 ha
      go_wp2_with fail
      clear hB
      go_loopw [4] (fun ii wz => ∃ (j : Nat), j ≤ k ∧ ii = .int .i64 j ∧ Hid (Below w.heap.size w wz) ∧ Hid (0 < j → gX l 0 = 0) ∧ Hid (∀ i, i + 1 < j → gX l i < gX l (i + 1))) (fun ii _ => k - (intOf ii).toNat)
      case atStart => exact ⟨0, by omega, rfl, hB0, fun h => by omega, fun i hi => by omega⟩
      case round =>
        obtain ⟨j, hj, rfl, hB, hz, ha⟩ := hrel
        by_cases hlt : j < k
        · have l1 : (j : Int) < (k : Int) := by omega
          by_cases hj0 : j = 0
          · subst hj0
            have c0 : wr.cell? ⟨b, off, none⟩ = some (.int .i64 (gX l 0)) := by rw [(bcell hB.out).1 _ _ hb]; simpa using (hc.out 0 (by omega)).1
            have HF : Hid (gX l 0 ≠ 0 → E = 5) := fun h => H2.out (.inl h)
            have HT : Hid (gX l 0 = 0 → gX l 0 = 0) := id
            generalize hx0 : gX l 0 = x at c0 HF
            by_cases hx : x = 0
            · subst hx
              have ex : Hid (gX l 0 = 0) := hx0
              clear HF HT hx0
              go_wp2_with fail
              go_quiet (fail)
              go_wp2
              go_roundw
              case rel => exact ⟨1, by omega, by go_num, bel_trans hB.out (bel_drewN _ _), fun _ => (by first | trivial | exact ex.out), fun i hi => by omega⟩
              case measure => simp [intOf]; omega
            · obtain rfl := HF.out hx
              have q1 : (x != 0) = true := by simpa using hx
              clear HF HT hx0
              go_wp2_with fail
              go_quiet (fail)
              go_wp2
              go_returns
              exact ⟨rfl, bel_trans hB.out (bel_drewN _ _)⟩
          · obtain ⟨m, rfl⟩ : ∃ m, j = m + 1 := ⟨j - 1, by omega⟩
            have c0 : wr.cell? ⟨b, off + m * 2, none⟩ = some (.int .i64 (gX l m)) := by rw [(bcell hB.out).1 _ _ hb]; exact (hc.out m (by omega)).1
            have c1 : wr.cell? ⟨b, off + (m + 1) * 2, none⟩ = some (.int .i64 (gX l (m + 1))) := by rw [(bcell hB.out).1 _ _ hb]; exact (hc.out (m + 1) (by omega)).1
            have HF : Hid (gX l (m + 1) ≤ gX l m → E = 5) := fun h => H2.out (.inr ⟨m, hlt, h⟩)
            have HT : Hid (gX l m < gX l (m + 1) → ∀ i, i + 1 < m + 1 + 1 → gX l i < gX l (i + 1)) := fun h i hi => by
              by_cases e : i = m
              · rw [e]; exact h
              · exact ha.out i (by omega)
            have hz2 : Hid (gX l 0 = 0) := hz.out (by omega)
            have l2 : m < k := by omega
            have l3 : (m : Int) < (k : Int) := by omega
            have l4 : m + 1 < k := by omega
            have l5 : (m : Int) + 1 < (k : Int) := by omega
            have g0 : ((m : Int) + 1 == 0) = false := by rw [beq_eq_false_iff_ne]; omega
            have g1 : decide ((0 : Int) < (m : Int) + 1) = true := decide_eq_true (by omega)
            have wj : IntKind.i64.wrap ((m : Int) + 1 - 1) = (m : Int) := by simp only [IntKind.wrap_i64]; omega
            have wk : IntKind.i64.wrap (m : Int) = (m : Int) := by simp only [IntKind.wrap_i64]; omega
            have l6 : 0 ≤ (m : Int) + 1 := by omega
            have l7 : ((m : Int) + 1).toNat = m + 1 := by omega
            generalize gX l m = x at *
            generalize gX l (m + 1) = y at *
            clear hz hj0
            by_cases hxy : y ≤ x
            · obtain rfl := HF.out hxy
              have hd : decide (y ≤ x) = true := decide_eq_true hxy
              clear HF HT
              go_wp2_with fail
              go_quiet (fail)
              go_wp2
              go_returns
              exact ⟨rfl, bel_trans hB.out (bel_drewN _ _)⟩
            · have ha2 := Lib.hid (HT.out (by omega))
              have hd : decide (y ≤ x) = false := decide_eq_false hxy
              clear HF HT
              go_wp2_with fail
              go_quiet (fail)
              go_wp2
              go_roundw
              case rel => exact ⟨m + 1 + 1, by omega, by go_num, bel_trans hB.out (bel_drewN _ _), fun _ => hz2.out, ha2.out⟩
              case measure => simp [intOf]; omega
        · obtain rfl : j = k := by omega
          have H3' := Lib.hid (H3.out (hz.out (by omega)) (fun i hi => ha.out i hi))
          have H4' := Lib.hid (H4.out (hz.out (by omega)) (fun i hi => ha.out i hi))
          have hB1 := hB
          clear H2 H3 H4 ha hz hB0
          go_wp2_with fail
          clear hB
          go_loopw [5] (fun ii wy => ∃ (i : Nat), i ≤ j ∧ ii = .int .i64 i ∧ Hid (Below w.heap.size w wy) ∧ Hid (∀ m, m < i → gR l m ≠ 0)) (fun ii _ => j - (intOf ii).toNat)
          case atStart => exact ⟨0, by omega, rfl, hB1, fun m hm => by omega⟩
          case round =>
            obtain ⟨i, hi, rfl, hB, ha⟩ := hrel
            by_cases hlt : i < j
            · have c1 : wr.cell? ⟨b, off + i * 2 + 1, none⟩ = some (.int .i64 (gR l i)) := by rw [(bcell hB.out).1 _ _ hb]; exact (hc.out i hlt).2
              have HF : Hid (gR l i = 0 → E = 16) := fun h => H3'.out ⟨i, hlt, h⟩
              have HT : Hid (gR l i ≠ 0 → ∀ m, m < i + 1 → gR l m ≠ 0) := fun h m hm => by
                by_cases e : m = i
                · rw [e]; exact h
                · exact ha.out m (by omega)
              have l1 : (i : Int) < (j : Int) := by omega
              generalize gR l i = r at *
              by_cases hr : r = 0
              · obtain rfl := HF.out hr
                have q1 : (r == 0) = true := by simpa using hr
                clear HF HT
                go_wp2
                go_returns
                exact ⟨rfl, hB.out⟩
              · have ha2 := Lib.hid (HT.out hr)
                have q1 : (r == 0) = false := by simpa using hr
                clear HF HT
                go_wp2
                go_roundw
                case rel => exact ⟨i + 1, by omega, by go_num, hB, ha2⟩
                case measure => simp [intOf]; omega
            · obtain rfl : i = j := by omega
              have H5 := Lib.hid (H4'.out ha.out)
              have hB2 := hB
              clear H3' H4' ha hB1
              go_wp2_with fail
              clear hB
              go_loopw [6, 7] (fun ff ii wx => ∃ (m : Nat), m + 1 ≤ i ∧ ii = .int .i64 ((m : Int) + 1) ∧ ff = .bool (fal l m) ∧ Hid (Below w.heap.size w wx) ∧ Hid (swl l m = false)) (fun _ ii _ => i - (intOf ii).toNat)
              case atStart => exact ⟨0, by omega, rfl, rfl, hB2, rfl⟩
              case round =>
                obtain ⟨m, hm, rfl, rfl, hB, hs⟩ := hrel
                by_cases hlt : m + 1 < i
                · have c0 : wr.cell? ⟨b, off + m * 2 + 1, none⟩ = some (.int .i64 (gR l m)) := by rw [(bcell hB.out).1 _ _ hb]; exact (hc.out m (by omega)).2
                  have c1 : wr.cell? ⟨b, off + (m + 1) * 2 + 1, none⟩ = some (.int .i64 (gR l (m + 1))) := by rw [(bcell hB.out).1 _ _ hb]; exact (hc.out (m + 1) (by omega)).2
                  have EF : Hid (fal l (m + 1) = (fal l m || decide (gR l (m + 1) < gR l m))) := rfl
                  have ES : Hid (swl l (m + 1) = (swl l m || (fal l m && decide (gR l m < gR l (m + 1))))) := rfl
                  have HF : Hid (swl l (m + 1) = true → E = 10) := fun h => by
                    have : swl l (i - 1) = true := by
                      obtain ⟨p, q, a1, a2, a3⟩ := (swl_iff _ _).1 h
                      exact (swl_iff _ _).2 ⟨p, q, a1, by omega, a3⟩
                    rw [H5.out, if_pos this]
                  rw [hs.out] at ES
                  have l2 : m < i := by omega
                  have l3 : (m : Int) < (i : Int) := by omega
                  have l5 : (m : Int) + 1 < (i : Int) := by omega
                  have wj : IntKind.i64.wrap ((m : Int) + 1 - 1) = (m : Int) := by simp only [IntKind.wrap_i64]; omega
                  have wk : IntKind.i64.wrap (m : Int) = (m : Int) := by simp only [IntKind.wrap_i64]; omega
                  have l6 : 0 ≤ (m : Int) + 1 := by omega
                  have l7 : ((m : Int) + 1).toNat = m + 1 := by omega
                  generalize fal l m = s at *
                  generalize gR l m = p at *
                  generalize gR l (m + 1) = q at *
                  clear hs
                  by_cases g1 : p < q
                  · have g2 : ¬ q < p := by omega
                    have d1 : decide (p < q) = true := decide_eq_true g1
                    have d2 : decide (q < p) = false := decide_eq_false g2
                    rw [d1] at ES
                    rw [d2] at EF
                    cases s with
                    | true =>
                      obtain rfl := HF.out (by rw [ES.out]; rfl)
                      clear EF ES HF H5
                      go_wp2_with fail
                      go_quiet (fail)
                      go_wp2
                      go_returns
                      exact ⟨rfl, bel_trans hB.out (bel_drewN _ _)⟩
                    | false =>
                      clear HF
                      go_wp2_with fail
                      go_quiet (fail)
                      go_wp2_with fail
                      go_quiet (fail)
                      go_wp2
                      go_roundw
                      case rel => exact ⟨m + 1, by omega, by go_num, by rw [EF.out]; rfl, bel_trans hB.out (bel_drewN _ _), by show _ = _; rw [ES.out]; rfl⟩
                      case measure => simp [intOf]; omega
                  · have d1 : decide (p < q) = false := decide_eq_false g1
                    rw [d1] at ES
                    cases s with
                    | true =>
                      clear HF
                      go_wp2_with fail
                      go_quiet (fail)
                      go_wp2_with fail
                      go_quiet (fail)
                      go_wp2
                      go_roundw
                      case rel => exact ⟨m + 1, by omega, by go_num, by rw [EF.out]; rfl, bel_trans hB.out (bel_drewN _ _), by show _ = _; rw [ES.out]; rfl⟩
                      case measure => simp [intOf]; omega
                    | false =>
                      clear HF
                      by_cases g2 : q < p
                      · have d2 : decide (q < p) = true := decide_eq_true g2
                        rw [d2] at EF
                        go_wp2_with fail
                        go_quiet (fail)
                        go_wp2_with fail
                        go_quiet (fail)
                        go_wp2
                        go_roundw
                        case rel => exact ⟨m + 1, by omega, by go_num, by rw [EF.out]; rfl, bel_trans hB.out (bel_drewN _ _), by show _ = _; rw [ES.out]; rfl⟩
                        case measure => simp [intOf]; omega
                      · have d2 : decide (q < p) = false := decide_eq_false g2
                        rw [d2] at EF
                        go_wp2_with fail
                        go_quiet (fail)
                        go_wp2_with fail
                        go_quiet (fail)
                        go_wp2
                        go_roundw
                        case rel => exact ⟨m + 1, by omega, by go_num, by rw [EF.out]; rfl, bel_trans hB.out (bel_drewN _ _), by show _ = _; rw [ES.out]; rfl⟩
                        case measure => simp [intOf]; omega
                · obtain rfl : i = m + 1 := by omega
                  have e : E = 0 := by rw [H5.out, show m + 1 - 1 = m by omega, if_neg (by rw [hs.out]; simp)]
                  subst e
                  go_wp2
                  go_returns
                  exact ⟨rfl, hB.out⟩
theorem refCk_any (v : Value) (l : List (Int × Int)) (w : World) (hv : Pts w v l) :
    Calls Tryz.prog 44 #[v] w fun e w' => e = .returned (.int .i64 (ckE l)) ∧ Below w.heap.size w w' := by
  obtain ⟨a, cap, rfl, hl, hh⟩ := hv
  by_cases h0 : l.length < 2
  · rw [show ckE l = 9 by unfold ckE; rw [if_pos h0]]
    exact refCk_few a l.length cap w h0
  · by_cases h1 : 32 < l.length
    · rw [show ckE l = 8 by unfold ckE; rw [if_neg h0, if_pos h1]]
      exact refCk_many a l.length cap w h1 (by omega)
    · rcases hh with hh | ⟨b, off, rfl, hb, hc⟩
      · omega
      · have e : ckE l = (if l.any ptOut = true then 2 else if (adv l (l.length - 1) && (gX l 0 == 0)) = false then 5 else if l.any ptCl = true then 16 else if swl l (l.length - 1) = true then 10 else 0) := by unfold ckE; rw [if_neg h0, if_neg h1]
        have o1 : (∀ j, j < l.length → (lenB (gX l j) && lenB (gR l j)) = true) → ¬ l.any ptOut = true := fun h => by
          rw [any_not fun i hi => ?_]
          · simp
          · show (!(lenB (gX l i) && lenB (gR l i))) = false
            rw [h i hi]; rfl
        have o2 : gX l 0 = 0 → (∀ j, j + 1 < l.length → gX l j < gX l (j + 1)) → ¬ (adv l (l.length - 1) && (gX l 0 == 0)) = false := fun h1 h2 => by
          rw [(adv_iff l _).2 fun i hi => h2 i (by omega), h1]; simp
        refine refCk_some b off l.length cap l _ w (by omega) (by omega) hb hc (fun ⟨j, hj, h⟩ => ?_) (fun h g => ?_) (fun h g1 g2 ⟨j, hj, h3⟩ => ?_) (fun h g1 g2 g3 => ?_)
        · rw [e, if_pos]
          refine any_of hj ?_
          show (!(lenB (gX l j) && lenB (gR l j))) = true
          rw [h]; rfl
        · rw [e, if_neg (o1 h), if_pos]
          rcases g with g | ⟨j, hj, g⟩
          · rw [show (gX l 0 == 0) = false by simpa using g, Bool.and_false]
          · have : adv l (l.length - 1) = false := by
              rw [Bool.eq_false_iff]
              intro ha
              have := (adv_iff l _).1 ha j (by omega)
              omega
            rw [this, Bool.false_and]
        · rw [e, if_neg (o1 h), if_neg (o2 g1 g2), if_pos]
          refine any_of hj ?_
          show (gR l j == 0) = true
          rw [h3]; rfl
        · rw [e, if_neg (o1 h), if_neg (o2 g1 g2), if_neg]
          rw [any_not fun i hi => ?_]
          · simp
          · show (gR l i == 0) = false
            simpa using g3 i hi
end Go.Proofs.YtpnlfeljmpfeoaaGreatDoor

/- Plain facts on decimal digits. No program stands in this text. -/
namespace Go.Proofs.YtpnlfeljmpfeoaaGreatDoor

/-- a decimal digit -/
def isDg (c : UInt8) : Bool := decide (48 ≤ c.toNat) && decide (c.toNat ≤ 57)
theorem isDg_iff (c : UInt8) : isDg c = true ↔ 48 ≤ c.toNat ∧ c.toNat ≤ 57 := by simp [isDg]
theorem isDg_not (c : UInt8) : isDg c = false ↔ c.toNat < 48 ∨ 57 < c.toNat := by rw [Bool.eq_false_iff, ne_eq, isDg_iff]; omega
def dgs (l : List UInt8) : Bool := l.all isDg
/-- the number with some digits -/
def val (l : List UInt8) : Int := l.foldl (fun a c => 10 * a + ((c.toNat : Int) - 48)) 0
theorem val_snoc (l : List UInt8) (c : UInt8) : val (l ++ [c]) = 10 * val l + ((c.toNat : Int) - 48) := by simp [val]
theorem dgs_snoc (l : List UInt8) (c : UInt8) : dgs (l ++ [c]) = (dgs l && isDg c) := by simp [dgs]
theorem val_bd (l : List UInt8) (h : dgs l = true) : 0 ≤ val l ∧ val l < 10 ^ l.length := by
  have key : ∀ (n : Nat) (l : List UInt8), l.length = n → dgs l = true → 0 ≤ val l ∧ val l < 10 ^ l.length := by
    intro n
    induction n with
    | zero => intro l hl _; rw [List.length_eq_zero_iff.1 hl]; simp [val]
    | succ n ih =>
      intro l hl h
      have hne : l ≠ [] := fun e => by subst e; simp at hl
      have e := List.dropLast_concat_getLast hne
      rw [← e] at h ⊢
      rw [dgs_snoc, Bool.and_eq_true, isDg_iff] at h
      obtain ⟨a, b⟩ := ih l.dropLast (by simp; omega) h.1
      rw [val_snoc, List.length_append, List.length_singleton, Int.pow_succ]
      omega
  exact key _ l rfl h
theorem val_small (l : List UInt8) (h : dgs l = true) (hl : l.length ≤ 15) : 0 ≤ val l ∧ val l ≤ 999999999999999 := by
  obtain ⟨a, b⟩ := val_bd l h
  have : (10 : Int) ^ l.length ≤ 10 ^ 15 := by
    have := Nat.pow_le_pow_right (show 0 < 10 by omega) hl
    exact_mod_cast this
  omega

theorem take_snoc (s : ByteArray) (k : Nat) (h : k < s.size) : s.data.toList.take (k + 1) = s.data.toList.take k ++ [s[k]] := by
  rw [List.take_succ_eq_append_getElem (by simpa using h)]; rfl
theorem dgs_take (s : ByteArray) (k : Nat) (h : k < s.size) (hd : isDg s[k] = false) : dgs s.data.toList = false := by
  rw [Bool.eq_false_iff]; intro hall
  unfold dgs at hall
  rw [List.all_eq_true] at hall
  have hm : s[k] ∈ s.data.toList := by
    show s.data[k] ∈ s.data.toList
    exact List.getElem_mem (l := s.data.toList) (by simpa using h)
  rw [hall _ hm] at hd; cases hd
theorem take_all (s : ByteArray) (k : Nat) (h : s.size ≤ k) : s.data.toList.take k = s.data.toList := List.take_of_length_le (by simpa using h)

/-- the last decimal digit of a number -/
def dg (n : Int) : UInt8 := UInt8.ofNat (48 + (n % 10).toNat)
theorem dg_nat (n : Int) : (dg n).toNat = 48 + (n % 10).toNat := by
  have : (n % 10).toNat < 10 := by omega
  unfold dg
  rw [UInt8.toNat_ofNat']
  omega
theorem dg_is (n : Int) : isDg (dg n) = true := by
  rw [isDg_iff, dg_nat]; omega
theorem dg_val (n : Int) : ((dg n).toNat : Int) - 48 = n % 10 := by rw [dg_nat]; omega
def two (n : Int) : List UInt8 := [dg (n / 10), dg n]
def four (n : Int) : List UInt8 := [dg (n / 1000), dg (n / 100), dg (n / 10), dg n]
theorem dgs_two (n : Int) : dgs (two n) = true := by simp [dgs, two, dg_is]
theorem dgs_four (n : Int) : dgs (four n) = true := by simp [dgs, four, dg_is]
theorem val_two (n : Int) (h0 : 0 ≤ n) (h1 : n ≤ 99) : val (two n) = n := by
  simp only [val, two, List.foldl_cons, List.foldl_nil, dg_val]; omega
theorem val_four (n : Int) (h0 : 0 ≤ n) (h1 : n ≤ 9999) : val (four n) = n := by
  simp only [val, four, List.foldl_cons, List.foldl_nil, dg_val]; omega
theorem dec_four (n : Int) (h0 : 1000 ≤ n) (h1 : n ≤ 9999) : Lib.decDigits n.toNat = four n := by
  have d1 : Lib.decDigits n.toNat = Lib.decDigits (n.toNat / 10) ++ [UInt8.ofNat (48 + n.toNat % 10)] := by rw [Lib.decDigits, dif_neg (by omega)]
  have d2 : Lib.decDigits (n.toNat / 10) = Lib.decDigits (n.toNat / 10 / 10) ++ [UInt8.ofNat (48 + n.toNat / 10 % 10)] := by rw [Lib.decDigits, dif_neg (by omega)]
  rw [d1, d2, Lib.decDigits_two (by omega) (by omega)]
  simp only [four, dg, List.cons_append, List.nil_append]
  rw [show n.toNat / 10 / 10 / 10 = (n / 1000 % 10).toNat by omega, show n.toNat / 10 / 10 % 10 = (n / 100 % 10).toNat by omega, show n.toNat / 10 % 10 = (n / 10 % 10).toNat by omega, show n.toNat % 10 = (n % 10).toNat by omega]
theorem dec_one (n : Int) (h0 : 0 ≤ n) (h1 : n ≤ 9) : 48 :: Lib.decDigits n.toNat = two n := by
  rw [Lib.decDigits_one (by omega)]
  simp only [two, dg]
  rw [show n / 10 % 10 = 0 by omega, show n.toNat = (n % 10).toNat by omega]; rfl
theorem dec_two (n : Int) (h0 : 10 ≤ n) (h1 : n ≤ 99) : Lib.decDigits n.toNat = two n := by
  rw [Lib.decDigits_two (by omega) (by omega)]
  simp only [two, dg]
  rw [show n.toNat / 10 = (n / 10 % 10).toNat by omega, show n.toNat % 10 = (n % 10).toNat by omega]
end Go.Proofs.YtpnlfeljmpfeoaaGreatDoor

/- A block with four cells. -/
namespace Go.Proofs.YtpnlfeljmpfeoaaGreatDoor
open Go.RowKit

def Quad (b : Nat) (W : World) (x y z u : Value) : Prop := W.cell? ⟨b, 0, none⟩ = some x ∧ W.cell? ⟨b, 1, none⟩ = some y ∧ W.cell? ⟨b, 2, none⟩ = some z ∧ W.cell? ⟨b, 3, none⟩ = some u ∧ (∀ k, k < 4 → W.frozen? ⟨b, k, none⟩ = false) ∧ b < W.heap.size
theorem Quad.below {b : Nat} {W W' : World} {x y z u : Value} (h : Quad b W x y z u) (hb : Below W.heap.size W W') : Quad b W' x y z u := by
  obtain ⟨h0, h1, h2, h3, h4, h5⟩ := h
  exact ⟨by rw [(bcell hb).1 _ _ h5]; exact h0, by rw [(bcell hb).1 _ _ h5]; exact h1, by rw [(bcell hb).1 _ _ h5]; exact h2, by rw [(bcell hb).1 _ _ h5]; exact h3, fun k hk => by rw [(bcell hb).2 _ _ h5]; exact h4 k hk, Nat.lt_of_lt_of_le h5 hb.size⟩
theorem Quad.alloc {b : Nat} {W : World} {x y z u : Value} (h : Quad b W x y z u) (o : Obj) : Quad b (W.alloc o) x y z u := h.below (bel_alloc (Below.refl _ _))
theorem Quad.new (W : World) (x y z u : Value) (T : TypeId) : Quad W.heap.size (W.alloc (.cells #[x, y, z, u] T)) x y z u :=
  ⟨by simp [go_sem], by simp [go_sem], by simp [go_sem], by simp [go_sem], fun k _ => by simp [go_sem], by simp⟩
theorem quad_read (w : World) (b : Nat) (x y z u : Value) {a0 a1 a2 a3 : Value} (h0 : w.cell? ⟨b, 0, none⟩ = some a0) (h1 : w.cell? ⟨b, 1, none⟩ = some a1) (h2 : w.cell? ⟨b, 2, none⟩ = some a2) (h3 : w.cell? ⟨b, 3, none⟩ = some a3) :
    ((((w.setCell ⟨b, 0, none⟩ x).setCell ⟨b, 1, none⟩ y).setCell ⟨b, 2, none⟩ z).setCell ⟨b, 3, none⟩ u).cell? ⟨b, 0, none⟩ = some x ∧ ((((w.setCell ⟨b, 0, none⟩ x).setCell ⟨b, 1, none⟩ y).setCell ⟨b, 2, none⟩ z).setCell ⟨b, 3, none⟩ u).cell? ⟨b, 1, none⟩ = some y ∧ ((((w.setCell ⟨b, 0, none⟩ x).setCell ⟨b, 1, none⟩ y).setCell ⟨b, 2, none⟩ z).setCell ⟨b, 3, none⟩ u).cell? ⟨b, 2, none⟩ = some z ∧ ((((w.setCell ⟨b, 0, none⟩ x).setCell ⟨b, 1, none⟩ y).setCell ⟨b, 2, none⟩ z).setCell ⟨b, 3, none⟩ u).cell? ⟨b, 3, none⟩ = some u := by
  have o : ∀ (W : World) (i j : Nat) (v : Value), i ≠ j → (W.setCell ⟨b, j, none⟩ v).cell? ⟨b, i, none⟩ = W.cell? ⟨b, i, none⟩ := fun W i j v h => World.cell?_setCell_other _ _ _ _ (by simp)
  refine ⟨?_, ?_, ?_, ?_⟩
  · rw [o _ 0 3 _ (by decide), o _ 0 2 _ (by decide), o _ 0 1 _ (by decide)]; exact World.cell?_setCell_same _ _ _ h0
  · rw [o _ 1 3 _ (by decide), o _ 1 2 _ (by decide)]; exact World.cell?_setCell_same (u := a1) _ _ _ (by rw [o _ 1 0 _ (by decide)]; exact h1)
  · rw [o _ 2 3 _ (by decide)]; exact World.cell?_setCell_same (u := a2) _ _ _ (by rw [o _ 2 1 _ (by decide), o _ 2 0 _ (by decide)]; exact h2)
  · exact World.cell?_setCell_same (u := a3) _ _ _ (by rw [o _ 3 2 _ (by decide), o _ 3 1 _ (by decide), o _ 3 0 _ (by decide)]; exact h3)
end Go.Proofs.YtpnlfeljmpfeoaaGreatDoor

/- Casks: names, values that read as casks, the first fault of a cask. -/
namespace Go.Proofs.YtpnlfeljmpfeoaaGreatDoor
open Go.RowKit

structure Ck where
  nm : ByteArray
  ps : Int
  pf : List (Int × Int)
  dc : Int

/-- a letter of a name -/
def nmC (c : UInt8) : Bool := decide (97 ≤ c.toNat ∧ c.toNat ≤ 122) || decide (65 ≤ c.toNat ∧ c.toNat ≤ 90) || decide (48 ≤ c.toNat ∧ c.toNat ≤ 57) || decide (c.toNat = 45) || decide (c.toNat = 46)
theorem nmC_iff (c : UInt8) : nmC c = true ↔ (97 ≤ c.toNat ∧ c.toNat ≤ 122) ∨ (65 ≤ c.toNat ∧ c.toNat ≤ 90) ∨ (48 ≤ c.toNat ∧ c.toNat ≤ 57) ∨ c.toNat = 45 ∨ c.toNat = 46 := by
  simp [nmC, or_assoc]
/-- a name -/
def isNm (s : ByteArray) : Bool := s.data.toList.all nmC && decide (1 ≤ s.size) && decide (s.size ≤ 64)
theorem all_snoc {p : UInt8 → Bool} (l : List UInt8) (c : UInt8) : (l ++ [c]).all p = (l.all p && p c) := by simp
theorem all_take {p : UInt8 → Bool} (s : ByteArray) (k : Nat) (h : k < s.size) (hd : p s[k] = false) : s.data.toList.all p = false := by
  rw [Bool.eq_false_iff]; intro hall
  rw [List.all_eq_true] at hall
  have hm : s[k] ∈ s.data.toList := by
    show s.data[k] ∈ s.data.toList
    exact List.getElem_mem (l := s.data.toList) (by simpa using h)
  rw [hall _ hm] at hd; cases hd
/-- the first fault of a cask -/
def ccE (c : Ck) : Int :=
  if isNm c.nm = true then (if (c.ps ≠ 1 ∧ c.ps ≠ 2) ∨ c.dc < 0 ∨ 1073741824 < c.dc then 2 else ckE c.pf) else 4
/-- a value reads as a cask -/
def CkV (w : World) (v : Value) (c : Ck) : Prop :=
  ∃ a cap, v = .agg #[.string c.nm, .int .i64 c.ps, .slice a c.pf.length cap, .int .i64 c.dc] ∧ Pts w (.slice a c.pf.length cap) c.pf ∧ c.nm.size ≤ 9223372036854775807 ∧ (-9223372036854775808 ≤ c.ps ∧ c.ps ≤ 9223372036854775807) ∧ (-9223372036854775808 ≤ c.dc ∧ c.dc ≤ 9223372036854775807)
theorem CkV.below {w w' : World} {v : Value} {c : Ck} (h : CkV w v c) (hb : Below w.heap.size w w') : CkV w' v c := by
  obtain ⟨a, cap, e, hp, r⟩ := h
  exact ⟨a, cap, e, hp.below hb, r⟩
theorem CkV.alloc {w : World} {v : Value} {c : Ck} (h : CkV w v c) (o : Obj) : CkV (w.alloc o) v c := h.below (bel_alloc (Below.refl _ _))
/-- a slice reads as a list of casks -/
def Cks (w : World) (v : Value) (l : List Ck) : Prop :=
  ∃ a cap, v = .slice a l.length cap ∧ (l.length ≤ cap ∧ cap ≤ 9223372036854775807) ∧
    (l.length = 0 ∨ ∃ b off, a = some ⟨b, off, none⟩ ∧ b < w.heap.size ∧ ∀ j (hj : j < l.length), ∃ x0 x1 x2 x3, w.cell? ⟨b, off + j * 4, none⟩ = some x0 ∧ w.cell? ⟨b, off + j * 4 + 1, none⟩ = some x1 ∧ w.cell? ⟨b, off + j * 4 + 2, none⟩ = some x2 ∧ w.cell? ⟨b, off + j * 4 + 3, none⟩ = some x3 ∧ CkV w (.agg #[x0, x1, x2, x3]) l[j])
theorem Cks.below {w w' : World} {v : Value} {l : List Ck} (h : Cks w v l) (hb : Below w.heap.size w w') : Cks w' v l := by
  obtain ⟨a, cap, rfl, hl, h | ⟨b, off, rfl, hlt, hc⟩⟩ := h
  · exact ⟨a, cap, rfl, hl, .inl h⟩
  · refine ⟨_, cap, rfl, hl, .inr ⟨b, off, rfl, Nat.lt_of_lt_of_le hlt hb.size, fun j hj => ?_⟩⟩
    obtain ⟨x0, x1, x2, x3, g0, g1, g2, g3, g⟩ := hc j hj
    exact ⟨x0, x1, x2, x3, by rw [(bcell hb).1 _ _ hlt]; exact g0, by rw [(bcell hb).1 _ _ hlt]; exact g1, by rw [(bcell hb).1 _ _ hlt]; exact g2, by rw [(bcell hb).1 _ _ hlt]; exact g3, g.below hb⟩
theorem Cks.alloc {w : World} {v : Value} {l : List Ck} (h : Cks w v l) (o : Obj) : Cks (w.alloc o) v l := h.below (bel_alloc (Below.refl _ _))
theorem Cks.shape {W : World} {v : Value} {l : List Ck} (h : Cks W v l) : ∃ a cap, v = .slice a l.length cap ∧ l.length ≤ cap ∧ cap ≤ 9223372036854775807 := by
  obtain ⟨a, cap, e, ⟨h1, h2⟩, _⟩ := h
  exact ⟨a, cap, e, h1, h2⟩
/-- the casks' cells, written out -/
def CkAt (w : World) (b off j : Nat) (c : Ck) : Prop :=
  ∃ a cap, w.cell? ⟨b, off + j * 4, none⟩ = some (.string c.nm) ∧ w.cell? ⟨b, off + j * 4 + 1, none⟩ = some (.int .i64 c.ps) ∧ w.cell? ⟨b, off + j * 4 + 2, none⟩ = some (.slice a c.pf.length cap) ∧ w.cell? ⟨b, off + j * 4 + 3, none⟩ = some (.int .i64 c.dc) ∧ Pts w (.slice a c.pf.length cap) c.pf ∧ c.nm.size ≤ 9223372036854775807 ∧ (-9223372036854775808 ≤ c.ps ∧ c.ps ≤ 9223372036854775807) ∧ (-9223372036854775808 ≤ c.dc ∧ c.dc ≤ 9223372036854775807)
theorem CkAt.below {w w' : World} {b off j : Nat} {c : Ck} (h : CkAt w b off j c) (hlt : b < w.heap.size) (hb : Below w.heap.size w w') : CkAt w' b off j c := by
  obtain ⟨a, cap, g0, g1, g2, g3, hp, r⟩ := h
  exact ⟨a, cap, by rw [(bcell hb).1 _ _ hlt]; exact g0, by rw [(bcell hb).1 _ _ hlt]; exact g1, by rw [(bcell hb).1 _ _ hlt]; exact g2, by rw [(bcell hb).1 _ _ hlt]; exact g3, hp.below hb, r⟩
theorem Cks.cks {W : World} {v : Value} {l : List Ck} (h : Cks W v l) (h0 : 0 < l.length) : ∃ b off cap, v = .slice (some ⟨b, off, none⟩) l.length cap ∧ b < W.heap.size ∧ (l.length ≤ cap ∧ cap ≤ 9223372036854775807) ∧ ∀ j (hj : j < l.length), CkAt W b off j l[j] := by
  obtain ⟨a, cap, rfl, hl, h | ⟨b, off, rfl, hlt, hc⟩⟩ := h
  · omega
  · refine ⟨b, off, cap, rfl, hlt, hl, fun j hj => ?_⟩
    obtain ⟨x0, x1, x2, x3, g0, g1, g2, g3, a, c, e, r⟩ := hc j hj
    simp only [Value.agg.injEq, Array.mk.injEq, List.cons.injEq, and_true] at e
    obtain ⟨rfl, rfl, rfl, rfl⟩ := e
    exact ⟨a, c, g0, g1, g2, g3, r⟩
theorem cks_nil (w : World) : Cks w (.slice none 0 0) [] := ⟨none, 0, rfl, by simp, .inl rfl⟩
/-- no cask -/
def zCk : Ck := ⟨ByteArray.empty, 0, [], 0⟩
end Go.Proofs.YtpnlfeljmpfeoaaGreatDoor

/- Plain facts of the texts of casks: words, numbers, lines. No program stands in this text. -/
namespace Go.Proofs.YtpnlfeljmpfeoaaGreatDoor

/-! ### parts of a text -/
def stp (d : UInt8) (st : List (List UInt8) × List UInt8) (x : UInt8) : List (List UInt8) × List UInt8 := if x = d then (st.1 ++ [st.2], []) else (st.1, st.2 ++ [x])
def fl (d : UInt8) (st : List (List UInt8) × List UInt8) (s : List UInt8) : List (List UInt8) × List UInt8 := s.foldl (stp d) st
theorem fl_snoc (d : UInt8) (st : List (List UInt8) × List UInt8) (s : List UInt8) (x : UInt8) : fl d st (s ++ [x]) = stp d (fl d st s) x := by unfold fl; rw [List.foldl_append]; rfl
theorem fl_app (d : UInt8) (st : List (List UInt8) × List UInt8) (s t : List UInt8) : fl d st (s ++ t) = fl d (fl d st s) t := by unfold fl; rw [List.foldl_append]
theorem fl_no {d : UInt8} {w : List UInt8} (h : d ∉ w) (o : List (List UInt8)) (c : List UInt8) : fl d (o, c) w = (o, c ++ w) := by
  induction w generalizing c with
  | nil => simp [fl]
  | cons x w ih =>
    have hx : x ≠ d := fun e => h (by rw [e]; simp)
    have hw : d ∉ w := fun e => h (by simp [e])
    show fl d (stp d (o, c) x) w = _
    unfold stp
    rw [if_neg hx, ih hw]
    simp
theorem fl_sep {d : UInt8} {w : List UInt8} (h : d ∉ w) (o : List (List UInt8)) (c s : List UInt8) : fl d (o, c) (w ++ d :: s) = fl d (o ++ [c ++ w], []) s := by
  rw [fl_app, fl_no h]
  show fl d (stp d (o, c ++ w) d) s = _
  unfold stp
  rw [if_pos rfl]
theorem fl_join (d : UInt8) (s : List UInt8) : ∀ (o : List (List UInt8)) (c : List UInt8), (fl d (o, c) s).1.flatMap (· ++ [d]) ++ (fl d (o, c) s).2 = o.flatMap (· ++ [d]) ++ c ++ s := by
  induction s with
  | nil => intro o c; simp [fl]
  | cons x s ih =>
    intro o c
    show (fl d (stp d (o, c) x) s).1.flatMap (· ++ [d]) ++ (fl d (stp d (o, c) x) s).2 = _
    unfold stp
    by_cases e : x = d
    · rw [if_pos e, ih, e]; simp
    · rw [if_neg e, ih]; simp
theorem fl_clean (d : UInt8) (s : List UInt8) : ∀ (o : List (List UInt8)) (c : List UInt8), (∀ w ∈ o, d ∉ w) → d ∉ c → (∀ w ∈ (fl d (o, c) s).1, d ∉ w) ∧ d ∉ (fl d (o, c) s).2 := by
  induction s with
  | nil => intro o c h1 h2; exact ⟨h1, h2⟩
  | cons x s ih =>
    intro o c h1 h2
    show (∀ w ∈ (fl d (stp d (o, c) x) s).1, d ∉ w) ∧ d ∉ (fl d (stp d (o, c) x) s).2
    unfold stp
    by_cases e : x = d
    · rw [if_pos e]
      refine ih _ _ (fun w hw => ?_) (by simp)
      rcases List.mem_append.1 hw with hw | hw
      · exact h1 w hw
      · rw [List.mem_singleton] at hw; rw [hw]; exact h2
    · rw [if_neg e]
      refine ih _ _ h1 (fun hc => ?_)
      rcases List.mem_append.1 hc with hc | hc
      · exact h2 hc
      · rw [List.mem_singleton] at hc; exact e hc.symm
/-- words with blanks between them -/
def jn : List (List UInt8) → List UInt8
  | [] => []
  | [w] => w
  | w :: v :: ws => w ++ 32 :: jn (v :: ws)
theorem jn_snoc (o : List (List UInt8)) (c : List UInt8) : jn (o ++ [c]) = o.flatMap (· ++ [32]) ++ c := by
  induction o with
  | nil => rfl
  | cons w o ih =>
    cases o with
    | nil => simp [jn]
    | cons v o =>
      show w ++ 32 :: jn (v :: o ++ [c]) = _
      rw [ih]; simp
/-- the words of a line, if none is empty -/
def wdO (line : List UInt8) : Option (List (List UInt8)) :=
  if ((fl 32 ([], []) line).1 ++ [(fl 32 ([], []) line).2]).all (fun w => !w.isEmpty) = true then some ((fl 32 ([], []) line).1 ++ [(fl 32 ([], []) line).2]) else none
theorem wdO_jn {line : List UInt8} {ws : List (List UInt8)} (h : wdO line = some ws) : jn ws = line := by
  unfold wdO at h
  split at h
  · obtain rfl := Option.some.inj h
    rw [jn_snoc, fl_join]; simp
  · cases h
theorem fl_jn {ws : List (List UInt8)} (h : ∀ w ∈ ws, (32 : UInt8) ∉ w) (hn : ws ≠ []) (o : List (List UInt8)) : (fl 32 (o, []) (jn ws)).1 ++ [(fl 32 (o, []) (jn ws)).2] = o ++ ws := by
  induction ws generalizing o with
  | nil => exact absurd rfl hn
  | cons w ws ih =>
    cases ws with
    | nil =>
      show (fl 32 (o, []) w).1 ++ [(fl 32 (o, []) w).2] = _
      rw [fl_no (h w (by simp))]; simp
    | cons v ws =>
      show (fl 32 (o, []) (w ++ 32 :: jn (v :: ws))).1 ++ [(fl 32 (o, []) (w ++ 32 :: jn (v :: ws))).2] = _
      rw [fl_sep (h w (by simp)), ih (fun u hu => h u (by simp [hu])) (by simp)]
      simp
theorem wdO_of {ws : List (List UInt8)} (h : ∀ w ∈ ws, (32 : UInt8) ∉ w ∧ w ≠ []) (hn : ws ≠ []) : wdO (jn ws) = some ws := by
  have e := fl_jn (fun w hw => (h w hw).1) hn []
  rw [List.nil_append] at e
  unfold wdO
  rw [e, if_pos]
  rw [List.all_eq_true]
  intro w hw
  have := (h w hw).2
  cases w with
  | nil => exact absurd rfl this
  | cons => rfl

/-! ### numbers -/
/-- the number of a word -/
def num (w : List UInt8) : Option Int := if dgs w = true ∧ 1 ≤ w.length ∧ w.length ≤ 10 ∧ (w.length = 1 ∨ w.head? ≠ some 48) then some (val w) else none
theorem dgs_iff (w : List UInt8) : dgs w = true ↔ ∀ c ∈ w, isDg c = true := by unfold dgs; rw [List.all_eq_true]
theorem val_pos {w : List UInt8} (hd : dgs w = true) (h1 : w ≠ []) (h2 : w.head? ≠ some 48) : 1 ≤ val w := by
  cases w with
  | nil => exact absurd rfl h1
  | cons c w =>
    have hc := (dgs_iff _).1 hd c (by simp)
    have hc2 : c ≠ 48 := fun e => h2 (by rw [e]; rfl)
    have key : ∀ (w : List UInt8) (a : Int), 1 ≤ a → dgs w = true → 1 ≤ w.foldl (fun a c => 10 * a + ((c.toNat : Int) - 48)) a := by
      intro w
      induction w with
      | nil => intro a ha _; exact ha
      | cons x w ih =>
        intro a ha hd
        have hx := (isDg_iff _).1 ((dgs_iff _).1 hd x (by simp))
        exact ih _ (by show (1 : Int) ≤ 10 * a + ((x.toNat : Int) - 48); omega) ((dgs_iff _).2 fun c hc => (dgs_iff _).1 hd c (by simp [hc]))
    refine key w _ ?_ ((dgs_iff _).2 fun c hc => (dgs_iff _).1 hd c (by simp [hc]))
    have h48 : c.toNat ≠ 48 := fun e => hc2 (UInt8.toNat_inj.1 (by rw [e]; rfl))
    have := (isDg_iff _).1 hc
    show (1 : Int) ≤ 10 * 0 + ((c.toNat : Int) - 48)
    omega
theorem dec_val (w : List UInt8) (hd : dgs w = true) (h1 : w ≠ []) (h2 : w.length = 1 ∨ w.head? ≠ some 48) : Lib.decDigits (val w).toNat = w := by
  have key : ∀ (n : Nat) (w : List UInt8), w.length = n → dgs w = true → w ≠ [] → (w.length = 1 ∨ w.head? ≠ some 48) → Lib.decDigits (val w).toNat = w := by
    intro n
    induction n with
    | zero => intro w hl _ h; exact absurd (List.length_eq_zero_iff.1 hl) h
    | succ n ih =>
      intro w hl hd hne hz
      have e := List.dropLast_concat_getLast hne
      generalize w.getLast hne = c at e
      generalize hv : w.dropLast = v at e
      subst e
      rw [dgs_snoc, Bool.and_eq_true] at hd
      have hc := (isDg_iff _).1 hd.2
      have hb := val_bd v hd.1
      rw [val_snoc]
      by_cases e0 : v = []
      · subst e0
        have : (10 * val [] + ((c.toNat : Int) - 48)).toNat = c.toNat - 48 := by simp [val]; omega
        rw [this, Lib.decDigits_one (by omega)]
        show [_] = [c]
        congr 1
        apply UInt8.toNat_inj.1
        rw [UInt8.toNat_ofNat']
        omega
      · have hz2 : v.head? ≠ some 48 := by
          rcases hz with hz | hz
          · exact absurd (by simpa using hz) e0
          · intro e
            apply hz
            cases v with
            | nil => exact absurd rfl e0
            | cons x v => simpa using e
        have p := val_pos hd.1 e0 hz2
        have i := ih v (by simpa using hl) hd.1 e0 (.inr hz2)
        rw [Lib.decDigits, dif_neg (by omega)]
        have q1 : (10 * val v + ((c.toNat : Int) - 48)).toNat / 10 = (val v).toNat := by omega
        have q2 : (10 * val v + ((c.toNat : Int) - 48)).toNat % 10 = c.toNat - 48 := by omega
        rw [q1, q2, i]
        congr 2
        apply UInt8.toNat_inj.1
        rw [UInt8.toNat_ofNat']
        omega
  exact key _ w rfl hd h1 h2
theorem num_itoa {w : List UInt8} {v : Int} (h : num w = some v) : Lib.itoa v = w ∧ 0 ≤ v := by
  unfold num at h
  split at h
  · rename_i g
    obtain rfl := Option.some.inj h
    have b := val_bd w g.1
    unfold Lib.itoa
    rw [if_neg (by omega)]
    exact ⟨dec_val w g.1 (fun e => by rw [e] at g; simp at g) g.2.2.2, b.1⟩
  · cases h
theorem dec_dgs (u : Nat) : dgs (Lib.decDigits u) = true ∧ val (Lib.decDigits u) = u ∧ Lib.decDigits u ≠ [] ∧ ((Lib.decDigits u).length = 1 ∨ (Lib.decDigits u).head? ≠ some 48) := by
  induction u using Nat.strongRecOn with
  | _ u ih =>
    have dg1 : ∀ k : Nat, k < 10 → isDg (UInt8.ofNat (48 + k)) = true ∧ (UInt8.ofNat (48 + k)).toNat = 48 + k := fun k hk => by
      have : (UInt8.ofNat (48 + k)).toNat = 48 + k := by rw [UInt8.toNat_ofNat']; omega
      exact ⟨(isDg_iff _).2 (by omega), this⟩
    by_cases h : u < 10
    · rw [Lib.decDigits_one h]
      obtain ⟨a, b⟩ := dg1 u h
      refine ⟨(dgs_iff _).2 fun c hc => by rw [List.mem_singleton] at hc; subst hc; exact a, by simp only [val, List.foldl_cons, List.foldl_nil]; omega, by simp, .inl rfl⟩
    · obtain ⟨i1, i2, i3, i4⟩ := ih (u / 10) (by omega)
      rw [Lib.decDigits, dif_neg h]
      obtain ⟨a, b⟩ := dg1 (u % 10) (by omega)
      refine ⟨by rw [dgs_snoc, i1, a]; rfl, by rw [val_snoc, i2, b]; omega, by simp, .inr ?_⟩
      have hp : 1 ≤ u / 10 := by omega
      intro e
      have e2 : (Lib.decDigits (u / 10)).head? = some 48 := by
        cases hx : Lib.decDigits (u / 10) with
        | nil => exact absurd hx i3
        | cons x v => rw [hx] at e; simpa using e
      rcases i4 with i4 | i4
      · obtain ⟨x, hx⟩ : ∃ x, Lib.decDigits (u / 10) = [x] := List.length_eq_one_iff.1 i4
        rw [hx] at e2 i2
        simp only [List.head?_cons, Option.some.injEq] at e2
        subst e2
        simp [val] at i2
        omega
      · exact i4 e2
theorem nd_le (k : Nat) : ∀ u, 1 ≤ k → u < 10 ^ k → Lib.nDigits u ≤ k := by
  induction k with
  | zero => intro u h; omega
  | succ k ih =>
    intro u _ hu
    by_cases h : u < 10
    · rw [Lib.nDigits_small h]; omega
    · rw [Lib.nDigits_big h]
      rw [Nat.pow_succ] at hu
      have hk : 1 ≤ k := by
        rcases Nat.eq_zero_or_pos k with e | e
        · subst e; simp at hu; omega
        · exact e
      have := ih (u / 10) hk (by omega)
      omega
theorem itoa_num {v : Int} (h0 : 0 ≤ v) (h1 : v ≤ 9999999999) : num (Lib.itoa v) = some v ∧ (∀ c ∈ Lib.itoa v, isDg c = true) ∧ Lib.itoa v ≠ [] := by
  obtain ⟨a, b, c, d⟩ := dec_dgs v.toNat
  have e : Lib.itoa v = Lib.decDigits v.toNat := by unfold Lib.itoa; rw [if_neg (by omega)]
  rw [e]
  refine ⟨?_, (dgs_iff _).1 a, c⟩
  have hl : (Lib.decDigits v.toNat).length ≤ 10 := by
    rw [Lib.decDigits_length]
    exact nd_le 10 _ (by omega) (by omega)
  unfold num
  rw [if_pos ⟨a, by cases h : Lib.decDigits v.toNat with | nil => exact absurd h c | cons => simp, hl, d⟩, b]
  congr 1
  omega
end Go.Proofs.YtpnlfeljmpfeoaaGreatDoor

/- The reference of layer 9: Number. -/
namespace Go.Proofs.YtpnlfeljmpfeoaaGreatDoor
open Go.RowKit

theorem val_take (s : ByteArray) (k : Nat) (h : k < s.size) : val (s.data.toList.take (k + 1)) = 10 * val (s.data.toList.take k) + ((s[k].toNat : Int) - 48) := by rw [take_snoc s k h, val_snoc]
theorem val_tk_bd (s : ByteArray) (k : Nat) (hk : k ≤ 10) (h : dgs (s.data.toList.take k) = true) : 0 ≤ val (s.data.toList.take k) ∧ val (s.data.toList.take k) ≤ 999999999999999 :=
  val_small _ h (by rw [List.length_take]; omega)
theorem num_none (s : ByteArray) (h : dgs s.data.toList = false) : num s.data.toList = none := by
  unfold num; rw [h]; simp
set_option maxHeartbeats 16000000 in
set_option maxRecDepth 100000 in
theorem refNum_core (s : ByteArray) (w : World) (hs : s.size ≤ 9223372036854775807) (Q : Int → Bool → Prop)
    (h1 : Hid (dgs s.data.toList = false → Q 0 false))
    (h2 : Hid (dgs s.data.toList = true → s.size < 1 → ∀ v, Q v false)) (h3 : Hid (dgs s.data.toList = true → 10 < s.size → ∀ v, Q v false))
    (h4 : Hid (dgs s.data.toList = true → s.size = 1 → Q (val s.data.toList) true))
    (h5 : Hid (∀ h : 0 < s.size, dgs s.data.toList = true → s.size ≤ 10 → s.size ≠ 1 → s[0].toNat = 48 → ∀ v, Q v false))
    (h6 : Hid (∀ h : 0 < s.size, dgs s.data.toList = true → s.size ≤ 10 → s[0].toNat ≠ 48 → Q (val s.data.toList) true)) :
    Calls Tryz.prog 77 #[.string s] w fun e w' => ∃ v b, e = .returned (.tuple #[.int .i64 v, .bool b]) ∧ Q v b ∧ Below w.heap.size w w' := by
  go_enter Tryz.func77, Tryz.ntmps77
  go_wp2_with fail
  go_loopw [4, 5] (fun nn ii wr => ∃ i : Nat, i ≤ s.size ∧ ii = .int .i64 i ∧ nn = .int .i64 (val (s.data.toList.take (min i 10))) ∧ wr = w ∧ Hid (dgs (s.data.toList.take i) = true)) (fun _ ii _ => s.size - (intOf ii).toNat)
  case atStart => exact ⟨0, by omega, rfl, rfl, rfl, rfl⟩
  case round =>
    obtain ⟨i, hi, rfl, rfl, rfl, ha⟩ := hrel
    by_cases hlt : i < s.size
    · cases hc : isDg s[i] with
      | false =>
        have hq := h1.out (dgs_take s i hlt hc)
        have hn := (isDg_not _).1 hc
        clear hc ha h1 h2 h3 h4 h5 h6
        generalize val (s.data.toList.take (min i 10)) = V at *
        by_cases h48 : s[i].toNat < 48
        · have d0 : decide ((s[i].toNat : Int) < 48) = true := decide_eq_true (by omega)
          clear hn
          go_wp2
          go_returns
          exact ⟨_, _, rfl, hq, Below.refl _ _⟩
        · have d0 : decide ((s[i].toNat : Int) < 48) = false := decide_eq_false (by omega)
          have d1 : decide ((57 : Int) < s[i].toNat) = true := decide_eq_true (by omega)
          clear hn
          go_wp2
          go_returns
          exact ⟨_, _, rfl, hq, Below.refl _ _⟩
      | true =>
        have HA : Hid (dgs (s.data.toList.take (i + 1)) = true) := by show _ = _; rw [take_snoc s i hlt, dgs_snoc, ha.out, hc]; rfl
        obtain ⟨c0, c1⟩ := (isDg_iff _).1 hc
        have d0 : decide ((s[i].toNat : Int) < 48) = false := decide_eq_false (by omega)
        have d1 : decide ((57 : Int) < s[i].toNat) = false := decide_eq_false (by omega)
        have w0 : IntKind.u8.wrap ((s[i].toNat : Int) - 48) = (s[i].toNat : Int) - 48 := by
          show ((s[i].toNat : Int) - 48) % 256 = _
          omega
        by_cases h10 : i < 10
        · have d2 : decide ((i : Int) < 10) = true := decide_eq_true (by omega)
          have e1 : min i 10 = i := by omega
          have e2 : min (i + 1) 10 = i + 1 := by omega
          have ev := val_take s i hlt
          have bd := val_tk_bd s i (by omega) ha.out
          have EV : Hid (val (s.data.toList.take (min (i + 1) 10)) = 10 * val (s.data.toList.take i) + ((s[i].toNat : Int) - 48)) := by rw [e2]; exact ev
          rw [e1]
          clear ev hc ha e2 h1 h2 h3 h4 h5 h6
          generalize val (s.data.toList.take i) = V at *
          generalize hb : (s[i].toNat : Int) = b at *
          have w1 : IntKind.i64.wrap (10 * V) = 10 * V := wrap_in _ ⟨by omega, by omega⟩
          have w2 : IntKind.i64.wrap (b - 48) = b - 48 := wrap_in _ ⟨by omega, by omega⟩
          have w3 : IntKind.i64.wrap (10 * V + (b - 48)) = 10 * V + (b - 48) := wrap_in _ ⟨by omega, by omega⟩
          go_wp2
          go_roundw
          case rel => exact ⟨i + 1, by omega, by go_num, by rw [EV.out], by first | rfl | trivial, HA⟩
          case measure => simp [intOf]; omega
        · have d2 : decide ((i : Int) < 10) = false := decide_eq_false (by omega)
          have e1 : min (i + 1) 10 = min i 10 := by omega
          clear hc ha h1 h2 h3 h4 h5 h6
          go_wp2
          go_roundw
          case rel => exact ⟨i + 1, by omega, by go_num, by rw [e1], by first | rfl | trivial, HA⟩
          case measure => simp [intOf]; omega
    · obtain rfl : i = s.size := by omega
      have ha' := ha.out
      rw [take_all s s.size (Nat.le_refl _)] at ha'
      have H2 := Lib.hid (h2.out ha')
      have H3 := Lib.hid (h3.out ha')
      have H4 := Lib.hid (h4.out ha')
      have H5 := Lib.hid (fun h => h5.out h ha')
      have H6 := Lib.hid (fun h => h6.out h ha')
      have HV : Hid (s.size ≤ 10 → val (s.data.toList.take (min s.size 10)) = val s.data.toList) := fun h => by
        rw [show min s.size 10 = s.size by omega, take_all s s.size (Nat.le_refl _)]
      clear ha ha' h1 h2 h3 h4 h5 h6 hlt
      generalize val (s.data.toList.take (min s.size 10)) = V at *
      by_cases g1 : s.size < 1
      · have hq := H2.out g1
        have d0 : decide ((1 : Int) ≤ (s.size : Int)) = false := decide_eq_false (by omega)
        clear H2 H3 H4 H5 H6 HV hi hs g1
        go_wp2_with fail
        go_quiet (fail)
        go_wp2
        go_returns
        exact ⟨_, _, rfl, hq _, bel_drewN _ _⟩
      · by_cases g2 : 10 < s.size
        · have hq := H3.out g2
          have d0 : decide ((1 : Int) ≤ (s.size : Int)) = true := decide_eq_true (by omega)
          have d1 : decide ((s.size : Int) ≤ 10) = false := decide_eq_false (by omega)
          clear H2 H3 H4 H5 H6 HV hi hs g1 g2
          go_wp2_with fail
          go_quiet (fail)
          go_wp2
          go_returns
          exact ⟨_, _, rfl, hq _, bel_drewN _ _⟩
        · have hv := HV.out (by omega)
          rw [hv]
          by_cases g3 : s.size = 1
          · have hq := H4.out g3
            have d0 : decide ((1 : Int) ≤ (s.size : Int)) = true := decide_eq_true (by omega)
            have d1 : decide ((s.size : Int) ≤ 10) = true := decide_eq_true (by omega)
            have z1 : ((s.size : Int) == 1) = true := by simp only [beq_iff_eq]; omega
            clear H2 H3 H4 H5 H6 HV hi hs g1 g2 g3 hv
            go_wp2_with fail
            go_quiet (fail)
            go_wp2
            go_returns
            exact ⟨_, _, rfl, hq, bel_drewN _ _⟩
          · have hpos : 0 < s.size := by omega
            have lp : (0 : Int) < (s.size : Int) := by omega
            by_cases g4 : s[0].toNat = 48
            · have hq := H5.out hpos (by omega) g3 g4
              have d0 : decide ((1 : Int) ≤ (s.size : Int)) = true := decide_eq_true (by omega)
              have d1 : decide ((s.size : Int) ≤ 10) = true := decide_eq_true (by omega)
              have z1 : ((s.size : Int) == 1) = false := by simp only [beq_eq_false_iff_ne, ne_eq]; omega
              have y0 : ((s[0].toNat : Int) != 48) = false := by simp only [bne_eq_false_iff_eq]; omega
              clear H2 H3 H4 H5 H6 HV hi hs g1 g2 g3 g4 hv
              go_wp2_with fail
              go_quiet (fail)
              go_wp2
              go_returns
              exact ⟨_, _, rfl, hq _, bel_drewN _ _⟩
            · have hq := H6.out hpos (by omega) g4
              have d0 : decide ((1 : Int) ≤ (s.size : Int)) = true := decide_eq_true (by omega)
              have d1 : decide ((s.size : Int) ≤ 10) = true := decide_eq_true (by omega)
              have z1 : ((s.size : Int) == 1) = false := by simp only [beq_eq_false_iff_ne, ne_eq]; omega
              have y0 : ((s[0].toNat : Int) != 48) = true := by simp only [bne_iff_ne, ne_eq]; omega
              clear H2 H3 H4 H5 H6 HV hi hs g1 g2 g3 g4 hv
              go_wp2_with fail
              go_quiet (fail)
              go_wp2
              go_returns
              exact ⟨_, _, rfl, hq, bel_drewN _ _⟩
theorem refNum_any (s : ByteArray) (w : World) (hs : s.size ≤ 9223372036854775807) :
    Calls Tryz.prog 77 #[.string s] w fun e w' => ∃ v b, e = .returned (.tuple #[.int .i64 v, .bool b]) ∧ (b = (num s.data.toList).isSome ∧ (b = true → num s.data.toList = some v)) ∧ Below w.heap.size w w' := by
  have hl : s.data.toList.length = s.size := by simp
  have hh : ∀ h : 0 < s.size, s.data.toList.head? = some s[0] := fun h => by
    rw [List.head?_eq_getElem?]
    show s.data.toList[0]? = some s.data[0]
    simp
  refine refNum_core s w hs (fun v b => b = (num s.data.toList).isSome ∧ (b = true → num s.data.toList = some v)) (fun h => ?_) (fun h g v => ?_) (fun h g v => ?_) (fun h g => ?_) (fun h0 h g1 g2 g3 v => ?_) (fun h0 h g1 g3 => ?_)
  · rw [num_none s h]; exact ⟨rfl, fun h => by cases h⟩
  · have e : num s.data.toList = none := by unfold num; rw [if_neg (by rw [hl]; omega)]
    rw [e]; exact ⟨rfl, fun h => by cases h⟩
  · have e : num s.data.toList = none := by unfold num; rw [if_neg (by rw [hl]; omega)]
    rw [e]; exact ⟨rfl, fun h => by cases h⟩
  · have e : num s.data.toList = some (val s.data.toList) := by unfold num; rw [if_pos ⟨h, by omega, by omega, .inl (by omega)⟩]
    rw [e]; exact ⟨rfl, fun _ => rfl⟩
  · have e : num s.data.toList = none := by
      unfold num
      rw [if_neg]
      rintro ⟨_, _, _, x | x⟩
      · omega
      · exact x (by rw [hh h0]; congr 1; exact UInt8.toNat_inj.1 (by rw [g3]; rfl))
    rw [e]; exact ⟨rfl, fun h => by cases h⟩
  · have e : num s.data.toList = some (val s.data.toList) := by
      unfold num
      rw [if_pos ⟨h, by omega, by omega, .inr (fun x => by
        rw [hh h0] at x
        have := Option.some.inj x
        exact g3 (by rw [this]; rfl))⟩]
    rw [e]; exact ⟨rfl, fun _ => rfl⟩
end Go.Proofs.YtpnlfeljmpfeoaaGreatDoor

/- What a cask without a fault is. -/
namespace Go.Proofs.YtpnlfeljmpfeoaaGreatDoor

theorem ccE_pf {c : Ck} (h : ccE c = 0) : isNm c.nm = true ∧ (c.ps = 1 ∨ c.ps = 2) ∧ (0 ≤ c.dc ∧ c.dc ≤ 1073741824) ∧ RP c.pf := by
  unfold ccE at h
  split at h
  · rename_i g
    split at h
    · omega
    · exact ⟨g, by omega, by omega, (ckE_iff _).1 h⟩
  · omega
end Go.Proofs.YtpnlfeljmpfeoaaGreatDoor

/- Plain facts of the texts of casks: lines read and printed. No program stands in this text. -/
namespace Go.Proofs.YtpnlfeljmpfeoaaGreatDoor

def wCask : List UInt8 := [99, 97, 115, 107]
def wLy : List UInt8 := [108, 121, 105, 110, 103]
def wSt : List UInt8 := [115, 116, 97, 110, 100, 105, 110, 103]
def wDe : List UInt8 := [100, 101, 99, 108, 97, 114, 101, 100]
def wAt : List UInt8 := [97, 116]
def wRa : List UInt8 := [114, 97, 100, 105, 117, 115]
def wEn : List UInt8 := [101, 110, 100]
/-- the word of a position -/
def wPs (p : Int) : List UInt8 := if p = 1 then wLy else wSt
/-- the cask of a first line -/
def hd : List (List UInt8) → Option Ck
  | [a, m, p, d, n] => if a = wCask ∧ (p = wLy ∨ p = wSt) ∧ d = wDe then (num n).map (fun v => ⟨⟨m.toArray⟩, if p = wLy then 1 else 2, [], v⟩) else none
  | _ => none
/-- the point of a line -/
def pnt : List (List UInt8) → Option (Int × Int)
  | [a, x, r, y] => if a = wAt ∧ r = wRa then (match num x, num y with | some u, some v => some (u, v) | _, _ => none) else none
  | _ => none
def addQ (l : List Ck) (q : Int × Int) : List Ck := l.dropLast ++ l.getLast?.toList.map fun c => ⟨c.nm, c.ps, c.pf ++ [q], c.dc⟩
theorem addQ_snoc (l : List Ck) (c : Ck) (q : Int × Int) : addQ (l ++ [c]) q = l ++ [⟨c.nm, c.ps, c.pf ++ [q], c.dc⟩] := by
  unfold addQ; simp
/-- one line more -/
def lst (st : Bool × List Ck) (line : List UInt8) : Option (Bool × List Ck) :=
  match wdO line with
  | none => none
  | some ws => if st.1 = false then (hd ws).map (fun c => (true, st.2 ++ [c])) else if ws = [wEn] then some (false, st.2) else (pnt ws).map (fun q => (true, addQ st.2 q))
/-- lines read: the state behind them, or the number of the first one that cannot stand there -/
def rnL (st : Bool × List Ck) (k : Nat) : List (List UInt8) → Option (Bool × List Ck) × Nat
  | [] => (some st, k)
  | l :: ls => match lst st l with
    | none => (none, k + 1)
    | some s => rnL s (k + 1) ls
theorem rnL_cons {st s : Bool × List Ck} {l : List UInt8} (k : Nat) (ls : List (List UInt8)) (h : lst st l = some s) : rnL st k (l :: ls) = rnL s (k + 1) ls := by
  show (match lst st l with | none => (none, k + 1) | some s => rnL s (k + 1) ls) = _
  rw [h]
theorem rnL_app (st s : Bool × List Ck) (k m : Nat) (a b : List (List UInt8)) (h : rnL st k a = (some s, m)) : rnL st k (a ++ b) = rnL s m b := by
  induction a generalizing st k with
  | nil =>
    simp only [rnL, Prod.mk.injEq, Option.some.injEq] at h
    obtain ⟨rfl, rfl⟩ := h
    rfl
  | cons l a ih =>
    cases hl : lst st l with
    | none =>
      have e : rnL st k (l :: a) = (none, k + 1) := by
        show (match lst st l with | none => (none, k + 1) | some s => rnL s (k + 1) a) = _
        rw [hl]
      rw [e] at h; simp at h
    | some t =>
      rw [rnL_cons k a hl] at h
      show rnL st k (l :: (a ++ b)) = _
      rw [rnL_cons k _ hl]
      exact ih t (k + 1) h
/-! ### what is printed -/
def hdW (c : Ck) : List (List UInt8) := [wCask, c.nm.data.toList, wPs c.ps, wDe, Lib.itoa c.dc]
def ptW (q : Int × Int) : List (List UInt8) := [wAt, Lib.itoa q.1, wRa, Lib.itoa q.2]
def lnC (c : Ck) : List (List UInt8) := jn (hdW c) :: (c.pf.map fun q => jn (ptW q)) ++ [wEn]
def lnA (l : List Ck) : List (List UInt8) := l.flatMap lnC
/-- the text of a list of casks -/
def prT (l : List Ck) : List UInt8 := (lnA l).flatMap (· ++ [10])
theorem prT_app (l m : List Ck) : prT (l ++ m) = prT l ++ prT m := by unfold prT lnA; simp
theorem no_dg {w : List UInt8} (h : ∀ c ∈ w, isDg c = true) : (32 : UInt8) ∉ w ∧ (10 : UInt8) ∉ w := by
  constructor <;> intro hc <;> have := h _ hc <;> revert this <;> decide
theorem no_nm {s : ByteArray} (h : isNm s = true) : ((32 : UInt8) ∉ s.data.toList ∧ (10 : UInt8) ∉ s.data.toList) ∧ s.data.toList ≠ [] := by
  unfold isNm at h
  simp only [Bool.and_eq_true, List.all_eq_true, decide_eq_true_eq] at h
  refine ⟨⟨fun hc => ?_, fun hc => ?_⟩, fun e => ?_⟩
  · have := h.1.1 _ hc; revert this; decide
  · have := h.1.1 _ hc; revert this; decide
  · have : s.size = 0 := by
      have : s.data.toList.length = 0 := by rw [e]; rfl
      simpa using this
    omega
theorem no_ps (p : Int) : ((32 : UInt8) ∉ wPs p ∧ (10 : UInt8) ∉ wPs p) ∧ wPs p ≠ [] := by
  unfold wPs; split <;> decide
/-- a cask that can stand in a text -/
structure TxC (c : Ck) : Prop where
  nm : ((32 : UInt8) ∉ c.nm.data.toList ∧ (10 : UInt8) ∉ c.nm.data.toList) ∧ c.nm.data.toList ≠ []
  ps : c.ps = 1 ∨ c.ps = 2
  dc : 0 ≤ c.dc ∧ c.dc ≤ 9999999999
  pf : ∀ q ∈ c.pf, (0 ≤ q.1 ∧ q.1 ≤ 9999999999) ∧ 0 ≤ q.2 ∧ q.2 ≤ 9999999999
theorem hdW_ok {c : Ck} (h : TxC c) : (∀ w ∈ hdW c, ((32 : UInt8) ∉ w ∧ w ≠ []) ∧ (10 : UInt8) ∉ w) ∧ hd (hdW c) = some ⟨c.nm, c.ps, [], c.dc⟩ := by
  obtain ⟨n1, n2, n3⟩ := itoa_num h.dc.1 h.dc.2
  have nd := no_dg n2
  have np := no_ps c.ps
  refine ⟨fun w hw => ?_, ?_⟩
  · simp only [hdW, List.mem_cons, List.not_mem_nil, or_false] at hw
    rcases hw with rfl | rfl | rfl | rfl | rfl
    · decide
    · exact ⟨⟨h.nm.1.1, h.nm.2⟩, h.nm.1.2⟩
    · exact ⟨⟨np.1.1, np.2⟩, np.1.2⟩
    · decide
    · exact ⟨⟨nd.1, n3⟩, nd.2⟩
  · have hp : wPs c.ps = wLy ∨ wPs c.ps = wSt := by unfold wPs; split <;> simp
    have hq : (if wPs c.ps = wLy then (1 : Int) else 2) = c.ps := by
      rcases h.ps with e | e
      · rw [e]; rfl
      · rw [e]; rfl
    unfold hdW hd
    dsimp only
    rw [if_pos ⟨rfl, hp, rfl⟩, n1, Option.map_some, hq]
theorem ptW_ok {q : Int × Int} (h : (0 ≤ q.1 ∧ q.1 ≤ 9999999999) ∧ 0 ≤ q.2 ∧ q.2 ≤ 9999999999) : (∀ w ∈ ptW q, ((32 : UInt8) ∉ w ∧ w ≠ []) ∧ (10 : UInt8) ∉ w) ∧ pnt (ptW q) = some q := by
  obtain ⟨n1, n2, n3⟩ := itoa_num h.1.1 h.1.2
  obtain ⟨m1, m2, m3⟩ := itoa_num h.2.1 h.2.2
  have nd := no_dg n2
  have md := no_dg m2
  refine ⟨fun w hw => ?_, ?_⟩
  · simp only [ptW, List.mem_cons, List.not_mem_nil, or_false] at hw
    rcases hw with rfl | rfl | rfl | rfl
    · decide
    · exact ⟨⟨nd.1, n3⟩, nd.2⟩
    · decide
    · exact ⟨⟨md.1, m3⟩, md.2⟩
  · unfold ptW pnt
    dsimp only
    rw [if_pos ⟨rfl, rfl⟩, n1, m1]
theorem jn_no10 {ws : List (List UInt8)} (h : ∀ w ∈ ws, (10 : UInt8) ∉ w) : (10 : UInt8) ∉ jn ws := by
  induction ws with
  | nil => simp [jn]
  | cons w ws ih =>
    cases ws with
    | nil => exact h w (by simp)
    | cons v ws =>
      intro hc
      rcases List.mem_append.1 hc with hc | hc
      · exact h w (by simp) hc
      · rcases List.mem_cons.1 hc with hc | hc
        · revert hc; decide
        · exact ih (fun u hu => h u (by simp [hu])) hc
theorem ln_no10 {c : Ck} (h : TxC c) : ∀ w ∈ lnC c, (10 : UInt8) ∉ w := by
  intro w hw
  simp only [lnC, List.cons_append, List.mem_cons, List.mem_append, List.mem_map, List.not_mem_nil, or_false] at hw
  rcases hw with rfl | ⟨q, hq, rfl⟩ | rfl
  · exact jn_no10 fun w hw => ((hdW_ok h).1 w hw).2
  · exact jn_no10 fun w hw => ((ptW_ok (h.pf q hq)).1 w hw).2
  · decide
theorem wd_end : wdO wEn = some [wEn] := by decide +kernel
theorem rn_pts (ps : List (Int × Int)) (h : ∀ q ∈ ps, (0 ≤ q.1 ∧ q.1 ≤ 9999999999) ∧ 0 ≤ q.2 ∧ q.2 ≤ 9999999999) (acc : List Ck) (c : Ck) (k : Nat) : rnL (true, acc ++ [c]) k (ps.map fun q => jn (ptW q)) = (some (true, acc ++ [⟨c.nm, c.ps, c.pf ++ ps, c.dc⟩]), k + ps.length) := by
  induction ps generalizing c k with
  | nil => simp [rnL]
  | cons q ps ih =>
    have o := ptW_ok (h q (by simp))
    have e : wdO (jn (ptW q)) = some (ptW q) := wdO_of (fun w hw => (o.1 w hw).1) (by simp [ptW])
    have el : lst (true, acc ++ [c]) (jn (ptW q)) = some (true, acc ++ [⟨c.nm, c.ps, c.pf ++ [q], c.dc⟩]) := by
      unfold lst
      rw [e]
      simp only
      rw [if_neg (by simp), if_neg (by simp [ptW]), o.2, Option.map_some, addQ_snoc]
    show rnL (true, acc ++ [c]) k (jn (ptW q) :: ps.map fun q => jn (ptW q)) = _
    rw [rnL_cons k _ el, ih (fun q hq => h q (by simp [hq]))]
    simp only [List.append_assoc, List.singleton_append, List.length_cons, Prod.mk.injEq, true_and]
    omega
theorem rn_ck {c : Ck} (h : TxC c) (acc : List Ck) (k : Nat) : rnL (false, acc) k (lnC c) = (some (false, acc ++ [c]), k + (lnC c).length) := by
  have o := hdW_ok h
  have e : wdO (jn (hdW c)) = some (hdW c) := wdO_of (fun w hw => (o.1 w hw).1) (by simp [hdW])
  have el : lst (false, acc) (jn (hdW c)) = some (true, acc ++ [⟨c.nm, c.ps, [], c.dc⟩]) := by
    unfold lst
    rw [e]
    show (if (false : Bool) = false then (hd (hdW c)).map (fun c => (true, acc ++ [c])) else _) = _
    rw [if_pos rfl, o.2, Option.map_some]
  have p := rn_pts c.pf h.pf acc ⟨c.nm, c.ps, [], c.dc⟩ (k + 1)
  rw [List.nil_append] at p
  have ee : lst (true, acc ++ [c]) wEn = some (false, acc ++ [c]) := by
    unfold lst
    rw [wd_end]
    show (if (true : Bool) = false then _ else if [wEn] = [wEn] then some (false, acc ++ [c]) else _) = _
    rw [if_neg (by simp), if_pos rfl]
  show rnL (false, acc) k (jn (hdW c) :: ((c.pf.map fun q => jn (ptW q)) ++ [wEn])) = _
  rw [rnL_cons k _ el, rnL_app _ _ _ _ _ _ p, rnL_cons _ _ ee]
  simp only [rnL, lnC, List.cons_append, List.length_cons, List.length_append, List.length_map, List.length_nil, Prod.mk.injEq, true_and]
  omega
theorem rn_all (l : List Ck) (h : ∀ c ∈ l, TxC c) (acc : List Ck) (k : Nat) : rnL (false, acc) k (lnA l) = (some (false, acc ++ l), k + (lnA l).length) := by
  induction l generalizing acc k with
  | nil => simp [lnA, rnL]
  | cons c l ih =>
    have e : lnA (c :: l) = lnC c ++ lnA l := rfl
    rw [e, rnL_app _ _ _ _ _ _ (rn_ck (h c (by simp)) acc k), ih (fun d hd => h d (by simp [hd]))]
    simp only [List.append_assoc, List.singleton_append, List.length_append, Prod.mk.injEq, true_and]
    omega
theorem fl_lines (ls : List (List UInt8)) (h : ∀ w ∈ ls, (10 : UInt8) ∉ w) (o : List (List UInt8)) : fl 10 (o, []) (ls.flatMap (· ++ [10])) = (o ++ ls, []) := by
  induction ls generalizing o with
  | nil => simp [fl]
  | cons w ls ih =>
    have e : (w :: ls).flatMap (· ++ [10]) = w ++ 10 :: ls.flatMap (· ++ [10]) := by simp
    rw [e, fl_sep (h w (by simp)), ih (fun v hv => h v (by simp [hv]))]
    simp
/-- what Parse reads out of a text -/
def paS (t : List UInt8) : Option (List Ck) × Nat :=
  match rnL (false, []) 0 (fl 10 ([], []) t).1 with
  | (none, k) => (none, k)
  | (some st, k) => if (fl 10 ([], []) t).2 ≠ [] ∨ st.1 = true then (none, k + 1) else (some st.2, 0)
theorem paS_prT {l : List Ck} (h : ∀ c ∈ l, TxC c) : paS (prT l) = (some l, 0) := by
  have hn : ∀ w ∈ lnA l, (10 : UInt8) ∉ w := fun w hw => by
    obtain ⟨c, hc, hw⟩ := List.mem_flatMap.1 hw
    exact ln_no10 (h c hc) w hw
  unfold paS prT
  rw [fl_lines _ hn, List.nil_append, rn_all l h]
  simp
theorem right_tx {c : Ck} (h : ccE c = 0) : TxC c := by
  obtain ⟨a, b, d, r⟩ := ccE_pf h
  refine ⟨no_nm a, b, by omega, fun q hq => ?_⟩
  obtain ⟨j, hj, rfl⟩ := List.getElem_of_mem hq
  have x := r.bx j hj
  have y := r.br j hj
  have e : c.pf.getD j (0, 0) = c.pf[j] := by simp [List.getD_eq_getElem?_getD, hj]
  unfold gX at x
  unfold gR at y
  rw [e] at x y
  omega
end Go.Proofs.YtpnlfeljmpfeoaaGreatDoor

/- The reference of layer 9: head, point. -/
namespace Go.Proofs.YtpnlfeljmpfeoaaGreatDoor
open Go.RowKit

/-- a slice reads as a list of strings -/
def Wds (w : World) (v : Value) (l : List ByteArray) : Prop :=
  ∃ a cap, v = .slice a l.length cap ∧ (l.length ≤ cap ∧ cap ≤ 9223372036854775807) ∧ (∀ s ∈ l, s.size ≤ 9223372036854775807) ∧
    (l.length = 0 ∨ ∃ b off, a = some ⟨b, off, none⟩ ∧ b < w.heap.size ∧ ∀ j (hj : j < l.length), w.cell? ⟨b, off + j, none⟩ = some (.string l[j]))
theorem Wds.below {w w' : World} {v : Value} {l : List ByteArray} (h : Wds w v l) (hb : Below w.heap.size w w') : Wds w' v l := by
  obtain ⟨a, cap, rfl, hl, hs, h | ⟨b, off, rfl, hlt, hc⟩⟩ := h
  · exact ⟨a, cap, rfl, hl, hs, .inl h⟩
  · exact ⟨_, cap, rfl, hl, hs, .inr ⟨b, off, rfl, Nat.lt_of_lt_of_le hlt hb.size, fun j hj => by rw [(bcell hb).1 _ _ hlt]; exact hc j hj⟩⟩
/-- the words, as lists of bytes -/
def wsL (l : List ByteArray) : List (List UInt8) := l.map fun s => s.data.toList
theorem refPt_len (a : Option Addr) (n cap : Nat) (w : World) (h : ((n : Int) != 4) = true) :
    Calls Tryz.prog 55 #[.slice a n cap] w fun e w' => e = .returned (.tuple #[.agg #[.int .i64 0, .int .i64 0], .bool false]) ∧ Below w.heap.size w w' := by
  have T0 := Lib.hid (Two.new w (.int .i64 0) (.int .i64 0) 46)
  go_enter Tryz.func55, Tryz.ntmps55
  go_wp2
  obtain ⟨z0, z1, _, _, _⟩ := T0.out
  refine bodyPost_ret (v := .tuple #[.agg #[.int .i64 0, .int .i64 0], .bool false]) (by simp [results, Tryz.results55, go_sem]) rfl ?_
  exact ⟨rfl, bel_alloc (Below.refl _ _)⟩
set_option maxHeartbeats 8000000 in
set_option maxRecDepth 100000 in
theorem refPt_bad (cap b off : Nat) (s0 s2 : ByteArray) (w : World) (hq : (s0.toList == [97, 116]) = false ∨ ((s0.toList == [97, 116]) = true ∧ (s2.toList == [114, 97, 100, 105, 117, 115]) = false))
    (c0 : ∀ o, (w.alloc o).cell? ⟨b, off, none⟩ = some (.string s0)) (c2 : ∀ o, (w.alloc o).cell? ⟨b, off + 2, none⟩ = some (.string s2)) :
    Calls Tryz.prog 55 #[.slice (some ⟨b, off, none⟩) 4 cap] w fun e w' => e = .returned (.tuple #[.agg #[.int .i64 0, .int .i64 0], .bool false]) ∧ Below w.heap.size w w' := by
  rcases hq with q0 | ⟨q0, q2⟩
  all_goals
    go_enter Tryz.func55, Tryz.ntmps55
    go_wp2
    refine bodyPost_ret (v := .tuple #[.agg #[.int .i64 0, .int .i64 0], .bool false]) (by simp [results, Tryz.results55, go_sem]) rfl ?_
    exact ⟨rfl, bel_alloc (Below.refl _ _)⟩
set_option maxHeartbeats 8000000 in
set_option maxRecDepth 100000 in
theorem refPt_ok (cap b off : Nat) (s0 s1 s2 s3 : ByteArray) (w : World) (hb : b < w.heap.size) (q0 : (s0.toList == [97, 116]) = true) (q2 : (s2.toList == [114, 97, 100, 105, 117, 115]) = true)
    (h1 : s1.size ≤ 9223372036854775807) (h3 : s3.size ≤ 9223372036854775807)
    (c0 : ∀ o, (w.alloc o).cell? ⟨b, off, none⟩ = some (.string s0)) (c1 : ∀ o, (w.alloc o).cell? ⟨b, off + 1, none⟩ = some (.string s1)) (c2 : ∀ o, (w.alloc o).cell? ⟨b, off + 2, none⟩ = some (.string s2)) (c3 : w.cell? ⟨b, off + 3, none⟩ = some (.string s3)) :
    Calls Tryz.prog 55 #[.slice (some ⟨b, off, none⟩) 4 cap] w fun e w' => ∃ x r bl, e = .returned (.tuple #[.agg #[.int .i64 x, .int .i64 r], .bool bl]) ∧ (bl = ((num s1.data.toList).isSome && (num s3.data.toList).isSome) ∧ (bl = true → num s1.data.toList = some x ∧ num s3.data.toList = some r)) ∧ Below w.heap.size w w' := by
  have T0 := Lib.hid (Two.new w (.int .i64 0) (.int .i64 0) 46)
  have N1 := Lib.hid (fun W => refNum_any s1 W h1)
  have N3 := Lib.hid (fun W => refNum_any s3 W h3)
  have C3 := Lib.hid c3
  clear c3
  go_enter Tryz.func55, Tryz.ntmps55
  go_wp2_with fail
  refine (N1.out _).mono ?_
  rintro e w1 ⟨x, b1, rfl, hx, gg⟩
  replace T0 := Lib.hid (T0.out.below gg)
  have X1 := Lib.hid (bel_alloc gg); clear gg
  have HX := Lib.hid hx; clear hx
  have c3' : w1.cell? ⟨b, off + 3, none⟩ = some (.string s3) := by rw [(bcell X1.out).1 _ _ hb]; exact C3.out
  go_wp2_with fail
  refine (N3.out _).mono ?_
  rintro e w2 ⟨r, b3, rfl, hr, gg⟩
  replace T0 := Lib.hid (T0.out.below gg)
  replace X1 := Lib.hid (bel_trans X1.out gg); clear gg
  have HR := Lib.hid hr; clear hr
  obtain ⟨z0, z1, f0, f1, _⟩ := T0.out
  obtain ⟨t0, t1⟩ := two_read w2 w.heap.size (.int .i64 x) (.int .i64 r) z0 z1
  cases b1 with
  | false =>
    go_wp2
    refine bodyPost_ret (v := .tuple #[.agg #[.int .i64 x, .int .i64 r], .bool false]) (by simp [results, Tryz.results55, go_sem, t0, t1]) rfl ?_
    exact ⟨_, _, _, rfl, ⟨by rw [← HX.out.1]; rfl, fun h => by cases h⟩, (X1.out.setCell (Nat.le_refl _) _).setCell (Nat.le_refl _) _⟩
  | true =>
    go_wp2
    refine bodyPost_ret (v := .tuple #[.agg #[.int .i64 x, .int .i64 r], .bool b3]) (by simp [results, Tryz.results55, go_sem, t0, t1]) rfl ?_
    exact ⟨_, _, _, rfl, ⟨by rw [← HX.out.1, ← HR.out.1]; rfl, fun h => ⟨HX.out.2 (by simp), HR.out.2 h⟩⟩, (X1.out.setCell (Nat.le_refl _) _).setCell (Nat.le_refl _) _⟩
theorem wsL_four (l : List ByteArray) (h : l.length = 4) : ∃ s0 s1 s2 s3, l = [s0, s1, s2, s3] := by
  match l, h with
  | [a, b, c, d], _ => exact ⟨a, b, c, d, rfl⟩
theorem pnt_len (ws : List (List UInt8)) (h : ws.length ≠ 4) : pnt ws = none := by
  unfold pnt
  split
  · exact absurd rfl h
  · rfl
theorem refPt_any (v : Value) (l : List ByteArray) (w : World) (hv : Wds w v l) :
    Calls Tryz.prog 55 #[v] w fun e w' => ∃ x r b, e = .returned (.tuple #[.agg #[.int .i64 x, .int .i64 r], .bool b]) ∧ (b = (pnt (wsL l)).isSome ∧ (b = true → pnt (wsL l) = some (x, r))) ∧ Below w.heap.size w w' := by
  obtain ⟨a, cap, rfl, hl, hs, hh⟩ := hv
  by_cases h4 : l.length = 4
  · obtain ⟨s0, s1, s2, s3, rfl⟩ := wsL_four l h4
    rcases hh with hh | ⟨b, off, rfl, hb, hc⟩
    · simp at hh
    · have c : ∀ j (hj : j < 4) o, (w.alloc o).cell? ⟨b, off + j, none⟩ = some (.string ([s0, s1, s2, s3][j])) := fun j hj o => by rw [World.cell?_alloc_lt _ _ _ hb]; exact hc j hj
      have c0 := c 0 (by omega)
      have c1 := c 1 (by omega)
      have c2 := c 2 (by omega)
      have c3 := hc 3 (show 3 < 4 by omega)
      simp only [Nat.add_zero, List.getElem_cons_zero] at c0
      have e0 : (s0.toList == [97, 116]) = decide (s0.data.toList = wAt) := by rw [ByteArray.toList_eq, Bool.eq_iff_iff]; unfold wAt; simp
      have e2 : (s2.toList == [114, 97, 100, 105, 117, 115]) = decide (s2.data.toList = wRa) := by rw [ByteArray.toList_eq, Bool.eq_iff_iff]; unfold wRa; simp
      have ep : pnt (wsL [s0, s1, s2, s3]) = if s0.data.toList = wAt ∧ s2.data.toList = wRa then (match num s1.data.toList, num s3.data.toList with | some u, some v => some (u, v) | _, _ => none) else none := rfl
      by_cases q0 : s0.data.toList = wAt
      · by_cases q2 : s2.data.toList = wRa
        · rw [ep, if_pos ⟨q0, q2⟩]
          refine (refPt_ok cap b off s0 s1 s2 s3 w hb (by rw [e0]; exact decide_eq_true q0) (by rw [e2]; exact decide_eq_true q2) (hs _ (by simp)) (hs _ (by simp)) c0 c1 c2 c3).mono fun e w' ⟨x, r, bl, g1, ⟨g2, g3⟩, g4⟩ => ⟨x, r, bl, g1, ⟨?_, fun h => ?_⟩, g4⟩
          · rw [g2]
            cases num s1.data.toList <;> cases num s3.data.toList <;> rfl
          · obtain ⟨i1, i2⟩ := g3 h
            rw [i1, i2]
        · rw [ep, if_neg (fun h => q2 h.2)]
          exact (refPt_bad cap b off s0 s2 w (.inr ⟨by rw [e0]; exact decide_eq_true q0, by rw [e2]; exact decide_eq_false q2⟩) c0 c2).mono fun e w' g => ⟨0, 0, false, g.1, ⟨rfl, fun h => by cases h⟩, g.2⟩
      · rw [ep, if_neg (fun h => q0 h.1)]
        exact (refPt_bad cap b off s0 s2 w (.inl (by rw [e0]; exact decide_eq_false q0)) c0 c2).mono fun e w' g => ⟨0, 0, false, g.1, ⟨rfl, fun h => by cases h⟩, g.2⟩
  · rw [pnt_len _ (by unfold wsL; rw [List.length_map]; exact h4)]
    exact (refPt_len a l.length cap w (by simp only [bne_iff_ne, ne_eq]; omega)).mono fun e w' g => ⟨0, 0, false, g.1, ⟨rfl, fun h => by cases h⟩, g.2⟩
end Go.Proofs.YtpnlfeljmpfeoaaGreatDoor

/- The reference of layer 9: Copy. -/
namespace Go.Proofs.YtpnlfeljmpfeoaaGreatDoor
open Go.RowKit

theorem ck_info : (Tryz.prog.info? 27).map (fun i => (i.zero, i.size, i.bytes)) = some (some (.agg #[.string ByteArray.empty, .int .i64 0, .slice none 0 0, .int .i64 0]), 4, 56) := by kernel_rfl
/-- the cells of a cask -/
def ckCells (c : Ck) (pv : Value) : List Value := [.string c.nm, .int .i64 c.ps, pv, .int .i64 c.dc]
def flatC : List (Ck × Value) → List Value
  | [] => []
  | q :: l => ckCells q.1 q.2 ++ flatC l
theorem flatC_len (l : List (Ck × Value)) : (flatC l).length = l.length * 4 := by
  induction l with
  | nil => rfl
  | cons q l ih => simp only [flatC, ckCells, List.length_append, List.length_cons, List.length_nil, ih]; omega
theorem flatC_app (l m : List (Ck × Value)) : flatC (l ++ m) = flatC l ++ flatC m := by
  induction l with
  | nil => rfl
  | cons q l ih => simp only [List.cons_append, flatC, ih, List.append_assoc]
theorem flatC_at (l : List (Ck × Value)) (j : Nat) (h : j < l.length) : (flatC l)[j * 4]? = some (.string l[j].1.nm) ∧ (flatC l)[j * 4 + 1]? = some (.int .i64 l[j].1.ps) ∧ (flatC l)[j * 4 + 2]? = some l[j].2 ∧ (flatC l)[j * 4 + 3]? = some (.int .i64 l[j].1.dc) := by
  induction l generalizing j with
  | nil => simp at h
  | cons q l ih =>
    cases j with
    | zero => simp [flatC, ckCells]
    | succ j =>
      have := ih j (by simpa using h)
      rw [show (j + 1) * 4 = j * 4 + 1 + 1 + 1 + 1 by omega]
      simp only [flatC, ckCells, List.cons_append, List.nil_append, List.getElem?_cons_succ, List.getElem_cons_succ]
      exact this
theorem own_apart {w : World} {B B' n m size size' : Nat} {e e' : TypeId} {p v : Value} {xs ys : List Value} (he : e ≠ e') (h : w.ownsRow B e size p n xs) (h' : w.ownsRow B' e' size' v m ys) : p.ownBlock = none ∨ p.ownBlock ≠ v.ownBlock := by
  rcases h.2 with ⟨rfl, _⟩ | ⟨g, c, cur, rfl, _, hg, _⟩
  · exact .inl rfl
  · rcases h'.2 with ⟨rfl, _⟩ | ⟨g', c', cur', rfl, _, hg', _⟩
    · right; simp [Value.ownBlock]
    · right
      simp only [Value.ownBlock, ne_eq, Option.some.injEq]
      intro hgg
      rw [hgg, hg'] at hg
      simp only [Option.some.injEq, Obj.cells.injEq] at hg
      exact he hg.2.1.symm
/-- casks of the call's own: the row, and a list of points of one's own for each -/
def OwnC (w : World) (B : Nat) (v : Value) (l : List Ck) : Prop :=
  ∃ ps : List Value, ps.length = l.length ∧ w.ownsRow B 27 4 v l.length (flatC (l.zip ps)) ∧ ∀ q ∈ l.zip ps, OwnP w B q.2 q.1.pf
theorem own_one {w : World} {B n size : Nat} {e : TypeId} {v : Value} {xs : List Value} (h : w.ownsRow B e size v n xs) (B' : Nat) (hB : B' ≤ B) : w.ownsRow B' e size v n xs := by
  obtain ⟨h1, h2⟩ := h
  refine ⟨h1, ?_⟩
  rcases h2 with h2 | ⟨g, c, cur, hv, hg, r⟩
  · exact .inl h2
  · exact .inr ⟨g, c, cur, hv, Nat.le_trans hB hg, r⟩
/-- one more cask -/
theorem OwnC.snoc {W W' : World} {B : Nat} {v v' : Value} {l : List Ck} {c : Ck} {p : Value} {ps : List Value} (h1 : ps.length = l.length) (h2 : W.ownsRow B 27 4 v l.length (flatC (l.zip ps))) (h3 : ∀ q ∈ l.zip ps, OwnP W B q.2 q.1.pf) (hg : W.grownBy W' v.ownBlock) (hp : OwnP W B p c.pf)
    (h4 : W'.ownsRow B 27 4 v' (l.length + 1) (flatC (l.zip ps) ++ ckCells c p)) : OwnC W' B v' (l ++ [c]) := by
  have hz : (l ++ [c]).zip (ps ++ [p]) = l.zip ps ++ [(c, p)] := by
    rw [List.zip_append h1.symm]; rfl
  refine ⟨ps ++ [p], by simp [h1], ?_, ?_⟩
  · rw [hz, flatC_app, List.length_append]
    exact h4
  · rw [hz]
    intro q hq
    have k : OwnP W B q.2 q.1.pf := by
      rcases List.mem_append.1 hq with hq | hq
      · exact h3 q hq
      · rw [List.mem_singleton] at hq; subst hq; exact hp
    exact World.ownsRow.kept k hg (own_apart (by decide) k h2)
theorem row_bel {W W' : World} {B n size : Nat} {e : TypeId} {v : Value} {xs : List Value} (h : W.ownsRow B e size v n xs) (hb : Below W.heap.size W W') : W'.ownsRow B e size v n xs := by
  obtain ⟨h1, h2⟩ := h
  refine ⟨h1, ?_⟩
  rcases h2 with h2 | ⟨g, c, cur, hv, hg, hh, r⟩
  · exact .inl h2
  · refine .inr ⟨g, c, cur, hv, hg, ?_, r⟩
    rw [hb.block g (Array.getElem?_eq_some_iff.1 hh).1]; exact hh
theorem OwnC.below {W W' : World} {B : Nat} {v : Value} {l : List Ck} (h : OwnC W B v l) (hb : Below W.heap.size W W') : OwnC W' B v l := by
  obtain ⟨ps, h1, h2, h3⟩ := h
  exact ⟨ps, h1, row_bel h2 hb, fun q hq => row_bel (h3 q hq) hb⟩
theorem Quad.grown {b : Nat} {W W' : World} {row : Option Nat} {x y z u : Value} (h : Quad b W x y z u) (hg : W.grownBy W' row) (hr : some b ≠ row) : Quad b W' x y z u := by
  obtain ⟨h0, h1, h2, h3, h4, h5⟩ := h
  have e := hg.block b h5 hr
  have f : ∀ k, W'.cell? ⟨b, k, none⟩ = W.cell? ⟨b, k, none⟩ := fun k => World.cell?_of_block (a := ⟨b, k, none⟩) e
  exact ⟨by rw [f]; exact h0, by rw [f]; exact h1, by rw [f]; exact h2, by rw [f]; exact h3, fun k hk => by rw [World.frozen?_of_block (a := ⟨b, k, none⟩) e]; exact h4 k hk, Nat.lt_of_lt_of_le h5 hg.size⟩
theorem Quad.set2 {b : Nat} {W : World} {x y z u : Value} (h : Quad b W x y z u) (t : Value) : Quad b (W.setCell ⟨b, 2, none⟩ t) x y t u := by
  obtain ⟨h0, h1, h2, h3, h4, h5⟩ := h
  refine ⟨?_, ?_, ?_, ?_, fun k hk => ?_, ?_⟩
  · rw [World.cell?_setCell_other _ _ _ _ (by simp)]; exact h0
  · rw [World.cell?_setCell_other _ _ _ _ (by simp)]; exact h1
  · exact World.cell?_setCell_same _ _ _ h2
  · rw [World.cell?_setCell_other _ _ _ _ (by simp)]; exact h3
  · rw [World.frozen?_setCell]; exact h4 k hk
  · simpa [World.setCell] using h5
theorem grown_set (W : World) (b i : Nat) (v : Value) : W.grownBy (W.setCell ⟨b, i, none⟩ v) (some b) :=
  ⟨rfl, rfl, rfl, by simp [World.setCell], fun k _ hne => Below.heap_setCell _ _ _ _ (by intro e; exact hne (by rw [e]))⟩
theorem OwnC.cks {W : World} {B : Nat} {v : Value} {l : List Ck} (h : OwnC W B v l) (hn : ∀ c ∈ l, c.nm.size ≤ 9223372036854775807 ∧ (-9223372036854775808 ≤ c.ps ∧ c.ps ≤ 9223372036854775807) ∧ (-9223372036854775808 ≤ c.dc ∧ c.dc ≤ 9223372036854775807)) : Cks W v l := by
  obtain ⟨ps, h1, h2, h3⟩ := h
  have h2' := h2
  obtain ⟨_, h4⟩ := h2
  rcases h4 with ⟨rfl, h0⟩ | ⟨g, cap, cur, rfl, hg, hh, hc, hm, _⟩
  · exact ⟨none, 0, by rw [h0], by omega, .inl h0⟩
  · have hlt : g < W.heap.size := (Array.getElem?_eq_some_iff.1 hh).1
    unfold maxLen at hm
    refine ⟨_, cap, rfl, ⟨hc, by omega⟩, .inr ⟨g, 0, rfl, hlt, fun j hj => ?_⟩⟩
    have hcell := World.ownsRow.cells h2' (g := g) rfl
    have hjz : j < (l.zip ps).length := by simp; omega
    have hf := flatC_at (l.zip ps) j hjz
    have hz : (l.zip ps)[j] = (l[j], ps[j]'(by omega)) := by simp
    rw [hz] at hf
    obtain ⟨f0, f1, f2, f3⟩ := hf
    have c0 := hcell _ _ f0
    have c1 := hcell _ _ f1
    have c2 := hcell _ _ f2
    have c3 := hcell _ _ f3
    rw [Go.WideShapes.add_plain] at c0 c1 c2 c3
    have hp := OwnP.pts (h3 (l[j], ps[j]'(by omega)) (by rw [← hz]; exact List.getElem_mem _))
    obtain ⟨a, cp, e, _, _⟩ := hp.shape
    simp only at e hp
    rw [e] at hp c2
    exact ⟨_, _, _, _, c0, by rw [Nat.add_assoc]; exact c1, by rw [Nat.add_assoc]; exact c2, by rw [Nat.add_assoc]; exact c3, a, cp, rfl, hp, hn _ (List.getElem_mem _)⟩
theorem own_far {w : World} {B n size b i : Nat} {e : TypeId} {v z : Value} {xs : List Value} (h : w.ownsRow B e size v n xs) (hb : b < B) : (w.setCell ⟨b, i, none⟩ z).ownsRow B e size v n xs :=
  World.ownsRow.kept h (grown_set w b i z) (by
    by_cases q : v.ownBlock = some b
    · have := (h.lt b q).1; omega
    · exact .inr q)
theorem OwnC.one {W : World} {B : Nat} {u : Value} {c : Ck} (h : OwnC W B u [c]) : ∃ g cap a cp, u = .slice (some ⟨g, 0, none⟩) 1 cap ∧ B ≤ g ∧ W.cell? ⟨g, 0, none⟩ = some (.string c.nm) ∧ W.cell? ⟨g, 1, none⟩ = some (.int .i64 c.ps) ∧ W.cell? ⟨g, 2, none⟩ = some (.slice a c.pf.length cp) ∧ W.cell? ⟨g, 3, none⟩ = some (.int .i64 c.dc) ∧ OwnP W B (.slice a c.pf.length cp) c.pf := by
  obtain ⟨ps, h1, h2, h3⟩ := h
  obtain ⟨p, rfl⟩ : ∃ p, ps = [p] := by
    rcases ps with _ | ⟨p, _ | ⟨q, ps⟩⟩ <;> simp at h1
    exact ⟨p, rfl⟩
  have hP : OwnP W B p c.pf := h3 (c, p) (by simp)
  obtain ⟨a, cp, rfl, _, _⟩ := hP.pts.shape
  have h2' := h2
  obtain ⟨_, h4⟩ := h2
  rcases h4 with ⟨_, h0⟩ | ⟨g, cap, cur, rfl, hg, _⟩
  · simp at h0
  · have hcell := World.ownsRow.cells h2' (g := g) rfl
    have c0 := hcell 0 (.string c.nm) (by simp [flatC, ckCells])
    have c1 := hcell 1 (.int .i64 c.ps) (by simp [flatC, ckCells])
    have c2 := hcell 2 (.slice a c.pf.length cp) (by simp [flatC, ckCells])
    have c3 := hcell 3 (.int .i64 c.dc) (by simp [flatC, ckCells])
    rw [Go.WideShapes.add_plain] at c0 c1 c2 c3
    exact ⟨g, cap, a, cp, rfl, hg, c0, c1, c2, c3, hP⟩
end Go.Proofs.YtpnlfeljmpfeoaaGreatDoor

/- The reference of layer 9: Copy, walked. -/
namespace Go.Proofs.YtpnlfeljmpfeoaaGreatDoor
open Go.RowKit

theorem wpList_append_run {P : Program} {w : World} {ops : Array Oper} {rest : List Oper} {o : Oper} {a : Act} {Q : Exit → Act → World → Prop} (hgd : o.guard = none) (s x : Operand) (t : TypeId)
    (ho : o.op = .call { callee := .builtin .append, args := #[s, x], argTypes := #[t, t] }) (v x' v' : Value) (w' : World) (hs : a.eval s = v) (hx : a.eval x = x')
    (hr : (Builtin.append_ #[t, t] o.type #[v, x']).run P w = .ok v' w') (h : wpList P ops Q rest (a.put o.dst v') w') : wpList P ops Q (o :: rest) a w := by
  refine wpList_plain hgd fun K hK => ?_
  unfold Oper.wp execOp
  simp only [ho, resolve, invoke, builtin, Sem.run_bind, Sem.run_pure, Result.andThen_ok, List.map_toArray, List.map_cons, List.map_nil, hs, hx, hr]
  exact hK _ _ h
theorem ckCells_one (c : Ck) (p : Value) (hp : p.oneCell' = true) : ∀ u ∈ ckCells c p, u.oneCell' = true := by
  intro u hu
  simp only [ckCells, List.mem_cons, List.not_mem_nil, or_false] at hu
  rcases hu with rfl | rfl | rfl | rfl <;> first | rfl | exact hp
theorem own_oneCell {W : World} {B n size : Nat} {e : TypeId} {v : Value} {xs : List Value} (h : W.ownsRow B e size v n xs) : v.oneCell' = true := by
  rcases h.2 with ⟨rfl, _⟩ | ⟨g, c, cur, rfl, _⟩ <;> rfl
/-- a block of four cells that was laid, as what is appended -/
theorem quad_news (w : World) (x y z u : Value) (t : TypeId) : ∀ j v, [x, y, z, u][j]? = some v → (w.alloc (.cells #[x, y, z, u] t)).cell? ((⟨w.heap.size, 0, none⟩ : Addr).add j) = some v := by
  intro j v hj
  have hlt : j < 4 := by have := (List.getElem?_eq_some_iff.1 hj).1; simpa using this
  rw [Go.WideShapes.add_plain, World.cell?_alloc_new]
  simpa using hj
set_option maxHeartbeats 16000000 in
set_option maxRecDepth 100000 in
theorem refCopy_some (b off n cap : Nat) (l : List Ck) (w : World) (n1 : n ≤ 1000) (hn : Hid (n = l.length)) (hb : b < w.heap.size) (hp : Hid (∀ c ∈ l, c.pf.length ≤ 1000))
    (hc : Hid (∀ j (hj : j < l.length), CkAt w b off j l[j])) :
    Calls Tryz.prog 13 #[.slice (some ⟨b, off, none⟩) n cap] w fun e w' => ∃ u, e = .returned u ∧ OwnC w' w.heap.size u l ∧ Below w.heap.size w w' := by
  obtain ⟨i0, hi0, hz0, hz1, hz2⟩ := info_parts pt_info
  obtain ⟨j0, hj0, gz0, gz1, gz2⟩ := info_parts ck_info
  have hi0 := Lib.hid hi0
  have hz0 := Lib.hid hz0
  have hz1 := Lib.hid hz1
  have hz2 := Lib.hid hz2
  have hj0 := Lib.hid hj0
  have gz0 := Lib.hid gz0
  have gz1 := Lib.hid gz1
  have gz2 := Lib.hid gz2
  go_enter Tryz.func13, Tryz.ntmps13
  go_wp2_with fail
  go_loopw [3, 4] (fun out ii wr => ∃ k : Nat, k ≤ n ∧ ii = .int .i64 k ∧ Hid (OwnC wr w.heap.size out (l.take k)) ∧ Hid (Below w.heap.size w wr)) (fun _ ii _ => n - (intOf ii).toNat)
  case atStart => exact ⟨0, by omega, rfl, ⟨[], rfl, World.ownsRow_nil _ _ _ _, fun q hq => by simp at hq⟩, Below.refl _ _⟩
  case round =>
    obtain ⟨k, hk, rfl, hO, hB⟩ := hrel
    by_cases hlt : k < n
    · have hkl : k < l.length := by rw [← hn.out]; exact hlt
      obtain ⟨a, cp, c0, c1, c2, c3, hP, _⟩ := (hc.out k hkl).below hb hB.out
      have hP := Lib.hid hP
      have hs := hp.out _ (List.getElem_mem hkl)
      have eT : l.take (k + 1) = l.take k ++ [l[k]] := by rw [List.take_succ_eq_append_getElem hkl]
      have eT := Lib.hid eT
      have hT : (l.take k).length = k := by simp; omega
      have hT := Lib.hid hT
      have l1 : (k : Int) < (n : Int) := by omega
      generalize hcc : l[k] = c at *
      have HB0 := hB.out
      have HS := Lib.hid HB0.size
      cases a with
      | none =>
        have hL : c.pf = [] := by
          obtain ⟨a', cp', e, _, hh⟩ := hP.out
          rcases hh with hh | ⟨pb, poff, e2, _⟩
          · exact List.length_eq_zero_iff.1 hh
          · simp only [Value.slice.injEq] at e
            rw [e2] at e; cases e.1
        have hL0 : c.pf.length = 0 := by rw [hL]; rfl
        rw [hL0] at c2
        have AN : ∀ W : World, (Builtin.append_ #[25, 25] 25 #[.slice (some ⟨wr.heap.size + 1, 0, none⟩) 0 0, .slice none 0 cp]).run Tryz.prog W = .ok (.slice (some ⟨wr.heap.size + 1, 0, none⟩) 0 0) W := fun W => run_append_nothing W _ _ _ 46 i0 Tryz.underlying25 hi0.out _ 0 0 (Nat.le_refl _) _ (Src.ofNil W Tryz.underlying25 cp)
        have oc : (Value.slice (some ⟨wr.heap.size + 1, 0, none⟩) 0 0).oneCell' = true := rfl
        clear hP
        generalize hnm : c.nm = nm at *
        generalize hps : c.ps = ps at *
        generalize hdc : c.dc = dc at *
        have OP2 : Hid (OwnP ((wr.alloc (.cells #[.string nm, .int .i64 ps, .slice (some ⟨wr.heap.size + 1, 0, none⟩) 0 0, .int .i64 dc] 27)).alloc (.cells #[] 46)) w.heap.size (.slice (some ⟨wr.heap.size + 1, 0, none⟩) 0 0) c.pf) := by
          have := World.ownsRow_made (e := 46) (size := 2) (base := w.heap.size) (wr.alloc (.cells #[.string nm, .int .i64 ps, .slice (some ⟨wr.heap.size + 1, 0, none⟩) 0 0, .int .i64 dc] 27)) #[] 0 (by have := HB0.size; simp; omega) (Nat.zero_le _) (by simp)
          simp only [World.size_alloc] at this
          exact Lib.hid (by unfold OwnP; rw [hL]; exact this)
        have X2 : Hid (Below wr.heap.size wr ((wr.alloc (.cells #[.string nm, .int .i64 ps, .slice (some ⟨wr.heap.size + 1, 0, none⟩) 0 0, .int .i64 dc] 27)).alloc (.cells #[] 46))) := Lib.hid (bel_alloc (bel_alloc (Below.refl _ _)))
        clear HB0
        have FN : Hid (∀ j u, (ckCells c (.slice (some ⟨wr.heap.size + 1, 0, none⟩) 0 0))[j]? = some u → (((wr.alloc (.cells #[.string nm, .int .i64 ps, .slice (some ⟨wr.heap.size + 1, 0, none⟩) 0 0, .int .i64 dc] 27)).alloc (.cells #[] 46)).alloc (.cells #[.string nm, .int .i64 ps, (.slice (some ⟨wr.heap.size + 1, 0, none⟩) 0 0), .int .i64 dc] 27)).cell? ((⟨wr.heap.size + 1 + 1, 0, none⟩ : Addr).add j) = some u) := by
          have := quad_news ((wr.alloc (.cells #[.string nm, .int .i64 ps, .slice (some ⟨wr.heap.size + 1, 0, none⟩) 0 0, .int .i64 dc] 27)).alloc (.cells #[] 46)) (.string nm) (.int .i64 ps) (.slice (some ⟨wr.heap.size + 1, 0, none⟩) 0 0) (.int .i64 dc) 27
          have e : ((wr.alloc (.cells #[.string nm, .int .i64 ps, .slice (some ⟨wr.heap.size + 1, 0, none⟩) 0 0, .int .i64 dc] 27)).alloc (.cells #[] 46)).heap.size = wr.heap.size + 1 + 1 := by simp [World.setCell]
          rw [e] at this
          exact Lib.hid (by rw [← hnm, ← hps, ← hdc] at *; exact this)
        have X3 := X2.out.alloc X2.out.size (.cells #[.string nm, .int .i64 ps, (.slice (some ⟨wr.heap.size + 1, 0, none⟩) 0 0), .int .i64 dc] 27)
        obtain ⟨qs, o1, o2, o3⟩ := hO.out.below X3
        rw [hT.out] at o2
        have OP3 := row_bel OP2.out (bel_alloc (o := .cells #[.string nm, .int .i64 ps, (.slice (some ⟨wr.heap.size + 1, 0, none⟩) 0 0), .int .i64 dc] 27) (Below.refl _ _))
        have BS : Hid (w.heap.size ≤ (((wr.alloc (.cells #[.string nm, .int .i64 ps, .slice (some ⟨wr.heap.size + 1, 0, none⟩) 0 0, .int .i64 dc] 27)).alloc (.cells #[] 46)).alloc (.cells #[.string nm, .int .i64 ps, (.slice (some ⟨wr.heap.size + 1, 0, none⟩) 0 0), .int .i64 dc] 27)).heap.size) := Lib.hid (Nat.le_trans HS.out X3.size)
        have O1 := Lib.hid o1
        have O2 := Lib.hid o2
        have O3 := Lib.hid o3
        have Y3 := Lib.hid X3
        have P3 := Lib.hid OP3
        have OC := Lib.hid oc
        clear o1 o2 o3 X3 OP3 oc X2 OP2
        go_wp2_with (at_builtin; first | (refine wpList_append_run rfl _ _ 25 rfl _ _ _ _ rfl rfl (AN _) ?_) | (refine wpList_append_own_at _ rfl _ _ 22 rfl w.heap.size 27 j0 (.agg #[.string ByteArray.empty, .int .i64 0, .slice none 0 0, .int .i64 0]) 4 56 Tryz.underlying22 hj0.out gz0.out gz1.out gz2.out rfl (by omega) _ _ _ rfl O2.out ⟨wr.heap.size + 1 + 1, 0, none⟩ 1 1 (ckCells c (.slice (some ⟨wr.heap.size + 1, 0, none⟩) 0 0)) rfl rfl FN.out (ckCells_one c (.slice (some ⟨wr.heap.size + 1, 0, none⟩) 0 0) OC.out) ?qd4 ?qd5 BS.out ?_))
        case qd4 => unfold maxLen; omega
        case qd5 => omega
        intro v2 w2 hown hgrow _ hat
        have SN := Lib.hid (OwnC.snoc (c := c) O1.out (by rw [hT.out]; exact O2.out) O3.out hgrow P3.out (by rw [hT.out]; exact hown))
        rw [← eT.out] at SN
        have B2 := Lib.hid ((bel_trans hB.out Y3.out).grown hgrow BS.out (fun q hq => (World.ownsRow.lt O2.out q hq).1))
        clear hown hgrow hat O1 O2 O3 P3 FN
        go_wp2
        go_roundw
        case rel => exact ⟨k + 1, by omega, by go_num, SN, B2⟩
        case measure => simp [intOf]; omega
      | some ad =>
        have NW : Hid (∀ W, Below wr.heap.size wr W → ∀ j u, (flat c.pf)[j]? = some u → W.cell? (ad.add j) = some u) := fun W hW j u hj => by
          have hq := hP.out.below hW
          obtain ⟨a', cp', e, _, hh⟩ := hq
          simp only [Value.slice.injEq] at e
          obtain ⟨rfl, _, rfl⟩ := e
          rcases hh with hh | ⟨pb, poff, e, _, hcl⟩
          · obtain h0 := List.length_eq_zero_iff.1 hh
            rw [h0] at hj; simp [flat] at hj
          · obtain rfl := Option.some.inj e
            obtain ⟨i, hi, ⟨rfl, rfl⟩ | ⟨rfl, rfl⟩⟩ := flat_inv c.pf j u hj
            · rw [Go.WideShapes.add_plain]; exact (hcl i hi).1
            · rw [Go.WideShapes.add_plain, ← Nat.add_assoc]; exact (hcl i hi).2
        have OM : Hid (((wr.alloc (.cells #[.string c.nm, .int .i64 c.ps, .slice (some ad) c.pf.length cp, .int .i64 c.dc] 27)).alloc (.cells #[] 46)).ownsRow w.heap.size 46 2 (.slice (some ⟨wr.heap.size + 1, 0, none⟩) 0 0) 0 []) := by
          have := World.ownsRow_made (e := 46) (size := 2) (base := w.heap.size) (wr.alloc (.cells #[.string c.nm, .int .i64 c.ps, .slice (some ad) c.pf.length cp, .int .i64 c.dc] 27)) #[] 0 (by have := HB0.size; simp; omega) (Nat.zero_le _) (by simp)
          exact Lib.hid (by simpa using this)
        have F0 := Lib.hid ((Quad.new wr (.string c.nm) (.int .i64 c.ps) (.slice (some ad) c.pf.length cp) (.int .i64 c.dc) 27).alloc (.cells #[] 46))
        have fl := Lib.hid (flat_len c.pf)
        have fo := Lib.hid (flat_one c.pf)
        clear HB0 hP
        generalize hL : c.pf.length = L at *
        generalize hnm : c.nm = nm at *
        generalize hps : c.ps = ps at *
        generalize hdc : c.dc = dc at *
        go_wp2_with (at_builtin; refine wpList_append_own_at _ rfl _ _ 25 rfl w.heap.size 46 i0 (.agg #[.int .i64 0, .int .i64 0]) 2 16 Tryz.underlying25 hi0.out hz0.out hz1.out hz2.out rfl (by omega) _ _ _ rfl OM.out ad L cp (flat c.pf) rfl ?qc1 ?qc2 ?qc3 ?qc4 ?qc5 ?qc6 ?_)
        case qc1 => exact fl.out
        case qc2 => exact NW.out _ (bel_alloc (bel_alloc (Below.refl _ _)))
        case qc3 => exact fo.out
        case qc4 => rw [Nat.zero_add]; unfold maxLen; omega
        case qc5 => rw [Nat.zero_add]; omega
        case qc6 => have := HS.out; simp; omega
        intro v0 w1 hown hgrow hnil hat
        obtain ⟨g', cap', hv0⟩ : ∃ g' cap', v0 = .slice (some ⟨g', 0, none⟩) L cap' := by
          rcases hown.2 with ⟨h0, _⟩ | ⟨g', cap', _, h0, _⟩
          · exact absurd h0 (by simpa using hnil)
          · exact ⟨g', cap', by simpa using h0⟩
        subst hv0
        clear hnil
        have hvb : (Value.slice (some ⟨g', 0, none⟩) L cap').ownBlock ≠ some wr.heap.size := by
          rcases hat with hat | hat
          · rw [hat]; simp [Value.ownBlock]
          · rw [hat]; simp; omega
        have F1 := Lib.hid (F0.out.grown hgrow (by simp [Value.ownBlock]))
        have X1 := Lib.hid ((bel_alloc (bel_alloc (Below.refl _ _)) : Below wr.heap.size wr _).grown hgrow (by simp; omega) (by intro q hq; simp [Value.ownBlock] at hq; omega))
        have OP : Hid (OwnP w1 w.heap.size (.slice (some ⟨g', 0, none⟩) L cap') c.pf) := Lib.hid (by unfold OwnP; rw [hL]; simpa using hown)
        have oc := own_oneCell hown
        clear hown hgrow hat F0 OM NW fl fo
        obtain ⟨f0, f1, f2, f3, f4, f5⟩ := F1.out
        have f42 := f4 2 (by omega)
        obtain ⟨g0, g1, g2, g3, _, _⟩ := F1.out.set2 (.slice (some ⟨g', 0, none⟩) L cap')
        have OP2 : Hid (OwnP (w1.setCell ⟨wr.heap.size, 2, none⟩ (.slice (some ⟨g', 0, none⟩) L cap')) w.heap.size (.slice (some ⟨g', 0, none⟩) L cap') c.pf) := Lib.hid (World.ownsRow.kept OP.out (grown_set w1 wr.heap.size 2 (.slice (some ⟨g', 0, none⟩) L cap')) (.inr hvb))
        have X2 := Lib.hid (X1.out.setCell (p := ⟨wr.heap.size, 2, none⟩) (Nat.le_refl _) (.slice (some ⟨g', 0, none⟩) L cap'))
        clear f4
        have FN : Hid (∀ j u, (ckCells c (.slice (some ⟨g', 0, none⟩) L cap'))[j]? = some u → ((w1.setCell ⟨wr.heap.size, 2, none⟩ (.slice (some ⟨g', 0, none⟩) L cap')).alloc (.cells #[.string nm, .int .i64 ps, (.slice (some ⟨g', 0, none⟩) L cap'), .int .i64 dc] 27)).cell? ((⟨w1.heap.size, 0, none⟩ : Addr).add j) = some u) := by
          have := quad_news (w1.setCell ⟨wr.heap.size, 2, none⟩ (.slice (some ⟨g', 0, none⟩) L cap')) (.string nm) (.int .i64 ps) (.slice (some ⟨g', 0, none⟩) L cap') (.int .i64 dc) 27
          have e : (w1.setCell ⟨wr.heap.size, 2, none⟩ (.slice (some ⟨g', 0, none⟩) L cap')).heap.size = w1.heap.size := by simp [World.setCell]
          rw [e] at this
          exact Lib.hid (by rw [← hnm, ← hps, ← hdc] at *; exact this)
        have X3 := X2.out.alloc X2.out.size (.cells #[.string nm, .int .i64 ps, (.slice (some ⟨g', 0, none⟩) L cap'), .int .i64 dc] 27)
        obtain ⟨qs, o1, o2, o3⟩ := hO.out.below X3
        rw [hT.out] at o2
        have OP3 := row_bel OP2.out (bel_alloc (o := .cells #[.string nm, .int .i64 ps, (.slice (some ⟨g', 0, none⟩) L cap'), .int .i64 dc] 27) (Below.refl _ _))
        have BS : Hid (w.heap.size ≤ ((w1.setCell ⟨wr.heap.size, 2, none⟩ (.slice (some ⟨g', 0, none⟩) L cap')).alloc (.cells #[.string nm, .int .i64 ps, (.slice (some ⟨g', 0, none⟩) L cap'), .int .i64 dc] 27)).heap.size) := Lib.hid (Nat.le_trans HS.out X3.size)
        have O1 := Lib.hid o1
        have O2 := Lib.hid o2
        have O3 := Lib.hid o3
        have Y3 := Lib.hid X3
        have P3 := Lib.hid OP3
        have OC := Lib.hid oc
        clear o1 o2 o3 X3 OP3 oc X1 X2 OP OP2 F1
        go_wp2_with (at_builtin; refine wpList_append_own_at _ rfl _ _ 22 rfl w.heap.size 27 j0 (.agg #[.string ByteArray.empty, .int .i64 0, .slice none 0 0, .int .i64 0]) 4 56 Tryz.underlying22 hj0.out gz0.out gz1.out gz2.out rfl (by omega) _ _ _ rfl O2.out ⟨w1.heap.size, 0, none⟩ 1 1 (ckCells c (.slice (some ⟨g', 0, none⟩) L cap')) rfl rfl FN.out (ckCells_one c (.slice (some ⟨g', 0, none⟩) L cap') OC.out) ?qd4 ?qd5 BS.out ?_)
        case qd4 => unfold maxLen; omega
        case qd5 => omega
        intro v2 w2 hown hgrow _ hat
        have SN := Lib.hid (OwnC.snoc (c := c) O1.out (by rw [hT.out]; exact O2.out) O3.out hgrow P3.out (by rw [hT.out]; exact hown))
        rw [← eT.out] at SN
        have B2 := Lib.hid ((bel_trans hB.out Y3.out).grown hgrow BS.out (fun q hq => (World.ownsRow.lt O2.out q hq).1))
        clear hown hgrow hat O1 O2 O3 P3 FN
        go_wp2
        go_roundw
        case rel => exact ⟨k + 1, by omega, by go_num, SN, B2⟩
        case measure => simp [intOf]; omega
    · obtain rfl : k = n := by omega
      go_wp2
      go_returns
      exact ⟨_, rfl, by have := hO.out; rwa [hn.out, List.take_length] at this, hB.out⟩
theorem refCopy_nil (a : Option Addr) (cap : Nat) (w : World) :
    Calls Tryz.prog 13 #[.slice a 0 cap] w fun e w' => ∃ u, e = .returned u ∧ OwnC w' w.heap.size u [] ∧ Below w.heap.size w w' := by
  have H0 : Hid (OwnC w w.heap.size (.slice none 0 0) []) := ⟨[], rfl, World.ownsRow_nil _ _ _ _, fun q hq => by simp at hq⟩
  go_enter Tryz.func13, Tryz.ntmps13
  go_wp2_with fail
  go_loopw [3, 4] (fun out ii wr => ii = .int .i64 0 ∧ out = .slice none 0 0 ∧ wr = w) (fun _ _ _ => 0)
  case atStart => exact ⟨rfl, rfl, rfl⟩
  case round =>
    obtain ⟨rfl, rfl, rfl⟩ := hrel
    go_wp2
    go_returns
    exact ⟨_, rfl, H0.out, Below.refl _ _⟩
theorem refCopy_any (v : Value) (l : List Ck) (w : World) (hv : Cks w v l) (hl : l.length ≤ 1000) (hp : ∀ c ∈ l, c.pf.length ≤ 1000) :
    Calls Tryz.prog 13 #[v] w fun e w' => ∃ u, e = .returned u ∧ OwnC w' w.heap.size u l ∧ Below w.heap.size w w' := by
  by_cases h0 : 0 < l.length
  · obtain ⟨b, off, cap, rfl, hb, _, hc⟩ := hv.cks h0
    exact refCopy_some b off _ cap l w hl rfl hb hp hc
  · obtain ⟨a, cap, rfl, _⟩ := hv.shape
    obtain rfl : l = [] := List.length_eq_zero_iff.1 (by omega)
    exact refCopy_nil a cap w
/-- the numbers of a cask are in the machine's range -/
def CkW (c : Ck) : Prop := c.nm.size ≤ 9223372036854775807 ∧ (-9223372036854775808 ≤ c.ps ∧ c.ps ≤ 9223372036854775807) ∧ (-9223372036854775808 ≤ c.dc ∧ c.dc ≤ 9223372036854775807)
theorem Cks.wide {W : World} {v : Value} {l : List Ck} (h : Cks W v l) : ∀ c ∈ l, CkW c := by
  intro c hc
  obtain ⟨j, hj, rfl⟩ := List.getElem_of_mem hc
  obtain ⟨b, off, cap, _, _, _, g⟩ := h.cks (by omega)
  obtain ⟨_, _, _, _, _, _, _, r⟩ := g j hj
  exact r
end Go.Proofs.YtpnlfeljmpfeoaaGreatDoor

/- The reference of layer 9: Words. -/
namespace Go.Proofs.YtpnlfeljmpfeoaaGreatDoor
open Go.RowKit

theorem fl_pre (d : UInt8) (s : List UInt8) : ∀ (o : List (List UInt8)) (c : List UInt8), ∃ r, (fl d (o, c) s).1 = o ++ r := by
  induction s with
  | nil => intro o c; exact ⟨[], by simp [fl]⟩
  | cons x s ih =>
    intro o c
    show ∃ r, (fl d (stp d (o, c) x) s).1 = o ++ r
    unfold stp
    by_cases e : x = d
    · rw [if_pos e]
      obtain ⟨r, hr⟩ := ih (o ++ [c]) []
      exact ⟨c :: r, by rw [hr]; simp⟩
    · rw [if_neg e]; exact ih _ _
theorem fl_next (s : ByteArray) (k : Nat) (h : k < s.size) : fl 32 ([], []) (s.data.toList.take (k + 1)) = stp 32 (fl 32 ([], []) (s.data.toList.take k)) s[k] := by rw [take_snoc s k h, fl_snoc]
theorem wd_none (s : List UInt8) (o : List (List UInt8)) (h : fl 32 ([], []) s = (o, [])) : wdO s = none := by
  unfold wdO; rw [h]; simp
theorem wd_gap (s : ByteArray) (k : Nat) (h : k < s.size) (o : List (List UInt8)) (hf : fl 32 ([], []) (s.data.toList.take k) = (o, [])) (hc : s[k] = 32) : wdO s.data.toList = none := by
  have e := fl_next s k h
  rw [hf] at e
  unfold stp at e
  rw [if_pos hc] at e
  have e2 : fl 32 ([], []) s.data.toList = fl 32 (o ++ [[]], []) (s.data.toList.drop (k + 1)) := by
    rw [← e, ← fl_app, List.take_append_drop]
  obtain ⟨r, hr⟩ := fl_pre 32 (s.data.toList.drop (k + 1)) (o ++ [[]]) []
  unfold wdO
  rw [e2, hr]
  simp
theorem wd_some (s : List UInt8) (o : List (List UInt8)) (c : List UInt8) (h : fl 32 ([], []) s = (o, c)) (ho : ∀ x ∈ o, x ≠ []) (hc : c ≠ []) : wdO s = some (o ++ [c]) := by
  unfold wdO
  rw [h, if_pos]
  rw [List.all_eq_true]
  intro w hw
  rcases List.mem_append.1 hw with hw | hw
  · simpa using ho w hw
  · rw [List.mem_singleton] at hw; rw [hw]; simpa using hc
theorem ext_dt (s : ByteArray) (f k : Nat) : (s.extract f k).data.toList = (s.data.toList.take k).drop f := by
  rw [ByteArray.data_extract, Array.toList_extract, List.extract_eq_take_drop, List.drop_take]
theorem wsL_snoc (o : List ByteArray) (x : ByteArray) : wsL (o ++ [x]) = wsL o ++ [x.data.toList] := by unfold wsL; simp
theorem st_info : (Tryz.prog.info? 9).map (fun i => (i.zero, i.size, i.bytes)) = some (some (.string ByteArray.empty), 1, 16) := by kernel_rfl
/-- the words at hand -/
def WdS (s : ByteArray) (k f : Nat) (o : List ByteArray) : Prop :=
  (k ≤ s.size ∧ f ≤ k ∧ fl 32 ([], []) (s.data.toList.take k) = (wsL o, (s.data.toList.take k).drop f) ∧ ∀ x ∈ wsL o, x ≠ []) ∨ (k = s.size + 1 ∧ wdO s.data.toList = some (wsL o))
theorem WdS.plain {s : ByteArray} {k f : Nat} {o : List ByteArray} (h : WdS s k f o) (hk : k < s.size) (hc : s[k] ≠ 32) : WdS s (k + 1) f o := by
  rcases h with ⟨h1, h2, h3, h4⟩ | ⟨h1, _⟩
  · refine .inl ⟨by omega, by omega, ?_, h4⟩
    rw [fl_next s k hk, h3]
    unfold stp
    rw [if_neg hc, take_snoc s k hk, List.drop_append_of_le_length (by rw [List.length_take]; simp; omega)]
  · omega
theorem WdS.blank {s : ByteArray} {k f : Nat} {o : List ByteArray} (h : WdS s k f o) (hk : k < s.size) (hc : s[k] = 32) (hf : f ≠ k) : WdS s (k + 1) (k + 1) (o ++ [s.extract f k]) := by
  rcases h with ⟨h1, h2, h3, h4⟩ | ⟨h1, _⟩
  · refine .inl ⟨by omega, by omega, ?_, ?_⟩
    · rw [fl_next s k hk, h3]
      unfold stp
      rw [if_pos hc, wsL_snoc, ext_dt, List.drop_of_length_le (i := k + 1) (by rw [List.length_take]; omega)]
    · rw [wsL_snoc, ext_dt]
      intro x hx
      rcases List.mem_append.1 hx with hx | hx
      · exact h4 x hx
      · rw [List.mem_singleton] at hx
        intro e
        rw [hx] at e
        have := congrArg List.length e
        rw [List.length_drop, List.length_take] at this
        simp at this
        omega
  · omega
theorem WdS.last {s : ByteArray} {f : Nat} {o : List ByteArray} (h : WdS s s.size f o) (hf : f ≠ s.size) : WdS s (s.size + 1) (s.size + 1) (o ++ [s.extract f s.size]) := by
  rcases h with ⟨h1, h2, h3, h4⟩ | ⟨h1, _⟩
  · refine .inr ⟨rfl, ?_⟩
    rw [wsL_snoc, ext_dt]
    have e : s.data.toList.take s.size = s.data.toList := List.take_of_length_le (by simp)
    rw [e] at h3 ⊢
    refine wd_some _ _ _ h3 h4 (fun e => ?_)
    have := congrArg List.length e
    rw [List.length_drop] at this
    simp at this
    omega
  · omega
theorem WdS.gap {s : ByteArray} {k : Nat} {o : List ByteArray} (h : WdS s k k o) (hk : k < s.size) (hc : s[k] = 32) : wdO s.data.toList = none := by
  rcases h with ⟨h1, h2, h3, h4⟩ | ⟨h1, _⟩
  · exact wd_gap s k hk _ (by rw [h3, List.drop_of_length_le (by rw [List.length_take]; omega)]) hc
  · omega
theorem WdS.tail {s : ByteArray} {o : List ByteArray} (h : WdS s s.size s.size o) : wdO s.data.toList = none := by
  rcases h with ⟨h1, h2, h3, h4⟩ | ⟨h1, _⟩
  · have e : s.data.toList.take s.size = s.data.toList := List.take_of_length_le (by simp)
    rw [e] at h3
    exact wd_none _ _ (by rw [h3, List.drop_of_length_le (by simp)])
  · omega
theorem WdS.start (s : ByteArray) : WdS s 0 0 [] := .inl ⟨by omega, by omega, by simp [fl, wsL], by simp [wsL]⟩
theorem slc (s : ByteArray) (f k : Nat) (h1 : f ≤ k) (h2 : k ≤ s.size) (w : World) :
    (Instr.slice 9 (.string s) (some (.int .i64 f)) (some (.int .i64 k)) none).run Tryz.prog w = .ok (.string (s.extract f k)) w := by
  have := run_slice_string (P := Tryz.prog) w 9 s .i64 .i64 f k Tryz.underlying9 (by omega) (by omega) (by omega)
  simpa using this
set_option maxHeartbeats 16000000 in
set_option maxRecDepth 100000 in
theorem refWds_any (s : ByteArray) (w : World) (hs : s.size ≤ 1000000) :
    Calls Tryz.prog 53 #[.string s] w fun e w' => ∃ v b, e = .returned (.tuple #[v, .bool b]) ∧ (b = (wdO s.data.toList).isSome ∧ (b = true → ∃ o, wdO s.data.toList = some (wsL o) ∧ w'.ownsRow w.heap.size 9 1 v o.length (o.map Value.string) ∧ (∀ x ∈ o, x.size ≤ 1000000) ∧ o.length ≤ s.size + 1)) ∧ Below w.heap.size w w' := by
  obtain ⟨i0, hi0, hz0, hz1, hz2⟩ := info_parts st_info
  have hi0 := Lib.hid hi0
  have hz0 := Lib.hid hz0
  have hz1 := Lib.hid hz1
  have hz2 := Lib.hid hz2
  go_enter Tryz.func53, Tryz.ntmps53
  go_wp2_with fail
  go_loopw [4, 5, 6] (fun out ff ii wr => ∃ (k f : Nat) (o : List ByteArray), k ≤ s.size + 1 ∧ f ≤ s.size + 1 ∧ o.length ≤ k ∧ ii = .int .i64 k ∧ ff = .int .i64 f ∧ Hid (wr.ownsRow w.heap.size 9 1 out o.length (o.map Value.string)) ∧ Hid (Below w.heap.size w wr) ∧ Hid (∀ x ∈ o, x.size ≤ 1000000) ∧ Hid (WdS s k f o)) (fun _ _ ii _ => s.size + 1 - (intOf ii).toNat)
  case atStart => exact ⟨0, 0, [], by omega, by omega, by simp, rfl, rfl, World.ownsRow_nil _ _ _ _, Below.refl _ _, (fun x hx => by simp at hx), WdS.start s⟩
  case round =>
    obtain ⟨k, f, o, hk, hf, ho, rfl, rfl, hO, hB, hX, hW⟩ := hrel
    by_cases hk1 : k = s.size + 1
    · have c0 : decide ((k : Int) ≤ (s.size : Int)) = false := decide_eq_false (by omega)
      have hR : wdO s.data.toList = some (wsL o) := by
        rcases hW.out with ⟨h1, _⟩ | ⟨_, h2⟩
        · omega
        · exact h2
      go_wp2
      go_returns
      exact ⟨_, _, rfl, ⟨by rw [hR]; rfl, fun _ => ⟨o, hR, hO.out, hX.out, by omega⟩⟩, hB.out⟩
    · have c0 : decide ((k : Int) ≤ (s.size : Int)) = true := decide_eq_true (by omega)
      by_cases hk2 : k = s.size
      · subst hk2
        by_cases hfk : f = s.size
        · subst hfk
          have hR := hW.out.tail
          go_wp2
          go_returns
          exact ⟨_, _, rfl, ⟨by rw [hR]; rfl, fun h => by cases h⟩, hB.out⟩
        · have hfl : f ≤ s.size := by
            rcases hW.out with ⟨_, h, _⟩ | ⟨h, _⟩ <;> omega
          have c2 : ((s.size : Int) == (f : Int)) = false := by simp only [beq_eq_false_iff_ne, ne_eq]; omega
          have SL := slc s f s.size hfl (by omega)
          have NW := Lib.hid (hW.out.last hfk)
          have XN : Hid (∀ x ∈ o ++ [s.extract f s.size], x.size ≤ 1000000) := Lib.hid fun x hx => by
            rcases List.mem_append.1 hx with hx | hx
            · exact hX.out x hx
            · rw [List.mem_singleton] at hx; rw [hx, ByteArray.size_extract]; omega
          have CN := Lib.hid (cell_one_new wr (.string (s.extract f s.size)) 9)
          have hOA := Lib.hid (row_bel hO.out (bel_alloc (o := .cells #[.string (s.extract f s.size)] 9) (Below.refl _ _)))
          have HS : Hid (w.heap.size ≤ (wr.alloc (.cells #[.string (s.extract f s.size)] 9)).heap.size) := Lib.hid (Nat.le_trans hB.out.size (bel_alloc (Below.refl _ _)).size)
          go_wp2_with (at_builtin; refine wpList_append_own_at _ rfl _ _ 81 rfl w.heap.size 9 i0 (.string ByteArray.empty) 1 16 Tryz.underlying81 hi0.out hz0.out hz1.out hz2.out rfl (by omega) _ _ _ rfl hOA.out ⟨wr.heap.size, 0, none⟩ 1 1 [.string (s.extract f s.size)] rfl rfl CN.out (by intro u hu; rw [List.mem_singleton] at hu; rw [hu]; rfl) ?qd4 ?qd5 HS.out ?_)
          case qd4 => unfold maxLen; omega
          case qd5 => omega
          intro v2 w2 hown hgrow _ _
          have SN : Hid (w2.ownsRow w.heap.size 9 1 v2 (o ++ [s.extract f s.size]).length ((o ++ [s.extract f s.size]).map Value.string)) := Lib.hid (by rw [List.map_append, List.length_append]; exact hown)
          have B2 := Lib.hid ((bel_trans hB.out (bel_alloc (o := .cells #[.string (s.extract f s.size)] 9) (Below.refl _ _))).grown hgrow HS.out (fun q hq => (World.ownsRow.lt hO.out q hq).1))
          clear hown hgrow hOA CN
          go_wp2
          go_roundw
          case rel => exact ⟨s.size + 1, s.size + 1, _, by omega, by omega, by rw [List.length_append]; show o.length + 1 ≤ _; omega, by go_num, by go_num, SN, B2, XN, NW⟩
          case measure => simp [intOf]
      · have hlt : k < s.size := by omega
        have c1 : ((k : Int) == (s.size : Int)) = false := by simp only [beq_eq_false_iff_ne, ne_eq]; omega
        by_cases hc : s[k] = 32
        · have c3 : ((s[k].toNat : Int) == 32) = true := by rw [hc]; rfl
          by_cases hfk : f = k
          · subst hfk
            have hR := hW.out.gap hlt hc
            clear hc
            go_wp2
            go_returns
            exact ⟨_, _, rfl, ⟨by rw [hR]; rfl, fun h => by cases h⟩, hB.out⟩
          · have hfl : f ≤ k := by
              rcases hW.out with ⟨_, h, _⟩ | ⟨h, _⟩ <;> omega
            have c2 : ((k : Int) == (f : Int)) = false := by simp only [beq_eq_false_iff_ne, ne_eq]; omega
            have SL := slc s f k hfl (by omega)
            have NW := Lib.hid (hW.out.blank hlt hc hfk)
            have XN : Hid (∀ x ∈ o ++ [s.extract f k], x.size ≤ 1000000) := Lib.hid fun x hx => by
              rcases List.mem_append.1 hx with hx | hx
              · exact hX.out x hx
              · rw [List.mem_singleton] at hx; rw [hx, ByteArray.size_extract]; omega
            have CN := Lib.hid (cell_one_new wr (.string (s.extract f k)) 9)
            have hOA := Lib.hid (row_bel hO.out (bel_alloc (o := .cells #[.string (s.extract f k)] 9) (Below.refl _ _)))
            have HS : Hid (w.heap.size ≤ (wr.alloc (.cells #[.string (s.extract f k)] 9)).heap.size) := Lib.hid (Nat.le_trans hB.out.size (bel_alloc (Below.refl _ _)).size)
            clear hc
            go_wp2_with (at_builtin; refine wpList_append_own_at _ rfl _ _ 81 rfl w.heap.size 9 i0 (.string ByteArray.empty) 1 16 Tryz.underlying81 hi0.out hz0.out hz1.out hz2.out rfl (by omega) _ _ _ rfl hOA.out ⟨wr.heap.size, 0, none⟩ 1 1 [.string (s.extract f k)] rfl rfl CN.out (by intro u hu; rw [List.mem_singleton] at hu; rw [hu]; rfl) ?qd4 ?qd5 HS.out ?_)
            case qd4 => unfold maxLen; omega
            case qd5 => omega
            intro v2 w2 hown hgrow _ _
            have SN : Hid (w2.ownsRow w.heap.size 9 1 v2 (o ++ [s.extract f k]).length ((o ++ [s.extract f k]).map Value.string)) := Lib.hid (by rw [List.map_append, List.length_append]; exact hown)
            have B2 := Lib.hid ((bel_trans hB.out (bel_alloc (o := .cells #[.string (s.extract f k)] 9) (Below.refl _ _))).grown hgrow HS.out (fun q hq => (World.ownsRow.lt hO.out q hq).1))
            clear hown hgrow hOA CN
            go_wp2
            go_roundw
            case rel => exact ⟨k + 1, k + 1, _, by omega, by omega, by rw [List.length_append]; show o.length + 1 ≤ _; omega, by go_num, by go_num, SN, B2, XN, NW⟩
            case measure => simp [intOf]; omega
        · have hn : s[k].toNat ≠ 32 := fun e => hc (UInt8.toNat_inj.1 e)
          have c3 : ((s[k].toNat : Int) == 32) = false := by simp only [beq_eq_false_iff_ne, ne_eq]; omega
          have NW := Lib.hid (hW.out.plain hlt hc)
          clear hc hn
          go_wp2
          go_roundw
          case rel => exact ⟨k + 1, f, o, by omega, by omega, by omega, by go_num, rfl, hO, hB, hX, NW⟩
          case measure => simp [intOf]; omega
end Go.Proofs.YtpnlfeljmpfeoaaGreatDoor

/- The reference of layer 9: head. -/
namespace Go.Proofs.YtpnlfeljmpfeoaaGreatDoor
open Go.RowKit

set_option maxHeartbeats 8000000 in
theorem refHd_len (a : Option Addr) (n cap : Nat) (w : World) (h : ((n : Int) != 5) = true) :
    Calls Tryz.prog 54 #[.slice a n cap] w fun e w' => e = .returned (.tuple #[.agg #[.string ByteArray.empty, .int .i64 0, .slice none 0 0, .int .i64 0], .bool false]) ∧ Below w.heap.size w w' := by
  have F0 := Lib.hid (Quad.new w (.string ByteArray.empty) (.int .i64 0) (.slice none 0 0) (.int .i64 0) 27)
  go_enter Tryz.func54, Tryz.ntmps54
  go_wp2
  refine bodyPost_ret (v := .tuple #[.agg #[.string ByteArray.empty, .int .i64 0, .slice none 0 0, .int .i64 0], .bool false]) (by simp [results, Tryz.results54, go_sem]; rfl) rfl ?_
  exact ⟨rfl, bel_alloc (Below.refl _ _)⟩
set_option maxHeartbeats 16000000 in
set_option maxRecDepth 100000 in
theorem refHd_bad (cap b off : Nat) (s0 s2 s3 : ByteArray) (w : World)
    (hq : (s0.toList == [99, 97, 115, 107]) = false ∨ ((s0.toList == [99, 97, 115, 107]) = true ∧ (s2.toList == [108, 121, 105, 110, 103]) = false ∧ (s2.toList == [115, 116, 97, 110, 100, 105, 110, 103]) = false) ∨
      ((s0.toList == [99, 97, 115, 107]) = true ∧ (s2.toList == [108, 121, 105, 110, 103]) = true ∧ (s3.toList == [100, 101, 99, 108, 97, 114, 101, 100]) = false) ∨
      ((s0.toList == [99, 97, 115, 107]) = true ∧ (s2.toList == [108, 121, 105, 110, 103]) = false ∧ (s2.toList == [115, 116, 97, 110, 100, 105, 110, 103]) = true ∧ (s3.toList == [100, 101, 99, 108, 97, 114, 101, 100]) = false))
    (c0 : ∀ o, (w.alloc o).cell? ⟨b, off, none⟩ = some (.string s0)) (c2 : ∀ o, (w.alloc o).cell? ⟨b, off + 2, none⟩ = some (.string s2)) (c3 : ∀ o, (w.alloc o).cell? ⟨b, off + 3, none⟩ = some (.string s3)) :
    Calls Tryz.prog 54 #[.slice (some ⟨b, off, none⟩) 5 cap] w fun e w' => e = .returned (.tuple #[.agg #[.string ByteArray.empty, .int .i64 0, .slice none 0 0, .int .i64 0], .bool false]) ∧ Below w.heap.size w w' := by
  rcases hq with q0 | ⟨q0, q2, q2'⟩ | ⟨q0, q2, q3⟩ | ⟨q0, q2, q2', q3⟩
  all_goals
    go_enter Tryz.func54, Tryz.ntmps54
    go_wp2
    refine bodyPost_ret (v := .tuple #[.agg #[.string ByteArray.empty, .int .i64 0, .slice none 0 0, .int .i64 0], .bool false]) (by simp [results, Tryz.results54, go_sem]; rfl) rfl ?_
    exact ⟨rfl, bel_alloc (Below.refl _ _)⟩
set_option maxHeartbeats 16000000 in
set_option maxRecDepth 100000 in
theorem refHd_ok (cap b off : Nat) (s0 s1 s2 s3 s4 : ByteArray) (p : Int) (w : World) (hb : b < w.heap.size) (q0 : (s0.toList == [99, 97, 115, 107]) = true) (q3 : (s3.toList == [100, 101, 99, 108, 97, 114, 101, 100]) = true)
    (hq : ((s2.toList == [108, 121, 105, 110, 103]) = true ∧ p = 1) ∨ ((s2.toList == [108, 121, 105, 110, 103]) = false ∧ (s2.toList == [115, 116, 97, 110, 100, 105, 110, 103]) = true ∧ p = 2))
    (h4 : s4.size ≤ 9223372036854775807)
    (c0 : ∀ o, (w.alloc o).cell? ⟨b, off, none⟩ = some (.string s0)) (c2 : ∀ o, (w.alloc o).cell? ⟨b, off + 2, none⟩ = some (.string s2)) (c3 : ∀ o, (w.alloc o).cell? ⟨b, off + 3, none⟩ = some (.string s3)) (c4 : ∀ o, (w.alloc o).cell? ⟨b, off + 4, none⟩ = some (.string s4))
    (c1 : w.cell? ⟨b, off + 1, none⟩ = some (.string s1)) (c2' : w.cell? ⟨b, off + 2, none⟩ = some (.string s2)) :
    Calls Tryz.prog 54 #[.slice (some ⟨b, off, none⟩) 5 cap] w fun e w' => ∃ n bl, e = .returned (.tuple #[.agg #[.string s1, .int .i64 p, .slice none 0 0, .int .i64 n], .bool bl]) ∧ (bl = (num s4.data.toList).isSome ∧ (bl = true → num s4.data.toList = some n)) ∧ Below w.heap.size w w' := by
  have F0 := Lib.hid (Quad.new w (.string ByteArray.empty) (.int .i64 0) (.slice none 0 0) (.int .i64 0) 27)
  have N4 := Lib.hid (fun W => refNum_any s4 W h4)
  have C1 := Lib.hid c1
  have C2 := Lib.hid c2'
  clear c1 c2'
  rcases hq with ⟨q2, rfl⟩ | ⟨q2, q2', rfl⟩
  all_goals
    go_enter Tryz.func54, Tryz.ntmps54
    go_wp2_with fail
    refine (N4.out _).mono ?_
    rintro e w1 ⟨x, bl, rfl, hx, gg⟩
    replace F0 := Lib.hid (F0.out.below gg)
    have X1 := Lib.hid (bel_alloc gg); clear gg
    have HX := Lib.hid hx; clear hx
    have d1 : w1.cell? ⟨b, off + 1, none⟩ = some (.string s1) := by rw [(bcell X1.out).1 _ _ hb]; exact C1.out
    have d2 : ∀ o, (w1.alloc o).cell? ⟨b, off + 2, none⟩ = some (.string s2) := fun o => by rw [World.cell?_alloc_lt _ _ _ (Nat.lt_of_lt_of_le hb X1.out.size), (bcell X1.out).1 _ _ hb]; exact C2.out
    have u0 := fun o => (F0.out.alloc o).1
    have u1 := fun o => (F0.out.alloc o).2.1
    have u2 := fun o => (F0.out.alloc o).2.2.1
    have u3 := fun o => (F0.out.alloc o).2.2.2.1
    have f0 := fun o => (F0.out.alloc o).2.2.2.2.1 0 (by omega)
    have f1 := fun o => (F0.out.alloc o).2.2.2.2.1 1 (by omega)
    have f2 := fun o => (F0.out.alloc o).2.2.2.2.1 2 (by omega)
    have f3 := fun o => (F0.out.alloc o).2.2.2.2.1 3 (by omega)
    go_wp2
  · obtain ⟨t0, t1, t2, t3⟩ := quad_read (w1.alloc (.cells #[.string s1, .int .i64 1, .slice none 0 0, .int .i64 x] 27)) w.heap.size (.string s1) (.int .i64 1) (.slice none 0 0) (.int .i64 x) (u0 _) (u1 _) (u2 _) (u3 _)
    refine bodyPost_ret (v := .tuple #[.agg #[.string s1, .int .i64 1, .slice none 0 0, .int .i64 x], .bool bl]) (by simp [results, Tryz.results54, go_sem, t0, t1, t2, t3]) rfl ?_
    exact ⟨_, _, rfl, HX.out, ((((X1.out.alloc X1.out.size _).setCell (Nat.le_refl _) _).setCell (Nat.le_refl _) _).setCell (Nat.le_refl _) _).setCell (Nat.le_refl _) _⟩
  · obtain ⟨t0, t1, t2, t3⟩ := quad_read (w1.alloc (.cells #[.string s1, .int .i64 2, .slice none 0 0, .int .i64 x] 27)) w.heap.size (.string s1) (.int .i64 2) (.slice none 0 0) (.int .i64 x) (u0 _) (u1 _) (u2 _) (u3 _)
    refine bodyPost_ret (v := .tuple #[.agg #[.string s1, .int .i64 2, .slice none 0 0, .int .i64 x], .bool bl]) (by simp [results, Tryz.results54, go_sem, t0, t1, t2, t3]) rfl ?_
    exact ⟨_, _, rfl, HX.out, ((((X1.out.alloc X1.out.size _).setCell (Nat.le_refl _) _).setCell (Nat.le_refl _) _).setCell (Nat.le_refl _) _).setCell (Nat.le_refl _) _⟩
theorem wsL_five (l : List ByteArray) (h : l.length = 5) : ∃ s0 s1 s2 s3 s4, l = [s0, s1, s2, s3, s4] := by
  match l, h with
  | [a, b, c, d, e], _ => exact ⟨a, b, c, d, e, rfl⟩
theorem hd_len (ws : List (List UInt8)) (h : ws.length ≠ 5) : hd ws = none := by
  unfold hd
  split
  · exact absurd rfl h
  · rfl
theorem toA (s : ByteArray) : (⟨s.data.toList.toArray⟩ : ByteArray) = s := by cases s; simp
theorem refHd_any (v : Value) (l : List ByteArray) (w : World) (hv : Wds w v l) :
    Calls Tryz.prog 54 #[v] w fun e w' => ∃ nm p n b, e = .returned (.tuple #[.agg #[.string nm, .int .i64 p, .slice none 0 0, .int .i64 n], .bool b]) ∧ (b = (hd (wsL l)).isSome ∧ (b = true → hd (wsL l) = some ⟨nm, p, [], n⟩)) ∧ Below w.heap.size w w' := by
  obtain ⟨a, cap, rfl, hl, hs, hh⟩ := hv
  by_cases h4 : l.length = 5
  · obtain ⟨s0, s1, s2, s3, s4, rfl⟩ := wsL_five l h4
    rcases hh with hh | ⟨b, off, rfl, hb, hc⟩
    · simp at hh
    · have c : ∀ j (hj : j < 5) o, (w.alloc o).cell? ⟨b, off + j, none⟩ = some (.string ([s0, s1, s2, s3, s4][j])) := fun j hj o => by rw [World.cell?_alloc_lt _ _ _ hb]; exact hc j hj
      have c0 := c 0 (by omega)
      have c2 := c 2 (by omega)
      have c3 := c 3 (by omega)
      have c4 := c 4 (by omega)
      have k1 := hc 1 (show 1 < 5 by omega)
      have k2 := hc 2 (show 2 < 5 by omega)
      simp only [Nat.add_zero, List.getElem_cons_zero] at c0
      have e0 : (s0.toList == [99, 97, 115, 107]) = decide (s0.data.toList = wCask) := by rw [ByteArray.toList_eq, Bool.eq_iff_iff]; unfold wCask; simp
      have e2 : (s2.toList == [108, 121, 105, 110, 103]) = decide (s2.data.toList = wLy) := by rw [ByteArray.toList_eq, Bool.eq_iff_iff]; unfold wLy; simp
      have e2' : (s2.toList == [115, 116, 97, 110, 100, 105, 110, 103]) = decide (s2.data.toList = wSt) := by rw [ByteArray.toList_eq, Bool.eq_iff_iff]; unfold wSt; simp
      have e3 : (s3.toList == [100, 101, 99, 108, 97, 114, 101, 100]) = decide (s3.data.toList = wDe) := by rw [ByteArray.toList_eq, Bool.eq_iff_iff]; unfold wDe; simp
      have ep : hd (wsL [s0, s1, s2, s3, s4]) = if s0.data.toList = wCask ∧ (s2.data.toList = wLy ∨ s2.data.toList = wSt) ∧ s3.data.toList = wDe then (num s4.data.toList).map (fun v => ⟨⟨s1.data.toList.toArray⟩, if s2.data.toList = wLy then 1 else 2, [], v⟩) else none := rfl
      rw [toA] at ep
      have bad : hd (wsL [s0, s1, s2, s3, s4]) = none → _ → Calls Tryz.prog 54 #[.slice (some ⟨b, off, none⟩) 5 cap] w fun e w' => ∃ nm p n b, e = .returned (.tuple #[.agg #[.string nm, .int .i64 p, .slice none 0 0, .int .i64 n], .bool b]) ∧ (b = (hd (wsL [s0, s1, s2, s3, s4])).isSome ∧ (b = true → hd (wsL [s0, s1, s2, s3, s4]) = some ⟨nm, p, [], n⟩)) ∧ Below w.heap.size w w' :=
        fun hn hq => (refHd_bad cap b off s0 s2 s3 w hq c0 c2 c3).mono fun e w' g => ⟨_, _, _, false, g.1, ⟨by rw [hn]; rfl, fun h => by cases h⟩, g.2⟩
      have good : ∀ p, hd (wsL [s0, s1, s2, s3, s4]) = (num s4.data.toList).map (fun v => ⟨s1, p, [], v⟩) → (s0.toList == [99, 97, 115, 107]) = true → (s3.toList == [100, 101, 99, 108, 97, 114, 101, 100]) = true → _ → Calls Tryz.prog 54 #[.slice (some ⟨b, off, none⟩) 5 cap] w fun e w' => ∃ nm p n b, e = .returned (.tuple #[.agg #[.string nm, .int .i64 p, .slice none 0 0, .int .i64 n], .bool b]) ∧ (b = (hd (wsL [s0, s1, s2, s3, s4])).isSome ∧ (b = true → hd (wsL [s0, s1, s2, s3, s4]) = some ⟨nm, p, [], n⟩)) ∧ Below w.heap.size w w' :=
        fun p hn q0 q3 hq => (refHd_ok cap b off s0 s1 s2 s3 s4 p w hb q0 q3 hq (hs _ (by simp)) c0 c2 c3 c4 k1 k2).mono fun e w' ⟨n, bl, g1, ⟨g2, g3⟩, g4⟩ => ⟨_, _, n, bl, g1, ⟨by rw [g2, hn]; cases num s4.data.toList <;> rfl, fun h => by rw [hn, g3 h]; rfl⟩, g4⟩
      by_cases q0 : s0.data.toList = wCask
      · by_cases q3 : s3.data.toList = wDe
        · by_cases q2 : s2.data.toList = wLy
          · exact good 1 (by rw [ep, if_pos ⟨q0, .inl q2, q3⟩, if_pos q2]) (by rw [e0]; exact decide_eq_true q0) (by rw [e3]; exact decide_eq_true q3) (.inl ⟨by rw [e2]; exact decide_eq_true q2, rfl⟩)
          · by_cases q2' : s2.data.toList = wSt
            · exact good 2 (by rw [ep, if_pos ⟨q0, .inr q2', q3⟩, if_neg q2]) (by rw [e0]; exact decide_eq_true q0) (by rw [e3]; exact decide_eq_true q3) (.inr ⟨by rw [e2]; exact decide_eq_false q2, by rw [e2']; exact decide_eq_true q2', rfl⟩)
            · exact bad (by rw [ep, if_neg (fun h => h.2.1.elim q2 q2')]) (.inr (.inl ⟨by rw [e0]; exact decide_eq_true q0, by rw [e2]; exact decide_eq_false q2, by rw [e2']; exact decide_eq_false q2'⟩))
        · have hn : hd (wsL [s0, s1, s2, s3, s4]) = none := by rw [ep, if_neg (fun h => q3 h.2.2)]
          by_cases q2 : s2.data.toList = wLy
          · exact bad hn (.inr (.inr (.inl ⟨by rw [e0]; exact decide_eq_true q0, by rw [e2]; exact decide_eq_true q2, by rw [e3]; exact decide_eq_false q3⟩)))
          · by_cases q2' : s2.data.toList = wSt
            · exact bad hn (.inr (.inr (.inr ⟨by rw [e0]; exact decide_eq_true q0, by rw [e2]; exact decide_eq_false q2, by rw [e2']; exact decide_eq_true q2', by rw [e3]; exact decide_eq_false q3⟩)))
            · exact bad hn (.inr (.inl ⟨by rw [e0]; exact decide_eq_true q0, by rw [e2]; exact decide_eq_false q2, by rw [e2']; exact decide_eq_false q2'⟩))
      · exact bad (by rw [ep, if_neg (fun h => q0 h.1)]) (.inl (by rw [e0]; exact decide_eq_false q0))
  · rw [hd_len _ (by unfold wsL; rw [List.length_map]; exact h4)]
    exact (refHd_len a l.length cap w (by simp only [bne_iff_ne, ne_eq]; omega)).mono fun e w' g => ⟨_, _, _, false, g.1, ⟨rfl, fun h => by cases h⟩, g.2⟩
end Go.Proofs.YtpnlfeljmpfeoaaGreatDoor

/- Plain facts of the texts of casks: what is read is printed as it was. No program stands in this text. -/
namespace Go.Proofs.YtpnlfeljmpfeoaaGreatDoor

theorem hd_inv {ws : List (List UInt8)} {c : Ck} (h : hd ws = some c) : hdW c = ws ∧ c.pf = [] ∧ (c.ps = 1 ∨ c.ps = 2) ∧ 0 ≤ c.dc := by
  unfold hd at h
  split at h
  · rename_i a m p d n
    split at h
    · rename_i g
      obtain ⟨rfl, hp, rfl⟩ := g
      cases hn : num n with
      | none => rw [hn] at h; simp at h
      | some v =>
        rw [hn, Option.map_some] at h
        obtain rfl := Option.some.inj h
        obtain ⟨i1, i2⟩ := num_itoa hn
        refine ⟨?_, rfl, ?_, i2⟩
        · have hw : wPs (if p = wLy then 1 else 2) = p := by
            rcases hp with rfl | rfl
            · rfl
            · decide +kernel
          unfold hdW
          dsimp only
          rw [i1, hw]
        · dsimp only
          split <;> simp
    · cases h
  · cases h
theorem pnt_inv {ws : List (List UInt8)} {q : Int × Int} (h : pnt ws = some q) : ptW q = ws ∧ 0 ≤ q.1 ∧ 0 ≤ q.2 := by
  unfold pnt at h
  split at h
  · rename_i a x r y
    split at h
    · rename_i g
      obtain ⟨rfl, rfl⟩ := g
      cases hx : num x with
      | none => rw [hx] at h; simp at h
      | some u =>
        cases hy : num y with
        | none => rw [hx, hy] at h; simp at h
        | some v =>
          rw [hx, hy] at h
          obtain rfl := Option.some.inj h
          obtain ⟨i1, i2⟩ := num_itoa hx
          obtain ⟨j1, j2⟩ := num_itoa hy
          exact ⟨by unfold ptW; dsimp only; rw [i1, j1], i2, j2⟩
    · cases h
  · cases h
/-- the lines that have led to a state -/
def lnO (st : Bool × List Ck) : List (List UInt8) := if st.1 = true then (lnA st.2).dropLast else lnA st.2
theorem lnA_snoc (a : List Ck) (c : Ck) : lnA (a ++ [c]) = lnA a ++ (jn (hdW c) :: (c.pf.map fun q => jn (ptW q))) ++ [wEn] := by
  unfold lnA lnC; simp
theorem lnO_open (a : List Ck) (c : Ck) : lnO (true, a ++ [c]) = lnA a ++ (jn (hdW c) :: (c.pf.map fun q => jn (ptW q))) := by
  unfold lnO
  rw [if_pos rfl]
  show (lnA (a ++ [c])).dropLast = _
  rw [lnA_snoc, List.dropLast_concat]
/-- an open state has a cask -/
def okO (st : Bool × List Ck) : Prop := st.1 = true → st.2 ≠ []
theorem lst_inv {st s : Bool × List Ck} {l : List UInt8} (h : lst st l = some s) (ho : okO st) : lnO s = lnO st ++ [l] ∧ okO s := by
  unfold lst at h
  cases hw : wdO l with
  | none => rw [hw] at h; cases h
  | some ws =>
    have hj := wdO_jn hw
    rw [hw] at h
    dsimp only at h
    obtain ⟨o, acc⟩ := st
    cases o with
    | false =>
      rw [if_pos rfl] at h
      cases hh : hd ws with
      | none => rw [hh] at h; simp at h
      | some c =>
        rw [hh, Option.map_some] at h
        obtain rfl := Option.some.inj h
        obtain ⟨e1, e2, _⟩ := hd_inv hh
        refine ⟨?_, fun _ => by simp⟩
        rw [lnO_open, e1, e2, hj]
        rfl
    | true =>
      have hne : acc ≠ [] := ho rfl
      have ea := List.dropLast_concat_getLast hne
      generalize acc.dropLast = a at ea
      generalize acc.getLast hne = c at ea
      subst ea
      rw [if_neg (by simp)] at h
      by_cases hE : ws = [wEn]
      · rw [if_pos hE] at h
        obtain rfl := Option.some.inj h
        refine ⟨?_, fun h => by cases h⟩
        rw [lnO_open]
        show lnA (a ++ [c]) = _
        rw [lnA_snoc, ← hj, hE]
        rfl
      · rw [if_neg hE] at h
        cases hp : pnt ws with
        | none => rw [hp] at h; simp at h
        | some q =>
          rw [hp, Option.map_some] at h
          obtain rfl := Option.some.inj h
          obtain ⟨e1, _⟩ := pnt_inv hp
          refine ⟨?_, fun _ => by dsimp only; rw [addQ_snoc]; simp⟩
          dsimp only
          rw [addQ_snoc, lnO_open, lnO_open, ← hj, ← e1]
          have e3 : hdW ⟨c.nm, c.ps, c.pf ++ [q], c.dc⟩ = hdW c := rfl
          rw [e3]
          simp
theorem rnL_inv (ls : List (List UInt8)) : ∀ (st s : Bool × List Ck) (k m : Nat), rnL st k ls = (some s, m) → okO st → lnO s = lnO st ++ ls ∧ okO s ∧ m = k + ls.length := by
  induction ls with
  | nil =>
    intro st s k m h ho
    simp only [rnL, Prod.mk.injEq, Option.some.injEq] at h
    obtain ⟨rfl, rfl⟩ := h
    exact ⟨by simp, ho, rfl⟩
  | cons l ls ih =>
    intro st s k m h ho
    cases hl : lst st l with
    | none =>
      have e : rnL st k (l :: ls) = (none, k + 1) := by
        show (match lst st l with | none => (none, k + 1) | some s => rnL s (k + 1) ls) = _
        rw [hl]
      rw [e] at h; simp at h
    | some t =>
      rw [rnL_cons k ls hl] at h
      obtain ⟨i1, i2⟩ := lst_inv hl ho
      obtain ⟨j1, j2, j3⟩ := ih t s (k + 1) m h i2
      refine ⟨by rw [j1, i1]; simp, j2, by rw [j3, List.length_cons]; omega⟩
/-- what is read is printed as it was -/
theorem prT_paS {t : List UInt8} {l : List Ck} {k : Nat} (h : paS t = (some l, k)) : prT l = t ∧ k = 0 := by
  unfold paS at h
  split at h
  · simp at h
  · rename_i st m hr
    split at h
    · simp at h
    · rename_i g
      simp only [Prod.mk.injEq, Option.some.injEq] at h
      obtain ⟨rfl, rfl⟩ := h
      have g1 : (fl 10 ([], []) t).2 = [] ∧ st.1 = false := by
        constructor
        · by_cases e : (fl 10 ([], []) t).2 = []
          · exact e
          · exact absurd (.inl e) g
        · cases e : st.1 with
          | false => rfl
          | true => exact absurd (.inr e) g
      obtain ⟨i1, _⟩ := rnL_inv _ (false, []) st 0 m hr (fun h => by cases h)
      have i2 : lnO st = lnA st.2 := by unfold lnO; rw [g1.2]; rfl
      have i3 : lnO (false, []) = [] := rfl
      rw [i2, i3, List.nil_append] at i1
      have j := fl_join 10 t [] []
      rw [g1.1, ← i1] at j
      refine ⟨?_, rfl⟩
      unfold prT
      simpa using j
/-- an error has a line -/
theorem rnL_bad (ls : List (List UInt8)) : ∀ (st : Bool × List Ck) (k m : Nat), rnL st k ls = (none, m) → k < m ∧ m ≤ k + ls.length := by
  induction ls with
  | nil => intro st k m h; simp [rnL] at h
  | cons l ls ih =>
    intro st k m h
    cases hl : lst st l with
    | none =>
      have e : rnL st k (l :: ls) = (none, k + 1) := by
        show (match lst st l with | none => (none, k + 1) | some s => rnL s (k + 1) ls) = _
        rw [hl]
      rw [e] at h
      simp only [Prod.mk.injEq, true_and] at h
      rw [List.length_cons]; omega
    | some t =>
      rw [rnL_cons k ls hl] at h
      have := ih t (k + 1) m h
      rw [List.length_cons]; omega
theorem paS_bad {t : List UInt8} {k : Nat} (h : paS t = (none, k)) : 1 ≤ k := by
  unfold paS at h
  split at h
  · rename_i m hr
    simp only [Prod.mk.injEq, true_and] at h
    have := rnL_bad _ _ _ _ hr
    omega
  · split at h
    · simp only [Prod.mk.injEq, true_and] at h; omega
    · simp at h
end Go.Proofs.YtpnlfeljmpfeoaaGreatDoor

/- Plain facts of Parse: how far a text is read. -/
namespace Go.Proofs.YtpnlfeljmpfeoaaGreatDoor
open Go.RowKit

theorem fl_nextd (d : UInt8) (s : ByteArray) (k : Nat) (h : k < s.size) : fl d ([], []) (s.data.toList.take (k + 1)) = stp d (fl d ([], []) (s.data.toList.take k)) s[k] := by rw [take_snoc s k h, fl_snoc]
/-- the text read up to k; the line at hand begins at f; its state; its number of lines -/
def PaR (s : ByteArray) (k f : Nat) (st : Bool × List Ck) (m : Nat) : Prop :=
  f ≤ k ∧ k ≤ s.size ∧ ∃ ls, fl 10 ([], []) (s.data.toList.take k) = (ls, (s.data.toList.take k).drop f) ∧ rnL (false, []) 0 ls = (some st, m) ∧ m ≤ k
theorem PaR.start (s : ByteArray) : PaR s 0 0 (false, []) 0 := ⟨by omega, by omega, [], by simp [fl], rfl, by omega⟩
theorem PaR.plain {s : ByteArray} {k f m : Nat} {st : Bool × List Ck} (h : PaR s k f st m) (hk : k < s.size) (hc : s[k] ≠ 10) : PaR s (k + 1) f st m := by
  obtain ⟨h1, h2, ls, h3, h4, h5⟩ := h
  refine ⟨by omega, by omega, ls, ?_, h4, by omega⟩
  rw [fl_nextd 10 s k hk, h3]
  unfold stp
  rw [if_neg hc, take_snoc s k hk, List.drop_append_of_le_length (by rw [List.length_take]; simp; omega)]
theorem PaR.next {s : ByteArray} {k f m : Nat} {st st' : Bool × List Ck} (h : PaR s k f st m) (hk : k < s.size) (hc : s[k] = 10) (hl : lst st (s.extract f k).data.toList = some st') : PaR s (k + 1) (k + 1) st' (m + 1) := by
  obtain ⟨h1, h2, ls, h3, h4, h5⟩ := h
  refine ⟨by omega, by omega, ls ++ [(s.extract f k).data.toList], ?_, ?_, by omega⟩
  · rw [fl_nextd 10 s k hk, h3]
    unfold stp
    rw [if_pos hc, ext_dt, List.drop_of_length_le (i := k + 1) (by rw [List.length_take]; omega)]
  · rw [rnL_app _ _ _ _ _ _ h4, rnL_cons _ _ hl]; rfl
theorem rnL_stop {st s : Bool × List Ck} {k m : Nat} {a : List (List UInt8)} {l : List UInt8} (b : List (List UInt8)) (h : rnL st k a = (some s, m)) (hl : lst s l = none) : rnL st k (a ++ l :: b) = (none, m + 1) := by
  rw [rnL_app _ _ _ _ _ _ h]
  show (match lst s l with | none => (none, m + 1) | some s => rnL s (m + 1) b) = _
  rw [hl]
theorem PaR.bad {s : ByteArray} {k f m : Nat} {st : Bool × List Ck} (h : PaR s k f st m) (hk : k < s.size) (hc : s[k] = 10) (hl : lst st (s.extract f k).data.toList = none) : paS s.data.toList = (none, m + 1) := by
  obtain ⟨h1, h2, ls, h3, h4, h5⟩ := h
  have e := fl_nextd 10 s k hk
  rw [h3] at e
  unfold stp at e
  rw [if_pos hc, ← ext_dt] at e
  have e2 : fl 10 ([], []) s.data.toList = fl 10 (ls ++ [(s.extract f k).data.toList], []) (s.data.toList.drop (k + 1)) := by
    rw [← e, ← fl_app, List.take_append_drop]
  obtain ⟨r, hr⟩ := fl_pre 10 (s.data.toList.drop (k + 1)) (ls ++ [(s.extract f k).data.toList]) []
  unfold paS
  rw [e2, hr, List.append_assoc, List.singleton_append, rnL_stop r h4 hl]
theorem PaR.over {s : ByteArray} {f m : Nat} {st : Bool × List Ck} (h : PaR s s.size f st m) : paS s.data.toList = if f < s.size ∨ st.1 = true then (none, m + 1) else (some st.2, 0) := by
  obtain ⟨h1, h2, ls, h3, h4, h5⟩ := h
  rw [List.take_of_length_le (by simp)] at h3
  unfold paS
  rw [h3, h4]
  have e : (s.data.toList.drop f ≠ []) ↔ f < s.size := by
    rw [ne_eq, List.drop_eq_nil_iff]; simp
  simp only [e]
/-- a row of strings, read -/
theorem wds_row {w : World} {B : Nat} {v : Value} {o : List ByteArray} (h : w.ownsRow B 9 1 v o.length (o.map Value.string)) (hs : ∀ x ∈ o, x.size ≤ 1000000) (hl : o.length ≤ 1000000) : Wds w v o := by
  have h' := h
  obtain ⟨_, h2⟩ := h
  have sz : ∀ s ∈ o, s.size ≤ 9223372036854775807 := fun s q => by have := hs s q; omega
  rcases h2 with ⟨rfl, hn⟩ | ⟨g, cap, cur, rfl, hg, hh, hc, hm, _, _⟩
  · exact ⟨none, 0, by rw [hn], by omega, sz, .inl hn⟩
  · have hlt : g < w.heap.size := (Array.getElem?_eq_some_iff.1 hh).1
    unfold maxLen at hm
    refine ⟨_, cap, rfl, ⟨hc, by omega⟩, sz, .inr ⟨g, 0, rfl, hlt, fun j hj => ?_⟩⟩
    have c0 := World.ownsRow.cells h' (g := g) rfl j (.string o[j]) (by rw [List.getElem?_map, List.getElem?_eq_getElem hj]; rfl)
    rw [Go.WideShapes.add_plain] at c0
    exact c0
end Go.Proofs.YtpnlfeljmpfeoaaGreatDoor

/- Texts of casks while they are written: plain facts. No program stands in this text. -/
namespace Go.Proofs.YtpnlfeljmpfeoaaGreatDoor

/-- the line of a point -/
def ptN (q : Int × Int) : List UInt8 := jn (ptW q) ++ [10]
/-- the lines of the first j points -/
def ptT (c : Ck) (j : Nat) : List UInt8 := (c.pf.take j).flatMap ptN
/-- the line of the cask -/
def hdT (c : Ck) : List UInt8 := jn (hdW c) ++ [10]
def enT : List UInt8 := wEn ++ [10]
theorem ptT_succ (c : Ck) (j : Nat) (h : j < c.pf.length) : ptT c (j + 1) = ptT c j ++ ptN (gX c.pf j, gR c.pf j) := by
  unfold ptT
  rw [List.take_succ_eq_append_getElem h, List.flatMap_append]
  have : (gX c.pf j, gR c.pf j) = c.pf[j] := by unfold gX gR; simp [List.getElem?_eq_getElem h]
  rw [this]
  simp
theorem prT_one (c : Ck) : prT [c] = hdT c ++ ptT c c.pf.length ++ enT := by
  unfold prT lnA lnC hdT ptT enT
  have : (ptN : Int × Int → List UInt8) = fun q => jn (ptW q) ++ [10] := rfl
  rw [this]
  rw [List.take_length]
  simp [List.flatMap_append, List.flatMap_map]
theorem prT_succ (l : List Ck) (k : Nat) (h : k < l.length) : prT (l.take (k + 1)) = prT (l.take k) ++ hdT l[k] ++ ptT l[k] l[k].pf.length ++ enT := by
  rw [List.take_succ_eq_append_getElem h, prT_app, prT_one]
  simp
theorem jn_le (ws : List (List UInt8)) : (jn ws).length ≤ (ws.map fun w => w.length + 1).sum := by
  induction ws with
  | nil => simp [jn]
  | cons w ws ih =>
    cases ws with
    | nil => simp [jn]
    | cons v ws =>
      show (w ++ 32 :: jn (v :: ws)).length ≤ _
      rw [List.length_append, List.length_cons, List.map_cons, List.sum_cons]
      omega
theorem hd_le {c : Ck} (h : ccE c = 0) : (jn (hdW c)).length ≤ 200 ∧ (hdT c).length ≤ 201 := by
  obtain ⟨hn, hp, hd, _⟩ := ccE_pf h
  have h1 : (jn (hdW c)).length ≤ 200 := by
    refine Nat.le_trans (jn_le _) ?_
    have i1 := Lib.itoa_length_le c.dc (by omega) (by omega)
    have n1 : c.nm.data.toList.length ≤ 64 := by
      unfold isNm at hn
      simp only [Bool.and_eq_true, decide_eq_true_eq] at hn
      have := hn.2
      rw [Array.length_toList]; exact this
    have w1 : (wPs c.ps).length ≤ 8 := by unfold wPs; split <;> decide
    simp only [hdW, List.map_cons, List.map_nil, List.sum_cons, List.sum_nil]
    have e1 : wCask.length = 4 := rfl
    have e2 : wDe.length = 8 := rfl
    omega
  refine ⟨h1, ?_⟩
  unfold hdT
  rw [List.length_append]
  simp; omega
theorem pt_le (x r : Int) (hx : 0 ≤ x ∧ x ≤ 1000000) (hr : 0 ≤ r ∧ r ≤ 1000000) : (jn (ptW (x, r))).length ≤ 100 := by
  refine Nat.le_trans (jn_le _) ?_
  have i1 := Lib.itoa_length_le x (by omega) (by omega)
  have i2 := Lib.itoa_length_le r (by omega) (by omega)
  simp only [ptW, List.map_cons, List.map_nil, List.sum_cons, List.sum_nil]
  have e1 : wAt.length = 2 := rfl
  have e2 : wRa.length = 6 := rfl
  omega
theorem ptN_le (x r : Int) (hx : 0 ≤ x ∧ x ≤ 1000000) (hr : 0 ≤ r ∧ r ≤ 1000000) : (ptN (x, r)).length ≤ 101 := by
  have := pt_le x r hx hr
  unfold ptN
  rw [List.length_append]; simp; omega
theorem pf_bd {c : Ck} (h : ccE c = 0) (j : Nat) (hj : j < c.pf.length) : (0 ≤ gX c.pf j ∧ gX c.pf j ≤ 1000000) ∧ (0 ≤ gR c.pf j ∧ gR c.pf j ≤ 1000000) := by
  have hR := (ccE_pf h).2.2.2
  have := hR.bx j hj
  have := hR.br j hj
  omega
theorem ptT_le {c : Ck} (h : ccE c = 0) (j : Nat) (hj : j ≤ c.pf.length) : (ptT c j).length ≤ 101 * j := by
  induction j with
  | zero => simp [ptT]
  | succ j ih =>
    rw [ptT_succ c j hj, List.length_append]
    obtain ⟨a, b⟩ := pf_bd h j hj
    have := ptN_le _ _ a b
    have := ih (by omega)
    omega
theorem prT_le {l : List Ck} (h : ∀ c ∈ l, ccE c = 0) (k : Nat) (hk : k ≤ l.length) : (prT (l.take k)).length ≤ 4000 * k := by
  induction k with
  | zero => simp [prT, lnA]
  | succ k ih =>
    have hc := h _ (List.getElem_mem (l := l) hk)
    rw [prT_succ l k hk, List.length_append, List.length_append, List.length_append]
    have := (hd_le hc).2
    have := ptT_le hc _ (Nat.le_refl _)
    have := (ccE_pf hc).2.2.2.n1
    have := ih (by omega)
    have e : enT.length = 4 := rfl
    omega
end Go.Proofs.YtpnlfeljmpfeoaaGreatDoor

/- Words of a line: as they are cut at each blank, empty ones too; lines of a text. No program stands in this text. -/
namespace Go.Proofs.YtpnlfeljmpfeoaaGreatDoor
open Go.RowKit

/-- the words of a line, empty ones too -/
def wsR (l : List UInt8) : List (List UInt8) := (fl 32 ([], []) l).1 ++ [(fl 32 ([], []) l).2]
theorem wdO_wsR (l : List UInt8) : wdO l = if (wsR l).all (fun w => !w.isEmpty) = true then some (wsR l) else none := rfl
theorem fl_acc (d : UInt8) (s : List UInt8) : ∀ (o : List (List UInt8)) (c : List UInt8), fl d (o, c) s = (o ++ (fl d ([], c) s).1, (fl d ([], c) s).2) := by
  induction s with
  | nil => intro o c; simp [fl]
  | cons x s ih =>
    intro o c
    show fl d (stp d (o, c) x) s = (o ++ (fl d (stp d ([], c) x) s).1, (fl d (stp d ([], c) x) s).2)
    unfold stp
    by_cases e : x = d
    · rw [if_pos e, if_pos e, ih (o ++ [c]) [], ih ([] ++ [c]) []]
      simp
    · rw [if_neg e, if_neg e, ih o (c ++ [x])]
theorem index_at {d : UInt8} {a b : List UInt8} (h : d ∉ a) : Lib.index (a ++ d :: b) [d] = (a.length : Int) := by
  induction a with
  | nil => simp [Lib.index, List.isPrefixOf]
  | cons x a ih =>
    have hx : x ≠ d := fun e => h (by rw [e]; simp)
    have ha : d ∉ a := fun e => h (by simp [e])
    show Lib.index (x :: (a ++ d :: b)) [d] = _
    have ih := ih ha
    rw [Lib.index]
    have : ([d] : List UInt8).isPrefixOf (x :: (a ++ d :: b)) = false := by simp [List.isPrefixOf, Ne.symm hx]
    rw [this, ih]
    simp
theorem wsR_sep {a b : List UInt8} (h : (32 : UInt8) ∉ a) : wsR (a ++ 32 :: b) = a :: wsR b := by
  unfold wsR
  rw [fl_sep h, fl_acc]
  simp
theorem wsR_no {a : List UInt8} (h : (32 : UInt8) ∉ a) : wsR a = [a] := by
  unfold wsR
  rw [fl_no h]
  simp
theorem splitK_wsR (k : Nat) : ∀ s : List UInt8, s.count 32 = k → Lib.splitK [32] 0 k s = wsR s := by
  induction k with
  | zero =>
    intro s h
    have : (32 : UInt8) ∉ s := fun e => by have := List.count_pos_iff.2 e; omega
    rw [wsR_no this]; rfl
  | succ k ih =>
    intro s h
    have hm : (32 : UInt8) ∈ s := List.count_pos_iff.1 (by omega)
    obtain ⟨a, b, rfl, ha⟩ := List.eq_append_cons_of_mem hm
    have hi := index_at (b := b) ha
    unfold Lib.splitK
    rw [hi, if_neg (by simp), wsR_sep ha]
    have e1 : (a ++ 32 :: b).take (((a.length : Int)).toNat + 0) = a := by simp
    have e2 : (a ++ 32 :: b).drop (((a.length : Int)).toNat + ([32] : List UInt8).length) = b := by
      show (a ++ 32 :: b).drop (a.length + 1) = b
      rw [← List.drop_drop]
      simp
    rw [e1, e2, ih b ?_]
    have hz : a.count (32 : UInt8) = 0 := List.count_eq_zero.2 ha
    rw [List.count_append, List.count_cons_self, hz] at h
    omega
/-- what Split gives at a blank -/
def spB (s : ByteArray) : List ByteArray := Lib.splitB ⟨#[32]⟩ 0 (Lib.countB s ⟨#[32]⟩) s
theorem spB_words (s : ByteArray) : (spB s).map (·.data.toList) = wsR s.data.toList := by
  unfold spB
  rw [Lib.splitB_data]
  show Lib.splitK [32] 0 (Lib.count s.data.toList [32]) s.data.toList = _
  rw [Lib.count_one]
  exact splitK_wsR _ _ rfl
theorem spB_len (s : ByteArray) : (spB s).length = Lib.countB s ⟨#[32]⟩ + 1 := Lib.splitB_all ⟨#[32]⟩ (by decide) 0 _ s rfl
/-- the first word that is empty -/
theorem hd_full {ws : List (List UInt8)} {c : Ck} (h : hd ws = some c) : (ws.all (fun w => !w.isEmpty) = true ↔ c.nm.data.toList ≠ []) := by
  obtain ⟨h1, _, _, h4⟩ := hd_inv h
  have hl := hd_inv h
  rw [← h1]
  unfold hdW
  have p1 : (wPs c.ps).isEmpty = false := by unfold wPs; split <;> rfl
  have p2 : (Lib.itoa c.dc).isEmpty = false := by
    obtain ⟨a, b, d, e⟩ := dec_dgs c.dc.toNat
    have e2 : Lib.itoa c.dc = Lib.decDigits c.dc.toNat := by unfold Lib.itoa; rw [if_neg (by omega)]
    rw [e2]
    cases hd : Lib.decDigits c.dc.toNat with
    | nil => exact absurd hd d
    | cons => rfl
  simp only [List.all_cons, List.all_nil, p1, p2, wCask, wDe]
  cases c.nm.data.toList <;> simp
theorem pnt_full {ws : List (List UInt8)} {q : Int × Int} (h : pnt ws = some q) : ws.all (fun w => !w.isEmpty) = true := by
  obtain ⟨h1, h2, h3⟩ := pnt_inv h
  rw [← h1]
  unfold ptW
  have p2 : ∀ x : Int, 0 ≤ x → (Lib.itoa x).isEmpty = false := fun x hx => by
    obtain ⟨a, b, d, e⟩ := dec_dgs x.toNat
    have e2 : Lib.itoa x = Lib.decDigits x.toNat := by unfold Lib.itoa; rw [if_neg (by omega)]
    rw [e2]
    cases hd : Lib.decDigits x.toNat with
    | nil => exact absurd hd d
    | cons => rfl
  simp [p2 q.1 h2, p2 q.2 h3, wAt, wRa]
/-- a line is read, outside a cask -/
theorem lst_out (l : List Ck) (line : List UInt8) : lst (false, l) line = match hd (wsR line) with | some c => if c.nm.data.toList = [] then none else some (true, l ++ [c]) | none => none := by
  unfold lst
  rw [wdO_wsR]
  cases h : hd (wsR line) with
  | none => split <;> simp_all
  | some c =>
    have hf := hd_full h
    by_cases e : c.nm.data.toList = []
    · have : ¬ ((wsR line).all (fun w => !w.isEmpty) = true) := fun x => (hf.1 x) e
      rw [if_neg this]
      simp only [if_pos e]
    · rw [if_pos (hf.2 e)]
      simp only [if_neg e]
      rw [if_pos trivial, h]; rfl
/-- .. in a cask -/
theorem lst_in (l : List Ck) (line : List UInt8) : lst (true, l) line = if wsR line = [wEn] then some (false, l) else (pnt (wsR line)).map (fun q => (true, addQ l q)) := by
  unfold lst
  rw [wdO_wsR]
  by_cases h : wsR line = [wEn]
  · rw [if_pos h, h]
    rw [if_pos (by decide)]
    simp
  · rw [if_neg h]
    cases e : pnt (wsR line) with
    | none => split <;> simp_all
    | some q =>
      rw [if_pos (pnt_full e)]
      simp [h, e]
end Go.Proofs.YtpnlfeljmpfeoaaGreatDoor

/- Casks of a call's own, the last one open. -/
namespace Go.Proofs.YtpnlfeljmpfeoaaGreatDoor
open Go.RowKit

/-- casks of the call's own; the last one, c with its points p, still grows -/
def OwnO (w : World) (B : Nat) (v : Value) (l : List Ck) (ps : List Value) (c : Ck) (p : Value) : Prop :=
  ps.length = l.length ∧ w.ownsRow B 27 4 v (l.length + 1) (flatC (l.zip ps) ++ ckCells c p) ∧ (∀ q ∈ l.zip ps, OwnP w B q.2 q.1.pf ∧ (q.2.ownBlock = none ∨ q.2.ownBlock ≠ p.ownBlock)) ∧ OwnP w B p c.pf
theorem OwnO.below {w w' : World} {B : Nat} {v : Value} {l : List Ck} {ps : List Value} {c : Ck} {p : Value} (h : OwnO w B v l ps c p) (hb : Below w.heap.size w w') : OwnO w' B v l ps c p := by
  obtain ⟨h1, h2, h3, h4⟩ := h
  exact ⟨h1, row_bel h2 hb, fun q hq => ⟨row_bel (h3 q hq).1 hb, (h3 q hq).2⟩, row_bel h4 hb⟩
theorem OwnO.close {w : World} {B : Nat} {v : Value} {l : List Ck} {ps : List Value} {c : Ck} {p : Value} (h : OwnO w B v l ps c p) : OwnC w B v (l ++ [c]) := by
  obtain ⟨h1, h2, h3, h4⟩ := h
  have hz : (l ++ [c]).zip (ps ++ [p]) = l.zip ps ++ [(c, p)] := by
    rw [List.zip_append h1.symm]; rfl
  refine ⟨ps ++ [p], by simp [h1], ?_, ?_⟩
  · rw [hz, flatC_app, List.length_append]
    exact h2
  · rw [hz]
    intro q hq
    rcases List.mem_append.1 hq with hq | hq
    · exact (h3 q hq).1
    · rw [List.mem_singleton] at hq; subst hq; exact h4
/-- a cask begins -/
theorem OwnC.begin {W W' : World} {B : Nat} {v v' : Value} {l : List Ck} {c : Ck} {ps : List Value} (h1 : ps.length = l.length) (h2 : W.ownsRow B 27 4 v l.length (flatC (l.zip ps))) (h3 : ∀ q ∈ l.zip ps, OwnP W B q.2 q.1.pf) (hg : W.grownBy W' v.ownBlock) (hc : c.pf = [])
    (h4 : W'.ownsRow B 27 4 v' (l.length + 1) (flatC (l.zip ps) ++ ckCells c (.slice none 0 0))) : OwnO W' B v' l ps c (.slice none 0 0) := by
  refine ⟨h1, h4, fun q hq => ⟨World.ownsRow.kept (h3 q hq) hg (own_apart (by decide) (h3 q hq) h2), ?_⟩, ?_⟩
  · cases e : q.2.ownBlock with
    | none => exact .inl rfl
    | some b => right; simp [Value.ownBlock]
  · rw [hc]; exact World.ownsRow_nil _ _ _ _
/-- the last list of points grows by a place, and is put back -/
theorem OwnO.push {W W' : World} {B g n cap : Nat} {l : List Ck} {ps : List Value} {c c' : Ck} {p p' : Value} (h : OwnO W B (.slice (some ⟨g, 0, none⟩) n cap) l ps c p) (hn : n = l.length + 1) (hg : W.grownBy W' p.ownBlock) (hp : OwnP W' B p' c'.pf) (hat : p'.ownBlock = p.ownBlock ∨ p'.ownBlock = some W.heap.size)
    (hc : c'.nm = c.nm ∧ c'.ps = c.ps ∧ c'.dc = c.dc) : OwnO (W'.setCell ⟨g, l.length * 4 + 2, none⟩ p') B (.slice (some ⟨g, 0, none⟩) n cap) l ps c' p' := by
  subst hn
  obtain ⟨h1, h2, h3, h4⟩ := h
  have hr : W'.ownsRow B 27 4 (.slice (some ⟨g, 0, none⟩) (l.length + 1) cap) (l.length + 1) (flatC (l.zip ps) ++ ckCells c p) := by
    refine World.ownsRow.kept h2 hg ?_
    rcases own_apart (by decide) h4 h2 with e | e
    · rw [e]; right; simp [Value.ownBlock]
    · exact .inr (fun q => e q.symm)
  have hs := World.ownsRow.stored hr (l.length * 4 + 2) p'
  have hl : (flatC (l.zip ps)).length = l.length * 4 := by rw [flatC_len]; simp [h1]
  have e : (flatC (l.zip ps) ++ ckCells c p).set (l.length * 4 + 2) p' = flatC (l.zip ps) ++ ckCells c' p' := by
    rw [List.set_append_right _ _ (by omega), hl, Nat.add_sub_cancel_left]
    unfold ckCells
    rw [hc.1, hc.2.1, hc.2.2]
    rfl
  rw [e] at hs
  refine ⟨h1, hs.1, fun q hq => ?_, ?_⟩
  · obtain ⟨k1, k2⟩ := h3 q hq
    have k3 : OwnP W' B q.2 q.1.pf := World.ownsRow.kept k1 hg k2
    refine ⟨World.ownsRow.kept k3 hs.2 (own_apart (by decide) k3 hr), ?_⟩
    rcases k2 with k2 | k2
    · exact .inl k2
    · rcases hat with hat | hat
      · rw [hat]; exact .inr k2
      · rw [hat]
        cases e : q.2.ownBlock with
        | none => exact .inl rfl
        | some b =>
          right
          have := (World.ownsRow.lt k1 b e).2
          simp only [ne_eq, Option.some.injEq]; omega
  · exact World.ownsRow.kept hp hs.2 (own_apart (by decide) hp hr)
theorem OwnO.cells {w : World} {B : Nat} {v : Value} {l : List Ck} {ps : List Value} {c : Ck} {p : Value} (h : OwnO w B v l ps c p) : ∃ g cap, v = .slice (some ⟨g, 0, none⟩) (l.length + 1) cap ∧ (B ≤ g ∧ g < w.heap.size) ∧ w.cell? ⟨g, l.length * 4 + 2, none⟩ = some p ∧ w.frozen? ⟨g, l.length * 4 + 2, none⟩ = false := by
  obtain ⟨h1, h2, h3, h4⟩ := h
  have h2' := h2
  have hl : (flatC (l.zip ps)).length = l.length * 4 := by rw [flatC_len]; simp [h1]
  rcases h2.2 with ⟨_, h0⟩ | ⟨g, cap, cur, rfl, hg, hh, _⟩
  · omega
  · have c2 := World.ownsRow.cells h2' (g := g) rfl (l.length * 4 + 2) p (by rw [List.getElem?_append_right (by omega), hl, Nat.add_sub_cancel_left]; rfl)
    rw [Go.WideShapes.add_plain, Nat.zero_add] at c2
    exact ⟨g, cap, rfl, ⟨hg, (Array.getElem?_eq_some_iff.1 hh).1⟩, c2, by unfold World.frozen?; simp [hh]⟩
theorem OwnO.still {W W' : World} {B g n cap : Nat} {l : List Ck} {ps : List Value} {c : Ck} {p : Value} (h : OwnO W B (.slice (some ⟨g, 0, none⟩) n cap) l ps c p) (hn : n = l.length + 1) (hg : W.grownBy W' p.ownBlock) : W'.cell? ⟨g, l.length * 4 + 2, none⟩ = some p ∧ W'.frozen? ⟨g, l.length * 4 + 2, none⟩ = false := by
  subst hn
  obtain ⟨h1, h2, h3, h4⟩ := h
  have hr : W'.ownsRow B 27 4 (.slice (some ⟨g, 0, none⟩) (l.length + 1) cap) (l.length + 1) (flatC (l.zip ps) ++ ckCells c p) := by
    refine World.ownsRow.kept h2 hg ?_
    rcases own_apart (by decide) h4 h2 with e | e
    · rw [e]; right; simp [Value.ownBlock]
    · exact .inr (fun q => e q.symm)
  have hl : (flatC (l.zip ps)).length = l.length * 4 := by rw [flatC_len]; simp [h1]
  have c2 := World.ownsRow.cells hr (g := g) rfl (l.length * 4 + 2) p (by rw [List.getElem?_append_right (by omega), hl, Nat.add_sub_cancel_left]; rfl)
  rw [Go.WideShapes.add_plain, Nat.zero_add] at c2
  rcases hr.2 with ⟨_, h0⟩ | ⟨g', cap', cur, hv, hg', hh, _⟩
  · omega
  · simp only [Value.slice.injEq, Option.some.injEq, Addr.mk.injEq, and_true, true_and] at hv
    obtain ⟨rfl, _⟩ := hv
    exact ⟨c2, by unfold World.frozen?; simp [hh]⟩
end Go.Proofs.YtpnlfeljmpfeoaaGreatDoor
