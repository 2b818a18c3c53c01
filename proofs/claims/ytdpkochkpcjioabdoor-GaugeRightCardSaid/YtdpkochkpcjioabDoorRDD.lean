/- Package rod: Check, Reading, Compare. -/
import Derived.Test.YtdpkochkpcjioabDoorRDC
namespace Go.Proofs.YtdpkochkpcjioabDoor
open Go.RowKit

/-! ### Check of a rod -/
/-! ### Reading -/
def rgE (l : List (Int × Int)) (x : Int) : Int := if roE l ≠ 0 then 1 else if x < 0 ∨ gX l (l.length - 1) < x then 2 else 0
/-- the first mark above a height -/
def rgK (l : List (Int × Int)) (x : Int) : Nat := fst (fun j => decide (x < gX l j)) l.length
def rgL (l : List (Int × Int)) (x : Int) : Int := if rgE l x ≠ 0 then 0 else if x = gX l (l.length - 1) then gR l (l.length - 1) else if rgK l x = 0 then 0 else gR l (rgK l x - 1)
def rgH (l : List (Int × Int)) (x : Int) : Int := if rgE l x ≠ 0 then 0 else if x = gX l (l.length - 1) then gR l (l.length - 1) else gR l (rgK l x) - 1
def RgI (w : World) (x : Value) (W : World) : Prop :=
  Boxed W w.heap.size 3 x ∧ Two (w.heap.size + 1) W (.int .i64 0) (.int .i64 0) ∧ Below w.heap.size w W
theorem rbx_below {W W' : World} {b : Nat} {t : TypeId} {v : Value} (h : Boxed W b t v) (hb : Below W.heap.size W W') : Boxed W' b t v := by
  show W'.heap[b]? = _
  rw [hb.block _ h.lt]
  exact h
theorem RgI.below {w : World} {x : Value} {W W' : World} (h : RgI w x W) (hb : Below W.heap.size W W') : RgI w x W' := ⟨rbx_below h.1 hb, h.2.1.below hb, bel_trans h.2.2 hb⟩
theorem RgI.init (w : World) (x : Value) (U : TypeId) : RgI w x ((w.alloc (.cells #[x] 3)).alloc (.cells #[.int .i64 0, .int .i64 0] U)) := by
  have h2 := Two.new (w.alloc (.cells #[x] 3)) (.int .i64 0) (.int .i64 0) U
  rw [World.size_alloc] at h2
  exact ⟨(Boxed.new w 3 x).alloc _, h2, bel_alloc (bel_alloc (Below.refl _ _))⟩
theorem RgI.put {w : World} {x : Value} {W : World} (h : RgI w x W) (p q : Value) :
    Two (w.heap.size + 1) ((W.setCell ⟨w.heap.size + 1, 0, none⟩ p).setCell ⟨w.heap.size + 1, 1, none⟩ q) p q ∧ Below w.heap.size w ((W.setCell ⟨w.heap.size + 1, 0, none⟩ p).setCell ⟨w.heap.size + 1, 1, none⟩ q) :=
  ⟨(h.2.1.set0 p).set1 q, (h.2.2.setCell (p := ⟨w.heap.size + 1, 0, none⟩) (by show w.heap.size ≤ w.heap.size + 1; omega) _).setCell (p := ⟨w.heap.size + 1, 1, none⟩) (by show w.heap.size ≤ w.heap.size + 1; omega) _⟩
end Go.Proofs.YtdpkochkpcjioabDoor

