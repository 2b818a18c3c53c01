/- Package dip: Heights. -/
import Derived.Test.YtdpkochkpcjioabDoorDPD
namespace Go.Proofs.YtdpkochkpcjioabDoor
open Go.RowKit

/-- what Heights keeps -/
def HtI (w : World) (x y : Value) (W : World) : Prop :=
  Two w.heap.size W x y ∧ Two (w.heap.size + 1) W (.int .i64 0) (.int .i64 0) ∧ Below w.heap.size w W
theorem HtI.below {w : World} {x y : Value} {W W' : World} (h : HtI w x y W) (hb : Below W.heap.size W W') : HtI w x y W' := ⟨h.1.below hb, h.2.1.below hb, bel_trans h.2.2 hb⟩
theorem HtI.init (w : World) (x y : Value) (T U : TypeId) : HtI w x y ((w.alloc (.cells #[x, y] T)).alloc (.cells #[.int .i64 0, .int .i64 0] U)) := by
  have h2 := Two.new (w.alloc (.cells #[x, y] T)) (.int .i64 0) (.int .i64 0) U
  rw [World.size_alloc] at h2
  exact ⟨(Two.new w x y T).alloc _, h2, bel_alloc (bel_alloc (Below.refl _ _))⟩
theorem HtI.put {w : World} {x y : Value} {W : World} (h : HtI w x y W) (p q : Value) :
    Two (w.heap.size + 1) ((W.setCell ⟨w.heap.size + 1, 0, none⟩ p).setCell ⟨w.heap.size + 1, 1, none⟩ q) p q ∧ Below w.heap.size w ((W.setCell ⟨w.heap.size + 1, 0, none⟩ p).setCell ⟨w.heap.size + 1, 1, none⟩ q) :=
  ⟨(h.2.1.set0 p).set1 q, (h.2.2.setCell (p := ⟨w.heap.size + 1, 0, none⟩) (by show w.heap.size ≤ w.heap.size + 1; omega) _).setCell (p := ⟨w.heap.size + 1, 1, none⟩) (by show w.heap.size ≤ w.heap.size + 1; omega) _⟩
/-- what Heights returns -/
def htA (l : List (Int × Int)) (tol v : Int) : Int := if htE l tol v = 0 then htL l v else 0
def htB (l : List (Int × Int)) (tol v : Int) : Int := if htE l tol v = 0 then htH l v else 0
end Go.Proofs.YtdpkochkpcjioabDoor

