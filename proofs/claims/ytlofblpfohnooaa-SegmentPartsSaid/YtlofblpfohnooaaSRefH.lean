/- The reference of layer 7: Refine. -/
import Derived.Test.YtlofblpfohnooaaSRefG
import Derived.Test.YtlofblpfohnooaaSRefC
import Derived.StillTailTactics
namespace Go.Proofs.Ytlofblpfohnooaa
open Go.RowKit

/-- the first 2 k + 1 heights of those with the middles between them -/
def rfk (l : List Int) : Nat → List Int
  | 0 => [l.getD 0 0]
  | k + 1 => rfk l k ++ [(l.getD k 0 + l.getD (k + 1) 0) / 2, l.getD (k + 1) 0]
theorem rfk_len (l : List Int) (k : Nat) : (rfk l k).length = 2 * k + 1 := by
  induction k with
  | zero => rfl
  | succ k ih => show (rfk l k ++ _).length = _; rw [List.length_append, ih]; simp; omega
/-- what Refine returns -/
def rfE (l : List Int) : Int := if hcE l = 0 then (if 65 < 2 * l.length - 1 then 15 else 0) else hcE l
def rfL (l : List Int) : List Int := if rfE l = 0 then rfk l (l.length - 1) else []

theorem own_lit (w : World) (B : Nat) (x : Int) (hB : B ≤ w.heap.size) : (w.alloc (.cells #[.int .i64 x] 3)).ownsRow B 3 1 (.slice (some ⟨w.heap.size, 0, none⟩) 1 1) 1 ([x].map (Value.int .i64)) :=
  ⟨rfl, .inr ⟨w.heap.size, 1, #[.int .i64 x], rfl, hB, by show (w.heap.push _)[w.heap.size]? = _; exact Array.getElem?_push_size, by omega, by unfold maxLen; omega, rfl, rfl⟩⟩
theorem own_two {B k : Nat} {w wr w1 : World} {v v' : Value} {zs : List Int} {x y : Int} {o : Obj} (hB : B ≤ wr.heap.size) (hnx : Below B w wr)
    (hown : wr.ownsRow B 3 1 v k (zs.map (Value.int .i64))) (hown' : w1.ownsRow B 3 1 v' (k + 2) (zs.map (Value.int .i64) ++ [.int .i64 x, .int .i64 y])) (hgrow : (wr.alloc o).grownBy w1 v.ownBlock) :
    w1.ownsRow B 3 1 v' (k + 2) ((zs ++ [x, y]).map (Value.int .i64)) ∧ Below B w w1 :=
  ⟨by simpa using hown', (hnx.alloc hB o).grown hgrow (by simp; omega) (fun j hj => (hown.lt j hj).1)⟩

theorem refRfn_bad (v : Value) (E : Int) (w : World) (e1 : (E == 0) = false) (e2 : (E != 0) = true)
    (H3 : Hid (Calls Try.prog 17 #[v] w fun e w' => e = .returned (.int .i64 E) ∧ Below w.heap.size w w')) :
    Calls Try.prog 14 #[v] w fun e w' => e = .returned (.tuple #[.slice none 0 0, .int .i64 E]) ∧ Below w.heap.size w w' := by
  go_enter Try.func14, Try.ntmps14
  go_wp2_with fail
  refine H3.out.mono ?_
  rintro e w1 ⟨rfl, gg⟩
  have X1 := Lib.hid gg; clear gg
  go_wp2
  go_returns
  exact ⟨rfl, X1.out⟩
theorem refRfn_many (a : Option Addr) (n cap : Nat) (w : World) (h : 33 < n) (h1 : n ≤ 65)
    (H3 : Hid (Calls Try.prog 17 #[.slice a n cap] w fun e w' => e = .returned (.int .i64 0) ∧ Below w.heap.size w w')) :
    Calls Try.prog 14 #[.slice a n cap] w fun e w' => e = .returned (.tuple #[.slice none 0 0, .int .i64 15]) ∧ Below w.heap.size w w' := by
  go_enter Try.func14, Try.ntmps14
  go_wp2_with fail
  refine H3.out.mono ?_
  rintro e w1 ⟨rfl, gg⟩
  have X1 := Lib.hid gg; clear gg
  go_wp2
  go_returns
  exact ⟨rfl, X1.out⟩

end Go.Proofs.Ytlofblpfohnooaa
