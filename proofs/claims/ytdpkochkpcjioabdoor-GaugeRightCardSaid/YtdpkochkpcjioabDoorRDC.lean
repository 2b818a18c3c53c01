/- Rows of marks of the call's own. -/
import Derived.Test.YtdpkochkpcjioabDoorPPL0
import Derived.Test.YtdpkochkpcjioabDoorTwo
import Derived.Test.YtdpkochkpcjioabDoorRDB
import Derived.Maps.AppendAt
namespace Go.Proofs.YtdpkochkpcjioabDoor
open Go.RowKit

namespace RM
theorem info_parts {P : Program} {t : TypeId} {z : Value} {s by' : Nat} (h : (P.info? t).map (fun i => (i.zero, i.size, i.bytes)) = some (some z, s, by')) : ∃ i, P.info? t = some i ∧ i.zero = some z ∧ i.size = s ∧ i.bytes = by' := by
  cases hi : P.info? t with
  | none => rw [hi] at h; cases h
  | some i => rw [hi] at h; simp at h; exact ⟨i, rfl, h.1, h.2.1, h.2.2⟩
theorem mk_info : (Tryd.prog.info? 54).map (fun i => (i.zero, i.size, i.bytes)) = some (some (.agg #[.int .i64 0, .int .i64 0]), 2, 16) := by kernel_rfl
theorem row_belM {W W' : World} {B n size : Nat} {e : TypeId} {v : Value} {xs : List Value} (h : W.ownsRow B e size v n xs) (hb : Below W.heap.size W W') : W'.ownsRow B e size v n xs := by
  obtain ⟨h1, h2⟩ := h
  refine ⟨h1, ?_⟩
  rcases h2 with ⟨h2, h3⟩ | ⟨g, cap, cur, h2, hg, hh, r⟩
  · exact .inl ⟨h2, h3⟩
  · refine .inr ⟨g, cap, cur, h2, hg, ?_, r⟩
    rw [hb.block _ (Array.getElem?_eq_some_iff.1 hh).1]
    exact hh
def OwnM (w : World) (B : Nat) (v : Value) (l : List (Int × Int)) : Prop := w.ownsRow B 54 2 v l.length (flat l)
theorem nil (W : World) (B : Nat) : OwnM W B (.slice none 0 0) [] := World.ownsRow_nil _ _ _ _
theorem below {W W' : World} {B : Nat} {v : Value} {l : List (Int × Int)} (h : OwnM W B v l) (hb : Below W.heap.size W W') : OwnM W' B v l := row_belM h hb
theorem pts {w : World} {B : Nat} {v : Value} {l : List (Int × Int)} (h : OwnM w B v l) : Pts w v l := by
  have h' := h
  obtain ⟨_, h2⟩ := h
  rcases h2 with ⟨rfl, hn⟩ | ⟨g, cap, cur, rfl, hg, hh, hc, hm, hs, ht⟩
  · exact ⟨none, 0, by rw [hn], by omega, .inl hn⟩
  · have hlt : g < w.heap.size := (Array.getElem?_eq_some_iff.1 hh).1
    unfold maxLen at hm
    refine ⟨_, cap, rfl, ⟨hc, by omega⟩, .inr ⟨g, 0, rfl, hlt, fun j hj => ?_⟩⟩
    have hcell := World.ownsRow.cells h' (g := g) rfl
    have hf := flat_at l j hj
    have c0 := hcell _ _ hf.1
    have c1 := hcell _ _ hf.2
    rw [Go.WideShapes.add_plain] at c0 c1
    exact ⟨c0, by rw [Nat.add_assoc]; exact c1⟩
theorem flat_two (x y : Int) : flat [(x, y)] = [.int .i64 x, .int .i64 y] := rfl
theorem pair_new (w : World) (y0 y1 : Int) (T : TypeId) (j : Nat) (u : Value) (hj : [Value.int .i64 y0, .int .i64 y1][j]? = some u) : (w.alloc (.cells #[.int .i64 y0, .int .i64 y1] T)).cell? ((⟨w.heap.size, 0, none⟩ : Addr).add j) = some u := by
  obtain ⟨n0, n1, _, _, _⟩ := Two.new w (.int .i64 y0) (.int .i64 y1) T
  rw [Go.WideShapes.add_plain, Nat.zero_add]
  match j, hj with
  | 0, hj => simp at hj; rw [← hj]; exact n0
  | 1, hj => simp at hj; rw [← hj]; exact n1
  | j + 2, hj => simp at hj
theorem pair_one (y0 y1 : Int) : ∀ u ∈ [Value.int .i64 y0, .int .i64 y1], u.oneCell' = true := by
  intro u hu; simp at hu; rcases hu with rfl | rfl <;> rfl
theorem push {W : World} {B k : Nat} {v : Value} {l m : List (Int × Int)} {y0 y1 : Int} (e : m = l ++ [(y0, y1)]) (hk : l.length = k) (h : W.ownsRow B 54 2 v (k + 1) (flat l ++ [.int .i64 y0, .int .i64 y1])) : OwnM W B v m := by
  rw [e]
  unfold OwnM
  rw [flat_app, flat_two, List.length_append, hk]
  exact h
/-- what the loop of Make keeps -/
def MkI (w1 : World) (v : Value) (L : List (Int × Int)) (W : World) : Prop := Below w1.heap.size w1 W ∧ OwnM W w1.heap.size v L
theorem MkI.below {w1 : World} {v : Value} {L : List (Int × Int)} {W W' : World} (h : MkI w1 v L W) (hb : Below W.heap.size W W') : MkI w1 v L W' := ⟨bel_trans h.1 hb, RM.below h.2 hb⟩
theorem shape {W : World} {B : Nat} {v : Value} {L : List (Int × Int)} (h : OwnM W B v L) : ∃ a cap, v = .slice a L.length cap := by
  obtain ⟨a, cap, e, _⟩ := pts h
  exact ⟨a, cap, e⟩
end RM
open RM
end Go.Proofs.YtdpkochkpcjioabDoor

