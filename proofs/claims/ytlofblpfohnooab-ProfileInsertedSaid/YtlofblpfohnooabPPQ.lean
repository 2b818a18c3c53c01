/- Package profile: what Inside holds. -/
import Derived.Test.YtlofblpfohnooabPSt
import Derived.Maps.AppendAt
namespace Go.Proofs.Ytlofblpfohnooab
open Go.RowKit

theorem box_below {W W' : World} {b : Nat} {t : TypeId} {v : Value} (h : Boxed W b t v) (hb : Below W.heap.size W W') : Boxed W' b t v := (hb.block b h.lt).trans h
theorem row_below {W W' : World} {B n size : Nat} {e : TypeId} {v : Value} {xs : List Value} (h : W.ownsRow B e size v n xs) (hb : Below W.heap.size W W') : W'.ownsRow B e size v n xs := by
  obtain ⟨h1, h2⟩ := h
  refine ⟨h1, ?_⟩
  rcases h2 with h2 | ⟨g, c, cur, hv, hg, hh, r⟩
  · exact .inl h2
  · refine .inr ⟨g, c, cur, hv, hg, ?_, r⟩
    have hlt : g < W.heap.size := by
      rcases Nat.lt_or_ge g W.heap.size with h | h
      · exact h
      · rw [Array.getElem?_eq_none h] at hh; cases hh
    rw [hb.block _ hlt]; exact hh
/-- what Inside holds while it puts: its boxes from p on, and the points that it has put -/
def ISt (p pi : Nat) (w : World) (lv : Value) (s h : Int) (raw : List (Int × Int)) (W : World) : Prop :=
  Boxed W p 22 lv ∧ Boxed W (p + 1) 3 (.int .i64 s) ∧ Boxed W (p + 1 + 1) 3 (.int .i64 h) ∧ (∃ v, Boxed W (pi) 22 v ∧ OwnP W p v raw) ∧ Below p w W
theorem ISt.below {p pi : Nat} {w W W' : World} {lv : Value} {s h : Int} {raw : List (Int × Int)} (hI : ISt p pi w lv s h raw W) (hb : Below W.heap.size W W') : ISt p pi w lv s h raw W' := by
  obtain ⟨h1, h2, h3, ⟨v, h4, h5⟩, h6⟩ := hI
  exact ⟨box_below h1 hb, box_below h2 hb, box_below h3 hb, ⟨v, box_below h4 hb, row_below h5 hb⟩, h6.trans (hb.mono (Nat.le_of_lt h1.lt))⟩

theorem own_form {W : World} {base : Nat} {e : TypeId} {size : Nat} {v : Value} {k : Nat} {xs : List Value} (hk : 0 < k) (h : W.ownsRow base e size v k xs) : ∃ g cap, v = .slice (some ⟨g, 0, none⟩) k cap := by
  obtain ⟨k', rfl⟩ : ∃ k', k = k' + 1 := ⟨k - 1, by omega⟩
  exact ownsRow_succ h
/-- behind the append and the store -/
theorem ist_put {p pi : Nat} (hpi : p + 1 + 1 < pi) {w W w5 : World} {lv v v' : Value} {s h x r : Int} {raw : List (Int × Int)} {o : Obj} (hI : ISt p pi w lv s h raw W) (hv : Boxed W (pi) 22 v) (hrow : OwnP W p v raw)
    (hown' : w5.ownsRow p 30 2 v' (raw.length + 1) (flat raw ++ [.int .i64 x, .int .i64 r])) (hgrow : (W.alloc o).grownBy w5 v.ownBlock) :
    ISt p pi w lv s h (raw ++ [(x, r)]) (w5.setCell ⟨pi, 0, none⟩ v') ∧ Boxed w5 (pi) 22 v := by
  obtain ⟨h1, h2, h3, _, h6⟩ := hI
  obtain ⟨a1, a2, a3, a4, a5⟩ := hv.appended (by decide) hrow (Nat.le_of_lt h1.lt) (by omega) hown' hgrow
  have k1 := ((h1.alloc o).kept hgrow (h1.not_row (by decide) hrow)).kept (grownBy_setCell' w5 (pi) v') (by simp <;> omega)
  have k2 := ((h2.alloc o).kept hgrow (h2.not_row (by decide) hrow)).kept (grownBy_setCell' w5 (pi) v') (by simp <;> omega)
  have k3 := ((h3.alloc o).kept hgrow (h3.not_row (by decide) hrow)).kept (grownBy_setCell' w5 (pi) v') (by simp <;> omega)
  refine ⟨⟨k1, k2, k3, ⟨v', a2, ?_⟩, h6.trans a5⟩, a1⟩
  unfold OwnP
  rw [flat_app, List.length_append]
  exact a3

theorem field_low (a b : Int) (w : World) : (Instr.field 33 (.agg #[.int .i64 a, .int .i64 b]) 0).run Try.prog w = .ok (.int .i64 a) w := by kernel_rfl
end Go.Proofs.Ytlofblpfohnooab
