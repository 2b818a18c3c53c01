/- A point is appended to a row of the call's own. -/
import Derived.Test.YtlofblpfohnooabPPI
namespace Go.Proofs.Ytlofblpfohnooab
open Go.RowKit

/-- a point is appended to a row of the call's own, as one step of a region that draws its order -/
theorem step_pt {ops : Array Oper} {o : Oper} {a : Act} {w : World} {K : Act → World → Prop} {Q : Exit → Act → World → Prop} {E : Prop} (hg : o.guard = none) (s x : Operand)
    (hop : o.op = Op.call { callee := Callee.builtin Builtin.append, args := #[s, x], argTypes := #[22, 22] }) (B n g c : Nat) (v : Value) (l : List (Int × Int)) (p q : Int)
    (hs : a.eval s = v) (hx : a.eval x = .slice (some ⟨g, 0, none⟩) 1 c) (hown : w.ownsRow B 30 2 v n (flat l)) (hn : n ≤ 1000) (hB : B ≤ w.heap.size)
    (hp : ∀ j u, [(.int .i64 p : Value), .int .i64 q][j]? = some u → w.cell? ((⟨g, 0, none⟩ : Addr).add j) = some u)
    (h : ∀ v' w', w'.ownsRow B 30 2 v' (n + 1) (flat l ++ [.int .i64 p, .int .i64 q]) → w.grownBy w' v.ownBlock → K (a.put o.dst v') w') :
    if Region.wanted o (yielded ops a.tmps) = true then Oper.wp Try.prog o a w K Q else E := by
  obtain ⟨i0, hi, hz0, hz1, hz2⟩ := info_parts pt_info
  rw [if_pos (by simp [Region.wanted, hg])]
  refine wp_append_own w s x 22 hop B 30 i0 (.agg #[.int .i64 0, .int .i64 0]) 2 16 Try.underlying22 hi hz0 hz1 hz2 rfl (by decide) v n _ hs hown ⟨g, 0, none⟩ 1 c [.int .i64 p, .int .i64 q] hx rfl hp (fun u hu => ?_) (by unfold maxLen; omega) (by omega) hB (fun v' w' h1 h2 _ => h v' w' h1 h2)
  simp at hu; rcases hu with rfl | rfl <;> rfl
end Go.Proofs.Ytlofblpfohnooab
