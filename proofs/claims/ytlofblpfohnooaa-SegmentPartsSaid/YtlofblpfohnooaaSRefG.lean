/- The reference of layer 7: Heights. -/
import Derived.Test.YtlofblpfohnooaaSX
import Derived.Test.YtlofblpfohnooaaNums
namespace Go.Proofs.Ytlofblpfohnooaa
open Go.RowKit

theorem info_int : (Try.prog.info? 3).map (fun i => (i.zero, i.size, i.bytes)) = some (some (.int .i64 0), 1, 8) := by kernel_rfl
def heB (top n : Int) : Bool := decide (0 ≤ top) && decide (top ≤ 200000) && decide (1 ≤ n) && decide (n ≤ 64)
theorem heB_iff (top n : Int) : heB top n = true ↔ (0 ≤ top ∧ top ≤ 200000) ∧ 1 ≤ n ∧ n ≤ 64 := by simp [heB, and_assoc]
def heE (top n : Int) : Int := if heB top n = true then 0 else 2
def heL (top n : Int) : List Int := if heB top n = true then hs top n.toNat else []
def hk (top n : Int) (k : Nat) : List Int := (List.range k).map fun (i : Nat) => (i : Int) * top / n
theorem hk_len (top n : Int) (k : Nat) : (hk top n k).length = k := by simp [hk]
theorem hk_succ (top n : Int) (k : Nat) : hk top n (k + 1) = hk top n k ++ [(k : Int) * top / n] := by simp [hk, List.range_succ]
theorem nums_of_own {w : World} {B n : Nat} {v : Value} {zs : List Int} (h : w.ownsRow B 3 1 v n (zs.map (Value.int .i64))) : Nums w v zs := by
  have hl : zs.length = n := by have := h.1; simpa using this
  obtain ⟨_, h2⟩ := h
  rcases h2 with ⟨rfl, rfl⟩ | ⟨g, cap, cur, rfl, hg, hh, hc, hm, hs, ht⟩
  · exact ⟨none, 0, by rw [hl], by omega, .inl hl⟩
  · have hlt : g < w.heap.size := by
      rcases Nat.lt_or_ge g w.heap.size with h | h
      · exact h
      · rw [Array.getElem?_eq_none h] at hh; cases hh
    refine ⟨some ⟨g, 0, none⟩, cap, by rw [hl], ⟨by omega, by unfold maxLen at hm; omega⟩, .inr ⟨g, 0, rfl, hlt, fun j hj => ?_⟩⟩
    have hrow : w.ownsRow B 3 1 (.slice (some ⟨g, 0, none⟩) n cap) n (zs.map (Value.int .i64)) := ⟨by simp [hl], .inr ⟨g, cap, cur, rfl, hg, hh, hc, hm, hs, ht⟩⟩
    rw [Nat.zero_add, World.ownsRow.cellAt hrow j (by omega)]
    simp [List.getD, List.getElem?_eq_getElem hj]
theorem own_more {B k : Nat} {w wr w1 : World} {v v' : Value} {zs : List Int} {x : Int} {o : Obj} (hB : B ≤ wr.heap.size) (hnx : Below B w wr)
    (hown : wr.ownsRow B 3 1 v k (zs.map (Value.int .i64))) (hown' : w1.ownsRow B 3 1 v' (k + 1) (zs.map (Value.int .i64) ++ [.int .i64 x])) (hgrow : (wr.alloc o).grownBy w1 v.ownBlock) :
    w1.ownsRow B 3 1 v' (k + 1) ((zs ++ [x]).map (Value.int .i64)) ∧ Below B w w1 :=
  ⟨by simpa using hown', (hnx.alloc hB o).grown hgrow (by simp; omega) (fun j hj => (hown.lt j hj).1)⟩

set_option maxHeartbeats 2000000 in
set_option maxRecDepth 1000000 in
theorem refHts_ok (top : Int) (n : Nat) (w : World) (t0 : 0 ≤ top) (t1 : top ≤ 200000) (n0 : 1 ≤ n) (n1 : n ≤ 64) :
    Calls Try.prog 11 #[.int .i64 top, .int .i64 n] w fun e w' => ∃ v, e = .returned (.tuple #[v, .int .i64 0]) ∧ Nums w' v (hs top n) ∧ Below w.heap.size w w' := by
  obtain ⟨i0, hi, hz0, hz1, hz2⟩ := info_parts info_int
  go_enter Try.func11, Try.ntmps11
  go_wp2
  go_loopw [6, 7] (fun v ii wr => ∃ k : Nat, k ≤ n + 1 ∧ ii = .int .i64 k ∧ wr.ownsRow w.heap.size 3 1 v k ((hk top n k).map (Value.int .i64)) ∧ Below w.heap.size w wr) (fun _ ii _ => n + 1 - (intOf ii).toNat)
  case atStart => exact ⟨0, by omega, rfl, World.ownsRow_nil _ _ _ _, Below.refl _ _⟩
  case round =>
    obtain ⟨k, hk1, rfl, hown, hnx⟩ := hrel
    have m0 : 0 ≤ (k : Int) * top := Int.mul_nonneg (by omega) t0
    have m1 : (k : Int) * top ≤ 65 * 200000 := Int.mul_le_mul (by omega) t1 t0 (by omega)
    have q0 : 0 ≤ (k : Int) * top / n := Int.ediv_nonneg m0 (by omega)
    have q1 : (k : Int) * top / n ≤ (k : Int) * top := Int.ediv_le_self _ m0
    by_cases hlt : k ≤ n
    · go_wp2_with (at_builtin; refine wpList_append_own _ rfl _ _ 22 rfl w.heap.size 3 i0 (.int .i64 0) 1 8 Try.underlying22 hi hz0 hz1 hz2 rfl (by decide) _ _ _ rfl (hown.alloc _) ⟨wr.heap.size, 0, none⟩ 1 1 [.int .i64 ((k : Int) * top / n)] rfl rfl ?c1 ?c2 ?c3 ?c4 ?c5 ?_)
      case c1 =>
        intro j u hj
        match j, hj with
        | 0, hj => simp at hj; subst hj; simp [Addr.add]
      case c2 => intro u hu; simp at hu; subst hu; rfl
      case c3 => unfold maxLen; omega
      case c4 => omega
      case c5 => have := hnx.size; simp; omega
      intro v' w1 hown' hgrow _
      have R := own_more hnx.size hnx hown hown' hgrow
      rw [← hk_succ] at R
      clear hown' hgrow hown hnx
      go_wp2
      go_roundw
      case rel => exact ⟨k + 1, by omega, by go_num, R.1, R.2⟩
      case measure => simp [intOf]; omega
    · obtain rfl : k = n + 1 := by omega
      go_wp2
      go_returns
      exact ⟨_, rfl, nums_of_own hown, hnx⟩
theorem refHts_any (top n : Int) (w : World) :
    Calls Try.prog 11 #[.int .i64 top, .int .i64 n] w fun e w' => ∃ v, e = .returned (.tuple #[v, .int .i64 (heE top n)]) ∧ Nums w' v (heL top n) ∧ Below w.heap.size w w' := by
  unfold heE heL
  cases h : heB top n with
  | true =>
    obtain ⟨⟨t0, t1⟩, n0, n1⟩ := (heB_iff top n).1 h
    rw [if_pos rfl, if_pos rfl]
    have := refHts_ok top n.toNat w t0 t1 (by omega) (by omega)
    rwa [show ((n.toNat : Nat) : Int) = n by omega] at this
  | false =>
    have hn : top < 0 ∨ (0 ≤ top ∧ 200000 < top) ∨ ((0 ≤ top ∧ top ≤ 200000) ∧ n < 1) ∨ ((0 ≤ top ∧ top ≤ 200000) ∧ 1 ≤ n ∧ 64 < n) := by
      have : ¬ ((0 ≤ top ∧ top ≤ 200000) ∧ 1 ≤ n ∧ n ≤ 64) := fun hc => by rw [(heB_iff top n).2 hc] at h; cases h
      omega
    rw [if_neg (by simp), if_neg (by simp)]
    clear h
    rcases hn with hn | ⟨hn, hn2⟩ | ⟨⟨hn, hn2⟩, hn3⟩ | ⟨⟨hn, hn2⟩, hn3, hn4⟩
    all_goals
      go_enter Try.func11, Try.ntmps11
      go_wp2
      go_returns
      exact ⟨_, rfl, ⟨none, 0, rfl, by simp, .inl rfl⟩, Below.refl _ _⟩
end Go.Proofs.Ytlofblpfohnooaa
