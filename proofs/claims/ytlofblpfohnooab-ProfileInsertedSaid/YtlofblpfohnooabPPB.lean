/- Package profile: pieces are yielded. -/
import Derived.RangeFuncNested
import Derived.RangeFuncBound
import Derived.RangeFuncCalls
import Derived.RangeFuncLeaves
import Derived.RangeFuncBox
import Derived.Shelf.Abstract
import Derived.Shelf.RegionOpen
import Derived.OwnWalkIn
import Derived.TacticsInMore
import Derived.LoopNIn
import Derived.LoopIn
import Derived.Deep.RegionHeld3
import Derived.Test.YtlofblpfohnooabPPM
import Derived.Test.YtlofblpfohnooabPKept
import Derived.Test.YtlofblpfohnooabTailIn
import Derived.Test.YtlofblpfohnooabUps
namespace Go.Proofs.Ytlofblpfohnooab
open Go.RowKit Go.Shelf
attribute [local go_sem] Oper.semAt_some

/-- the index of a piece's second point, and the piece -/
def encP (l : List (Int × Int)) {m : Nat} (j : Fin m) : Array Value := #[.int .i64 ((j.val : Int) + 1), .agg #[.int .i64 (gX l j.val), .int .i64 (gR l j.val), .int .i64 (gX l (j.val + 1)), .int .i64 (gR l (j.val + 1))]]

/-- what a round keeps: what lay below n₀, and a box -/
def KpB (Bs n₀ : Nat) (W W' : World) : Prop := Below n₀ W W' ∧ ∀ v, W.cell? ⟨Bs, 0, none⟩ = some v → W'.cell? ⟨Bs, 0, none⟩ = some v
theorem kpB_refl (Bs n₀ : Nat) (W : World) : KpB Bs n₀ W W := ⟨Below.refl _ _, fun _ h => h⟩
theorem kpB_t {Bs n₀ : Nat} {A B C : World} (h : KpB Bs n₀ A B) (k : KpB Bs n₀ B C) : KpB Bs n₀ A C := ⟨h.1.trans k.1, fun v e => k.2 v (h.2 v e)⟩
theorem kpB_b {Bs n₀ : Nat} {w : World} (hn : n₀ ≤ w.heap.size) (W : World) (l : Nat) (o o' : Obj) (hl : w.heap.size ≤ l) (h : W.heap[l]? = some o) (h1 : o.isCells = false) (h2 : o.isWalk = false) : KpB Bs n₀ W (W.putObj l o') :=
  ⟨belowK_b hn W l o o' hl h h1 h2, fun _ e => cell_kept e (grownBy_putObj' W l o') (fun r e => by cases e; exact ⟨o, h, h1⟩)⟩
theorem kpB_drew (Bs n₀ : Nat) (W : World) : KpB Bs n₀ W W.drew := ⟨⟨rfl, rfl, rfl, Nat.le_refl _, fun _ _ => rfl⟩, fun _ h => h⟩

set_option maxRecDepth 100000 in
set_option maxHeartbeats 4000000 in
theorem pieces1_in (n : Nat) (l Bs n₀ b off len cap : Nat) (zs : List (Int × Int)) (hl : 1 ≤ len) (hl2 : len ≤ 1000) (hb : b < n₀) (J Jx : List (Fin (len - 1)) → World → Prop) (B0 : Nat) (hJ : AbidesFrom B0 J)
    (hY : ∀ pre x W, J pre W → pre.length < len - 1 → YieldAt Fence.wide (n - 1) Try.prog l (encP zs x) W fun e W' =>
      (e = .returned (.bool true) ∧ J (pre ++ [x]) W' ∧ KpB Bs n₀ W W') ∨ (e = .returned (.bool false) ∧ Jx (pre ++ [x]) W'))
    (W : World) (hBs : W.cell? ⟨Bs, 0, none⟩ = some (.slice (some ⟨b, off, none⟩) len cap)) (hc : ∀ j, j < len → W.cell? ⟨b, off + j * 2, none⟩ = some (.int .i64 (gX zs j)) ∧ W.cell? ⟨b, off + j * 2 + 1, none⟩ = some (.int .i64 (gR zs j))) (h0 : J [] W) :
    CallsIn Fence.wide n Try.prog 48 #[.func (.yield l) #[] #[], .pointer (some ⟨Bs, 0, none⟩)] W fun e W' => (∃ v, e = .returned v) ∧
      ((∃ ys, ys = ups (len - 1) (len - 1) ∧ J ys W') ∨ (∃ pre, (∃ k, k ≤ len - 1 ∧ pre = ups (len - 1) k) ∧ Jx pre W')) := by
  refine callsIn_of_wp Try.func48 rfl trivial ?_ rfl
  simp only [Try.ntmps48, List.size_toArray, List.length_cons, List.length_nil, Nat.reduceAdd, Nat.reduceSub, Array.replicate_succ, Array.replicate_zero, List.push_toArray, List.append_toArray, List.nil_append, List.cons_append]
  gi_wp2
  gi_loopw [3] (fun i wr => ∃ k : Nat, k + 1 ≤ len ∧ i = .int .i64 ((k : Int) + 1) ∧ J (ups (len - 1) k) wr ∧ KpB Bs n₀ W wr)
    (fun i _ => len - (intOf i).toNat)
  case atStart => exact ⟨0, hl, rfl, h0, kpB_refl _ _ _⟩
  case round =>
    obtain ⟨k, hk, rfl, hJs, hnx⟩ := hrel
    have hBx : wr.cell? ⟨Bs, 0, none⟩ = some (.slice (some ⟨b, off, none⟩) len cap) := hnx.2 _ hBs
    by_cases hlt : k + 1 < len
    · have c0 := hc k (by omega)
      have c1 := hc (k + 1) hlt
      have d0 : wr.cell? ⟨b, off + k * 2, none⟩ = some (.int .i64 (gX zs k)) := (hnx.1.cell (p := ⟨b, off + k * 2, none⟩) hb).trans c0.1
      have d1 : wr.cell? ⟨b, off + k * 2 + 1, none⟩ = some (.int .i64 (gR zs k)) := (hnx.1.cell (p := ⟨b, off + k * 2 + 1, none⟩) hb).trans c0.2
      have d2 : wr.cell? ⟨b, off + (k + 1) * 2, none⟩ = some (.int .i64 (gX zs (k + 1))) := (hnx.1.cell (p := ⟨b, off + (k + 1) * 2, none⟩) hb).trans c1.1
      have d3 : wr.cell? ⟨b, off + (k + 1) * 2 + 1, none⟩ = some (.int .i64 (gR zs (k + 1))) := (hnx.1.cell (p := ⟨b, off + (k + 1) * 2 + 1, none⟩) hb).trans c1.2
      clear c0 c1
      obtain ⟨fn, tmps, assign, body, hy, hR⟩ := hY _ ⟨k, by omega⟩ wr.drew (hJ _ _ _ none hJs ⟨rfl, rfl, rfl, Nat.le_refl _, fun _ _ _ => rfl⟩ (fun r e => by cases e)) (by rw [ups_len (by omega)]; omega)
      rw [← ups_succ (by omega)] at hR
      dsimp only [encP] at hy
      have hmx : Try.prog.follows .mixedOrders = true := by kernel_rfl
      have HR2 : Hid (RoundIn Fence.wide (n - 1) Try.prog l fn tmps assign body wr.drew fun e W' => ∃ bb : Bool, e = .returned (.bool bb) ∧ Hid ((bb = true ∧ J (ups (len - 1) (k + 1)) W' ∧ KpB Bs n₀ wr.drew W') ∨ (bb = false ∧ Jx (ups (len - 1) (k + 1)) W'))) := by
        refine hR.mono ?_
        rintro e W3 (⟨rfl, h⟩ | ⟨rfl, h⟩)
        · exact ⟨true, rfl, .inl ⟨rfl, h⟩⟩
        · exact ⟨false, rfl, .inr ⟨rfl, h⟩⟩
      clear hR
      generalize gX zs k = x at *
      generalize gR zs k = p at *
      generalize gX zs (k + 1) = y at *
      generalize gR zs (k + 1) = q at *
      have wj : IntKind.i64.wrap ((k : Int) + 1 - 1) = (k : Int) := by simp only [IntKind.wrap_i64]; omega
      have wk : IntKind.i64.wrap (k : Int) = (k : Int) := by simp only [IntKind.wrap_i64]; omega
      have l0 : (k : Int) < (len : Int) := by omega
      have l1 : (k : Int) + 1 < (len : Int) := by omega
      have l2 : k < len := by omega
      have l3 : 0 ≤ (k : Int) + 1 := by omega
      have l4 : ((k : Int) + 1).toNat = k + 1 := by omega
      gi_wp2
      refine wpIn_region_tail (free_wide _) 12 hmx (by kernel_rfl) (fun _ _ _ => rfl) ?_
      simp only [List.take_succ_cons, List.take_zero, List.drop_succ_cons, List.drop_zero]
      repeat still_step
      refine wpStill_nil ?_
      gi_wp2
      refine ⟨(fun h => by cases h), HR2.out.mono ?_⟩
      rintro e W3 ⟨bb, rfl, h3⟩
      rcases h3.out with ⟨rfl, hJ3, hk3⟩ | ⟨rfl, hJx3⟩
      · gi_wp2
        go_roundw
        case rel => exact ⟨k + 1, by omega, by go_num, hJ3, kpB_t hnx (kpB_t (kpB_drew _ _ wr) hk3)⟩
        case measure => simp [intOf]; omega
      · gi_wp2
        refine bodyPost_ret (results_none rfl _ _ _) rfl ?_
        exact ⟨⟨_, rfl⟩, .inr ⟨_, ⟨k + 1, by omega, rfl⟩, hJx3⟩⟩
    · obtain rfl : len = k + 1 := by omega
      gi_wp2
      go_end0
      exact ⟨⟨_, rfl⟩, .inl ⟨_, rfl, hJs⟩⟩

theorem pieces_any (a : Option Addr) (len cap : Nat) (w : World) :
    Calls Try.prog 43 #[.slice a len cap] w fun e w' => e = .returned (.func (.func 48) #[] #[.pointer (some ⟨w.heap.size, 0, none⟩)]) ∧ w' = w.alloc (.cells #[.slice a len cap] 22) := by
  have hmf : ∀ (fn : Fn) (first cap : Array Value) (w : World), (Instr.makeFunc fn first cap).run Try.prog w = .ok (.func fn first cap) w := fun _ _ _ _ => rfl
  go_enter Try.func43, Try.ntmps43
  go_wp2
  go_ret
  exact ⟨rfl, rfl⟩

/-- what pieces returns yields all pieces, or the first ones -/
theorem pieces_stops (n Bs n₀ b off len cap : Nat) (zs : List (Int × Int)) (hl : 1 ≤ len) (hl2 : len ≤ 1000) (hb : b < n₀) (w : World) (hn : n₀ ≤ w.heap.size)
    (hBs : w.cell? ⟨Bs, 0, none⟩ = some (.slice (some ⟨b, off, none⟩) len cap)) (hc : ∀ j, j < len → w.cell? ⟨b, off + j * 2, none⟩ = some (.int .i64 (gX zs j)) ∧ w.cell? ⟨b, off + j * 2 + 1, none⟩ = some (.int .i64 (gR zs j))) :
    SeqStopsK Fence.wide n Try.prog 48 #[.pointer (some ⟨Bs, 0, none⟩)] (fun x : Fin (len - 1) => encP zs x) (KpB Bs n₀) (fun ys => ys = ups (len - 1) (len - 1))
      (fun pre => ∃ k, k ≤ len - 1 ∧ pre = ups (len - 1) k) (len - 1) w := fun l J Jx W hW hJ _ hY h0 =>
  pieces1_in n l Bs n₀ b off len cap zs hl hl2 hb J Jx W.heap.size hJ hY W ((hW.cell (p := ⟨Bs, 0, none⟩) (World.block_lt_of_cell? w _ hBs)).trans hBs) (fun j hj => ⟨(hW.cell (p := ⟨b, off + j * 2, none⟩) (by show b < _; omega)).trans (hc j hj).1, (hW.cell (p := ⟨b, off + j * 2 + 1, none⟩) (by show b < _; omega)).trans (hc j hj).2⟩) h0
end Go.Proofs.Ytlofblpfohnooab
