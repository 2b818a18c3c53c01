/- Texts that the proofs of this seat share, one behind the other: SRefG, LRA, PC0, PRC, PRD, RB, RS, SRefA, SRefB, SRefC, SRefD, PF, CF, LM, LN, CB0, LRB, LWS, SRA, CKA, PKept, TailIn, Ups, PPB, PPC, PPD, PPA, PPEC, CKB, PPEL, EPA, LOI, PPL, EPB, OwnR, EPC, LOP. -/
import Derived.Test.YtmdpdpbkbakidaaGreatM1
import Derived.StillTailTactics
import Derived.Deep.RegionWith
import Derived.BigQuiet
import Derived.Deep.RegionHeld3
import Derived.Deep.CutRange
import Derived.Deep.AppendLies
import Derived.Shelf.GgClosure.StringsRunes
import Derived.Laws.RangeAny
import Derived.RangeFuncNested
import Derived.RangeFuncBound
import Derived.RangeFuncCalls
import Derived.RangeFuncLeaves
import Derived.RangeFuncBox
import Derived.StillTail
import Derived.StillTactics
import Derived.OrdersIn
import Derived.TacticsIn
import Derived.Lib.Hide
import Derived.Shelf.Abstract
import Derived.Shelf.RegionOpen
import Derived.OwnWalkIn
import Derived.TacticsInMore
import Derived.LoopNIn
import Derived.LoopIn
import Derived.Laws.EntriesVeiled
import Derived.FnLit
import Derived.Laws.AppendOwn
import Derived.Deep.RegionLaw
import Derived.Maps.AppendAt
import Derived.Laws.MakeOwn

set_option linter.unusedVariables false
set_option linter.unusedSimpArgs false

/- The reference of layer 7: Heights. -/
namespace Go.Proofs.YtmdpdpbkbakidaaGreat
open Go.RowKit

theorem info_int : (Tryz.prog.info? 3).map (fun i => (i.zero, i.size, i.bytes)) = some (some (.int .i64 0), 1, 8) := by kernel_rfl
def heB (top n : Int) : Bool := decide (0 ≤ top) && decide (top ≤ 200000) && decide (1 ≤ n) && decide (n ≤ 64)
theorem heB_iff (top n : Int) : heB top n = true ↔ (0 ≤ top ∧ top ≤ 200000) ∧ 1 ≤ n ∧ n ≤ 64 := by simp [heB, and_assoc]
def heE (top n : Int) : Int := if heB top n = true then 0 else 2
def heL (top n : Int) : List Int := if heB top n = true then hs top n.toNat else []
def hk (top n : Int) (k : Nat) : List Int := (List.range k).map fun (i : Nat) => (i : Int) * top / n
theorem hk_len (top n : Int) (k : Nat) : (hk top n k).length = k := by simp [hk]
theorem hk_succ (top n : Int) (k : Nat) : hk top n (k + 1) = hk top n k ++ [(k : Int) * top / n] := by simp [hk, List.range_succ]
theorem nums_of_own {w : World} {B n : Nat} {v : Value} {zs : List Int} (h : w.ownsRow B 3 1 v n (zs.map (Value.int .i64))) : Nums w v zs := by
  have hl : zs.length = n := by have := h.1; simpa using this
  obtain ⟨_, h2⟩ := h
  rcases h2 with ⟨rfl, rfl⟩ | ⟨g, cap, cur, rfl, hg, hh, hc, hm, hs, ht⟩
  · exact ⟨none, 0, by rw [hl], by omega, .inl hl⟩
  · have hlt : g < w.heap.size := by
      rcases Nat.lt_or_ge g w.heap.size with h | h
      · exact h
      · rw [Array.getElem?_eq_none h] at hh; cases hh
    refine ⟨some ⟨g, 0, none⟩, cap, by rw [hl], ⟨by omega, by unfold maxLen at hm; omega⟩, .inr ⟨g, 0, rfl, hlt, fun j hj => ?_⟩⟩
    have hrow : w.ownsRow B 3 1 (.slice (some ⟨g, 0, none⟩) n cap) n (zs.map (Value.int .i64)) := ⟨by simp [hl], .inr ⟨g, cap, cur, rfl, hg, hh, hc, hm, hs, ht⟩⟩
    rw [Nat.zero_add, World.ownsRow.cellAt hrow j (by omega)]
    simp [List.getD, List.getElem?_eq_getElem hj]
theorem own_more {B k : Nat} {w wr w1 : World} {v v' : Value} {zs : List Int} {x : Int} {o : Obj} (hB : B ≤ wr.heap.size) (hnx : Below B w wr)
    (hown : wr.ownsRow B 3 1 v k (zs.map (Value.int .i64))) (hown' : w1.ownsRow B 3 1 v' (k + 1) (zs.map (Value.int .i64) ++ [.int .i64 x])) (hgrow : (wr.alloc o).grownBy w1 v.ownBlock) :
    w1.ownsRow B 3 1 v' (k + 1) ((zs ++ [x]).map (Value.int .i64)) ∧ Below B w w1 :=
  ⟨by simpa using hown', (hnx.alloc hB o).grown hgrow (by simp; omega) (fun j hj => (hown.lt j hj).1)⟩

end Go.Proofs.YtmdpdpbkbakidaaGreat

/- The reference of layer 11: has, is. -/
namespace Go.Proofs.YtmdpdpbkbakidaaGreat
open Go.RowKit

/-- the first fault of a cask that has to be right and lying -/
def liSE (c : Ck) : Int := if ccE c = 0 then (if c.ps = 1 then 0 else 10) else 1
end Go.Proofs.YtmdpdpbkbakidaaGreat

/- Plain facts: a piece of a right profile. -/
namespace Go.Proofs.YtmdpdpbkbakidaaGreat

/-- a piece of a right profile, at a place of it -/
theorem pc_bd {l : List (Int × Int)} {x : Int} {i : Nat} (h : RP l) (x0 : 0 ≤ x) (hi : IsPc l x i) :
    1 ≤ i ∧ i < l.length ∧ (0 ≤ gX l (i - 1) ∧ gX l (i - 1) < gX l i ∧ gX l i ≤ 100000) ∧ (1 ≤ gR l (i - 1) ∧ gR l (i - 1) ≤ 100000) ∧ (1 ≤ gR l i ∧ gR l i ≤ 100000) ∧ gX l (i - 1) ≤ x ∧ x ≤ gX l i := by
  have h1 := hi.h1
  have h2 := hi.h2
  have b0 := h.bx (i - 1) (by omega)
  have b1 := h.bx i h2
  have a := h.asc (i - 1) (by omega)
  rw [show i - 1 + 1 = i by omega] at a
  refine ⟨h1, h2, ⟨b0.1, a, b1.2⟩, h.br _ (by omega), h.br _ h2, ?_, hi.h3⟩
  by_cases e : i = 1
  · subst e; have := h.x0; show gX l 0 ≤ x; omega
  · have := hi.h4 (i - 1) (by omega) (by omega)
    omega
end Go.Proofs.YtmdpdpbkbakidaaGreat

/- The reference of layer 8: Length, radius, Radius, At. -/
namespace Go.Proofs.YtmdpdpbkbakidaaGreat
open Go.RowKit

/-! ### radius -/
theorem lnN_bd {a p b q x : Int} (a0 : 0 ≤ a) (ab : a < b) (b1 : b ≤ 100000) (p0 : 0 ≤ p) (p1 : p ≤ 100000) (q0 : 0 ≤ q) (q1 : q ≤ 100000) (x0 : a ≤ x) (x1 : x ≤ b) :
    (0 ≤ p * (b - a) ∧ p * (b - a) ≤ 10000000000) ∧ (-10000000000 ≤ (q - p) * (x - a) ∧ (q - p) * (x - a) ≤ 10000000000) ∧ 0 ≤ lnN a p b q x := by
  have h1 : p * (b - a) ≤ 100000 * 100000 := Int.mul_le_mul p1 (by omega) (by omega) (by omega)
  have h0 : 0 ≤ p * (b - a) := Int.mul_nonneg p0 (by omega)
  have h2 : (q - p) * (x - a) ≤ 100000 * (x - a) := Int.mul_le_mul_of_nonneg_right (by omega) (by omega)
  have h3 : -100000 * (x - a) ≤ (q - p) * (x - a) := Int.mul_le_mul_of_nonneg_right (by omega) (by omega)
  have bt := (ln_between (p := p) (q := q) ab x0 x1).1
  have h4 : 0 ≤ lnN a p b q x / (b - a) := by omega
  refine ⟨⟨h0, by omega⟩, ⟨by omega, by omega⟩, ?_⟩
  have := Int.mul_le_mul_of_nonneg_right h4 (show 0 ≤ b - a by omega)
  have := Int.ediv_mul_le (lnN a p b q x) (show b - a ≠ 0 by omega)
  omega
set_option maxHeartbeats 16000000 in
set_option maxRecDepth 100000 in
theorem radius_some (b off n cap : Nat) (l : List (Int × Int)) (x : Int) (i : Nat) (w : World) (n0 : 2 ≤ n) (n1 : n ≤ 1000) (hn : n = l.length) (hb : b < w.heap.size)
    (hc : Hid (∀ j, j < n → w.cell? ⟨b, off + j * 2, none⟩ = some (.int .i64 (gX l j)) ∧ w.cell? ⟨b, off + j * 2 + 1, none⟩ = some (.int .i64 (gR l j))))
    (hR : Hid (RP l)) (x0 : 0 ≤ x) (xb : x ≤ 100000) (hi : Hid (IsPc l x i)) :
    Calls Tryz.prog 62 #[.slice (some ⟨b, off, none⟩) n cap, .int .i64 x] w fun e w' => e = .returned (.tuple #[.int .i64 (lnN (gX l (i - 1)) (gR l (i - 1)) (gX l i) (gR l i) x), .int .i64 (gX l i - gX l (i - 1))]) ∧ Below w.heap.size w w' := by
  have HN := Lib.hid hn
  clear hn
  go_enter Tryz.func62, Tryz.ntmps62
  go_wp2_with fail
  go_loopw [6, 7, 8] (fun ii _ _ wr => ∃ k : Nat, k + 1 ≤ i ∧ ii = .int .i64 ((k : Int) + 1) ∧ Hid (Below w.heap.size w wr)) (fun ii _ _ _ => n - (intOf ii).toNat)
  case atStart => exact ⟨0, hi.out.h1, rfl, Below.refl _ _⟩
  case round =>
    obtain ⟨k, hk, rfl, hB⟩ := hrel
    have hlt : k + 1 < n := by have := hi.out.h2; have := HN.out; omega
    have c0 : wr.cell? ⟨b, off + k * 2, none⟩ = some (.int .i64 (gX l k)) := by rw [(bcell hB.out).1 _ _ hb]; exact (hc.out k (by omega)).1
    have c1 : wr.cell? ⟨b, off + k * 2 + 1, none⟩ = some (.int .i64 (gR l k)) := by rw [(bcell hB.out).1 _ _ hb]; exact (hc.out k (by omega)).2
    have c2 : wr.cell? ⟨b, off + (k + 1) * 2, none⟩ = some (.int .i64 (gX l (k + 1))) := by rw [(bcell hB.out).1 _ _ hb]; exact (hc.out (k + 1) hlt).1
    have c3 : wr.cell? ⟨b, off + (k + 1) * 2 + 1, none⟩ = some (.int .i64 (gR l (k + 1))) := by rw [(bcell hB.out).1 _ _ hb]; exact (hc.out (k + 1) hlt).2
    have hbr : b < wr.heap.size := Nat.lt_of_lt_of_le hb hB.out.size
    have a0 : ∀ o, (wr.alloc o).cell? ⟨b, off + k * 2, none⟩ = some (.int .i64 (gX l k)) := fun o => by rw [World.cell?_alloc_lt wr o _ hbr]; exact c0
    have a1 : ∀ o, (wr.alloc o).cell? ⟨b, off + k * 2 + 1, none⟩ = some (.int .i64 (gR l k)) := fun o => by rw [World.cell?_alloc_lt wr o _ hbr]; exact c1
    have a2 : ∀ o, (wr.alloc o).cell? ⟨b, off + (k + 1) * 2, none⟩ = some (.int .i64 (gX l (k + 1))) := fun o => by rw [World.cell?_alloc_lt wr o _ hbr]; exact c2
    have a3 : ∀ o, (wr.alloc o).cell? ⟨b, off + (k + 1) * 2 + 1, none⟩ = some (.int .i64 (gR l (k + 1))) := fun o => by rw [World.cell?_alloc_lt wr o _ hbr]; exact c3
    have l2 : k < n := by omega
    have l3 : (k : Int) < (n : Int) := by omega
    have l5 : (k : Int) + 1 < (n : Int) := by omega
    have wj : IntKind.i64.wrap ((k : Int) + 1 - 1) = (k : Int) := by simp only [IntKind.wrap_i64]; omega
    have wk : IntKind.i64.wrap (k : Int) = (k : Int) := by simp only [IntKind.wrap_i64]; omega
    have l6 : 0 ≤ (k : Int) + 1 := by omega
    have l7 : ((k : Int) + 1).toNat = k + 1 := by omega
    have HX : Hid (∀ (W : World), Below wr.heap.size wr W → Below w.heap.size w W) := fun W h => bel_trans hB.out h
    by_cases hq : k + 1 = i
    · have bd := pc_bd hR.out x0 hi.out
      rw [← hq, show k + 1 - 1 = k by omega] at bd
      obtain ⟨_, _, ⟨b0, b1, b2⟩, ⟨d0, d1⟩, ⟨f0, f1⟩, g0, g1⟩ := bd
      have L := lnN_bd (p := gR l k) (q := gR l (k + 1)) (x := x) b0 b1 b2 (by omega) d1 (by omega) f1 g0 g1
      have eL : lnN (gX l k) (gR l k) (gX l (k + 1)) (gR l (k + 1)) x = gR l k * (gX l (k + 1) - gX l k) + (gR l (k + 1) - gR l k) * (x - gX l k) := rfl
      have eR : Hid (∀ N D : Int, N = lnN (gX l k) (gR l k) (gX l (k + 1)) (gR l (k + 1)) x → D = gX l (k + 1) - gX l k → (Ending.returned (.tuple #[.int .i64 N, .int .i64 D]) = .returned (.tuple #[.int .i64 (lnN (gX l (i - 1)) (gR l (i - 1)) (gX l i) (gR l i) x), .int .i64 (gX l i - gX l (i - 1))]))) := fun N D e1 e2 => by
        rw [e1, e2, ← hq, show k + 1 - 1 = k by omega]
      rw [eL] at L eR
      generalize gX l k = a at *
      generalize gR l k = p at *
      generalize gX l (k + 1) = c at *
      generalize gR l (k + 1) = q at *
      obtain ⟨⟨m0, m1⟩, ⟨m2, m3⟩, m4⟩ := L
      have w1 : IntKind.i64.wrap (c - a) = c - a := wrap_in _ ⟨by omega, by omega⟩
      have w2 : IntKind.i64.wrap (q - p) = q - p := wrap_in _ ⟨by omega, by omega⟩
      have w3 : IntKind.i64.wrap (x - a) = x - a := wrap_in _ ⟨by omega, by omega⟩
      have w4 : IntKind.i64.wrap (p * (c - a)) = p * (c - a) := wrap_in _ ⟨by omega, by omega⟩
      have w5 : IntKind.i64.wrap ((q - p) * (x - a)) = (q - p) * (x - a) := wrap_in _ ⟨by omega, by omega⟩
      have w6 : IntKind.i64.wrap (p * (c - a) + (q - p) * (x - a)) = p * (c - a) + (q - p) * (x - a) := wrap_in _ ⟨by omega, by omega⟩
      clear hB hq eL
      go_wp2_with fail
      go_region
      all_goals go_wp2_with fail
      all_goals go_quiet (fail)
      all_goals go_wp2
      all_goals go_returns
      all_goals exact ⟨eR.out _ _ rfl rfl, HX.out _ (bel_alloc (bel_alloc (bel_trans (bel_drew _) (bel_drewN _ _))))⟩
    · have h4 := hi.out.h4 (k + 1) (by omega) (by omega)
      have h5 : ¬ x ≤ gX l (k + 1) := by omega
      generalize gX l k = a at *
      generalize gR l k = p at *
      generalize gX l (k + 1) = c at *
      generalize gR l (k + 1) = q at *
      clear hB
      go_wp2_with fail
      go_region
      all_goals go_wp2
      all_goals go_roundw
      all_goals first | exact ⟨k + 1, by omega, by go_num, HX.out _ (bel_alloc (bel_alloc (bel_drew _)))⟩ | (simp [intOf]; omega)
end Go.Proofs.YtmdpdpbkbakidaaGreat

/- The reference of layer 8: Radius, ready, At. -/
namespace Go.Proofs.YtmdpdpbkbakidaaGreat
open Go.RowKit

set_option maxHeartbeats 4000000 in
set_option maxRecDepth 100000 in
theorem rad_walk (v : Value) (x N D : Int) (w : World) (n0 : 0 ≤ N) (n1 : N ≤ 1000000000000) (d0 : 1 ≤ D) (d1 : D ≤ 100000)
    (H1 : Hid (∀ W, Below w.heap.size w W → Calls Tryz.prog 62 #[v, .int .i64 x] W fun e w' => e = .returned (.tuple #[.int .i64 N, .int .i64 D]) ∧ Below W.heap.size W w')) :
    Calls Tryz.prog 46 #[v, .int .i64 x] w fun e w' => e = .returned (.agg #[.int .i64 (N / D), .int .i64 (cdv N D)]) ∧ Below w.heap.size w w' := by
  have q0 : 0 ≤ N / D := Int.ediv_nonneg n0 (by omega)
  have q1 : N / D ≤ N := Int.ediv_le_self _ n0
  have q2 : 0 ≤ (N + D - 1) / D := Int.ediv_nonneg (by omega) (by omega)
  have q3 : (N + D - 1) / D ≤ N + D - 1 := Int.ediv_le_self _ (by omega)
  have t1 : N.tdiv D = N / D := Int.tdiv_eq_ediv_of_nonneg n0
  have t2 : (N + D - 1).tdiv D = (N + D - 1) / D := Int.tdiv_eq_ediv_of_nonneg (by omega)
  have w1 : IntKind.i64.wrap (N / D) = N / D := wrap_in _ ⟨by omega, by omega⟩
  have w2 : IntKind.i64.wrap (N + D) = N + D := wrap_in _ ⟨by omega, by omega⟩
  have w3 : IntKind.i64.wrap (N + D - 1) = N + D - 1 := wrap_in _ ⟨by omega, by omega⟩
  have w4 : IntKind.i64.wrap ((N + D - 1) / D) = (N + D - 1) / D := wrap_in _ ⟨by omega, by omega⟩
  have dz : (D == 0) = false := by rw [beq_eq_false_iff_ne]; omega
  have dz2 : D ≠ 0 := by omega
  have T0 := Lib.hid (Two.new w (.int .i64 0) (.int .i64 0) 29)
  go_enter Tryz.func46, Tryz.ntmps46
  go_wp2_with fail
  refine (H1.out _ (bel_alloc (Below.refl _ _))).mono ?_
  rintro e w1' ⟨rfl, gg⟩
  replace T0 := Lib.hid (T0.out.below gg)
  have X1 := Lib.hid (bel_alloc gg); clear gg
  go_wp2_with fail
  go_still_tail 10, (by kernel_rfl)
  change wpList _ _ _ _ _ w1'.drew
  replace T0 := Lib.hid (T0.out.below (bel_drew w1'))
  replace X1 := Lib.hid (bel_trans X1.out (bel_drew w1'))
  generalize w1'.drew = wq at *
  obtain ⟨z0, z1, f0, f1, hlt⟩ := T0.out
  go_wp2
  obtain ⟨t0, t1⟩ := two_read wq w.heap.size (.int .i64 (N / D)) (.int .i64 ((N + D - 1) / D)) z0 z1
  refine bodyPost_ret (v := .agg #[.int .i64 (N / D), .int .i64 ((N + D - 1) / D)]) (by simp [results, Tryz.results46, go_sem, t0, t1]) rfl ?_
  exact ⟨rfl, (X1.out.setCell (Nat.le_refl _) _).setCell (Nat.le_refl _) _⟩
theorem radius_of {v : Value} {l : List (Int × Int)} {w : World} (hv : Pts w v l) (h : RP l) (x : Int) (x0 : 0 ≤ x) (x1 : x ≤ gX l (l.length - 1)) :
    Calls Tryz.prog 46 #[v, .int .i64 x] w fun e w' => e = .returned (.agg #[.int .i64 (rdL l x), .int .i64 (rdH l x)]) ∧ Below w.heap.size w w' := by
  have n0 := h.n0
  have n1 := h.n1
  have hi := pc_is n0 x1
  have hx := h.bx (l.length - 1) (by omega)
  obtain ⟨_, _, ⟨b0, b1, b2⟩, ⟨c0, c1⟩, ⟨d0, d1⟩, g0, g1⟩ := pc_bd h x0 hi
  have L := lnN_bd (p := gR l (pc l x - 1)) (q := gR l (pc l x)) (x := x) b0 b1 b2 (by omega) c1 (by omega) d1 g0 g1
  have eN : lnN (gX l (pc l x - 1)) (gR l (pc l x - 1)) (gX l (pc l x)) (gR l (pc l x)) x = gR l (pc l x - 1) * (gX l (pc l x) - gX l (pc l x - 1)) + (gR l (pc l x) - gR l (pc l x - 1)) * (x - gX l (pc l x - 1)) := rfl
  refine rad_walk v x (lnN (gX l (pc l x - 1)) (gR l (pc l x - 1)) (gX l (pc l x)) (gR l (pc l x)) x) (gX l (pc l x) - gX l (pc l x - 1)) w L.2.2 (by omega) (by omega) (by omega) (Lib.hid fun W hW => ?_)
  obtain ⟨a, cap, rfl, hl, hh⟩ := hv.below hW
  rcases hh with hh | ⟨b, off, rfl, hb, hc⟩
  · omega
  · exact radius_some b off l.length cap l x (pc l x) W n0 (by omega) rfl hb (Lib.hid hc) (Lib.hid h) x0 (by omega) (Lib.hid hi)

end Go.Proofs.YtmdpdpbkbakidaaGreat

/- Plain facts on a root that is found bit by bit. No program stands in this text. -/
namespace Go.Proofs.YtmdpdpbkbakidaaGreat

/-- q is the root of n as far as the bits from k on go; bit is the next one -/
def RBit (n q bit : Int) (k : Nat) : Prop := bit = 2 ^ k / 2 ∧ 0 ≤ q ∧ q * q ≤ n ∧ n < (q + 2 ^ k) * (q + 2 ^ k) ∧ q + 2 ^ k ≤ 2147483648
theorem two_pos (k : Nat) : (1 : Int) ≤ 2 ^ k := by
  induction k with
  | zero => simp
  | succ k ih => rw [Int.pow_succ]; omega
theorem two_half (k : Nat) : (2 : Int) ^ (k + 1) / 2 = 2 ^ k := by
  rw [Int.pow_succ, Int.mul_ediv_cancel _ (by omega)]
theorem RBit.start (n : Int) (h0 : 0 ≤ n) (h1 : n < 4611686018427387904) : RBit n 0 1073741824 31 := ⟨by decide, by omega, by simpa using h0, by simpa using h1, by decide⟩
theorem RBit.pos {n q bit : Int} {k : Nat} (h : RBit n q bit k) (hb : 0 < bit) : ∃ j, k = j + 1 ∧ bit = 2 ^ j ∧ (2 : Int) ^ k = bit + bit := by
  obtain ⟨e, _⟩ := h
  cases k with
  | zero => simp at e; omega
  | succ j =>
    rw [two_half] at e
    exact ⟨j, rfl, e, by rw [Int.pow_succ, ← e]; omega⟩
theorem RBit.bd {n q bit : Int} {k : Nat} (h : RBit n q bit k) (hb : 0 < bit) : 0 ≤ q ∧ q + bit ≤ 2147483647 ∧ 0 ≤ (q + bit) * (q + bit) ∧ (q + bit) * (q + bit) ≤ 4611686014132420609 := by
  obtain ⟨j, _, _, e⟩ := h.pos hb
  obtain ⟨_, q0, _, _, b⟩ := h
  rw [e] at b
  have h1 : q + bit ≤ 2147483647 := by omega
  have := sq_mono (show 0 ≤ q + bit by omega) h1
  exact ⟨q0, h1, Int.mul_nonneg (by omega) (by omega), by omega⟩
theorem RBit.up {n q bit : Int} {k : Nat} (h : RBit n q bit k) (hb : 0 < bit) (hq : (q + bit) * (q + bit) ≤ n) : ∃ j, k = j + 1 ∧ RBit n (q + bit) (bit / 2) j := by
  obtain ⟨j, ek, e, e2⟩ := h.pos hb
  obtain ⟨_, q0, _, a, b⟩ := h
  rw [e2] at a b
  refine ⟨j, ek, by rw [e], by omega, hq, ?_, by rw [← e]; omega⟩
  rw [← e, show q + bit + bit = q + (bit + bit) by omega]; exact a
theorem RBit.keep {n q bit : Int} {k : Nat} (h : RBit n q bit k) (hb : 0 < bit) (hq : n < (q + bit) * (q + bit)) : ∃ j, k = j + 1 ∧ RBit n q (bit / 2) j := by
  obtain ⟨j, ek, e, e2⟩ := h.pos hb
  obtain ⟨_, q0, c, a, b⟩ := h
  rw [e2] at b
  exact ⟨j, ek, by rw [e], q0, c, by rw [← e]; exact hq, by rw [← e]; omega⟩
theorem RBit.stop {n q bit : Int} {k : Nat} (h : RBit n q bit k) (hb : bit ≤ 0) : rt n = q := by
  obtain ⟨e, q0, c, a, _⟩ := h
  cases k with
  | zero => exact rt_of q0 c (by simpa using a)
  | succ j =>
    rw [two_half] at e
    have := two_pos j
    omega
end Go.Proofs.YtmdpdpbkbakidaaGreat

/- What root's functions return, and what follows from it. -/
namespace Go.Proofs.YtmdpdpbkbakidaaGreat

def rnB (n : Int) : Bool := decide (0 ≤ n) && decide (n ≤ 1125899906842624)
theorem rnB_iff (n : Int) : rnB n = true ↔ 0 ≤ n ∧ n ≤ 1125899906842624 := by simp [rnB]
def rnE (n : Int) : Int := if rnB n = true then 0 else 2
noncomputable def dnQ (n : Int) : Int := if rnB n = true then rt n else 0
noncomputable def upR (n : Int) : Int := if rnB n = true then ce n else 0
noncomputable def sqB (n : Int) : Bool := rnB n && decide (rt n = ce n)
def fdB (n k : Int) : Bool := decide (0 ≤ n) && decide (n ≤ 1099511627776) && decide (1 ≤ k) && decide (k ≤ 1000)
theorem fdB_iff (n k : Int) : fdB n k = true ↔ (0 ≤ n ∧ n ≤ 1099511627776) ∧ 1 ≤ k ∧ k ≤ 1000 := by simp [fdB, and_assoc]
def fdE (n k : Int) : Int := if fdB n k = true then 0 else 2
noncomputable def fdQ (n k : Int) : Int := if fdB n k = true then rt (n * k * k) else 0
def hfB (r y : Int) : Bool := decide (0 ≤ r) && decide (r ≤ 100000) && decide (-100000 ≤ y) && decide (y ≤ 100000)
theorem hfB_iff (r y : Int) : hfB r y = true ↔ (0 ≤ r ∧ r ≤ 100000) ∧ -100000 ≤ y ∧ y ≤ 100000 := by simp [hfB, and_assoc]
def hfE (r y : Int) : Int := if hfB r y = true then 0 else 2
noncomputable def hfL (r y : Int) : Int := if hfB r y = true then hcL r y else 0
noncomputable def hfH (r y : Int) : Int := if hfB r y = true then hcH r y else 0

/-- RootBetween -/
theorem rn_facts (n : Int) (h : rnB n = true) :
    (0 ≤ rt n ∧ rt n ≤ 33554432) ∧ (ce n = rt n ∨ ce n = rt n + 1) ∧ rt n * rt n ≤ n ∧ n < (rt n + 1) * (rt n + 1) ∧ n ≤ ce n * ce n ∧ (rt n = ce n ↔ rt n * rt n = n) := by
  obtain ⟨h0, h1⟩ := (rnB_iff n).1 h
  obtain ⟨a0, a1, a2⟩ := rt_spec n h0
  obtain ⟨b0, b1, b2, b3⟩ := ce_spec n h0
  have hb := rt_le h0 (show (0 : Int) ≤ 33554432 by omega) (show n ≤ 33554432 * 33554432 by omega)
  exact ⟨⟨a0, hb⟩, by omega, a1, a2, b2, ⟨fun e => b3.1 e.symm, fun e => (b3.2 e).symm⟩⟩
theorem rn_sq (n : Int) (h : rnB n = true) : ce n ≤ 33554433 ∧ 0 ≤ ce n ∧ 0 ≤ rt n * rt n ∧ rt n * rt n ≤ 1125899906842624 ∧ (rt n + 1) * (rt n + 1) ≤ 1125899973951489 ∧ 0 ≤ ce n * ce n ∧ ce n * ce n ≤ 1125899973951489 := by
  obtain ⟨⟨a0, a1⟩, b, _⟩ := rn_facts n h
  have e1 := sq_mono a0 a1
  have e2 := sq_mono (show 0 ≤ rt n + 1 by omega) (show rt n + 1 ≤ 33554433 by omega)
  have e3 := sq_mono (show 0 ≤ ce n by omega) (show ce n ≤ 33554433 by omega)
  exact ⟨by omega, by omega, Int.mul_nonneg a0 a0, by omega, by omega, Int.mul_nonneg (by omega) (by omega), by omega⟩
/-- RootFolds -/
theorem fd_facts (n k : Int) (h : fdB n k = true) :
    rnB n = true ∧ k * rt n ≤ rt (n * k * k) ∧ rt (n * k * k) ≤ k * ce n ∧ 0 ≤ rt (n * k * k) ∧ rt (n * k * k) * rt (n * k * k) ≤ n * k * k ∧ n * k * k < (rt (n * k * k) + 1) * (rt (n * k * k) + 1) ∧
      (0 ≤ n * k ∧ n * k ≤ 1099511627776000) ∧ (0 ≤ n * k * k ∧ n * k * k ≤ 1099511627776000000) ∧ rt (n * k * k) ≤ 1048576000 ∧ rt n ≤ 1048576 ∧ ce n ≤ 1048576 := by
  obtain ⟨⟨h0, h1⟩, k1, k2⟩ := (fdB_iff n k).1 h
  have m1 : n * k ≤ 1099511627776 * 1000 := Int.mul_le_mul h1 k2 (by omega) (by omega)
  have m0 : 0 ≤ n * k := Int.mul_nonneg h0 (by omega)
  have p1 : n * k * k ≤ 1099511627776000 * 1000 := Int.mul_le_mul m1 k2 (by omega) (by omega)
  have p0 : 0 ≤ n * k * k := Int.mul_nonneg m0 (by omega)
  obtain ⟨a0, a1, a2⟩ := rt_spec _ p0
  have f := rt_fold n k h0 (by omega)
  have b1 := rt_le p0 (show (0 : Int) ≤ 1048576000 by omega) (show n * k * k ≤ 1048576000 * 1048576000 by omega)
  have b2 := rt_le h0 (show (0 : Int) ≤ 1048576 by omega) (show n ≤ 1048576 * 1048576 by omega)
  have b3 := ce_le h0 (show (0 : Int) ≤ 1048576 by omega) (show n ≤ 1048576 * 1048576 by omega)
  exact ⟨(rnB_iff n).2 ⟨h0, by omega⟩, f.1, f.2, a0, a1, a2, ⟨m0, by omega⟩, ⟨p0, by omega⟩, b1, b2, b3⟩
/-- half chords: what is subtracted stays in range -/
theorem hf_sq (r y : Int) (h : hfB r y = true) : (0 ≤ r * r ∧ r * r ≤ 10000000000) ∧ 0 ≤ y * y ∧ y * y ≤ 10000000000 := by
  obtain ⟨⟨h0, h1⟩, y0, y1⟩ := (hfB_iff r y).1 h
  have e1 := sq_mono h0 h1
  have hy : 0 ≤ y * y ∧ y * y ≤ 10000000000 := by
    by_cases hy : 0 ≤ y
    · exact ⟨Int.mul_nonneg hy hy, by have := sq_mono hy y1; omega⟩
    · rw [← Int.neg_mul_neg]
      exact ⟨Int.mul_nonneg (by omega) (by omega), by have := sq_mono (show 0 ≤ -y by omega) (show -y ≤ 100000 by omega); omega⟩
  exact ⟨⟨Int.mul_nonneg h0 h0, by omega⟩, hy⟩
theorem hf_neg (r y : Int) : hfB r (-y) = hfB r y ∧ hfL r (-y) = hfL r y ∧ hfH r (-y) = hfH r y := by
  have e : hfB r (-y) = hfB r y := by
    rw [Bool.eq_iff_iff, hfB_iff, hfB_iff]; omega
  unfold hfL hfH
  rw [e, (hc_neg r y).1, (hc_neg r y).2]
  exact ⟨rfl, rfl, rfl⟩
/-- RootGrows -/
theorem hf_wider (r s y : Int) (h : r ≤ s) (h1 : hfB r y = true) (h2 : hfB s y = true) : hfL r y ≤ hfL s y ∧ hfH r y ≤ hfH s y := by
  unfold hfL hfH
  rw [if_pos h1, if_pos h1, if_pos h2, if_pos h2]
  exact hc_wider r s y ((hfB_iff _ _).1 h1).1.1 h
theorem hf_further (r y z : Int) (h : max y (-y) ≤ z) (h1 : hfB r y = true) (h2 : hfB r z = true) : hfL r z ≤ hfL r y ∧ hfH r z ≤ hfH r y := by
  unfold hfL hfH
  rw [if_pos h1, if_pos h1, if_pos h2, if_pos h2, (hc_abs r y).1, (hc_abs r y).2]
  exact hc_further r (max y (-y)) z ((hfB_iff _ _).1 h1).1.1 (by omega) h
theorem hf_bd (r y : Int) (h : hfB r y = true) : 0 ≤ hfL r y ∧ hfL r y ≤ hfH r y ∧ hfH r y ≤ hfL r y + 1 ∧ hfH r y ≤ r := by
  unfold hfL hfH
  rw [if_pos h, if_pos h]
  exact hc_bd r y ((hfB_iff _ _).1 h).1.1
theorem hf_zero (r : Int) (h : 0 ≤ r ∧ r ≤ 100000) : hfB r 0 = true ∧ hfL r 0 = r ∧ hfH r 0 = r := by
  have hb : hfB r 0 = true := (hfB_iff r 0).2 ⟨h, by omega, by omega⟩
  unfold hfL hfH
  rw [if_pos hb, if_pos hb, (hc_zero r h.1).1, (hc_zero r h.1).2]
  exact ⟨hb, rfl, rfl⟩
/-- RootCircle -/
theorem hf_circle (r y : Int) (h : hfB r y = true) (hy : ¬ (r < y ∨ y < -r)) : hfL r y * hfL r y + y * y ≤ r * r ∧ r * r ≤ hfH r y * hfH r y + y * y := by
  unfold hfL hfH
  rw [if_pos h, if_pos h]
  exact hc_circle r y hy
theorem hf_out (r y : Int) (hy : r < y ∨ y < -r) : hfL r y = 0 ∧ hfH r y = 0 := by
  unfold hfL hfH hcL hcH
  rw [if_pos hy, if_pos hy]
  exact ⟨by split <;> rfl, by split <;> rfl⟩
theorem hf_mul (r y : Int) (h : hfB r y = true) : (0 ≤ hfL r y * hfL r y ∧ hfL r y * hfL r y ≤ 10000000000) ∧ 0 ≤ hfH r y * hfH r y ∧ hfH r y * hfH r y ≤ 10000000000 := by
  have b := hf_bd r y h
  have hr := ((hfB_iff r y).1 h).1
  have e1 := sq_mono b.1 (show hfL r y ≤ 100000 by omega)
  have e2 := sq_mono (show 0 ≤ hfH r y by omega) (show hfH r y ≤ 100000 by omega)
  exact ⟨⟨Int.mul_nonneg b.1 b.1, by omega⟩, Int.mul_nonneg (by omega) (by omega), by omega⟩
end Go.Proofs.YtmdpdpbkbakidaaGreat

/- The reference of layers 6 and 7: roots, half chords, chords, strips. -/
namespace Go.Proofs.YtmdpdpbkbakidaaGreat
open Go.RowKit

end Go.Proofs.YtmdpdpbkbakidaaGreat

/- The reference of layer 7: a strip. -/
namespace Go.Proofs.YtmdpdpbkbakidaaGreat
open Go.RowKit

end Go.Proofs.YtmdpdpbkbakidaaGreat

/- The reference of layer 7: heights are checked. -/
namespace Go.Proofs.YtmdpdpbkbakidaaGreat
open Go.RowKit

theorem take_allN {p : Int → Bool} {l : List Int} {k : Nat} (hk : l.length ≤ k) (h : (l.take k).all p = true) : l.all p = true := by
  rwa [List.take_of_length_le hk] at h
end Go.Proofs.YtmdpdpbkbakidaaGreat

/- The reference of layer 7: areas between heights. -/
namespace Go.Proofs.YtmdpdpbkbakidaaGreat
open Go.RowKit

theorem Two.put0 {b : Nat} {W : World} {x y : Value} (h : Two b W x y) (z : Value) : Two b (W.setCell ⟨b, 0, none⟩ z) z y := by
  obtain ⟨h0, h1, h2, h3, h4⟩ := h
  refine ⟨?_, ?_, ?_, ?_, ?_⟩
  · exact World.cell?_setCell_same _ _ _ h0
  · rw [World.cell?_setCell_other _ _ _ _ (by simp)]; exact h1
  · rw [World.frozen?_setCell]; exact h2
  · rw [World.frozen?_setCell]; exact h3
  · simpa [World.setCell] using h4

/-- behind a struct's own block: made behind the call, or ahead of it -/
def Meets (w : World) (b1 : Nat) (oL oH pL pH : Value) (s : Value) (wx : World) : Prop := ∃ bs : Nat, s = .pointer (some ⟨bs, 0, none⟩) ∧ bs ≠ b1 ∧ Hid (Two bs wx oL oH) ∧ Hid (Below w.heap.size w wx) ∧ Hid (Two w.heap.size wx (.int .i64 0) (.int .i64 0)) ∧ Hid (Two b1 wx pL pH)
theorem meets_behind {w wr w2 : World} {b1 : Nat} {oL oH pL pH : Value} {T : TypeId} (hB : Below w.heap.size w wr) (X : Below wr.drew.heap.size wr.drew w2) (hT : Two w.heap.size wr (.int .i64 0) (.int .i64 0)) (hS : Two b1 wr pL pH) :
    Meets w b1 oL oH pL pH (.pointer (some ⟨w2.heap.size, 0, none⟩)) (w2.alloc (.cells #[oL, oH] T)) := by
  have X1 : Below wr.heap.size wr w2 := bel_trans (bel_drew wr) X
  have h1 := (hS.below X1).2.2.2.2
  exact ⟨_, rfl, Nat.ne_of_gt h1, Two.new w2 oL oH T, bel_trans (bel_trans hB X1) (bel_alloc (Below.refl _ _)), (hT.below X1).alloc _, (hS.below X1).alloc _⟩
theorem meets_ahead {w wr w2 : World} {b1 : Nat} {oL oH pL pH a c : Value} {T : TypeId} (hB : Below w.heap.size w wr) (X : Below (wr.alloc (.cells #[a, c] T)).drew.heap.size (wr.alloc (.cells #[a, c] T)).drew w2) (hT : Two w.heap.size wr (.int .i64 0) (.int .i64 0)) (hS : Two b1 wr pL pH) :
    Meets w b1 oL oH pL pH (.pointer (some ⟨wr.heap.size, 0, none⟩)) ((w2.setCell ⟨wr.heap.size, 0, none⟩ oL).setCell ⟨wr.heap.size, 1, none⟩ oH) := by
  have X1 : Below wr.heap.size wr w2 := bel_alloc (bel_trans (bel_drew _) X)
  have X0 : Below (wr.alloc (.cells #[a, c] T)).heap.size (wr.alloc (.cells #[a, c] T)) w2 := bel_trans (bel_drew _) X
  have hN := (Two.new wr a c T).below X0
  have h1 : b1 ≠ wr.heap.size := Nat.ne_of_lt hS.2.2.2.2
  have h2 : w.heap.size ≠ wr.heap.size := Nat.ne_of_lt hT.2.2.2.2
  have h3 : w.heap.size ≤ wr.heap.size := Nat.le_of_lt hT.2.2.2.2
  refine ⟨_, rfl, h1.symm, (hN.put0 oL).set1 oH, ?_, ?_, ?_⟩
  · exact ((bel_trans hB X1).setCell (p := ⟨wr.heap.size, 0, none⟩) h3 _).setCell (p := ⟨wr.heap.size, 1, none⟩) h3 _
  · exact ((hT.below X1).other ⟨wr.heap.size, 0, none⟩ h2.symm _).other ⟨wr.heap.size, 1, none⟩ h2.symm _
  · exact ((hS.below X1).other ⟨wr.heap.size, 0, none⟩ h1.symm _).other ⟨wr.heap.size, 1, none⟩ h1.symm _

end Go.Proofs.YtmdpdpbkbakidaaGreat

/- Plain facts of the statements of layer 8. -/
namespace Go.Proofs.YtmdpdpbkbakidaaGreat

theorem gX_lt {l : List (Int × Int)} (h : RP l) {i j : Nat} (hij : i < j) (hj : j < l.length) : gX l i < gX l j := by
  induction j with
  | zero => omega
  | succ j ih =>
    have a := h.asc j hj
    by_cases e : i = j
    · rw [e]; exact a
    · have := ih (by omega) (by omega); omega
theorem gX_le {l : List (Int × Int)} (h : RP l) {i j : Nat} (hij : i ≤ j) (hj : j < l.length) : gX l i ≤ gX l j := by
  by_cases e : i = j
  · rw [e]; exact Int.le_refl _
  · have := gX_lt h (i := i) (j := j) (by omega) hj; omega
/-- the radius at a point -/
theorem rd_at {l : List (Int × Int)} (h : RP l) {j : Nat} (hj : j < l.length) : rdL l (gX l j) = gR l j ∧ rdH l (gX l j) = gR l j := by
  have n0 := h.n0
  by_cases e : j = 0
  · subst e
    have e1 : pc l (gX l 0) = 1 := pc_of ⟨by omega, by omega, gX_le h (by omega) (by omega), fun k k1 k2 => by omega⟩
    have a : gX l 0 < gX l 1 := h.asc 0 (by omega)
    unfold rdL rdH lnL lnH
    rw [e1]
    show lnN (gX l 0) (gR l 0) (gX l 1) (gR l 1) (gX l 0) / (gX l 1 - gX l 0) = gR l 0 ∧ cdv (lnN (gX l 0) (gR l 0) (gX l 1) (gR l 1) (gX l 0)) (gX l 1 - gX l 0) = gR l 0
    rw [lnN_left]
    exact ⟨fl_int _ _ (by omega), cl_int _ _ (by omega)⟩
  · have e1 : pc l (gX l j) = j := pc_of ⟨by omega, hj, Int.le_refl _, fun k k1 k2 => gX_lt h k2 hj⟩
    have a := gX_lt h (i := j - 1) (j := j) (by omega) hj
    unfold rdL rdH lnL lnH
    rw [e1, lnN_right]
    exact ⟨fl_int _ _ (by omega), cl_int _ _ (by omega)⟩
/-- bounds of the radius by the piece's ends -/
theorem rd_bd {l : List (Int × Int)} {x : Int} (h : RP l) (x0 : 0 ≤ x) (x1 : x ≤ gX l (l.length - 1)) :
    min (gR l (pc l x - 1)) (gR l (pc l x)) ≤ rdL l x ∧ rdL l x ≤ rdH l x ∧ rdH l x ≤ rdL l x + 1 ∧ rdH l x ≤ max (gR l (pc l x - 1)) (gR l (pc l x)) := by
  have hi := pc_is h.n0 x1
  obtain ⟨_, _, ⟨b0, b1, b2⟩, ⟨c0, c1⟩, ⟨d0, d1⟩, g0, g1⟩ := pc_bd h x0 hi
  have bt := ln_between (p := gR l (pc l x - 1)) (q := gR l (pc l x)) b1 g0 g1
  have fc := fl_cl (lnN (gX l (pc l x - 1)) (gR l (pc l x - 1)) (gX l (pc l x)) (gR l (pc l x)) x) (gX l (pc l x) - gX l (pc l x - 1)) (by omega)
  unfold rdL rdH lnL lnH
  omega
theorem pc_mono {l : List (Int × Int)} {u v : Int} (h : RP l) (uv : u ≤ v) (x1 : v ≤ gX l (l.length - 1)) : pc l u ≤ pc l v := by
  have a := pc_is h.n0 (show u ≤ gX l (l.length - 1) by omega)
  have b := pc_is h.n0 x1
  rcases Nat.lt_or_ge (pc l v) (pc l u) with g | g
  · have := a.h4 _ b.h1 g
    have := b.h3
    omega
  · exact g
theorem chain_up {l : List (Int × Int)} {i : Nat} (hup : ∀ j, j < i → gR l j ≤ gR l (j + 1)) {s t : Nat} (hst : s ≤ t) (ht : t ≤ i) : gR l s ≤ gR l t := by
  induction t with
  | zero => obtain rfl : s = 0 := by omega
            exact Int.le_refl _
  | succ t ih =>
    by_cases e : s = t + 1
    · rw [e]; exact Int.le_refl _
    · have := ih (by omega) (by omega)
      have := hup t (by omega)
      omega
theorem chain_dn {l : List (Int × Int)} {i : Nat} (hdn : ∀ j, i ≤ j → j + 1 < l.length → gR l (j + 1) ≤ gR l j) {s t : Nat} (hs : i ≤ s) (hst : s ≤ t) (ht : t < l.length) : gR l t ≤ gR l s := by
  induction t with
  | zero => obtain rfl : s = 0 := by omega
            exact Int.le_refl _
  | succ t ih =>
    by_cases e : s = t + 1
    · rw [e]; exact Int.le_refl _
    · have := ih (by omega) (by omega)
      have := hdn t (by omega) ht
      omega
theorem rd_up {l : List (Int × Int)} {i : Nat} {u v : Int} (h : RP l) (hi : i < l.length) (hup : ∀ j, j < i → gR l j ≤ gR l (j + 1)) (u0 : 0 ≤ u) (uv : u ≤ v) (v1 : v ≤ gX l i) : rdL l u ≤ rdL l v ∧ rdH l u ≤ rdH l v := by
  have n0 := h.n0
  have hm := gX_le h (i := i) (j := l.length - 1) (by omega) (by omega)
  by_cases e0 : i = 0
  · subst e0
    have := h.x0
    obtain rfl : u = v := by omega
    exact ⟨Int.le_refl _, Int.le_refl _⟩
  · have b := pc_is n0 (show v ≤ gX l (l.length - 1) by omega)
    have ti : pc l v ≤ i := by
      rcases Nat.lt_or_ge i (pc l v) with g | g
      · have := b.h4 i (by omega) g; omega
      · exact g
    have st := pc_mono h uv (show v ≤ gX l (l.length - 1) by omega)
    have a := pc_is n0 (show u ≤ gX l (l.length - 1) by omega)
    have s1 := a.h1
    have ru := rd_bd h u0 (show u ≤ gX l (l.length - 1) by omega)
    have rv := rd_bd h (show 0 ≤ v by omega) (show v ≤ gX l (l.length - 1) by omega)
    by_cases e : pc l u = pc l v
    · have q := hup (pc l v - 1) (by omega)
      rw [show pc l v - 1 + 1 = pc l v by omega] at q
      have d := gX_lt h (i := pc l v - 1) (j := pc l v) (by omega) (by omega)
      have L := lnN_up (a := gX l (pc l v - 1)) (b := gX l (pc l v)) q uv
      unfold rdL rdH lnL lnH cdv
      rw [e]
      exact ⟨Int.ediv_le_ediv (by omega) L, Int.ediv_le_ediv (by omega) (by omega)⟩
    · have c1 := chain_up hup (s := pc l u - 1) (t := pc l u) (by omega) (by omega)
      have c2 := chain_up hup (s := pc l u) (t := pc l v - 1) (by omega) (by omega)
      have c3 := chain_up hup (s := pc l v - 1) (t := pc l v) (by omega) (by omega)
      omega
theorem rd_dn {l : List (Int × Int)} {i : Nat} {u v : Int} (h : RP l) (hi : i < l.length) (hdn : ∀ j, i ≤ j → j + 1 < l.length → gR l (j + 1) ≤ gR l j) (hmx : ∀ j, j < l.length → gR l j ≤ gR l i) (u0 : gX l i ≤ u) (uv : u ≤ v) (v1 : v ≤ gX l (l.length - 1)) : rdL l v ≤ rdL l u ∧ rdH l v ≤ rdH l u := by
  have n0 := h.n0
  have i0 := (h.bx i hi).1
  have rv := rd_bd h (show 0 ≤ v by omega) v1
  have b := pc_is n0 v1
  have bl := b.h2
  have m1 := hmx (pc l v) bl
  have m2 := hmx (pc l v - 1) (by omega)
  by_cases e0 : u = gX l i
  · have r := rd_at h hi
    rw [← e0] at r
    omega
  · have a := pc_is n0 (show u ≤ gX l (l.length - 1) by omega)
    have s1 := a.h1
    have al := a.h2
    have si : i < pc l u := by
      rcases Nat.lt_or_ge i (pc l u) with g | g
      · exact g
      · have := gX_le h g hi
        have := a.h3
        omega
    have st := pc_mono h uv v1
    have ru := rd_bd h (show 0 ≤ u by omega) (show u ≤ gX l (l.length - 1) by omega)
    by_cases e : pc l u = pc l v
    · have q := hdn (pc l v - 1) (by omega) (by omega)
      rw [show pc l v - 1 + 1 = pc l v by omega] at q
      have d := gX_lt h (i := pc l v - 1) (j := pc l v) (by omega) (by omega)
      have L := lnN_down (a := gX l (pc l v - 1)) (b := gX l (pc l v)) q uv
      unfold rdL rdH lnL lnH cdv
      rw [e]
      exact ⟨Int.ediv_le_ediv (by omega) L, Int.ediv_le_ediv (by omega) (by omega)⟩
    · have c1 := chain_dn hdn (s := pc l u - 1) (t := pc l u) (by omega) (by omega) (by omega)
      have c2 := chain_dn hdn (s := pc l u) (t := pc l v - 1) (by omega) (by omega) (by omega)
      have c3 := chain_dn hdn (s := pc l v - 1) (t := pc l v) (by omega) (by omega) (by omega)
      omega
/-- up to the bung the radii do not fall, and behind it they do not rise -/
theorem bg_sides {l : List (Int × Int)} (h : RP l) : bg l l.length < l.length ∧ (∀ j, j < l.length → gR l j ≤ gR l (bg l l.length)) ∧ (∀ j, j < bg l l.length → gR l j ≤ gR l (j + 1)) ∧ (∀ j, bg l l.length ≤ j → j + 1 < l.length → gR l (j + 1) ≤ gR l j) := by
  have n0 := h.n0
  have hl : bg l l.length < l.length := by have := bg_lt l l.length; omega
  have hm := bg_max l l.length
  refine ⟨hl, hm, fun j hj => ?_, fun j hj hj2 => ?_⟩
  · by_cases g : gR l (j + 1) < gR l j
    · have : ∀ t, j + 1 ≤ t → t < l.length → gR l t ≤ gR l (j + 1) := fun t h1 h2 => chain_dn (i := j) (fun k k1 k2 => h.ns j k k1 k2 g) (by omega) h1 h2
      have := this _ (by omega) hl
      have := hm j (by omega)
      omega
    · omega
  · by_cases g : gR l j < gR l (j + 1)
    · have hup : ∀ k, k < j → gR l k ≤ gR l (k + 1) := fun k hk => by
        by_cases g2 : gR l (k + 1) < gR l k
        · have := h.ns k j (by omega) hj2 g2; omega
        · omega
      have := chain_up hup (s := bg l l.length) (t := j) hj (Nat.le_refl _)
      have := hm (j + 1) hj2
      omega
    · omega
theorem least_end {l : List (Int × Int)} (h : RP l) {j : Nat} (hj : j < l.length) : min (gR l 0) (gR l (l.length - 1)) ≤ gR l j := by
  obtain ⟨b1, b2, b3, b4⟩ := bg_sides h
  by_cases g : j ≤ bg l l.length
  · have := chain_up b3 (s := 0) (t := j) (by omega) g
    omega
  · have := chain_dn b4 (s := j) (t := l.length - 1) (by omega) (by omega) (by omega)
    omega
theorem bulge_facts {l : List (Int × Int)} {u v : Int} (h : RP l) (u0 : 0 ≤ u) (uv : u ≤ v) (v1 : v ≤ gX l (l.length - 1)) :
    rdL l u ≤ rdH l u ∧ rdH l u - rdL l u ≤ 1 ∧ rdH l u ≤ gR l (bg l l.length) ∧ min (gR l 0) (gR l (l.length - 1)) ≤ rdL l u ∧ (v ≤ gX l (bg l l.length) → rdL l u ≤ rdL l v ∧ rdH l u ≤ rdH l v) ∧ (gX l (bg l l.length) ≤ u → rdL l v ≤ rdL l u ∧ rdH l v ≤ rdH l u) := by
  obtain ⟨b1, b2, b3, b4⟩ := bg_sides h
  have ru := rd_bd h u0 (show u ≤ gX l (l.length - 1) by omega)
  have a := pc_is h.n0 (show u ≤ gX l (l.length - 1) by omega)
  have s1 := a.h1
  have s2 := a.h2
  have m1 := b2 (pc l u) s2
  have m2 := b2 (pc l u - 1) (by omega)
  have e1 := least_end h s2
  have e2 := least_end h (j := pc l u - 1) (by omega)
  refine ⟨ru.2.1, by omega, by omega, by omega, fun g => rd_up h b1 b3 u0 uv g, fun g => rd_dn h b1 b4 b2 g uv v1⟩
theorem at_none {l : List (Int × Int)} {x : Int} (h : plE l x ≠ 0) : atL l x = 0 ∧ atH l x = 0 := by
  unfold atL atH; rw [if_neg h, if_neg h]; exact ⟨rfl, rfl⟩
theorem at_some {l : List (Int × Int)} {x : Int} (h : plE l x = 0) : atL l x = rdL l x ∧ atH l x = rdH l x := by
  unfold atL atH; rw [if_pos h, if_pos h]; exact ⟨rfl, rfl⟩
end Go.Proofs.YtmdpdpbkbakidaaGreat

/- Plain facts of sums of frustums, and of the bounds of a space. No program stands in this text. -/
namespace Go.Proofs.YtmdpdpbkbakidaaGreat

/-- what a frustum has between its radii -/
def sq3 (r s : Int) : Int := r * r + r * s + s * s
theorem sq3_mono {r s p q : Int} (r0 : 0 ≤ r) (s0 : 0 ≤ s) (hr : r ≤ p) (hs : s ≤ q) : sq3 r s ≤ sq3 p q := by
  have a := Int.mul_le_mul hr hr r0 (by omega)
  have b := Int.mul_le_mul hr hs s0 (by omega)
  have c := Int.mul_le_mul hs hs s0 (by omega)
  unfold sq3; omega
theorem sq3_less {r s p q : Int} (r0 : 0 ≤ r) (s0 : 0 ≤ s) (hr : r < p) (hs : s ≤ q) : sq3 r s < sq3 p q := by
  have a : r * r < p * p := by
    have := Int.mul_le_mul (show r ≤ p by omega) (show r ≤ p by omega) r0 (by omega)
    have e : p * p = r * p + (p - r) * p := by grind
    have e2 := Int.mul_le_mul (show r ≤ r from Int.le_refl r) (show r ≤ p by omega) r0 r0
    have e3 := Int.mul_pos (show 0 < p - r by omega) (show 0 < p by omega)
    omega
  have b := Int.mul_le_mul (show r ≤ p by omega) hs s0 (by omega)
  have c := Int.mul_le_mul hs hs s0 (by omega)
  unfold sq3; omega
theorem sq3_same (r : Int) : sq3 r r = 3 * r * r := by unfold sq3; grind
theorem sq3_turn (r s : Int) : sq3 r s = sq3 s r := by unfold sq3; grind
theorem sq3_bd {r s : Int} (hr : 1 ≤ r ∧ r ≤ 100000) (hs : 1 ≤ s ∧ s ≤ 100000) : 3 ≤ sq3 r s ∧ sq3 r s ≤ 30000000000 := by
  have a := sq3_mono (show (0 : Int) ≤ 1 by omega) (show (0 : Int) ≤ 1 by omega) hr.1 hs.1
  have b := sq3_mono (show (0 : Int) ≤ r by omega) (show (0 : Int) ≤ s by omega) hr.2 hs.2
  have e1 : sq3 1 1 = 3 := by decide
  have e2 : sq3 100000 100000 = 30000000000 := by decide
  omega
/-- the sum of the first k frustums -/
def fr (l : List (Int × Int)) : Nat → Int
  | 0 => 0
  | k + 1 => fr l k + (gX l (k + 1) - gX l k) * sq3 (gR l k) (gR l (k + 1))
theorem fr_succ (l : List (Int × Int)) (k : Nat) : fr l (k + 1) = fr l k + (gX l (k + 1) - gX l k) * sq3 (gR l k) (gR l (k + 1)) := rfl
/-- the sum of frustums -/
def frS (l : List (Int × Int)) : Int := fr l (l.length - 1)
theorem fr_between {l : List (Int × Int)} (h : RP l) {a b : Int} (a0 : 0 ≤ a) (ha : ∀ j, j < l.length → a ≤ gR l j) (hb : ∀ j, j < l.length → gR l j ≤ b) (k : Nat) (hk : k < l.length) :
    gX l k * (3 * a * a) ≤ fr l k ∧ fr l k ≤ gX l k * (3 * b * b) := by
  induction k with
  | zero => rw [h.x0]; simp [fr]
  | succ k ih =>
    have ih := ih (by omega)
    have d := h.asc k hk
    have p0 := h.br k (by omega)
    have q0 := h.br (k + 1) hk
    have m1 := sq3_mono a0 a0 (ha k (by omega)) (ha (k + 1) hk)
    have m2 := sq3_mono (show 0 ≤ gR l k by omega) (show 0 ≤ gR l (k + 1) by omega) (hb k (by omega)) (hb (k + 1) hk)
    rw [sq3_same] at m1 m2
    have t1 := Int.mul_le_mul_of_nonneg_left m1 (show 0 ≤ gX l (k + 1) - gX l k by omega)
    have t2 := Int.mul_le_mul_of_nonneg_left m2 (show 0 ≤ gX l (k + 1) - gX l k by omega)
    have e1 : gX l (k + 1) * (3 * a * a) = gX l k * (3 * a * a) + (gX l (k + 1) - gX l k) * (3 * a * a) := by grind
    have e2 : gX l (k + 1) * (3 * b * b) = gX l k * (3 * b * b) + (gX l (k + 1) - gX l k) * (3 * b * b) := by grind
    unfold fr
    omega
theorem fr_bd {l : List (Int × Int)} (h : RP l) (k : Nat) (hk : k < l.length) : 0 ≤ fr l k ∧ fr l k ≤ 3000000000000000 := by
  have f := fr_between h (a := 1) (b := 100000) (by omega) (fun j hj => (h.br j hj).1) (fun j hj => (h.br j hj).2) k hk
  have x := h.bx k hk
  omega
theorem frS_bd {l : List (Int × Int)} (h : RP l) : 0 ≤ frS l ∧ frS l ≤ 3000000000000000 := fr_bd h _ (by have := h.n0; omega)
/-- one frustum alone -/
theorem frP_bd {l : List (Int × Int)} (h : RP l) (k : Nat) (hk : k + 1 < l.length) : 0 ≤ (gX l (k + 1) - gX l k) * sq3 (gR l k) (gR l (k + 1)) ∧ (gX l (k + 1) - gX l k) * sq3 (gR l k) (gR l (k + 1)) ≤ 3000000000000000 := by
  have a := fr_bd h k (by omega)
  have b := fr_bd h (k + 1) hk
  have d := h.asc k hk
  have s := sq3_bd (h.br k (by omega)) (h.br (k + 1) hk)
  have t := Int.mul_nonneg (show 0 ≤ gX l (k + 1) - gX l k by omega) (show 0 ≤ sq3 (gR l k) (gR l (k + 1)) by omega)
  unfold fr at b
  omega

/-! ### bounds of the space -/
def cbL (n : Int) : Int := n * 333 / 318
def cbH (n : Int) : Int := (n * 355 + 338) / 339
def cvL (n : Int) : Int := cbL n / 1000000
def cvH (n : Int) : Int := (cbH n + 999999) / 1000000
theorem cb_mono {m n : Int} (h : m ≤ n) : cbL m ≤ cbL n ∧ cbH m ≤ cbH n := by unfold cbL cbH; omega
theorem cb_narrow {n : Int} (h : 0 ≤ n) : 0 ≤ cbL n ∧ cbL n ≤ cbH n ∧ (cbH n - cbL n ≤ 2 ∨ (cbH n - cbL n - 2) * 30000 < cbH n) := by unfold cbL cbH; omega
theorem cb_bd {n : Int} (h : 0 ≤ n ∧ n ≤ 3000000000000000) : 0 ≤ cbL n ∧ cbL n ≤ cbH n ∧ cbH n ≤ 3200000000000000 := by unfold cbL cbH; omega
theorem cv_bd {n : Int} (h : 0 ≤ n ∧ n ≤ 3000000000000000) : 0 ≤ cvL n ∧ cvL n ≤ cvH n ∧ cvH n ≤ 3200000000 := by unfold cvL cvH cbL cbH; omega
/-- the answer whether D agrees with bounds of a volume, with t thousandths -/
def agA (L H D t : Int) : Int :=
  if (1000 - t) * D ≤ 1000 * L ∧ 1000 * L ≤ (1000 + t) * D ∧ (1000 - t) * D ≤ 1000 * H ∧ 1000 * H ≤ (1000 + t) * D then 1
  else if (1000 + t) * D < 1000 * L ∨ 1000 * H < (1000 - t) * D then 2 else 3
theorem ag_more {L H D t m : Int} (d0 : 0 ≤ D) (m0 : 0 ≤ m) : (agA L H D t = 1 → agA L H D (t + m) = 1) ∧ (agA L H D t ≠ 2 → agA L H D (t + m) ≠ 2) := by
  have k := Int.mul_nonneg m0 d0
  have e1 : (1000 - (t + m)) * D = (1000 - t) * D - m * D := by grind
  have e2 : (1000 + (t + m)) * D = (1000 + t) * D + m * D := by grind
  unfold agA
  rw [e1, e2]
  generalize (1000 - t) * D = u at *
  generalize (1000 + t) * D = v at *
  generalize m * D = z at *
  constructor
  · intro h
    split at h
    · rw [if_pos (by omega)]
    · split at h <;> omega
  · intro h
    split at h
    · rw [if_pos (by omega)]; omega
    · split at h
      · omega
      · split
        · omega
        · rw [if_neg (by omega)]; omega
theorem ag_high {L H t : Int} (h : L ≤ H) (h0 : 0 ≤ H) (t0 : 0 ≤ t) : agA L H H t ≠ 2 := by
  have k := Int.mul_nonneg t0 h0
  have e1 : (1000 - t) * H = 1000 * H - t * H := by grind
  have e2 : (1000 + t) * H = 1000 * H + t * H := by grind
  unfold agA
  rw [e1, e2]
  split
  · omega
  · rw [if_neg (by omega)]; omega
end Go.Proofs.YtmdpdpbkbakidaaGreat

/- Plain facts of layer 11: slices of a cask, their radii, sums over slices and strips. No program stands in this text. -/
namespace Go.Proofs.YtmdpdpbkbakidaaGreat

/-! ### a place on a given piece -/
theorem rd_piece {l : List (Int × Int)} (h : RP l) {k : Nat} (hk : k + 1 < l.length) {x : Int} (x0 : gX l k ≤ x) (x1 : x ≤ gX l (k + 1)) :
    rdL l x = lnL (gX l k) (gR l k) (gX l (k + 1)) (gR l (k + 1)) x ∧ rdH l x = lnH (gX l k) (gR l k) (gX l (k + 1)) (gR l (k + 1)) x := by
  have a := h.asc k hk
  by_cases e : x = gX l k
  · subst e
    obtain ⟨r1, r2⟩ := rd_at h (j := k) (by omega)
    rw [r1, r2]
    unfold lnL lnH
    rw [lnN_left, fl_int _ _ (by omega), cl_int _ _ (by omega)]
    exact ⟨rfl, rfl⟩
  · have hp : IsPc l x (k + 1) := ⟨by omega, hk, x1, fun j j1 j2 => by
      have := gX_le h (i := j) (j := k) (by omega) (by omega)
      omega⟩
    have := pc_of hp
    unfold rdL rdH
    rw [this, Nat.add_sub_cancel]
    exact ⟨rfl, rfl⟩
/-- the lesser radius of a slice, and the greater one -/
noncomputable def slL (l : List (Int × Int)) (a b : Int) : Int := min (rdL l a) (rdL l b)
noncomputable def slH (l : List (Int × Int)) (a b : Int) : Int := max (rdH l a) (rdH l b)
/-- right places -/
structure PlR (l : List (Int × Int)) (ps : List Int) : Prop where
  n0 : 2 ≤ ps.length
  n1 : ps.length ≤ 128
  z : ps.getD 0 0 = 0
  e : ps.getD (ps.length - 1) 0 = gX l (l.length - 1)
  asc : ∀ i, i + 1 < ps.length → ps.getD i 0 < ps.getD (i + 1) 0
  has : ∀ j, j < l.length → ∃ i, i < ps.length ∧ ps.getD i 0 = gX l j
theorem asc_lt {ps : List Int} (h : ∀ i, i + 1 < ps.length → ps.getD i 0 < ps.getD (i + 1) 0) {i j : Nat} (hij : i < j) (hj : j < ps.length) : ps.getD i 0 < ps.getD j 0 := by
  induction j with
  | zero => omega
  | succ j ih =>
    have := h j hj
    by_cases e : i = j
    · subst e; exact this
    · have := ih (by omega) (by omega); omega
theorem asc_le {ps : List Int} (h : ∀ i, i + 1 < ps.length → ps.getD i 0 < ps.getD (i + 1) 0) {i j : Nat} (hij : i ≤ j) (hj : j < ps.length) : ps.getD i 0 ≤ ps.getD j 0 := by
  by_cases e : i = j
  · subst e; exact Int.le_refl _
  · have := asc_lt h (show i < j by omega) hj; omega
theorem PlR.bd {l : List (Int × Int)} {ps : List Int} (h : PlR l ps) {i : Nat} (hi : i < ps.length) : 0 ≤ ps.getD i 0 ∧ ps.getD i 0 ≤ gX l (l.length - 1) := by
  have a := asc_le h.asc (Nat.zero_le i) hi
  have b := asc_le h.asc (i := i) (j := ps.length - 1) (by omega) (by have := h.n0; omega)
  rw [h.z] at a
  rw [h.e] at b
  exact ⟨a, b⟩
/-- a slice lies on one piece -/
theorem PlR.piece {l : List (Int × Int)} {ps : List Int} (hR : RP l) (h : PlR l ps) {i : Nat} (hi : i + 1 < ps.length) : ∃ k, k + 1 < l.length ∧ gX l k ≤ ps.getD i 0 ∧ ps.getD (i + 1) 0 ≤ gX l (k + 1) := by
  have lt := h.asc i hi
  have b1 := h.bd hi
  have p := pc_is hR.n0 (show ps.getD (i + 1) 0 ≤ gX l (l.length - 1) from b1.2)
  have p1 := p.h1
  refine ⟨pc l (ps.getD (i + 1) 0) - 1, by have := p.h2; omega, ?_, by rw [Nat.sub_add_cancel p1]; exact p.h3⟩
  generalize pc l (ps.getD (i + 1) 0) = m at *
  by_cases hm : m = 1
  · subst hm
    have := hR.x0
    have b0 := h.bd (show i < ps.length by omega)
    show gX l 0 ≤ _
    omega
  · have q := p.h4 (m - 1) (by omega) (by omega)
    obtain ⟨t, ht, et⟩ := h.has (m - 1) (by have := p.h2; omega)
    by_cases g : t ≤ i
    · have := asc_le h.asc g (show i < ps.length by omega); omega
    · have := asc_le h.asc (show i + 1 ≤ t by omega) ht; omega
theorem sl_bd {l : List (Int × Int)} (h : RP l) {a b : Int} (a0 : 0 ≤ a) (ab : a ≤ b) (b1 : b ≤ gX l (l.length - 1)) : 1 ≤ slL l a b ∧ slL l a b ≤ slH l a b ∧ slH l a b ≤ gR l (bg l l.length) ∧ gR l (bg l l.length) ≤ 100000 := by
  obtain ⟨u1, u2, u3, u4, _, _⟩ := bulge_facts h a0 ab b1
  obtain ⟨v1, v2, v3, v4, _, _⟩ := bulge_facts h (show 0 ≤ b by omega) (Int.le_refl b) b1
  have hl : bg l l.length < l.length := by have := bg_lt l l.length; have := h.n0; omega
  have r := h.br _ hl
  have r0 := h.br 0 (by have := h.n0; omega)
  have r1 := h.br (l.length - 1) (by have := h.n0; omega)
  unfold slL slH
  omega
/-! ### the frustums lie between the cylinders -/
noncomputable def enL (l : List (Int × Int)) (ps : List Int) : Nat → Int
  | 0 => 0
  | k + 1 => enL l ps k + 3 * ((ps.getD (k + 1) 0 - ps.getD k 0) * (slL l (ps.getD k 0) (ps.getD (k + 1) 0) * slL l (ps.getD k 0) (ps.getD (k + 1) 0)))
noncomputable def enH (l : List (Int × Int)) (ps : List Int) : Nat → Int
  | 0 => 0
  | k + 1 => enH l ps k + 3 * ((ps.getD (k + 1) 0 - ps.getD k 0) * (slH l (ps.getD k 0) (ps.getD (k + 1) 0) * slH l (ps.getD k 0) (ps.getD (k + 1) 0)))
theorem sq3_low {m x y : Int} (m0 : 0 ≤ m) (hx : m ≤ x) (hy : m ≤ y) : 3 * (m * m) ≤ sq3 x y := by
  have := sq3_mono m0 m0 hx hy
  rw [sq3_same, Int.mul_assoc] at this
  exact this
theorem sq3_high {m x y : Int} (x0 : 0 ≤ x) (y0 : 0 ≤ y) (hx : x ≤ m) (hy : y ≤ m) : sq3 x y ≤ 3 * (m * m) := by
  have := sq3_mono x0 y0 hx hy
  rw [sq3_same, Int.mul_assoc] at this
  exact this
/-- up to a place on the piece k, times the square of the piece's length -/
structure EnAt (l : List (Int × Int)) (ps : List Int) (i k : Nat) : Prop where
  hk : k + 1 < l.length
  x0 : gX l k ≤ ps.getD i 0
  x1 : ps.getD i 0 ≤ gX l (k + 1)
  low : (gX l (k + 1) - gX l k) * (gX l (k + 1) - gX l k) * (enL l ps i - fr l k) ≤ (ps.getD i 0 - gX l k) * sq3 (gR l k * (gX l (k + 1) - gX l k)) (lnN (gX l k) (gR l k) (gX l (k + 1)) (gR l (k + 1)) (ps.getD i 0))
  high : (ps.getD i 0 - gX l k) * sq3 (gR l k * (gX l (k + 1) - gX l k)) (lnN (gX l k) (gR l k) (gX l (k + 1)) (gR l (k + 1)) (ps.getD i 0)) ≤ (gX l (k + 1) - gX l k) * (gX l (k + 1) - gX l k) * (enH l ps i - fr l k)
theorem sq3_scale (d p q : Int) : sq3 (p * d) (q * d) = d * d * sq3 p q := by unfold sq3; grind
theorem EnAt.whole {l : List (Int × Int)} {ps : List Int} {i k : Nat} (hR : RP l) (h : EnAt l ps i k) (e : ps.getD i 0 = gX l (k + 1)) : enL l ps i ≤ fr l (k + 1) ∧ fr l (k + 1) ≤ enH l ps i := by
  obtain ⟨hk, _, _, lo, hi⟩ := h
  rw [e, lnN_right, sq3_scale] at lo hi
  have a := hR.asc k hk
  rw [fr_succ]
  have d0 : 0 < gX l (k + 1) - gX l k := by omega
  generalize gX l (k + 1) - gX l k = d at *
  have e1 : d * (d * d * sq3 (gR l k) (gR l (k + 1))) = d * d * (d * sq3 (gR l k) (gR l (k + 1))) := by grind
  rw [e1] at lo hi
  have dd := Int.mul_pos d0 d0
  have l1 := Int.le_of_mul_le_mul_left lo dd
  have l2 := Int.le_of_mul_le_mul_left hi dd
  omega
theorem EnAt.step {l : List (Int × Int)} {ps : List Int} {i k : Nat} (hR : RP l) (hP : PlR l ps) (hi : i + 1 < ps.length) (h : EnAt l ps i k) (lt : ps.getD i 0 < gX l (k + 1)) : EnAt l ps (i + 1) k := by
  obtain ⟨hk, x0, x1, lo, hg⟩ := h
  have ascx := hP.asc i hi
  have y1 : ps.getD (i + 1) 0 ≤ gX l (k + 1) := by
    obtain ⟨t, ht, et⟩ := hP.has (k + 1) hk
    by_cases g : t ≤ i
    · have := asc_le hP.asc g (show i < ps.length by omega); omega
    · have := asc_le hP.asc (show i + 1 ≤ t by omega) ht; omega
  have a := hR.asc k hk
  obtain ⟨rx1, rx2⟩ := rd_piece hR hk x0 x1
  obtain ⟨ry1, ry2⟩ := rd_piece hR hk (x := ps.getD (i + 1) 0) (by omega) y1
  have r0 := hR.br k (by omega)
  have q0 := hR.br (k + 1) hk
  refine ⟨hk, by omega, y1, ?_, ?_⟩
  · have bx := sl_bd hR (a := ps.getD i 0) (b := ps.getD (i + 1) 0) (by have := hP.bd (show i < ps.length by omega); omega) (by omega) (by have := hP.bd hi; omega)
    show _ * (enL l ps i + 3 * _ - _) ≤ _
    unfold slL at bx ⊢
    rw [rx1, ry1] at bx ⊢
    unfold lnL at bx ⊢
    generalize hNx : lnN (gX l k) (gR l k) (gX l (k + 1)) (gR l (k + 1)) (ps.getD i 0) = nx at *
    generalize hNy : lnN (gX l k) (gR l k) (gX l (k + 1)) (gR l (k + 1)) (ps.getD (i + 1) 0) = ny at *
    have id : (ps.getD i 0 - gX l k) * sq3 (gR l k * (gX l (k + 1) - gX l k)) nx + (ps.getD (i + 1) 0 - ps.getD i 0) * sq3 nx ny = (ps.getD (i + 1) 0 - gX l k) * sq3 (gR l k * (gX l (k + 1) - gX l k)) ny := by
      subst hNx; subst hNy
      unfold sq3 lnN
      grind
    rw [← id]
    generalize hd : gX l (k + 1) - gX l k = d at *
    have d0 : 0 < d := by omega
    have f1 := (fl_iff nx d (nx / d) d0).1 (Int.le_refl _)
    have f2 := (fl_iff ny d (ny / d) d0).1 (Int.le_refl _)
    generalize hm : min (nx / d) (ny / d) = m at *
    have m0 : 0 ≤ m := by omega
    have g1 : m * d ≤ nx := by
      have := Int.mul_le_mul_of_nonneg_right (show m ≤ nx / d by omega) (show 0 ≤ d by omega); omega
    have g2 : m * d ≤ ny := by
      have := Int.mul_le_mul_of_nonneg_right (show m ≤ ny / d by omega) (show 0 ≤ d by omega); omega
    have s := sq3_low (Int.mul_nonneg m0 (show 0 ≤ d by omega)) g1 g2
    have s2 := Int.mul_le_mul_of_nonneg_left s (show 0 ≤ ps.getD (i + 1) 0 - ps.getD i 0 by omega)
    generalize ps.getD (i + 1) 0 - ps.getD i 0 = w at *
    have e : d * d * (enL l ps i + 3 * (w * (m * m)) - fr l k) = d * d * (enL l ps i - fr l k) + w * (3 * (m * d * (m * d))) := by grind
    rw [e]
    omega
  · show _ ≤ _ * (enH l ps i + 3 * _ - _)
    have bx := sl_bd hR (a := ps.getD i 0) (b := ps.getD (i + 1) 0) (by have := hP.bd (show i < ps.length by omega); omega) (by omega) (by have := hP.bd hi; omega)
    unfold slL slH at bx
    unfold slH
    rw [rx2, ry2] at bx ⊢
    rw [rx1, ry1] at bx
    unfold lnL lnH at bx
    unfold lnH
    generalize hNx : lnN (gX l k) (gR l k) (gX l (k + 1)) (gR l (k + 1)) (ps.getD i 0) = nx at *
    generalize hNy : lnN (gX l k) (gR l k) (gX l (k + 1)) (gR l (k + 1)) (ps.getD (i + 1) 0) = ny at *
    have id : (ps.getD i 0 - gX l k) * sq3 (gR l k * (gX l (k + 1) - gX l k)) nx + (ps.getD (i + 1) 0 - ps.getD i 0) * sq3 nx ny = (ps.getD (i + 1) 0 - gX l k) * sq3 (gR l k * (gX l (k + 1) - gX l k)) ny := by
      subst hNx; subst hNy
      unfold sq3 lnN
      grind
    rw [← id]
    generalize hd : gX l (k + 1) - gX l k = d at *
    have d0 : 0 < d := by omega
    have f1 := cl_ge nx d d0
    have f2 := cl_ge ny d d0
    have z1 := (fl_iff nx d 1 d0).1 (by omega)
    have z2 := (fl_iff ny d 1 d0).1 (by omega)
    generalize hm : max (cdv nx d) (cdv ny d) = m at *
    have g1 : nx ≤ m * d := by
      have := Int.mul_le_mul_of_nonneg_right (show cdv nx d ≤ m by omega) (show 0 ≤ d by omega); omega
    have g2 : ny ≤ m * d := by
      have := Int.mul_le_mul_of_nonneg_right (show cdv ny d ≤ m by omega) (show 0 ≤ d by omega); omega
    have s := sq3_high (by omega) (by omega) g1 g2
    have s2 := Int.mul_le_mul_of_nonneg_left s (show 0 ≤ ps.getD (i + 1) 0 - ps.getD i 0 by omega)
    generalize ps.getD (i + 1) 0 - ps.getD i 0 = w at *
    have e : d * d * (enH l ps i + 3 * (w * (m * m)) - fr l k) = d * d * (enH l ps i - fr l k) + w * (3 * (m * d * (m * d))) := by grind
    rw [e]
    omega
theorem en_at {l : List (Int × Int)} {ps : List Int} (hR : RP l) (hP : PlR l ps) (i : Nat) (hi : i < ps.length) : ∃ k, EnAt l ps i k := by
  induction i with
  | zero =>
    have n0 := hR.n0
    have a := hR.asc 0 (by omega)
    refine ⟨0, by omega, ?_, ?_, ?_, ?_⟩
    · rw [hP.z, hR.x0]; exact Int.le_refl _
    · rw [hP.z]; rw [hR.x0] at a; omega
    · rw [hP.z, hR.x0]; simp [enL, fr]
    · rw [hP.z, hR.x0]; simp [enH, fr]
  | succ i ih =>
    obtain ⟨k, h⟩ := ih (by omega)
    by_cases lt : ps.getD i 0 < gX l (k + 1)
    · exact ⟨k, h.step hR hP hi lt⟩
    · have e : ps.getD i 0 = gX l (k + 1) := by have := h.x1; omega
      obtain ⟨w1, w2⟩ := h.whole hR e
      have ascx := hP.asc i hi
      have b := hP.bd hi
      have hk2 : k + 1 + 1 < l.length := by
        have hk := h.hk
        by_cases g : k + 1 + 1 = l.length
        · rw [show l.length - 1 = k + 1 by omega] at b; omega
        · omega
      have a := hR.asc (k + 1) hk2
      have h2 : EnAt l ps i (k + 1) := by
        refine ⟨hk2, by omega, by omega, ?_, ?_⟩
        · rw [e, Int.sub_self, Int.zero_mul]
          exact Int.mul_nonpos_of_nonneg_of_nonpos (Int.mul_nonneg (by omega) (by omega)) (by omega)
        · rw [e, Int.sub_self, Int.zero_mul]
          exact Int.mul_nonneg (Int.mul_nonneg (by omega) (by omega)) (by omega)
      exact ⟨k + 1, h2.step hR hP hi (by omega)⟩
/-- the frustums lie between the cylinders of the slices -/
theorem en_whole {l : List (Int × Int)} {ps : List Int} (hR : RP l) (hP : PlR l ps) : enL l ps (ps.length - 1) ≤ frS l ∧ frS l ≤ enH l ps (ps.length - 1) := by
  obtain ⟨k, h⟩ := en_at hR hP (ps.length - 1) (by have := hP.n0; omega)
  have e := hP.e
  have hk := h.hk
  have n0 := hR.n0
  have : k + 1 = l.length - 1 := by
    by_cases g : k + 1 = l.length - 1
    · exact g
    · have := gX_lt hR (i := k + 1) (j := l.length - 1) (by omega) (by omega)
      have := h.x1
      omega
  have w := h.whole hR (by rw [e, this])
  rw [this] at w
  exact w
end Go.Proofs.YtmdpdpbkbakidaaGreat

/- Plain facts of layer 11: sums over slices and strips. No program stands in this text. -/
namespace Go.Proofs.YtmdpdpbkbakidaaGreat

/-! ### the sums -/
noncomputable def tbL (l : List (Int × Int)) (c : Int) (ps hs : List Int) (j : Nat) : Nat → Int
  | 0 => 0
  | k + 1 => tbL l c ps hs j k + (ps.getD (k + 1) 0 - ps.getD k 0) * prL (slL l (ps.getD k 0) (ps.getD (k + 1) 0)) c hs j
noncomputable def tbH (l : List (Int × Int)) (c : Int) (ps hs : List Int) (j : Nat) : Nat → Int
  | 0 => 0
  | k + 1 => tbH l c ps hs j k + (ps.getD (k + 1) 0 - ps.getD k 0) * prH (slH l (ps.getD k 0) (ps.getD (k + 1) 0)) c hs j
/-- one strip of all slices -/
noncomputable def xsL (l : List (Int × Int)) (c : Int) (ps : List Int) (a b : Int) : Nat → Int
  | 0 => 0
  | k + 1 => xsL l c ps a b k + (ps.getD (k + 1) 0 - ps.getD k 0) * ofL (slL l (ps.getD k 0) (ps.getD (k + 1) 0)) c a b
noncomputable def xsH (l : List (Int × Int)) (c : Int) (ps : List Int) (a b : Int) : Nat → Int
  | 0 => 0
  | k + 1 => xsH l c ps a b k + (ps.getD (k + 1) 0 - ps.getD k 0) * ofH (slH l (ps.getD k 0) (ps.getD (k + 1) 0)) c a b
theorem tb_strip (l : List (Int × Int)) (c : Int) (ps hs : List Int) (j k : Nat) :
    tbL l c ps hs (j + 1) k = tbL l c ps hs j k + xsL l c ps (hs.getD j 0) (hs.getD (j + 1) 0) k ∧ tbH l c ps hs (j + 1) k = tbH l c ps hs j k + xsH l c ps (hs.getD j 0) (hs.getD (j + 1) 0) k := by
  induction k with
  | zero => simp [tbL, tbH, xsL, xsH]
  | succ k ih =>
    obtain ⟨i1, i2⟩ := ih
    refine ⟨?_, ?_⟩
    · show tbL l c ps hs (j + 1) k + _ * (prL _ c hs j + _) = tbL l c ps hs j k + _ + (xsL l c ps _ _ k + _)
      rw [i1, Int.mul_add]; omega
    · show tbH l c ps hs (j + 1) k + _ * (prH _ c hs j + _) = tbH l c ps hs j k + _ + (xsH l c ps _ _ k + _)
      rw [i2, Int.mul_add]; omega
theorem tb_zero (l : List (Int × Int)) (c : Int) (ps hs : List Int) (k : Nat) : tbL l c ps hs 0 k = 0 ∧ tbH l c ps hs 0 k = 0 := by
  induction k with
  | zero => simp [tbL, tbH]
  | succ k ih => simp [tbL, tbH, prL, prH, ih.1, ih.2]
/-- the bung's radius -/
def bgR (l : List (Int × Int)) : Int := gR l (bg l l.length)
theorem PlR.slice {l : List (Int × Int)} {ps : List Int} (hR : RP l) (h : PlR l ps) {k : Nat} (hk : k + 1 < ps.length) :
    (0 < ps.getD (k + 1) 0 - ps.getD k 0 ∧ ps.getD (k + 1) 0 - ps.getD k 0 ≤ 100000) ∧ 1 ≤ slL l (ps.getD k 0) (ps.getD (k + 1) 0) ∧ slL l (ps.getD k 0) (ps.getD (k + 1) 0) ≤ slH l (ps.getD k 0) (ps.getD (k + 1) 0) ∧ slH l (ps.getD k 0) (ps.getD (k + 1) 0) ≤ bgR l ∧ bgR l ≤ 100000 := by
  have b0 := h.bd (show k < ps.length by omega)
  have b1 := h.bd hk
  have a := h.asc k hk
  have x := hR.bx (l.length - 1) (by have := hR.n0; omega)
  exact ⟨by omega, sl_bd hR (by omega) (by omega) (by omega)⟩
theorem pr_both {r s c : Int} {hs : List Int} (r0 : 0 ≤ r) (rs : r ≤ s) (s1 : s ≤ 100000) (h : HR hs) (j : Nat) (hj : j < hs.length) : 0 ≤ prL r c hs j ∧ prL r c hs j ≤ prH s c hs j ∧ prH s c hs j ≤ 40000000000 := by
  have a := pr_le (c := c) r0 (by omega) h j hj
  have b := pr_wider (c := c) r0 rs h j hj
  have d := pr_le (c := c) (r := s) (by omega) s1 h j hj
  omega
theorem tb_bd {l : List (Int × Int)} {ps hs : List Int} {c : Int} (hR : RP l) (hP : PlR l ps) (hH : HR hs) (j : Nat) (hj : j < hs.length) (k : Nat) (hk : k < ps.length) :
    0 ≤ tbL l c ps hs j k ∧ tbL l c ps hs j k ≤ tbH l c ps hs j k ∧ tbH l c ps hs j k ≤ ps.getD k 0 * 40000000000 := by
  induction k with
  | zero => rw [hP.z]; simp [tbL, tbH]
  | succ k ih =>
    obtain ⟨i0, i1, i2⟩ := ih (by omega)
    obtain ⟨⟨w0, w1⟩, s0, s1, s2, s3⟩ := hP.slice hR hk
    obtain ⟨p0, p1, p2⟩ := pr_both (c := c) (show 0 ≤ slL l (ps.getD k 0) (ps.getD (k + 1) 0) by omega) s1 (by omega) hH j hj
    show 0 ≤ tbL l c ps hs j k + _ * _ ∧ tbL l c ps hs j k + _ * _ ≤ tbH l c ps hs j k + _ * _ ∧ tbH l c ps hs j k + _ * _ ≤ _
    have m0 := Int.mul_nonneg (show 0 ≤ ps.getD (k + 1) 0 - ps.getD k 0 by omega) p0
    have m1 := Int.mul_le_mul_of_nonneg_left p1 (show 0 ≤ ps.getD (k + 1) 0 - ps.getD k 0 by omega)
    have m2 := Int.mul_le_mul_of_nonneg_left p2 (show 0 ≤ ps.getD (k + 1) 0 - ps.getD k 0 by omega)
    rw [Int.sub_mul (ps.getD (k + 1) 0) (ps.getD k 0) 40000000000] at m2
    omega
/-! ### refined heights -/
theorem tb_finer {l : List (Int × Int)} {ps hs m : List Int} {c : Int} (hR : RP l) (hP : PlR l ps) (hH : HR hs) (h1 : ∀ i, i < hs.length → m.getD (2 * i) 0 = hs.getD i 0) (h2 : ∀ i, i + 1 < hs.length → hs.getD i 0 ≤ m.getD (2 * i + 1) 0 ∧ m.getD (2 * i + 1) 0 ≤ hs.getD (i + 1) 0) (j : Nat) (hj : j < hs.length) (k : Nat) (hk : k < ps.length) :
    tbL l c ps hs j k ≤ tbL l c ps m (2 * j) k ∧ tbH l c ps m (2 * j) k ≤ tbH l c ps hs j k := by
  induction k with
  | zero => simp [tbL, tbH]
  | succ k ih =>
    obtain ⟨i0, i1⟩ := ih (by omega)
    obtain ⟨⟨w0, w1⟩, s0, s1, s2, s3⟩ := hP.slice hR hk
    have f1 := (pr_finer (c := c) (show 0 ≤ slL l (ps.getD k 0) (ps.getD (k + 1) 0) by omega) hH h1 h2 j hj).1
    have f2 := (pr_finer (c := c) (show 0 ≤ slH l (ps.getD k 0) (ps.getD (k + 1) 0) by omega) hH h1 h2 j hj).2
    show tbL l c ps hs j k + _ * _ ≤ tbL l c ps m (2 * j) k + _ * _ ∧ tbH l c ps m (2 * j) k + _ * _ ≤ tbH l c ps hs j k + _ * _
    have m1 := Int.mul_le_mul_of_nonneg_left f1 (show 0 ≤ ps.getD (k + 1) 0 - ps.getD k 0 by omega)
    have m2 := Int.mul_le_mul_of_nonneg_left f2 (show 0 ≤ ps.getD (k + 1) 0 - ps.getD k 0 by omega)
    omega
/-! ### one more place -/
theorem rd_mid {l : List (Int × Int)} (h : RP l) {k : Nat} (hk : k + 1 < l.length) {a x b : Int} (a0 : gX l k ≤ a) (ax : a ≤ x) (xb : x ≤ b) (b1 : b ≤ gX l (k + 1)) : slL l a b ≤ rdL l x ∧ rdH l x ≤ slH l a b := by
  obtain ⟨ra1, ra2⟩ := rd_piece h hk a0 (show a ≤ gX l (k + 1) by omega)
  obtain ⟨rx1, rx2⟩ := rd_piece h hk (x := x) (by omega) (by omega)
  obtain ⟨rb1, rb2⟩ := rd_piece h hk (x := b) (by omega) b1
  have d0 : 0 < gX l (k + 1) - gX l k := by have := h.asc k hk; omega
  unfold slL slH
  rw [ra1, ra2, rb1, rb2, rx1, rx2]
  unfold lnL lnH
  generalize hd : gX l (k + 1) - gX l k = d at *
  have key : ∀ {n m : Int}, n ≤ m → n / d ≤ m / d ∧ cdv n d ≤ cdv m d := fun {n m} hnm =>
    ⟨fl_mono d0 d0 (Int.mul_le_mul_of_nonneg_right hnm (by omega)), cl_mono d0 d0 (Int.mul_le_mul_of_nonneg_right hnm (by omega))⟩
  by_cases g : gR l k ≤ gR l (k + 1)
  · have u1 := key (lnN_up (a := gX l k) (b := gX l (k + 1)) g ax)
    have u2 := key (lnN_up (a := gX l k) (b := gX l (k + 1)) g xb)
    omega
  · have u1 := key (lnN_down (a := gX l k) (b := gX l (k + 1)) (show gR l (k + 1) ≤ gR l k by omega) ax)
    have u2 := key (lnN_down (a := gX l k) (b := gX l (k + 1)) (show gR l (k + 1) ≤ gR l k by omega) xb)
    omega
/-- the places with one more -/
def pins (ps : List Int) (i : Nat) (x : Int) : List Int := ps.take i ++ [x] ++ ps.drop i
theorem pins_len {ps : List Int} {i : Nat} (x : Int) (hi : i ≤ ps.length) : (pins ps i x).length = ps.length + 1 := by
  unfold pins; simp; omega
theorem pins_at {ps : List Int} {i : Nat} (x : Int) (hi : i ≤ ps.length) (j : Nat) : (pins ps i x).getD j 0 = if j < i then ps.getD j 0 else if j = i then x else ps.getD (j - 1) 0 := by
  unfold pins
  by_cases h1 : j < i
  · rw [if_pos h1, List.append_assoc, List.getD_eq_getElem?_getD, List.getElem?_append_left (by rw [List.length_take]; omega), List.getElem?_take_of_lt h1, ← List.getD_eq_getElem?_getD]
  · rw [if_neg h1, List.append_assoc, List.getD_eq_getElem?_getD, List.getElem?_append_right (by rw [List.length_take]; omega), List.length_take, show min i ps.length = i by omega]
    by_cases h2 : j = i
    · rw [if_pos h2, show j - i = 0 by omega]; rfl
    · rw [if_neg h2, List.getElem?_append_right (by simp; omega), List.getElem?_drop, show i + (j - i - [x].length) = j - 1 by simp; omega, ← List.getD_eq_getElem?_getD]
structure PinP (ps : List Int) (i : Nat) (x : Int) : Prop where
  i1 : 1 ≤ i
  i2 : i < ps.length
  lo : ps.getD (i - 1) 0 < x
  hi : x < ps.getD i 0
theorem pins_right {l : List (Int × Int)} {ps : List Int} {i : Nat} {x : Int} (hP : PlR l ps) (h : PinP ps i x) (n : ps.length ≤ 127) : PlR l (pins ps i x) := by
  obtain ⟨i1, i2, lo, hi⟩ := h
  have at' := pins_at x (show i ≤ ps.length by omega)
  have ln := pins_len x (show i ≤ ps.length by omega)
  refine ⟨by rw [ln]; omega, by rw [ln]; omega, ?_, ?_, ?_, ?_⟩
  · rw [at', if_pos (by omega), hP.z]
  · rw [ln, at', if_neg (by omega), if_neg (by omega), Nat.add_sub_cancel, hP.e]
  · intro j hj
    rw [ln] at hj
    rw [at', at']
    by_cases g1 : j + 1 < i
    · rw [if_pos (by omega), if_pos g1]; exact hP.asc j (by omega)
    · by_cases g2 : j + 1 = i
      · rw [if_pos (by omega), if_neg g1, if_pos g2, show j = i - 1 by omega]; exact lo
      · by_cases g3 : j = i
        · rw [if_neg (by omega), if_pos g3, if_neg (by omega), if_neg (by omega), Nat.add_sub_cancel, g3]; exact hi
        · rw [if_neg (by omega), if_neg g3, if_neg (by omega), if_neg (by omega), Nat.add_sub_cancel]
          have := hP.asc (j - 1) (by omega)
          rwa [Nat.sub_add_cancel (by omega)] at this
  · intro j hj
    obtain ⟨t, ht, et⟩ := hP.has j hj
    by_cases g : t < i
    · exact ⟨t, by rw [ln]; omega, by rw [at', if_pos g]; exact et⟩
    · exact ⟨t + 1, by rw [ln]; omega, by rw [at', if_neg (by omega), if_neg (by omega), Nat.add_sub_cancel]; exact et⟩
theorem tb_more {l : List (Int × Int)} {ps hs : List Int} {i : Nat} {x c : Int} (hR : RP l) (hP : PlR l ps) (h : PinP ps i x) (hH : HR hs) (j : Nat) (hj : j < hs.length) :
    (∀ k, k < i → tbL l c (pins ps i x) hs j k = tbL l c ps hs j k ∧ tbH l c (pins ps i x) hs j k = tbH l c ps hs j k) ∧
    (∀ k, i ≤ k → k < ps.length → tbL l c ps hs j k ≤ tbL l c (pins ps i x) hs j (k + 1) ∧ tbH l c (pins ps i x) hs j (k + 1) ≤ tbH l c ps hs j k) := by
  obtain ⟨i1, i2, lo, hi⟩ := h
  have at' := pins_at x (show i ≤ ps.length by omega)
  have below : ∀ k, k < i → tbL l c (pins ps i x) hs j k = tbL l c ps hs j k ∧ tbH l c (pins ps i x) hs j k = tbH l c ps hs j k := by
    intro k
    induction k with
    | zero => intro _; simp [tbL, tbH]
    | succ k ih =>
      intro hk
      obtain ⟨e1, e2⟩ := ih (by omega)
      unfold tbL tbH
      rw [at', at', if_pos hk, if_pos (by omega), e1, e2]
      exact ⟨rfl, rfl⟩
  refine ⟨below, fun k => ?_⟩
  induction k with
  | zero => intro h; omega
  | succ k ih =>
    intro hk hk2
    by_cases g : i = k + 1
    · subst g
      obtain ⟨e1, e2⟩ := below k (by omega)
      rw [Nat.add_sub_cancel] at lo
      obtain ⟨t, ht, t0, t1⟩ := hP.piece hR hk2
      have md := rd_mid hR ht t0 (show ps.getD k 0 ≤ x by omega) (show x ≤ ps.getD (k + 1) 0 by omega) t1
      obtain ⟨⟨w0, w1⟩, s0, s1, s2, s3⟩ := hP.slice hR hk2
      have a1 : slL l (ps.getD k 0) (ps.getD (k + 1) 0) ≤ slL l (ps.getD k 0) x ∧ slL l (ps.getD k 0) (ps.getD (k + 1) 0) ≤ slL l x (ps.getD (k + 1) 0) ∧ slH l (ps.getD k 0) x ≤ slH l (ps.getD k 0) (ps.getD (k + 1) 0) ∧ slH l x (ps.getD (k + 1) 0) ≤ slH l (ps.getD k 0) (ps.getD (k + 1) 0) := by
        unfold slL slH at *; omega
      have b0 := hP.bd (show k < ps.length by omega)
      have b1 := hP.bd hk2
      have c1 := sl_bd hR (a := ps.getD k 0) (b := x) b0.1 (by omega) (by omega)
      have c2 := sl_bd hR (a := x) (b := ps.getD (k + 1) 0) (by omega) (by omega) b1.2
      have q1 := (pr_wider (c := c) (show 0 ≤ slL l (ps.getD k 0) (ps.getD (k + 1) 0) by omega) a1.1 hH j hj).1
      have q2 := (pr_wider (c := c) (show 0 ≤ slL l (ps.getD k 0) (ps.getD (k + 1) 0) by omega) a1.2.1 hH j hj).1
      have q3 := (pr_wider (c := c) (show 0 ≤ slH l (ps.getD k 0) x by omega) a1.2.2.1 hH j hj).2
      have q4 := (pr_wider (c := c) (show 0 ≤ slH l x (ps.getD (k + 1) 0) by omega) a1.2.2.2 hH j hj).2
      have m1 := Int.mul_le_mul_of_nonneg_left q1 (show 0 ≤ x - ps.getD k 0 by omega)
      have m2 := Int.mul_le_mul_of_nonneg_left q2 (show 0 ≤ ps.getD (k + 1) 0 - x by omega)
      have m3 := Int.mul_le_mul_of_nonneg_left q3 (show 0 ≤ x - ps.getD k 0 by omega)
      have m4 := Int.mul_le_mul_of_nonneg_left q4 (show 0 ≤ ps.getD (k + 1) 0 - x by omega)
      have sp : ∀ q : Int, (ps.getD (k + 1) 0 - ps.getD k 0) * q = (x - ps.getD k 0) * q + (ps.getD (k + 1) 0 - x) * q := fun q => by rw [← Int.add_mul]; congr 1; omega
      have p0 : (pins ps (k + 1) x).getD k 0 = ps.getD k 0 := by rw [at', if_pos (by omega)]
      have p1 : (pins ps (k + 1) x).getD (k + 1) 0 = x := by rw [at', if_neg (by omega), if_pos rfl]
      have p2 : (pins ps (k + 1) x).getD (k + 1 + 1) 0 = ps.getD (k + 1) 0 := by rw [at', if_neg (by omega), if_neg (by omega), Nat.add_sub_cancel]
      show tbL l c ps hs j k + _ * _ ≤ tbL l c (pins ps (k + 1) x) hs j k + _ * prL (slL l ((pins ps (k + 1) x).getD k 0) ((pins ps (k + 1) x).getD (k + 1) 0)) c hs j + _ * prL (slL l ((pins ps (k + 1) x).getD (k + 1) 0) ((pins ps (k + 1) x).getD (k + 1 + 1) 0)) c hs j ∧ tbH l c (pins ps (k + 1) x) hs j k + _ * prH (slH l ((pins ps (k + 1) x).getD k 0) ((pins ps (k + 1) x).getD (k + 1) 0)) c hs j + _ * prH (slH l ((pins ps (k + 1) x).getD (k + 1) 0) ((pins ps (k + 1) x).getD (k + 1 + 1) 0)) c hs j ≤ tbH l c ps hs j k + _ * _
      rw [e1, e2, p0, p1, p2, sp, sp]
      omega
    · obtain ⟨e1, e2⟩ := ih (by omega) (by omega)
      have p1 : (pins ps i x).getD (k + 1) 0 = ps.getD k 0 := by rw [at', if_neg (by omega), if_neg (by omega), Nat.add_sub_cancel]
      have p2 : (pins ps i x).getD (k + 1 + 1) 0 = ps.getD (k + 1) 0 := by rw [at', if_neg (by omega), if_neg (by omega), Nat.add_sub_cancel]
      show tbL l c ps hs j k + _ * _ ≤ tbL l c (pins ps i x) hs j (k + 1) + _ * prL (slL l ((pins ps i x).getD (k + 1) 0) ((pins ps i x).getD (k + 1 + 1) 0)) c hs j ∧ tbH l c (pins ps i x) hs j (k + 1) + _ * prH (slH l ((pins ps i x).getD (k + 1) 0) ((pins ps i x).getD (k + 1 + 1) 0)) c hs j ≤ tbH l c ps hs j k + _ * _
      rw [p1, p2]
      omega
end Go.Proofs.YtmdpdpbkbakidaaGreat

/- A cell below. -/
namespace Go.Proofs.YtmdpdpbkbakidaaGreat
open Go.RowKit

theorem cell_bel {w w' : World} {p : Addr} {v : Value} (h : w.cell? p = some v) (hb : Below w.heap.size w w') : w'.cell? p = some v := by
  rw [hb.cell (World.block_lt_of_cell? w _ h)]; exact h
end Go.Proofs.YtmdpdpbkbakidaaGreat

/- The reference of layer 11: a strip of all slices. -/
namespace Go.Proofs.YtmdpdpbkbakidaaGreat
open Go.RowKit

theorem xs_bd {l : List (Int × Int)} {ps : List Int} {c a b : Int} (hR : RP l) (hP : PlR l ps) (a0 : 0 ≤ a) (ab : a ≤ b) (b1 : b ≤ 200000) (k : Nat) (hk : k < ps.length) :
    0 ≤ xsL l c ps a b k ∧ xsL l c ps a b k ≤ xsH l c ps a b k ∧ xsH l c ps a b k ≤ ps.getD k 0 * 40000000000 := by
  induction k with
  | zero => rw [hP.z]; simp [xsL, xsH]
  | succ k ih =>
    obtain ⟨i0, i1, i2⟩ := ih (by omega)
    obtain ⟨⟨w0, w1⟩, s0, s1, s2, s3⟩ := hP.slice hR hk
    have p := of_bd (slL l (ps.getD k 0) (ps.getD (k + 1) 0)) c a b (by omega) ab
    have q := of_bd (slH l (ps.getD k 0) (ps.getD (k + 1) 0)) c a b (by omega) ab
    have r := (of_wider (slL l (ps.getD k 0) (ps.getD (k + 1) 0)) (slH l (ps.getD k 0) (ps.getD (k + 1) 0)) c a b (by omega) s1 ab).2
    have t : (b - a) * (2 * slH l (ps.getD k 0) (ps.getD (k + 1) 0)) ≤ 200000 * 200000 := Int.mul_le_mul (by omega) (by omega) (by omega) (by omega)
    show 0 ≤ xsL l c ps a b k + _ * _ ∧ xsL l c ps a b k + _ * _ ≤ xsH l c ps a b k + _ * _ ∧ xsH l c ps a b k + _ * _ ≤ _
    have m0 := Int.mul_nonneg (show 0 ≤ ps.getD (k + 1) 0 - ps.getD k 0 by omega) p.1
    have m1 := Int.mul_le_mul_of_nonneg_left (show ofL (slL l (ps.getD k 0) (ps.getD (k + 1) 0)) c a b ≤ ofH (slH l (ps.getD k 0) (ps.getD (k + 1) 0)) c a b by omega) (show 0 ≤ ps.getD (k + 1) 0 - ps.getD k 0 by omega)
    have m2 := Int.mul_le_mul_of_nonneg_left (show ofH (slH l (ps.getD k 0) (ps.getD (k + 1) 0)) c a b ≤ 40000000000 by omega) (show 0 ≤ ps.getD (k + 1) 0 - ps.getD k 0 by omega)
    rw [Int.sub_mul (ps.getD (k + 1) 0) (ps.getD k 0) 40000000000] at m2
    omega
theorem two_next {W : World} (w : World) (T : TypeId) {o : Obj} (h : Below ((w.alloc o).alloc (.cells #[.int .i64 0, .int .i64 0] T)).heap.size ((w.alloc o).alloc (.cells #[.int .i64 0, .int .i64 0] T)) W) : Two (w.heap.size + 1) W (.int .i64 0) (.int .i64 0) := by
  have := (Two.new (w.alloc o) (.int .i64 0) (.int .i64 0) T).below h
  rwa [World.size_alloc] at this
theorem bel_al {a W : World} (h : Below a.heap.size a W) (o : Obj) : Below a.heap.size a (W.alloc o) := h.alloc h.size o
theorem bel_st {a W : World} (h : Below a.heap.size a W) {p : Addr} (hp : a.heap.size ≤ p.block) (z : Value) : Below a.heap.size a (W.setCell p z) := h.setCell hp z
theorem two_putN {b : Nat} {W : World} {x y : Value} (h : Two b W x y) (u v : Value) : Two b ((W.setCell ⟨b, 0, none⟩ u).setCell ⟨b, 1, none⟩ v) u v := by
  obtain ⟨h0, h1, h2, h3, h4⟩ := h
  obtain ⟨r0, r1⟩ := two_read W b u v h0 h1
  exact ⟨r0, r1, by rw [World.frozen?_setCell, World.frozen?_setCell]; exact h2, by rw [World.frozen?_setCell, World.frozen?_setCell]; exact h3, by simpa [World.setCell] using h4⟩
theorem quad_far {b : Nat} {W : World} {x y z u : Value} (h : Quad b W x y z u) {p : Addr} (hp : p.block ≠ b) (v : Value) : Quad b (W.setCell p v) x y z u := by
  obtain ⟨h0, h1, h2, h3, h4, h5⟩ := h
  refine ⟨?_, ?_, ?_, ?_, fun k hk => by rw [World.frozen?_setCell]; exact h4 k hk, by simpa [World.setCell] using h5⟩
  · rw [World.cell?_setCell_other _ _ _ _ (by intro e; apply hp; rw [e])]; exact h0
  · rw [World.cell?_setCell_other _ _ _ _ (by intro e; apply hp; rw [e])]; exact h1
  · rw [World.cell?_setCell_other _ _ _ _ (by intro e; apply hp; rw [e])]; exact h2
  · rw [World.cell?_setCell_other _ _ _ _ (by intro e; apply hp; rw [e])]; exact h3
theorem two_oth {b c : Nat} {W : World} {x y : Value} (h : Two b W x y) (hc : c ≠ b) (u v : Value) : Two b ((W.setCell ⟨c, 0, none⟩ u).setCell ⟨c, 1, none⟩ v) x y :=
  (h.other ⟨c, 0, none⟩ hc u).other ⟨c, 1, none⟩ hc v
theorem two_newN {b : Nat} {W : World} (h : b = W.heap.size) (x y : Value) (T : TypeId) : Two b (W.alloc (.cells #[x, y] T)) x y := by
  subst h; exact Two.new W x y T
theorem ne_pack {p q : Nat} (h : p < q) : p ≠ q ∧ q ≠ p ∧ p ≠ q + 1 ∧ q + 1 ≠ p := by omega
theorem field_lowB (a b : Int) (w : World) : (Instr.field 29 (.agg #[.int .i64 a, .int .i64 b]) 0).run Tryz.prog w = .ok (.int .i64 a) w := by kernel_rfl
theorem field_highB (a b : Int) (w : World) : (Instr.field 29 (.agg #[.int .i64 a, .int .i64 b]) 1).run Tryz.prog w = .ok (.int .i64 b) w := by kernel_rfl
/-- what the loop of Of keeps -/
def OfS (w : World) (b1 : Nat) (nm ps dc pr : Value) (xL xH : Int) (W : World) : Prop :=
  Below w.heap.size w W ∧ Quad w.heap.size W nm ps pr dc ∧ Two (w.heap.size + 1) W (.int .i64 0) (.int .i64 0) ∧ Two b1 W (.int .i64 xL) (.int .i64 xH)
theorem OfS.below {w : World} {b1 : Nat} {nm ps dc pr : Value} {xL xH : Int} {W W' : World} (h : OfS w b1 nm ps dc pr xL xH W) (hb : Below W.heap.size W W') : OfS w b1 nm ps dc pr xL xH W' :=
  ⟨bel_trans h.1 hb, h.2.1.below hb, h.2.2.1.below hb, h.2.2.2.below hb⟩
theorem ofs_low {w : World} {b1 : Nat} {nm ps dc pr : Value} {xL xH z : Int} {W : World} (hb : w.heap.size + 1 < b1) (h : OfS w b1 nm ps dc pr xL xH W) : OfS w b1 nm ps dc pr z xH (W.setCell ⟨b1, 0, none⟩ (.int .i64 z)) := by
  obtain ⟨h1, h2, h3, h4⟩ := h
  refine ⟨h1.setCell (p := ⟨b1, 0, none⟩) (by dsimp only; omega) _, quad_far h2 (by dsimp only; omega) _, h3.other ⟨b1, 0, none⟩ (by dsimp only; omega) _, ?_⟩
  obtain ⟨c0, c1, f0, f1, lt⟩ := h4
  exact ⟨World.cell?_setCell_same _ _ _ c0, by rw [World.cell?_setCell_other _ _ _ _ (by simp)]; exact c1, by rw [World.frozen?_setCell]; exact f0, by rw [World.frozen?_setCell]; exact f1, by simpa [World.setCell] using lt⟩
theorem ofs_high {w : World} {b1 : Nat} {nm ps dc pr : Value} {xL xH z : Int} {W : World} (hb : w.heap.size + 1 < b1) (h : OfS w b1 nm ps dc pr xL xH W) : OfS w b1 nm ps dc pr xL z (W.setCell ⟨b1, 1, none⟩ (.int .i64 z)) := by
  obtain ⟨h1, h2, h3, h4⟩ := h
  exact ⟨h1.setCell (p := ⟨b1, 1, none⟩) (by dsimp only; omega) _, quad_far h2 (by dsimp only; omega) _, h3.other ⟨b1, 1, none⟩ (by dsimp only; omega) _, h4.set1 _⟩
end Go.Proofs.YtmdpdpbkbakidaaGreat

/- What stands before a drawn region of a statement: a cask in a box, and two lists of integers. -/
namespace Go.Proofs.YtmdpdpbkbakidaaGreat
open Go.RowKit

theorem bel_trans2 {n : Nat} {A B C : World} (h : Below n A B) (k : Below B.heap.size B C) (hn : n ≤ B.heap.size := by first | exact h.size | assumption | omega) : Below n A C := h.trans (k.mono hn)
theorem bel_al2 {A B : World} (h : Below A.heap.size A B) (o : Obj) : Below A.heap.size A (B.alloc o) := h.alloc h.size o
def LwS (w : World) (q : Nat) (c : Ck) (a : Option Addr) (n cap : Nat) (pv hv : Value) (ps hs : List Int) (W : World) : Prop :=
  Below w.heap.size w W ∧ Quad q W (.string c.nm) (.int .i64 c.ps) (.slice a n cap) (.int .i64 c.dc) ∧ CkV W (.agg #[.string c.nm, .int .i64 c.ps, .slice a n cap, .int .i64 c.dc]) c ∧ Nums W pv ps ∧ Nums W hv hs
theorem LwS.below {w : World} {q : Nat} {c : Ck} {a : Option Addr} {n cap : Nat} {pv hv : Value} {ps hs : List Int} {W W' : World} (h : LwS w q c a n cap pv hv ps hs W) (hb : Below W.heap.size W W') : LwS w q c a n cap pv hv ps hs W' :=
  ⟨bel_trans h.1 hb, h.2.1.below hb, h.2.2.1.below hb, h.2.2.2.1.below hb, h.2.2.2.2.below hb⟩
theorem LwS.cells {w : World} {q : Nat} {c : Ck} {a : Option Addr} {n cap : Nat} {pv hv : Value} {ps hs : List Int} {W : World} (h : LwS w q c a n cap pv hv ps hs W) :
    W.cell? ⟨q, 0, none⟩ = some (.string c.nm) ∧ W.cell? ⟨q, 1, none⟩ = some (.int .i64 c.ps) ∧ W.cell? ⟨q, 2, none⟩ = some (.slice a n cap) ∧ W.cell? ⟨q, 3, none⟩ = some (.int .i64 c.dc) ∧ q ≠ W.heap.size ∧ W.heap.size ≠ q := by
  obtain ⟨q0, q1, q2, q3, _, q5⟩ := h.2.1
  exact ⟨q0, q1, q2, q3, by omega, by omega⟩
end Go.Proofs.YtmdpdpbkbakidaaGreat

/- The reference of layer 12: has, is. -/
namespace Go.Proofs.YtmdpdpbkbakidaaGreat
open Go.RowKit

theorem rstHas_some (b off n cap : Nat) (l : List Int) (x : Int) (B : Bool) (w : World) (n1 : n ≤ 1000) (hl : Hid (n = l.length))
    (hc : Hid (∀ j, j < n → w.cell? ⟨b, off + j, none⟩ = some (.int .i64 (l.getD j 0))))
    (h1 : Hid ((∃ j, j < n ∧ l.getD j 0 = x) → B = true)) (h2 : Hid ((∀ j, j < n → l.getD j 0 ≠ x) → B = false)) :
    Calls Tryz.prog 45 #[.slice (some ⟨b, off, none⟩) n cap, .int .i64 x] w fun e w' => e = .returned (.bool B) ∧ w' = w := by
  go_enter Tryz.func45, Tryz.ntmps45
  go_wp2_with fail
  go_loopw [5] (fun ii wr => ∃ (k : Nat), k ≤ n ∧ ii = .int .i64 k ∧ w = wr ∧ Hid (∀ j, j < k → l.getD j 0 ≠ x)) (fun ii _ => n - (intOf ii).toNat)
  case atStart => exact ⟨0, by omega, rfl, rfl, fun j hj => by omega⟩
  case round =>
    obtain ⟨k, hk, rfl, rfl, ha⟩ := hrel
    by_cases hlt : k < n
    · have c0 := hc.out k hlt
      by_cases hx : l.getD k 0 = x
      · obtain rfl := h1.out ⟨k, hlt, hx⟩
        rw [hx] at c0
        clear hx
        go_wp2
        go_returns
        exact ⟨rfl, rfl⟩
      · have ha2 : Hid (∀ j, j < k + 1 → l.getD j 0 ≠ x) := fun j hj => by
          by_cases e : j = k
          · rw [e]; exact hx
          · exact ha.out j (by omega)
        generalize l.getD k 0 = y at c0 hx
        go_wp2
        go_roundw
        case rel => exact ⟨k + 1, by omega, by go_num, by first | rfl | trivial, ha2⟩
        case measure => simp [intOf]; omega
    · obtain rfl : k = n := by omega
      obtain rfl := h2.out ha.out
      go_wp2
      go_returns
      exact ⟨rfl, rfl⟩
theorem rstHas_nil (a : Option Addr) (cap : Nat) (x : Int) (w : World) :
    Calls Tryz.prog 45 #[.slice a 0 cap, .int .i64 x] w fun e w' => e = .returned (.bool false) ∧ w' = w := by
  go_enter Tryz.func45, Tryz.ntmps45
  go_wp2_with fail
  go_loopw [5] (fun ii wr => ii = .int .i64 0 ∧ w = wr) (fun _ _ => 0)
  case atStart => exact ⟨rfl, rfl⟩
  case round =>
    obtain ⟨rfl, rfl⟩ := hrel
    go_wp2
    go_returns
    exact ⟨rfl, rfl⟩
theorem rstHas_any (v : Value) (l : List Int) (x : Int) (w : World) (hv : Nums w v l) (hn : l.length ≤ 1000) :
    Calls Tryz.prog 45 #[v, .int .i64 x] w fun e w' => e = .returned (.bool (l.any (fun y => y == x))) ∧ w' = w := by
  obtain ⟨a, cap, rfl, hcap, hh⟩ := hv
  rcases hh with h0 | ⟨b, off, rfl, hb, hc⟩
  · have : l = [] := List.length_eq_zero_iff.1 h0
    subst this
    exact rstHas_nil a cap x w
  · refine rstHas_some b off _ cap l x _ w hn (Lib.hid rfl) (Lib.hid hc) (Lib.hid ?_) (Lib.hid ?_)
    · rintro ⟨j, hj, e⟩
      rw [List.any_eq_true]
      rw [List.getD_eq_getElem?_getD, List.getElem?_eq_getElem hj, Option.getD_some] at e
      exact ⟨_, List.getElem_mem hj, by rw [e]; simp⟩
    · intro h
      rw [List.any_eq_false]
      intro y hy
      obtain ⟨j, hj, rfl⟩ := List.getElem_of_mem hy
      have := h j hj
      rw [List.getD_eq_getElem?_getD, List.getElem?_eq_getElem hj, Option.getD_some] at this
      simpa using this
/-- the first fault of a cask that has to be right and standing -/
def stSE (c : Ck) : Int := if ccE c = 0 then (if c.ps = 2 then 0 else 10) else 1
theorem rstIs_core (nm : ByteArray) (ps dc E V : Int) (a : Option Addr) (n cap : Nat) (w : World) (hV : Hid ((E ≠ 0 → V = 1) ∧ (E = 0 → ps ≠ 2 → V = 10) ∧ (E = 0 → ps = 2 → V = 0)))
    (H1 : Hid (∀ W, Below w.heap.size w W → Calls Tryz.prog 48 #[.agg #[.string nm, .int .i64 ps, .slice a n cap, .int .i64 dc]] W fun e w' => e = .returned (.int .i64 E) ∧ Below W.heap.size W w')) :
    Calls Tryz.prog 28 #[.agg #[.string nm, .int .i64 ps, .slice a n cap, .int .i64 dc]] w fun e w' => e = .returned (.int .i64 V) ∧ Below w.heap.size w w' := by
  have F0 := Lib.hid (Quad.new w (.string nm) (.int .i64 ps) (.slice a n cap) (.int .i64 dc) 24)
  go_enter Tryz.func28, Tryz.ntmps28
  go_wp2_with fail
  refine (H1.out _ (bel_alloc (Below.refl _ _))).mono ?_
  rintro e w1 ⟨rfl, gg⟩
  replace F0 := Lib.hid (F0.out.below gg)
  have X1 := Lib.hid (bel_alloc gg); clear gg
  obtain ⟨u0, u1, u2, u3, _, _⟩ := F0.out
  by_cases h : E = 0
  · have g : (E != 0) = false := by simp [h]
    by_cases h2 : ps = 2
    · have g2 : (ps != 2) = false := by simp [h2]
      obtain rfl := hV.out.2.2 h h2
      clear h h2 hV
      go_wp2
      go_returns
      exact ⟨rfl, X1.out⟩
    · have g2 : (ps != 2) = true := by simpa using h2
      obtain rfl := hV.out.2.1 h h2
      clear h h2 hV
      go_wp2
      go_returns
      exact ⟨rfl, X1.out⟩
  · have g : (E != 0) = true := by simpa using h
    obtain rfl := hV.out.1 h
    clear h hV
    go_wp2
    go_returns
    exact ⟨rfl, X1.out⟩
theorem rstIs_any (v : Value) (c : Ck) (w : World) (hv : CkV w v c) :
    Calls Tryz.prog 28 #[v] w fun e w' => e = .returned (.int .i64 (stSE c)) ∧ Below w.heap.size w w' := by
  have HC : Hid (∀ W, Below w.heap.size w W → _) := Lib.hid fun W hW => refCkk_any v c W (hv.below hW)
  obtain ⟨a, cap, rfl, _⟩ := hv
  refine rstIs_core _ _ _ (ccE c) _ _ _ _ w (Lib.hid ⟨fun h => ?_, fun h h2 => ?_, fun h h2 => ?_⟩) HC
  · unfold stSE; rw [if_neg h]
  · unfold stSE; rw [if_pos h, if_neg h2]
  · unfold stSE; rw [if_pos h, if_pos h2]
end Go.Proofs.YtmdpdpbkbakidaaGreat

/- Package cask: isNamed, isStrange, isName, isPosition, isVolume. -/
namespace Go.Proofs.YtmdpdpbkbakidaaGreat
open Go.RowKit

/-- a rune that may stand in a name -/
def nmR (x : Nat) : Bool := decide (97 ≤ x ∧ x ≤ 122) || decide (65 ≤ x ∧ x ≤ 90) || decide (48 ≤ x ∧ x ≤ 57) || decide (x = 45) || decide (x = 46)
theorem nmR_iff (x : Nat) : nmR x = true ↔ (97 ≤ x ∧ x ≤ 122) ∨ (65 ≤ x ∧ x ≤ 90) ∨ (48 ≤ x ∧ x ≤ 57) ∨ x = 45 ∨ x = 46 := by
  simp [nmR, or_assoc]
theorem nmR_C (c : UInt8) : nmR c.toNat = nmC c := rfl
/-- which is not one -/
def stR (x : Nat) : Bool := !nmR x
theorem named_core (x : Nat) (B : Bool) (w : World) (hx : x ≤ 1114111) (h1 : Hid (nmR x = true → B = true)) (h0 : Hid (nmR x = false → B = false)) :
    Calls Tryz.prog 99 #[.int .i32 (x : Int)] w fun e w' => e = .returned (.bool B) ∧ w' = w := by
  have cs : (97 ≤ x ∧ x ≤ 122) ∨ (65 ≤ x ∧ x ≤ 90) ∨ (48 ≤ x ∧ x ≤ 57) ∨ (45 ≤ x ∧ x ≤ 45) ∨ (46 ≤ x ∧ x ≤ 46) ∨ (0 ≤ x ∧ x ≤ 44) ∨ (47 ≤ x ∧ x ≤ 47) ∨ (58 ≤ x ∧ x ≤ 64) ∨ (91 ≤ x ∧ x ≤ 96) ∨ (123 ≤ x ∧ x ≤ 1114111) := by omega
  rcases cs with cs | cs | cs | cs | cs | cs | cs | cs | cs | cs
  · obtain rfl := h1.out ((nmR_iff _).2 (by omega))
    clear h0 h1
    have za0 : decide ((97 : Int) ≤ (x : Int)) = true := decide_eq_true (by omega)
    have za1 : decide ((x : Int) ≤ 122) = true := decide_eq_true (by omega)
    have zb0 : decide ((65 : Int) ≤ (x : Int)) = true := decide_eq_true (by omega)
    have zb1 : decide ((x : Int) ≤ 90) = false := decide_eq_false (by omega)
    have zc0 : decide ((48 : Int) ≤ (x : Int)) = true := decide_eq_true (by omega)
    have zc1 : decide ((x : Int) ≤ 57) = false := decide_eq_false (by omega)
    have ze : ((x : Int) == 45) = false := by simp only [beq_eq_false_iff_ne, ne_eq]; omega
    have zf : ((x : Int) == 46) = false := by simp only [beq_eq_false_iff_ne, ne_eq]; omega
    clear cs
    go_enter Tryz.func99, Tryz.ntmps99
    go_wp2
    go_returns
    exact ⟨rfl, rfl⟩
  · obtain rfl := h1.out ((nmR_iff _).2 (by omega))
    clear h0 h1
    have za0 : decide ((97 : Int) ≤ (x : Int)) = false := decide_eq_false (by omega)
    have za1 : decide ((x : Int) ≤ 122) = true := decide_eq_true (by omega)
    have zb0 : decide ((65 : Int) ≤ (x : Int)) = true := decide_eq_true (by omega)
    have zb1 : decide ((x : Int) ≤ 90) = true := decide_eq_true (by omega)
    have zc0 : decide ((48 : Int) ≤ (x : Int)) = true := decide_eq_true (by omega)
    have zc1 : decide ((x : Int) ≤ 57) = false := decide_eq_false (by omega)
    have ze : ((x : Int) == 45) = false := by simp only [beq_eq_false_iff_ne, ne_eq]; omega
    have zf : ((x : Int) == 46) = false := by simp only [beq_eq_false_iff_ne, ne_eq]; omega
    clear cs
    go_enter Tryz.func99, Tryz.ntmps99
    go_wp2
    go_returns
    exact ⟨rfl, rfl⟩
  · obtain rfl := h1.out ((nmR_iff _).2 (by omega))
    clear h0 h1
    have za0 : decide ((97 : Int) ≤ (x : Int)) = false := decide_eq_false (by omega)
    have za1 : decide ((x : Int) ≤ 122) = true := decide_eq_true (by omega)
    have zb0 : decide ((65 : Int) ≤ (x : Int)) = false := decide_eq_false (by omega)
    have zb1 : decide ((x : Int) ≤ 90) = true := decide_eq_true (by omega)
    have zc0 : decide ((48 : Int) ≤ (x : Int)) = true := decide_eq_true (by omega)
    have zc1 : decide ((x : Int) ≤ 57) = true := decide_eq_true (by omega)
    have ze : ((x : Int) == 45) = false := by simp only [beq_eq_false_iff_ne, ne_eq]; omega
    have zf : ((x : Int) == 46) = false := by simp only [beq_eq_false_iff_ne, ne_eq]; omega
    clear cs
    go_enter Tryz.func99, Tryz.ntmps99
    go_wp2
    go_returns
    exact ⟨rfl, rfl⟩
  · obtain rfl := h1.out ((nmR_iff _).2 (by omega))
    clear h0 h1
    have za0 : decide ((97 : Int) ≤ (x : Int)) = false := decide_eq_false (by omega)
    have za1 : decide ((x : Int) ≤ 122) = true := decide_eq_true (by omega)
    have zb0 : decide ((65 : Int) ≤ (x : Int)) = false := decide_eq_false (by omega)
    have zb1 : decide ((x : Int) ≤ 90) = true := decide_eq_true (by omega)
    have zc0 : decide ((48 : Int) ≤ (x : Int)) = false := decide_eq_false (by omega)
    have zc1 : decide ((x : Int) ≤ 57) = true := decide_eq_true (by omega)
    have ze : ((x : Int) == 45) = true := by simp only [beq_iff_eq]; omega
    have zf : ((x : Int) == 46) = false := by simp only [beq_eq_false_iff_ne, ne_eq]; omega
    clear cs
    go_enter Tryz.func99, Tryz.ntmps99
    go_wp2
    go_returns
    exact ⟨rfl, rfl⟩
  · obtain rfl := h1.out ((nmR_iff _).2 (by omega))
    clear h0 h1
    have za0 : decide ((97 : Int) ≤ (x : Int)) = false := decide_eq_false (by omega)
    have za1 : decide ((x : Int) ≤ 122) = true := decide_eq_true (by omega)
    have zb0 : decide ((65 : Int) ≤ (x : Int)) = false := decide_eq_false (by omega)
    have zb1 : decide ((x : Int) ≤ 90) = true := decide_eq_true (by omega)
    have zc0 : decide ((48 : Int) ≤ (x : Int)) = false := decide_eq_false (by omega)
    have zc1 : decide ((x : Int) ≤ 57) = true := decide_eq_true (by omega)
    have ze : ((x : Int) == 45) = false := by simp only [beq_eq_false_iff_ne, ne_eq]; omega
    have zf : ((x : Int) == 46) = true := by simp only [beq_iff_eq]; omega
    clear cs
    go_enter Tryz.func99, Tryz.ntmps99
    go_wp2
    go_returns
    exact ⟨rfl, rfl⟩
  · obtain rfl := h0.out (by rw [Bool.eq_false_iff, ne_eq, nmR_iff]; omega)
    clear h0 h1
    have za0 : decide ((97 : Int) ≤ (x : Int)) = false := decide_eq_false (by omega)
    have za1 : decide ((x : Int) ≤ 122) = true := decide_eq_true (by omega)
    have zb0 : decide ((65 : Int) ≤ (x : Int)) = false := decide_eq_false (by omega)
    have zb1 : decide ((x : Int) ≤ 90) = true := decide_eq_true (by omega)
    have zc0 : decide ((48 : Int) ≤ (x : Int)) = false := decide_eq_false (by omega)
    have zc1 : decide ((x : Int) ≤ 57) = true := decide_eq_true (by omega)
    have ze : ((x : Int) == 45) = false := by simp only [beq_eq_false_iff_ne, ne_eq]; omega
    have zf : ((x : Int) == 46) = false := by simp only [beq_eq_false_iff_ne, ne_eq]; omega
    clear cs
    go_enter Tryz.func99, Tryz.ntmps99
    go_wp2
    go_returns
    exact ⟨rfl, rfl⟩
  · obtain rfl := h0.out (by rw [Bool.eq_false_iff, ne_eq, nmR_iff]; omega)
    clear h0 h1
    have za0 : decide ((97 : Int) ≤ (x : Int)) = false := decide_eq_false (by omega)
    have za1 : decide ((x : Int) ≤ 122) = true := decide_eq_true (by omega)
    have zb0 : decide ((65 : Int) ≤ (x : Int)) = false := decide_eq_false (by omega)
    have zb1 : decide ((x : Int) ≤ 90) = true := decide_eq_true (by omega)
    have zc0 : decide ((48 : Int) ≤ (x : Int)) = false := decide_eq_false (by omega)
    have zc1 : decide ((x : Int) ≤ 57) = true := decide_eq_true (by omega)
    have ze : ((x : Int) == 45) = false := by simp only [beq_eq_false_iff_ne, ne_eq]; omega
    have zf : ((x : Int) == 46) = false := by simp only [beq_eq_false_iff_ne, ne_eq]; omega
    clear cs
    go_enter Tryz.func99, Tryz.ntmps99
    go_wp2
    go_returns
    exact ⟨rfl, rfl⟩
  · obtain rfl := h0.out (by rw [Bool.eq_false_iff, ne_eq, nmR_iff]; omega)
    clear h0 h1
    have za0 : decide ((97 : Int) ≤ (x : Int)) = false := decide_eq_false (by omega)
    have za1 : decide ((x : Int) ≤ 122) = true := decide_eq_true (by omega)
    have zb0 : decide ((65 : Int) ≤ (x : Int)) = false := decide_eq_false (by omega)
    have zb1 : decide ((x : Int) ≤ 90) = true := decide_eq_true (by omega)
    have zc0 : decide ((48 : Int) ≤ (x : Int)) = true := decide_eq_true (by omega)
    have zc1 : decide ((x : Int) ≤ 57) = false := decide_eq_false (by omega)
    have ze : ((x : Int) == 45) = false := by simp only [beq_eq_false_iff_ne, ne_eq]; omega
    have zf : ((x : Int) == 46) = false := by simp only [beq_eq_false_iff_ne, ne_eq]; omega
    clear cs
    go_enter Tryz.func99, Tryz.ntmps99
    go_wp2
    go_returns
    exact ⟨rfl, rfl⟩
  · obtain rfl := h0.out (by rw [Bool.eq_false_iff, ne_eq, nmR_iff]; omega)
    clear h0 h1
    have za0 : decide ((97 : Int) ≤ (x : Int)) = false := decide_eq_false (by omega)
    have za1 : decide ((x : Int) ≤ 122) = true := decide_eq_true (by omega)
    have zb0 : decide ((65 : Int) ≤ (x : Int)) = true := decide_eq_true (by omega)
    have zb1 : decide ((x : Int) ≤ 90) = false := decide_eq_false (by omega)
    have zc0 : decide ((48 : Int) ≤ (x : Int)) = true := decide_eq_true (by omega)
    have zc1 : decide ((x : Int) ≤ 57) = false := decide_eq_false (by omega)
    have ze : ((x : Int) == 45) = false := by simp only [beq_eq_false_iff_ne, ne_eq]; omega
    have zf : ((x : Int) == 46) = false := by simp only [beq_eq_false_iff_ne, ne_eq]; omega
    clear cs
    go_enter Tryz.func99, Tryz.ntmps99
    go_wp2
    go_returns
    exact ⟨rfl, rfl⟩
  · obtain rfl := h0.out (by rw [Bool.eq_false_iff, ne_eq, nmR_iff]; omega)
    clear h0 h1
    have za0 : decide ((97 : Int) ≤ (x : Int)) = true := decide_eq_true (by omega)
    have za1 : decide ((x : Int) ≤ 122) = false := decide_eq_false (by omega)
    have zb0 : decide ((65 : Int) ≤ (x : Int)) = true := decide_eq_true (by omega)
    have zb1 : decide ((x : Int) ≤ 90) = false := decide_eq_false (by omega)
    have zc0 : decide ((48 : Int) ≤ (x : Int)) = true := decide_eq_true (by omega)
    have zc1 : decide ((x : Int) ≤ 57) = false := decide_eq_false (by omega)
    have ze : ((x : Int) == 45) = false := by simp only [beq_eq_false_iff_ne, ne_eq]; omega
    have zf : ((x : Int) == 46) = false := by simp only [beq_eq_false_iff_ne, ne_eq]; omega
    clear cs
    go_enter Tryz.func99, Tryz.ntmps99
    go_wp2
    go_returns
    exact ⟨rfl, rfl⟩
theorem named_any (x : Nat) (w : World) (hx : x ≤ 1114111) : Calls Tryz.prog 99 #[.int .i32 (x : Int)] w fun e w' => e = .returned (.bool (nmR x)) ∧ w' = w :=
  named_core x _ w hx (fun h => h) (fun h => h)
theorem strange_any (x : Nat) (w : World) (hx : x ≤ 1114111) : Calls Tryz.prog 81 #[.int .i32 (x : Int)] w fun e w' => e = .returned (.bool (stR x)) ∧ w' = w := by
  have HN := Lib.hid (fun W => named_any x W hx)
  unfold stR
  generalize nmR x = B at *
  go_enter Tryz.func81, Tryz.ntmps81
  go_wp2_with fail
  refine (HN.out _).mono ?_
  rintro e w1 ⟨rfl, gg⟩
  subst gg
  cases B <;> (go_wp2; go_returns; exact ⟨rfl, rfl⟩)
theorem strange_pred (w : World) : Go.Proofs.PredAtRunes Tryz.prog 81 #[] stR w := fun W x hx _ =>
  (strange_any x W hx).mono fun _ _ ⟨h, h2⟩ => ⟨h, 0, h2⟩

/-! ### a name has no strange rune -/
theorem idx_good (s : ByteArray) : ∀ f pos, (∀ i (h : i < s.size), pos ≤ i → nmC s[i] = true) → Lib.idxFuncFrom stR true s f pos = -1
  | 0, _, _ => rfl
  | f + 1, pos, h => by
    unfold Lib.idxFuncFrom
    by_cases hp : pos < s.size
    · have hn := h pos hp (Nat.le_refl _)
      have ha : (s[pos]'hp).toNat < 128 := by rw [nmC_iff] at hn; omega
      rw [if_pos hp, decode_ascii s pos hp ha]
      have hs : stR (s[pos]'hp).toNat = false := by unfold stR; rw [nmR_C, hn]; rfl
      simp only [hs, Bool.false_eq_true, if_false]
      exact idx_good s f (pos + 1) fun i hi hle => h i hi (by omega)
    · rw [if_neg hp]
theorem idx_bad (s : ByteArray) (k : Nat) (hk : k < s.size) (hb : nmC s[k] = false) : ∀ f pos, pos ≤ k → k < pos + f → (∀ i (h : i < s.size), pos ≤ i → i < k → nmC s[i] = true) → 0 ≤ Lib.idxFuncFrom stR true s f pos
  | 0, _, h1, h2, _ => by omega
  | f + 1, pos, h1, h2, h => by
    unfold Lib.idxFuncFrom
    have hp : pos < s.size := by omega
    rw [if_pos hp]
    by_cases e : pos = k
    · subst e
      have hs : stR (Utf8.decode s pos).1 = true := by
        by_cases ha : (s[pos]'hp).toNat < 128
        · rw [decode_ascii s pos hp ha]; show stR (s[pos]'hp).toNat = true
          unfold stR; rw [nmR_C, hb]; rfl
        · have := (decode_high s pos hp (by omega)).1
          unfold stR
          have hn : nmR (Utf8.decode s pos).1 = false := by rw [Bool.eq_false_iff, ne_eq, nmR_iff]; omega
          rw [hn]; rfl
      rw [if_pos hs]; omega
    · have hn := h pos hp (Nat.le_refl _) (by omega)
      have ha : (s[pos]'hp).toNat < 128 := by rw [nmC_iff] at hn; omega
      rw [decode_ascii s pos hp ha]
      have hs : stR (s[pos]'hp).toNat = false := by unfold stR; rw [nmR_C, hn]; rfl
      simp only [hs, Bool.false_eq_true, if_false]
      exact idx_bad s k hk hb f (pos + 1) (by omega) (by omega) fun i hi hle hlt => h i hi (by omega) hlt
theorem all_bytes {p : UInt8 → Bool} (s : ByteArray) : s.data.toList.all p = true ↔ ∀ i (h : i < s.size), p s[i] = true := by
  rw [List.all_eq_true]
  constructor
  · intro h i hi
    refine h _ ?_
    show s.data[i] ∈ s.data.toList
    exact List.getElem_mem (l := s.data.toList) (by simpa using hi)
  · intro h x hx
    obtain ⟨i, hi, rfl⟩ := List.getElem_of_mem hx
    exact h i (by simpa using hi)
theorem first_bad {p : UInt8 → Bool} (s : ByteArray) (h : ¬ ∀ i (h : i < s.size), p s[i] = true) : ∃ k, ∃ hk : k < s.size, p s[k] = false ∧ ∀ i (h : i < s.size), i < k → p s[i] = true := by
  have h' : ∃ k, ∃ hk : k < s.size, p s[k] = false := by
    simp only [Classical.not_forall] at h
    obtain ⟨k, hk, h⟩ := h
    exact ⟨k, hk, by simpa using h⟩
  obtain ⟨n, hn⟩ := h'
  induction n using Nat.strongRecOn with
  | ind n ih =>
    by_cases g : ∀ i (h : i < s.size), i < n → p s[i] = true
    · obtain ⟨hk, hb⟩ := hn
      exact ⟨n, hk, hb, g⟩
    · simp only [Classical.not_forall] at g
      obtain ⟨i, hi, hlt, hb⟩ := g
      exact ih i hlt ⟨hi, by simpa using hb⟩
theorem idx_names (s : ByteArray) : decide (0 ≤ Lib.idxFunc stR true s) = !s.data.toList.all nmC := by
  by_cases h : ∀ i (h : i < s.size), nmC s[i] = true
  · rw [(all_bytes s).2 h]
    unfold Lib.idxFunc
    rw [idx_good s s.size 0 fun i hi _ => h i hi]
    rfl
  · have hn : s.data.toList.all nmC = false := by rw [Bool.eq_false_iff, ne_eq, all_bytes]; exact h
    rw [hn]
    obtain ⟨k, hk, hb, hg⟩ := first_bad s h
    exact decide_eq_true (idx_bad s k hk hb s.size 0 (by omega) (by omega) fun i hi _ hlt => hg i hi hlt)
theorem strange_calls : ∀ args w, (callFunc 81 args).run Tryz.prog w = .ok (.enter 81 args) w := enters_of Tryz.func81 (by kernel_rfl) rfl
theorem allow_any (s : ByteArray) (w : World) : Calls Tryz.prog 80 #[.string s, .func (.func 81) #[] #[]] w fun e w' => e = .returned (.bool (!s.data.toList.all nmC)) ∧ Below w.heap.size w w' := by
  have := Tryz.strings_ContainsFunc_runes 81 #[] strange_calls stR s w (strange_pred w)
  rwa [idx_names] at this
end Go.Proofs.YtmdpdpbkbakidaaGreat

/- What is kept by blocks that are laid, and by stores elsewhere. -/
namespace Go.Proofs.YtmdpdpbkbakidaaGreat
open Go.RowKit

theorem bA {w Y : World} (h : Below w.heap.size w Y) (o : Obj) : Below w.heap.size w (Y.alloc o) := h.alloc h.size o
theorem bS {w Y : World} (g i : Nat) (v : Value) (h : Below w.heap.size w Y) (hg : w.heap.size ≤ g) : Below w.heap.size w (Y.setCell ⟨g, i, none⟩ v) := h.setCell (p := ⟨g, i, none⟩) hg v
theorem Two.newAt {P : Nat} (W : World) (x y : Value) (T : TypeId) (h : P = W.heap.size) : Two P (W.alloc (.cells #[x, y] T)) x y := by subst h; exact Two.new W x y T
theorem Two.both {b : Nat} {W : World} {x y : Value} (u v : Value) (h : Two b W x y) : Two b ((W.setCell ⟨b, 0, none⟩ u).setCell ⟨b, 1, none⟩ v) u v := (h.set0 u).set1 v
theorem Two.apart {b : Nat} {W : World} {x y : Value} (g i : Nat) (v : Value) (h : Two b W x y) (hp : g ≠ b) : Two b (W.setCell ⟨g, i, none⟩ v) x y := h.other ⟨g, i, none⟩ hp v
theorem cell_al {W : World} {a : Addr} {v : Value} (o : Obj) (h : W.cell? a = some v) : (W.alloc o).cell? a = some v := by rw [World.cell?_alloc_lt W o _ (World.block_lt_of_cell? W _ h)]; exact h
theorem two_kept {b : Nat} {A B : World} {x y : Value} {row : Option Nat} (h : Two b A x y) (hg : A.grownBy B row) (hr : ∀ r, row = some r → ∃ o : Obj, A.heap[r]? = some o ∧ o.isCells = false) : Two b B x y := by
  obtain ⟨h0, h1, h2, h3, h4⟩ := h
  exact ⟨cell_kept h0 hg hr, cell_kept h1 hg hr, (frozen_kept h0 hg hr).trans h2, (frozen_kept h1 hg hr).trans h3, Nat.lt_of_lt_of_le h4 hg.size⟩

theorem keeps_set2 {W X : World} (B : Nat) (p q : Addr) (u v : Value) (h : Below W.heap.size W X) : KeepsFrom B W ((X.setCell p u).setCell q v) := by
  have h0 : KeepsOthers W X := ⟨h.size, fun k o hk _ => by
    have hlt : k < W.heap.size := (Array.getElem?_eq_some_iff.1 hk).1
    rw [h.block k hlt]; exact hk⟩
  exact ((h0.trans (KeepsOthers.setCell _ _ _)).trans (KeepsOthers.setCell _ _ _)).from B
theorem cell_apart {W : World} {b i g j : Nat} {v : Value} (u : Value) (h : W.cell? ⟨b, i, none⟩ = some v) (hn : b ≠ g) : (W.setCell ⟨g, j, none⟩ u).cell? ⟨b, i, none⟩ = some v := by
  rw [World.cell?_setCell_other _ _ _ _ (fun e => by injection e; omega)]; exact h

end Go.Proofs.YtmdpdpbkbakidaaGreat

/- A region that draws its order, where every frame may be entered: all operations but the last few read; then the rest, in the order of the text. -/
namespace Go.Proofs.YtmdpdpbkbakidaaGreat
section
variable {F : Fence} {n : Nat} {P : Program} {ops : Array Oper} {md : Region.Mode} {w : World}

/-- everything may be entered -/
structure Free (F : Fence) (P : Program) : Prop where
  fn : ∀ f, F.fn f
  depth : F.depth = none
  call : ∀ {m : Nat} {f : FuncId} {args : Array Value} {w : World} {R : Ending → World → Prop}, Calls P f args w R → CallsIn F m P f args w R
theorem free_wide (P : Program) : Free Fence.wide P := ⟨fun _ => trivial, rfl, fun h => callsIn_wide.2 h⟩
theorem free_round (P : Program) (l : Nat) : Free (Fence.wide.inRound l) P := ⟨fun _ => trivial, rfl, fun h => CallsIn.inRound l (callsIn_wide.2 h)⟩

theorem wpIn_of_still (hF : Free F P) {o : Oper} {a : Act} {K : Act → Prop} {K' : Act → World → Prop} {Q' : Exit → Act → World → Prop} (hs : ∀ ρ, Oper.semAt F.round ρ o = execOp ρ o) (h : ∀ a, K a → K' a w) (hh : o.still P a w K) : o.wpIn F n P a w K' Q' := by
  refine ⟨fun f _ => hF.fn f, ?_⟩
  rw [hs]
  unfold Oper.still at hh
  generalize (execOp a.eval o).run P w = r at *
  cases r with
  | ok x w' =>
    cases x <;> simp only [Oper.stillUpon] at hh <;> simp only [Oper.uponIn]
    case enter f args =>
      obtain ⟨rfl, v, hc, hn⟩ := hh
      refine ⟨(fun h0 => by rw [hF.depth] at h0; cases h0), hF.call (hc.mono fun e w'' he => ?_)⟩
      obtain ⟨rfl, rfl⟩ := he
      exact h _ hn
    all_goals (obtain ⟨rfl, h2⟩ := hh; exact h _ h2)
  | halt x w' => simp only [Oper.stillUpon] at hh

theorem wpOpIn_of_stOp (hF : Free F P) {i : Nat} {a : Act} {K : Act → Prop} {K' : Act → World → Prop} {Q' : Exit → Act → World → Prop} (hs : ∀ o ∈ ops, ∀ ρ, Oper.semAt F.round ρ o = execOp ρ o) (h : ∀ a, K a → K' a w) (hh : stOp P ops w i K a) : wpOpIn F n P ops Q' i K' a w := by
  unfold stOp at hh
  unfold wpOpIn
  cases ho : ops[i]? with
  | none => simp only [ho] at hh; exact h _ hh
  | some o =>
    simp only [ho] at hh
    by_cases hw : Region.wanted o (yielded ops a.tmps) = true
    · simp only [hw, if_true] at hh ⊢
      exact wpIn_of_still hF (hs o (Array.mem_of_getElem? ho)) h hh
    · simp only [hw] at hh ⊢
      exact ⟨fun f _ => hF.fn f, h _ hh⟩

theorem wpAnyIn_of_head (hF : Free F P) {k g : Nat} {L : Array Bool → Act → Prop} {Q' : Exit → Act → World → Prop} (hs : ∀ o ∈ ops, ∀ ρ, Oper.semAt F.round ρ o = execOp ρ o) (hL : ∀ listed a, L listed a → wpAnyIn F n P md ops Q' g listed a w) :
    ∀ (f : Nat) (listed : Array Bool) (a : Act), wpAnyL P md ops w k L f listed a → wpAnyIn F n P md ops Q' (f + g) listed a w
  | 0, listed, a, h => by rw [Nat.zero_add]; exact hL _ _ h
  | f + 1, listed, a, h => by
    have e : f + 1 + g = (f + g) + 1 := by omega
    rw [e]
    exact ⟨fun h0 => absurd h0 h.1, fun i hi => wpOpIn_of_stOp hF hs (fun a' h' => wpAnyIn_of_head hF hs hL f _ a' h') (h.2 i hi).2⟩

theorem wpAnyIn_of_seq {Q' : Exit → Act → World → Prop} (l : List Oper) : ∀ (k : Nat) (listed : Array Bool) (a : Act) (w : World), (∀ j, l[j]? = ops[k + j]?) →
    Region.seqB md ops l.length k listed = true → wpListIn F n P ops Q' l a w → wpAnyIn F n P md ops Q' l.length listed a w := by
  induction l with
  | nil => intro k listed a w _ hB h; exact ⟨by simpa [Region.seqB] using hB, h⟩
  | cons o l ih =>
    intro k listed a w hl hB h
    have h0 : ops[k]? = some o := by simpa using (hl 0).symm
    simp only [List.length_cons, Region.seqB, Bool.and_eq_true, decide_eq_true_eq] at hB
    refine ⟨(fun h1 => by rw [hB.1] at h1; cases h1), fun i hi => ?_⟩
    rw [hB.1] at hi
    obtain rfl : i = k := by simpa using hi
    have hw : wpOpIn F n P ops Q' i (wpListIn F n P ops Q' l) a w := by unfold wpOpIn; simp only [h0]; exact h
    exact wpOpIn_mono (fun a' w' h' => ih (i + 1) _ a' w' (fun j => by have := hl (j + 1); rw [List.getElem?_cons_succ] at this; rw [this]; congr 1; omega) hB.2 h') hw

theorem wpIn_region_tail (hF : Free F P) {id : Nat} {Q : Exit → Act → World → Prop} {a : Act} {l : List Oper} (k : Nat) (hm : P.follows .mixedOrders = true) (hB : Region.lexTailB .any l.toArray k = true) (hs : ∀ o ∈ l.toArray, ∀ ρ, Oper.semAt F.round ρ o = execOp ρ o)
    (h : wpStill P l.toArray w.drew (fun a' => wpListIn F n P l.toArray Q (l.drop k) a' w.drew) (l.take k) a) : (Code.region id l.toArray true).wpIn F n P Q a w := by
  simp only [Region.lexTailB, Bool.and_eq_true, decide_eq_true_eq] at hB
  obtain ⟨⟨⟨⟨hsel, hn⟩, hsk⟩, hc⟩, hlex⟩ := hB
  have hn' : k < l.length := by simpa using hn
  have htl : (l.take k).length = k := by simp; omega
  have hdl : (l.drop k).length = l.toArray.size - k := by simp
  have inv0 : HeadInv .any l.toArray k (Array.replicate l.toArray.size false) :=
    ⟨by simp, fun j oj _ hl => (by rw [getD_replicate_false] at hl; cases hl), fun t _ ht => getD_in (by simpa using ht) (getD_replicate_false _ _)⟩
  have H := wpAnyL_lex (md := .any) (g := l.toArray.size - k) (w := w.drew) hsel hsk hc hn (l.take k) 0 _ a (fun j hj => by
    have hj' : j < k := by rw [htl] at hj; exact hj
    simp [hj']) (by simpa using htl) inv0 (by rw [htl]; exact hlex) h
  refine wpIn_region_any hm ?_
  have G := wpAnyIn_of_head (n := n) (Q' := Q) (g := l.toArray.size - k) hF hs (fun listed a' hL => by
    have := wpAnyIn_of_seq (F := F) (n := n) (P := P) (md := .any) (Q' := Q) (l.drop k) k listed a' w.drew (fun j => by simp [List.getElem?_drop]) (by rw [hdl]; exact hL.1) hL.2
    rwa [hdl] at this) _ _ _ H
  rw [htl, show k + (l.toArray.size - k) = l.toArray.size by omega] at G
  exact G
end
/-- no operation that is laid aside for later -/
def plainOps (l : List Oper) : Bool := l.all fun o => match o.op with | .defer _ => false | _ => true
theorem sem_all {ro : Option Nat} {l : List Oper} (h : plainOps l = true) : ∀ o ∈ l.toArray, ∀ ρ, Oper.semAt ro ρ o = execOp ρ o := fun o ho ρ => by
  have := List.all_eq_true.1 h o (by simpa using ho)
  exact Oper.semAt_eq ro ρ o (fun c e => by rw [e] at this; cases this)
end Go.Proofs.YtmdpdpbkbakidaaGreat

/- The first numbers below a bound: what an iterator has yielded when some rounds are over. -/
namespace Go.Proofs.YtmdpdpbkbakidaaGreat
def ups (m k : Nat) : List (Fin m) := (List.range k).filterMap fun j => if h : j < m then some ⟨j, h⟩ else none
theorem ups_succ {m k : Nat} (h : k < m) : ups m (k + 1) = ups m k ++ [⟨k, h⟩] := by simp [ups, List.range_succ, h]
theorem ups_val {m k : Nat} (h : k ≤ m) : (ups m k).map (fun j => j.val) = List.range k := by
  induction k with
  | zero => simp [ups]
  | succ k ih => rw [ups_succ (by omega), List.map_append, ih (by omega), List.range_succ]; rfl
theorem ups_len {m k : Nat} (h : k ≤ m) : (ups m k).length = k := by
  have := congrArg List.length (ups_val h)
  simpa using this
theorem ups_zero (m : Nat) : ups m 0 = [] := rfl
end Go.Proofs.YtmdpdpbkbakidaaGreat

/- Package profile: pieces are yielded. -/
namespace Go.Proofs.YtmdpdpbkbakidaaGreat
open Go.RowKit Go.Shelf
attribute [local go_sem] Oper.semAt_some

/-- the index of a piece's second point, and the piece -/
def encP (l : List (Int × Int)) {m : Nat} (j : Fin m) : Array Value := #[.int .i64 ((j.val : Int) + 1), .agg #[.int .i64 (gX l j.val), .int .i64 (gR l j.val), .int .i64 (gX l (j.val + 1)), .int .i64 (gR l (j.val + 1))]]

/-- what a round keeps: what lay below n₀, and a box -/
def KpB (Bs n₀ : Nat) (W W' : World) : Prop := Below n₀ W W' ∧ ∀ v, W.cell? ⟨Bs, 0, none⟩ = some v → W'.cell? ⟨Bs, 0, none⟩ = some v
theorem kpB_refl (Bs n₀ : Nat) (W : World) : KpB Bs n₀ W W := ⟨Below.refl _ _, fun _ h => h⟩
theorem kpB_t {Bs n₀ : Nat} {A B C : World} (h : KpB Bs n₀ A B) (k : KpB Bs n₀ B C) : KpB Bs n₀ A C := ⟨h.1.trans k.1, fun v e => k.2 v (h.2 v e)⟩
theorem kpB_b {Bs n₀ : Nat} {w : World} (hn : n₀ ≤ w.heap.size) (W : World) (l : Nat) (o o' : Obj) (hl : w.heap.size ≤ l) (h : W.heap[l]? = some o) (h1 : o.isCells = false) (h2 : o.isWalk = false) : KpB Bs n₀ W (W.putObj l o') :=
  ⟨belowK_b hn W l o o' hl h h1 h2, fun _ e => cell_kept e (grownBy_putObj' W l o') (fun r e => by cases e; exact ⟨o, h, h1⟩)⟩
theorem kpB_drew (Bs n₀ : Nat) (W : World) : KpB Bs n₀ W W.drew := ⟨⟨rfl, rfl, rfl, Nat.le_refl _, fun _ _ => rfl⟩, fun _ h => h⟩

set_option maxRecDepth 100000 in
set_option maxHeartbeats 4000000 in
theorem pieces1_in (n : Nat) (l Bs n₀ b off len cap : Nat) (zs : List (Int × Int)) (hl : 1 ≤ len) (hl2 : len ≤ 1000) (hb : b < n₀) (J Jx : List (Fin (len - 1)) → World → Prop) (B0 : Nat) (hJ : AbidesFrom B0 J)
    (hY : ∀ pre x W, J pre W → pre.length < len - 1 → YieldAt Fence.wide (n - 1) Tryz.prog l (encP zs x) W fun e W' =>
      (e = .returned (.bool true) ∧ J (pre ++ [x]) W' ∧ KpB Bs n₀ W W') ∨ (e = .returned (.bool false) ∧ Jx (pre ++ [x]) W'))
    (W : World) (hBs : W.cell? ⟨Bs, 0, none⟩ = some (.slice (some ⟨b, off, none⟩) len cap)) (hc : ∀ j, j < len → W.cell? ⟨b, off + j * 2, none⟩ = some (.int .i64 (gX zs j)) ∧ W.cell? ⟨b, off + j * 2 + 1, none⟩ = some (.int .i64 (gR zs j))) (h0 : J [] W) :
    CallsIn Fence.wide n Tryz.prog 94 #[.func (.yield l) #[] #[], .pointer (some ⟨Bs, 0, none⟩)] W fun e W' => (∃ v, e = .returned v) ∧
      ((∃ ys, ys = ups (len - 1) (len - 1) ∧ J ys W') ∨ (∃ pre, (∃ k, k ≤ len - 1 ∧ pre = ups (len - 1) k) ∧ Jx pre W')) := by
  refine callsIn_of_wp Tryz.func94 rfl trivial ?_ rfl
  simp only [Tryz.ntmps94, List.size_toArray, List.length_cons, List.length_nil, Nat.reduceAdd, Nat.reduceSub, Array.replicate_succ, Array.replicate_zero, List.push_toArray, List.append_toArray, List.nil_append, List.cons_append]
  gi_wp2
  gi_loopw [3] (fun i wr => ∃ k : Nat, k + 1 ≤ len ∧ i = .int .i64 ((k : Int) + 1) ∧ J (ups (len - 1) k) wr ∧ KpB Bs n₀ W wr)
    (fun i _ => len - (intOf i).toNat)
  case atStart => exact ⟨0, hl, rfl, h0, kpB_refl _ _ _⟩
  case round =>
    obtain ⟨k, hk, rfl, hJs, hnx⟩ := hrel
    have hBx : wr.cell? ⟨Bs, 0, none⟩ = some (.slice (some ⟨b, off, none⟩) len cap) := hnx.2 _ hBs
    by_cases hlt : k + 1 < len
    · have c0 := hc k (by omega)
      have c1 := hc (k + 1) hlt
      have d0 : wr.cell? ⟨b, off + k * 2, none⟩ = some (.int .i64 (gX zs k)) := (hnx.1.cell (p := ⟨b, off + k * 2, none⟩) hb).trans c0.1
      have d1 : wr.cell? ⟨b, off + k * 2 + 1, none⟩ = some (.int .i64 (gR zs k)) := (hnx.1.cell (p := ⟨b, off + k * 2 + 1, none⟩) hb).trans c0.2
      have d2 : wr.cell? ⟨b, off + (k + 1) * 2, none⟩ = some (.int .i64 (gX zs (k + 1))) := (hnx.1.cell (p := ⟨b, off + (k + 1) * 2, none⟩) hb).trans c1.1
      have d3 : wr.cell? ⟨b, off + (k + 1) * 2 + 1, none⟩ = some (.int .i64 (gR zs (k + 1))) := (hnx.1.cell (p := ⟨b, off + (k + 1) * 2 + 1, none⟩) hb).trans c1.2
      clear c0 c1
      obtain ⟨fn, tmps, assign, body, hy, hR⟩ := hY _ ⟨k, by omega⟩ wr.drew (hJ _ _ _ none hJs ⟨rfl, rfl, rfl, Nat.le_refl _, fun _ _ _ => rfl⟩ (fun r e => by cases e)) (by rw [ups_len (by omega)]; omega)
      rw [← ups_succ (by omega)] at hR
      dsimp only [encP] at hy
      have hmx : Tryz.prog.follows .mixedOrders = true := by kernel_rfl
      have HR2 : Hid (RoundIn Fence.wide (n - 1) Tryz.prog l fn tmps assign body wr.drew fun e W' => ∃ bb : Bool, e = .returned (.bool bb) ∧ Hid ((bb = true ∧ J (ups (len - 1) (k + 1)) W' ∧ KpB Bs n₀ wr.drew W') ∨ (bb = false ∧ Jx (ups (len - 1) (k + 1)) W'))) := by
        refine hR.mono ?_
        rintro e W3 (⟨rfl, h⟩ | ⟨rfl, h⟩)
        · exact ⟨true, rfl, .inl ⟨rfl, h⟩⟩
        · exact ⟨false, rfl, .inr ⟨rfl, h⟩⟩
      clear hR
      generalize gX zs k = x at *
      generalize gR zs k = p at *
      generalize gX zs (k + 1) = y at *
      generalize gR zs (k + 1) = q at *
      have wj : IntKind.i64.wrap ((k : Int) + 1 - 1) = (k : Int) := by simp only [IntKind.wrap_i64]; omega
      have wk : IntKind.i64.wrap (k : Int) = (k : Int) := by simp only [IntKind.wrap_i64]; omega
      have l0 : (k : Int) < (len : Int) := by omega
      have l1 : (k : Int) + 1 < (len : Int) := by omega
      have l2 : k < len := by omega
      have l3 : 0 ≤ (k : Int) + 1 := by omega
      have l4 : ((k : Int) + 1).toNat = k + 1 := by omega
      gi_wp2
      refine wpIn_region_tail (free_wide _) 12 hmx (by kernel_rfl) (fun _ _ _ => rfl) ?_
      simp only [List.take_succ_cons, List.take_zero, List.drop_succ_cons, List.drop_zero]
      repeat still_step
      refine wpStill_nil ?_
      gi_wp2
      refine ⟨(fun h => by cases h), HR2.out.mono ?_⟩
      rintro e W3 ⟨bb, rfl, h3⟩
      rcases h3.out with ⟨rfl, hJ3, hk3⟩ | ⟨rfl, hJx3⟩
      · gi_wp2
        go_roundw
        case rel => exact ⟨k + 1, by omega, by go_num, hJ3, kpB_t hnx (kpB_t (kpB_drew _ _ wr) hk3)⟩
        case measure => simp [intOf]; omega
      · gi_wp2
        refine bodyPost_ret (results_none rfl _ _ _) rfl ?_
        exact ⟨⟨_, rfl⟩, .inr ⟨_, ⟨k + 1, by omega, rfl⟩, hJx3⟩⟩
    · obtain rfl : len = k + 1 := by omega
      gi_wp2
      go_end0
      exact ⟨⟨_, rfl⟩, .inl ⟨_, rfl, hJs⟩⟩

theorem pieces_any (a : Option Addr) (len cap : Nat) (w : World) :
    Calls Tryz.prog 76 #[.slice a len cap] w fun e w' => e = .returned (.func (.func 94) #[] #[.pointer (some ⟨w.heap.size, 0, none⟩)]) ∧ w' = w.alloc (.cells #[.slice a len cap] 22) := by
  have hmf : ∀ (fn : Fn) (first cap : Array Value) (w : World), (Instr.makeFunc fn first cap).run Tryz.prog w = .ok (.func fn first cap) w := fun _ _ _ _ => rfl
  go_enter Tryz.func76, Tryz.ntmps76
  go_wp2
  go_ret
  exact ⟨rfl, rfl⟩

/-- what pieces returns yields all pieces, or the first ones -/
theorem pieces_stops (n Bs n₀ b off len cap : Nat) (zs : List (Int × Int)) (hl : 1 ≤ len) (hl2 : len ≤ 1000) (hb : b < n₀) (w : World) (hn : n₀ ≤ w.heap.size)
    (hBs : w.cell? ⟨Bs, 0, none⟩ = some (.slice (some ⟨b, off, none⟩) len cap)) (hc : ∀ j, j < len → w.cell? ⟨b, off + j * 2, none⟩ = some (.int .i64 (gX zs j)) ∧ w.cell? ⟨b, off + j * 2 + 1, none⟩ = some (.int .i64 (gR zs j))) :
    SeqStopsK Fence.wide n Tryz.prog 94 #[.pointer (some ⟨Bs, 0, none⟩)] (fun x : Fin (len - 1) => encP zs x) (KpB Bs n₀) (fun ys => ys = ups (len - 1) (len - 1))
      (fun pre => ∃ k, k ≤ len - 1 ∧ pre = ups (len - 1) k) (len - 1) w := fun l J Jx W hW hJ _ hY h0 =>
  pieces1_in n l Bs n₀ b off len cap zs hl hl2 hb J Jx W.heap.size hJ hY W ((hW.cell (p := ⟨Bs, 0, none⟩) (World.block_lt_of_cell? w _ hBs)).trans hBs) (fun j hj => ⟨(hW.cell (p := ⟨b, off + j * 2, none⟩) (by show b < _; omega)).trans (hc j hj).1, (hW.cell (p := ⟨b, off + j * 2 + 1, none⟩) (by show b < _; omega)).trans (hc j hj).2⟩) h0
end Go.Proofs.YtmdpdpbkbakidaaGreat

/- Package profile: advances. -/
namespace Go.Proofs.YtmdpdpbkbakidaaGreat
open Go.RowKit Go.Shelf
attribute [local go_sem] Oper.semAt_some

/-- a block with four cells -/
def Four (b : Nat) (W : World) (x p y q : Value) : Prop := W.cell? ⟨b, 0, none⟩ = some x ∧ W.cell? ⟨b, 1, none⟩ = some p ∧ W.cell? ⟨b, 2, none⟩ = some y ∧ W.cell? ⟨b, 3, none⟩ = some q
theorem Four.new (W : World) (x p y q : Value) (T : TypeId) : Four W.heap.size (W.alloc (.cells #[x, p, y, q] T)) x p y q := ⟨by simp [go_sem], by simp [go_sem], by simp [go_sem], by simp [go_sem]⟩
theorem four_kept {b : Nat} {A B : World} {x p y q : Value} {row : Option Nat} (h : Four b A x p y q) (hg : A.grownBy B row) (hr : ∀ r, row = some r → ∃ o : Obj, A.heap[r]? = some o ∧ o.isCells = false) : Four b B x p y q := by
  obtain ⟨h0, h1, h2, h3⟩ := h
  exact ⟨cell_kept h0 hg hr, cell_kept h1 hg hr, cell_kept h2 hg hr, cell_kept h3 hg hr⟩

set_option maxRecDepth 100000 in
set_option maxHeartbeats 8000000 in
theorem advances_some (b off n cap : Nat) (l : List (Int × Int)) (A : Bool) (w : World) (n0 : 1 ≤ n) (n1 : n ≤ 1000) (hb : b < w.heap.size)
    (hc : Hid (∀ j, j < n → w.cell? ⟨b, off + j * 2, none⟩ = some (.int .i64 (gX l j)) ∧ w.cell? ⟨b, off + j * 2 + 1, none⟩ = some (.int .i64 (gR l j))))
    (h1 : Hid ((∀ j, j + 1 < n → gX l j < gX l (j + 1)) → A = (gX l 0 == 0))) (h2 : Hid ((∃ j, j + 1 < n ∧ ¬ gX l j < gX l (j + 1)) → A = false)) :
    Calls Tryz.prog 70 #[.slice (some ⟨b, off, none⟩) n cap] w fun e w' => e = .returned (.bool A) ∧ Below w.heap.size w w' := by
  refine (callsIn_wide (n := 10)).1 ?_
  refine callsIn_of_wp_marks Tryz.func70 rfl trivial ?_ rfl
  simp only [Tryz.ntmps70, List.size_toArray, List.length_cons, List.length_nil, Nat.reduceAdd, Nat.reduceSub, Array.replicate_succ, Array.replicate_zero, List.push_toArray, List.append_toArray, List.nil_append, List.cons_append]
  gi_wp2_with fail
  refine ⟨trivial, (callsIn_wide.2 (pieces_any _ _ _ _)).mono ?_⟩
  rintro e w3 ⟨rfl, rfl⟩
  gi_wp2_with fail
  have BO : Hid (Boxed (w.alloc (.cells #[.bool false] 4)) w.heap.size 4 (.bool false)) := Boxed.new w 4 (.bool false)
  have BX : Hid (Boxed ((w.alloc (.cells #[.bool false] 4)).alloc (.cells #[.slice (some ⟨b, off, none⟩) n cap] 22)) (w.heap.size + 1) 22 (.slice (some ⟨b, off, none⟩) n cap)) := by
    have := Boxed.new (w.alloc (.cells #[.bool false] 4)) 22 (.slice (some ⟨b, off, none⟩) n cap)
    rwa [World.size_alloc] at this
  replace BO := Lib.hid (BO.out.alloc (.cells #[.slice (some ⟨b, off, none⟩) n cap] 22))
  have X1 : Hid (Below w.heap.size w ((w.alloc (.cells #[.bool false] 4)).alloc (.cells #[.slice (some ⟨b, off, none⟩) n cap] 22))) := bel_alloc (bel_alloc (Below.refl _ _))
  obtain ⟨W0, hW0⟩ : ∃ W0, ((w.alloc (.cells #[.bool false] 4)).alloc (.cells #[.slice (some ⟨b, off, none⟩) n cap] 22)) = W0 := ⟨_, rfl⟩
  have hsz : W0.heap.size = w.heap.size + 1 + 1 := by rw [← hW0]; simp
  rw [hW0] at BO BX X1 ⊢
  clear hW0
  have hl1 : ∀ j, j < n → W0.cell? ⟨b, off + j * 2, none⟩ = some (.int .i64 (gX l j)) ∧ W0.cell? ⟨b, off + j * 2 + 1, none⟩ = some (.int .i64 (gR l j)) := fun j hj => by rw [(bcell X1.out).1 _ _ hb, (bcell X1.out).1 _ _ hb]; exact hc.out j hj
  refine wpIn_rangeFunc_ownH rfl (by omega) (gf := 94) (lb := #[.pointer (some ⟨w.heap.size + 1, 0, none⟩)]) rfl trivial (enters_of Tryz.func94 (by kernel_rfl) rfl)
    (pieces_stops 9 (w.heap.size + 1) w.heap.size b off n cap l (by omega) (by omega) hb W0 X1.out.size BX.out.cell hl1) kpB_t (kpB_b X1.out.size) (Below.refl _ _) (fun _ => rfl)
    (fun pre W => (∀ j ∈ pre, gX l j.val < gX l (j.val + 1)) ∧ Boxed W w.heap.size 4 (.bool false) ∧ Boxed W (w.heap.size + 1) 22 (.slice (some ⟨b, off, none⟩) n cap) ∧ Below w.heap.size w W)
    (fun c pre W => c = .ret ∧ (∃ j ∈ pre, ¬ gX l j.val < gX l (j.val + 1)) ∧ W.cell? ⟨w.heap.size, 0, none⟩ = some (.bool false) ∧ Below w.heap.size w W)
    (fun s A B row ⟨i1, i2, i3, i4⟩ hg hr => ⟨i1, i2.kept hg (fun e => by obtain ⟨o, h3, h4⟩ := (hr _ e.symm).2; rw [show A.heap[w.heap.size]? = _ from i2] at h3; cases h3; cases h4), i3.kept hg (fun e => by obtain ⟨o, h3, h4⟩ := (hr _ e.symm).2; rw [show A.heap[w.heap.size + 1]? = _ from i3] at h3; cases h3; cases h4), ownFrom_below (β := Unit) (Nat.le_refl _) X1.out.size () A B row i4 hg hr⟩)
    (fun c s A B row ⟨i1, i2, i3, i4⟩ hg hr => ⟨i1, i2, cell_kept i3 hg (fun r e => (hr r e).2), ownFrom_below (β := Unit) (Nat.le_refl _) X1.out.size () A B row i4 hg hr⟩)
    ⟨(fun j hj => by cases hj), BO.out, BX.out, X1.out⟩
    (fun x a' W => ∃ Bx : Nat, w.heap.size + 1 < Bx ∧ Four Bx W (.int .i64 (gX l x.val)) (.int .i64 (gR l x.val)) (.int .i64 (gX l (x.val + 1))) (.int .i64 (gR l (x.val + 1))) ∧ a' = { tmps := #[.slice (some ⟨b, off, none⟩) n cap, undef, .pointer (some ⟨w.heap.size, 0, none⟩), undef, .pointer (some ⟨Bx, 0, none⟩), .slice (some ⟨b, off, none⟩) n cap, .func (.func 94) #[] #[.pointer (some ⟨w.heap.size + 1, 0, none⟩)], .int .i64 ((x.val : Int) + 1), .agg #[.int .i64 (gX l x.val), .int .i64 (gR l x.val), .int .i64 (gX l (x.val + 1)), .int .i64 (gR l (x.val + 1))], undef, undef, undef, undef, undef, undef, undef, undef, undef, undef, undef, undef], defers := [] })
    (fun x a' _ A B row ⟨Bx, h1, h2, h3⟩ hg hr => ⟨Bx, h1, four_kept h2 hg (fun r e => (hr r e).2), h3⟩) ?assign ?body ?done ?stop
  case assign =>
    rintro lp pre x W K ⟨i1, i2, i3, i4⟩ hK
    dsimp only [encP]
    generalize gX l x.val = u at *
    generalize gR l x.val = p at *
    generalize gX l (x.val + 1) = v at *
    generalize gR l (x.val + 1) = q at *
    gi_wp2
    exact hK _ _ ((KeepsOthers.alloc _ _).from _) ⟨(Below.refl _ W).alloc i4.size _, fun v e => (cell_al _ e)⟩ ⟨i1, i2.alloc _, i3.alloc _, bA i4 _⟩ ⟨W.heap.size, i3.lt, Four.new _ _ _ _ _ _, rfl⟩
  case body =>
    rintro lp pre x aa W hlp ⟨rr, hrr⟩ ⟨i1, i2, i3, i4⟩ ⟨Bx, hBx, iX, rfl⟩ hlen
    have hxl := x.isLt
    by_cases hq : gX l x.val < gX l (x.val + 1)
    · have e1 : ∀ j ∈ pre ++ [x], gX l j.val < gX l (j.val + 1) := fun j hj => by
        rcases List.mem_append.1 hj with h | h
        · exact i1 j h
        · rw [List.mem_singleton.1 h]; exact hq
      generalize gX l x.val = u at *
      generalize gR l x.val = p at *
      generalize gX l (x.val + 1) = v at *
      generalize gR l (x.val + 1) = q at *
      obtain ⟨f0, f1, f2, f3⟩ := iX
      gi_wp2
      exact ⟨(KeepsOthers.refl _).from _, kpB_refl _ _ _, e1, i2, i3, i4⟩
    · have e1 : ∃ j ∈ pre ++ [x], ¬ gX l j.val < gX l (j.val + 1) := ⟨x, by simp, hq⟩
      generalize gX l x.val = u at *
      generalize gR l x.val = p at *
      generalize gX l (x.val + 1) = v at *
      generalize gR l (x.val + 1) = q at *
      obtain ⟨f0, f1, f2, f3⟩ := iX
      have hc2 := i2.cell
      have hf2 := i2.frozen
      gi_wp2
      exact ⟨(KeepsOthers.setCell _ _ _).from _, rfl, e1, World.cell?_setCell_same _ _ _ hc2, i4.setCell (p := ⟨w.heap.size, 0, none⟩) (Nat.le_refl _) _⟩
  case done =>
    rintro D ys W hD rfl ⟨i1, i2, i3, i4⟩ hK
    have hA := h1.out (fun j hj => i1 ⟨j, by omega⟩ (by
      have hv := ups_val (m := n - 1) (Nat.le_refl _)
      have : j ∈ (ups (n - 1) (n - 1)).map (fun j => j.val) := by rw [hv]; exact List.mem_range.2 (by omega)
      obtain ⟨y, hy, he⟩ := List.mem_map.1 this
      have : y = ⟨j, by omega⟩ := Fin.ext he
      rwa [this] at hy))
    have c0 : W.cell? ⟨b, off + 0 * 2, none⟩ = some (.int .i64 (gX l 0)) := by rw [(bcell i4).1 _ _ hb]; exact (hc.out 0 (by omega)).1
    rw [Nat.zero_mul, Nat.add_zero] at c0
    have hc2 := i2.cell
    have hf2 := i2.frozen
    subst hA
    obtain ⟨x0, hx0⟩ : ∃ x0, gX l 0 = x0 := ⟨_, rfl⟩
    rw [hx0] at c0
    cases hx : (x0 == 0) with
    | true =>
      gi_wp2
      have hK' := (KeepsOthers.setCell W ⟨w.heap.size, 0, none⟩ (.bool true)).same D _ hK rfl
      refine ⟨by simp, .inl ⟨_, _, rfl, run_takeDeferred hK', ?_⟩⟩
      have hc5 := cell_kept (World.cell?_setCell_same W ⟨w.heap.size, 0, none⟩ (.bool true) hc2) (grownBy_putObj' _ D (.deferred none)) (fun r e => by cases e; exact ⟨_, hK', rfl⟩)
      refine ⟨.bool true, ?_, by first | rfl | rw [hx0, hx], (i4.setCell (p := ⟨w.heap.size, 0, none⟩) (Nat.le_refl _) _).trans (belowK_b (w := w) (Nat.le_refl _) _ D _ _ (by omega) hK' rfl rfl)⟩
      simp [results, Tryz.results70, go_sem, hc5]
    | false =>
      gi_wp2
      have hK' := (KeepsOthers.setCell W ⟨w.heap.size, 0, none⟩ (.bool false)).same D _ hK rfl
      refine ⟨by simp, .inl ⟨_, _, rfl, run_takeDeferred hK', ?_⟩⟩
      have hc5 := cell_kept (World.cell?_setCell_same W ⟨w.heap.size, 0, none⟩ (.bool false) hc2) (grownBy_putObj' _ D (.deferred none)) (fun r e => by cases e; exact ⟨_, hK', rfl⟩)
      refine ⟨.bool false, ?_, by first | rfl | rw [hx0, hx], (i4.setCell (p := ⟨w.heap.size, 0, none⟩) (Nat.le_refl _) _).trans (belowK_b (w := w) (Nat.le_refl _) _ D _ _ (by omega) hK' rfl rfl)⟩
      simp [results, Tryz.results70, go_sem, hc5]
  case stop =>
    rintro D cc pre W hD _ ⟨rfl, ⟨j, _, hj⟩, i3, i4⟩ hK
    have hjl := j.isLt
    have hA := h2.out ⟨j.val, by omega, by omega⟩
    subst hA
    gi_wp2
    refine ⟨by simp, .inl ⟨_, _, rfl, run_takeDeferred hK, ?_⟩⟩
    have hc5 := cell_kept i3 (grownBy_putObj' _ D (.deferred none)) (fun r e => by cases e; exact ⟨_, hK, rfl⟩)
    refine ⟨.bool false, ?_, rfl, i4.trans (belowK_b (w := w) (Nat.le_refl _) _ D _ _ (by omega) hK rfl rfl)⟩
    simp [results, Tryz.results70, go_sem, hc5]
end Go.Proofs.YtmdpdpbkbakidaaGreat

/- Package profile: swells. -/
namespace Go.Proofs.YtmdpdpbkbakidaaGreat
open Go.RowKit Go.Shelf
attribute [local go_sem] Oper.semAt_some

theorem box_kept {A B : World} {row : Option Nat} {g : Nat} {t : TypeId} {v : Value} (h : Boxed A g t v) (hg : A.grownBy B row) (hr : ∀ r, row = some r → ∃ o : Obj, A.heap[r]? = some o ∧ o.isCells = false) : Boxed B g t v :=
  h.kept hg (fun e => by obtain ⟨o, h3, h4⟩ := hr _ e.symm; rw [show A.heap[g]? = _ from h] at h3; cases h3; cases h4)
/-- whether some pieces fall, and whether one rises behind one that falls -/
def stP (l : List (Int × Int)) {m : Nat} (pre : List (Fin m)) : Bool × Bool := pre.foldl (fun s j => (s.1 || decide (gR l (j.val + 1) < gR l j.val), s.2 || (s.1 && decide (gR l j.val < gR l (j.val + 1))))) (false, false)
theorem stP_snoc (l : List (Int × Int)) {m : Nat} (pre : List (Fin m)) (j : Fin m) : stP l (pre ++ [j]) = ((stP l pre).1 || decide (gR l (j.val + 1) < gR l j.val), (stP l pre).2 || ((stP l pre).1 && decide (gR l j.val < gR l (j.val + 1)))) := by
  unfold stP; rw [List.foldl_append]; rfl
theorem stP_all (l : List (Int × Int)) {m : Nat} (k : Nat) (h : k ≤ m) : stP l (ups m k) = (fal l k, swl l k) := by
  induction k with
  | zero => rfl
  | succ k ih => rw [ups_succ (by omega), stP_snoc, ih (by omega)]; rfl

set_option maxRecDepth 100000 in
set_option maxHeartbeats 8000000 in
theorem swells_some (b off n cap : Nat) (l : List (Int × Int)) (S : Bool) (w : World) (n0 : 1 ≤ n) (n1 : n ≤ 1000) (hb : b < w.heap.size)
    (hc : Hid (∀ j, j < n → w.cell? ⟨b, off + j * 2, none⟩ = some (.int .i64 (gX l j)) ∧ w.cell? ⟨b, off + j * 2 + 1, none⟩ = some (.int .i64 (gR l j))))
    (hS : Hid (swl l (n - 1) = S)) :
    Calls Tryz.prog 72 #[.slice (some ⟨b, off, none⟩) n cap] w fun e w' => e = .returned (.bool S) ∧ Below w.heap.size w w' := by
  refine (callsIn_wide (n := 10)).1 ?_
  refine callsIn_of_wp_marks Tryz.func72 rfl trivial ?_ rfl
  simp only [Tryz.ntmps72, List.size_toArray, List.length_cons, List.length_nil, Nat.reduceAdd, Nat.reduceSub, Array.replicate_succ, Array.replicate_zero, List.push_toArray, List.append_toArray, List.nil_append, List.cons_append]
  gi_wp2_with fail
  refine ⟨trivial, (callsIn_wide.2 (pieces_any _ _ _ _)).mono ?_⟩
  rintro e w3 ⟨rfl, rfl⟩
  gi_wp2_with fail
  have BO : Hid (Boxed (w.alloc (.cells #[.bool false] 4)) w.heap.size 4 (.bool false)) := Boxed.new w 4 (.bool false)
  have BF : Hid (Boxed ((w.alloc (.cells #[.bool false] 4)).alloc (.cells #[.bool false] 4)) (w.heap.size + 1) 4 (.bool false)) := by
    have := Boxed.new (w.alloc (.cells #[.bool false] 4)) 4 (.bool false)
    rwa [World.size_alloc] at this
  have BX : Hid (Boxed (((w.alloc (.cells #[.bool false] 4)).alloc (.cells #[.bool false] 4)).alloc (.cells #[.slice (some ⟨b, off, none⟩) n cap] 22)) (w.heap.size + 1 + 1) 22 (.slice (some ⟨b, off, none⟩) n cap)) := by
    have := Boxed.new ((w.alloc (.cells #[.bool false] 4)).alloc (.cells #[.bool false] 4)) 22 (.slice (some ⟨b, off, none⟩) n cap)
    rwa [World.size_alloc, World.size_alloc] at this
  replace BO := Lib.hid ((BO.out.alloc (.cells #[.bool false] 4)).alloc (.cells #[.slice (some ⟨b, off, none⟩) n cap] 22))
  replace BF := Lib.hid (BF.out.alloc (.cells #[.slice (some ⟨b, off, none⟩) n cap] 22))
  have X1 : Hid (Below w.heap.size w (((w.alloc (.cells #[.bool false] 4)).alloc (.cells #[.bool false] 4)).alloc (.cells #[.slice (some ⟨b, off, none⟩) n cap] 22))) := bel_alloc (bel_alloc (bel_alloc (Below.refl _ _)))
  obtain ⟨W0, hW0⟩ : ∃ W0, (((w.alloc (.cells #[.bool false] 4)).alloc (.cells #[.bool false] 4)).alloc (.cells #[.slice (some ⟨b, off, none⟩) n cap] 22)) = W0 := ⟨_, rfl⟩
  have hsz : W0.heap.size = w.heap.size + 1 + 1 + 1 := by rw [← hW0]; simp
  rw [hW0] at BO BF BX X1 ⊢
  clear hW0
  have hl1 : ∀ j, j < n → W0.cell? ⟨b, off + j * 2, none⟩ = some (.int .i64 (gX l j)) ∧ W0.cell? ⟨b, off + j * 2 + 1, none⟩ = some (.int .i64 (gR l j)) := fun j hj => by rw [(bcell X1.out).1 _ _ hb, (bcell X1.out).1 _ _ hb]; exact hc.out j hj
  refine wpIn_rangeFunc_ownH rfl (by omega) (gf := 94) (lb := #[.pointer (some ⟨w.heap.size + 1 + 1, 0, none⟩)]) rfl trivial (enters_of Tryz.func94 (by kernel_rfl) rfl)
    (pieces_stops 9 (w.heap.size + 1 + 1) w.heap.size b off n cap l (by omega) (by omega) hb W0 X1.out.size BX.out.cell hl1) kpB_t (kpB_b X1.out.size) (Below.refl _ _) (fun _ => rfl)
    (fun pre W => (stP l pre).2 = false ∧ Boxed W w.heap.size 4 (.bool false) ∧ Boxed W (w.heap.size + 1) 4 (.bool (stP l pre).1) ∧ Boxed W (w.heap.size + 1 + 1) 22 (.slice (some ⟨b, off, none⟩) n cap) ∧ Below w.heap.size w W)
    (fun c pre W => c = .ret ∧ (stP l pre).2 = true ∧ W.cell? ⟨w.heap.size, 0, none⟩ = some (.bool true) ∧ Below w.heap.size w W)
    (fun s A B row ⟨i1, i2, i3, i4, i5⟩ hg hr => ⟨i1, box_kept i2 hg (fun r e => (hr r e).2), box_kept i3 hg (fun r e => (hr r e).2), box_kept i4 hg (fun r e => (hr r e).2), ownFrom_below (β := Unit) (Nat.le_refl _) X1.out.size () A B row i5 hg hr⟩)
    (fun c s A B row ⟨i1, i2, i3, i4⟩ hg hr => ⟨i1, i2, cell_kept i3 hg (fun r e => (hr r e).2), ownFrom_below (β := Unit) (Nat.le_refl _) X1.out.size () A B row i4 hg hr⟩)
    ⟨rfl, BO.out, BF.out, BX.out, X1.out⟩
    (fun x a' W => ∃ Bx : Nat, w.heap.size + 1 + 1 < Bx ∧ Four Bx W (.int .i64 (gX l x.val)) (.int .i64 (gR l x.val)) (.int .i64 (gX l (x.val + 1))) (.int .i64 (gR l (x.val + 1))) ∧ a' = { tmps := #[.slice (some ⟨b, off, none⟩) n cap, undef, .pointer (some ⟨w.heap.size, 0, none⟩), .pointer (some ⟨w.heap.size + 1, 0, none⟩), undef, .pointer (some ⟨Bx, 0, none⟩), .slice (some ⟨b, off, none⟩) n cap, .func (.func 94) #[] #[.pointer (some ⟨w.heap.size + 1 + 1, 0, none⟩)], .int .i64 ((x.val : Int) + 1), .agg #[.int .i64 (gX l x.val), .int .i64 (gR l x.val), .int .i64 (gX l (x.val + 1)), .int .i64 (gR l (x.val + 1))], undef, undef, undef, undef, undef, undef, undef, undef, undef, undef, undef, undef, undef, undef, undef, undef, undef, undef, undef, undef], defers := [] })
    (fun x a' _ A B row ⟨Bx, h1, h2, h3⟩ hg hr => ⟨Bx, h1, four_kept h2 hg (fun r e => (hr r e).2), h3⟩) ?assign ?body ?done ?stop
  case assign =>
    rintro lp pre x W K ⟨i1, i2, i3, i4, i5⟩ hK
    dsimp only [encP]
    generalize gX l x.val = u at *
    generalize gR l x.val = p at *
    generalize gX l (x.val + 1) = v at *
    generalize gR l (x.val + 1) = q at *
    gi_wp2
    exact hK _ _ ((KeepsOthers.alloc _ _).from _) ⟨(Below.refl _ W).alloc i5.size _, fun v e => (cell_al _ e)⟩ ⟨i1, i2.alloc _, i3.alloc _, i4.alloc _, bA i5 _⟩ ⟨W.heap.size, i4.lt, Four.new _ _ _ _ _ _, rfl⟩
  case body =>
    rintro lp pre x aa W hlp ⟨rr, hrr⟩ ⟨i1, i2, i3, i4, i5⟩ ⟨Bx, hBx, iX, rfl⟩ hlen
    have es := stP_snoc l pre x
    have hf := i2.frozen
    have hc2 := i2.cell
    have hf3 := i3.frozen
    have hc3 := i3.cell
    rw [i1] at es
    generalize stP l pre = s at *
    obtain ⟨s1, s2⟩ := s
    dsimp only at *
    generalize gX l x.val = u at *
    generalize gR l x.val = p at *
    generalize gX l (x.val + 1) = v at *
    generalize gR l (x.val + 1) = q at *
    obtain ⟨f0, f1, f2, f3⟩ := iX
    have hn1 : w.heap.size + 1 ≠ w.heap.size := by omega
    have hn2 : w.heap.size + 1 + 1 ≠ w.heap.size := by omega
    have hn3 : w.heap.size + 1 + 1 ≠ w.heap.size + 1 := by omega
    have hle : w.heap.size ≤ w.heap.size + 1 := by omega
    by_cases g1 : p < q
    · have g2 : ¬ q < p := by omega
      have d1 : decide (p < q) = true := decide_eq_true g1
      have d2 : decide (q < p) = false := decide_eq_false g2
      rw [d1, d2] at es
      cases s1 with
      | true =>
        gi_wp2
        exact ⟨(KeepsOthers.setCell _ _ _).from _, rfl, by rw [es]; rfl, World.cell?_setCell_same _ _ _ hc2, i5.setCell (p := ⟨w.heap.size, 0, none⟩) (Nat.le_refl _) _⟩
      | false =>
        gi_wp2
        exact ⟨(KeepsOthers.setCell _ _ _).from _, ⟨(Below.refl _ W).setCell (p := ⟨w.heap.size + 1, 0, none⟩) hle _, fun v e => cell_apart _ e hn3⟩, by rw [es]; rfl, i2.other (by omega) _, by rw [es]; exact i3.set _, i4.other hn3 _, i5.setCell (p := ⟨w.heap.size + 1, 0, none⟩) hle _⟩
    · by_cases g2 : q < p
      · have d1 : decide (p < q) = false := decide_eq_false g1
        have d2 : decide (q < p) = true := decide_eq_true g2
        rw [d1, d2] at es
        cases s1 with
        | true =>
          gi_wp2
          exact ⟨(KeepsOthers.setCell _ _ _).from _, ⟨(Below.refl _ W).setCell (p := ⟨w.heap.size + 1, 0, none⟩) hle _, fun v e => cell_apart _ e hn3⟩, by rw [es]; rfl, i2.other (by omega) _, by rw [es]; exact i3.set _, i4.other hn3 _, i5.setCell (p := ⟨w.heap.size + 1, 0, none⟩) hle _⟩
        | false =>
          gi_wp2
          exact ⟨(KeepsOthers.setCell _ _ _).from _, ⟨(Below.refl _ W).setCell (p := ⟨w.heap.size + 1, 0, none⟩) hle _, fun v e => cell_apart _ e hn3⟩, by rw [es]; rfl, i2.other (by omega) _, by rw [es]; exact i3.set _, i4.other hn3 _, i5.setCell (p := ⟨w.heap.size + 1, 0, none⟩) hle _⟩
      · obtain rfl : p = q := by omega
        have d1 : decide (p < p) = false := decide_eq_false g1
        rw [d1] at es
        cases s1 with
        | true =>
          gi_wp2
          exact ⟨(KeepsOthers.setCell _ _ _).from _, ⟨(Below.refl _ W).setCell (p := ⟨w.heap.size + 1, 0, none⟩) hle _, fun v e => cell_apart _ e hn3⟩, by rw [es]; rfl, i2.other (by omega) _, by rw [es]; exact i3.set _, i4.other hn3 _, i5.setCell (p := ⟨w.heap.size + 1, 0, none⟩) hle _⟩
        | false =>
          gi_wp2
          exact ⟨(KeepsOthers.setCell _ _ _).from _, ⟨(Below.refl _ W).setCell (p := ⟨w.heap.size + 1, 0, none⟩) hle _, fun v e => cell_apart _ e hn3⟩, by rw [es]; rfl, i2.other (by omega) _, by rw [es]; exact i3.set _, i4.other hn3 _, i5.setCell (p := ⟨w.heap.size + 1, 0, none⟩) hle _⟩
  case done =>
    rintro D ys W hD rfl ⟨i1, i2, i3, i4, i5⟩ hK
    rw [stP_all l (n - 1) (Nat.le_refl _)] at i1
    obtain rfl : S = false := by rw [← hS.out]; exact i1
    have hc2 := i2.cell
    have hf2 := i2.frozen
    gi_wp2
    have hK' := (KeepsOthers.setCell W ⟨w.heap.size, 0, none⟩ (.bool false)).same D _ hK rfl
    refine ⟨by simp, .inl ⟨_, _, rfl, run_takeDeferred hK', ?_⟩⟩
    have hc5 := cell_kept (World.cell?_setCell_same W ⟨w.heap.size, 0, none⟩ (.bool false) hc2) (grownBy_putObj' _ D (.deferred none)) (fun r e => by cases e; exact ⟨_, hK', rfl⟩)
    refine ⟨.bool false, ?_, rfl, (i5.setCell (p := ⟨w.heap.size, 0, none⟩) (Nat.le_refl _) _).trans (belowK_b (w := w) (Nat.le_refl _) _ D _ _ (by omega) hK' rfl rfl)⟩
    simp [results, Tryz.results72, go_sem, hc5]
  case stop =>
    rintro D cc pre W hD ⟨k, hk, rfl⟩ ⟨rfl, i2, i3, i4⟩ hK
    rw [stP_all l k hk] at i2
    obtain rfl : S = true := by
      rw [← hS.out]
      obtain ⟨i, j, h1, h2, h3⟩ := (swl_iff _ _).1 i2
      exact (swl_iff _ _).2 ⟨i, j, h1, by omega, h3⟩
    gi_wp2
    refine ⟨by simp, .inl ⟨_, _, rfl, run_takeDeferred hK, ?_⟩⟩
    have hc5 := cell_kept i3 (grownBy_putObj' _ D (.deferred none)) (fun r e => by cases e; exact ⟨_, hK, rfl⟩)
    refine ⟨.bool true, ?_, rfl, i4.trans (belowK_b (w := w) (Nat.le_refl _) _ D _ _ (by omega) hK rfl rfl)⟩
    simp [results, Tryz.results72, go_sem, hc5]
end Go.Proofs.YtmdpdpbkbakidaaGreat

/- Package profile: lengths; points that are out, or closed; whether a list contains one. -/
namespace Go.Proofs.YtmdpdpbkbakidaaGreat
open Go.RowKit

theorem isLen_any (n : Int) (w : World) : Calls Tryz.prog 82 #[.int .i64 n] w fun e w' => e = .returned (.bool (lenB n)) ∧ w = w' := by
  by_cases h0 : 0 ≤ n <;> by_cases h1 : n ≤ 100000
  all_goals
    go_enter Tryz.func82, Tryz.ntmps82
    go_wp2
    go_ret
    exact ⟨by simp [lenB, h0, h1], rfl⟩
theorem isOut_any (x r : Int) (w : World) : Calls Tryz.prog 69 #[.agg #[.int .i64 x, .int .i64 r]] w fun e w' => e = .returned (.bool (ptOut (x, r))) ∧ Below w.heap.size w w' := by
  have H1 := Lib.hid (fun W => isLen_any x W)
  have H2 := Lib.hid (fun W => isLen_any r W)
  cases h : lenB x with
  | false =>
    rw [h] at H1
    have e : ptOut (x, r) = true := by simp [ptOut, h]
    rw [e]
    go_enter Tryz.func69, Tryz.ntmps69
    go_wp2_with fail
    refine (H1.out _).mono ?_
    rintro e w1 ⟨rfl, hw⟩
    subst hw
    go_wp2
    go_ret
    exact ⟨rfl, bel_alloc (Below.refl _ _)⟩
  | true =>
    rw [h] at H1
    cases h2 : lenB r with
    | false =>
      rw [h2] at H2
      have e : ptOut (x, r) = true := by simp [ptOut, h2]
      rw [e]
      go_enter Tryz.func69, Tryz.ntmps69
      go_wp2_with fail
      refine (H1.out _).mono ?_
      rintro e w1 ⟨rfl, hw⟩
      subst hw
      go_wp2_with fail
      refine (H2.out _).mono ?_
      rintro e w1 ⟨rfl, hw⟩
      subst hw
      go_wp2
      go_ret
      exact ⟨rfl, bel_alloc (Below.refl _ _)⟩
    | true =>
      rw [h2] at H2
      have e : ptOut (x, r) = false := by simp [ptOut, h, h2]
      rw [e]
      go_enter Tryz.func69, Tryz.ntmps69
      go_wp2_with fail
      refine (H1.out _).mono ?_
      rintro e w1 ⟨rfl, hw⟩
      subst hw
      go_wp2_with fail
      refine (H2.out _).mono ?_
      rintro e w1 ⟨rfl, hw⟩
      subst hw
      go_wp2
      go_ret
      exact ⟨rfl, bel_alloc (Below.refl _ _)⟩
theorem isCl_any (x r : Int) (w : World) : Calls Tryz.prog 71 #[.agg #[.int .i64 x, .int .i64 r]] w fun e w' => e = .returned (.bool (ptCl (x, r))) ∧ Below w.heap.size w w' := by
  cases h : (r == 0) with
  | false =>
    have e : ptCl (x, r) = false := by simp only [ptCl, h]
    rw [e]
    go_enter Tryz.func71, Tryz.ntmps71
    go_wp2
    go_ret
    exact ⟨rfl, bel_alloc (Below.refl _ _)⟩
  | true =>
    have e : ptCl (x, r) = true := by simp only [ptCl, h]
    rw [e]
    go_enter Tryz.func71, Tryz.ntmps71
    go_wp2
    go_ret
    exact ⟨rfl, bel_alloc (Below.refl _ _)⟩

/-- the index of the first point of a kind -/
theorem index_some (f : Nat) (p : Int × Int → Bool) (hp : Hid (∀ x r W, Calls Tryz.prog f #[.agg #[.int .i64 x, .int .i64 r]] W fun e w' => e = .returned (.bool (p (x, r))) ∧ Below W.heap.size W w'))
    (eg : ∀ args w, (callFunc f args).run Tryz.prog w = .ok (.enter f args) w)
    (b off n cap : Nat) (l : List (Int × Int)) (B : Bool) (w : World) (n1 : n ≤ 1000) (hb : b < w.heap.size)
    (hc : Hid (∀ j, j < n → w.cell? ⟨b, off + j * 2, none⟩ = some (.int .i64 (gX l j)) ∧ w.cell? ⟨b, off + j * 2 + 1, none⟩ = some (.int .i64 (gR l j))))
    (h1 : Hid ((∃ j, j < n ∧ p (gX l j, gR l j) = true) → B = true)) (h2 : Hid ((∀ j, j < n → p (gX l j, gR l j) = false) → B = false)) :
    Calls Tryz.prog 58 #[.slice (some ⟨b, off, none⟩) n cap, .func (.func f) #[] #[]] w fun e w' => ∃ k : Int, e = .returned (.int .i64 k) ∧ decide (0 ≤ k) = B ∧ Below w.heap.size w w' := by
  go_enter Tryz.func58, Tryz.ntmps58
  go_wp2_with fail
  go_loopw [5, 8] (fun _ i wr => ∃ k : Nat, k ≤ n ∧ i = .int .i64 k ∧ Hid (Below w.heap.size w wr) ∧ Hid (∀ j, j < k → p (gX l j, gR l j) = false)) (fun _ i _ => n - (intOf i).toNat)
  case atStart => exact ⟨0, Nat.zero_le _, rfl, Below.refl _ _, fun j hj => by omega⟩
  case round =>
    obtain ⟨k, hk, rfl, hB, ha⟩ := hrel
    by_cases hlt : k < n
    · have c0 : wr.cell? ⟨b, off + k * 2, none⟩ = some (.int .i64 (gX l k)) := by rw [(bcell hB.out).1 _ _ hb]; exact (hc.out k hlt).1
      have c1 : wr.cell? ⟨b, off + k * 2 + 1, none⟩ = some (.int .i64 (gR l k)) := by rw [(bcell hB.out).1 _ _ hb]; exact (hc.out k hlt).2
      have HP := Lib.hid (fun W => hp.out (gX l k) (gR l k) W)
      cases hq : p (gX l k, gR l k) with
      | true =>
        have hBt := h1.out ⟨k, hlt, hq⟩
        rw [hq] at HP
        generalize gX l k = x at *
        generalize gR l k = r at *
        go_wp2_with fail
        refine (HP.out _).mono ?_
        rintro e w2 ⟨rfl, gg⟩
        have X := Lib.hid (bel_trans hB.out gg); clear gg
        go_wp2
        go_returns
        exact ⟨k, rfl, by rw [hBt]; simp, X.out⟩
      | false =>
        have ha2 : Hid (∀ j, j < k + 1 → p (gX l j, gR l j) = false) := fun j hj => by
          by_cases e : j = k
          · rw [e]; exact hq
          · exact ha.out j (by omega)
        rw [hq] at HP
        clear hq ha
        generalize gX l k = x at c0 HP
        generalize gR l k = r at c1 HP
        go_wp2_with fail
        refine (HP.out _).mono ?_
        rintro e w2 ⟨rfl, gg⟩
        have X := Lib.hid (bel_trans hB.out gg); clear gg
        go_wp2
        go_roundw
        case rel => exact ⟨k + 1, by omega, by go_num, X, ha2⟩
        case measure => simp [intOf]; omega
    · obtain rfl : k = n := by omega
      have hBf := h2.out ha.out
      go_wp2
      go_returns
      exact ⟨-1, rfl, by rw [hBf]; simp, hB.out⟩
theorem contains_some (f : Nat) (p : Int × Int → Bool) (hp : Hid (∀ x r W, Calls Tryz.prog f #[.agg #[.int .i64 x, .int .i64 r]] W fun e w' => e = .returned (.bool (p (x, r))) ∧ Below W.heap.size W w'))
    (eg : ∀ args w, (callFunc f args).run Tryz.prog w = .ok (.enter f args) w)
    (b off n cap : Nat) (l : List (Int × Int)) (w : World) (hl : n = l.length) (n1 : n ≤ 1000) (hb : b < w.heap.size)
    (hc : Hid (∀ j, j < n → w.cell? ⟨b, off + j * 2, none⟩ = some (.int .i64 (gX l j)) ∧ w.cell? ⟨b, off + j * 2 + 1, none⟩ = some (.int .i64 (gR l j)))) :
    Calls Tryz.prog 39 #[.slice (some ⟨b, off, none⟩) n cap, .func (.func f) #[] #[]] w fun e w' => e = .returned (.bool (l.any p)) ∧ Below w.heap.size w w' := by
  have HI := Lib.hid (index_some f p hp eg b off n cap l (l.any p) w n1 hb hc (fun ⟨j, hj, h⟩ => any_of (by omega) h) (fun h => any_not fun i hi => h i (by omega)))
  generalize l.any p = B at *
  clear eg hp hc hl
  go_enter Tryz.func39, Tryz.ntmps39
  go_wp2_with fail
  refine HI.out.mono ?_
  rintro e w1 ⟨k, rfl, hk, hb⟩
  have HB := Lib.hid hb; clear hb
  subst hk
  go_wp2
  all_goals
    go_ret
    exact ⟨by simp_all, HB.out⟩
end Go.Proofs.YtmdpdpbkbakidaaGreat

/- Package profile: Check, end. -/
namespace Go.Proofs.YtmdpdpbkbakidaaGreat
open Go.RowKit

theorem ck_few (a : Option Addr) (n cap : Nat) (w : World) (h : n < 2) :
    Calls Tryz.prog 51 #[.slice a n cap] w fun e w' => e = .returned (.int .i64 9) ∧ Below w.heap.size w w' := by
  go_enter Tryz.func51, Tryz.ntmps51
  go_wp2
  go_returns
  exact ⟨rfl, Below.refl _ _⟩
theorem ck_many (a : Option Addr) (n cap : Nat) (w : World) (h : 32 < n) (h2 : n ≤ 9223372036854775807) :
    Calls Tryz.prog 51 #[.slice a n cap] w fun e w' => e = .returned (.int .i64 8) ∧ Below w.heap.size w w' := by
  go_enter Tryz.func51, Tryz.ntmps51
  go_wp2
  go_returns
  exact ⟨rfl, Below.refl _ _⟩
set_option maxHeartbeats 4000000 in
theorem ck_some (b off n cap : Nat) (O A C S : Bool) (w : World) (n0 : 2 ≤ n) (n1 : n ≤ 32)
    (H1 : Hid (∀ W, Below w.heap.size w W → Calls Tryz.prog 39 #[.slice (some ⟨b, off, none⟩) n cap, .func (.func 69) #[] #[]] W fun e w' => e = .returned (.bool O) ∧ Below W.heap.size W w'))
    (H2 : Hid (∀ W, Below w.heap.size w W → Calls Tryz.prog 70 #[.slice (some ⟨b, off, none⟩) n cap] W fun e w' => e = .returned (.bool A) ∧ Below W.heap.size W w'))
    (H3 : Hid (∀ W, Below w.heap.size w W → Calls Tryz.prog 39 #[.slice (some ⟨b, off, none⟩) n cap, .func (.func 71) #[] #[]] W fun e w' => e = .returned (.bool C) ∧ Below W.heap.size W w'))
    (H4 : Hid (∀ W, Below w.heap.size w W → Calls Tryz.prog 72 #[.slice (some ⟨b, off, none⟩) n cap] W fun e w' => e = .returned (.bool S) ∧ Below W.heap.size W w')) :
    Calls Tryz.prog 51 #[.slice (some ⟨b, off, none⟩) n cap] w fun e w' => e = .returned (.int .i64 (if O = true then 2 else if A = false then 5 else if C = true then 16 else if S = true then 10 else 0)) ∧ Below w.heap.size w w' := by
  cases O with
  | true =>
    go_enter Tryz.func51, Tryz.ntmps51
    go_wp2_with fail
    refine (H1.out _ (Below.refl _ _)).mono ?_
    rintro e w1 ⟨rfl, gg⟩
    have X1 := Lib.hid gg; clear gg
    go_wp2
    go_returns
    exact ⟨rfl, X1.out⟩
  | false =>
    cases A with
    | false =>
      go_enter Tryz.func51, Tryz.ntmps51
      go_wp2_with fail
      refine (H1.out _ (Below.refl _ _)).mono ?_
      rintro e w1 ⟨rfl, gg⟩
      have X1 := Lib.hid gg; clear gg
      go_wp2_with fail
      refine (H2.out _ X1.out).mono ?_
      rintro e w2 ⟨rfl, gg⟩
      have X2 := Lib.hid (bel_trans X1.out gg); clear gg
      go_wp2
      go_returns
      exact ⟨rfl, X2.out⟩
    | true =>
      cases C with
      | true =>
        go_enter Tryz.func51, Tryz.ntmps51
        go_wp2_with fail
        refine (H1.out _ (Below.refl _ _)).mono ?_
        rintro e w1 ⟨rfl, gg⟩
        have X1 := Lib.hid gg; clear gg
        go_wp2_with fail
        refine (H2.out _ X1.out).mono ?_
        rintro e w2 ⟨rfl, gg⟩
        have X2 := Lib.hid (bel_trans X1.out gg); clear gg
        go_wp2_with fail
        refine (H3.out _ X2.out).mono ?_
        rintro e w3 ⟨rfl, gg⟩
        have X3 := Lib.hid (bel_trans X2.out gg); clear gg
        go_wp2
        go_returns
        exact ⟨rfl, X3.out⟩
      | false =>
        cases S with
        | true =>
          go_enter Tryz.func51, Tryz.ntmps51
          go_wp2_with fail
          refine (H1.out _ (Below.refl _ _)).mono ?_
          rintro e w1 ⟨rfl, gg⟩
          have X1 := Lib.hid gg; clear gg
          go_wp2_with fail
          refine (H2.out _ X1.out).mono ?_
          rintro e w2 ⟨rfl, gg⟩
          have X2 := Lib.hid (bel_trans X1.out gg); clear gg
          go_wp2_with fail
          refine (H3.out _ X2.out).mono ?_
          rintro e w3 ⟨rfl, gg⟩
          have X3 := Lib.hid (bel_trans X2.out gg); clear gg
          go_wp2_with fail
          refine (H4.out _ X3.out).mono ?_
          rintro e w4 ⟨rfl, gg⟩
          have X4 := Lib.hid (bel_trans X3.out gg); clear gg
          go_wp2
          go_returns
          exact ⟨rfl, X4.out⟩
        | false =>
          go_enter Tryz.func51, Tryz.ntmps51
          go_wp2_with fail
          refine (H1.out _ (Below.refl _ _)).mono ?_
          rintro e w1 ⟨rfl, gg⟩
          have X1 := Lib.hid gg; clear gg
          go_wp2_with fail
          refine (H2.out _ X1.out).mono ?_
          rintro e w2 ⟨rfl, gg⟩
          have X2 := Lib.hid (bel_trans X1.out gg); clear gg
          go_wp2_with fail
          refine (H3.out _ X2.out).mono ?_
          rintro e w3 ⟨rfl, gg⟩
          have X3 := Lib.hid (bel_trans X2.out gg); clear gg
          go_wp2_with fail
          refine (H4.out _ X3.out).mono ?_
          rintro e w4 ⟨rfl, gg⟩
          have X4 := Lib.hid (bel_trans X3.out gg); clear gg
          go_wp2
          go_returns
          exact ⟨rfl, X4.out⟩
theorem ck_any (v : Value) (l : List (Int × Int)) (w : World) (hv : Pts w v l) :
    Calls Tryz.prog 51 #[v] w fun e w' => e = .returned (.int .i64 (ckE l)) ∧ Below w.heap.size w w' := by
  obtain ⟨a, cap, rfl, hl, hh⟩ := hv
  by_cases h0 : l.length < 2
  · rw [show ckE l = 9 by unfold ckE; rw [if_pos h0]]
    exact ck_few a l.length cap w h0
  · by_cases h1 : 32 < l.length
    · rw [show ckE l = 8 by unfold ckE; rw [if_neg h0, if_pos h1]]
      exact ck_many a l.length cap w h1 (by omega)
    · rcases hh with hh | ⟨b, off, rfl, hb, hc⟩
      · omega
      · have hc2 : ∀ W, Below w.heap.size w W → ∀ j, j < l.length → W.cell? ⟨b, off + j * 2, none⟩ = some (.int .i64 (gX l j)) ∧ W.cell? ⟨b, off + j * 2 + 1, none⟩ = some (.int .i64 (gR l j)) := fun W hW j hj => by
          rw [(bcell hW).1 _ _ hb, (bcell hW).1 _ _ hb]; exact hc j hj
        have e : ckE l = (if l.any ptOut = true then 2 else if (adv l (l.length - 1) && (gX l 0 == 0)) = false then 5 else if l.any ptCl = true then 16 else if swl l (l.length - 1) = true then 10 else 0) := by unfold ckE; rw [if_neg h0, if_neg h1]
        rw [e]
        refine ck_some b off l.length cap _ _ _ _ w (by omega) (by omega) (fun W hW => ?_) (fun W hW => ?_) (fun W hW => ?_) (fun W hW => ?_)
        · exact contains_some 69 ptOut (Lib.hid fun x r W => isOut_any x r W) (enters_of Tryz.func69 (by kernel_rfl) rfl) b off l.length cap l W rfl (by omega) (Nat.lt_of_lt_of_le hb hW.size) (Lib.hid (hc2 W hW))
        · refine advances_some b off l.length cap l _ W (by omega) (by omega) (Nat.lt_of_lt_of_le hb hW.size) (Lib.hid (hc2 W hW)) (Lib.hid fun h => ?_) (Lib.hid fun ⟨j, hj, h⟩ => ?_)
          · rw [(adv_iff l _).2 (fun i hi => h i (by omega)), Bool.true_and]
          · have : adv l (l.length - 1) = false := by
              rw [Bool.eq_false_iff]
              intro ha
              exact h ((adv_iff l _).1 ha j (by omega))
            rw [this, Bool.false_and]
        · exact contains_some 71 ptCl (Lib.hid fun x r W => isCl_any x r W) (enters_of Tryz.func71 (by kernel_rfl) rfl) b off l.length cap l W rfl (by omega) (Nat.lt_of_lt_of_le hb hW.size) (Lib.hid (hc2 W hW))
        · exact swells_some b off l.length cap l _ W (by omega) (by omega) (Nat.lt_of_lt_of_le hb hW.size) (Lib.hid (hc2 W hW)) (Lib.hid rfl)

theorem end_any (b off n cap : Nat) (l : List (Int × Int)) (w : World) (n0 : 1 ≤ n) (n1 : n ≤ 1000)
    (hc : Hid (∀ j, j < n → w.cell? ⟨b, off + j * 2, none⟩ = some (.int .i64 (gX l j)) ∧ w.cell? ⟨b, off + j * 2 + 1, none⟩ = some (.int .i64 (gR l j)))) :
    Calls Tryz.prog 52 #[.slice (some ⟨b, off, none⟩) n cap] w fun e w' => e = .returned (.int .i64 (gX l (n - 1))) ∧ w' = w := by
  obtain ⟨m, rfl⟩ : ∃ m, n = m + 1 := ⟨n - 1, by omega⟩
  have c0 := (hc.out m (by omega)).1
  rw [show m + 1 - 1 = m by omega]
  generalize gX l m = x at *
  have wk : IntKind.i64.wrap ((m : Int) + 1 - 1) = (m : Int) := by simp only [IntKind.wrap_i64]; omega
  have wk2 : IntKind.i64.wrap (m : Int) = (m : Int) := by simp only [IntKind.wrap_i64]; omega
  go_enter Tryz.func52, Tryz.ntmps52
  go_wp2
  go_ret
  exact ⟨rfl, rfl⟩
theorem end_of {v : Value} {l : List (Int × Int)} {w : World} (hv : Pts w v l) (h : ckE l = 0) :
    Calls Tryz.prog 52 #[v] w fun e w' => e = .returned (.int .i64 (gX l (l.length - 1))) ∧ w' = w := by
  have hR := (ckE_iff l).1 h
  have n0 := hR.n0
  have n1 := hR.n1
  obtain ⟨a, cap, rfl, hl, hh⟩ := hv
  rcases hh with hh | ⟨b, off, rfl, hb, hc⟩
  · omega
  · exact end_any b off l.length cap l w (by omega) (by omega) (Lib.hid hc)
end Go.Proofs.YtmdpdpbkbakidaaGreat

/- Package cask: isName, isPosition, isVolume, Check. -/
namespace Go.Proofs.YtmdpdpbkbakidaaGreat
open Go.RowKit

theorem isPos_any (n : Int) (w : World) : Calls Tryz.prog 64 #[.int .i64 n] w fun e w' => e = .returned (.bool (decide (n = 1 ∨ n = 2))) ∧ w' = w := by
  by_cases h1 : n = 1
  · subst h1
    go_enter Tryz.func64, Tryz.ntmps64
    go_wp2
    go_returns
    exact ⟨rfl, rfl⟩
  · by_cases h2 : n = 2
    · subst h2
      go_enter Tryz.func64, Tryz.ntmps64
      go_wp2
      go_returns
      exact ⟨rfl, rfl⟩
    · rw [decide_eq_false (show ¬ (n = 1 ∨ n = 2) by omega)]
      have e1 : (n == 1) = false := by simpa using h1
      have e2 : (n == 2) = false := by simpa using h2
      clear h1 h2
      go_enter Tryz.func64, Tryz.ntmps64
      go_wp2
      go_returns
      exact ⟨rfl, rfl⟩
theorem isVol_any (n : Int) (w : World) : Calls Tryz.prog 65 #[.int .i64 n] w fun e w' => e = .returned (.bool (decide (0 ≤ n ∧ n ≤ 1073741824))) ∧ w' = w := by
  by_cases h1 : 0 ≤ n
  · by_cases h2 : n ≤ 1073741824
    · rw [decide_eq_true (show 0 ≤ n ∧ n ≤ 1073741824 by omega)]
      have e1 : decide (0 ≤ n) = true := decide_eq_true h1
      have e2 : decide (n ≤ 1073741824) = true := decide_eq_true h2
      clear h1 h2
      go_enter Tryz.func65, Tryz.ntmps65
      go_wp2
      go_returns
      exact ⟨rfl, rfl⟩
    · rw [decide_eq_false (show ¬ (0 ≤ n ∧ n ≤ 1073741824) by omega)]
      have e1 : decide (0 ≤ n) = true := decide_eq_true h1
      have e2 : decide (n ≤ 1073741824) = false := decide_eq_false h2
      clear h1 h2
      go_enter Tryz.func65, Tryz.ntmps65
      go_wp2
      go_returns
      exact ⟨rfl, rfl⟩
  · rw [decide_eq_false (show ¬ (0 ≤ n ∧ n ≤ 1073741824) by omega)]
    have e1 : decide (0 ≤ n) = false := decide_eq_false h1
    clear h1
    go_enter Tryz.func65, Tryz.ntmps65
    go_wp2
    go_returns
    exact ⟨rfl, rfl⟩
theorem isName_core (s : ByteArray) (A B : Bool) (w : World) (hs : s.size ≤ 9223372036854775807) (hA : Hid (s.data.toList.all nmC = A)) (hB : Hid (B = (A && decide (1 ≤ s.size) && decide (s.size ≤ 64))))
    (HC : Hid (∀ W, Calls Tryz.prog 80 #[.string s, .func (.func 81) #[] #[]] W fun e w' => e = .returned (.bool (!A)) ∧ Below W.heap.size W w')) :
    Calls Tryz.prog 63 #[.string s] w fun e w' => e = .returned (.bool B) ∧ Below w.heap.size w w' := by
  have hl : s.toList = s.data.toList := ByteArray.toList_eq s
  by_cases h0 : s.size = 0
  · have g1 : s.data.toList = [] := List.eq_nil_of_length_eq_zero (by simpa using h0)
    have g0 : s.toList.isEmpty = true := by rw [hl, g1]; rfl
    obtain rfl : B = false := by rw [hB.out]; simp [h0]
    clear hl g1 h0
    go_enter Tryz.func63, Tryz.ntmps63
    go_wp2
    go_returns
    exact ⟨rfl, Below.refl _ _⟩
  · have g0 : s.toList.isEmpty = false := by
      rw [hl]
      cases hh : s.data.toList with
      | nil => exact absurd (by have := congrArg List.length hh; simpa using this) h0
      | cons a b => rfl
    have g0' : (!s.toList.isEmpty) = true := by rw [g0]; rfl
    by_cases h1 : s.size ≤ 64
    · obtain rfl : B = A := by rw [hB.out]; simp [show 1 ≤ s.size by omega, h1]
      have d0 : decide ((s.size : Int) ≤ 64) = true := decide_eq_true (by omega)
      clear hl h0 h1
      cases B
      all_goals
        go_enter Tryz.func63, Tryz.ntmps63
        go_wp2_with fail
        refine (HC.out _).mono ?_
        rintro e w1 ⟨rfl, gg⟩
        have X1 := Lib.hid gg; clear gg
        go_wp2
        go_returns
        exact ⟨rfl, X1.out⟩
    · obtain rfl : B = false := by rw [hB.out]; simp [h1]
      have d0 : decide ((s.size : Int) ≤ 64) = false := decide_eq_false (by omega)
      clear hl h0 h1
      go_enter Tryz.func63, Tryz.ntmps63
      go_wp2
      go_returns
      exact ⟨rfl, Below.refl _ _⟩
theorem isName_any (s : ByteArray) (w : World) (hs : s.size ≤ 9223372036854775807) :
    Calls Tryz.prog 63 #[.string s] w fun e w' => e = .returned (.bool (isNm s)) ∧ Below w.heap.size w w' :=
  isName_core s _ _ w hs rfl rfl fun W => allow_any s W
theorem ckk_core (nm : ByteArray) (ps dc E R : Int) (N P V : Bool) (a : Option Addr) (n cap : Nat) (w : World)
    (hE : Hid (R = if N = true then (if P = true then (if V = true then E else 2) else 2) else 4))
    (H1 : Hid (∀ W, Calls Tryz.prog 63 #[.string nm] W fun e w' => e = .returned (.bool N) ∧ Below W.heap.size W w'))
    (H2 : Hid (∀ W, Calls Tryz.prog 64 #[.int .i64 ps] W fun e w' => e = .returned (.bool P) ∧ w' = W))
    (H3 : Hid (∀ W, Calls Tryz.prog 65 #[.int .i64 dc] W fun e w' => e = .returned (.bool V) ∧ w' = W))
    (H4 : Hid (∀ W, Below w.heap.size w W → Calls Tryz.prog 51 #[.slice a n cap] W fun e w' => e = .returned (.int .i64 E) ∧ Below W.heap.size W w')) :
    Calls Tryz.prog 47 #[.agg #[.string nm, .int .i64 ps, .slice a n cap, .int .i64 dc]] w fun e w' => e = .returned (.int .i64 R) ∧ Below w.heap.size w w' := by
  have F0 := Lib.hid (Quad.new w (.string nm) (.int .i64 ps) (.slice a n cap) (.int .i64 dc) 24)
  cases N with
  | false =>
    obtain rfl : R = 4 := hE.out
    go_enter Tryz.func47, Tryz.ntmps47
    go_wp2_with fail
    refine (H1.out _).mono ?_
    rintro e w1 ⟨rfl, gg⟩
    have X1 := Lib.hid (bel_alloc gg); clear gg
    go_wp2
    go_returns
    exact ⟨rfl, X1.out⟩
  | true =>
    cases P with
    | false =>
      obtain rfl : R = 2 := hE.out
      go_enter Tryz.func47, Tryz.ntmps47
      go_wp2_with fail
      refine (H1.out _).mono ?_
      rintro e w1 ⟨rfl, gg⟩
      obtain ⟨c0, c1, c2, c3, _⟩ := F0.out.below gg
      have X1 := Lib.hid (bel_alloc gg); clear gg
      go_wp2_with fail
      refine (H2.out _).mono ?_
      rintro e w2 ⟨rfl, gg⟩
      subst gg
      go_wp2
      go_returns
      exact ⟨rfl, X1.out⟩
    | true =>
      cases V with
      | false =>
        obtain rfl : R = 2 := hE.out
        go_enter Tryz.func47, Tryz.ntmps47
        go_wp2_with fail
        refine (H1.out _).mono ?_
        rintro e w1 ⟨rfl, gg⟩
        obtain ⟨c0, c1, c2, c3, _⟩ := F0.out.below gg
        have X1 := Lib.hid (bel_alloc gg); clear gg
        go_wp2_with fail
        refine (H2.out _).mono ?_
        rintro e w2 ⟨rfl, gg⟩
        subst gg
        go_wp2_with fail
        refine (H3.out _).mono ?_
        rintro e w3 ⟨rfl, gg⟩
        subst gg
        go_wp2
        go_returns
        exact ⟨rfl, X1.out⟩
      | true =>
        obtain rfl : R = E := hE.out
        go_enter Tryz.func47, Tryz.ntmps47
        go_wp2_with fail
        refine (H1.out _).mono ?_
        rintro e w1 ⟨rfl, gg⟩
        obtain ⟨c0, c1, c2, c3, _⟩ := F0.out.below gg
        have X1 := Lib.hid (bel_alloc gg); clear gg
        go_wp2_with fail
        refine (H2.out _).mono ?_
        rintro e w2 ⟨rfl, gg⟩
        subst gg
        go_wp2_with fail
        refine (H3.out _).mono ?_
        rintro e w3 ⟨rfl, gg⟩
        subst gg
        go_wp2_with fail
        refine (H4.out _ X1.out).mono ?_
        rintro e w4 ⟨rfl, gg⟩
        have X2 := Lib.hid (bel_trans X1.out gg); clear gg
        go_wp2
        go_returns
        exact ⟨rfl, X2.out⟩
theorem ckk_any (v : Value) (c : Ck) (w : World) (hv : CkV w v c) :
    Calls Tryz.prog 47 #[v] w fun e w' => e = .returned (.int .i64 (ccE c)) ∧ Below w.heap.size w w' := by
  obtain ⟨a, cap, rfl, hp, hs, _⟩ := hv
  refine ckk_core c.nm c.ps c.dc (ckE c.pf) (ccE c) (isNm c.nm) (decide (c.ps = 1 ∨ c.ps = 2)) (decide (0 ≤ c.dc ∧ c.dc ≤ 1073741824)) a _ cap w ?_ (Lib.hid fun W => isName_any _ W hs) (Lib.hid fun W => isPos_any _ W) (Lib.hid fun W => isVol_any _ W) (Lib.hid fun W hW => ck_any _ _ W (hp.below hW))
  show _ = _
  unfold ccE
  simp only [decide_eq_true_eq]
  by_cases h1 : isNm c.nm = true
  · rw [if_pos h1, if_pos h1]
    by_cases h2 : c.ps = 1 ∨ c.ps = 2
    · rw [if_pos h2]
      by_cases h3 : 0 ≤ c.dc ∧ c.dc ≤ 1073741824
      · rw [if_pos h3, if_neg (by omega)]
      · rw [if_neg h3, if_pos (by omega)]
    · rw [if_neg h2, if_pos (by omega)]
  · rw [if_neg h1, if_neg h1]
end Go.Proofs.YtmdpdpbkbakidaaGreat

/- Package profile: Length. -/
namespace Go.Proofs.YtmdpdpbkbakidaaGreat
open Go.RowKit

theorem len_bad (v : Value) (E : Int) (w : World) (e1 : (E == 0) = false) (e2 : (E != 0) = true)
    (H1 : Hid (Calls Tryz.prog 51 #[v] w fun e w' => e = .returned (.int .i64 E) ∧ Below w.heap.size w w')) :
    Calls Tryz.prog 30 #[v] w fun e w' => e = .returned (.tuple #[.int .i64 0, .int .i64 E]) ∧ Below w.heap.size w w' := by
  go_enter Tryz.func30, Tryz.ntmps30
  go_wp2_with fail
  refine H1.out.mono ?_
  rintro e w1 ⟨rfl, gg⟩
  have X1 := Lib.hid gg; clear gg
  go_wp2
  go_returns
  exact ⟨rfl, X1.out⟩
theorem len_ok (v : Value) (X : Int) (w : World)
    (H1 : Hid (Calls Tryz.prog 51 #[v] w fun e w' => e = .returned (.int .i64 0) ∧ Below w.heap.size w w'))
    (H2 : Hid (∀ W, Below w.heap.size w W → Calls Tryz.prog 52 #[v] W fun e w' => e = .returned (.int .i64 X) ∧ w' = W)) :
    Calls Tryz.prog 30 #[v] w fun e w' => e = .returned (.tuple #[.int .i64 X, .int .i64 0]) ∧ Below w.heap.size w w' := by
  go_enter Tryz.func30, Tryz.ntmps30
  go_wp2_with fail
  refine H1.out.mono ?_
  rintro e w1 ⟨rfl, gg⟩
  have X1 := Lib.hid gg; clear gg
  go_wp2_with fail
  refine (H2.out _ X1.out).mono ?_
  rintro e w2 ⟨rfl, hw⟩
  subst hw
  go_wp2
  go_returns
  exact ⟨rfl, X1.out⟩
theorem len_any (v : Value) (l : List (Int × Int)) (w : World) (hv : Pts w v l) :
    Calls Tryz.prog 30 #[v] w fun e w' => e = .returned (.tuple #[.int .i64 (lgQ l), .int .i64 (ckE l)]) ∧ Below w.heap.size w w' := by
  have HC := Lib.hid (ck_any v l w hv)
  unfold lgQ
  by_cases h : ckE l = 0
  · rw [if_pos h, h]
    rw [h] at HC
    exact len_ok v _ w HC (Lib.hid fun W hW => end_of (hv.below hW) h)
  · rw [if_neg h]
    exact len_bad v _ w (by simpa using h) (by simpa using h) HC
end Go.Proofs.YtmdpdpbkbakidaaGreat

/- Package standing: position, increases, cylinder, space. -/
namespace Go.Proofs.YtmdpdpbkbakidaaGreat
open Go.RowKit

theorem stPos_core (nm : ByteArray) (ps dc E V : Int) (a : Option Addr) (n cap : Nat) (w : World) (hV : Hid ((E ≠ 0 → V = 1) ∧ (E = 0 → ps ≠ 2 → V = 10) ∧ (E = 0 → ps = 2 → V = 0)))
    (H1 : Hid (∀ W, Below w.heap.size w W → Calls Tryz.prog 47 #[.agg #[.string nm, .int .i64 ps, .slice a n cap, .int .i64 dc]] W fun e w' => e = .returned (.int .i64 E) ∧ Below W.heap.size W w')) :
    Calls Tryz.prog 27 #[.agg #[.string nm, .int .i64 ps, .slice a n cap, .int .i64 dc]] w fun e w' => e = .returned (.int .i64 V) ∧ Below w.heap.size w w' := by
  have F0 := Lib.hid (Quad.new w (.string nm) (.int .i64 ps) (.slice a n cap) (.int .i64 dc) 24)
  go_enter Tryz.func27, Tryz.ntmps27
  go_wp2_with fail
  refine (H1.out _ (bel_alloc (Below.refl _ _))).mono ?_
  rintro e w1 ⟨rfl, gg⟩
  replace F0 := Lib.hid (F0.out.below gg)
  have X1 := Lib.hid (bel_alloc gg); clear gg
  obtain ⟨u0, u1, u2, u3, _, _⟩ := F0.out
  by_cases h : E = 0
  · have g : (E != 0) = false := by simp [h]
    by_cases h2 : ps = 2
    · have g2 : (ps != 2) = false := by simp [h2]
      obtain rfl := hV.out.2.2 h h2
      clear h h2 hV
      go_wp2
      go_returns
      exact ⟨rfl, X1.out⟩
    · have g2 : (ps != 2) = true := by simpa using h2
      obtain rfl := hV.out.2.1 h h2
      clear h h2 hV
      go_wp2
      go_returns
      exact ⟨rfl, X1.out⟩
  · have g : (E != 0) = true := by simpa using h
    obtain rfl := hV.out.1 h
    clear h hV
    go_wp2
    go_returns
    exact ⟨rfl, X1.out⟩
theorem stPos_any (v : Value) (c : Ck) (w : World) (hv : CkV w v c) :
    Calls Tryz.prog 27 #[v] w fun e w' => e = .returned (.int .i64 (stSE c)) ∧ Below w.heap.size w w' := by
  have HC : Hid (∀ W, Below w.heap.size w W → _) := Lib.hid fun W hW => ckk_any v c W (hv.below hW)
  obtain ⟨a, cap, rfl, _⟩ := hv
  refine stPos_core _ _ _ (ccE c) _ _ _ _ w (Lib.hid ⟨fun h => ?_, fun h h2 => ?_, fun h h2 => ?_⟩) HC
  · unfold stSE; rw [if_neg h]
  · unfold stSE; rw [if_pos h, if_neg h2]
  · unfold stSE; rw [if_pos h, if_pos h2]
/-- levels increase strictly, or some one doesn't -/
theorem stInc_some (b off q cap : Nat) (ps : List Int) (A : Bool) (w : World) (n1 : q ≤ 200) (hcap : q + 1 ≤ cap)
    (hc : Hid (∀ j, j < q + 1 → w.cell? ⟨b, off + j, none⟩ = some (.int .i64 (ps.getD j 0))))
    (h5 : Hid ((∃ i, i < q ∧ ps.getD (i + 1) 0 ≤ ps.getD i 0) → A = false)) (h6 : Hid ((∀ i, i < q → ps.getD i 0 < ps.getD (i + 1) 0) → A = true)) :
    Calls Tryz.prog 38 #[.slice (some ⟨b, off, none⟩) (q + 1) cap] w fun e w' => e = .returned (.bool A) ∧ w' = w := by
  by_cases hc1 : cap = 1
  · obtain rfl : q = 0 := by omega
    subst hc1
    obtain rfl := h6.out (fun i hi => by omega)
    go_enter Tryz.func38, Tryz.ntmps38
    go_wp2_with fail
    go_loopw [8] (fun ii wr => ii = .int .i64 0 ∧ w = wr) (fun _ _ => 0)
    case atStart => exact ⟨rfl, rfl⟩
    case round =>
      obtain ⟨rfl, rfl⟩ := hrel
      go_wp2
      go_returns
      exact ⟨rfl, rfl⟩
  go_enter Tryz.func38, Tryz.ntmps38
  go_wp2_with fail
  go_loopw [3, 4, 8] (fun _ _ ii wr => ∃ j : Nat, j ≤ q ∧ ii = .int .i64 (j : Int) ∧ w = wr ∧ Hid (∀ i, i < j → ps.getD i 0 < ps.getD (i + 1) 0)) (fun _ _ ii _ => q - (intOf ii).toNat)
  case atStart => exact ⟨0, by omega, rfl, rfl, fun i hi => by omega⟩
  case round =>
    obtain ⟨j, hj, rfl, rfl, hs⟩ := hrel
    by_cases hlt : j < q
    · have c0 := hc.out j (by omega)
      have c1 : w.cell? ⟨b, off + 1 + j, none⟩ = some (.int .i64 (ps.getD (j + 1) 0)) := by rw [show off + 1 + j = off + (j + 1) by omega]; exact hc.out (j + 1) (by omega)
      have HG : Hid (ps.getD j 0 < ps.getD (j + 1) 0 → ∀ i, i < j + 1 → ps.getD i 0 < ps.getD (i + 1) 0) := fun h i hi => by
        by_cases e : i = j
        · rw [e]; exact h
        · exact hs.out i (by omega)
      have HN : Hid (ps.getD (j + 1) 0 ≤ ps.getD j 0 → A = false) := fun h => h5.out ⟨j, hlt, h⟩
      generalize ps.getD j 0 = x at *
      generalize ps.getD (j + 1) 0 = y at *
      have l0 : (j : Int) < (q : Int) + 1 := by omega
      by_cases hxy : y ≤ x
      · obtain rfl := HN.out hxy
        have hd : decide (y ≤ x) = true := decide_eq_true hxy
        clear HN HG
        go_wp2
        go_returns
        exact ⟨rfl, rfl⟩
      · have hd : decide (y ≤ x) = false := decide_eq_false hxy
        replace HG := Lib.hid (HG.out (by omega))
        clear HN
        go_wp2
        go_roundw
        case rel => exact ⟨j + 1, by omega, by go_num, by first | rfl | trivial, HG.out⟩
        case measure => simp [intOf]; omega
    · obtain rfl : j = q := by omega
      obtain rfl := h6.out hs.out
      clear h5 h6
      go_wp2
      go_returns
      exact ⟨rfl, rfl⟩
theorem stCyl_any (r l : Int) (w : World) (r0 : 0 ≤ r) (r1 : r ≤ 100000) (l0 : 0 ≤ l) (l1 : l ≤ 100000) :
    Calls Tryz.prog 44 #[.int .i64 r, .int .i64 l] w fun e w' => e = .returned (.int .i64 (3 * l * r * r)) ∧ w' = w := by
  have m0 : 0 ≤ 3 * l := by omega
  have m1 : 0 ≤ 3 * l * r ∧ 3 * l * r ≤ 300000 * 100000 := ⟨Int.mul_nonneg m0 r0, Int.mul_le_mul (by omega) r1 r0 (by omega)⟩
  have m2 : 0 ≤ 3 * l * r * r ∧ 3 * l * r * r ≤ 30000000000 * 100000 := ⟨Int.mul_nonneg m1.1 r0, Int.mul_le_mul (by omega) r1 r0 (by omega)⟩
  have e0 : IntKind.i64.wrap (3 * l) = 3 * l := wrap_in _ ⟨by omega, by omega⟩
  have e1 : IntKind.i64.wrap (3 * l * r) = 3 * l * r := wrap_in _ ⟨by omega, by omega⟩
  have e2 : IntKind.i64.wrap (3 * l * r * r) = 3 * l * r * r := wrap_in _ ⟨by omega, by omega⟩
  go_enter Tryz.func44, Tryz.ntmps44
  go_wp2
  go_returns
  exact ⟨rfl, rfl⟩
theorem stSpace_any (lo hi : Int) (w : World) (l0 : 0 ≤ lo) (l1 : lo ≤ 3000000000000000) (h0 : 0 ≤ hi) (h1 : hi ≤ 3000000000000000) :
    Calls Tryz.prog 21 #[.agg #[.int .i64 lo, .int .i64 hi]] w fun e w' => e = .returned (.agg #[.int .i64 (lo * 333 / 318), .int .i64 ((hi * 355 + 338) / 339)]) ∧ Below w.heap.size w w' := by
  have e0 : IntKind.i64.wrap (lo * 333) = lo * 333 := wrap_in _ ⟨by omega, by omega⟩
  have e1 : IntKind.i64.wrap (hi * 355) = hi * 355 := wrap_in _ ⟨by omega, by omega⟩
  have e2 : IntKind.i64.wrap (hi * 355 + 338) = hi * 355 + 338 := wrap_in _ ⟨by omega, by omega⟩
  have e3 : IntKind.i64.wrap ((lo * 333).tdiv 318) = lo * 333 / 318 := by rw [Int.tdiv_eq_ediv_of_nonneg (by omega)]; exact wrap_in _ ⟨by omega, by omega⟩
  have e4 : IntKind.i64.wrap ((hi * 355 + 338).tdiv 339) = (hi * 355 + 338) / 339 := by rw [Int.tdiv_eq_ediv_of_nonneg (by omega)]; exact wrap_in _ ⟨by omega, by omega⟩
  obtain ⟨z0, z1, _, _, _⟩ := Two.new (w.alloc (.cells #[.int .i64 lo, .int .i64 hi] 29)) (.int .i64 0) (.int .i64 0) 29
  generalize hy0 : lo * 333 / 318 = y0 at *
  generalize hy1 : (hi * 355 + 338) / 339 = y1 at *
  clear hy0 hy1
  go_enter Tryz.func21, Tryz.ntmps21
  go_wp2
  refine bodyPost_ret (v := .agg #[.int .i64 y0, .int .i64 y1]) (by simp [results, Tryz.results21, go_sem]) rfl ?_
  exact ⟨rfl, bel_alloc (bel_alloc (Below.refl _ _))⟩
end Go.Proofs.YtmdpdpbkbakidaaGreat

/- Integers of the call's own. -/
namespace Go.Proofs.YtmdpdpbkbakidaaGreat
open Go.RowKit

def OwnI (w : World) (B : Nat) (v : Value) (zs : List Int) : Prop := w.ownsRow B 3 1 v zs.length (zs.map (Value.int .i64))
theorem OwnI.alloc {w : World} {B : Nat} {v : Value} {zs : List Int} (h : OwnI w B v zs) (o : Obj) : OwnI (w.alloc o) B v zs := World.ownsRow.alloc h o
theorem OwnI.drew {w : World} {B : Nat} {v : Value} {zs : List Int} (h : OwnI w B v zs) : OwnI w.drew B v zs := h
theorem OwnI.nums {w : World} {B : Nat} {v : Value} {zs : List Int} (h : OwnI w B v zs) : Nums w v zs := nums_of_own h
theorem OwnI.lit (w : World) (B : Nat) (x : Int) (hB : B ≤ w.heap.size) : OwnI (w.alloc (.cells #[.int .i64 x] 3)) B (.slice (some ⟨w.heap.size, 0, none⟩) 1 1) [x] := by
  show World.ownsRow _ _ _ _ _ 1 _
  exact
  ⟨rfl, .inr ⟨w.heap.size, 1, #[.int .i64 x], rfl, hB, by show (w.heap.push _)[w.heap.size]? = _; exact Array.getElem?_push_size, by omega, by unfold maxLen; omega, rfl, rfl⟩⟩
theorem OwnI.nil (w : World) (B : Nat) : OwnI w B (.slice none 0 0) [] := ⟨rfl, .inl ⟨rfl, rfl⟩⟩
theorem OwnI.push {w' : World} {B n : Nat} {v' : Value} {zs : List Int} {x : Int} (hn : n = zs.length) (h : w'.ownsRow B 3 1 v' (n + 1) (zs.map (Value.int .i64) ++ [.int .i64 x])) : OwnI w' B v' (zs ++ [x]) := by
  subst hn
  unfold OwnI
  rw [List.length_append, List.map_append]
  exact h
/-- the last of them, and where they lie -/
theorem OwnI.form {w : World} {B : Nat} {v : Value} {zs : List Int} (h : OwnI w B v zs) (h0 : 0 < zs.length) : ∃ g cap, v = .slice (some ⟨g, 0, none⟩) zs.length cap ∧ B ≤ g ∧ g < w.heap.size ∧ zs.length ≤ cap ∧ cap ≤ 9223372036854775807 ∧ ∀ j, j < zs.length → w.cell? ⟨g, j, none⟩ = some (.int .i64 (zs.getD j 0)) := by
  have hlt := fun j hj => World.ownsRow.lt h j hj
  obtain ⟨a, cap, e, hc, hh⟩ := h.nums
  rcases hh with hh | ⟨b, off, rfl, hb, hcell⟩
  · omega
  · obtain ⟨_, h2⟩ := h
    rcases h2 with ⟨h3, _⟩ | ⟨g, cap', cur, h3, hg, _⟩
    · rw [h3] at e; simp at e
    · rw [h3] at e
      simp only [Value.slice.injEq, Option.some.injEq, Addr.mk.injEq, and_true, true_and] at e
      obtain ⟨⟨rfl, rfl⟩, rfl⟩ := e
      exact ⟨g, cap', h3, hg, hb, hc.1, hc.2, fun j hj => by have := hcell j hj; rwa [Nat.zero_add] at this⟩
/-! ### places of m-fold slices -/
def plS (out : List Int) (x : Int) : List Int := if out.getD (out.length - 1) 0 < x then out ++ [x] else out
def plK (p q m : Int) (out : List Int) : Nat → List Int
  | 0 => out
  | k + 1 => plS (plK p q m out k) (p + ((k : Int) + 1) * (q - p) / m)
def plO (l : List (Int × Int)) (m : Nat) : Nat → List Int
  | 0 => [0]
  | i + 1 => plK (gX l i) (gX l (i + 1)) m (plO l m i) m
theorem plS_len (out : List Int) (x : Int) : out.length ≤ (plS out x).length ∧ (plS out x).length ≤ out.length + 1 := by
  unfold plS
  split
  · rw [List.length_append]; simp
  · omega
theorem plK_len (p q m : Int) (out : List Int) (k : Nat) : out.length ≤ (plK p q m out k).length ∧ (plK p q m out k).length ≤ out.length + k := by
  induction k with
  | zero => exact ⟨Nat.le_refl _, Nat.le_refl _⟩
  | succ k ih =>
    have := plS_len (plK p q m out k) (p + ((k : Int) + 1) * (q - p) / m)
    show out.length ≤ (plS _ _).length ∧ (plS _ _).length ≤ _
    omega
theorem plO_len (l : List (Int × Int)) (m i : Nat) : 1 ≤ (plO l m i).length ∧ (plO l m i).length ≤ 1 + i * m := by
  induction i with
  | zero => simp [plO]
  | succ i ih =>
    have := plK_len (gX l i) (gX l (i + 1)) m (plO l m i) m
    show 1 ≤ (plK _ _ _ _ m).length ∧ (plK _ _ _ _ m).length ≤ _
    rw [Nat.succ_mul]
    omega
end Go.Proofs.YtmdpdpbkbakidaaGreat

/- Slices that read as lists of points: copies. -/
namespace Go.Proofs.YtmdpdpbkbakidaaGreat
open Go.RowKit Go.Sort

end Go.Proofs.YtmdpdpbkbakidaaGreat

/- Package standing: below. -/
namespace Go.Proofs.YtmdpdpbkbakidaaGreat
open Go.RowKit

theorem cell_oneE (w : World) (x : Value) (T : TypeId) (j : Nat) (u : Value) (hj : [x][j]? = some u) : (w.alloc (.cells #[x] T)).cell? ((⟨w.heap.size, 0, none⟩ : Addr).add j) = some u := by
  rw [Go.WideShapes.add_plain, Nat.zero_add]
  match j, hj with
  | 0, hj => simp at hj; subst hj; simp [go_sem]
  | j + 1, hj => simp at hj
/-- the X of the first k points that are less than d -/
def blS (l : List (Int × Int)) (d : Int) : Nat → List Int
  | 0 => []
  | k + 1 => if gX l k < d then blS l d k ++ [gX l k] else blS l d k
theorem blS_len (l : List (Int × Int)) (d : Int) (k : Nat) : (blS l d k).length ≤ k := by
  induction k with
  | zero => simp [blS]
  | succ k ih =>
    unfold blS
    split
    · rw [List.length_append, List.length_singleton]; omega
    · omega
set_option maxRecDepth 100000 in
set_option maxHeartbeats 8000000 in
theorem stBel_some (b off n cap : Nat) (l : List (Int × Int)) (d : Int) (w : World) (n1 : n ≤ 1000) (hcap : n ≤ cap) (hb : b < w.heap.size)
    (hc : Hid (∀ j, j < n → w.cell? ⟨b, off + j * 2, none⟩ = some (.int .i64 (gX l j)) ∧ w.cell? ⟨b, off + j * 2 + 1, none⟩ = some (.int .i64 (gR l j)))) :
    Calls Tryz.prog 33 #[.slice (some ⟨b, off, none⟩) n cap, .int .i64 d] w fun e w' => ∃ u, e = .returned u ∧ OwnI w' w.heap.size u (blS l d n) ∧ Below w.heap.size w w' := by
  obtain ⟨i0, hi, hz0, hz1, hz2⟩ := info_parts info_int
  replace hi := Lib.hid hi
  replace hz0 := Lib.hid hz0
  replace hz1 := Lib.hid hz1
  replace hz2 := Lib.hid hz2
  go_enter Tryz.func33, Tryz.ntmps33
  go_wp2_with fail
  go_loopw [5, 7, 10] (fun v _ ii wr => ∃ k : Nat, k ≤ n ∧ ii = .int .i64 (k : Int) ∧ Hid (OwnI wr w.heap.size v (blS l d k)) ∧ Hid (Below w.heap.size w wr)) (fun _ _ ii _ => n - (intOf ii).toNat)
  case atStart => exact ⟨0, Nat.zero_le _, rfl, Lib.hid (OwnI.nil _ _), Lib.hid (Below.refl _ _)⟩
  case round =>
    obtain ⟨k, hk, rfl, hO, hB⟩ := hrel
    by_cases hlt : k < n
    · have d0 : wr.cell? ⟨b, off + k * 2, none⟩ = some (.int .i64 (gX l k)) := by rw [(bcell hB.out).1 _ _ hb]; exact (hc.out k hlt).1
      have d1 : wr.cell? ⟨b, off + k * 2 + 1, none⟩ = some (.int .i64 (gR l k)) := by rw [(bcell hB.out).1 _ _ hb]; exact (hc.out k hlt).2
      have bl := blS_len l d k
      have PK : Hid (blS l d (k + 1) = if gX l k < d then blS l d k ++ [gX l k] else blS l d k) := Lib.hid rfl
      generalize gX l k = x at *
      generalize gR l k = r at *
      generalize hL : blS l d k = L at *
      replace hL := Lib.hid hL
      obtain ⟨m, hm⟩ : ∃ m, L.length = m := ⟨_, rfl⟩
      rw [hm] at bl
      have l0 : (k : Int) < (n : Int) := by omega
      have B1 := Lib.hid (bel_trans hB.out (bel_alloc (o := .cells #[.int .i64 x, .int .i64 r] 43) (Below.refl _ _)))
      have O1 := Lib.hid (hO.out.alloc (.cells #[.int .i64 x, .int .i64 r] 43))
      by_cases hx : x < d
      · have hd : decide (x < d) = true := decide_eq_true hx
        rw [if_pos hx] at PK
        have W1 : Hid ((wr.alloc (.cells #[.int .i64 x, .int .i64 r] 43)).heap.size = wr.heap.size + 1) := Lib.hid (by simp)
        have CN := Lib.hid (cell_oneE (wr.alloc (.cells #[.int .i64 x, .int .i64 r] 43)) (.int .i64 x) 3)
        have HS : Hid (w.heap.size ≤ ((wr.alloc (.cells #[.int .i64 x, .int .i64 r] 43)).alloc (.cells #[.int .i64 x] 3)).heap.size) := Lib.hid (Nat.le_trans B1.out.size (bel_alloc (Below.refl _ _)).size)
        have OA := Lib.hid (O1.out.alloc (.cells #[.int .i64 x] 3))
        unfold OwnI at OA
        rw [hm] at OA
        rw [W1.out] at CN
        clear hx
        go_wp2_with (at_builtin; refine wpList_append_own_at _ rfl _ _ 25 rfl w.heap.size 3 i0 (.int .i64 0) 1 8 Tryz.underlying25 hi.out hz0.out hz1.out hz2.out rfl (by omega) _ _ _ rfl OA.out ⟨wr.heap.size + 1, 0, none⟩ 1 1 [.int .i64 x] rfl rfl CN.out (by intro u hu; rw [List.mem_singleton] at hu; rw [hu]; rfl) ?qd4 ?qd5 HS.out ?_)
        case qd4 => unfold maxLen; omega
        case qd5 => omega
        intro v2 w2 hown3 hgrow _ _
        have SN : Hid (OwnI w2 w.heap.size v2 (blS l d (k + 1))) := Lib.hid (by rw [PK.out]; exact OwnI.push hm.symm hown3)
        have B2 := Lib.hid ((bel_trans B1.out (bel_alloc (o := .cells #[.int .i64 x] 3) (Below.refl _ _))).grown hgrow HS.out (fun q hq => (World.ownsRow.lt O1.out q hq).1))
        clear hown3 hgrow OA CN
        go_wp2
        go_roundw
        case rel => exact ⟨k + 1, by omega, by go_num, SN, B2⟩
        case measure => simp [intOf]; omega
      · have hd : decide (x < d) = false := decide_eq_false hx
        rw [if_neg hx] at PK
        clear hx
        go_wp2
        go_roundw
        case rel => exact ⟨k + 1, by omega, by go_num, Lib.hid (by rw [PK.out]; exact O1.out), B1⟩
        case measure => simp [intOf]; omega
    · obtain rfl : k = n := by omega
      go_wp2
      go_returns
      exact ⟨_, rfl, hO.out, hB.out⟩
end Go.Proofs.YtmdpdpbkbakidaaGreat

/- Rows of integers that belong to the call. -/
namespace Go.Proofs.YtmdpdpbkbakidaaGreat
open Go.RowKit

/-- a row that the call itself made -/
abbrev Own (w : World) (B g n cap : Nat) (zs : List Int) : Prop := w.ownsRow B 3 1 (.slice (some ⟨g, 0, none⟩) n cap) n (zs.map (Value.int .i64))
theorem Own.len {w : World} {B g n cap : Nat} {zs : List Int} (h : Own w B g n cap zs) : zs.length = n := by
  have := h.1; simpa using this
theorem Own.cell {w : World} {B g n cap : Nat} {zs : List Int} (h : Own w B g n cap zs) (j : Nat) (hj : j < n) : w.cell? ⟨g, j, none⟩ = some (.int .i64 (zs.getD j 0)) := by
  have hl := h.len
  rw [World.ownsRow.cellAt h j (by omega)]
  simp [List.getD, List.getElem?_eq_getElem (show j < zs.length by omega)]
theorem Own.set {w : World} {B g n cap : Nat} {zs : List Int} (h : Own w B g n cap zs) (j : Nat) (x : Int) : Own (w.setCell ⟨g, j, none⟩ (.int .i64 x)) B g n cap (zs.set j x) := by
  have := (World.ownsRow.stored h j (.int .i64 x)).1
  rw [← List.map_set] at this
  exact this
theorem Own.lt {w : World} {B g n cap : Nat} {zs : List Int} (h : Own w B g n cap zs) : B ≤ g ∧ g < w.heap.size := World.ownsRow.lt h g rfl
theorem Own.below {w w' : World} {B g n cap : Nat} {zs : List Int} (h : Own w B g n cap zs) (hb : Below w.heap.size w w') : Own w' B g n cap zs := by
  obtain ⟨h1, h2⟩ := h
  refine ⟨h1, ?_⟩
  rcases h2 with ⟨h2, _⟩ | ⟨g', c', cur, hv, hg, hh, r⟩
  · cases h2
  · refine .inr ⟨g', c', cur, hv, hg, ?_, r⟩
    have hlt : g' < w.heap.size := by
      rcases Nat.lt_or_ge g' w.heap.size with h | h
      · exact h
      · rw [Array.getElem?_eq_none h] at hh; cases hh
    rw [hb.block _ hlt]; exact hh
theorem madeInts (n : Nat) : (madeCells (Value.int .i64 0).cells (n * 1)).toList = (List.replicate n (0 : Int)).map (Value.int .i64) := by
  rw [Nat.mul_one]
  apply List.ext_getElem
  · simp [madeCells, Value.cells]
  · intro i h1 h2
    simp [madeCells, Value.cells, Nat.mod_one]
/-- filled up to a place -/
theorem set_next {f : Nat → Int} (k m : Nat) (h : k < m) : ((List.range k).map f ++ List.replicate (m - k) 0).set k (f k) = (List.range (k + 1)).map f ++ List.replicate (m - (k + 1)) 0 := by
  obtain ⟨d, rfl⟩ : ∃ d, m = k + 1 + d := ⟨m - (k + 1), by omega⟩
  rw [show k + 1 + d - k = d + 1 by omega, show k + 1 + d - (k + 1) = d by omega, List.replicate_succ, List.range_succ, List.map_append, List.set_append_right _ _ (by simp)]
  simp
end Go.Proofs.YtmdpdpbkbakidaaGreat

/- Package standing: multiples. -/
namespace Go.Proofs.YtmdpdpbkbakidaaGreat
open Go.RowKit

/-- the n-th parts of a dip -/
def muF (d : Int) (n : Nat) (i : Nat) : Int := (i : Int) * d / (n : Int)
set_option maxRecDepth 100000 in
set_option maxHeartbeats 8000000 in
theorem stMul_any (d : Int) (n : Nat) (w : World) (d0 : 0 ≤ d) (d1 : d ≤ 100000) (n0 : 1 ≤ n) (n1 : n ≤ 64) :
    Calls Tryz.prog 32 #[.int .i64 d, .int .i64 n] w fun e w' => ∃ u, e = .returned u ∧ OwnI w' w.heap.size u ((List.range (n + 1)).map (muF d n)) ∧ Below w.heap.size w w' := by
  obtain ⟨i0, hi, hz0, hz1, hz2⟩ := info_parts info_int
  have wn : IntKind.i64.wrap ((n : Int) + 1) = ((n + 1 : Nat) : Int) := by rw [wrap_in _ ⟨by omega, by omega⟩]; omega
  have wn2 : IntKind.i64.wrap ((n : Int) + 1) = (n : Int) + 1 := wrap_in _ ⟨by omega, by omega⟩
  go_enter Tryz.func32, Tryz.ntmps32
  go_wp2_with (at_make; refine wpList_make_full _ rfl _ _ 25 rfl w.heap.size 3 i0 (.int .i64 0) 1 Tryz.underlying25 hi hz0 hz1 .i64 .i64 _ _ (n + 1) rfl rfl (by simp) (by simp) (by rw [hz2]; omega) (by unfold maxLen; omega) (Nat.le_refl _) ?_; intro w2 ho2 hg2)
  rw [madeInts] at ho2
  have O2 : Hid (Own w2 w.heap.size w.heap.size (n + 1) (n + 1) ((List.range 0).map (muF d n) ++ List.replicate (n + 1 - 0) 0)) := ho2
  have X2 := Lib.hid ((Below.refl w.heap.size w).grown hg2 (Nat.le_refl _) (by simp))
  clear ho2 hg2
  go_loopw [6, 12] (fun _ ii wr => ∃ k : Nat, k ≤ n + 1 ∧ ii = .int .i64 k ∧ Hid (Own wr w.heap.size w.heap.size (n + 1) (n + 1) ((List.range k).map (muF d n) ++ List.replicate (n + 1 - k) 0)) ∧ Hid (Below w.heap.size w wr)) (fun _ ii _ => n + 1 - (intOf ii).toNat)
  case atStart => exact ⟨0, Nat.zero_le _, rfl, O2, X2⟩
  case round =>
    obtain ⟨k, hk, rfl, hO, hB⟩ := hrel
    by_cases hlt : k < n + 1
    · have S3 := Lib.hid (set_next (f := muF d n) k (n + 1) hlt)
      have hF : Hid (muF d n k = (k : Int) * d / (n : Int)) := Lib.hid rfl
      have m0 : 0 ≤ (k : Int) * d ∧ (k : Int) * d ≤ 64 * 100000 := ⟨Int.mul_nonneg (by omega) d0, Int.mul_le_mul (by omega) d1 d0 (by omega)⟩
      have dv : 0 ≤ (k : Int) * d / (n : Int) ∧ (k : Int) * d / (n : Int) ≤ (k : Int) * d := ⟨Int.ediv_nonneg m0.1 (by omega), Int.ediv_le_self _ m0.1⟩
      have q1 : IntKind.i64.wrap ((k : Int) * d) = (k : Int) * d := wrap_in _ ⟨by omega, by omega⟩
      have q2 : IntKind.i64.wrap (((k : Int) * d).tdiv n) = muF d n k := by rw [Int.tdiv_eq_ediv_of_nonneg m0.1, hF.out]; exact wrap_in _ ⟨by omega, by omega⟩
      have nz : ¬ (n : Int) = 0 := by omega
      have nz2 : ((n : Int) == 0) = false := by simp; omega
      have c0 := hO.out.cell k hlt
      have f0 := World.ownsRow.frozenAt hO.out k
      have hg := hO.out.lt.2
      have O3 := Lib.hid (hO.out.set k (muF d n k))
      rw [S3.out] at O3
      have B3 : Hid (Below w.heap.size w (wr.setCell ⟨w.heap.size, k, none⟩ (.int .i64 (muF d n k)))) := Lib.hid (hB.out.setCell (p := ⟨w.heap.size, k, none⟩) (Nat.le_refl _) _)
      generalize muF d n k = y at *
      have l0 : (k : Int) < (n : Int) + 1 := by omega
      have l1 : (k : Int) < ((n + 1 : Nat) : Int) := by omega
      clear m0 dv
      go_wp2
      go_roundw
      case rel => exact ⟨k + 1, by omega, by go_num, O3, B3⟩
      case measure => simp [intOf]; omega
    · obtain rfl : k = n + 1 := by omega
      have O4 : Hid (OwnI wr w.heap.size (.slice (some ⟨w.heap.size, 0, none⟩) (n + 1) (n + 1)) ((List.range (n + 1)).map (muF d n))) := by
        have := hO.out
        rw [Nat.sub_self, List.replicate_zero, List.append_nil] at this
        show Hid (World.ownsRow _ _ _ _ _ _ _)
        rw [List.length_map, List.length_range]
        exact this
      go_wp2
      go_returns
      exact ⟨_, rfl, O4.out, hB.out⟩
end Go.Proofs.YtmdpdpbkbakidaaGreat

/- Plain facts of layer 11: the places of m-fold slices are right. No program stands in this text. -/
namespace Go.Proofs.YtmdpdpbkbakidaaGreat

/-- places that increase, from 0 to z -/
structure AscTo (out : List Int) (z : Int) : Prop where
  n0 : 1 ≤ out.length
  f : out.getD 0 0 = 0
  e : out.getD (out.length - 1) 0 = z
  asc : ∀ i, i + 1 < out.length → out.getD i 0 < out.getD (i + 1) 0
theorem getD_snoc {out : List Int} {x : Int} (i : Nat) : (out ++ [x]).getD i 0 = if i < out.length then out.getD i 0 else if i = out.length then x else 0 := by
  by_cases h : i < out.length
  · rw [if_pos h, List.getD_eq_getElem?_getD, List.getElem?_append_left h, ← List.getD_eq_getElem?_getD]
  · rw [if_neg h]
    by_cases h2 : i = out.length
    · rw [if_pos h2, h2, List.getD_eq_getElem?_getD, List.getElem?_append_right (Nat.le_refl _)]; simp
    · rw [if_neg h2, List.getD_eq_getElem?_getD, List.getElem?_eq_none (by rw [List.length_append]; simp; omega)]; rfl
theorem plS_asc {out : List Int} {z x : Int} (h : AscTo out z) (hx : z ≤ x) : AscTo (plS out x) x ∧ (∀ i, i < out.length → (plS out x).getD i 0 = out.getD i 0) := by
  unfold plS
  obtain ⟨n0, f, e, asc⟩ := h
  rw [e]
  by_cases g : z < x
  · rw [if_pos g]
    refine ⟨⟨by rw [List.length_append]; simp, ?_, ?_, fun i hi => ?_⟩, fun i hi => ?_⟩
    · rw [getD_snoc, if_pos (by omega), f]
    · rw [List.length_append, getD_snoc]; simp
    · rw [List.length_append] at hi
      simp at hi
      rw [getD_snoc, getD_snoc, if_pos (by omega)]
      by_cases g2 : i + 1 < out.length
      · rw [if_pos g2]; exact asc i g2
      · rw [if_neg g2, if_pos (by omega), show i = out.length - 1 by omega, e]; exact g
    · rw [getD_snoc, if_pos hi]
  · rw [if_neg g]
    exact ⟨⟨n0, f, by rw [e]; omega, asc⟩, fun i _ => rfl⟩
theorem plK_asc {out : List Int} {p q m : Int} (h : AscTo out p) (hq : p ≤ q) (hm : 1 ≤ m) (k : Nat) : AscTo (plK p q m out k) (p + (k : Int) * (q - p) / m) ∧ (∀ i, i < out.length → (plK p q m out k).getD i 0 = out.getD i 0) := by
  induction k with
  | zero =>
    refine ⟨?_, fun i _ => rfl⟩
    show AscTo out _
    simpa using h
  | succ k ih =>
    obtain ⟨i1, i2⟩ := ih
    have mono : p + (k : Int) * (q - p) / m ≤ p + ((k : Int) + 1) * (q - p) / m := by
      have := Int.ediv_le_ediv (a := (k : Int) * (q - p)) (b := ((k : Int) + 1) * (q - p)) (c := m) (by omega) (by rw [Int.add_mul]; omega)
      omega
    obtain ⟨j1, j2⟩ := plS_asc i1 mono
    have ln := (plK_len p q m out k).1
    refine ⟨by rw [Int.natCast_succ]; exact j1, fun i hi => ?_⟩
    show (plS (plK p q m out k) _).getD i 0 = _
    rw [j2 i (by omega), i2 i hi]
theorem plO_asc {l : List (Int × Int)} (hR : RP l) {m : Nat} (hm : 1 ≤ m) (i : Nat) (hi : i < l.length) : AscTo (plO l m i) (gX l i) ∧ ∀ j, j ≤ i → ∃ t, t < (plO l m i).length ∧ (plO l m i).getD t 0 = gX l j := by
  induction i with
  | zero =>
    refine ⟨⟨by simp [plO], rfl, ?_, fun i hi => by simp [plO] at hi⟩, fun j hj => ?_⟩
    · rw [hR.x0]; rfl
    · obtain rfl : j = 0 := by omega
      exact ⟨0, by simp [plO], by rw [hR.x0]; rfl⟩
  | succ i ih =>
    obtain ⟨a, b⟩ := ih (by omega)
    have as0 := hR.asc i hi
    obtain ⟨c, d⟩ := plK_asc (m := (m : Int)) a (show gX l i ≤ gX l (i + 1) by omega) (by omega) m
    have em : gX l i + (m : Int) * (gX l (i + 1) - gX l i) / m = gX l (i + 1) := by
      rw [Int.mul_ediv_cancel_left _ (by omega)]; omega
    rw [em] at c
    have ln := (plK_len (gX l i) (gX l (i + 1)) m (plO l m i) m).1
    refine ⟨c, fun j hj => ?_⟩
    show ∃ t, t < (plK (gX l i) (gX l (i + 1)) m (plO l m i) m).length ∧ _
    by_cases g : j = i + 1
    · subst g
      exact ⟨_, by have := c.n0; omega, c.e⟩
    · obtain ⟨t, ht, et⟩ := b j (by omega)
      exact ⟨t, by omega, by show (plK _ _ _ _ m).getD t 0 = _; rw [d t ht]; exact et⟩
/-- the places of m-fold slices are right ones -/
theorem plO_right {l : List (Int × Int)} (hR : RP l) {m : Nat} (hm : 1 ≤ m) (n1 : (plO l m (l.length - 1)).length ≤ 128) : PlR l (plO l m (l.length - 1)) := by
  have n0 := hR.n0
  obtain ⟨a, b⟩ := plO_asc hR hm (l.length - 1) (by omega)
  refine ⟨?_, n1, a.f, a.e, a.asc, fun j hj => b j (by omega)⟩
  by_cases g : 2 ≤ (plO l m (l.length - 1)).length
  · exact g
  · have e := a.e
    have f := a.f
    rw [show (plO l m (l.length - 1)).length - 1 = 0 by omega, f] at e
    have := gX_lt hR (i := 0) (j := l.length - 1) (by omega) (by omega)
    rw [hR.x0] at this
    omega
/-- what Slices returns -/
def slE (l : List (Int × Int)) (m : Int) : Int := if ckE l = 0 then (if m < 1 ∨ 64 < m then 2 else if 65 < (plO l m.toNat (l.length - 1)).length then 15 else 0) else 1
def slP (l : List (Int × Int)) (m : Int) : List Int := if slE l m = 0 then plO l m.toNat (l.length - 1) else []
end Go.Proofs.YtmdpdpbkbakidaaGreat
