/- Texts that the proofs of this seat share, one behind the other: QE, QX, QS0, QS, QO, QK, QTq, QU1, QU2, QU0, QU, QOp, QY, QT0, QT1, QT. -/
import Derived.Test.YtooofppgjknigaaM1
import Derived.BigQuiet
import Derived.Test.YtooofppgjknigaaShelf
import Derived.Deep.QuietTactic
import Derived.FnLit
import Derived.RangeFuncBox
import Derived.StillTailTactics
import Derived.Deep.DeepCutAuto
import Derived.Laws.MakeOwn
import Derived.Deep.RegionHeld3
import Derived.StillTail

set_option linter.unusedVariables false
set_option linter.unusedSimpArgs false

/- slices.Equal at bounds. -/
namespace Go.Proofs.Ytooofppgjknigaa
open Go.RowKit

set_option maxHeartbeats 8000000 in
theorem eqC_some (b o n c b2 o2 d : Nat) (xs ys : List (Int × Int)) (B : Bool) (w : World) (hn : n ≤ 9223372036854775807) (hb : b < w.heap.size) (hb2 : b2 < w.heap.size)
    (h1 : Hid (∀ j, j < n → w.cell? ⟨b, o + j * 2, none⟩ = some (.int .i64 (gX xs j)) ∧ w.cell? ⟨b, o + j * 2 + 1, none⟩ = some (.int .i64 (gR xs j))))
    (h2 : Hid (∀ j, j < n → w.cell? ⟨b2, o2 + j * 2, none⟩ = some (.int .i64 (gX ys j)) ∧ w.cell? ⟨b2, o2 + j * 2 + 1, none⟩ = some (.int .i64 (gR ys j))))
    (k1 : Hid ((∃ j, j < n ∧ samB (gX xs j) (gR xs j) (gX ys j) (gR ys j) = false) → B = false)) (k2 : Hid ((∀ j, j < n → samB (gX xs j) (gR xs j) (gX ys j) (gR ys j) = true) → B = true)) :
    Calls Try.prog 18 #[.slice (some ⟨b, o, none⟩) n c, .slice (some ⟨b2, o2, none⟩) n d] w fun e w' => e = .returned (.bool B) ∧ Below w.heap.size w w' := by
  go_enter Try.func18, Try.ntmps18
  go_wp2_with fail
  go_loopw [13] (fun i wr => ∃ k : Nat, k ≤ n ∧ i = .int .i64 k ∧ Hid (Below w.heap.size w wr) ∧ Hid (∀ j, j < k → samB (gX xs j) (gR xs j) (gX ys j) (gR ys j) = true)) (fun i _ => n - (intOf i).toNat)
  case atStart => exact ⟨0, Nat.zero_le _, rfl, Below.refl _ _, fun j hj => by omega⟩
  case round =>
    obtain ⟨k, hk, rfl, hB, ha⟩ := hrel
    by_cases hlt : k < n
    · have c0 : wr.cell? ⟨b, o + k * 2, none⟩ = some (.int .i64 (gX xs k)) := by rw [(bcell hB.out).1 _ _ hb]; exact (h1.out k hlt).1
      have c1 : wr.cell? ⟨b, o + k * 2 + 1, none⟩ = some (.int .i64 (gR xs k)) := by rw [(bcell hB.out).1 _ _ hb]; exact (h1.out k hlt).2
      have c2 : wr.cell? ⟨b2, o2 + k * 2, none⟩ = some (.int .i64 (gX ys k)) := by rw [(bcell hB.out).1 _ _ hb2]; exact (h2.out k hlt).1
      have c3 : wr.cell? ⟨b2, o2 + k * 2 + 1, none⟩ = some (.int .i64 (gR ys k)) := by rw [(bcell hB.out).1 _ _ hb2]; exact (h2.out k hlt).2
      have l1 : (k : Int) < (n : Int) := by omega
      cases hq : samB (gX xs k) (gR xs k) (gX ys k) (gR ys k) with
      | false =>
        have hBf := k1.out ⟨k, hlt, hq⟩
        generalize gX xs k = p at *
        generalize gR xs k = q at *
        generalize gX ys k = x at *
        generalize gR ys k = y at *
        have Q : ∀ W, (binOp .neq 33 (.agg #[.int .i64 p, .int .i64 q]) (.agg #[.int .i64 x, .int .i64 y])).run Try.prog W = .ok (.bool true) W := fun W => by rw [run_neq_clash, hq]; rfl
        clear hq
        subst hBf
        go_wp2_with fail
        go_quiet (fail)
        go_wp2
        go_returns
        exact ⟨rfl, bel_trans hB.out (bel_drewN _ _)⟩
      | true =>
        have ha2 : Hid (∀ j, j < k + 1 → samB (gX xs j) (gR xs j) (gX ys j) (gR ys j) = true) := fun j hj => by
          by_cases e : j = k
          · rw [e]; exact hq
          · exact ha.out j (by omega)
        clear ha
        generalize gX xs k = p at c0 hq
        generalize gR xs k = q at c1 hq
        generalize gX ys k = x at c2 hq
        generalize gR ys k = y at c3 hq
        have Q : ∀ W, (binOp .neq 33 (.agg #[.int .i64 p, .int .i64 q]) (.agg #[.int .i64 x, .int .i64 y])).run Try.prog W = .ok (.bool false) W := fun W => by rw [run_neq_clash, hq]; rfl
        clear hq
        go_wp2_with fail
        go_quiet (fail)
        go_wp2
        go_roundw
        case rel => exact ⟨k + 1, by omega, by go_num, bel_trans hB.out (bel_drewN _ _), ha2⟩
        case measure => simp [intOf]; omega
    · obtain rfl : k = n := by omega
      obtain rfl := k2.out ha.out
      go_wp2
      go_returns
      exact ⟨rfl, hB.out⟩
theorem eqC_zero (a : Option Addr) (c : Nat) (a2 : Option Addr) (d : Nat) (w : World) :
    Calls Try.prog 18 #[.slice a 0 c, .slice a2 0 d] w fun e w' => e = .returned (.bool true) ∧ Below w.heap.size w w' := by
  go_enter Try.func18, Try.ntmps18
  go_wp2_with fail
  go_loopw [13] (fun i wr => i = .int .i64 0 ∧ w = wr) (fun _ _ => 0)
  case atStart => exact ⟨rfl, rfl⟩
  case round =>
    obtain ⟨rfl, rfl⟩ := hrel
    go_wp2
    go_returns
    exact ⟨rfl, Below.refl _ _⟩
theorem eqC_lens (a : Option Addr) (n c : Nat) (a2 : Option Addr) (m d : Nat) (w : World) (h : n ≠ m) (hn : n ≤ 9223372036854775807) (hm : m ≤ 9223372036854775807) :
    Calls Try.prog 18 #[.slice a n c, .slice a2 m d] w fun e w' => e = .returned (.bool false) ∧ Below w.heap.size w w' := by
  have g : ((n : Int) != (m : Int)) = true := by rw [bne_iff_ne]; omega
  go_enter Try.func18, Try.ntmps18
  go_wp2
  go_returns
  exact ⟨rfl, Below.refl _ _⟩
theorem eqC_any (v u : Value) (xs ys : List (Int × Int)) (w : World) (hv : Pts w v xs) (hu : Pts w u ys) :
    Calls Try.prog 18 #[v, u] w fun e w' => e = .returned (.bool (decide (xs = ys))) ∧ Below w.heap.size w w' := by
  obtain ⟨a, c, rfl, hl, hh⟩ := hv
  obtain ⟨a2, d, rfl, hl2, hh2⟩ := hu
  have ext : ∀ j, (xs.getD j (0, 0) = ys.getD j (0, 0)) ↔ samB (gX xs j) (gR xs j) (gX ys j) (gR ys j) = true := fun j => by
    unfold samB gX gR
    rw [Bool.and_eq_true, beq_iff_eq, beq_iff_eq]
    exact ⟨fun h => by rw [h]; exact ⟨rfl, rfl⟩, fun h => Prod.ext h.1 h.2⟩
  by_cases hn : xs.length = ys.length
  · rcases hh with h0 | ⟨b, o, rfl, hb, hc⟩
    · have e1 := List.length_eq_zero_iff.1 h0
      have e2 : ys = [] := List.length_eq_zero_iff.1 (by omega)
      subst e1 e2
      exact eqC_zero a c a2 d w
    · rcases hh2 with h0 | ⟨b2, o2, rfl, hb2, hc2⟩
      · have e1 := List.length_eq_zero_iff.1 h0
        have e2 : xs = [] := List.length_eq_zero_iff.1 (by omega)
        subst e1 e2
        exact eqC_zero _ c a2 d w
      · rw [← hn]
        refine eqC_some b o _ c b2 o2 d xs ys _ w (by omega) hb hb2 (Lib.hid hc) (Lib.hid fun j hj => hc2 j (by omega)) (Lib.hid ?_) (Lib.hid ?_)
        · rintro ⟨j, hj, h⟩
          rw [decide_eq_false_iff_not]
          intro e
          have := (ext j).1 (by rw [e])
          rw [h] at this
          cases this
        · intro h
          rw [decide_eq_true_iff]
          apply List.ext_getElem hn
          intro j h1 h2
          have := (ext j).2 (h j h1)
          rw [List.getD_eq_getElem?_getD, List.getD_eq_getElem?_getD, List.getElem?_eq_getElem h1, List.getElem?_eq_getElem h2] at this
          exact this
  · rw [decide_eq_false (fun e => hn (by rw [e]))]
    exact eqC_lens a _ c a2 _ d w hn (by omega) (by omega)
theorem cls_lit (w : World) (l : List (Int × Int)) (cs : List Value) (h : cs = flat l) (hn : l.length ≤ 1000) :
    Pts (w.alloc (.cells cs.toArray 33)) (.slice (some ⟨w.heap.size, 0, none⟩) l.length l.length) l := by
  refine ⟨_, _, rfl, by omega, .inr ⟨w.heap.size, 0, rfl, by simp, fun j hj => ?_⟩⟩
  subst h
  have hf := flat_at l j hj
  rw [World.cell?_alloc_new, World.cell?_alloc_new]
  simp only [Nat.zero_add]
  exact ⟨by simpa using hf.1, by simpa using hf.2⟩
end Go.Proofs.Ytooofppgjknigaa

/- The example of layer 17. -/
namespace Go.Proofs.Ytooofppgjknigaa
open Go.RowKit

theorem equal_any (v u : Value) (xs ys : List Int) (w : World) (hv : Nums w v xs) (hu : Nums w u ys) :
    Calls Try.prog 23 #[v, u] w fun e w' => e = .returned (.bool (xs == ys)) ∧ Below w.heap.size w w' := by
  obtain ⟨a, c, rfl, hl, hv⟩ := hv
  obtain ⟨b, d, rfl, hm, hu⟩ := hu
  by_cases hlen : xs.length = ys.length
  · by_cases h0 : xs.length = 0
    · have h1 : ys.length = 0 := by omega
      refine (show Calls Try.prog 23 #[.slice a xs.length c, .slice b ys.length d] w _ by rw [h0]; exact Try.slices_Equal_int_empty a b c ys.length d w (by omega)).mono fun _ w' g => ⟨?_, by rw [g.2]; exact Below.refl _ _⟩
      rw [g.1, List.length_eq_zero_iff.1 h0, List.length_eq_zero_iff.1 h1]; rfl
    · rcases hv with hv | ⟨b1, o1, rfl, _, hc1⟩
      · omega
      rcases hu with hu | ⟨b2, o2, rfl, _, hc2⟩
      · omega
      refine (Try.slices_Equal_int b1 o1 xs.length c b2 o2 ys.length d xs ys w (Nat.le_refl _) (Nat.le_refl _) (by omega) (by omega) hc1 hc2).mono fun _ w' g => ⟨?_, ?_⟩
      · rw [g.1, List.take_length, List.take_length]
      · obtain ⟨q, hq⟩ := g.2; rw [hq]; exact bel_drewN _ _
  · refine (Try.slices_Equal_int_lens a b xs.length c ys.length d w hlen).mono fun _ w' g => ⟨?_, by rw [g.2]; exact Below.refl _ _⟩
    rw [g.1]
    congr 2
    symm
    rw [beq_eq_false_iff_ne]
    intro h; exact hlen (by rw [h])

theorem nums_lit (w : World) (zs : List Int) (cs : List Value) (h : cs = zs.map (Value.int .i64)) (hn : zs.length ≤ 1000) :
    Nums (w.alloc (.cells cs.toArray 3)) (.slice (some ⟨w.heap.size, 0, none⟩) zs.length zs.length) zs := by
  refine ⟨_, _, rfl, by omega, .inr ⟨w.heap.size, 0, rfl, by simp, fun j hj => ?_⟩⟩
  subst h
  rw [World.cell?_alloc_new, Nat.zero_add]
  simp [List.getD_eq_getElem?_getD, List.getElem?_eq_getElem hj]
def exA : List (Int × Int) := [(0, 90100), (10, 90090), (10, 90093), (20, 90095), (30, 90080)]
theorem exA_e : auE exA = 0 := by decide +kernel
theorem exA_cE : ccE exA 0 = 0 := by decide +kernel
theorem exA_cL : ccL exA 0 = [(1, 2), (1, 3), (2, 3)] := by decide +kernel
theorem exA_lV : leV exA = 5 := by decide +kernel
theorem exA_lE : leE exA = 0 := by decide +kernel
theorem exA_lg : lgL exA = [0, 1, 4] := by decide +kernel
theorem exA_rV : rpV exA = 3 := by decide +kernel
theorem exA_rL : (rpL exA).length = 5 ∧ gR (rpL exA) 3 = 90092 := by decide +kernel
theorem exA_lit (w : World) : Pts (w.alloc (.cells #[.int .i64 0, .int .i64 90100, .int .i64 10, .int .i64 90090, .int .i64 10, .int .i64 90093, .int .i64 20, .int .i64 90095, .int .i64 30, .int .i64 90080] 46)) (.slice (some ⟨w.heap.size, 0, none⟩) 5 5) exA :=
  pts_lit w exA _ rfl (by decide)
theorem exC_lit (w : World) : Pts (w.alloc (.cells #[.int .i64 1, .int .i64 2, .int .i64 1, .int .i64 3, .int .i64 2, .int .i64 3] 33)) (.slice (some ⟨w.heap.size, 0, none⟩) 3 3) [(1, 2), (1, 3), (2, 3)] :=
  cls_lit w [(1, 2), (1, 3), (2, 3)] _ rfl (by decide)
theorem exL_lit (w : World) : Nums (w.alloc (.cells #[.int .i64 0, .int .i64 1, .int .i64 4] 3)) (.slice (some ⟨w.heap.size, 0, none⟩) 3 3) [0, 1, 4] :=
  nums_lit w [0, 1, 4] _ rfl (by decide)
set_option maxHeartbeats 16000000 in
set_option maxRecDepth 100000 in
theorem awake_any (w : World) : Calls Try.prog 10 #[] w fun e w' => e = .returned (.bool true) ∧ Below w.heap.size w w' := by
  have C1 := Lib.hid (fun v W h => auCc_any v exA 0 W h)
  have C2 := Lib.hid (fun v W h => auLe_any v exA W h)
  have C3 := Lib.hid (fun v W h => auLg_any v exA W h)
  have C4 := Lib.hid (fun v W h => auRp_any v exA W h)
  rw [exA_cE, exA_cL] at C1
  rw [exA_lV, exA_lE] at C2
  rw [exA_lg, exA_lE] at C3
  rw [exA_rV, exA_lE] at C4
  have R1 := Lib.hid exA_rL.1
  have R2 := Lib.hid exA_rL.2
  generalize rpL exA = RL at *
  have P0 := Lib.hid (exA_lit w)
  have HB := Lib.hid (bel_alloc (w := w) (o := .cells #[.int .i64 0, .int .i64 90100, .int .i64 10, .int .i64 90090, .int .i64 10, .int .i64 90093, .int .i64 20, .int .i64 90095, .int .i64 30, .int .i64 90080] 46) (Below.refl _ _))
  generalize exA = XA at *
  go_enter Try.func10, Try.ntmps10
  go_wp2_with fail
  refine (C1.out _ _ P0.out).mono ?_
  rintro e w1 ⟨V1, rfl, hx, h1⟩
  replace P0 := Lib.hid (P0.out.below h1)
  replace HB := Lib.hid (bel_trans HB.out h1); clear h1
  have N1 := Lib.hid hx; clear hx
  go_wp2_with fail
  refine (C2.out _ _ P0.out).mono ?_
  rintro e w2 ⟨rfl, h1⟩
  replace P0 := Lib.hid (P0.out.below h1)
  replace N1 := Lib.hid (N1.out.below h1)
  replace HB := Lib.hid (bel_trans HB.out h1); clear h1
  go_wp2_with fail
  refine (C3.out _ _ P0.out).mono ?_
  rintro e w3 ⟨V3, rfl, hx, h1⟩
  replace P0 := Lib.hid (P0.out.below h1)
  replace N1 := Lib.hid (N1.out.below h1)
  replace HB := Lib.hid (bel_trans HB.out h1); clear h1
  have N3 := Lib.hid hx; clear hx
  go_wp2_with fail
  refine (C4.out _ _ P0.out).mono ?_
  rintro e w4 ⟨V4, rfl, hx, h1⟩
  replace N1 := Lib.hid (N1.out.below h1)
  replace N3 := Lib.hid (N3.out.below h1)
  replace HB := Lib.hid (bel_trans HB.out h1); clear h1
  have N4 := Lib.hid hx; clear hx P0
  have E1 := Lib.hid (eqC_any V1 _ _ _ _ (N1.out.alloc _) (exC_lit w4))
  go_wp2_with fail
  refine E1.out.mono ?_
  rintro e w5 ⟨rfl, h1⟩
  replace h1 := bel_alloc h1
  replace N3 := Lib.hid (N3.out.below h1)
  replace N4 := Lib.hid (N4.out.below h1)
  replace HB := Lib.hid (bel_trans HB.out h1); clear h1 E1 N1
  have E2 := Lib.hid (equal_any V3 _ _ _ _ (N3.out.below (bel_alloc (Below.refl _ _))) (exL_lit w5))
  go_wp2_with fail
  refine E2.out.mono ?_
  rintro e w6 ⟨rfl, h1⟩
  replace h1 := bel_alloc h1
  replace N4 := Lib.hid (N4.out.below h1)
  replace HB := Lib.hid (bel_trans HB.out h1); clear h1 E2 N3
  obtain ⟨a4, c4, ev, _, _⟩ := N4.out.shape
  rw [R1.out] at ev
  subst ev
  obtain ⟨b4, o4, rfl, _, hcc⟩ := N4.out.at (by omega)
  have m0 := (hcc 3 (by omega)).2
  rw [R2.out] at m0
  clear hcc N4
  go_wp2
  go_returns
  exact ⟨rfl, HB.out⟩
end Go.Proofs.Ytooofppgjknigaa

/- Layer 16: Few. -/
namespace Go.Proofs.Ytooofppgjknigaa
open Go.RowKit

def fwB (n : Nat) : Bool := decide (n ≤ 20) || (decide (128 < n) && decide (n ≤ 133))
theorem few_any (v : Value) (l : List (Int × Int)) (w : World) (hv : Pts w v l) :
    Calls Try.prog 11 #[v] w fun e w' => e = .returned (.bool (fwB l.length)) ∧ w' = w := by
  obtain ⟨a, cap, rfl, h1, h2⟩ := hv.shape
  by_cases q0 : l.length ≤ 20
  · go_enter Try.func11, Try.ntmps11
    go_wp2
    go_ret
    exact ⟨ret_bool (by simp [fwB, q0]), rfl⟩
  · by_cases q1 : 128 < l.length
    · go_enter Try.func11, Try.ntmps11
      go_wp2
      go_ret
      exact ⟨ret_bool (by rw [Bool.eq_iff_iff]; simp [fwB]; omega), rfl⟩
    · go_enter Try.func11, Try.ntmps11
      go_wp2
      go_ret
      exact ⟨ret_bool (by rw [Bool.eq_iff_iff]; simp [fwB]; omega), rfl⟩
theorem sam_eq {l m : List (Int × Int)} (hl : l.length = m.length) (h : ∀ j, j < l.length → samP (gX l j) (gR l j) (gX m j) (gR m j) = true) : l = m := by
  apply List.ext_getElem hl
  intro i h1 h2
  have := h i h1
  simp only [samP, Bool.and_eq_true, beq_iff_eq, gX, gR, List.getD_eq_getElem?_getD, List.getElem?_eq_getElem h1, List.getElem?_eq_getElem h2, Option.getD_some] at this
  exact Prod.ext this.1 this.2
end Go.Proofs.Ytooofppgjknigaa

/- The reference of layer 8: Same. -/
namespace Go.Proofs.Ytooofppgjknigaa
open Go.RowKit

theorem same_lens (a c : Option Addr) (n cap m cap2 : Nat) (w : World) (h : ((n : Int) != (m : Int)) = true) :
    Calls Try.prog 24 #[.slice a n cap, .slice c m cap2] w fun e w' => e = .returned (.bool false) ∧ Below w.heap.size w w' := by
  go_enter Try.func24, Try.ntmps24
  go_wp2
  go_returns
  exact ⟨rfl, Below.refl _ _⟩
theorem same_nil (a c : Option Addr) (cap cap2 : Nat) (w : World) :
    Calls Try.prog 24 #[.slice a 0 cap, .slice c 0 cap2] w fun e w' => e = .returned (.bool true) ∧ Below w.heap.size w w' := by
  go_enter Try.func24, Try.ntmps24
  go_wp2_with fail
  go_loopw [5] (fun ii wr => ii = .int .i64 0 ∧ Hid (Below w.heap.size w wr)) (fun _ _ => 0)
  case atStart => exact ⟨rfl, Below.refl _ _⟩
  case round =>
    obtain ⟨rfl, hB⟩ := hrel
    go_wp2
    go_returns
    exact ⟨rfl, hB.out⟩
set_option maxHeartbeats 4000000 in
theorem same_some (b off b2 off2 n cap cap2 : Nat) (f g f2 g2 : Nat → Int) (S : Bool) (w : World) (n1 : n ≤ 1000) (hb : b < w.heap.size) (hb2 : b2 < w.heap.size)
    (hc : Hid (∀ j, j < n → w.cell? ⟨b, off + j * 2, none⟩ = some (.int .i64 (f j)) ∧ w.cell? ⟨b, off + j * 2 + 1, none⟩ = some (.int .i64 (g j))))
    (hc2 : Hid (∀ j, j < n → w.cell? ⟨b2, off2 + j * 2, none⟩ = some (.int .i64 (f2 j)) ∧ w.cell? ⟨b2, off2 + j * 2 + 1, none⟩ = some (.int .i64 (g2 j))))
    (h1 : Hid ((∃ j, j < n ∧ samP (f j) (g j) (f2 j) (g2 j) = false) → S = false)) (h2 : Hid ((∀ j, j < n → samP (f j) (g j) (f2 j) (g2 j) = true) → S = true)) :
    Calls Try.prog 24 #[.slice (some ⟨b, off, none⟩) n cap, .slice (some ⟨b2, off2, none⟩) n cap2] w fun e w' => e = .returned (.bool S) ∧ Below w.heap.size w w' := by
  go_enter Try.func24, Try.ntmps24
  go_wp2_with fail
  go_loopw [5] (fun ii wr => ∃ k : Nat, k ≤ n ∧ ii = .int .i64 k ∧ Hid (Below w.heap.size w wr) ∧ Hid (∀ j, j < k → samP (f j) (g j) (f2 j) (g2 j) = true)) (fun ii _ => n - (intOf ii).toNat)
  case atStart => exact ⟨0, Nat.zero_le _, rfl, Below.refl _ _, fun j hj => by omega⟩
  case round =>
    obtain ⟨k, hk, rfl, hB, ha⟩ := hrel
    by_cases hlt : k < n
    · have c0 : wr.cell? ⟨b, off + k * 2, none⟩ = some (.int .i64 (f k)) := by rw [(bcell hB.out).1 _ _ hb]; exact (hc.out k hlt).1
      have c1 : wr.cell? ⟨b, off + k * 2 + 1, none⟩ = some (.int .i64 (g k)) := by rw [(bcell hB.out).1 _ _ hb]; exact (hc.out k hlt).2
      have d0 : wr.cell? ⟨b2, off2 + k * 2, none⟩ = some (.int .i64 (f2 k)) := by rw [(bcell hB.out).1 _ _ hb2]; exact (hc2.out k hlt).1
      have d1 : wr.cell? ⟨b2, off2 + k * 2 + 1, none⟩ = some (.int .i64 (g2 k)) := by rw [(bcell hB.out).1 _ _ hb2]; exact (hc2.out k hlt).2
      have HF : Hid (samP (f k) (g k) (f2 k) (g2 k) = false → S = false) := fun h => h1.out ⟨k, hlt, h⟩
      have HT : Hid (samP (f k) (g k) (f2 k) (g2 k) = true → ∀ j, j < k + 1 → samP (f j) (g j) (f2 j) (g2 j) = true) := fun h j hj => by
        by_cases e : j = k
        · rw [e]; exact h
        · exact ha.out j (by omega)
      have l1 : (k : Int) < (n : Int) := by omega
      generalize f k = x at *
      generalize g k = y at *
      generalize f2 k = u at *
      generalize g2 k = v at *
      cases hq : samP x y u v with
      | false =>
        obtain rfl := HF.out hq
        have q1 : ∀ W, (binOp .neq 46 (.agg #[.int .i64 x, .int .i64 y]) (.agg #[.int .i64 u, .int .i64 v])).run Try.prog W = .ok (.bool true) W := fun W => by rw [run_neq_point, hq]; rfl
        clear HF HT hq
        go_wp2_with fail
        go_quiet (fail)
        go_wp2
        go_returns
        exact ⟨rfl, bel_trans hB.out (bel_drewN _ _)⟩
      | true =>
        have ha2 := Lib.hid (HT.out hq)
        have q1 : ∀ W, (binOp .neq 46 (.agg #[.int .i64 x, .int .i64 y]) (.agg #[.int .i64 u, .int .i64 v])).run Try.prog W = .ok (.bool false) W := fun W => by rw [run_neq_point, hq]; rfl
        clear HF HT hq
        go_wp2_with fail
        go_quiet (fail)
        go_wp2
        go_roundw
        case rel => exact ⟨k + 1, by omega, by go_num, bel_trans hB.out (bel_drewN _ _), ha2⟩
        case measure => simp [intOf]; omega
    · obtain rfl : k = n := by omega
      have hS := h2.out ha.out
      subst hS
      go_wp2
      go_returns
      exact ⟨rfl, hB.out⟩
/-- Same says whether two lists are equal -/
theorem same_any (v u : Value) (l m : List (Int × Int)) (w : World) (hv : Pts w v l) (hu : Pts w u m) (hn : l.length ≤ 1000) :
    Calls Try.prog 24 #[v, u] w fun e w' => e = .returned (.bool (l == m)) ∧ Below w.heap.size w w' := by
  obtain ⟨a, cap, rfl, hl, hh⟩ := hv
  obtain ⟨c, cap2, rfl, hl2, hh2⟩ := hu
  by_cases hlen : l.length = m.length
  · rcases hh with hh | ⟨b, off, rfl, hb, hc⟩
    · have e1 := List.length_eq_zero_iff.1 hh
      have e2 := List.length_eq_zero_iff.1 (hlen ▸ hh)
      subst e1 e2
      exact same_nil a c cap cap2 w
    · rcases hh2 with hh2 | ⟨b2, off2, rfl, hb2, hc2⟩
      · have e2 := List.length_eq_zero_iff.1 hh2
        have e1 := List.length_eq_zero_iff.1 (hlen.trans hh2)
        subst e1 e2
        exact same_nil _ c cap cap2 w
      · rw [← hlen] at hc2 ⊢
        refine same_some b off b2 off2 l.length cap cap2 (gX l) (gR l) (gX m) (gR m) _ w hn hb hb2 hc hc2 (fun ⟨j, hj, h⟩ => ?_) (fun h => ?_)
        · rw [beq_eq_false_iff_ne]
          intro e
          subst e
          simp [samP] at h
        · rw [beq_iff_eq]; exact sam_eq hlen h
  · have := same_lens a c l.length cap m.length cap2 w (by simpa using fun e : (l.length : Int) = m.length => hlen (by omega))
    refine this.mono fun _ _ g => ⟨?_, g.2⟩
    rw [g.1]
    congr 2
    symm
    rw [beq_eq_false_iff_ne]
    intro e; exact hlen (by rw [e])
end Go.Proofs.Ytooofppgjknigaa

/- How the arguments of a statement of layer 17 are opened. -/

/- slices.IndexFunc, ContainsFunc, Index and Contains over rows and clashes. -/
namespace Go.Proofs.Ytooofppgjknigaa
open Go.RowKit

/-- the index of the first place at which p holds; -1 if there is none -/
def ixR (p : Nat → Bool) (n : Nat) : Int := if fst p n < n then (fst p n : Int) else -1
theorem ixR_at {p : Nat → Bool} {n k : Nat} (hk : k < n) (h1 : ∀ j, j < k → p j = false) (h2 : p k = true) : ixR p n = k := by
  unfold ixR
  rw [fst_is (by omega) h1 (fun _ => h2), if_pos hk]
theorem ixR_no {p : Nat → Bool} {n : Nat} (h1 : ∀ j, j < n → p j = false) : ixR p n = -1 := by
  unfold ixR
  rw [fst_is (Nat.le_refl _) h1 (fun h => by omega), if_neg (by omega)]
theorem ixR_iff (p : Nat → Bool) (n : Nat) : 0 ≤ ixR p n ↔ ∃ j, j < n ∧ p j = true := by
  unfold ixR
  obtain ⟨s1, s2⟩ := fst_spec p n
  by_cases h : fst p n < n
  · rw [if_pos h]
    exact ⟨fun _ => ⟨_, h, s2 h⟩, fun _ => by omega⟩
  · rw [if_neg h]
    refine ⟨fun h => by omega, ?_⟩
    rintro ⟨j, hj, e⟩
    rw [s1 j (by omega)] at e
    cases e
set_option maxHeartbeats 8000000 in
set_option maxRecDepth 100000 in
theorem idxg_some (f : Nat) (cb : Array Value) (p : Nat → Bool) (eg : ∀ args w, (callFunc f args).run Try.prog w = .ok (.enter f args) w)
    (b off n cap : Nat) (l : List (Int × Int)) (w : World) (n1 : n ≤ 1000) (hb : b < w.heap.size)
    (hc : Hid (∀ j, j < n → w.cell? ⟨b, off + j * 2, none⟩ = some (.int .i64 (gX l j)) ∧ w.cell? ⟨b, off + j * 2 + 1, none⟩ = some (.int .i64 (gR l j))))
    (hp : Hid (∀ j W, j < n → Below w.heap.size w W → Calls Try.prog f (#[.agg #[.int .i64 (gX l j), .int .i64 (gR l j)]] ++ cb) W fun e w' => e = .returned (.bool (p j)) ∧ Below W.heap.size W w')) :
    Calls Try.prog 60 #[.slice (some ⟨b, off, none⟩) n cap, .func (.func f) #[] cb] w fun e w' => e = .returned (.int .i64 (ixR p n)) ∧ Below w.heap.size w w' := by
  go_enter Try.func60, Try.ntmps60
  go_wp2_with fail
  go_loopw [5, 8] (fun _ i wr => ∃ k : Nat, k ≤ n ∧ i = .int .i64 k ∧ Hid (Below w.heap.size w wr) ∧ Hid (∀ j, j < k → p j = false)) (fun _ i _ => n - (intOf i).toNat)
  case atStart => exact ⟨0, Nat.zero_le _, rfl, Below.refl _ _, fun j hj => by omega⟩
  case round =>
    obtain ⟨k, hk, rfl, hB, ha⟩ := hrel
    by_cases hlt : k < n
    · have c0 : wr.cell? ⟨b, off + k * 2, none⟩ = some (.int .i64 (gX l k)) := by rw [(bcell hB.out).1 _ _ hb]; exact (hc.out k hlt).1
      have c1 : wr.cell? ⟨b, off + k * 2 + 1, none⟩ = some (.int .i64 (gR l k)) := by rw [(bcell hB.out).1 _ _ hb]; exact (hc.out k hlt).2
      have HP := Lib.hid (fun W (hW : Below wr.heap.size wr W) => hp.out k W hlt (bel_trans hB.out hW))
      cases hq : p k with
      | true =>
        have hBt := Lib.hid (ixR_at hlt ha.out hq)
        rw [hq] at HP
        clear hq
        generalize gX l k = x at *
        generalize gR l k = r at *
        go_wp2_with fail
        refine (HP.out _ (by first | exact Below.refl _ _ | exact bel_alloc (Below.refl _ _) | exact bel_drew _ | exact bel_alloc (bel_alloc (Below.refl _ _)))).mono ?_
        rintro e w2 ⟨rfl, gg⟩
        have X := Lib.hid (bel_trans hB.out gg); clear gg
        go_wp2
        go_returns
        exact ⟨by rw [hBt.out]; rfl, X.out⟩
      | false =>
        have ha2 : Hid (∀ j, j < k + 1 → p j = false) := fun j hj => by
          by_cases e : j = k
          · rw [e]; exact hq
          · exact ha.out j (by omega)
        rw [hq] at HP
        clear hq ha
        generalize gX l k = x at c0 HP
        generalize gR l k = r at c1 HP
        go_wp2_with fail
        refine (HP.out _ (by first | exact Below.refl _ _ | exact bel_alloc (Below.refl _ _) | exact bel_drew _ | exact bel_alloc (bel_alloc (Below.refl _ _)))).mono ?_
        rintro e w2 ⟨rfl, gg⟩
        have X := Lib.hid (bel_trans hB.out gg); clear gg
        go_wp2
        go_roundw
        case rel => exact ⟨k + 1, by omega, by go_num, X, ha2⟩
        case measure => simp [intOf]; omega
    · obtain rfl : k = n := by omega
      have hBf := Lib.hid (ixR_no ha.out)
      go_wp2
      go_returns
      exact ⟨by rw [hBf.out]; rfl, hB.out⟩
set_option maxHeartbeats 8000000 in
theorem idxg_nil (f : Value) (a : Option Addr) (cap : Nat) (p : Nat → Bool) (w : World) :
    Calls Try.prog 60 #[.slice a 0 cap, f] w fun e w' => e = .returned (.int .i64 (ixR p 0)) ∧ Below w.heap.size w w' := by
  have hBf : Hid (ixR p 0 = -1) := Lib.hid (ixR_no fun j hj => by omega)
  go_enter Try.func60, Try.ntmps60
  go_wp2_with fail
  go_loopw [5, 8] (fun _ i wr => i = .int .i64 0 ∧ Hid (Below w.heap.size w wr)) (fun _ _ _ => 0)
  case atStart => exact ⟨rfl, Below.refl _ _⟩
  case round =>
    obtain ⟨rfl, hB⟩ := hrel
    go_wp2
    go_returns
    exact ⟨by rw [hBf.out]; rfl, hB.out⟩
theorem cong_of (f : Value) (v : Value) (a : Option Addr) (n cap : Nat) (hv : v = .slice a n cap) (p : Nat → Bool) (B : Bool) (w : World)
    (HI : Hid (Calls Try.prog 60 #[v, f] w fun e w' => e = .returned (.int .i64 (ixR p n)) ∧ Below w.heap.size w w'))
    (hB : Hid (B = true ↔ ∃ j, j < n ∧ p j = true)) :
    Calls Try.prog 40 #[v, f] w fun e w' => e = .returned (.bool B) ∧ Below w.heap.size w w' := by
  subst hv
  have h : decide (0 ≤ ixR p n) = B := by
    rw [Bool.eq_iff_iff, decide_eq_true_eq, ixR_iff]; exact hB.out.symm
  clear hB
  generalize ixR p n = k at *
  subst h
  go_enter Try.func40, Try.ntmps40
  go_wp2_with fail
  refine HI.out.mono ?_
  rintro e w1 ⟨rfl, hb⟩
  have HB := Lib.hid hb; clear hb
  go_wp2
  all_goals
    go_ret
    exact ⟨by simp_all, HB.out⟩
/-- IndexFunc over a slice that reads as marks -/
theorem idxg_any (f : Nat) (cb : Array Value) (p : Nat → Bool) (eg : ∀ args w, (callFunc f args).run Try.prog w = .ok (.enter f args) w)
    (v : Value) (l : List (Int × Int)) (w : World) (n1 : l.length ≤ 1000) (hv : Pts w v l)
    (hp : Hid (∀ j W, j < l.length → Below w.heap.size w W → Calls Try.prog f (#[.agg #[.int .i64 (gX l j), .int .i64 (gR l j)]] ++ cb) W fun e w' => e = .returned (.bool (p j)) ∧ Below W.heap.size W w')) :
    Calls Try.prog 60 #[v, .func (.func f) #[] cb] w fun e w' => e = .returned (.int .i64 (ixR p l.length)) ∧ Below w.heap.size w w' := by
  obtain ⟨a, cap, rfl, hcap, hh⟩ := hv
  rcases hh with h0 | ⟨b, off, rfl, hb, hc⟩
  · rw [h0]; exact idxg_nil _ a cap p w
  · exact idxg_some f cb p eg b off _ cap l w n1 hb (Lib.hid hc) hp
set_option maxHeartbeats 8000000 in
set_option maxRecDepth 100000 in
theorem idxc_some (f : Nat) (cb : Array Value) (p : Nat → Bool) (eg : ∀ args w, (callFunc f args).run Try.prog w = .ok (.enter f args) w)
    (b off n cap : Nat) (l : List (Int × Int)) (w : World) (n1 : n ≤ 1000) (hb : b < w.heap.size)
    (hc : Hid (∀ j, j < n → w.cell? ⟨b, off + j * 2, none⟩ = some (.int .i64 (gX l j)) ∧ w.cell? ⟨b, off + j * 2 + 1, none⟩ = some (.int .i64 (gR l j))))
    (hp : Hid (∀ j W, j < n → Below w.heap.size w W → Calls Try.prog f (#[.agg #[.int .i64 (gX l j), .int .i64 (gR l j)]] ++ cb) W fun e w' => e = .returned (.bool (p j)) ∧ Below W.heap.size W w')) :
    Calls Try.prog 55 #[.slice (some ⟨b, off, none⟩) n cap, .func (.func f) #[] cb] w fun e w' => e = .returned (.int .i64 (ixR p n)) ∧ Below w.heap.size w w' := by
  go_enter Try.func55, Try.ntmps55
  go_wp2_with fail
  go_loopw [5, 8] (fun _ i wr => ∃ k : Nat, k ≤ n ∧ i = .int .i64 k ∧ Hid (Below w.heap.size w wr) ∧ Hid (∀ j, j < k → p j = false)) (fun _ i _ => n - (intOf i).toNat)
  case atStart => exact ⟨0, Nat.zero_le _, rfl, Below.refl _ _, fun j hj => by omega⟩
  case round =>
    obtain ⟨k, hk, rfl, hB, ha⟩ := hrel
    by_cases hlt : k < n
    · have c0 : wr.cell? ⟨b, off + k * 2, none⟩ = some (.int .i64 (gX l k)) := by rw [(bcell hB.out).1 _ _ hb]; exact (hc.out k hlt).1
      have c1 : wr.cell? ⟨b, off + k * 2 + 1, none⟩ = some (.int .i64 (gR l k)) := by rw [(bcell hB.out).1 _ _ hb]; exact (hc.out k hlt).2
      have HP := Lib.hid (fun W (hW : Below wr.heap.size wr W) => hp.out k W hlt (bel_trans hB.out hW))
      cases hq : p k with
      | true =>
        have hBt := Lib.hid (ixR_at hlt ha.out hq)
        rw [hq] at HP
        clear hq
        generalize gX l k = x at *
        generalize gR l k = r at *
        go_wp2_with fail
        refine (HP.out _ (by first | exact Below.refl _ _ | exact bel_alloc (Below.refl _ _) | exact bel_drew _ | exact bel_alloc (bel_alloc (Below.refl _ _)))).mono ?_
        rintro e w2 ⟨rfl, gg⟩
        have X := Lib.hid (bel_trans hB.out gg); clear gg
        go_wp2
        go_returns
        exact ⟨by rw [hBt.out]; rfl, X.out⟩
      | false =>
        have ha2 : Hid (∀ j, j < k + 1 → p j = false) := fun j hj => by
          by_cases e : j = k
          · rw [e]; exact hq
          · exact ha.out j (by omega)
        rw [hq] at HP
        clear hq ha
        generalize gX l k = x at c0 HP
        generalize gR l k = r at c1 HP
        go_wp2_with fail
        refine (HP.out _ (by first | exact Below.refl _ _ | exact bel_alloc (Below.refl _ _) | exact bel_drew _ | exact bel_alloc (bel_alloc (Below.refl _ _)))).mono ?_
        rintro e w2 ⟨rfl, gg⟩
        have X := Lib.hid (bel_trans hB.out gg); clear gg
        go_wp2
        go_roundw
        case rel => exact ⟨k + 1, by omega, by go_num, X, ha2⟩
        case measure => simp [intOf]; omega
    · obtain rfl : k = n := by omega
      have hBf := Lib.hid (ixR_no ha.out)
      go_wp2
      go_returns
      exact ⟨by rw [hBf.out]; rfl, hB.out⟩
set_option maxHeartbeats 8000000 in
theorem idxc_nil (f : Value) (a : Option Addr) (cap : Nat) (p : Nat → Bool) (w : World) :
    Calls Try.prog 55 #[.slice a 0 cap, f] w fun e w' => e = .returned (.int .i64 (ixR p 0)) ∧ Below w.heap.size w w' := by
  have hBf : Hid (ixR p 0 = -1) := Lib.hid (ixR_no fun j hj => by omega)
  go_enter Try.func55, Try.ntmps55
  go_wp2_with fail
  go_loopw [5, 8] (fun _ i wr => i = .int .i64 0 ∧ Hid (Below w.heap.size w wr)) (fun _ _ _ => 0)
  case atStart => exact ⟨rfl, Below.refl _ _⟩
  case round =>
    obtain ⟨rfl, hB⟩ := hrel
    go_wp2
    go_returns
    exact ⟨by rw [hBf.out]; rfl, hB.out⟩
theorem conc_of (f : Value) (v : Value) (a : Option Addr) (n cap : Nat) (hv : v = .slice a n cap) (p : Nat → Bool) (B : Bool) (w : World)
    (HI : Hid (Calls Try.prog 55 #[v, f] w fun e w' => e = .returned (.int .i64 (ixR p n)) ∧ Below w.heap.size w w'))
    (hB : Hid (B = true ↔ ∃ j, j < n ∧ p j = true)) :
    Calls Try.prog 29 #[v, f] w fun e w' => e = .returned (.bool B) ∧ Below w.heap.size w w' := by
  subst hv
  have h : decide (0 ≤ ixR p n) = B := by
    rw [Bool.eq_iff_iff, decide_eq_true_eq, ixR_iff]; exact hB.out.symm
  clear hB
  generalize ixR p n = k at *
  subst h
  go_enter Try.func29, Try.ntmps29
  go_wp2_with fail
  refine HI.out.mono ?_
  rintro e w1 ⟨rfl, hb⟩
  have HB := Lib.hid hb; clear hb
  go_wp2
  all_goals
    go_ret
    exact ⟨by simp_all, HB.out⟩
/-- IndexFunc over a slice that reads as marks -/
theorem idxc_any (f : Nat) (cb : Array Value) (p : Nat → Bool) (eg : ∀ args w, (callFunc f args).run Try.prog w = .ok (.enter f args) w)
    (v : Value) (l : List (Int × Int)) (w : World) (n1 : l.length ≤ 1000) (hv : Pts w v l)
    (hp : Hid (∀ j W, j < l.length → Below w.heap.size w W → Calls Try.prog f (#[.agg #[.int .i64 (gX l j), .int .i64 (gR l j)]] ++ cb) W fun e w' => e = .returned (.bool (p j)) ∧ Below W.heap.size W w')) :
    Calls Try.prog 55 #[v, .func (.func f) #[] cb] w fun e w' => e = .returned (.int .i64 (ixR p l.length)) ∧ Below w.heap.size w w' := by
  obtain ⟨a, cap, rfl, hcap, hh⟩ := hv
  rcases hh with h0 | ⟨b, off, rfl, hb, hc⟩
  · rw [h0]; exact idxc_nil _ a cap p w
  · exact idxc_some f cb p eg b off _ cap l w n1 hb (Lib.hid hc) hp

set_option maxHeartbeats 8000000 in
theorem inxg_any (v : Value) (l : List (Int × Int)) (x r : Int) (w : World) (n1 : l.length ≤ 1000) (hv : Pts w v l) :
    Calls Try.prog 61 #[v, .agg #[.int .i64 x, .int .i64 r]] w fun e w' => e = .returned (.int .i64 (ixR (fun j => samP x r (gX l j) (gR l j)) l.length)) ∧ Below w.heap.size w w' := by
  obtain ⟨a, cap, rfl, hl, hh⟩ := hv
  have HC : Hid (∀ k, k < l.length → ∃ b off, a = some ⟨b, off, none⟩ ∧ ∀ W, Below w.heap.size w W → W.cell? ⟨b, off + k * 2, none⟩ = some (.int .i64 (gX l k)) ∧ W.cell? ⟨b, off + k * 2 + 1, none⟩ = some (.int .i64 (gR l k))) := Lib.hid fun k hk => by
    rcases hh with hh | ⟨b, off, rfl, hb, hc⟩
    · omega
    · exact ⟨b, off, rfl, fun W hW => ⟨cell_bel (hc k hk).1 hW, cell_bel (hc k hk).2 hW⟩⟩
  obtain ⟨p, hp⟩ : ∃ p, p = (fun j => samP x r (gX l j) (gR l j)) := ⟨_, rfl⟩
  rw [← hp]
  replace hp := Lib.hid hp
  have T0 := Lib.hid (Two.new w (.int .i64 x) (.int .i64 r) 46)
  have X0 := Lib.hid (bel_alloc (w := w) (o := .cells #[.int .i64 x, .int .i64 r] 46) (Below.refl _ _))
  clear hh
  generalize hN : l.length = n at *
  replace hN := Lib.hid hN
  go_enter Try.func61, Try.ntmps61
  go_wp2_with fail
  generalize w.alloc (.cells #[.int .i64 x, .int .i64 r] 46) = W0 at *
  go_loopw [8] (fun i wr => ∃ k : Nat, k ≤ n ∧ i = .int .i64 k ∧ Hid (Below W0.heap.size W0 wr) ∧ Hid (∀ j, j < k → p j = false)) (fun i _ => n - (intOf i).toNat)
  case atStart => exact ⟨0, Nat.zero_le _, rfl, Below.refl _ _, fun j hj => by omega⟩
  case round =>
    obtain ⟨k, hk, rfl, hB, ha⟩ := hrel
    have XB := Lib.hid (bel_trans X0.out hB.out)
    by_cases hlt : k < n
    · obtain ⟨b, off, rfl, hcc⟩ := HC.out k hlt
      obtain ⟨c0, c1⟩ := hcc wr XB.out
      obtain ⟨t0, t1, _, _, _⟩ := T0.out.below hB.out
      have l0 : (k : Int) < (n : Int) := by omega
      have hpk : Hid (p k = samP x r (gX l k) (gR l k)) := Lib.hid (by rw [hp.out])
      have BD := Lib.hid (fun q => bel_drewN wr q)
      clear hcc
      cases hq : p k with
      | true =>
        have hBt := Lib.hid (ixR_at hlt ha.out hq)
        rw [hq] at hpk
        generalize gX l k = y at *
        generalize gR l k = s at *
        have Q : ∀ W, (binOp .eql 46 (.agg #[.int .i64 x, .int .i64 r]) (.agg #[.int .i64 y, .int .i64 s])).run Try.prog W = .ok (.bool true) W := fun W => by rw [run_eql_point, ← hpk.out]
        clear hq
        go_wp2_with fail
        go_quiet (fail)
        go_wp2
        go_returns
        exact ⟨by rw [hBt.out]; rfl, bel_trans XB.out (BD.out _)⟩
      | false =>
        have ha2 : Hid (∀ j, j < k + 1 → p j = false) := fun j hj => by
          by_cases e : j = k
          · rw [e]; exact hq
          · exact ha.out j (by omega)
        rw [hq] at hpk
        generalize gX l k = y at c0 hpk
        generalize gR l k = s at c1 hpk
        have Q : ∀ W, (binOp .eql 46 (.agg #[.int .i64 x, .int .i64 r]) (.agg #[.int .i64 y, .int .i64 s])).run Try.prog W = .ok (.bool false) W := fun W => by rw [run_eql_point, ← hpk.out]
        clear hq ha
        go_wp2_with fail
        go_quiet (fail)
        go_wp2
        go_roundw
        case rel => exact ⟨k + 1, by omega, by go_num, bel_trans hB.out (BD.out _), ha2⟩
        case measure => simp [intOf]; omega
    · obtain rfl : k = n := by omega
      have hBf := Lib.hid (ixR_no ha.out)
      go_wp2
      go_returns
      exact ⟨by rw [hBf.out]; rfl, XB.out⟩
set_option maxHeartbeats 8000000 in
/-- Contains -/
theorem hasg_any (v : Value) (l : List (Int × Int)) (x r : Int) (w : World) (n1 : l.length ≤ 1000) (hv : Pts w v l) :
    Calls Try.prog 42 #[v, .agg #[.int .i64 x, .int .i64 r]] w fun e w' => e = .returned (.bool (decide ((x, r) ∈ l))) ∧ Below w.heap.size w w' := by
  have h : decide (0 ≤ ixR (fun j => samP x r (gX l j) (gR l j)) l.length) = decide ((x, r) ∈ l) := by
    rw [Bool.eq_iff_iff, decide_eq_true_eq, decide_eq_true_eq, ixR_iff]
    constructor
    · rintro ⟨j, hj, e⟩
      simp only [samP, Bool.and_eq_true, beq_iff_eq] at e
      rw [e.1, e.2]; exact gx_mem hj
    · intro hm
      obtain ⟨i, hi, e1, e2⟩ := mem_gx hm
      exact ⟨i, hi, by simp only at e1 e2; simp [samP, e1, e2]⟩
  have HI := Lib.hid (fun W hW => inxg_any v l x r W n1 (hv.below hW))
  have X0 := Lib.hid (bel_alloc (w := w) (o := .cells #[.int .i64 x, .int .i64 r] 46) (Below.refl _ _))
  generalize ixR (fun j => samP x r (gX l j) (gR l j)) l.length = k at *
  generalize decide ((x, r) ∈ l) = B at *
  subst h
  go_enter Try.func42, Try.ntmps42
  go_wp2_with fail
  refine (HI.out _ X0.out).mono ?_
  rintro e w1 ⟨rfl, hb⟩
  have HB := Lib.hid (bel_trans X0.out hb); clear hb
  go_wp2
  go_returns
  exact ⟨rfl, HB.out⟩

set_option maxHeartbeats 8000000 in
theorem inxc_any (v : Value) (l : List (Int × Int)) (x r : Int) (w : World) (n1 : l.length ≤ 1000) (hv : Pts w v l) :
    Calls Try.prog 58 #[v, .agg #[.int .i64 x, .int .i64 r]] w fun e w' => e = .returned (.int .i64 (ixR (fun j => samB x r (gX l j) (gR l j)) l.length)) ∧ Below w.heap.size w w' := by
  obtain ⟨a, cap, rfl, hl, hh⟩ := hv
  have HC : Hid (∀ k, k < l.length → ∃ b off, a = some ⟨b, off, none⟩ ∧ ∀ W, Below w.heap.size w W → W.cell? ⟨b, off + k * 2, none⟩ = some (.int .i64 (gX l k)) ∧ W.cell? ⟨b, off + k * 2 + 1, none⟩ = some (.int .i64 (gR l k))) := Lib.hid fun k hk => by
    rcases hh with hh | ⟨b, off, rfl, hb, hc⟩
    · omega
    · exact ⟨b, off, rfl, fun W hW => ⟨cell_bel (hc k hk).1 hW, cell_bel (hc k hk).2 hW⟩⟩
  obtain ⟨p, hp⟩ : ∃ p, p = (fun j => samB x r (gX l j) (gR l j)) := ⟨_, rfl⟩
  rw [← hp]
  replace hp := Lib.hid hp
  have T0 := Lib.hid (Two.new w (.int .i64 x) (.int .i64 r) 33)
  have X0 := Lib.hid (bel_alloc (w := w) (o := .cells #[.int .i64 x, .int .i64 r] 33) (Below.refl _ _))
  clear hh
  generalize hN : l.length = n at *
  replace hN := Lib.hid hN
  go_enter Try.func58, Try.ntmps58
  go_wp2_with fail
  generalize w.alloc (.cells #[.int .i64 x, .int .i64 r] 33) = W0 at *
  go_loopw [8] (fun i wr => ∃ k : Nat, k ≤ n ∧ i = .int .i64 k ∧ Hid (Below W0.heap.size W0 wr) ∧ Hid (∀ j, j < k → p j = false)) (fun i _ => n - (intOf i).toNat)
  case atStart => exact ⟨0, Nat.zero_le _, rfl, Below.refl _ _, fun j hj => by omega⟩
  case round =>
    obtain ⟨k, hk, rfl, hB, ha⟩ := hrel
    have XB := Lib.hid (bel_trans X0.out hB.out)
    by_cases hlt : k < n
    · obtain ⟨b, off, rfl, hcc⟩ := HC.out k hlt
      obtain ⟨c0, c1⟩ := hcc wr XB.out
      obtain ⟨t0, t1, _, _, _⟩ := T0.out.below hB.out
      have l0 : (k : Int) < (n : Int) := by omega
      have hpk : Hid (p k = samB x r (gX l k) (gR l k)) := Lib.hid (by rw [hp.out])
      have BD := Lib.hid (fun q => bel_drewN wr q)
      clear hcc
      cases hq : p k with
      | true =>
        have hBt := Lib.hid (ixR_at hlt ha.out hq)
        rw [hq] at hpk
        generalize gX l k = y at *
        generalize gR l k = s at *
        have Q : ∀ W, (binOp .eql 33 (.agg #[.int .i64 x, .int .i64 r]) (.agg #[.int .i64 y, .int .i64 s])).run Try.prog W = .ok (.bool true) W := fun W => by rw [run_eql_clash, ← hpk.out]
        clear hq
        go_wp2_with fail
        go_quiet (fail)
        go_wp2
        go_returns
        exact ⟨by rw [hBt.out]; rfl, bel_trans XB.out (BD.out _)⟩
      | false =>
        have ha2 : Hid (∀ j, j < k + 1 → p j = false) := fun j hj => by
          by_cases e : j = k
          · rw [e]; exact hq
          · exact ha.out j (by omega)
        rw [hq] at hpk
        generalize gX l k = y at c0 hpk
        generalize gR l k = s at c1 hpk
        have Q : ∀ W, (binOp .eql 33 (.agg #[.int .i64 x, .int .i64 r]) (.agg #[.int .i64 y, .int .i64 s])).run Try.prog W = .ok (.bool false) W := fun W => by rw [run_eql_clash, ← hpk.out]
        clear hq ha
        go_wp2_with fail
        go_quiet (fail)
        go_wp2
        go_roundw
        case rel => exact ⟨k + 1, by omega, by go_num, bel_trans hB.out (BD.out _), ha2⟩
        case measure => simp [intOf]; omega
    · obtain rfl : k = n := by omega
      have hBf := Lib.hid (ixR_no ha.out)
      go_wp2
      go_returns
      exact ⟨by rw [hBf.out]; rfl, XB.out⟩
set_option maxHeartbeats 8000000 in
/-- Contains -/
theorem hasc_any (v : Value) (l : List (Int × Int)) (x r : Int) (w : World) (n1 : l.length ≤ 1000) (hv : Pts w v l) :
    Calls Try.prog 37 #[v, .agg #[.int .i64 x, .int .i64 r]] w fun e w' => e = .returned (.bool (decide ((x, r) ∈ l))) ∧ Below w.heap.size w w' := by
  have h : decide (0 ≤ ixR (fun j => samB x r (gX l j) (gR l j)) l.length) = decide ((x, r) ∈ l) := by
    rw [Bool.eq_iff_iff, decide_eq_true_eq, decide_eq_true_eq, ixR_iff]
    constructor
    · rintro ⟨j, hj, e⟩
      simp only [samB, Bool.and_eq_true, beq_iff_eq] at e
      rw [e.1, e.2]; exact gx_mem hj
    · intro hm
      obtain ⟨i, hi, e1, e2⟩ := mem_gx hm
      exact ⟨i, hi, by simp only at e1 e2; simp [samB, e1, e2]⟩
  have HI := Lib.hid (fun W hW => inxc_any v l x r W n1 (hv.below hW))
  have X0 := Lib.hid (bel_alloc (w := w) (o := .cells #[.int .i64 x, .int .i64 r] 33) (Below.refl _ _))
  generalize ixR (fun j => samB x r (gX l j) (gR l j)) l.length = k at *
  generalize decide ((x, r) ∈ l) = B at *
  subst h
  go_enter Try.func37, Try.ntmps37
  go_wp2_with fail
  refine (HI.out _ X0.out).mono ?_
  rintro e w1 ⟨rfl, hb⟩
  have HB := Lib.hid (bel_trans X0.out hb); clear hb
  go_wp2
  go_returns
  exact ⟨rfl, HB.out⟩
end Go.Proofs.Ytooofppgjknigaa

/- What AuditTolerates calls; tolerances. -/
namespace Go.Proofs.Ytooofppgjknigaa
open Go.RowKit

theorem bxd_below {W W' : World} {b : Nat} {t : TypeId} {v : Value} (h : Boxed W b t v) (hb : Below W.heap.size W W') : Boxed W' b t v := by
  show W'.heap[b]? = _
  rw [hb.block _ h.lt]
  exact h
set_option maxHeartbeats 4000000 in
theorem tolC_any (q : Nat) (V : Value) (x r : Int) (B : Bool) (w : World) (hq : w.cell? ⟨q, 0, none⟩ = some V) (hlt : q < w.heap.size)
    (H : Hid (∀ W, Below w.heap.size w W → Calls Try.prog 37 #[V, .agg #[.int .i64 x, .int .i64 r]] W fun e w' => e = .returned (.bool B) ∧ Below W.heap.size W w')) :
    Calls Try.prog 36 #[.agg #[.int .i64 x, .int .i64 r], .pointer (some ⟨q, 0, none⟩)] w fun e w' => e = .returned (.bool (!B)) ∧ Below w.heap.size w w' := by
  have c0 : ∀ o, (w.alloc o).cell? ⟨q, 0, none⟩ = some V := fun o => by rw [World.cell?_alloc_lt w o _ hlt]; exact hq
  have X0 := Lib.hid (bel_alloc (w := w) (o := .cells #[.int .i64 x, .int .i64 r] 33) (Below.refl _ _))
  go_enter Try.func36, Try.ntmps36
  go_wp2_with fail
  refine (H.out _ X0.out).mono ?_
  rintro e w1 ⟨rfl, gg⟩
  have X1 := Lib.hid (bel_trans X0.out gg); clear gg
  go_wp2
  go_returns
  exact ⟨rfl, X1.out⟩
/-- the clashes with one more of tolerance are among them -/
theorem tol_any (q : Nat) (V u : Value) (C D : List (Int × Int)) (w : World) (hC : C.length ≤ 1000) (hD : D.length ≤ 1000) (hu : Pts w u D) (hV : Pts w V C) (hq : w.cell? ⟨q, 0, none⟩ = some V) (hlt : q < w.heap.size) (hs : ∀ c ∈ D, c ∈ C) :
    Calls Try.prog 29 #[u, .func (.func 36) #[] #[.pointer (some ⟨q, 0, none⟩)]] w fun e w' => e = .returned (.bool false) ∧ Below w.heap.size w w' := by
  obtain ⟨a, cap, rfl, _, _⟩ := hu.shape
  refine conc_of _ _ a D.length cap rfl (fun j => !decide ((gX D j, gR D j) ∈ C)) false _ (Lib.hid ?_) (Lib.hid ?_)
  · exact idxc_any 36 #[.pointer (some ⟨q, 0, none⟩)] (fun j => !decide ((gX D j, gR D j) ∈ C)) (enters_of Try.func36 (by kernel_rfl) rfl) _ D w hD hu
      (Lib.hid fun j W hj hW => tolC_any q V _ _ _ W (cell_bel hq hW) (Nat.lt_of_lt_of_le hlt hW.size) (Lib.hid fun W2 hW2 => hasc_any V C _ _ W2 hC ((hV.below hW).below hW2)))
  · constructor
    · intro h; cases h
    · rintro ⟨j, hj, e⟩
      have := hs _ (gx_mem hj)
      simp [this] at e
theorem ex_bd {l : List (Int × Int)} (hA : AR l) {j k : Nat} (hj : j < l.length) (hk : k < l.length) : ex l j k ≤ 70000 :=
  (exd_bd (hA.b j hj).2.2 (hA.b k hk).2.2).2
theorem leV_bd {l : List (Int × Int)} (hA : AR l) : 0 ≤ leV l ∧ leV l ≤ 70000 := by
  unfold leV
  rw [if_pos (auE_zero.2 hA)]
  exact ⟨mxA_pos _ _ _, (mxA_le (by omega)).2 fun j i hj hi _ => ex_bd hA hj hi⟩
theorem leV_le {l : List (Int × Int)} (hA : AR l) {M : Int} (hM : 0 ≤ M) : leV l ≤ M ↔ ∀ j i, j < l.length → i < l.length → j < i → ex l j i ≤ M := by
  unfold leV
  rw [if_pos (auE_zero.2 hA)]
  exact mxA_le hM
theorem ccE_ok {l : List (Int × Int)} (hA : AR l) {t : Int} (t0 : 0 ≤ t) (t1 : t ≤ 120000) : ccE l t = 0 := by
  have := auE_zero.2 hA
  unfold ccE
  rw [if_neg (by omega), if_neg (by omega)]
theorem ccL_ok {l : List (Int × Int)} (hA : AR l) {t : Int} (t0 : 0 ≤ t) (t1 : t ≤ 120000) : ccL l t = clA l t l.length l.length := by
  unfold ccL; rw [if_pos (ccE_ok hA t0 t1)]
theorem ccL_len (l : List (Int × Int)) (t : Int) (h : l.length ≤ 20) : (ccL l t).length ≤ 400 := by
  unfold ccL
  split
  · have h1 := clA_len l t l.length l.length
    have h2 : l.length * l.length ≤ 20 * 20 := Nat.mul_le_mul h h
    omega
  · simp
/-- with a tolerance there is no clash just if it is at least the least one -/
theorem ccL_nil {l : List (Int × Int)} (hA : AR l) {t : Int} (t0 : 0 ≤ t) (t1 : t ≤ 120000) : (ccL l t).length = 0 ↔ leV l ≤ t := by
  rw [ccL_ok hA t0 t1, leV_le hA t0]
  constructor
  · intro h j i hj hi hji
    rcases Int.lt_or_le t (ex l j i) with g | g
    · have := clA_mem.2 ⟨j, i, hj, hi, hji, g, rfl⟩
      rw [List.length_eq_zero_iff.1 h] at this
      cases this
    · exact g
  · intro h
    rw [List.length_eq_zero_iff, List.eq_nil_iff_forall_not_mem]
    intro c hc
    obtain ⟨j, i, hj, hi, hji, g, _⟩ := clA_mem.1 hc
    have := h j i hj hi hji
    omega
theorem ccL_sub {l : List (Int × Int)} (hA : AR l) {t : Int} (t0 : 0 ≤ t) (t1 : t + 1 ≤ 120000) : ∀ c ∈ ccL l (t + 1), c ∈ ccL l t := by
  intro c hc
  rw [ccL_ok hA (by omega) t1] at hc
  rw [ccL_ok hA t0 (by omega)]
  obtain ⟨j, i, hj, hi, hji, g, e⟩ := clA_mem.1 hc
  exact clA_mem.2 ⟨j, i, hj, hi, hji, by omega, e⟩
end Go.Proofs.Ytooofppgjknigaa

/- The reference of layer 17: lengths. -/
namespace Go.Proofs.Ytooofppgjknigaa
open Go.RowKit

theorem info_int' : (Try.prog.info? 3).map (fun i => (i.zero, i.size, i.bytes)) = some (some (.int .i64 0), 1, 8) := by kernel_rfl
theorem made_ints (n : Nat) : madeCells (Value.int .i64 0).cells (n * 1) = (aL n fun _ => 0).toArray := by
  rw [Nat.mul_one]
  apply Array.ext
  · simp [madeCells, aL]
  · intro i h1 h2
    simp [madeCells, aL, Value.cells, Nat.mod_one]
theorem make_ints (n : Nat) (hn : n ≤ 1000) (w : World) : (Instr.makeSlice 35 (.int .i64 n) (.int .i64 n)).run Try.prog w = .ok (.slice (some ⟨w.heap.size, 0, none⟩) n n) (w.alloc (.cells (aL n fun _ => 0).toArray 3)) := by
  obtain ⟨i0, hi, hz0, hz1, hz2⟩ := info_parts info_int'
  have := run_makeSlice (P := Try.prog) w 35 3 i0 (.int .i64 0) Try.underlying35 hi hz0 .i64 .i64 n n (by omega) (by omega) (by rw [hz1]; simp; omega) (by rw [hz2]; omega) (by omega)
  rw [this, hz1, Int.toNat_natCast, made_ints]
/-- the row while row i is being measured -/
def lgJ (l : List (Int × Int)) (n m i k : Nat) : Nat → Int := fun j => if j = i then 1 + mxf l (lgT l n m) i k else lgT l n m j
def LnI (w : World) (n : Nat) (f : Nat → Int) (W : World) : Prop := ArrB n w.heap.size W f ∧ Below w.heap.size w W
theorem LnI.below {w W W' : World} {n : Nat} {f : Nat → Int} (h : LnI w n f W) (hb : Below W.heap.size W W') : LnI w n f W' := ⟨h.1.below hb, bel_trans h.2 hb⟩
theorem LnI.set {w W : World} {n : Nat} {f : Nat → Int} (h : LnI w n f W) (i : Nat) (x : Int) (g : Nat → Int) (hg : ∀ j, j < n → g j = if j = i then x else f j) : LnI w n g (W.setCell ⟨w.heap.size, i, none⟩ (.int .i64 x)) :=
  ⟨h.1.set i x g hg, h.2.setCell (p := ⟨w.heap.size, i, none⟩) (Nat.le_refl _) _⟩
theorem wpAnyH_takeD {P : Program} {ops : Array Oper} {Q : Exit → Act → World → Prop} {md : Region.Mode} {S : World → Prop} {i : Nat} {oi : Oper} {v : Value} {fuel : Nat} {listed : Array Bool} {a : Act} {w : World} (d : Option Tmp) (hi : ops[i]? = some oi) (hd : oi.dst = d)
    (hs : Region.noSelect ops = true) (hf : Region.free md ops listed i = true) (hr : (Region.ready md ops listed).contains i = true)
    (hQ : ∀ c a w, Q (.panic c) (a.put oi.dst v) w → Q (.panic c) a w) (hy : YieldsIf P ops S oi v a) (hS : S w)
    (h : wpAnyH P md ops Q S fuel (listed.setIfInBounds i true) (a.put d v) w) : wpAnyH P md ops Q S (fuel + 1) listed a w := by
  subst hd
  exact wpAnyH_take hi hs hf hr hQ hy hS h
set_option maxHeartbeats 32000000 in
set_option maxRecDepth 100000 in
theorem rln_some (b off n cap : Nat) (l : List (Int × Int)) (w : World) (n0 : 1 ≤ n) (n1 : n ≤ 128) (hb : b < w.heap.size)
    (hc : Hid (∀ j, j < n → w.cell? ⟨b, off + j * 2, none⟩ = some (.int .i64 (gX l j)) ∧ w.cell? ⟨b, off + j * 2 + 1, none⟩ = some (.int .i64 (gR l j))))
    (hd : Hid (∀ j, j < n → 50000 ≤ gR l j ∧ gR l j ≤ 120000)) :
    Calls Try.prog 51 #[.slice (some ⟨b, off, none⟩) n cap] w fun e w' => e = .returned (.slice (some ⟨w.heap.size, 0, none⟩) n n) ∧ ArrB n w.heap.size w' (lgT l n n) ∧ Below w.heap.size w w' := by
  have MK := make_ints n (by omega)
  have S0 : Hid (LnI w n (lgT l n 0) (w.alloc (.cells (aL n fun _ => 0).toArray 3))) := Lib.hid ⟨ArrB.new n w _ _, bel_alloc (Below.refl _ _)⟩
  generalize hZ : (aL n fun _ => 0).toArray = ZA at *
  replace hZ := Lib.hid hZ
  have wn : IntKind.i64.wrap ((n : Int) - 1) = (n : Int) - 1 := wrap_in _ ⟨by omega, by omega⟩
  go_enter Try.func51, Try.ntmps51
  go_wp2_with fail
  generalize w.alloc (.cells ZA 3) = W0 at *
  go_loopw [4] (fun ii wr => ∃ m : Nat, m ≤ n ∧ ii = .int .i64 ((n : Int) - 1 - m) ∧ Hid (LnI w n (lgT l n m) wr)) (fun ii _ => (intOf ii + 1).toNat)
  case atStart => exact ⟨0, Nat.zero_le _, by simp, S0⟩
  case round =>
    clear S0
    obtain ⟨m, hm, rfl, hS⟩ := hrel
    by_cases hlt : m < n
    · obtain ⟨i, hi⟩ : ∃ i : Nat, i = n - 1 - m := ⟨_, rfl⟩
      have ei : (n : Int) - 1 - m = (i : Int) := by omega
      rw [ei]
      have d0 : decide (0 ≤ (i : Int)) = true := decide_eq_true (by omega)
      have l0 : (i : Int) < (n : Int) := by omega
      have wi : IntKind.i64.wrap ((i : Int) + 1) = (i : Int) + 1 := wrap_in _ ⟨by omega, by omega⟩
      have hin : i < n := by omega
      have wi2 : IntKind.i64.wrap ((i : Int) - 1) = (i : Int) - 1 := wrap_in _ ⟨by omega, by omega⟩
      obtain ⟨z0, z1⟩ := hS.out.1.1 i hin
      have S1 : Hid (LnI w n (lgJ l n m i (i + 1)) (wr.setCell ⟨w.heap.size, i, none⟩ (.int .i64 1))) := Lib.hid (hS.out.set i 1 _ (fun j _ => by
        unfold lgJ
        by_cases e : j = i
        · rw [if_pos e, if_pos e, mxf_start _ _ _ _ (Nat.le_refl _)]; rfl
        · rw [if_neg e, if_neg e]))
      replace hi := Lib.hid hi
      replace ei := Lib.hid ei
      clear hS
      go_wp2_with fail
      clear z0 z1
      generalize wr.setCell ⟨w.heap.size, i, none⟩ (.int .i64 1) = W1 at *
      go_loopw [5] (fun kk wr => ∃ k : Nat, i + 1 ≤ k ∧ k ≤ n ∧ kk = .int .i64 (k : Int) ∧ Hid (LnI w n (lgJ l n m i k) wr)) (fun kk _ => n - (intOf kk).toNat)
      case atStart => exact ⟨i + 1, Nat.le_refl _, by omega, by go_num, S1⟩
      case round =>
        clear S1
        obtain ⟨k, hk0, hk, rfl, hS⟩ := hrel
        by_cases hlt2 : k < n
        · have c0 := cell_bel (hc.out i hin).1 hS.out.2
          have c1 := cell_bel (hc.out i hin).2 hS.out.2
          have c2 := cell_bel (hc.out k hlt2).1 hS.out.2
          have c3 := cell_bel (hc.out k hlt2).2 hS.out.2
          have HM := Lib.hid (fun W => rcl_any (gX l i) (gR l i) (gX l k) (gR l k) W (hd.out i hin) (hd.out k hlt2))
          have l1 : (k : Int) < (n : Int) := by omega
          have XD := Lib.hid (bel_drew wr)
          have FA : Hid (lgJ l n m i k i = 1 + mxf l (lgT l n m) i k ∧ lgJ l n m i k k = lgT l n m k) := Lib.hid ⟨by unfold lgJ; rw [if_pos rfl], by unfold lgJ; rw [if_neg (by omega)]⟩
          obtain ⟨a0, a1⟩ := hS.out.1.1 i hin
          obtain ⟨b0, b1⟩ := hS.out.1.1 k hlt2
          rw [FA.out.1] at a0
          rw [FA.out.2] at b0
          have bd1 := lgT_bd l n m k
          have bd2 := mxf_bd (l := l) (g := lgT l n m) (M := m) (by omega) (lgT_bd l n m) i k
          have PM : Hid (mxf l (lgT l n m) i (k + 1) = if i < k ∧ ex l i k ≤ 0 then max (mxf l (lgT l n m) i k) (lgT l n m k) else mxf l (lgT l n m) i k) := Lib.hid rfl
          have hex : Hid (ex l i k = exd (gX l i) (gR l i) (gX l k) (gR l k)) := Lib.hid rfl
          by_cases g : ex l i k ≤ 0
          · have dg : decide (exd (gX l i) (gR l i) (gX l k) (gR l k) ≤ 0) = true := decide_eq_true g
            by_cases g2 : mxf l (lgT l n m) i k < lgT l n m k
            · have GN : Hid (∀ j, j < n → lgJ l n m i (k + 1) j = if j = i then lgT l n m k + 1 else lgJ l n m i k j) := Lib.hid (fun j _ => by
                unfold lgJ
                by_cases e : j = i
                · rw [if_pos e, if_pos e, PM.out, if_pos ⟨by omega, g⟩]; omega
                · rw [if_neg e, if_neg e, if_neg e])
              have d2 : decide (1 + mxf l (lgT l n m) i k < lgT l n m k + 1) = true := decide_eq_true (by omega)
              clear g g2 PM FA
              generalize mxf l (lgT l n m) i k = A at *
              generalize lgT l n m k = B at *
              have wB : IntKind.i64.wrap (B + 1) = B + 1 := wrap_in _ ⟨by omega, by omega⟩
              generalize exd (gX l i) (gR l i) (gX l k) (gR l k) = E at *
              generalize gX l i = x at *
              generalize gR l i = r at *
              generalize gX l k = y at *
              generalize gR l k = s at *
              go_wp2_with fail
              go_region_held3 (fun w' => w'.cell? ⟨b, off + i * 2, none⟩ = some (.int .i64 x) ∧ w'.cell? ⟨b, off + i * 2 + 1, none⟩ = some (.int .i64 r) ∧ w'.cell? ⟨b, off + k * 2, none⟩ = some (.int .i64 y) ∧ w'.cell? ⟨b, off + k * 2 + 1, none⟩ = some (.int .i64 s) ∧ w'.cell? ⟨w.heap.size, i, none⟩ = some (.int .i64 (1 + A)) ∧ w'.cell? ⟨w.heap.size, k, none⟩ = some (.int .i64 B)) (go_keep) (first
                | (go_at_call 47; refine (HM.out _).mono ?_; rintro e w3 ⟨rfl, gg⟩; have X3 := Lib.hid (bel_trans XD.out gg); have c0 := cell_bel c0 X3.out; have c1 := cell_bel c1 X3.out; have c2 := cell_bel c2 X3.out; have c3 := cell_bel c3 X3.out; have a0 := cell_bel a0 X3.out; have b0 := cell_bel b0 X3.out; clear gg))
              have S3 := Lib.hid (hS.out.below X3.out)
              obtain ⟨f0, f1⟩ := S3.out.1.1 i hin
              have S4 : Hid (LnI w n (lgJ l n m i (k + 1)) (w3.setCell ⟨w.heap.size, i, none⟩ (.int .i64 (B + 1)))) := Lib.hid (S3.out.set i (B + 1) _ GN.out)
              clear hS c0 c1 c2 c3 f0 a1
              go_wp2
              go_roundw
              case rel => exact ⟨k + 1, by omega, by omega, by go_num, S4⟩
              case measure => simp [intOf]; omega
            · have GN : Hid (lgJ l n m i (k + 1) = lgJ l n m i k) := Lib.hid (by
                funext j
                unfold lgJ
                by_cases e : j = i
                · rw [if_pos e, if_pos e, PM.out, if_pos ⟨by omega, g⟩]; omega
                · rw [if_neg e, if_neg e])
              have d2 : decide (1 + mxf l (lgT l n m) i k < lgT l n m k + 1) = false := decide_eq_false (by omega)
              clear g g2 PM FA
              generalize mxf l (lgT l n m) i k = A at *
              generalize lgT l n m k = B at *
              have wB : IntKind.i64.wrap (B + 1) = B + 1 := wrap_in _ ⟨by omega, by omega⟩
              generalize exd (gX l i) (gR l i) (gX l k) (gR l k) = E at *
              generalize gX l i = x at *
              generalize gR l i = r at *
              generalize gX l k = y at *
              generalize gR l k = s at *
              go_wp2_with fail
              go_region_held3 (fun w' => w'.cell? ⟨b, off + i * 2, none⟩ = some (.int .i64 x) ∧ w'.cell? ⟨b, off + i * 2 + 1, none⟩ = some (.int .i64 r) ∧ w'.cell? ⟨b, off + k * 2, none⟩ = some (.int .i64 y) ∧ w'.cell? ⟨b, off + k * 2 + 1, none⟩ = some (.int .i64 s) ∧ w'.cell? ⟨w.heap.size, i, none⟩ = some (.int .i64 (1 + A)) ∧ w'.cell? ⟨w.heap.size, k, none⟩ = some (.int .i64 B)) (go_keep) (first
                | (go_at_call 47; refine (HM.out _).mono ?_; rintro e w3 ⟨rfl, gg⟩; have X3 := Lib.hid (bel_trans XD.out gg); have c0 := cell_bel c0 X3.out; have c1 := cell_bel c1 X3.out; have c2 := cell_bel c2 X3.out; have c3 := cell_bel c3 X3.out; have a0 := cell_bel a0 X3.out; have b0 := cell_bel b0 X3.out; clear gg))
              have S3 : Hid (LnI w n (lgJ l n m i (k + 1)) w3) := Lib.hid (by rw [GN.out]; exact hS.out.below X3.out)
              clear hS c0 c1 c2 c3 a1
              go_wp2
              go_roundw
              case rel => exact ⟨k + 1, by omega, by omega, by go_num, S3⟩
              case measure => simp [intOf]; omega
          · have GN : Hid (lgJ l n m i (k + 1) = lgJ l n m i k) := Lib.hid (by
              funext j
              unfold lgJ
              by_cases e : j = i
              · rw [if_pos e, if_pos e, PM.out, if_neg (fun h => g h.2)]
              · rw [if_neg e, if_neg e])
            have dg : decide (exd (gX l i) (gR l i) (gX l k) (gR l k) ≤ 0) = false := decide_eq_false g
            clear g PM FA
            generalize mxf l (lgT l n m) i k = A at *
            generalize lgT l n m k = B at *
            generalize exd (gX l i) (gR l i) (gX l k) (gR l k) = E at *
            generalize gX l i = x at *
            generalize gR l i = r at *
            generalize gX l k = y at *
            generalize gR l k = s at *
            go_wp2_with fail
            refine wp_region_held_drew (S := (fun w' => w'.cell? ⟨b, off + i * 2, none⟩ = some (.int .i64 x) ∧ w'.cell? ⟨b, off + i * 2 + 1, none⟩ = some (.int .i64 r) ∧ w'.cell? ⟨b, off + k * 2, none⟩ = some (.int .i64 y) ∧ w'.cell? ⟨b, off + k * 2 + 1, none⟩ = some (.int .i64 s))) (by kernel_rfl) (by go_keep) (fun hHeld => ?_)
            refine wpAnyH_takeD (i := 0) (v := ?_) (some 27) rfl rfl (by kernel_rfl) (by kernel_rfl) (by kernel_rfl) (fun _ _ _ h => h) (Or.inl ⟨by rfl, ?_⟩) (by assumption) ?_
            rotate_left
            · intro w hSw; (try dsimp only at hSw); go_simp; try (with_reducible rfl)
            try simp only [Act.put, List.setIfInBounds_toArray, List.set_cons_zero, List.set_cons_succ]
            refine wpAnyH_takeD (i := 1) (v := ?_) (some 28) rfl rfl (by kernel_rfl) (by kernel_rfl) (by kernel_rfl) (fun _ _ _ h => h) (Or.inl ⟨by rfl, ?_⟩) (by assumption) ?_
            rotate_left
            · intro w hSw; (try dsimp only at hSw); go_simp; try (with_reducible rfl)
            try simp only [Act.put, List.setIfInBounds_toArray, List.set_cons_zero, List.set_cons_succ]
            refine wpAnyH_takeD (i := 2) (v := ?_) (some 29) rfl rfl (by kernel_rfl) (by kernel_rfl) (by kernel_rfl) (fun _ _ _ h => h) (Or.inl ⟨by rfl, ?_⟩) (by assumption) ?_
            rotate_left
            · intro w hSw; (try dsimp only at hSw); go_simp; try (with_reducible rfl)
            try simp only [Act.put, List.setIfInBounds_toArray, List.set_cons_zero, List.set_cons_succ]
            refine wpAnyH_takeD (i := 3) (v := ?_) (some 30) rfl rfl (by kernel_rfl) (by kernel_rfl) (by kernel_rfl) (fun _ _ _ h => h) (Or.inl ⟨by rfl, ?_⟩) (by assumption) ?_
            rotate_left
            · intro w hSw; (try dsimp only at hSw); go_simp; try (with_reducible rfl)
            try simp only [Act.put, List.setIfInBounds_toArray, List.set_cons_zero, List.set_cons_succ]
            refine wpAnyH_takeD (i := 4) (v := ?_) (some 31) rfl rfl (by kernel_rfl) (by kernel_rfl) (by kernel_rfl) (fun _ _ _ h => h) (Or.inl ⟨by rfl, ?_⟩) (by assumption) ?_
            rotate_left
            · intro w hSw; (try dsimp only at hSw); go_simp; try (with_reducible rfl)
            try simp only [Act.put, List.setIfInBounds_toArray, List.set_cons_zero, List.set_cons_succ]
            refine wpAnyH_takeD (i := 5) (v := ?_) (some 32) rfl rfl (by kernel_rfl) (by kernel_rfl) (by kernel_rfl) (fun _ _ _ h => h) (Or.inl ⟨by rfl, ?_⟩) (by assumption) ?_
            rotate_left
            · intro w hSw; (try dsimp only at hSw); go_simp; try (with_reducible rfl)
            try simp only [Act.put, List.setIfInBounds_toArray, List.set_cons_zero, List.set_cons_succ]
            refine wpAnyH_takeD (i := 6) (v := ?_) (some 33) rfl rfl (by kernel_rfl) (by kernel_rfl) (by kernel_rfl) (fun _ _ _ h => h) (Or.inl ⟨by rfl, ?_⟩) (by assumption) ?_
            rotate_left
            · intro w hSw; (try dsimp only at hSw); go_simp; try (with_reducible rfl)
            try simp only [Act.put, List.setIfInBounds_toArray, List.set_cons_zero, List.set_cons_succ]
            refine wpAnyH_takeD (i := 7) (v := ?_) (some 34) rfl rfl (by kernel_rfl) (by kernel_rfl) (by kernel_rfl) (fun _ _ _ h => h) (Or.inl ⟨by rfl, ?_⟩) (by assumption) ?_
            rotate_left
            · intro w hSw; (try dsimp only at hSw); go_simp; try (with_reducible rfl)
            try simp only [Act.put, List.setIfInBounds_toArray, List.set_cons_zero, List.set_cons_succ]
            refine wpAnyH_ready (rs := [8]) (by kernel_rfl) (by simp) ?_
            refine AllReadyH.cons rfl (fun K hK => ?_) AllReadyH.nil
            go_simp
            refine (HM.out _).mono ?_
            rintro e w3 ⟨rfl, gg⟩
            have X3 := Lib.hid (bel_trans XD.out gg)
            have c0 := cell_bel c0 X3.out
            have c1 := cell_bel c1 X3.out
            have c2 := cell_bel c2 X3.out
            have c3 := cell_bel c3 X3.out
            clear gg
            refine hK.out _ _ (by first | go_keep | (simp [*])) (fun hHeld => ?_)
            clear hK K
            try simp only [Act.put, List.setIfInBounds_toArray, List.set_cons_zero, List.set_cons_succ]
            refine wpAnyH_takeD (i := 9) (v := .bool false) (some 36) rfl rfl (by kernel_rfl) (by kernel_rfl) (by kernel_rfl) (fun _ _ _ h => h) (Or.inl ⟨by rfl, ?_⟩) (by assumption) ?_
            · intro w hSw; (try dsimp only at hSw); go_simp; (try simp only [dg]); try (with_reducible rfl)
            try simp only [Act.put, List.setIfInBounds_toArray, List.set_cons_zero, List.set_cons_succ]
            refine wpAnyH_takeD (i := 10) (v := .bool false) (some 37) rfl rfl (by kernel_rfl) (by kernel_rfl) (by kernel_rfl) (fun _ _ _ h => h) (Or.inl ⟨by rfl, ?_⟩) (by assumption) ?_
            · intro w hSw; (try dsimp only at hSw); go_simp; (try simp only [dg]); try (with_reducible rfl)
            try simp only [Act.put, List.setIfInBounds_toArray, List.set_cons_zero, List.set_cons_succ]
            refine wpAnyH_takeD (i := 11) (v := undef) (some 38) rfl rfl (by kernel_rfl) (by kernel_rfl) (by kernel_rfl) (fun _ _ _ h => h) (Or.inr ⟨by rfl, rfl⟩) (by assumption) ?_
            try simp only [Act.put, List.setIfInBounds_toArray, List.set_cons_zero, List.set_cons_succ]
            refine wpAnyH_takeD (i := 12) (v := undef) (some 39) rfl rfl (by kernel_rfl) (by kernel_rfl) (by kernel_rfl) (fun _ _ _ h => h) (Or.inr ⟨by rfl, rfl⟩) (by assumption) ?_
            try simp only [Act.put, List.setIfInBounds_toArray, List.set_cons_zero, List.set_cons_succ]
            refine wpAnyH_takeD (i := 13) (v := undef) (some 40) rfl rfl (by kernel_rfl) (by kernel_rfl) (by kernel_rfl) (fun _ _ _ h => h) (Or.inr ⟨by rfl, rfl⟩) (by assumption) ?_
            try simp only [Act.put, List.setIfInBounds_toArray, List.set_cons_zero, List.set_cons_succ]
            refine wpAnyH_takeD (i := 14) (v := undef) (some 41) rfl rfl (by kernel_rfl) (by kernel_rfl) (by kernel_rfl) (fun _ _ _ h => h) (Or.inr ⟨by rfl, rfl⟩) (by assumption) ?_
            try simp only [Act.put, List.setIfInBounds_toArray, List.set_cons_zero, List.set_cons_succ]
            refine wpAnyH_takeD (i := 15) (v := undef) (some 42) rfl rfl (by kernel_rfl) (by kernel_rfl) (by kernel_rfl) (fun _ _ _ h => h) (Or.inr ⟨by rfl, rfl⟩) (by assumption) ?_
            try simp only [Act.put, List.setIfInBounds_toArray, List.set_cons_zero, List.set_cons_succ]
            refine wpAnyH_takeD (i := 16) (v := undef) (some 43) rfl rfl (by kernel_rfl) (by kernel_rfl) (by kernel_rfl) (fun _ _ _ h => h) (Or.inr ⟨by rfl, rfl⟩) (by assumption) ?_
            try simp only [Act.put, List.setIfInBounds_toArray, List.set_cons_zero, List.set_cons_succ]
            refine wpAnyH_takeD (i := 17) (v := undef) (some 44) rfl rfl (by kernel_rfl) (by kernel_rfl) (by kernel_rfl) (fun _ _ _ h => h) (Or.inr ⟨by rfl, rfl⟩) (by assumption) ?_
            try simp only [Act.put, List.setIfInBounds_toArray, List.set_cons_zero, List.set_cons_succ]
            refine wpAnyH_takeD (i := 18) (v := undef) (some 45) rfl rfl (by kernel_rfl) (by kernel_rfl) (by kernel_rfl) (fun _ _ _ h => h) (Or.inr ⟨by rfl, rfl⟩) (by assumption) ?_
            try simp only [Act.put, List.setIfInBounds_toArray, List.set_cons_zero, List.set_cons_succ]
            refine wpAnyH_takeD (i := 19) (v := undef) (some 46) rfl rfl (by kernel_rfl) (by kernel_rfl) (by kernel_rfl) (fun _ _ _ h => h) (Or.inr ⟨by rfl, rfl⟩) (by assumption) ?_
            try simp only [Act.put, List.setIfInBounds_toArray, List.set_cons_zero, List.set_cons_succ]
            refine wpAnyH_takeD (i := 20) (v := undef) (some 47) rfl rfl (by kernel_rfl) (by kernel_rfl) (by kernel_rfl) (fun _ _ _ h => h) (Or.inr ⟨by rfl, rfl⟩) (by assumption) ?_
            try simp only [Act.put, List.setIfInBounds_toArray, List.set_cons_zero, List.set_cons_succ]
            refine wpAnyH_takeD (i := 21) (v := .bool false) (some 48) rfl rfl (by kernel_rfl) (by kernel_rfl) (by kernel_rfl) (fun _ _ _ h => h) (Or.inl ⟨by rfl, ?_⟩) (by assumption) ?_
            · intro w hSw; (try dsimp only at hSw); go_simp; (try simp only [dg]); try (with_reducible rfl)
            try simp only [Act.put, List.setIfInBounds_toArray, List.set_cons_zero, List.set_cons_succ]
            refine wpAnyH_done (by kernel_rfl) ?_ _
            have S3 : Hid (LnI w n (lgJ l n m i (k + 1)) w3) := Lib.hid (by rw [GN.out]; exact hS.out.below X3.out)
            clear hS c0 c1 c2 c3 a1
            go_wp2
            go_roundw
            case rel => exact ⟨k + 1, by omega, by omega, by go_num, S3⟩
            case measure => simp [intOf]; omega
        · obtain rfl : k = n := by omega
          have S4 : Hid (LnI w k (lgT l k (m + 1)) wr) := Lib.hid (by
            have e : lgJ l k m i k = lgT l k (m + 1) := by
              funext j
              show (if j = i then _ else _) = (if j = k - 1 - m then _ else _)
              rw [← hi.out]
            rw [← e]; exact hS.out)
          clear hS
          go_wp2
          go_roundw
          case rel => exact ⟨m + 1, by omega, by rw [show (k : Int) - 1 - ((m + 1 : Nat) : Int) = (i : Int) - 1 by have := ei.out; omega], S4⟩
          case measure => have := ei.out; simp [intOf] <;> omega
    · obtain rfl : m = n := by omega
      have d0 : decide (0 ≤ (m : Int) - 1 - m) = false := decide_eq_false (by omega)
      have S4 := hS.out
      go_wp2
      go_returns
      exact ⟨rfl, S4.1, S4.2⟩
end Go.Proofs.Ytooofppgjknigaa

/- The reference of layer 17: Largest. -/
namespace Go.Proofs.Ytooofppgjknigaa
open Go.RowKit

def mxT (g : Nat → Int) : Nat → Int
  | 0 => 0
  | k + 1 => max (mxT g k) (g k)
theorem mxT_le {g : Nat → Int} {M : Int} (hM : 0 ≤ M) : ∀ {k : Nat}, mxT g k ≤ M ↔ ∀ i, i < k → g i ≤ M
  | 0 => by simp [mxT, hM]
  | k + 1 => by
    have ih := @mxT_le g M hM k
    unfold mxT
    constructor
    · intro h i hi
      by_cases e : i = k
      · subst e; omega
      · exact ih.1 (by omega) i (by omega)
    · intro h
      have h1 := ih.2 (fun i hi => h i (by omega))
      have := h k (by omega); omega
theorem mxT_pos (g : Nat → Int) : ∀ k, 0 ≤ mxT g k
  | 0 => Int.le_refl _
  | k + 1 => by have := mxT_pos g k; unfold mxT; omega
/-- once a row is measured it stays -/
theorem lgT_stay (l : List (Int × Int)) (n : Nat) {i : Nat} (hi : i < n) : ∀ m, n - i ≤ m → m ≤ n → lgT l n m i = 1 + mxf l (lgT l n (n - 1 - i)) i n
  | 0, h, _ => by omega
  | m + 1, h, h2 => by
    by_cases e : i = n - 1 - m
    · show (if i = n - 1 - m then _ else _) = _
      rw [if_pos e]
      have : m = n - 1 - i := by omega
      rw [← e, ← this]
    · show (if i = n - 1 - m then _ else _) = _
      rw [if_neg e]
      exact lgT_stay l n hi m (by omega) (by omega)
theorem mxL_le {l : List (Int × Int)} {n : Nat} {M : Int} (hM : 0 ≤ M) : ∀ {m : Nat}, m ≤ n → (mxL l n m ≤ M ↔ ∀ i, n - m ≤ i → i < n → lgT l n n i ≤ M)
  | 0, _ => by simp [mxL, hM]; intro i h1 h2; omega
  | m + 1, hm => by
    have ih := @mxL_le l n M hM m (by omega)
    have hs := lgT_stay l n (show n - 1 - m < n by omega) n (by omega) (Nat.le_refl _)
    rw [show n - 1 - (n - 1 - m) = m by omega] at hs
    unfold mxL
    constructor
    · intro h i h1 h2
      by_cases e : i = n - 1 - m
      · subst e; omega
      · exact ih.1 (by omega) i (by omega) h2
    · intro h
      have h1 := ih.2 (fun i h1 h2 => h i (by omega) h2)
      have := h (n - 1 - m) (by omega) (by omega)
      omega
theorem mxT_lgT (l : List (Int × Int)) (n : Nat) : mxT (lgT l n n) n = mxL l n n := by
  have p1 := mxT_pos (lgT l n n) n
  have p2 := (mxL_bd l n n).1
  have h1 := (mxT_le p2).2 (fun i hi => (mxL_le p2 (Nat.le_refl n)).1 (Int.le_refl _) i (by omega) hi)
  have h2 := (mxL_le p1 (Nat.le_refl n)).2 (fun i _ hi => (mxT_le p1).1 (Int.le_refl _) i hi)
  omega
set_option maxHeartbeats 8000000 in
theorem raLg_bad (v : Value) (E : Int) (w : World) (he : (E == 0) = false)
    (H : Hid (Calls Try.prog 46 #[v] w fun e w' => e = .returned (.bool (E == 0)) ∧ Below w.heap.size w w')) :
    Calls Try.prog 20 #[v] w fun e w' => e = .returned (.tuple #[.slice none 0 0, .int .i64 1]) ∧ Below w.heap.size w w' := by
  rw [he] at H
  go_enter Try.func20, Try.ntmps20
  go_wp2_with fail
  refine H.out.mono ?_
  rintro e w1 ⟨rfl, gg⟩
  have X := Lib.hid gg; clear gg
  go_wp2
  go_returns
  exact ⟨rfl, X.out⟩
set_option maxHeartbeats 64000000 in
set_option maxRecDepth 100000 in
theorem raLg_ok (b off n cap : Nat) (l : List (Int × Int)) (g : Nat → Int) (M : Int) (w : World) (n0 : 1 ≤ n) (n1 : n ≤ 128) (hb : b < w.heap.size) (M0 : 0 ≤ M ∧ M ≤ 128) (hMT : mxT g n = M)
    (hc : Hid (∀ j, j < n → w.cell? ⟨b, off + j * 2, none⟩ = some (.int .i64 (gX l j)) ∧ w.cell? ⟨b, off + j * 2 + 1, none⟩ = some (.int .i64 (gR l j))))
    (hd : Hid (∀ j, j < n → 50000 ≤ gR l j ∧ gR l j ≤ 120000))
    (H : Hid (Calls Try.prog 46 #[.slice (some ⟨b, off, none⟩) n cap] w fun e w' => e = .returned (.bool true) ∧ Below w.heap.size w w'))
    (HM : Hid (∀ W, Below w.heap.size w W → Calls Try.prog 51 #[.slice (some ⟨b, off, none⟩) n cap] W fun e w' => e = .returned (.slice (some ⟨W.heap.size, 0, none⟩) n n) ∧ ArrB n W.heap.size w' g ∧ Below W.heap.size W w')) :
    Calls Try.prog 20 #[.slice (some ⟨b, off, none⟩) n cap] w fun e w' => ∃ u, e = .returned (.tuple #[u, .int .i64 0]) ∧ Nums w' u (chS l g M n).1 ∧ Below w.heap.size w w' := by
  obtain ⟨i0, hi, hz0, hz1, hz2⟩ := info_parts info_int
  replace hi := Lib.hid hi
  replace hz0 := Lib.hid hz0
  replace hz1 := Lib.hid hz1
  replace hz2 := Lib.hid hz2
  replace hMT := Lib.hid hMT
  go_enter Try.func20, Try.ntmps20
  go_wp2_with fail
  refine H.out.mono ?_
  rintro e w0 ⟨rfl, gg⟩
  have X0 := Lib.hid gg; clear gg
  go_wp2_with fail
  refine (HM.out _ X0.out).mono ?_
  rintro e w1 ⟨rfl, ga, gg⟩
  have A2 := Lib.hid ga
  have X1 := Lib.hid (bel_trans X0.out gg); clear gg ga HM H
  generalize w0.heap.size = q at *
  go_wp2_with fail
  go_loopw [5, 6] (fun mm ii wr => w1 = wr ∧ ∃ k : Nat, k ≤ n ∧ ii = .int .i64 (k : Int) ∧ mm = .int .i64 (mxT g k)) (fun _ ii _ => n - (intOf ii).toNat)
  case atStart => exact ⟨rfl, 0, Nat.zero_le _, rfl, rfl⟩
  case round =>
    obtain ⟨rfl, k, hk, rfl, rfl⟩ := hrel
    by_cases hlt : k < n
    · have a0 := (A2.out.1 k hlt).1
      have l0 : (k : Int) < (n : Int) := by omega
      have hm : Hid (mxT g (k + 1) = max (mxT g k) (g k)) := Lib.hid rfl
      generalize mxT g k = T at *
      generalize g k = G at *
      go_wp2
      go_roundw
      case rel => exact ⟨by first | rfl | trivial, k + 1, by omega, by go_num, by rw [hm.out]⟩
      case measure => simp [intOf]; omega
    · obtain rfl : n = k := by omega
      rw [hMT.out]
      have S0 : Hid (OwnI (w1.alloc (.cells #[] 3)) w1.heap.size (.slice (some ⟨w1.heap.size, 0, none⟩) 0 0) (chS l g M 0).1) := Lib.hid (World.ownsRow_made w1 #[] 0 (Nat.le_refl _) (Nat.zero_le _) (by simp))
      have S1 := Lib.hid (bel_alloc (w := w1) (o := .cells #[] 3) (Below.refl _ _))
      have hcW : Hid (∀ W, Below w1.heap.size w1 W → Below w.heap.size w W ∧ (∀ j, j < n → W.cell? ⟨b, off + j * 2, none⟩ = some (.int .i64 (gX l j)) ∧ W.cell? ⟨b, off + j * 2 + 1, none⟩ = some (.int .i64 (gR l j))) ∧ ∀ j, j < n → W.cell? ⟨q, j, none⟩ = some (.int .i64 (g j))) := Lib.hid fun W hW => by
        have hw := bel_trans X1.out hW
        exact ⟨hw, fun j hj => ⟨cell_bel (hc.out j hj).1 hw, cell_bel (hc.out j hj).2 hw⟩, fun j hj => ((A2.out.below hW).1 j hj).1⟩
      clear hlt hk
      go_wp2_with fail
      clear A2 X1
      generalize hW0 : w1 = W0 at *
      clear hW0
      go_loopw [5, 7, 8] (fun mm v ii wr => ∃ k : Nat, k ≤ n ∧ ii = .int .i64 (k : Int) ∧ mm = .int .i64 (chS l g M k).2 ∧ Hid (OwnI wr W0.heap.size v (chS l g M k).1) ∧ Hid (Below W0.heap.size W0 wr)) (fun _ _ ii _ => n - (intOf ii).toNat)
      case atStart => exact ⟨0, Nat.zero_le _, rfl, rfl, S0, S1⟩
      case round =>
        clear S0 S1
        obtain ⟨k, hk, rfl, rfl, hO, hB⟩ := hrel
        by_cases hlt : k < n
        · obtain ⟨hw, hcc, hgg⟩ := hcW.out wr hB.out
          obtain ⟨c0, c1⟩ := hcc k hlt
          have a0 := hgg k (by omega)
          have l0 : (k : Int) < (n : Int) := by omega
          obtain ⟨bl, b2, b3, b4⟩ := chS_bd l g M k
          have BQ := Lib.hid (fun s => hB.out.trans ((bel_drewN wr s).mono hB.out.size))
          have PK : Hid (chS l g M (k + 1) = if g k = (chS l g M k).2 ∧ ((chS l g M k).1.length = 0 ∨ ex l ((chS l g M k).1.getD ((chS l g M k).1.length - 1) 0).toNat k ≤ 0) then ((chS l g M k).1 ++ [(k : Int)], (chS l g M k).2 - 1) else chS l g M k) := Lib.hid rfl
          by_cases e : g k = (chS l g M k).2
          · by_cases e0 : (chS l g M k).1.length = 0
            · have d0 : (((chS l g M k).1.length : Int) == 0) = true := by simp [e0]
              replace PK : Hid (chS l g M (k + 1) = ((chS l g M k).1 ++ [(k : Int)], (chS l g M k).2 - 1)) := Lib.hid (by rw [PK.out, if_pos ⟨e, .inl e0⟩])
              have wm : IntKind.i64.wrap ((chS l g M k).2 - 1) = (chS l g M k).2 - 1 := wrap_in _ ⟨by omega, by omega⟩
              obtain ⟨av, cv, ev, _, _⟩ := hO.out.nums
              rw [e] at a0
              clear hcc hgg b4 e
              generalize hL : (chS l g M k).1 = L at *
              replace hL := Lib.hid hL
              obtain ⟨t, ht⟩ : ∃ t, L.length = t := ⟨_, rfl⟩
              rw [ht] at d0 bl ev
              subst ev
              have ez : (t : Int) = 0 := by omega
              replace ht := Lib.hid ht
              have hO2 := Lib.hid (fun s => hO.out.below (bel_drewN wr s))
              generalize (chS l g M k).2 = m at *
              have de : (m == m) = true := by simp
              clear e0 ez
              go_wp2_with fail
              go_quiet (fail)
              have OA := Lib.hid (hO2.out nq)
              have XA := Lib.hid (BQ.out nq)
              generalize wr.drewN nq = Wx at *
              have CN := Lib.hid (cell_oneE Wx (.int .i64 k) 3)
              have OB := Lib.hid (OA.out.below (bel_alloc (o := .cells #[.int .i64 k] 3) (Below.refl _ _)))
              have XB := Lib.hid (bel_trans XA.out (bel_alloc (o := .cells #[.int .i64 k] 3) (Below.refl _ _)))
              have HS : Hid (W0.heap.size ≤ (Wx.alloc (.cells #[.int .i64 k] 3)).heap.size) := Lib.hid XB.out.size
              have OC := OB
              unfold OwnI at OC
              rw [ht.out] at OC
              go_wp2_with (at_builtin; refine wpList_append_own_at _ rfl _ _ 35 rfl W0.heap.size 3 i0 (.int .i64 0) 1 8 Try.underlying35 hi.out hz0.out hz1.out hz2.out rfl (by omega) _ _ _ rfl OC.out ⟨Wx.heap.size, 0, none⟩ 1 1 [.int .i64 k] rfl rfl CN.out (by intro u hu; rw [List.mem_singleton] at hu; rw [hu]; rfl) ?qd4 ?qd5 HS.out ?_)
              case qd4 => unfold maxLen; omega
              case qd5 => omega
              intro v2 w2 hown3 hgrow _ _
              have SN : Hid (OwnI w2 W0.heap.size v2 (chS l g M (k + 1)).1) := Lib.hid (by rw [PK.out]; exact OwnI.push ht.out.symm hown3)
              have B2 := Lib.hid (XB.out.grown hgrow HS.out (fun q hq => (World.ownsRow.lt OC.out q hq).1))
              clear hown3 hgrow OA OB OC CN
              go_wp2
              go_roundw
              case rel => exact ⟨k + 1, by omega, by go_num, by rw [PK.out], SN, B2⟩
              case measure => simp [intOf]; omega
            · have d0 : (((chS l g M k).1.length : Int) == 0) = false := by
                rw [beq_eq_false_iff_ne]; omega
              obtain ⟨gb, cv, ev, hgb, hgl, _, _, hrow⟩ := hO.out.form (by omega)
              have hlast := hrow ((chS l g M k).1.length - 1) (by omega)
              obtain ⟨p, ep, hp⟩ := b4 _ (getD_mem (show (chS l g M k).1.length - 1 < (chS l g M k).1.length by omega))
              rw [ep] at hlast
              rw [ep] at PK
              obtain ⟨p0, p1⟩ := hcc p (by omega)
              have HY := Lib.hid (fun W => rcl_any (gX l p) (gR l p) (gX l k) (gR l k) W (hd.out p (by omega)) (hd.out k hlt))
              have hex : Hid (ex l p k = exd (gX l p) (gR l p) (gX l k) (gR l k)) := Lib.hid rfl
              have wm : IntKind.i64.wrap ((chS l g M k).2 - 1) = (chS l g M k).2 - 1 := wrap_in _ ⟨by omega, by omega⟩
              rw [show ((p : Nat) : Int).toNat = p by omega] at PK
              rw [e] at a0
              clear hcc hgg b4 ep hrow
              generalize hL : (chS l g M k).1 = L at *
              obtain ⟨t, ht⟩ : ∃ t, L.length = t := ⟨_, rfl⟩
              rw [ht] at d0 bl ev e0 hlast
              subst ev
              have wt : IntKind.i64.wrap ((t : Int) - 1) = ((t - 1 : Nat) : Int) := by rw [wrap_in _ ⟨by omega, by omega⟩]; omega
              obtain ⟨c, hct⟩ : ∃ c : Nat, t = c + 1 := ⟨t - 1, by omega⟩
              subst hct
              have hne : ¬ L.length = 0 := by omega
              replace hne := Lib.hid hne
              replace hL := Lib.hid hL
              replace ht := Lib.hid ht
              rw [show c + 1 - 1 = c by omega] at wt hlast
              have wt2 : IntKind.i64.wrap ((c : Int) + 1 - 1) = (c : Int) := by rw [wrap_in _ ⟨by omega, by omega⟩]; omega
              have wt3 : IntKind.i64.wrap (c : Int) = (c : Int) := wrap_in _ ⟨by omega, by omega⟩
              have l2 : (c : Int) < ((c + 1 : Nat) : Int) := by omega
              have l3 : (p : Int) < (n : Int) := by omega
              have l4 : (c : Int) < (c : Int) + 1 := by omega
              generalize ex l p k = E at *
              generalize exd (gX l p) (gR l p) (gX l k) (gR l k) = E2 at *
              obtain rfl := hex.out
              generalize gX l p = x0 at *
              generalize gR l p = r0 at *
              generalize hm : (chS l g M k).2 = m at *
              have de : (m == m) = true := by simp
              generalize gX l k = x at *
              generalize gR l k = r at *
              have XD := Lib.hid (bel_drew wr)
              replace hm := Lib.hid hm
              replace e := Lib.hid e
              clear e0
              by_cases gE : E ≤ 0
              · have dE : decide (E ≤ 0) = true := decide_eq_true gE
                replace PK : Hid (chS l g M (k + 1) = (L ++ [(k : Int)], m - 1)) := Lib.hid (by rw [PK.out, if_pos ⟨e.out, .inr gE⟩])
                clear gE
                go_wp2_with fail
                go_region_held3 (fun w' => w'.cell? ⟨b, off + p * 2, none⟩ = some (.int .i64 x0) ∧ w'.cell? ⟨b, off + p * 2 + 1, none⟩ = some (.int .i64 r0) ∧ w'.cell? ⟨b, off + k * 2, none⟩ = some (.int .i64 x) ∧ w'.cell? ⟨b, off + k * 2 + 1, none⟩ = some (.int .i64 r) ∧ w'.cell? ⟨gb, c, none⟩ = some (.int .i64 p) ∧ w'.cell? ⟨q, k, none⟩ = some (.int .i64 m)) (go_keep) (first
                  | (go_at_call 47; refine (HY.out _).mono ?_; rintro e w3 ⟨rfl, gg⟩; have X3 := Lib.hid (bel_trans XD.out gg); have p0 := cell_bel p0 X3.out; have p1 := cell_bel p1 X3.out; have c0 := cell_bel c0 X3.out; have c1 := cell_bel c1 X3.out; have hlast := cell_bel hlast X3.out; have a0 := cell_bel a0 X3.out; clear gg))
                have OA := Lib.hid (hO.out.below X3.out)
                have XA := Lib.hid (bel_trans hB.out X3.out)
                clear p0 p1 c0 c1 hlast a0
                have CN := Lib.hid (cell_oneE w3 (.int .i64 k) 3)
                have OB := Lib.hid (OA.out.below (bel_alloc (o := .cells #[.int .i64 k] 3) (Below.refl _ _)))
                have XB := Lib.hid (bel_trans XA.out (bel_alloc (o := .cells #[.int .i64 k] 3) (Below.refl _ _)))
                have HS : Hid (W0.heap.size ≤ (w3.alloc (.cells #[.int .i64 k] 3)).heap.size) := Lib.hid XB.out.size
                have OC := OB
                unfold OwnI at OC
                rw [ht.out] at OC
                go_wp2_with (at_builtin; refine wpList_append_own_at _ rfl _ _ 35 rfl W0.heap.size 3 i0 (.int .i64 0) 1 8 Try.underlying35 hi.out hz0.out hz1.out hz2.out rfl (by omega) _ _ _ rfl OC.out ⟨w3.heap.size, 0, none⟩ 1 1 [.int .i64 k] rfl rfl CN.out (by intro u hu; rw [List.mem_singleton] at hu; rw [hu]; rfl) ?qd4 ?qd5 HS.out ?_)
                case qd4 => unfold maxLen; omega
                case qd5 => omega
                intro v2 w2 hown3 hgrow _ _
                have SN : Hid (OwnI w2 W0.heap.size v2 (chS l g M (k + 1)).1) := Lib.hid (by rw [PK.out]; exact OwnI.push ht.out.symm hown3)
                have B2 := Lib.hid (XB.out.grown hgrow HS.out (fun q hq => (World.ownsRow.lt OC.out q hq).1))
                clear hown3 hgrow OA OB OC CN
                go_wp2
                go_roundw
                case rel => exact ⟨k + 1, by omega, by go_num, by rw [PK.out], SN, B2⟩
                case measure => simp [intOf]; omega
              · have dE : decide (E ≤ 0) = false := decide_eq_false gE
                replace PK : Hid ((chS l g M (k + 1)).1 = L ∧ (chS l g M (k + 1)).2 = m) := Lib.hid (by
                  rw [PK.out, if_neg (fun h => h.2.elim hne.out gE)]
                  exact ⟨hL.out, hm.out⟩)
                clear gE
                go_wp2_with fail
                go_region_held3 (fun w' => w'.cell? ⟨b, off + p * 2, none⟩ = some (.int .i64 x0) ∧ w'.cell? ⟨b, off + p * 2 + 1, none⟩ = some (.int .i64 r0) ∧ w'.cell? ⟨b, off + k * 2, none⟩ = some (.int .i64 x) ∧ w'.cell? ⟨b, off + k * 2 + 1, none⟩ = some (.int .i64 r) ∧ w'.cell? ⟨gb, c, none⟩ = some (.int .i64 p) ∧ w'.cell? ⟨q, k, none⟩ = some (.int .i64 m)) (go_keep) (first
                  | (go_at_call 47; refine (HY.out _).mono ?_; rintro e w3 ⟨rfl, gg⟩; have X3 := Lib.hid (bel_trans XD.out gg); have p0 := cell_bel p0 X3.out; have p1 := cell_bel p1 X3.out; have c0 := cell_bel c0 X3.out; have c1 := cell_bel c1 X3.out; have hlast := cell_bel hlast X3.out; have a0 := cell_bel a0 X3.out; clear gg))
                have OA := Lib.hid (hO.out.below X3.out)
                have XA := Lib.hid (bel_trans hB.out X3.out)
                clear p0 p1 c0 c1 hlast a0
                go_wp2
                go_roundw
                case rel => exact ⟨k + 1, by omega, by go_num, by rw [PK.out.2], Lib.hid (by rw [PK.out.1]; exact OA.out), XA⟩
                case measure => simp [intOf]; omega
          · have de : (g k == (chS l g M k).2) = false := by simpa using e
            replace PK : Hid (chS l g M (k + 1) = chS l g M k) := Lib.hid (by rw [PK.out, if_neg (fun h => e h.1)])
            have hO2 := Lib.hid (fun s => hO.out.below (bel_drewN wr s))
            clear hcc hgg b4 e
            generalize hm : (chS l g M k).2 = m at *
            replace hm := Lib.hid hm
            generalize g k = G at *
            go_wp2_with fail
            go_quiet (fail)
            go_wp2
            go_roundw
            case rel => exact ⟨k + 1, by omega, by go_num, by rw [PK.out, hm.out], by rw [PK.out]; exact hO2.out _, BQ.out _⟩
            case measure => simp [intOf]; omega
        · obtain rfl : k = n := by omega
          have XF := (hcW.out wr hB.out).1
          have NF := hO.out.nums
          go_wp2
          go_returns
          exact ⟨u7, rfl, NF, XF⟩
end Go.Proofs.Ytooofppgjknigaa

/- The reference of layer 17: Repair. -/
namespace Go.Proofs.Ytooofppgjknigaa
open Go.RowKit

namespace RG
theorem info_parts {P : Program} {t : TypeId} {z : Value} {s by' : Nat} (h : (P.info? t).map (fun i => (i.zero, i.size, i.bytes)) = some (some z, s, by')) : ∃ i, P.info? t = some i ∧ i.zero = some z ∧ i.size = s ∧ i.bytes = by' := by
  cases hi : P.info? t with
  | none => rw [hi] at h; cases h
  | some i => rw [hi] at h; simp at h; exact ⟨i, rfl, h.1, h.2.1, h.2.2⟩
theorem mk_info : (Try.prog.info? 46).map (fun i => (i.zero, i.size, i.bytes)) = some (some (.agg #[.int .i64 0, .int .i64 0]), 2, 16) := by kernel_rfl
theorem row_belM {W W' : World} {B n size : Nat} {e : TypeId} {v : Value} {xs : List Value} (h : W.ownsRow B e size v n xs) (hb : Below W.heap.size W W') : W'.ownsRow B e size v n xs := by
  obtain ⟨h1, h2⟩ := h
  refine ⟨h1, ?_⟩
  rcases h2 with ⟨h2, h3⟩ | ⟨g, cap, cur, h2, hg, hh, r⟩
  · exact .inl ⟨h2, h3⟩
  · refine .inr ⟨g, cap, cur, h2, hg, ?_, r⟩
    rw [hb.block _ (Array.getElem?_eq_some_iff.1 hh).1]
    exact hh
def OwnM (w : World) (B : Nat) (v : Value) (l : List (Int × Int)) : Prop := w.ownsRow B 46 2 v l.length (flat l)
theorem nil (W : World) (B : Nat) : OwnM W B (.slice none 0 0) [] := World.ownsRow_nil _ _ _ _
theorem below {W W' : World} {B : Nat} {v : Value} {l : List (Int × Int)} (h : OwnM W B v l) (hb : Below W.heap.size W W') : OwnM W' B v l := row_belM h hb
theorem pts {w : World} {B : Nat} {v : Value} {l : List (Int × Int)} (h : OwnM w B v l) : Pts w v l := by
  have h' := h
  obtain ⟨_, h2⟩ := h
  rcases h2 with ⟨rfl, hn⟩ | ⟨g, cap, cur, rfl, hg, hh, hc, hm, hs, ht⟩
  · exact ⟨none, 0, by rw [hn], by omega, .inl hn⟩
  · have hlt : g < w.heap.size := (Array.getElem?_eq_some_iff.1 hh).1
    unfold maxLen at hm
    refine ⟨_, cap, rfl, ⟨hc, by omega⟩, .inr ⟨g, 0, rfl, hlt, fun j hj => ?_⟩⟩
    have hcell := World.ownsRow.cells h' (g := g) rfl
    have hf := flat_at l j hj
    have c0 := hcell _ _ hf.1
    have c1 := hcell _ _ hf.2
    rw [Go.WideShapes.add_plain] at c0 c1
    exact ⟨c0, by rw [Nat.add_assoc]; exact c1⟩
theorem flat_two (x y : Int) : flat [(x, y)] = [.int .i64 x, .int .i64 y] := rfl
theorem pair_new (w : World) (y0 y1 : Int) (T : TypeId) (j : Nat) (u : Value) (hj : [Value.int .i64 y0, .int .i64 y1][j]? = some u) : (w.alloc (.cells #[.int .i64 y0, .int .i64 y1] T)).cell? ((⟨w.heap.size, 0, none⟩ : Addr).add j) = some u := by
  obtain ⟨n0, n1, _, _, _⟩ := Two.new w (.int .i64 y0) (.int .i64 y1) T
  rw [Go.WideShapes.add_plain, Nat.zero_add]
  match j, hj with
  | 0, hj => simp at hj; rw [← hj]; exact n0
  | 1, hj => simp at hj; rw [← hj]; exact n1
  | j + 2, hj => simp at hj
theorem pair_one (y0 y1 : Int) : ∀ u ∈ [Value.int .i64 y0, .int .i64 y1], u.oneCell' = true := by
  intro u hu; simp at hu; rcases hu with rfl | rfl <;> rfl
theorem push {W : World} {B k : Nat} {v : Value} {l m : List (Int × Int)} {y0 y1 : Int} (e : m = l ++ [(y0, y1)]) (hk : l.length = k) (h : W.ownsRow B 46 2 v (k + 1) (flat l ++ [.int .i64 y0, .int .i64 y1])) : OwnM W B v m := by
  rw [e]
  unfold OwnM
  rw [flat_app, flat_two, List.length_append, hk]
  exact h
/-- what the loop of Make keeps -/
def MkI (w1 : World) (v : Value) (L : List (Int × Int)) (W : World) : Prop := Below w1.heap.size w1 W ∧ OwnM W w1.heap.size v L
theorem MkI.below {w1 : World} {v : Value} {L : List (Int × Int)} {W W' : World} (h : MkI w1 v L W) (hb : Below W.heap.size W W') : MkI w1 v L W' := ⟨bel_trans h.1 hb, RG.below h.2 hb⟩
theorem shape {W : World} {B : Nat} {v : Value} {L : List (Int × Int)} (h : OwnM W B v L) : ∃ a cap, v = .slice a L.length cap := by
  obtain ⟨a, cap, e, _⟩ := pts h
  exact ⟨a, cap, e⟩
end RG

def hiR (l : List (Int × Int)) (i : Nat) : Nat → Int
  | 0 => gR l i
  | k + 1 => if gX l i ≤ gX l k then max (hiR l i k) (gR l k) else hiR l i k
def loR (l : List (Int × Int)) (i : Nat) : Nat → Int
  | 0 => gR l i
  | k + 1 => if gX l k ≤ gX l i then min (loR l i k) (gR l k) else loR l i k
def wiL (l : List (Int × Int)) (D : Nat → Int) (k : Nat) : List (Int × Int) := (List.range k).map fun j => (gX l j, D j)
theorem wiL_succ (l : List (Int × Int)) (D : Nat → Int) (k : Nat) : wiL l D (k + 1) = wiL l D k ++ [(gX l k, D k)] := by
  unfold wiL; rw [List.range_succ, List.map_append]; rfl
theorem hiR_bd {l : List (Int × Int)} {n i : Nat} (h : ∀ j, j < n → 50000 ≤ gR l j ∧ gR l j ≤ 120000) (hi : i < n) : ∀ k, k ≤ n → 50000 ≤ hiR l i k ∧ hiR l i k ≤ 120000
  | 0, _ => h i hi
  | k + 1, hk => by
    have ih := hiR_bd h hi k (by omega)
    have := h k (by omega)
    unfold hiR; split <;> omega
theorem loR_bd {l : List (Int × Int)} {n i : Nat} (h : ∀ j, j < n → 50000 ≤ gR l j ∧ gR l j ≤ 120000) (hi : i < n) : ∀ k, k ≤ n → 50000 ≤ loR l i k ∧ loR l i k ≤ 120000
  | 0, _ => h i hi
  | k + 1, hk => by
    have ih := loR_bd h hi k (by omega)
    have := h k (by omega)
    unfold loR; split <;> omega
set_option maxHeartbeats 8000000 in
theorem raRp_bad (v : Value) (E : Int) (w : World) (he : (E == 0) = false)
    (H : Hid (Calls Try.prog 46 #[v] w fun e w' => e = .returned (.bool (E == 0)) ∧ Below w.heap.size w w')) :
    Calls Try.prog 22 #[v] w fun e w' => e = .returned (.tuple #[.slice none 0 0, .int .i64 0, .int .i64 1]) ∧ Below w.heap.size w w' := by
  rw [he] at H
  go_enter Try.func22, Try.ntmps22
  go_wp2_with fail
  refine H.out.mono ?_
  rintro e w1 ⟨rfl, gg⟩
  have X := Lib.hid gg; clear gg
  go_wp2
  go_returns
  exact ⟨rfl, X.out⟩
set_option maxHeartbeats 64000000 in
set_option maxRecDepth 100000 in
theorem raRp_ok (b off n cap : Nat) (l : List (Int × Int)) (D : Nat → Int) (w : World) (n0 : 1 ≤ n) (n1 : n ≤ 128) (hb : b < w.heap.size)
    (hc : Hid (∀ j, j < n → w.cell? ⟨b, off + j * 2, none⟩ = some (.int .i64 (gX l j)) ∧ w.cell? ⟨b, off + j * 2 + 1, none⟩ = some (.int .i64 (gR l j))))
    (hd : Hid (∀ j, j < n → 50000 ≤ gR l j ∧ gR l j ≤ 120000)) (hD : Hid (∀ j, j < n → D j = (hiR l j n + loR l j n) / 2))
    (H : Hid (Calls Try.prog 46 #[.slice (some ⟨b, off, none⟩) n cap] w fun e w' => e = .returned (.bool true) ∧ Below w.heap.size w w')) :
    Calls Try.prog 22 #[.slice (some ⟨b, off, none⟩) n cap] w fun e w' => ∃ u, e = .returned (.tuple #[u, .int .i64 (cgF (gR l) D n), .int .i64 0]) ∧ Pts w' u (wiL l D n) ∧ Below w.heap.size w w' := by
  obtain ⟨i0, hi, hz0, hz1, hz2⟩ := RG.info_parts RG.mk_info
  replace hi := Lib.hid hi
  replace hz0 := Lib.hid hz0
  replace hz1 := Lib.hid hz1
  replace hz2 := Lib.hid hz2
  have M3 := run_max3
  go_enter Try.func22, Try.ntmps22
  go_wp2_with fail
  refine H.out.mono ?_
  rintro e w1 ⟨rfl, gg⟩
  have X1 := Lib.hid gg; clear gg
  have S0 : Hid (RG.MkI w (.slice (some ⟨w1.heap.size, 0, none⟩) 0 0) (wiL l D 0) (w1.alloc (.cells #[] 46))) := Lib.hid ⟨bel_trans X1.out (bel_alloc (Below.refl _ _)), World.ownsRow_made w1 #[] 0 X1.out.size (Nat.zero_le _) (by simp)⟩
  go_wp2_with fail
  go_loopw [5, 6, 7] (fun v ch ii wr => ∃ i : Nat, i ≤ n ∧ ii = .int .i64 (i : Int) ∧ ch = .int .i64 (cgF (gR l) D i) ∧ Hid (RG.MkI w v (wiL l D i) wr)) (fun _ _ ii _ => n - (intOf ii).toNat)
  case atStart => exact ⟨0, Nat.zero_le _, rfl, rfl, S0⟩
  case round =>
    clear S0
    obtain ⟨i, hii, rfl, rfl, hS⟩ := hrel
    by_cases hlt : i < n
    · have l0 : (i : Int) < (n : Int) := by omega
      have c0 := cell_bel (hc.out i hlt).1 hS.out.1
      have c1 := cell_bel (hc.out i hlt).2 hS.out.1
      have XQ := Lib.hid (fun q => bel_drewN wr q)
      have S1 := Lib.hid (fun q => hS.out.below (bel_drewN wr q))
      have r1 : hiR l i 0 = gR l i := rfl
      have r2 : loR l i 0 = gR l i := rfl
      replace r1 := Lib.hid r1
      replace r2 := Lib.hid r2
      clear hS
      go_wp2_with fail
      go_quiet (fail)
      go_wp2_with fail
      go_loopw [8, 9, 10] (fun hh ll kk wr => ∃ k : Nat, k ≤ n ∧ kk = .int .i64 (k : Int) ∧ hh = .int .i64 (hiR l i k) ∧ ll = .int .i64 (loR l i k) ∧ Hid (RG.MkI w u5 (wiL l D i) wr)) (fun _ _ kk _ => n - (intOf kk).toNat)
      case atStart => exact ⟨0, Nat.zero_le _, rfl, by rw [r1.out], by rw [r2.out], S1.out _⟩
      case round =>
        clear S1 XQ c0 c1
        obtain ⟨k, hkk, rfl, rfl, rfl, hS⟩ := hrel
        by_cases hlt2 : k < n
        · have l1 : (k : Int) < (n : Int) := by omega
          have c0 := cell_bel (hc.out i hlt).1 hS.out.1
          have c1 := cell_bel (hc.out i hlt).2 hS.out.1
          have c2 := cell_bel (hc.out k hlt2).1 hS.out.1
          have c3 := cell_bel (hc.out k hlt2).2 hS.out.1
          have PH : Hid (hiR l i (k + 1) = if gX l i ≤ gX l k then max (hiR l i k) (gR l k) else hiR l i k) := Lib.hid rfl
          have PL : Hid (loR l i (k + 1) = if gX l k ≤ gX l i then min (loR l i k) (gR l k) else loR l i k) := Lib.hid rfl
          have S2 : Hid (∀ a, RG.MkI w u5 (wiL l D i) (wr.drewN a)) := Lib.hid fun a => hS.out.below (bel_drewN wr a)
          generalize hH0 : hiR l i k = H0 at *
          generalize hL0 : loR l i k = L0 at *
          replace hH0 := Lib.hid hH0
          replace hL0 := Lib.hid hL0
          generalize gX l i = x at *
          generalize gR l i = r at *
          generalize gX l k = y at *
          generalize gR l k = s at *
          clear hS
          by_cases g1 : x ≤ y
          · have d1 : decide (x ≤ y) = true := decide_eq_true g1
            rw [if_pos g1] at PH
            by_cases g2 : y ≤ x
            · have d2 : decide (y ≤ x) = true := decide_eq_true g2
              rw [if_pos g2] at PL
              clear g1 g2
              go_wp2_with fail
              go_quiet (fail)
              go_wp2_with fail
              go_quiet (fail)
              go_wp2
              go_roundw
              case rel => exact ⟨k + 1, by omega, by go_num, by rw [PH.out], by rw [PL.out], S2.out _⟩
              case measure => simp [intOf]; omega
            · have d2 : decide (y ≤ x) = false := decide_eq_false g2
              rw [if_neg g2] at PL
              clear g1 g2
              go_wp2_with fail
              go_quiet (fail)
              go_wp2_with fail
              go_quiet (fail)
              go_wp2
              go_roundw
              case rel => exact ⟨k + 1, by omega, by go_num, by rw [PH.out], by rw [PL.out], S2.out _⟩
              case measure => simp [intOf]; omega
          · have d1 : decide (x ≤ y) = false := decide_eq_false g1
            rw [if_neg g1] at PH
            have g2 : y ≤ x := by omega
            have d2 : decide (y ≤ x) = true := decide_eq_true g2
            rw [if_pos g2] at PL
            clear g1 g2
            go_wp2_with fail
            go_quiet (fail)
            go_wp2_with fail
            go_quiet (fail)
            go_wp2
            go_roundw
            case rel => exact ⟨k + 1, by omega, by go_num, by rw [PH.out], by rw [PL.out], S2.out _⟩
            case measure => simp [intOf]; omega
        · obtain rfl : k = n := by omega
          obtain ⟨av, cv, ev⟩ := RG.shape hS.out.2
          have hln : (wiL l D i).length = i := by simp [wiL]
          rw [hln] at ev
          subst ev
          have c0 := cell_bel (hc.out i hlt).1 hS.out.1
          have c1 := cell_bel (hc.out i hlt).2 hS.out.1
          have bh := hiR_bd hd.out hlt k (Nat.le_refl _)
          have bl := loR_bd hd.out hlt k (Nat.le_refl _)
          have bd := hd.out i hlt
          have eD := hD.out i hlt
          have PK := Lib.hid (wiL_succ l D i)
          have PC : Hid (cgF (gR l) D (i + 1) = max (cgF (gR l) D i) (max (D i - gR l i) (gR l i - D i))) := Lib.hid rfl
          have S2 := Lib.hid (fun q => hS.out.below (bel_drewN wr q))
          have C2 := Lib.hid (fun q => cell_bel c0 (bel_drewN wr q))
          have e1 : IntKind.i64.wrap (hiR l i k + loR l i k) = hiR l i k + loR l i k := wrap_in _ ⟨by omega, by omega⟩
          have e2 : (hiR l i k + loR l i k).tdiv 2 = D i := by rw [eD]; exact Int.tdiv_eq_ediv_of_nonneg (by omega)
          have e3 : IntKind.i64.wrap (D i) = D i := wrap_in _ ⟨by omega, by omega⟩
          have wa : IntKind.i64.wrap (D i - gR l i) = D i - gR l i := wrap_in _ ⟨by omega, by omega⟩
          have wb : IntKind.i64.wrap (gR l i - D i) = gR l i - D i := wrap_in _ ⟨by omega, by omega⟩
          replace eD := Lib.hid eD
          clear hS
          generalize hL : wiL l D i = L at *
          replace hL := Lib.hid hL
          replace hln := Lib.hid hln
          generalize hiR l i k = H0 at *
          generalize loR l i k = L0 at *
          generalize cgF (gR l) D i = G at *
          generalize D i = d at *
          generalize gX l i = x at *
          generalize gR l i = r at *
          go_wp2_with fail
          go_quiet (fail)
          generalize hW2 : wr.drewN nq = w2 at *
          replace hW2 := Lib.hid hW2
          have SA := Lib.hid (S2.out nq)
          have c2 := C2.out nq
          rw [hW2.out] at SA c2
          have OA : Hid ((w2.alloc (.cells #[.int .i64 x, .int .i64 d] 46)).ownsRow w.heap.size 46 2 (.slice av i cv) i (flat L)) := Lib.hid (by
            have := RG.below SA.out.2 (bel_alloc (o := .cells #[.int .i64 x, .int .i64 d] 46) (Below.refl _ _))
            unfold RG.OwnM at this
            rwa [hln.out] at this)
          have CN := Lib.hid (RG.pair_new w2 x d 46)
          have S5 := Lib.hid (SA.out.below (bel_alloc (o := .cells #[.int .i64 x, .int .i64 d] 46) (Below.refl _ _)))
          have HS : Hid (w.heap.size ≤ (w2.alloc (.cells #[.int .i64 x, .int .i64 d] 46)).heap.size) := Lib.hid S5.out.1.size
          have M1 : Hid (i + 1 ≤ maxLen) := Lib.hid (by unfold maxLen; omega)
          have M2 : Hid ((i + 1) * 16 ≤ 140737488355328) := Lib.hid (by omega)
          clear c0 c1 C2 S2
          go_wp2_with (at_builtin; refine wpList_append_own_at _ rfl _ _ 22 rfl w.heap.size 46 i0 (.agg #[.int .i64 0, .int .i64 0]) 2 16 Try.underlying22 hi.out hz0.out hz1.out hz2.out rfl (by omega) _ _ _ rfl OA.out ⟨w2.heap.size, 0, none⟩ 1 1 [.int .i64 x, .int .i64 d] rfl rfl CN.out (RG.pair_one x d) M1.out M2.out HS.out ?_)
          intro v2 w5 hown hgrow _ _
          have SN : Hid (RG.MkI w v2 (wiL l D (i + 1)) w5) := Lib.hid (by
            have lt := fun r hr => (World.ownsRow.lt OA.out r hr).1
            exact ⟨S5.out.1.grown hgrow HS.out lt, RG.push PK.out hln.out hown⟩)
          clear hown hgrow OA CN
          go_wp2
          go_roundw
          case rel => exact ⟨i + 1, by omega, by go_num, by rw [PC.out], SN⟩
          case measure => simp [intOf]; omega
    · obtain rfl : i = n := by omega
      have PF := Lib.hid (RG.pts hS.out.2)
      have XF := Lib.hid hS.out.1
      clear hS
      go_wp2
      go_returns
      exact ⟨_, rfl, PF.out, XF.out⟩
end Go.Proofs.Ytooofppgjknigaa

/- The reference of layer 17: Largest, Repair, as the program's. -/
namespace Go.Proofs.Ytooofppgjknigaa
open Go.RowKit

theorem raLg_any (v : Value) (l : List (Int × Int)) (w : World) (hv : Pts w v l) :
    Calls Try.prog 20 #[v] w fun e w' => ∃ u, e = .returned (.tuple #[u, .int .i64 (leE l)]) ∧ Nums w' u (lgL l) ∧ Below w.heap.size w w' := by
  have HR := raRt_any v l w hv
  unfold lgL leE
  by_cases h : auE l = 0
  · rw [if_pos h, if_pos h]
    have hA := auE_zero.1 h
    have n0 := hA.n0
    have n1 := hA.n1
    rw [show (auE l == 0) = true by simpa using h] at HR
    obtain ⟨a, cap, rfl, hl, hh⟩ := hv
    rcases hh with hh | ⟨b, off, rfl, hb, hc⟩
    · omega
    · have bd := mxL_bd l l.length l.length
      have hd : ∀ j, j < l.length → 50000 ≤ gR l j ∧ gR l j ≤ 120000 := fun j hj => ⟨(hA.b j hj).2.2.1, (hA.b j hj).2.2.2⟩
      exact raLg_ok b off l.length cap l _ _ w n0 n1 hb (by omega) (mxT_lgT l l.length) hc (Lib.hid hd) HR (Lib.hid fun W hW => rln_some b off l.length cap l W n0 n1 (Nat.lt_of_lt_of_le hb hW.size) (Lib.hid fun j hj => ⟨cell_bel (hc j hj).1 hW, cell_bel (hc j hj).2 hW⟩) (Lib.hid hd))
  · rw [if_neg h, if_neg h]
    exact (raLg_bad v (auE l) w (by simpa using h) HR).mono fun e' w' g => ⟨_, g.1, nums_nil w', g.2⟩
/-! ### the repaired densities, two ways -/
theorem hiF_le {zs : List Int} {M : Int} : ∀ {k : Nat}, k ≤ zs.length → (hiF zs k ≤ M ↔ 50000 ≤ M ∧ ∀ i, i < k → zs.getD i 0 ≤ M)
  | 0, _ => by simp [hiF]
  | k + 1, hk => by
    have ih := @hiF_le zs M k (by omega)
    unfold hiF
    constructor
    · intro h
      have h1 := ih.1 (by omega)
      refine ⟨h1.1, fun i hi => ?_⟩
      by_cases e : i = k
      · subst e; omega
      · exact h1.2 i (by omega)
    · rintro ⟨h1, h2⟩
      have h3 := ih.2 ⟨h1, fun i hi => h2 i (by omega)⟩
      have := h2 k (by omega); omega
theorem loF_ge {zs : List Int} {M : Int} : ∀ {k : Nat}, k ≤ zs.length → (M ≤ loF zs k ↔ M ≤ 120000 ∧ ∀ i, i < k → M ≤ zs.getD i 0)
  | 0, _ => by simp [loF]
  | k + 1, hk => by
    have ih := @loF_ge zs M k (by omega)
    unfold loF
    constructor
    · intro h
      have h1 := ih.1 (by omega)
      refine ⟨h1.1, fun i hi => ?_⟩
      by_cases e : i = k
      · subst e; omega
      · exact h1.2 i (by omega)
    · rintro ⟨h1, h2⟩
      have h3 := ih.2 ⟨h1, fun i hi => h2 i (by omega)⟩
      have := h2 k (by omega); omega
theorem hiR_le {l : List (Int × Int)} {i : Nat} {M : Int} : ∀ {k : Nat}, hiR l i k ≤ M ↔ gR l i ≤ M ∧ ∀ j, j < k → gX l i ≤ gX l j → gR l j ≤ M
  | 0 => by simp [hiR]
  | k + 1 => by
    have ih := @hiR_le l i M k
    unfold hiR
    constructor
    · intro h
      have h1 := ih.1 (by split at h <;> omega)
      refine ⟨h1.1, fun j hj hg => ?_⟩
      by_cases e : j = k
      · subst e; rw [if_pos hg] at h; omega
      · exact h1.2 j (by omega) hg
    · rintro ⟨h1, h2⟩
      have h3 := ih.2 ⟨h1, fun j hj => h2 j (by omega)⟩
      split
      · rename_i g
        have := h2 k (by omega) g; omega
      · exact h3
theorem loR_ge {l : List (Int × Int)} {i : Nat} {M : Int} : ∀ {k : Nat}, M ≤ loR l i k ↔ M ≤ gR l i ∧ ∀ j, j < k → gX l j ≤ gX l i → M ≤ gR l j
  | 0 => by simp [loR]
  | k + 1 => by
    have ih := @loR_ge l i M k
    unfold loR
    constructor
    · intro h
      have h1 := ih.1 (by split at h <;> omega)
      refine ⟨h1.1, fun j hj hg => ?_⟩
      by_cases e : j = k
      · subst e; rw [if_pos hg] at h; omega
      · exact h1.2 j (by omega) hg
    · rintro ⟨h1, h2⟩
      have h3 := ih.2 ⟨h1, fun j hj => h2 j (by omega)⟩
      split
      · rename_i g
        have := h2 k (by omega) g; omega
      · exact h3
theorem hi_same {l : List (Int × Int)} (hA : AR l) {i : Nat} (hi : i < l.length) : hiF (sgL l (gX l i) l.length) (sgL l (gX l i) l.length).length = hiR l i l.length := by
  have key : ∀ M, hiF (sgL l (gX l i) l.length) (sgL l (gX l i) l.length).length ≤ M ↔ hiR l i l.length ≤ M := fun M => by
    rw [hiF_le (Nat.le_refl _), hiR_le]
    constructor
    · rintro ⟨h1, h2⟩
      have h3 : ∀ j, j < l.length → gX l i ≤ gX l j → gR l j ≤ M := fun j hj hg => by
        obtain ⟨m, hm, e⟩ := List.getElem_of_mem (sgL_mem.2 ⟨j, hj, hg, rfl⟩)
        have := h2 m hm
        rwa [List.getD_eq_getElem?_getD, List.getElem?_eq_getElem hm, Option.getD_some, e] at this
      exact ⟨h3 i hi (Int.le_refl _), h3⟩
    · rintro ⟨h1, h2⟩
      refine ⟨by have := (hA.b i hi).2.2; omega, fun m hm => ?_⟩
      obtain ⟨j, hj, hg, e⟩ := sgL_mem.1 (getD_mem hm)
      rw [e]; exact h2 j hj hg
  have a := (key _).1 (Int.le_refl _)
  have b := (key _).2 (Int.le_refl _)
  omega
theorem lo_same {l : List (Int × Int)} (hA : AR l) {i : Nat} (hi : i < l.length) : loF (wkL l (gX l i) l.length) (wkL l (gX l i) l.length).length = loR l i l.length := by
  have key : ∀ M, M ≤ loF (wkL l (gX l i) l.length) (wkL l (gX l i) l.length).length ↔ M ≤ loR l i l.length := fun M => by
    rw [loF_ge (Nat.le_refl _), loR_ge]
    constructor
    · rintro ⟨h1, h2⟩
      have h3 : ∀ j, j < l.length → gX l j ≤ gX l i → M ≤ gR l j := fun j hj hg => by
        obtain ⟨m, hm, e⟩ := List.getElem_of_mem (wkL_mem.2 ⟨j, hj, hg, rfl⟩)
        have := h2 m hm
        rwa [List.getD_eq_getElem?_getD, List.getElem?_eq_getElem hm, Option.getD_some, e] at this
      exact ⟨h3 i hi (Int.le_refl _), h3⟩
    · rintro ⟨h1, h2⟩
      refine ⟨by have := (hA.b i hi).2.2; omega, fun m hm => ?_⟩
      obtain ⟨j, hj, hg, e⟩ := wkL_mem.1 (getD_mem hm)
      rw [e]; exact h2 j hj hg
  have a := (key _).1 (Int.le_refl _)
  have b := (key _).2 (Int.le_refl _)
  omega
/-- the density of a repaired row by the greatest and the least ones -/
theorem rpF_is {l : List (Int × Int)} (hA : AR l) {i : Nat} (hi : i < l.length) : rpF l i = (hiR l i l.length + loR l i l.length) / 2 := by
  unfold rpF rpD
  rw [hi_same hA hi, lo_same hA hi]
theorem raRp_any (v : Value) (l : List (Int × Int)) (w : World) (hv : Pts w v l) :
    Calls Try.prog 22 #[v] w fun e w' => ∃ u, e = .returned (.tuple #[u, .int .i64 (rpV l), .int .i64 (leE l)]) ∧ Pts w' u (rpL l) ∧ Below w.heap.size w w' := by
  have HR := raRt_any v l w hv
  unfold rpL rpV leE
  by_cases h : auE l = 0
  · rw [if_pos h, if_pos h, if_pos h]
    have hA := auE_zero.1 h
    have n0 := hA.n0
    have n1 := hA.n1
    rw [show (auE l == 0) = true by simpa using h] at HR
    obtain ⟨a, cap, rfl, hl, hh⟩ := hv
    rcases hh with hh | ⟨b, off, rfl, hb, hc⟩
    · omega
    · have hd : ∀ j, j < l.length → 50000 ≤ gR l j ∧ gR l j ≤ 120000 := fun j hj => ⟨(hA.b j hj).2.2.1, (hA.b j hj).2.2.2⟩
      exact raRp_ok b off l.length cap l (rpF l) w n0 n1 hb (Lib.hid hc) (Lib.hid hd) (Lib.hid fun j hj => rpF_is hA hj) HR
  · rw [if_neg h, if_neg h, if_neg h]
    exact (raRp_bad v (auE l) w (by simpa using h) HR).mono fun e' w' g => ⟨_, g.1, pts_nil w', g.2⟩
end Go.Proofs.Ytooofppgjknigaa

/- Repairs are the least: plain facts; slices of uint16. -/
namespace Go.Proofs.Ytooofppgjknigaa
open Go.ChangeShapes Go.WideShapes Go.ChangeAt Go.RowKit Go.Joins

/-- a value is a slice that reads as a list of uint16 -/
def N16 (w : World) (v : Value) (zs : List Int) : Prop :=
  ∃ a cap, v = .slice a zs.length cap ∧ (zs.length ≤ cap ∧ cap ≤ 9223372036854775807) ∧ (∀ z ∈ zs, 0 ≤ z ∧ z ≤ 65535) ∧
    (zs.length = 0 ∨ ∃ b off, a = some ⟨b, off, none⟩ ∧ b < w.heap.size ∧ ∀ j, j < zs.length → w.cell? ⟨b, off + j, none⟩ = some (.int .u16 (zs.getD j 0)))
theorem N16.below {w w' : World} {v : Value} {zs : List Int} (h : N16 w v zs) (hb : Below w.heap.size w w') : N16 w' v zs := by
  obtain ⟨a, cap, rfl, hl, h0, h | ⟨b, off, rfl, hlt, hc⟩⟩ := h
  · exact ⟨a, cap, rfl, hl, h0, .inl h⟩
  · exact ⟨_, cap, rfl, hl, h0, .inr ⟨b, off, rfl, Nat.lt_of_lt_of_le hlt hb.size, fun j hj => cell_bel (hc j hj) hb⟩⟩
theorem open_u16s {H : Type} {enc : TypeId × Value → H} {w : World} {r : Reach} {b0 : Nat} {v : Value} {d : DataW H} {p : List MemPlace}
    (hv : Value.okWide Try.prog w r b0 44 v) (h : DataW.Trod enc Try.prog w 0 (fun _ => true) true 44 v d p) :
    ∃ zs : List Int, N16 w v zs := by
  obtain ⟨a0, len0, cap0, rfl⟩ := okWide_slice Try.underlying44 hv
  obtain ⟨fuel, hf⟩ := h
  rcases open_ints Try.underlying44 Try.underlying48 (by kernel_rfl) hf with ⟨hcs, _⟩ | ⟨x, l, c, zs, hcs, _, hl, hm, hz, _, hcell, hwz⟩
  · simp [Value.cells] at hcs
    obtain ⟨rfl, rfl, rfl⟩ := hcs
    exact ⟨[], none, 0, rfl, by simp, by simp, .inl rfl⟩
  · simp [Value.cells] at hcs
    obtain ⟨rfl, rfl, rfl⟩ := hcs
    simp only [if_true] at hz
    unfold maxLen at hm
    refine ⟨zs.take len0, some x, cap0, by rw [List.length_take, Nat.min_eq_left (by omega)], by rw [List.length_take]; omega, fun z hz => bounds_u16 (hwz z (List.mem_of_mem_take hz)), ?_⟩
    by_cases h0 : len0 = 0
    · left; rw [List.length_take]; omega
    · right
      obtain ⟨b, off, rfl, hc⟩ := ints_at hcell (by omega)
      have := hc 0 (by omega)
      refine ⟨b, off, rfl, World.block_lt_of_cell? w _ this, fun j hj => ?_⟩
      rw [List.length_take] at hj
      rw [hc j (by omega)]
      congr 2
      simp only [List.getD_eq_getElem?_getD, List.getElem?_take]
      rw [if_pos (by omega)]

theorem AR.le {l : List (Int × Int)} (h : AR l) {j : Nat} : ∀ {k : Nat}, j ≤ k → k < l.length → gX l j ≤ gX l k
  | 0, hj, _ => by rw [show j = 0 by omega]; exact Int.le_refl _
  | k + 1, hj, hk => by
    by_cases e : j = k + 1
    · rw [e]; exact Int.le_refl _
    · have := AR.le h (show j ≤ k by omega) (by omega)
      have := h.asc k hk
      omega
/-- what a row is denser than a weaker one is at most the least tolerance -/
theorem le_leV {l : List (Int × Int)} (hA : AR l) {j k : Nat} (hj : j < l.length) (hk : k < l.length) (h : gX l j ≤ gX l k) : gR l k - gR l j ≤ leV l := by
  have b := leV_bd hA
  have key := (leV_le hA b.1).1 (Int.le_refl _)
  rcases Nat.lt_trichotomy j k with g | g | g
  · have := key j k hj hk g
    unfold ex exd at this
    split at this <;> omega
  · subst g; omega
  · have := key k j hk hj g
    have e := hA.le (Nat.le_of_lt g) hj
    unfold ex exd at this
    rw [if_pos (by omega)] at this
    omega
/-- and some pair has it -/
theorem leV_at {l : List (Int × Int)} (hA : AR l) (h0 : 0 < leV l) : ∃ j k, j < l.length ∧ k < l.length ∧ gX l j ≤ gX l k ∧ leV l ≤ gR l k - gR l j ∧ j ≠ k := by
  rcases Classical.em (∃ j k, j < l.length ∧ k < l.length ∧ gX l j ≤ gX l k ∧ leV l ≤ gR l k - gR l j) with ⟨j, k, a, b, c, d⟩ | g
  · exact ⟨j, k, a, b, c, d, fun e => by subst e; omega⟩
  · have := (leV_le hA (show 0 ≤ leV l - 1 by omega)).2 fun j i hj hi hji => by
      have h1 : ¬ leV l ≤ gR l i - gR l j := fun h => g ⟨j, i, hj, hi, hA.le (Nat.le_of_lt hji) hi, h⟩
      unfold ex exd
      split
      · rename_i e
        have h2 : ¬ leV l ≤ gR l j - gR l i := fun h => g ⟨i, j, hi, hj, by omega, h⟩
        omega
      · omega
    omega
theorem cgF_le {R D : Nat → Int} {M : Int} (hM : 0 ≤ M) : ∀ {k : Nat}, cgF R D k ≤ M ↔ ∀ i, i < k → D i - R i ≤ M ∧ R i - D i ≤ M
  | 0 => by simp [cgF, hM]
  | k + 1 => by
    have ih := @cgF_le R D M hM k
    unfold cgF
    constructor
    · intro h i hi
      by_cases e : i = k
      · subst e; omega
      · exact ih.1 (by omega) i (by omega)
    · intro h
      have h1 := ih.2 (fun i hi => h i (by omega))
      have := h k (by omega); omega
theorem cgF_pos (R D : Nat → Int) : ∀ k, 0 ≤ cgF R D k
  | 0 => Int.le_refl _
  | k + 1 => by have := cgF_pos R D k; unfold cgF; omega
theorem cgF_at {R D : Nat → Int} : ∀ {k : Nat}, 0 < cgF R D k → ∃ i, i < k ∧ max (D i - R i) (R i - D i) = cgF R D k
  | 0, h => by simp [cgF] at h
  | k + 1, h => by
    have e3 : cgF R D (k + 1) = max (cgF R D k) (max (D k - R k) (R k - D k)) := rfl
    by_cases e : cgF R D (k + 1) = max (D k - R k) (R k - D k)
    · exact ⟨k, by omega, e.symm⟩
    · have e2 : cgF R D (k + 1) = cgF R D k := by omega
      obtain ⟨i, hi, h3⟩ := cgF_at (R := R) (D := D) (k := k) (by omega)
      exact ⟨i, by omega, by omega⟩
/-- where a repaired density lies -/
theorem rp_near {l : List (Int × Int)} (hA : AR l) {i : Nat} (hi : i < l.length) : rpF l i - gR l i ≤ (leV l + 1) / 2 ∧ gR l i - rpF l i ≤ (leV l + 1) / 2 := by
  have e := rpF_is hA hi
  have b := leV_bd hA
  have h1 := (hiR_le (l := l) (i := i) (k := l.length)).1 (Int.le_refl _)
  have h2 := (loR_ge (l := l) (i := i) (k := l.length)).1 (Int.le_refl _)
  have h3 : hiR l i l.length ≤ gR l i + leV l := hiR_le.2 ⟨by omega, fun j hj g => by have := le_leV hA hi hj g; omega⟩
  have h4 : gR l i - leV l ≤ loR l i l.length := loR_ge.2 ⟨by omega, fun j hj g => by have := le_leV hA hj hi g; omega⟩
  omega
theorem rp_change {l : List (Int × Int)} (hA : AR l) : rpV l = (leV l + 1) / 2 := by
  have b := leV_bd hA
  have e0 := auE_zero.2 hA
  unfold rpV
  rw [if_pos e0]
  have h1 := (cgF_le (R := gR l) (D := rpF l) (show 0 ≤ (leV l + 1) / 2 by omega)).2 (fun i hi => rp_near hA hi)
  have h2 := cgF_pos (gR l) (rpF l) l.length
  by_cases h0 : 0 < leV l
  · obtain ⟨j, k, hj, hk, hx, hr, hne⟩ := leV_at hA h0
    have e := rpF_is hA hk
    have h3 := (hiR_le (l := l) (i := k) (k := l.length) (M := gR l k)).2 ⟨Int.le_refl _, fun i hi g => by have := le_leV hA hj hi (by omega); omega⟩
    have h4 := (hiR_le (l := l) (i := k) (k := l.length)).1 (Int.le_refl _)
    have h5 := (loR_ge (l := l) (i := k) (k := l.length)).1 (Int.le_refl _)
    have h6 := h5.2 j hj hx
    have h7 := (cgF_le h2).1 (Int.le_refl _) k hk
    omega
  · omega
/-- rows with other densities, within bounds -/
theorem AR.wi {l : List (Int × Int)} (hA : AR l) {D : Nat → Int} (hD : ∀ j, j < l.length → 50000 ≤ D j ∧ D j ≤ 120000) : AR (wiD l D) := by
  have ln := wiD_len l D
  refine ⟨by rw [ln]; exact hA.n0, by rw [ln]; exact hA.n1, fun i hi => ?_, fun i hi => ?_⟩
  · rw [ln] at hi
    obtain ⟨e1, e2⟩ := wiD_at l D hi
    have := hA.b i hi
    have := hD i hi
    rw [e1, e2]; omega
  · rw [ln] at hi
    rw [(wiD_at l D hi).1, (wiD_at l D (show i < l.length by omega)).1]
    exact hA.asc i hi
theorem rp_right {l : List (Int × Int)} (hA : AR l) : AR (wiD l (rpF l)) := hA.wi fun j hj => rpD_bd hA (gX l j)
/-- repaired rows have no clash -/
theorem rp_none {l : List (Int × Int)} (hA : AR l) : (ccL (wiD l (rpF l)) 0).length = 0 := by
  refine (ccL_nil (rp_right hA) (Int.le_refl _) (by omega)).2 ((leV_le (rp_right hA) (Int.le_refl _)).2 fun j i hj hi hji => ?_)
  rw [wiD_len] at hj hi
  obtain ⟨x1, r1⟩ := wiD_at l (rpF l) hj
  obtain ⟨x2, r2⟩ := wiD_at l (rpF l) hi
  have hx := hA.le (Nat.le_of_lt hji) hi
  have e1 := rpF_is hA hj
  have e2 := rpF_is hA hi
  have h1 := (hiR_le (l := l) (i := j) (k := l.length)).1 (Int.le_refl _)
  have l1 := (loR_ge (l := l) (i := i) (k := l.length)).1 (Int.le_refl _)
  have a1 : hiR l i l.length ≤ hiR l j l.length := hiR_le.2 ⟨h1.2 i hi hx, fun k hk g => h1.2 k hk (by omega)⟩
  have a2 : loR l i l.length ≤ loR l j l.length := loR_ge.2 ⟨l1.2 j hj hx, fun k hk g => l1.2 k hk (by omega)⟩
  unfold ex exd
  rw [x1, x2, r1, r2]
  split
  · rename_i e
    have h2 := (hiR_le (l := l) (i := i) (k := l.length)).1 (Int.le_refl _)
    have l2 := (loR_ge (l := l) (i := j) (k := l.length)).1 (Int.le_refl _)
    have a3 : hiR l j l.length ≤ hiR l i l.length := hiR_le.2 ⟨h2.2 j hj (by omega), fun k hk g => h2.2 k hk (by omega)⟩
    have a4 : loR l j l.length ≤ loR l i l.length := loR_ge.2 ⟨l2.2 i hi (by omega), fun k hk g => l2.2 k hk (by omega)⟩
    have : rpF l i = rpF l j := by rw [e1, e2, show hiR l i l.length = hiR l j l.length by omega, show loR l i l.length = loR l j l.length by omega]
    omega
  · omega
/-- no other densities without a clash change less -/
theorem rp_least {l : List (Int × Int)} (hA : AR l) {D : Nat → Int} (hD : ∀ j, j < l.length → 50000 ≤ D j ∧ D j ≤ 120000) (h : (ccL (wiD l D) 0).length = 0) : rpV l ≤ cgF (gR l) D l.length := by
  have hB := hA.wi hD
  have z := (ccL_nil hB (Int.le_refl _) (by omega)).1 h
  have b := leV_bd hA
  have p := cgF_pos (gR l) D l.length
  rw [rp_change hA]
  by_cases h0 : 0 < leV l
  · obtain ⟨j, k, hj, hk, hx, hr, hne⟩ := leV_at hA h0
    obtain ⟨x1, r1⟩ := wiD_at l D hj
    obtain ⟨x2, r2⟩ := wiD_at l D hk
    have m := le_leV hB (j := j) (k := k) (by rw [wiD_len]; exact hj) (by rw [wiD_len]; exact hk) (by rw [x1, x2]; exact hx)
    rw [r1, r2] at m
    have h1 := (cgF_le p).1 (Int.le_refl _) j hj
    have h2 := (cgF_le p).1 (Int.le_refl _) k hk
    omega
  · omega
/-- whether the change is reached among the first rows -/
def reB (R D : Nat → Int) (C : Int) : Nat → Bool
  | 0 => C == 0
  | k + 1 => reB R D C k || (max (D k - R k) (R k - D k) == C)
theorem reB_true {R D : Nat → Int} {n : Nat} : reB R D (cgF R D n) n = true := by
  have mono : ∀ (C : Int) k, reB R D C k = true → ∀ m, k ≤ m → reB R D C m = true := fun C k h m hm => by
    induction m with
    | zero => rw [show k = 0 by omega] at h; exact h
    | succ m ih =>
      by_cases e : k = m + 1
      · rw [← e]; exact h
      · unfold reB; rw [ih (by omega)]; rfl
  by_cases h0 : cgF R D n = 0
  · exact mono _ 0 (by unfold reB; simpa using h0) n (by omega)
  · have := cgF_pos R D n
    obtain ⟨i, hi, e⟩ := cgF_at (show 0 < cgF R D n by omega)
    exact mono _ (i + 1) (by unfold reB; rw [e]; simp) n (by omega)
end Go.Proofs.Ytooofppgjknigaa

/- slices.Compact over rows. -/
namespace Go.Proofs.Ytooofppgjknigaa
open Go.RowKit

/-- the rows without those that are like the one before -/
def coF (l : List (Int × Int)) : Nat → List (Int × Int)
  | 0 => []
  | k + 1 => if k ≠ 0 ∧ samP (gX l k) (gR l k) (gX l (k - 1)) (gR l (k - 1)) = true then coF l k else coF l k ++ [(gX l k, gR l k)]
theorem coF_len (l : List (Int × Int)) : ∀ k, (coF l k).length ≤ k
  | 0 => Nat.le_refl _
  | k + 1 => by have := coF_len l k; unfold coF; split <;> simp <;> omega
theorem coF_skip {l : List (Int × Int)} {k : Nat} (h0 : k ≠ 0) (h : samP (gX l k) (gR l k) (gX l (k - 1)) (gR l (k - 1)) = true) : coF l (k + 1) = coF l k := by
  rw [coF, if_pos ⟨h0, h⟩]
theorem coF_put {l : List (Int × Int)} {k : Nat} (h : k ≠ 0 → samP (gX l k) (gR l k) (gX l (k - 1)) (gR l (k - 1)) = false) : coF l (k + 1) = coF l k ++ [(gX l k, gR l k)] := by
  rw [coF, if_neg]
  rintro ⟨h1, h2⟩
  rw [h h1] at h2; cases h2
theorem coF_all {l : List (Int × Int)} : ∀ {k : Nat}, (∀ j, j ≠ 0 → j < k → samP (gX l j) (gR l j) (gX l (j - 1)) (gR l (j - 1)) = false) → (coF l k).length = k ∧ ∀ j, j < k → gX (coF l k) j = gX l j ∧ gR (coF l k) j = gR l j
  | 0, _ => by simp [coF]
  | k + 1, h => by
    obtain ⟨h1, h2⟩ := @coF_all l k (fun j h0 hj => h j h0 (by omega))
    rw [coF_put (fun h0 => h k h0 (by omega))]
    refine ⟨by simp [h1], fun j hj => ?_⟩
    by_cases e : j = k
    · subst e
      simp [gX, gR, List.getD_eq_getElem?_getD, h1]
    · obtain ⟨g1, g2⟩ := h2 j (by omega)
      unfold gX gR at *
      rw [List.getD_eq_getElem?_getD, List.getElem?_append_left (by omega), ← List.getD_eq_getElem?_getD]
      exact ⟨g1, g2⟩
theorem run_clear_pairs {P : Program} (w : World) (t e ty : TypeId) (ht : P.underlying t = some (.slice e)) (hv : ∀ w, (zeroValue e).run P w = .ok (.agg #[.int .i64 0, .int .i64 0]) w) (b o n c : Nat) (hn : 0 < n)
    (hc : ∀ j, j < n * 2 → (w.cell? ⟨b, o + j, none⟩).isSome = true) (hf : ∀ j, j < n * 2 → w.frozen? ⟨b, o + j, none⟩ = false) :
    (Builtin.clear_ #[t] ty #[.slice (some ⟨b, o, none⟩) n c]).run P w = .ok (.tuple #[]) (w.setCells b o (List.replicate (n * 2) (.int .i64 0))) := by
  have hzc : (Builtin.zeroCells #[Value.int .i64 0, Value.int .i64 0] n).toList = List.replicate (n * 2) (Value.int .i64 0) := by
    simp [Builtin.zeroCells]
    apply List.ext_getElem
    · simp
    · intro i h1 h2
      simp
      rcases Nat.mod_two_eq_zero_or_one i with e | e <;> rw [e] <;> rfl
  have hst := run_storeCells_cells (P := P) b o (List.replicate (n * 2) (Value.int .i64 0)) 0 w (by simpa using hc) (by simpa using hf) (by intro v hv'; rw [List.eq_of_mem_replicate hv']; rfl)
  simp only [Nat.add_zero] at hst
  obtain ⟨m, rfl⟩ : ∃ m, n = m + 1 := ⟨n - 1, by omega⟩
  simp [Builtin.clear_, run_underlying ht, hv, Value.cells, hzc, hst]
/-- what the inner loop of Compact keeps: the first kk rows are those that are kept of the first i; from i - 1 on all are as they were -/
def CoI (w : World) (B gb n : Nat) (l : List (Int × Int)) (kk i : Nat) (W : World) : Prop :=
  (∃ F R, CC W gb n F R ∧ (∀ j, j < kk → F j = gX (coF l i) j ∧ R j = gR (coF l i) j) ∧ ∀ j, i - 1 ≤ j → j < n → F j = gX l j ∧ R j = gR l j) ∧
    gb < W.heap.size ∧ B ≤ gb ∧ Below B w W ∧ (coF l i).length = kk ∧ kk + 1 ≤ i
theorem CoI.drew {w W : World} {B gb n kk i : Nat} {l : List (Int × Int)} (h : CoI w B gb n l kk i W) (q : Nat) : CoI w B gb n l kk i (W.drewN q) := by
  obtain ⟨⟨F, R, h1, h2, h3⟩, h4, h5, h6, h7⟩ := h
  refine ⟨⟨F, R, fun j hj => ?_, h2, h3⟩, h4, h5, h6.trans ⟨rfl, rfl, rfl, Nat.le_refl _, fun _ _ => rfl⟩, h7⟩
  have := h1 j hj
  simpa [go_sem] using this
theorem CoI.skip {w W : World} {B gb n kk i : Nat} {l : List (Int × Int)} (h : CoI w B gb n l kk i W) (hi : i < n) (hd : samP (gX l i) (gR l i) (gX l (i - 1)) (gR l (i - 1)) = true) : CoI w B gb n l kk (i + 1) W := by
  obtain ⟨⟨F, R, h1, h2, h3⟩, h4, h5, h6, h7, h8⟩ := h
  have e := coF_skip (l := l) (k := i) (by omega) hd
  refine ⟨⟨F, R, h1, fun j hj => ?_, fun j h9 hj => h3 j (by omega) hj⟩, h4, h5, h6, by rw [e]; exact h7, by omega⟩
  rw [e]; exact h2 j hj
theorem CoI.put {w W : World} {B gb n kk i : Nat} {l : List (Int × Int)} (h : CoI w B gb n l kk i W) (hi : i < n) (hd : samP (gX l i) (gR l i) (gX l (i - 1)) (gR l (i - 1)) = false) :
    CoI w B gb n l (kk + 1) (i + 1) ((W.setCell ⟨gb, kk * 2, none⟩ (.int .i64 (gX l i))).setCell ⟨gb, kk * 2 + 1, none⟩ (.int .i64 (gR l i))) := by
  obtain ⟨⟨F, R, h1, h2, h3⟩, h4, h5, h6, h7, h8⟩ := h
  have e := coF_put (l := l) (k := i) (fun _ => hd)
  refine ⟨⟨_, _, (h1.setX (k := kk) (by omega) (gX l i)).setR (by omega) (gR l i), fun j hj => ?_, fun j h9 hj => ?_⟩, by simpa [World.setCell] using h4, h5, (h6.setCell (p := ⟨gb, kk * 2, none⟩) h5 _).setCell (p := ⟨gb, kk * 2 + 1, none⟩) h5 _, by rw [e, List.length_append, h7]; rfl, by omega⟩
  · rw [e]
    by_cases g : j = kk
    · subst g
      simp [gX, gR, List.getD_eq_getElem?_getD, h7]
    · obtain ⟨g1, g2⟩ := h2 j (by omega)
      rw [if_neg g, if_neg g, g1, g2]
      have hj' : j < (coF l i).length := by omega
      constructor <;> simp [gX, gR, List.getD_eq_getElem?_getD, List.getElem?_append_left hj']
  · rw [if_neg (by omega), if_neg (by omega)]
    exact h3 j (by omega) hj
theorem CoI.done {w W : World} {B gb n kk cap : Nat} {l : List (Int × Int)} (h : CoI w B gb n l kk n W) (hcap : n ≤ cap ∧ cap ≤ 9223372036854775807) :
    Pts (W.setCells gb (kk * 2) (List.replicate ((n - kk) * 2) (.int .i64 0))) (.slice (some ⟨gb, 0, none⟩) kk cap) (coF l n) ∧ Below B w (W.setCells gb (kk * 2) (List.replicate ((n - kk) * 2) (.int .i64 0))) ∧
    ∀ {P : Program} (t e ty : TypeId), P.underlying t = some (.slice e) → (∀ w, (zeroValue e).run P w = .ok (.agg #[.int .i64 0, .int .i64 0]) w) → ∀ c, (Builtin.clear_ #[t] ty #[.slice (some ⟨gb, kk * 2, none⟩) (n - kk) c]).run P W = .ok (.tuple #[]) (W.setCells gb (kk * 2) (List.replicate ((n - kk) * 2) (.int .i64 0))) := by
  obtain ⟨⟨F, R, h1, h2, h3⟩, h4, h5, h6, h7, h8⟩ := h
  refine ⟨⟨_, cap, by rw [h7], by rw [h7]; omega, .inr ⟨gb, 0, rfl, by rw [QTQ.set_size]; exact h4, fun j hj => ?_⟩⟩, h6.trans (QTQ.below_cells h5 _ _ _), fun {P} t e ty ht hv c => ?_⟩
  · rw [h7] at hj
    obtain ⟨⟨c0, c1⟩, _, _⟩ := h1 j (by omega)
    obtain ⟨g1, g2⟩ := h2 j hj
    rw [Nat.zero_add, ← g1, ← g2]
    exact ⟨by rw [World.cell?_setCells_out gb _ _ _ _ (fun _ _ => .inl (by show j * 2 < kk * 2; omega))]; exact c0, by rw [World.cell?_setCells_out gb _ _ _ _ (fun _ _ => .inl (by show j * 2 + 1 < kk * 2; omega))]; exact c1⟩
  · have key : ∀ j, j < (n - kk) * 2 → (W.cell? ⟨gb, kk * 2 + j, none⟩).isSome = true ∧ W.frozen? ⟨gb, kk * 2 + j, none⟩ = false := fun j hj => by
      obtain ⟨⟨c0, c1⟩, f0, f1⟩ := h1 (kk + j / 2) (by omega)
      rcases Nat.mod_two_eq_zero_or_one j with e | e
      · have e2 : kk * 2 + j = (kk + j / 2) * 2 := by omega
        rw [e2, c0]; exact ⟨rfl, f0⟩
      · have e2 : kk * 2 + j = (kk + j / 2) * 2 + 1 := by omega
        rw [e2, c1]; exact ⟨rfl, f1⟩
    exact run_clear_pairs W t e ty ht hv gb (kk * 2) (n - kk) c (by omega) (fun j hj => (key j hj).1) (fun j hj => (key j hj).2)
theorem zero_grade : ∀ w, Sem.run Try.prog (zeroValue 46) w = .ok (.agg #[.int .i64 0, .int .i64 0]) w := by
  intro w; rfl
set_option maxHeartbeats 32000000 in
set_option maxRecDepth 100000 in
theorem compact_some (B gb n cap : Nat) (l : List (Int × Int)) (w : World) (hn : n = l.length) (n0 : 1 ≤ n) (n1 : n ≤ 1000) (hcap : n ≤ cap ∧ cap ≤ 9223372036854775807) (hB : B ≤ gb) (hg : gb < w.heap.size) (hC : Hid (CC w gb n (gX l) (gR l))) :
    Calls Try.prog 53 #[.slice (some ⟨gb, 0, none⟩) n cap] w fun e w' => ∃ u, e = .returned u ∧ Pts w' u (coF l n) ∧ Below B w w' := by
  have whole : ∀ W, CC W gb n (gX l) (gR l) → gb < W.heap.size → (∀ j, j ≠ 0 → j < n → samP (gX l j) (gR l j) (gX l (j - 1)) (gR l (j - 1)) = false) → Pts W (.slice (some ⟨gb, 0, none⟩) n cap) (coF l n) := fun W h1 h2 h3 => by
    obtain ⟨g1, g2⟩ := coF_all h3
    exact h1.pts h2 g1 hcap (fun j hj => by obtain ⟨e1, e2⟩ := g2 j hj; exact ⟨e1.symm, e2.symm⟩)
  replace whole := Lib.hid whole
  replace hn := Lib.hid hn
  by_cases h2 : n < 2
  · have d2 : decide ((n : Int) < 2) = true := decide_eq_true (by omega)
    have PW := Lib.hid (whole.out w hC.out hg (fun j h0 hj => by omega))
    go_enter Try.func53, Try.ntmps53
    go_wp2
    go_returns
    exact ⟨_, rfl, PW.out, Below.refl _ _⟩
  · have d2 : decide ((n : Int) < 2) = false := decide_eq_false (by omega)
    have S0 : Hid (∀ q, CC (w.drewN q) gb n (gX l) (gR l)) := Lib.hid fun q j hj => by
      have := hC.out j hj
      simpa [go_sem] using this
    go_enter Try.func53, Try.ntmps53
    go_wp2_with fail
    go_loopw [3] (fun kk wr => ∃ k q : Nat, 1 ≤ k ∧ k ≤ n ∧ kk = .int .i64 (k : Int) ∧ wr = w.drewN q ∧ Hid (∀ j, j ≠ 0 → j < k → samP (gX l j) (gR l j) (gX l (j - 1)) (gR l (j - 1)) = false)) (fun kk _ => n - (intOf kk).toNat)
    case atStart => exact ⟨1, 0, Nat.le_refl _, by omega, rfl, rfl, Lib.hid fun j h0 hj => by omega⟩
    case round =>
      obtain ⟨k, q, hk0, hk, rfl, hwr, ha⟩ := hrel
      have HC := S0.out q
      have HB : Hid (Below B w wr) := Lib.hid (by rw [hwr]; exact ⟨rfl, rfl, rfl, Nat.le_refl _, fun _ _ => rfl⟩)
      have HG : gb < wr.heap.size := by rw [hwr]; exact hg
      rw [← hwr] at HC
      replace HC := Lib.hid HC
      by_cases hlt : k < n
      · obtain ⟨m, rfl⟩ : ∃ m, k = m + 1 := ⟨k - 1, by omega⟩
        obtain ⟨⟨c0, c1⟩, _, _⟩ := HC.out (m + 1) hlt
        obtain ⟨⟨p0, p1⟩, _, _⟩ := HC.out m (by omega)
        have l0 : ((m + 1 : Nat) : Int) < (n : Int) := by omega
        have l0' : (m : Int) + 1 < (n : Int) := by omega
        have l1 : (m : Int) < (n : Int) := by omega
        have w1' : IntKind.i64.wrap (((m + 1 : Nat) : Int) - 1) = (m : Int) := by rw [wrap_in _ ⟨by omega, by omega⟩]; omega
        have w2 : IntKind.i64.wrap ((m : Int) + 1 - 1) = (m : Int) := by rw [wrap_in _ ⟨by omega, by omega⟩]; omega
        have w3 : IntKind.i64.wrap (m : Int) = (m : Int) := wrap_in _ ⟨by omega, by omega⟩
        have hq2 : Hid (∀ s, wr.drewN s = w.drewN (q + s)) := Lib.hid fun s => by rw [hwr, World.drewN_drewN]
        have hs : Hid (samP (gX l (m + 1)) (gR l (m + 1)) (gX l m) (gR l m) = false → ∀ j, j ≠ 0 → j < m + 1 + 1 → samP (gX l j) (gR l j) (gX l (j - 1)) (gR l (j - 1)) = false) := Lib.hid fun h j h0 hj => by
          by_cases e : j = m + 1
          · rw [e]; exact h
          · exact ha.out j h0 (by omega)
        cases hd : samP (gX l (m + 1)) (gR l (m + 1)) (gX l m) (gR l m) with
        | false =>
          have hs2 := Lib.hid (hs.out hd)
          generalize gX l (m + 1) = x at *
          generalize gR l (m + 1) = r at *
          generalize gX l m = y at *
          generalize gR l m = s at *
          have Q : ∀ W, (binOp .eql 46 (.agg #[.int .i64 x, .int .i64 r]) (.agg #[.int .i64 y, .int .i64 s])).run Try.prog W = .ok (.bool false) W := fun W => by rw [run_eql_point, hd]
          replace hwr := Lib.hid hwr
          clear hd hs
          go_wp2_with fail
          go_quiet (fail)
          go_wp2
          go_roundw
          case rel => exact ⟨m + 1 + 1, _, by omega, by omega, by go_num, hq2.out _, hs2⟩
          case measure => simp [intOf]; omega
        | true =>
          have I0 : Hid (∀ s, CoI w B gb n l (m + 1) (m + 1 + 1) (wr.drewN s)) := Lib.hid fun s => by
            obtain ⟨g1, g2⟩ := coF_all (l := l) (k := m + 1) (fun j h0 hj => ha.out j h0 (by omega))
            have e := coF_skip (l := l) (k := m + 1) (by omega) (by rw [show m + 1 - 1 = m by omega]; exact hd)
            refine CoI.drew (q := s) ⟨⟨gX l, gR l, HC.out, fun j hj => by rw [e]; obtain ⟨e1, e2⟩ := g2 j hj; exact ⟨e1.symm, e2.symm⟩, fun j _ _ => ⟨rfl, rfl⟩⟩, HG, hB, HB.out, by rw [e]; exact g1, Nat.le_refl _⟩
          generalize gX l (m + 1) = x at *
          generalize gR l (m + 1) = r at *
          generalize gX l m = y at *
          generalize gR l m = s at *
          have Q : ∀ W, (binOp .eql 46 (.agg #[.int .i64 x, .int .i64 r]) (.agg #[.int .i64 y, .int .i64 s])).run Try.prog W = .ok (.bool true) W := fun W => by rw [run_eql_point, hd]
          have hcm : ¬ cap = m + 1 := by omega
          have hcm2 : (m : Int) + 1 ≤ (cap : Int) := by omega
          replace hwr := Lib.hid hwr
          clear hd hs
          go_wp2_with fail
          go_quiet (fail)
          have I1 := Lib.hid (I0.out nq)
          generalize wr.drewN nq = W1 at *
          clear c0 c1 p0 p1 Q I0 HC HB HG
          go_wp2_with fail
          go_loopw [3, 5] (fun kk k2 wr => ∃ (c d : Nat), kk = .int .i64 (c : Int) ∧ k2 = .int .i64 (d : Int) ∧ 1 ≤ d ∧ m + 1 + d ≤ n ∧ Hid (CoI w B gb n l c (m + 1 + d) wr)) (fun _ k2 _ => n - (intOf k2).toNat)
          case atStart => exact ⟨m + 1, 1, by go_num, rfl, Nat.le_refl _, by omega, I1⟩
          case round =>
            clear I1
            obtain ⟨c, d, rfl, rfl, hd1, hdn, hI⟩ := hrel
            obtain ⟨⟨F, R, hCC, hlow, hhigh⟩, hg4, _, _, hlc, hci⟩ := hI.out
            by_cases hlt2 : m + 1 + d < n
            · obtain ⟨e, rfl⟩ : ∃ e, d = e + 1 := ⟨d - 1, by omega⟩
              obtain ⟨⟨c0, c1⟩, _, _⟩ := hCC (m + 1 + (e + 1)) hlt2
              obtain ⟨⟨p0, p1⟩, _, _⟩ := hCC (m + 1 + e) (by omega)
              obtain ⟨⟨k0, k1⟩, f0, f1⟩ := hCC c (by omega)
              obtain ⟨g1, g2⟩ := hhigh (m + 1 + (e + 1)) (by omega) (by omega)
              obtain ⟨g3, g4⟩ := hhigh (m + 1 + e) (by omega) (by omega)
              rw [g1, show (m + 1 + (e + 1)) * 2 = (m + 1) * 2 + (e + 1) * 2 by omega] at c0
              rw [g2, show (m + 1 + (e + 1)) * 2 = (m + 1) * 2 + (e + 1) * 2 by omega] at c1
              rw [g3, show (m + 1 + e) * 2 = (m + 1) * 2 + e * 2 by omega] at p0
              rw [g4, show (m + 1 + e) * 2 = (m + 1) * 2 + e * 2 by omega] at p1
              have l3 : ((e + 1 : Nat) : Int) < ((n - (m + 1) : Nat) : Int) := by omega
              have l3' : (e : Int) + 1 < ((n - (m + 1) : Nat) : Int) := by omega
              have l4 : (e : Int) < ((n - (m + 1) : Nat) : Int) := by omega
              have l3n : e + 1 < n - (m + 1) := by omega
              have l4n : e < n - (m + 1) := by omega
              have l5 : (c : Int) < (n : Int) := by omega
              have w5 : IntKind.i64.wrap (((e + 1 : Nat) : Int) - 1) = (e : Int) := by rw [wrap_in _ ⟨by omega, by omega⟩]; omega
              have w6 : IntKind.i64.wrap ((e : Int) + 1 - 1) = (e : Int) := by rw [wrap_in _ ⟨by omega, by omega⟩]; omega
              have w7 : IntKind.i64.wrap (e : Int) = (e : Int) := wrap_in _ ⟨by omega, by omega⟩
              have w8 : IntKind.i64.wrap ((c : Int) + 1) = (c : Int) + 1 := wrap_in _ ⟨by omega, by omega⟩
              have IQ := Lib.hid (fun q => CoI.drew hI.out q)
              have IS := Lib.hid (fun W (h : CoI w B gb n l c (m + 1 + (e + 1)) W) => h.skip hlt2)
              have IP := Lib.hid (fun W (h : CoI w B gb n l c (m + 1 + (e + 1)) W) => h.put hlt2)
              rw [show m + 1 + (e + 1) - 1 = m + 1 + e by omega] at IS IP
              clear hhigh hlow hCC g1 g2 g3 g4 hI
              generalize gX l (m + 1 + (e + 1)) = x2 at *
              generalize gR l (m + 1 + (e + 1)) = r2 at *
              generalize gX l (m + 1 + e) = y2 at *
              generalize gR l (m + 1 + e) = s2 at *
              generalize F c = u0 at *
              generalize R c = u1 at *
              cases hd : samP x2 r2 y2 s2 with
              | true =>
                have Q : ∀ W, (binOp .neq 46 (.agg #[.int .i64 x2, .int .i64 r2]) (.agg #[.int .i64 y2, .int .i64 s2])).run Try.prog W = .ok (.bool false) W := fun W => by rw [run_neq_point, hd]; rfl
                have I2 := Lib.hid (fun q => IS.out _ (IQ.out q) hd)
                clear hd IS IP IQ hlc
                go_wp2_with fail
                go_quiet (fail)
                go_wp2
                go_roundw
                case rel => exact ⟨c, e + 1 + 1, rfl, by go_num, by omega, by omega, I2.out _⟩
                case measure => simp [intOf]; omega
              | false =>
                have Q : ∀ W, (binOp .neq 46 (.agg #[.int .i64 x2, .int .i64 r2]) (.agg #[.int .i64 y2, .int .i64 s2])).run Try.prog W = .ok (.bool true) W := fun W => by rw [run_neq_point, hd]; rfl
                have I2 := Lib.hid (fun q => IP.out _ (IQ.out q) hd)
                clear hd IS IP IQ hlc
                go_wp2_with fail
                go_quiet (fail)
                have I3 := Lib.hid (I2.out nq)
                have k0 : (wr.drewN nq).cell? ⟨gb, c * 2, none⟩ = some (.int .i64 u0) := by simpa [go_sem] using k0
                have k1 : (wr.drewN nq).cell? ⟨gb, c * 2 + 1, none⟩ = some (.int .i64 u1) := by simpa [go_sem] using k1
                have c0 : (wr.drewN nq).cell? ⟨gb, (m + 1) * 2 + (e + 1) * 2, none⟩ = some (.int .i64 x2) := by simpa [go_sem] using c0
                have c1 : (wr.drewN nq).cell? ⟨gb, (m + 1) * 2 + (e + 1) * 2 + 1, none⟩ = some (.int .i64 r2) := by simpa [go_sem] using c1
                have f0 : (wr.drewN nq).frozen? ⟨gb, c * 2, none⟩ = false := by simpa [go_sem] using f0
                have f1 : (wr.drewN nq).frozen? ⟨gb, c * 2 + 1, none⟩ = false := by simpa [go_sem] using f1
                generalize wr.drewN nq = wq at *
                clear I2
                go_wp2
                go_roundw
                case rel => exact ⟨c + 1, e + 1 + 1, by go_num, by go_num, by omega, by omega, I3⟩
                case measure => simp [intOf]; omega
            · have en : m + 1 + d = n := by omega
              rw [en] at hI
              have l3 : ((d : Nat) : Int) = ((n - (m + 1) : Nat) : Int) := by omega
              have l3b : decide ((d : Int) < ((n - (m + 1) : Nat) : Int)) = false := decide_eq_false (by omega)
              have l3c : decide (d < n - (m + 1)) = false := decide_eq_false (by omega)
              have hcc : ¬ cap = c := by omega
              have hc1 : (c : Int) ≤ (cap : Int) := by omega
              have hc2 : c ≤ cap := by omega
              have hc3 : c ≤ n := by omega
              have hc4 : (c : Int) ≤ (n : Int) := by omega
              obtain ⟨P1, B1, CL⟩ := hI.out.done hcap
              have CL2 := fun ty => CL (P := Try.prog) 22 46 ty Try.underlying22 zero_grade (cap - c)
              replace P1 := Lib.hid P1
              replace B1 := Lib.hid B1
              replace en := Lib.hid en
              clear hCC hlow hhigh hlc hci hI CL l3
              go_wp2
              go_returns
              exact ⟨_, rfl, P1.out, B1.out⟩
      · obtain rfl : n = k := by omega
        have PW := Lib.hid (whole.out wr HC.out HG ha.out)
        replace hwr := Lib.hid hwr
        go_wp2
        go_returns
        exact ⟨_, rfl, PW.out, HB.out⟩
end Go.Proofs.Ytooofppgjknigaa

/- Package density and its reference: Check. -/
namespace Go.Proofs.Ytooofppgjknigaa
open Go.RowKit

set_option maxHeartbeats 4000000 in
theorem dnOut_any (x v : Int) (w : World) :
    Calls Try.prog 63 #[.agg #[.int .i64 x, .int .i64 v]] w fun e w' => e = .returned (.bool (outB x v)) ∧ Below w.heap.size w w' := by
  unfold outB
  have X := Lib.hid (bel_alloc (o := .cells #[.int .i64 x, .int .i64 v] 46) (Below.refl _ (w.alloc (.cells #[.int .i64 x, .int .i64 v] 46))))
  by_cases h0 : x < 0
  · have d0 : decide (x < 0) = true := decide_eq_true h0
    rw [d0, Bool.true_or, Bool.true_or, Bool.true_or]
    clear h0
    go_enter Try.func63, Try.ntmps63
    go_wp2
    go_returns
    exact ⟨rfl, X.out⟩
  have d0 : decide (x < 0) = false := decide_eq_false h0
  by_cases h1 : 10000 < x
  · have d1 : decide (10000 < x) = true := decide_eq_true h1
    rw [d0, d1, Bool.false_or, Bool.true_or, Bool.true_or]
    clear h0 h1
    go_enter Try.func63, Try.ntmps63
    go_wp2
    go_returns
    exact ⟨rfl, X.out⟩
  have d1 : decide (10000 < x) = false := decide_eq_false h1
  by_cases h2 : v < 50000
  · have d2 : decide (v < 50000) = true := decide_eq_true h2
    rw [d0, d1, d2, Bool.false_or, Bool.false_or, Bool.true_or]
    clear h0 h1 h2
    go_enter Try.func63, Try.ntmps63
    go_wp2
    go_returns
    exact ⟨rfl, X.out⟩
  have d2 : decide (v < 50000) = false := decide_eq_false h2
  rw [d0, d1, d2, Bool.false_or, Bool.false_or, Bool.false_or]
  clear h0 h1 h2
  generalize hB : decide (120000 < v) = B
  go_enter Try.func63, Try.ntmps63
  go_wp2
  go_returns
  exact ⟨rfl, X.out⟩

set_option maxHeartbeats 16000000 in
set_option maxRecDepth 100000 in
theorem dnFlt_some (b off n cap k : Nat) (l : List (Int × Int)) (w : World) (n1 : n ≤ 128) (hb : b < w.heap.size) (hk : k < n)
    (hc : Hid (∀ j, j < n → w.cell? ⟨b, off + j * 2, none⟩ = some (.int .i64 (gX l j)) ∧ w.cell? ⟨b, off + j * 2 + 1, none⟩ = some (.int .i64 (gR l j)))) :
    Calls Try.prog 59 #[.slice (some ⟨b, off, none⟩) n cap, .int .i64 k] w fun e w' => e = .returned (.int .i64 (dnF l k)) ∧ Below w.heap.size w w' := by
  have c0 := (hc.out k hk).1
  have c1 := (hc.out k hk).2
  have l0 : (k : Int) < (n : Int) := by omega
  have HO := Lib.hid (fun W => dnOut_any (gX l k) (gR l k) W)
  have cp : Hid (k ≠ 0 → w.cell? ⟨b, off + (k - 1) * 2, none⟩ = some (.int .i64 (gX l (k - 1))) ∧ w.cell? ⟨b, off + (k - 1) * 2 + 1, none⟩ = some (.int .i64 (gR l (k - 1)))) := fun hk0 => hc.out (k - 1) (by omega)
  have HF : Hid (dnF l k = if outB (gX l k) (gR l k) = true then 2 else if k ≠ 0 ∧ gX l k ≤ gX l (k - 1) then 5 else if k ≠ 0 ∧ gR l (k - 1) < gR l k then 18 else 0) := Lib.hid rfl
  generalize dnF l k = F at *
  generalize gX l k = x at *
  generalize gR l k = r at *
  generalize gX l (k - 1) = y at *
  generalize gR l (k - 1) = s at *
  clear hc
  cases ho : outB x r with
  | true =>
    rw [ho] at HO HF
    have e : F = 2 := HF.out
    subst e
    clear ho HF cp
    go_enter Try.func59, Try.ntmps59
    go_wp2_with fail
    refine (HO.out _).mono ?_
    rintro e w1 ⟨rfl, gg⟩
    have X := Lib.hid gg; clear gg
    go_wp2
    go_returns
    exact ⟨rfl, X.out⟩
  | false =>
    rw [ho] at HO HF
    by_cases k0 : k = 0
    · have e : F = 0 := by rw [HF.out]; simp [k0]
      subst e
      have dk : decide (0 < (k : Int)) = false := decide_eq_false (by omega)
      have dk2 : decide (0 < k) = false := decide_eq_false (by omega)
      have dk3 : ¬ 0 < k := by omega
      replace k0 := Lib.hid k0
      clear ho HF cp
      go_enter Try.func59, Try.ntmps59
      go_wp2_with fail
      refine (HO.out _).mono ?_
      rintro e w1 ⟨rfl, gg⟩
      have X := Lib.hid gg
      replace c0 := cell_bel c0 gg
      replace c1 := cell_bel c1 gg
      clear gg
      go_wp2_with fail
      go_quiet (fail)
      go_wp2_with fail
      go_quiet (fail)
      go_wp2
      go_returns
      exact ⟨rfl, bel_trans X.out (by first | exact bel_drewN _ _ | exact bel_drew2 _ _ _)⟩
    · have dk : decide (0 < (k : Int)) = true := decide_eq_true (by omega)
      obtain ⟨m, rfl⟩ : ∃ m, k = m + 1 := ⟨k - 1, by omega⟩
      have w1' : IntKind.i64.wrap (((m + 1 : Nat) : Int) - 1) = (m : Int) := by rw [wrap_in _ ⟨by omega, by omega⟩]; omega
      have w2 : IntKind.i64.wrap ((m : Int) + 1 - 1) = (m : Int) := by rw [wrap_in _ ⟨by omega, by omega⟩]; omega
      have w3 : IntKind.i64.wrap (m : Int) = (m : Int) := wrap_in _ ⟨by omega, by omega⟩
      have l1 : (m : Int) < (n : Int) := by omega
      obtain ⟨q0, q1⟩ := cp.out (by omega)
      rw [show m + 1 - 1 = m by omega] at q0 q1
      clear cp
      by_cases hxy : x ≤ y
      · have e : F = 5 := by rw [HF.out]; simp [hxy]
        subst e
        have dxy : decide (x ≤ y) = true := decide_eq_true hxy
        clear ho HF
        go_enter Try.func59, Try.ntmps59
        go_wp2_with fail
        refine (HO.out _).mono ?_
        rintro e w1 ⟨rfl, gg⟩
        have X := Lib.hid gg
        replace c0 := cell_bel c0 gg
        replace c1 := cell_bel c1 gg
        replace q0 := cell_bel q0 gg
        replace q1 := cell_bel q1 gg
        clear gg
        go_wp2_with fail
        go_quiet (fail)
        go_wp2
        go_returns
        exact ⟨rfl, bel_trans X.out (by first | exact bel_drewN _ _ | exact bel_drew2 _ _ _)⟩
      · have dxy : decide (x ≤ y) = false := decide_eq_false hxy
        by_cases hrs : s < r
        · have e : F = 18 := by rw [HF.out]; simp [hxy, hrs]
          subst e
          have drs : decide (s < r) = true := decide_eq_true hrs
          clear ho HF
          go_enter Try.func59, Try.ntmps59
          go_wp2_with fail
          refine (HO.out _).mono ?_
          rintro e w1 ⟨rfl, gg⟩
          have X := Lib.hid gg
          replace c0 := cell_bel c0 gg
          replace c1 := cell_bel c1 gg
          replace q0 := cell_bel q0 gg
          replace q1 := cell_bel q1 gg
          clear gg
          go_wp2_with fail
          go_quiet (fail)
          go_wp2_with fail
          go_quiet (fail)
          go_wp2
          go_returns
          exact ⟨rfl, bel_trans X.out (by first | exact bel_drewN _ _ | exact bel_drew2 _ _ _)⟩
        · have e : F = 0 := by rw [HF.out]; simp [hxy, hrs]
          subst e
          have drs : decide (s < r) = false := decide_eq_false hrs
          clear ho HF
          go_enter Try.func59, Try.ntmps59
          go_wp2_with fail
          refine (HO.out _).mono ?_
          rintro e w1 ⟨rfl, gg⟩
          have X := Lib.hid gg
          replace c0 := cell_bel c0 gg
          replace c1 := cell_bel c1 gg
          replace q0 := cell_bel q0 gg
          replace q1 := cell_bel q1 gg
          clear gg
          go_wp2_with fail
          go_quiet (fail)
          go_wp2_with fail
          go_quiet (fail)
          go_wp2
          go_returns
          exact ⟨rfl, bel_trans X.out (by first | exact bel_drewN _ _ | exact bel_drew2 _ _ _)⟩
set_option maxHeartbeats 4000000 in
theorem dnChk_len (a : Option Addr) (n cap : Nat) (V : Int) (w : World) (h : (n < 2 ∧ V = 9) ∨ (128 < n ∧ n ≤ 9223372036854775807 ∧ V = 8)) :
    Calls Try.prog 38 #[.slice a n cap] w fun e w' => e = .returned (.tuple #[.int .i64 (-1), .int .i64 V]) ∧ Below w.heap.size w w' := by
  rcases h with ⟨h, rfl⟩ | ⟨h, h2, rfl⟩
  all_goals
    go_enter Try.func38, Try.ntmps38
    go_wp2
    go_returns
    exact ⟨rfl, Below.refl _ _⟩
set_option maxHeartbeats 16000000 in
set_option maxRecDepth 100000 in
theorem dnChk_some (b off m cap : Nat) (l : List (Int × Int)) (I E : Int) (w : World) (n0 : 1 ≤ m) (n1 : m + 1 ≤ 128) (hb : b < w.heap.size)
    (hc : Hid (∀ j, j < m + 1 → w.cell? ⟨b, off + j * 2, none⟩ = some (.int .i64 (gX l j)) ∧ w.cell? ⟨b, off + j * 2 + 1, none⟩ = some (.int .i64 (gR l j))))
    (h1 : Hid (∀ k, k < m + 1 → (∀ j, j < k → dnF l j = 0) → dnF l k ≠ 0 → I = k ∧ E = dnF l k))
    (h2 : Hid ((∀ j, j < m + 1 → dnF l j = 0) → (gX l 0 ≠ 0 → E = 10 ∧ I = 0) ∧ (gX l 0 = 0 → gX l m ≠ 10000 → E = 10 ∧ I = (m : Int)) ∧ (gX l 0 = 0 → gX l m = 10000 → E = 0 ∧ I = -1))) :
    Calls Try.prog 38 #[.slice (some ⟨b, off, none⟩) (m + 1) cap] w fun e w' => e = .returned (.tuple #[.int .i64 I, .int .i64 E]) ∧ Below w.heap.size w w' := by
  have d8 : decide (128 < (m : Int) + 1) = false := decide_eq_false (by omega)
  have d9 : decide ((m : Int) + 1 < 2) = false := decide_eq_false (by omega)
  have wm : IntKind.i64.wrap ((m : Int) + 1 - 1) = (m : Int) := by rw [wrap_in _ ⟨by omega, by omega⟩]; omega
  have wm2 : IntKind.i64.wrap (m : Int) = (m : Int) := wrap_in _ ⟨by omega, by omega⟩
  go_enter Try.func38, Try.ntmps38
  go_wp2_with fail
  go_loopw [15] (fun ii wr => ∃ k : Nat, k ≤ m + 1 ∧ ii = .int .i64 (k : Int) ∧ Hid (Below w.heap.size w wr) ∧ Hid (∀ j, j < k → dnF l j = 0)) (fun ii _ => m + 1 - (intOf ii).toNat)
  case atStart => exact ⟨0, Nat.zero_le _, rfl, Below.refl _ _, fun j hj => by omega⟩
  case round =>
    obtain ⟨k, hk, rfl, hB, ha⟩ := hrel
    by_cases hlt : k < m + 1
    · have bb : b < wr.heap.size := Nat.lt_of_lt_of_le hb hB.out.size
      have l0 : (k : Int) < (m : Int) + 1 := by omega
      have l00 : (k : Int) < ((m + 1 : Nat) : Int) := by omega
      have H1 := Lib.hid (h1.out k hlt ha.out)
      have HS : Hid (dnF l k = 0 → ∀ j, j < k + 1 → dnF l j = 0) := fun h j hj => by
        by_cases e : j = k
        · rw [e]; exact h
        · exact ha.out j (by omega)
      have HK := Lib.hid (dnFlt_some b off (m + 1) cap k l wr (by omega) bb hlt (Lib.hid fun j hj => ⟨cell_bel (hc.out j hj).1 hB.out, cell_bel (hc.out j hj).2 hB.out⟩))
      generalize dnF l k = F at *
      by_cases hF : F = 0
      · have hs2 := Lib.hid (HS.out hF)
        subst hF
        clear HS H1
        go_wp2_with fail
        refine HK.out.mono ?_
        rintro e w1 ⟨rfl, gg⟩
        have X := Lib.hid (bel_trans hB.out gg); clear gg
        go_wp2
        go_roundw
        case rel => exact ⟨k + 1, by omega, by go_num, X, hs2⟩
        case measure => simp [intOf]; omega
      · obtain ⟨rfl, rfl⟩ := H1.out hF
        have dF : (E != 0) = true := by simpa using hF
        clear HS H1 h1 h2
        go_wp2_with fail
        refine HK.out.mono ?_
        rintro e w1 ⟨rfl, gg⟩
        have X := Lib.hid (bel_trans hB.out gg); clear gg
        go_wp2
        go_returns
        exact ⟨rfl, X.out⟩
    · obtain rfl : k = m + 1 := by omega
      obtain ⟨g1, g2, g3⟩ := h2.out ha.out
      have c0 := cell_bel (hc.out 0 (by omega)).1 hB.out
      have c1 := cell_bel (hc.out m (by omega)).1 hB.out
      have l1 : (m : Int) < (m : Int) + 1 := by omega
      have l2 : (0 : Int) < (m : Int) + 1 := by omega
      rw [Nat.zero_mul, Nat.add_zero] at c0
      clear h1 h2 hc ha
      generalize gX l 0 = x at *
      generalize gX l m = y at *
      by_cases e0 : x = 0
      · have dx : (x != 0) = false := by simp [e0]
        by_cases e1 : y = 10000
        · have dy : (y != 10000) = false := by simp [e1]
          obtain ⟨rfl, rfl⟩ := g3 e0 e1
          clear g1 g2 g3 e0 e1
          go_wp2
          go_returns
          exact ⟨rfl, hB.out⟩
        · have dy : (y != 10000) = true := by simpa using e1
          obtain ⟨rfl, rfl⟩ := g2 e0 e1
          clear g1 g2 g3 e0 e1
          go_wp2
          go_returns
          exact ⟨rfl, hB.out⟩
      · have dx : (x != 0) = true := by simpa using e0
        obtain ⟨rfl, rfl⟩ := g1 e0
        clear g1 g2 g3 e0
        go_wp2
        go_returns
        exact ⟨rfl, hB.out⟩
theorem dnChk_any (v : Value) (l : List (Int × Int)) (w : World) (hv : Pts w v l) :
    Calls Try.prog 38 #[v] w fun e w' => e = .returned (.tuple #[.int .i64 (dnI l), .int .i64 (dnE l)]) ∧ Below w.heap.size w w' := by
  obtain ⟨a, cap, rfl, hl, hh⟩ := hv
  by_cases h1 : 128 < l.length
  · have := dnChk_len a l.length cap 8 w (.inr ⟨h1, by omega, rfl⟩)
    rwa [show dnI l = -1 by unfold dnI; rw [if_pos h1], show dnE l = 8 by unfold dnE; rw [if_pos h1]]
  · by_cases h0 : l.length < 2
    · have := dnChk_len a l.length cap 9 w (.inl ⟨h0, rfl⟩)
      rwa [show dnI l = -1 by unfold dnI; rw [if_neg h1, if_pos h0], show dnE l = 9 by unfold dnE; rw [if_neg h1, if_pos h0]]
    · rcases hh with hh | ⟨b, off, rfl, hb, hc⟩
      · omega
      · have e : l.length - 1 + 1 = l.length := by omega
        have := dnChk_some b off (l.length - 1) cap l (dnI l) (dnE l) w (by omega) (by omega) hb (Lib.hid (by rw [e]; exact hc)) (Lib.hid fun k hk g1 g2 => ⟨(dnE_at (by omega) (by omega) (by omega) g1 g2).2, (dnE_at (by omega) (by omega) (by omega) g1 g2).1⟩) (Lib.hid fun g => dnE_ok (by omega) (by omega) (fun j hj => g j (by omega)))
        rwa [e] at this
end Go.Proofs.Ytooofppgjknigaa

/- The reference of layer 16: Check. -/
namespace Go.Proofs.Ytooofppgjknigaa
open Go.RowKit

set_option maxHeartbeats 4000000 in
theorem rnChk_len (a : Option Addr) (n cap : Nat) (V : Int) (w : World) (h : (n < 2 ∧ V = 9) ∨ (128 < n ∧ n ≤ 9223372036854775807 ∧ V = 8)) :
    Calls Try.prog 54 #[.slice a n cap] w fun e w' => e = .returned (.tuple #[.int .i64 (-1), .int .i64 V]) ∧ Below w.heap.size w w' := by
  rcases h with ⟨h, rfl⟩ | ⟨h, h2, rfl⟩
  all_goals
    go_enter Try.func54, Try.ntmps54
    go_wp2
    go_returns
    exact ⟨rfl, Below.refl _ _⟩
set_option maxHeartbeats 16000000 in
set_option maxRecDepth 100000 in
theorem rnChk_some (b off m cap : Nat) (l : List (Int × Int)) (I E : Int) (w : World) (n0 : 1 ≤ m) (n1 : m + 1 ≤ 128) (hb : b < w.heap.size)
    (hc : Hid (∀ j, j < m + 1 → w.cell? ⟨b, off + j * 2, none⟩ = some (.int .i64 (gX l j)) ∧ w.cell? ⟨b, off + j * 2 + 1, none⟩ = some (.int .i64 (gR l j))))
    (h1 : Hid (∀ k, k < m + 1 → (∀ j, j < k → dnF l j = 0) → dnF l k ≠ 0 → I = k ∧ E = dnF l k))
    (h2 : Hid ((∀ j, j < m + 1 → dnF l j = 0) → (gX l 0 ≠ 0 → E = 10 ∧ I = 0) ∧ (gX l 0 = 0 → gX l m ≠ 10000 → E = 10 ∧ I = (m : Int)) ∧ (gX l 0 = 0 → gX l m = 10000 → E = 0 ∧ I = -1))) :
    Calls Try.prog 54 #[.slice (some ⟨b, off, none⟩) (m + 1) cap] w fun e w' => e = .returned (.tuple #[.int .i64 I, .int .i64 E]) ∧ Below w.heap.size w w' := by
  have d8 : decide (128 < (m : Int) + 1) = false := decide_eq_false (by omega)
  have d9 : decide ((m : Int) + 1 < 2) = false := decide_eq_false (by omega)
  have wm : IntKind.i64.wrap ((m : Int) + 1 - 1) = (m : Int) := by rw [wrap_in _ ⟨by omega, by omega⟩]; omega
  have wm2 : IntKind.i64.wrap (m : Int) = (m : Int) := wrap_in _ ⟨by omega, by omega⟩
  go_enter Try.func54, Try.ntmps54
  go_wp2_with fail
  go_loopw [4] (fun ii wr => ∃ k : Nat, k ≤ m + 1 ∧ ii = .int .i64 (k : Int) ∧ Hid (Below w.heap.size w wr) ∧ Hid (∀ j, j < k → dnF l j = 0)) (fun ii _ => m + 1 - (intOf ii).toNat)
  case atStart => exact ⟨0, Nat.zero_le _, rfl, Below.refl _ _, fun j hj => by omega⟩
  case round =>
    obtain ⟨k, hk, rfl, hB, ha⟩ := hrel
    by_cases hlt : k < m + 1
    · have bb : b < wr.heap.size := Nat.lt_of_lt_of_le hb hB.out.size
      have l0 : (k : Int) < (m : Int) + 1 := by omega
      have l00 : (k : Int) < ((m + 1 : Nat) : Int) := by omega
      have H1 := Lib.hid (h1.out k hlt ha.out)
      have HS : Hid (dnF l k = 0 → ∀ j, j < k + 1 → dnF l j = 0) := fun h j hj => by
        by_cases e : j = k
        · rw [e]; exact h
        · exact ha.out j (by omega)
      have c0 := cell_bel (hc.out k hlt).1 hB.out
      have c1 := cell_bel (hc.out k hlt).2 hB.out
      have cp : Hid (k ≠ 0 → wr.cell? ⟨b, off + (k - 1) * 2, none⟩ = some (.int .i64 (gX l (k - 1))) ∧ wr.cell? ⟨b, off + (k - 1) * 2 + 1, none⟩ = some (.int .i64 (gR l (k - 1)))) := fun hk0 => ⟨cell_bel (hc.out (k - 1) (by omega)).1 hB.out, cell_bel (hc.out (k - 1) (by omega)).2 hB.out⟩
      have HF : Hid (dnF l k = if outB (gX l k) (gR l k) = true then 2 else if k ≠ 0 ∧ gX l k ≤ gX l (k - 1) then 5 else if k ≠ 0 ∧ gR l (k - 1) < gR l k then 18 else 0) := Lib.hid rfl
      have hE : Hid (outB (gX l k) (gR l k) = (decide (gX l k < 0) || decide (10000 < gX l k) || decide (gR l k < 50000) || decide (120000 < gR l k))) := Lib.hid rfl
      generalize dnF l k = F at *
      generalize gX l k = x at *
      generalize gR l k = r at *
      generalize gX l (k - 1) = y at *
      generalize gR l (k - 1) = s at *
      cases ho : outB x r with
      | true =>
        rw [ho] at hE HF
        have e : F = 2 := HF.out
        obtain ⟨rfl, rfl⟩ := H1.out (by rw [e]; simp)
        subst e
        have hD : (decide (x < 0) = true) ∨ (decide (x < 0) = false ∧ decide (10000 < x) = true) ∨ (decide (x < 0) = false ∧ decide (10000 < x) = false ∧ decide (r < 50000) = true) ∨ (decide (x < 0) = false ∧ decide (10000 < x) = false ∧ decide (r < 50000) = false ∧ decide (120000 < r) = true) := by
          have := hE.out
          revert this
          cases decide (x < 0) <;> cases decide (10000 < x) <;> cases decide (r < 50000) <;> cases decide (120000 < r) <;> simp
        clear ho HF HS H1 h1 h2 hE cp
        rcases hD with d1 | ⟨d1, d2⟩ | ⟨d1, d2, d3⟩ | ⟨d1, d2, d3, d4⟩
        all_goals
          go_wp2
          go_returns
          exact ⟨rfl, hB.out⟩
      | false =>
        rw [ho] at hE HF
        have hD : decide (x < 0) = false ∧ decide (10000 < x) = false ∧ decide (r < 50000) = false ∧ decide (120000 < r) = false := by
          have := hE.out
          revert this
          cases decide (x < 0) <;> cases decide (10000 < x) <;> cases decide (r < 50000) <;> cases decide (120000 < r) <;> simp
        obtain ⟨d1, d2, d3, d4⟩ := hD
        clear hE ho
        by_cases k0 : k = 0
        · have e : F = 0 := by rw [HF.out]; simp [k0]
          have hs2 := Lib.hid (HS.out e)
          have dk : decide (0 < (k : Int)) = false := decide_eq_false (by omega)
          have dk2 : decide (0 < k) = false := decide_eq_false (by omega)
          have dk3 : ¬ 0 < k := by omega
          replace k0 := Lib.hid k0
          clear HF HS H1 e cp
          go_wp2_with fail
          go_quiet (fail)
          go_wp2_with fail
          go_quiet (fail)
          go_wp2
          go_roundw
          case rel => exact ⟨k + 1, by omega, by go_num, bel_trans hB.out (by first | exact bel_drewN _ _ | exact bel_drew2 _ _ _), hs2⟩
          case measure => simp [intOf]; omega
        · have dk : decide (0 < (k : Int)) = true := decide_eq_true (by omega)
          obtain ⟨q, rfl⟩ : ∃ q, k = q + 1 := ⟨k - 1, by omega⟩
          have w1' : IntKind.i64.wrap (((q + 1 : Nat) : Int) - 1) = (q : Int) := by rw [wrap_in _ ⟨by omega, by omega⟩]; omega
          have w2 : IntKind.i64.wrap ((q : Int) + 1 - 1) = (q : Int) := by rw [wrap_in _ ⟨by omega, by omega⟩]; omega
          have w3 : IntKind.i64.wrap (q : Int) = (q : Int) := wrap_in _ ⟨by omega, by omega⟩
          have l1 : (q : Int) < (m : Int) + 1 := by omega
          obtain ⟨q0, q1⟩ := cp.out (by omega)
          rw [show q + 1 - 1 = q by omega] at q0 q1
          clear cp
          by_cases hxy : x ≤ y
          · have e : F = 5 := by rw [HF.out]; simp [hxy]
            obtain ⟨rfl, rfl⟩ := H1.out (by rw [e]; simp)
            subst e
            have dxy : decide (x ≤ y) = true := decide_eq_true hxy
            clear HF HS H1 h1 h2
            go_wp2_with fail
            go_quiet (fail)
            go_wp2
            go_returns
            exact ⟨rfl, bel_trans hB.out (by first | exact bel_drewN _ _ | exact bel_drew2 _ _ _)⟩
          · have dxy : decide (x ≤ y) = false := decide_eq_false hxy
            by_cases hrs : s < r
            · have e : F = 18 := by rw [HF.out]; simp [hxy, hrs]
              obtain ⟨rfl, rfl⟩ := H1.out (by rw [e]; simp)
              subst e
              have drs : decide (s < r) = true := decide_eq_true hrs
              clear HF HS H1 h1 h2
              go_wp2_with fail
              go_quiet (fail)
              go_wp2_with fail
              go_quiet (fail)
              go_wp2
              go_returns
              exact ⟨rfl, bel_trans hB.out (by first | exact bel_drewN _ _ | exact bel_drew2 _ _ _)⟩
            · have e : F = 0 := by rw [HF.out]; simp [hxy, hrs]
              have hs2 := Lib.hid (HS.out e)
              have drs : decide (s < r) = false := decide_eq_false hrs
              clear HF HS H1 e
              go_wp2_with fail
              go_quiet (fail)
              go_wp2_with fail
              go_quiet (fail)
              go_wp2
              go_roundw
              case rel => exact ⟨q + 1 + 1, by omega, by go_num, bel_trans hB.out (by first | exact bel_drewN _ _ | exact bel_drew2 _ _ _), hs2⟩
              case measure => simp [intOf]; omega
    · obtain rfl : k = m + 1 := by omega
      obtain ⟨g1, g2, g3⟩ := h2.out ha.out
      have c0 := cell_bel (hc.out 0 (by omega)).1 hB.out
      have c1 := cell_bel (hc.out m (by omega)).1 hB.out
      have l1 : (m : Int) < (m : Int) + 1 := by omega
      have l2 : (0 : Int) < (m : Int) + 1 := by omega
      rw [Nat.zero_mul, Nat.add_zero] at c0
      clear h1 h2 hc ha
      generalize gX l 0 = x at *
      generalize gX l m = y at *
      by_cases e0 : x = 0
      · have dx : (x != 0) = false := by simp [e0]
        by_cases e1 : y = 10000
        · have dy : (y != 10000) = false := by simp [e1]
          obtain ⟨rfl, rfl⟩ := g3 e0 e1
          clear g1 g2 g3 e0 e1
          go_wp2
          go_returns
          exact ⟨rfl, hB.out⟩
        · have dy : (y != 10000) = true := by simpa using e1
          obtain ⟨rfl, rfl⟩ := g2 e0 e1
          clear g1 g2 g3 e0 e1
          go_wp2
          go_returns
          exact ⟨rfl, hB.out⟩
      · have dx : (x != 0) = true := by simpa using e0
        obtain ⟨rfl, rfl⟩ := g1 e0
        clear g1 g2 g3 e0
        go_wp2
        go_returns
        exact ⟨rfl, hB.out⟩
theorem rnChk_any (v : Value) (l : List (Int × Int)) (w : World) (hv : Pts w v l) :
    Calls Try.prog 54 #[v] w fun e w' => e = .returned (.tuple #[.int .i64 (dnI l), .int .i64 (dnE l)]) ∧ Below w.heap.size w w' := by
  obtain ⟨a, cap, rfl, hl, hh⟩ := hv
  by_cases h1 : 128 < l.length
  · have := rnChk_len a l.length cap 8 w (.inr ⟨h1, by omega, rfl⟩)
    rwa [show dnI l = -1 by unfold dnI; rw [if_pos h1], show dnE l = 8 by unfold dnE; rw [if_pos h1]]
  · by_cases h0 : l.length < 2
    · have := rnChk_len a l.length cap 9 w (.inl ⟨h0, rfl⟩)
      rwa [show dnI l = -1 by unfold dnI; rw [if_neg h1, if_pos h0], show dnE l = 9 by unfold dnE; rw [if_neg h1, if_pos h0]]
    · rcases hh with hh | ⟨b, off, rfl, hb, hc⟩
      · omega
      · have e : l.length - 1 + 1 = l.length := by omega
        have := rnChk_some b off (l.length - 1) cap l (dnI l) (dnE l) w (by omega) (by omega) hb (Lib.hid (by rw [e]; exact hc)) (Lib.hid fun k hk g1 g2 => ⟨(dnE_at (by omega) (by omega) (by omega) g1 g2).2, (dnE_at (by omega) (by omega) (by omega) g1 g2).1⟩) (Lib.hid fun g => dnE_ok (by omega) (by omega) (fun j hj => g j (by omega)))
        rwa [e] at this
end Go.Proofs.Ytooofppgjknigaa

/- Package audit and its reference: Table. -/
namespace Go.Proofs.Ytooofppgjknigaa
open Go.RowKit

/-- what Table returns -/
def tbE (l : List (Int × Int)) : Int := if auE l ≠ 0 then 1 else if 0 < leV l then 18 else dnE (coF l l.length)
def tbL (l : List (Int × Int)) : List (Int × Int) := if tbE l = 0 then coF l l.length else []
set_option maxHeartbeats 8000000 in
theorem auTb_bad (v : Value) (E : Int) (w : World) (he : (E == 0) = false)
    (H : Hid (Calls Try.prog 44 #[v] w fun e w' => e = .returned (.bool (E == 0)) ∧ Below w.heap.size w w')) :
    Calls Try.prog 25 #[v] w fun e w' => e = .returned (.tuple #[.slice none 0 0, .int .i64 1]) ∧ Below w.heap.size w w' := by
  rw [he] at H
  go_enter Try.func25, Try.ntmps25
  go_wp2_with fail
  refine H.out.mono ?_
  rintro e w1 ⟨rfl, gg⟩
  have X := Lib.hid gg; clear gg
  go_wp2
  go_returns
  exact ⟨rfl, X.out⟩
set_option maxHeartbeats 8000000 in
theorem auTb_cl (v : Value) (nc : Nat) (w : World) (hn : nc ≠ 0)
    (H : Hid (Calls Try.prog 44 #[v] w fun e w' => e = .returned (.bool true) ∧ Below w.heap.size w w'))
    (HC : Hid (∀ W, Below w.heap.size w W → Calls Try.prog 45 #[v, .int .i64 0] W fun e w' => ∃ a c, e = .returned (.slice a nc c) ∧ Below W.heap.size W w')) :
    Calls Try.prog 25 #[v] w fun e w' => e = .returned (.tuple #[.slice none 0 0, .int .i64 18]) ∧ Below w.heap.size w w' := by
  have d1 : decide (0 < (nc : Int)) = true := decide_eq_true (by omega)
  have d2 : decide (0 < nc) = true := decide_eq_true (by omega)
  go_enter Try.func25, Try.ntmps25
  go_wp2_with fail
  refine H.out.mono ?_
  rintro e w1 ⟨rfl, gg⟩
  have X := Lib.hid gg; clear gg
  go_wp2_with fail
  refine (HC.out _ X.out).mono ?_
  rintro e w2 ⟨a, c, rfl, gg⟩
  have X2 := Lib.hid (bel_trans X.out gg); clear gg
  go_wp2
  go_returns
  exact ⟨rfl, X2.out⟩
set_option maxHeartbeats 8000000 in
theorem auTb_ok (v : Value) (n : Nat) (I E : Int) (C l : List (Int × Int)) (w : World)
    (H : Hid (Calls Try.prog 44 #[v] w fun e w' => e = .returned (.bool true) ∧ Below w.heap.size w w'))
    (HC : Hid (∀ W, Below w.heap.size w W → Calls Try.prog 45 #[v, .int .i64 0] W fun e w' => ∃ a c, e = .returned (.slice a 0 c) ∧ Below W.heap.size W w'))
    (HK : Hid (∀ W, Below w.heap.size w W → Calls Try.prog 27 #[v] W fun e w' => ∃ g cap, e = .returned (.slice (some ⟨g, 0, none⟩) n cap) ∧ (n ≤ cap ∧ cap ≤ 9223372036854775807) ∧ W.heap.size ≤ g ∧ g < w'.heap.size ∧ CC w' g n (gX l) (gR l) ∧ Below W.heap.size W w'))
    (HP : Hid (∀ (B g cap : Nat) (W : World), (n ≤ cap ∧ cap ≤ 9223372036854775807) → B ≤ g → g < W.heap.size → CC W g n (gX l) (gR l) → Calls Try.prog 53 #[.slice (some ⟨g, 0, none⟩) n cap] W fun e w' => ∃ u, e = .returned u ∧ Pts w' u C ∧ Below B W w'))
    (HD : Hid (∀ u W, Pts W u C → Calls Try.prog 38 #[u] W fun e w' => e = .returned (.tuple #[.int .i64 I, .int .i64 E]) ∧ Below W.heap.size W w')) :
    Calls Try.prog 25 #[v] w fun e w' => ∃ u, e = .returned (.tuple #[u, .int .i64 E]) ∧ Pts w' u (if E = 0 then C else []) ∧ Below w.heap.size w w' := by
  go_enter Try.func25, Try.ntmps25
  go_wp2_with fail
  refine H.out.mono ?_
  rintro e w1 ⟨rfl, gg⟩
  have X := Lib.hid gg; clear gg
  go_wp2_with fail
  refine (HC.out _ X.out).mono ?_
  rintro e w2 ⟨a, c, rfl, gg⟩
  replace X := Lib.hid (bel_trans X.out gg); clear gg
  go_wp2_with fail
  refine (HK.out _ X.out).mono ?_
  rintro e w3 ⟨g, cap, rfl, hcap, hg0, hg1, hcc, gg⟩
  have X3 := Lib.hid (bel_trans X.out gg)
  have KP := Lib.hid (HP.out w2.heap.size g cap w3 hcap hg0 hg1 hcc)
  have SZ := Lib.hid X.out.size
  have GG := Lib.hid gg
  clear gg hcap hg0 hg1 hcc
  go_wp2_with fail
  refine KP.out.mono ?_
  rintro e w4 ⟨u, rfl, hp, gg⟩
  have X4 : Hid (Below w.heap.size w w4) := Lib.hid (X3.out.trans (gg.mono SZ.out))
  have P4 := Lib.hid hp
  clear gg hp KP
  go_wp2_with fail
  refine (HD.out _ _ P4.out).mono ?_
  rintro e w5 ⟨rfl, gg⟩
  have X5 := Lib.hid (bel_trans X4.out gg)
  have P5 := Lib.hid (P4.out.below gg)
  clear gg P4
  by_cases hE : E = 0
  · subst hE
    go_wp2
    go_returns
    exact ⟨u, rfl, by first | exact P5.out | (rw [if_pos rfl]; exact P5.out) | (simpa using P5.out), X5.out⟩
  · have dE : (E != 0) = true := by simpa using hE
    replace hE := Lib.hid hE
    go_wp2
    go_returns
    exact ⟨.slice none 0 0, rfl, by first | exact pts_nil _ | (rw [if_neg hE.out]; exact pts_nil _), X5.out⟩
theorem clA_none {l : List (Int × Int)} (hA : AR l) : (clA l 0 l.length l.length).length = 0 ↔ leV l ≤ 0 := by
  have := ccL_nil hA (Int.le_refl 0) (by omega)
  rwa [ccL_ok hA (Int.le_refl 0) (by omega)] at this
theorem auTb_any (v : Value) (l : List (Int × Int)) (w : World) (hv : Pts w v l) :
    Calls Try.prog 25 #[v] w fun e w' => ∃ u, e = .returned (.tuple #[u, .int .i64 (tbE l)]) ∧ Pts w' u (tbL l) ∧ Below w.heap.size w w' := by
  have HR := auRt_any v l w hv
  by_cases h : auE l = 0
  · have hA := auE_zero.1 h
    have n0 := hA.n0
    have n1 := hA.n1
    rw [show (auE l == 0) = true by simpa using h] at HR
    have HC := fun W (hW : Below w.heap.size w W) => auCls_any v l 0 W (hv.below hW) hA
    by_cases h2 : 0 < leV l
    · have e : tbE l = 18 := by unfold tbE; rw [if_neg (by omega), if_pos h2]
      have hc : (clA l 0 l.length l.length).length ≠ 0 := fun h3 => by have := (clA_none hA).1 h3; omega
      refine (auTb_cl v _ w hc HR (Lib.hid fun W hW => (HC W hW).mono fun e' w' ⟨u, g1, g2, g3⟩ => ?_)).mono fun e' w' g => ⟨_, by rw [e]; exact g.1, ?_, g.2⟩
      · obtain ⟨a, c, ev, _, _⟩ := g2.shape
        exact ⟨a, c, by rw [g1, ev], g3⟩
      · unfold tbL; rw [if_neg (by omega)]; exact pts_nil w'
    · have e : tbE l = dnE (coF l l.length) := by unfold tbE; rw [if_neg (by omega), if_neg h2]
      unfold tbL
      rw [e]
      refine auTb_ok v l.length _ _ (coF l l.length) l w HR (Lib.hid fun W hW => (HC W hW).mono fun e' w' ⟨u, g1, g2, g3⟩ => ?_) (Lib.hid fun W hW => clone_w v l W (hv.below hW) (by omega) (by omega)) (Lib.hid fun B g cap W h3 h4 h5 h6 => compact_some B g l.length cap l W rfl n0 (by omega) h3 h4 h5 h6) (Lib.hid fun u W hu => dnChk_any u _ W hu)
      obtain ⟨a, c, ev, _, _⟩ := g2.shape
      rw [(clA_none hA).2 (by omega)] at ev
      exact ⟨a, c, by rw [g1, ev], g3⟩
  · have e : tbE l = 1 := by unfold tbE; rw [if_pos h]
    refine (auTb_bad v (auE l) w (by simpa using h) HR).mono fun e' w' g => ⟨_, by rw [e]; exact g.1, ?_, g.2⟩
    unfold tbL; rw [if_neg (by omega)]; exact pts_nil w'
/-! ### the reference -/
/-- the first row of each strength -/
def tbF (l : List (Int × Int)) : Nat → List (Int × Int)
  | 0 => []
  | k + 1 => if k ≠ 0 ∧ gX l k = gX l (k - 1) then tbF l k else tbF l k ++ [(gX l k, gR l k)]
theorem tbF_len (l : List (Int × Int)) : ∀ k, (tbF l k).length ≤ k
  | 0 => Nat.le_refl _
  | k + 1 => by have := tbF_len l k; unfold tbF; split <;> simp <;> omega
theorem tbF_co {l : List (Int × Int)} (hA : AR l) (h : leV l ≤ 0) : ∀ k, k ≤ l.length → tbF l k = coF l k
  | 0, _ => rfl
  | k + 1, hk => by
    have ih := tbF_co hA h k (by omega)
    unfold tbF coF
    rw [ih]
    by_cases e : k ≠ 0 ∧ gX l k = gX l (k - 1)
    · have key := (leV_le hA (Int.le_refl 0)).1 h (k - 1) k (by omega) (by omega) (by omega)
      unfold ex exd at key
      rw [if_pos e.2.symm] at key
      have e3 : samP (gX l k) (gR l k) (gX l (k - 1)) (gR l (k - 1)) = true := by
        have e2 := e.2
        have k2 : gR l k = gR l (k - 1) := by omega
        simp [samP, e2, k2]
      rw [if_pos e, if_pos ⟨e.1, e3⟩]
    · rw [if_neg e, if_neg]
      rintro ⟨h1, h2⟩
      simp only [samP, Bool.and_eq_true, beq_iff_eq] at h2
      exact e ⟨h1, h2.1⟩
set_option maxHeartbeats 8000000 in
theorem raTb_err (v : Value) (L E V : Int) (w : World) (h : ((E != 0) = true ∧ V = E) ∨ (E = 0 ∧ 0 < L ∧ V = 18))
    (H : Hid (Calls Try.prog 17 #[v] w fun e w' => e = .returned (.tuple #[.int .i64 L, .int .i64 E]) ∧ Below w.heap.size w w')) :
    Calls Try.prog 26 #[v] w fun e w' => e = .returned (.tuple #[.slice none 0 0, .int .i64 V]) ∧ Below w.heap.size w w' := by
  rcases h with ⟨d1, rfl⟩ | ⟨rfl, h2, rfl⟩
  · go_enter Try.func26, Try.ntmps26
    go_wp2_with fail
    refine H.out.mono ?_
    rintro e w1 ⟨rfl, gg⟩
    have X := Lib.hid gg; clear gg
    go_wp2
    go_returns
    exact ⟨rfl, X.out⟩
  · have d2 : decide (0 < L) = true := decide_eq_true h2
    go_enter Try.func26, Try.ntmps26
    go_wp2_with fail
    refine H.out.mono ?_
    rintro e w1 ⟨rfl, gg⟩
    have X := Lib.hid gg; clear gg
    go_wp2
    go_returns
    exact ⟨rfl, X.out⟩
set_option maxHeartbeats 32000000 in
set_option maxRecDepth 100000 in
theorem raTb_ok (b off n cap : Nat) (l : List (Int × Int)) (L I E : Int) (w : World) (n0 : 1 ≤ n) (n1 : n ≤ 128) (hb : b < w.heap.size) (hL : ¬ 0 < L)
    (hc : Hid (∀ j, j < n → w.cell? ⟨b, off + j * 2, none⟩ = some (.int .i64 (gX l j)) ∧ w.cell? ⟨b, off + j * 2 + 1, none⟩ = some (.int .i64 (gR l j))))
    (H : Hid (Calls Try.prog 17 #[.slice (some ⟨b, off, none⟩) n cap] w fun e w' => e = .returned (.tuple #[.int .i64 L, .int .i64 0]) ∧ Below w.heap.size w w'))
    (HD : Hid (∀ u W, Pts W u (tbF l n) → Calls Try.prog 54 #[u] W fun e w' => e = .returned (.tuple #[.int .i64 I, .int .i64 E]) ∧ Below W.heap.size W w')) :
    Calls Try.prog 26 #[.slice (some ⟨b, off, none⟩) n cap] w fun e w' => ∃ u, e = .returned (.tuple #[u, .int .i64 E]) ∧ Pts w' u (if E = 0 then tbF l n else []) ∧ Below w.heap.size w w' := by
  obtain ⟨i0, hi, hz0, hz1, hz2⟩ := RG.info_parts RG.mk_info
  replace hi := Lib.hid hi
  replace hz0 := Lib.hid hz0
  replace hz1 := Lib.hid hz1
  replace hz2 := Lib.hid hz2
  have d2 : decide (0 < L) = false := decide_eq_false hL
  go_enter Try.func26, Try.ntmps26
  go_wp2_with fail
  refine H.out.mono ?_
  rintro e w1 ⟨rfl, gg⟩
  have X1 := Lib.hid gg; clear gg
  have S0 : Hid (RG.MkI w (.slice (some ⟨w1.heap.size, 0, none⟩) 0 0) (tbF l 0) (w1.alloc (.cells #[] 46))) := Lib.hid ⟨bel_trans X1.out (bel_alloc (Below.refl _ _)), World.ownsRow_made w1 #[] 0 X1.out.size (Nat.zero_le _) (by simp)⟩
  go_wp2_with fail
  go_loopw [6, 7] (fun v ii wr => ∃ k : Nat, k ≤ n ∧ ii = .int .i64 (k : Int) ∧ Hid (RG.MkI w v (tbF l k) wr)) (fun _ ii _ => n - (intOf ii).toNat)
  case atStart => exact ⟨0, Nat.zero_le _, rfl, S0⟩
  case round =>
    clear S0
    obtain ⟨k, hk, rfl, hS⟩ := hrel
    by_cases hlt : k < n
    · have l0 : (k : Int) < (n : Int) := by omega
      obtain ⟨av, cv, ev⟩ := RG.shape hS.out.2
      have c0 := cell_bel (hc.out k hlt).1 hS.out.1
      have c1 := cell_bel (hc.out k hlt).2 hS.out.1
      have cp : Hid (k ≠ 0 → wr.cell? ⟨b, off + (k - 1) * 2, none⟩ = some (.int .i64 (gX l (k - 1)))) := fun h0 => cell_bel (hc.out (k - 1) (by omega)).1 hS.out.1
      have hln := tbF_len l k
      have PK : Hid (tbF l (k + 1) = if k ≠ 0 ∧ gX l k = gX l (k - 1) then tbF l k else tbF l k ++ [(gX l k, gR l k)]) := Lib.hid rfl
      have SQ := Lib.hid (fun q => hS.out.below (bel_drewN wr q))
      have CQ0 := Lib.hid (fun q => cell_bel c0 (bel_drewN wr q))
      have CQ1 := Lib.hid (fun q => cell_bel c1 (bel_drewN wr q))
      clear hS
      generalize hT : tbF l k = T at *
      replace hT := Lib.hid hT
      obtain ⟨t, ht⟩ : ∃ t, T.length = t := ⟨_, rfl⟩
      rw [ht] at ev hln
      subst ev
      replace ht := Lib.hid ht
      generalize gX l k = x at *
      generalize gR l k = r at *
      generalize gX l (k - 1) = y at *
      by_cases k0 : k = 0
      · replace PK : Hid (tbF l (k + 1) = T ++ [(x, r)]) := Lib.hid (by rw [PK.out, if_neg (fun h => h.1 k0)])
        have dk : ((k : Int) == 0) = true := by simp [k0]
        replace k0 := Lib.hid k0
        clear cp
        go_wp2_with fail
        go_quiet (fail)
        have SA := Lib.hid (SQ.out nq)
        have c0 := CQ0.out nq
        have c1 := CQ1.out nq
        generalize wr.drewN nq = w2 at *
        have OA : Hid ((w2.alloc (.cells #[.int .i64 x, .int .i64 r] 46)).ownsRow w.heap.size 46 2 (.slice av t cv) t (flat T)) := Lib.hid (by
          have := RG.below SA.out.2 (bel_alloc (o := .cells #[.int .i64 x, .int .i64 r] 46) (Below.refl _ _))
          unfold RG.OwnM at this
          rwa [ht.out] at this)
        have CN := Lib.hid (RG.pair_new w2 x r 46)
        have S5 := Lib.hid (SA.out.below (bel_alloc (o := .cells #[.int .i64 x, .int .i64 r] 46) (Below.refl _ _)))
        have HS : Hid (w.heap.size ≤ (w2.alloc (.cells #[.int .i64 x, .int .i64 r] 46)).heap.size) := Lib.hid S5.out.1.size
        have M1 : Hid (t + 1 ≤ maxLen) := Lib.hid (by unfold maxLen; omega)
        have M2 : Hid ((t + 1) * 16 ≤ 140737488355328) := Lib.hid (by omega)
        go_wp2_with (at_builtin; refine wpList_append_own_at _ rfl _ _ 22 rfl w.heap.size 46 i0 (.agg #[.int .i64 0, .int .i64 0]) 2 16 Try.underlying22 hi.out hz0.out hz1.out hz2.out rfl (by omega) _ _ _ rfl OA.out ⟨w2.heap.size, 0, none⟩ 1 1 [.int .i64 x, .int .i64 r] rfl rfl CN.out (RG.pair_one x r) M1.out M2.out HS.out ?_)
        intro v2 w5 hown hgrow _ _
        have SN : Hid (RG.MkI w v2 (tbF l (k + 1)) w5) := Lib.hid (by
          have lt := fun r hr => (World.ownsRow.lt OA.out r hr).1
          exact ⟨S5.out.1.grown hgrow HS.out lt, RG.push PK.out ht.out hown⟩)
        clear hown hgrow OA CN
        go_wp2
        go_roundw
        case rel => exact ⟨k + 1, by omega, by go_num, SN⟩
        case measure => simp [intOf]; omega
      · obtain ⟨m, rfl⟩ : ∃ m, k = m + 1 := ⟨k - 1, by omega⟩
        have dk : (((m + 1 : Nat) : Int) == 0) = false := by rw [beq_eq_false_iff_ne]; omega
        have dk' : ((m : Int) + 1 == 0) = false := by rw [beq_eq_false_iff_ne]; omega
        have w1' : IntKind.i64.wrap (((m + 1 : Nat) : Int) - 1) = (m : Int) := by rw [wrap_in _ ⟨by omega, by omega⟩]; omega
        have w2 : IntKind.i64.wrap ((m : Int) + 1 - 1) = (m : Int) := by rw [wrap_in _ ⟨by omega, by omega⟩]; omega
        have w3 : IntKind.i64.wrap (m : Int) = (m : Int) := wrap_in _ ⟨by omega, by omega⟩
        have l1 : (m : Int) < (n : Int) := by omega
        have cq := cp.out (by omega)
        rw [show m + 1 - 1 = m by omega] at cq
        clear cp k0
        by_cases hxy : x = y
        · replace PK : Hid (tbF l (m + 1 + 1) = T) := Lib.hid (by rw [PK.out, if_pos ⟨by omega, hxy⟩])
          have dx : (x != y) = false := by simp [hxy]
          have SN : Hid (∀ q, RG.MkI w (.slice av t cv) (tbF l (m + 1 + 1)) (wr.drewN q)) := Lib.hid fun q => by rw [PK.out]; exact SQ.out q
          replace hxy := Lib.hid hxy
          go_wp2_with fail
          go_quiet (fail)
          go_wp2
          go_roundw
          case rel => exact ⟨m + 1 + 1, by omega, by go_num, SN.out _⟩
          case measure => simp [intOf]; omega
        · replace PK : Hid (tbF l (m + 1 + 1) = T ++ [(x, r)]) := Lib.hid (by rw [PK.out, if_neg (fun h => hxy h.2)])
          have dx : (x != y) = true := by simpa using hxy
          clear hxy
          go_wp2_with fail
          go_quiet (fail)
          have SA := Lib.hid (SQ.out nq)
          have c0 := CQ0.out nq
          have c1 := CQ1.out nq
          generalize wr.drewN nq = w2 at *
          have OA : Hid ((w2.alloc (.cells #[.int .i64 x, .int .i64 r] 46)).ownsRow w.heap.size 46 2 (.slice av t cv) t (flat T)) := Lib.hid (by
            have := RG.below SA.out.2 (bel_alloc (o := .cells #[.int .i64 x, .int .i64 r] 46) (Below.refl _ _))
            unfold RG.OwnM at this
            rwa [ht.out] at this)
          have CN := Lib.hid (RG.pair_new w2 x r 46)
          have S5 := Lib.hid (SA.out.below (bel_alloc (o := .cells #[.int .i64 x, .int .i64 r] 46) (Below.refl _ _)))
          have HS : Hid (w.heap.size ≤ (w2.alloc (.cells #[.int .i64 x, .int .i64 r] 46)).heap.size) := Lib.hid S5.out.1.size
          have M1 : Hid (t + 1 ≤ maxLen) := Lib.hid (by unfold maxLen; omega)
          have M2 : Hid ((t + 1) * 16 ≤ 140737488355328) := Lib.hid (by omega)
          go_wp2_with (at_builtin; refine wpList_append_own_at _ rfl _ _ 22 rfl w.heap.size 46 i0 (.agg #[.int .i64 0, .int .i64 0]) 2 16 Try.underlying22 hi.out hz0.out hz1.out hz2.out rfl (by omega) _ _ _ rfl OA.out ⟨w2.heap.size, 0, none⟩ 1 1 [.int .i64 x, .int .i64 r] rfl rfl CN.out (RG.pair_one x r) M1.out M2.out HS.out ?_)
          intro v2 w5 hown hgrow _ _
          have SN : Hid (RG.MkI w v2 (tbF l (m + 1 + 1)) w5) := Lib.hid (by
            have lt := fun r hr => (World.ownsRow.lt OA.out r hr).1
            exact ⟨S5.out.1.grown hgrow HS.out lt, RG.push PK.out ht.out hown⟩)
          clear hown hgrow OA CN
          go_wp2
          go_roundw
          case rel => exact ⟨m + 1 + 1, by omega, by go_num, SN⟩
          case measure => simp [intOf]; omega
    · obtain rfl : n = k := by omega
      have PF := Lib.hid (RG.pts hS.out.2)
      have XF := Lib.hid hS.out.1
      clear hS
      go_wp2_with fail
      refine (HD.out _ _ PF.out).mono ?_
      rintro e w5 ⟨rfl, gg⟩
      have X5 := Lib.hid (bel_trans XF.out gg)
      have P5 := Lib.hid (PF.out.below gg)
      clear gg PF
      by_cases hE : E = 0
      · subst hE
        go_wp2
        go_returns
        exact ⟨u6, rfl, by first | exact P5.out | (rw [if_pos rfl]; exact P5.out) | (simpa using P5.out), X5.out⟩
      · have dE : (E != 0) = true := by simpa using hE
        replace hE := Lib.hid hE
        go_wp2
        go_returns
        exact ⟨.slice none 0 0, rfl, by first | exact pts_nil _ | (rw [if_neg hE.out]; exact pts_nil _), X5.out⟩
theorem raTb_any (v : Value) (l : List (Int × Int)) (w : World) (hv : Pts w v l) :
    Calls Try.prog 26 #[v] w fun e w' => ∃ u, e = .returned (.tuple #[u, .int .i64 (tbE l)]) ∧ Pts w' u (tbL l) ∧ Below w.heap.size w w' := by
  have HL := raLe_any v l w hv
  by_cases h : auE l = 0
  · have hA := auE_zero.1 h
    have n0 := hA.n0
    have e0 : leE l = 0 := by unfold leE; rw [if_pos h]
    by_cases h2 : 0 < leV l
    · have e : tbE l = 18 := by unfold tbE; rw [if_neg (by omega), if_pos h2]
      refine (raTb_err v _ _ 18 w (.inr ⟨e0, h2, rfl⟩) HL).mono fun e' w' g => ⟨_, by rw [e]; exact g.1, ?_, g.2⟩
      unfold tbL; rw [if_neg (by omega)]; exact pts_nil w'
    · have e : tbE l = dnE (coF l l.length) := by unfold tbE; rw [if_neg (by omega), if_neg h2]
      have et := tbF_co hA (by omega) l.length (Nat.le_refl _)
      unfold tbL
      rw [e]
      rw [e0] at HL
      obtain ⟨a, cap, rfl, hl, hh⟩ := hv
      rcases hh with hh | ⟨b, off, rfl, hb, hc⟩
      · omega
      have := raTb_ok b off l.length cap l (leV l) (dnI (tbF l l.length)) (dnE (tbF l l.length)) w n0 hA.n1 hb h2 (Lib.hid hc) HL (Lib.hid fun u W hu => rnChk_any u _ W hu)
      rwa [et] at this
  · have e : tbE l = 1 := by unfold tbE; rw [if_pos h]
    have e1 : leE l = 1 := by unfold leE; rw [if_neg h]
    refine (raTb_err v _ _ 1 w (.inl ⟨by rw [e1]; rfl, e1.symm⟩) HL).mono fun e' w' g => ⟨_, by rw [e]; exact g.1, ?_, g.2⟩
    unfold tbL; rw [if_neg (by omega)]; exact pts_nil w'
end Go.Proofs.Ytooofppgjknigaa
