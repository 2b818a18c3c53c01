/-
  The statement AuditAgrees of spile/spilelaw17 holds: for every input the call returns true, and each argument reads afterwards as it read before.
-/
import Derived.Test.YtooofppgjknigaaM2
import Derived.BigQuiet
import Derived.FnLit
import Derived.StillTailTactics
import Derived.Deep.DeepCutAuto
import Derived.Below
import Derived.Carry

set_option linter.unusedVariables false
set_option linter.unusedSimpArgs false

namespace Go.Proofs.Ytooofppgjknigaa
open Go.RowKit

set_option maxHeartbeats 8000000 in
theorem eqG_some (b o n c b2 o2 d : Nat) (xs ys : List (Int × Int)) (B : Bool) (w : World) (hn : n ≤ 9223372036854775807) (hb : b < w.heap.size) (hb2 : b2 < w.heap.size)
    (h1 : Hid (∀ j, j < n → w.cell? ⟨b, o + j * 2, none⟩ = some (.int .i64 (gX xs j)) ∧ w.cell? ⟨b, o + j * 2 + 1, none⟩ = some (.int .i64 (gR xs j))))
    (h2 : Hid (∀ j, j < n → w.cell? ⟨b2, o2 + j * 2, none⟩ = some (.int .i64 (gX ys j)) ∧ w.cell? ⟨b2, o2 + j * 2 + 1, none⟩ = some (.int .i64 (gR ys j))))
    (k1 : Hid ((∃ j, j < n ∧ samP (gX xs j) (gR xs j) (gX ys j) (gR ys j) = false) → B = false)) (k2 : Hid ((∀ j, j < n → samP (gX xs j) (gR xs j) (gX ys j) (gR ys j) = true) → B = true)) :
    Calls Try.prog 39 #[.slice (some ⟨b, o, none⟩) n c, .slice (some ⟨b2, o2, none⟩) n d] w fun e w' => e = .returned (.bool B) ∧ Below w.heap.size w w' := by
  go_enter Try.func39, Try.ntmps39
  go_wp2_with fail
  go_loopw [13] (fun i wr => ∃ k : Nat, k ≤ n ∧ i = .int .i64 k ∧ Hid (Below w.heap.size w wr) ∧ Hid (∀ j, j < k → samP (gX xs j) (gR xs j) (gX ys j) (gR ys j) = true)) (fun i _ => n - (intOf i).toNat)
  case atStart => exact ⟨0, Nat.zero_le _, rfl, Below.refl _ _, fun j hj => by omega⟩
  case round =>
    obtain ⟨k, hk, rfl, hB, ha⟩ := hrel
    by_cases hlt : k < n
    · have c0 : wr.cell? ⟨b, o + k * 2, none⟩ = some (.int .i64 (gX xs k)) := by rw [(bcell hB.out).1 _ _ hb]; exact (h1.out k hlt).1
      have c1 : wr.cell? ⟨b, o + k * 2 + 1, none⟩ = some (.int .i64 (gR xs k)) := by rw [(bcell hB.out).1 _ _ hb]; exact (h1.out k hlt).2
      have c2 : wr.cell? ⟨b2, o2 + k * 2, none⟩ = some (.int .i64 (gX ys k)) := by rw [(bcell hB.out).1 _ _ hb2]; exact (h2.out k hlt).1
      have c3 : wr.cell? ⟨b2, o2 + k * 2 + 1, none⟩ = some (.int .i64 (gR ys k)) := by rw [(bcell hB.out).1 _ _ hb2]; exact (h2.out k hlt).2
      have l1 : (k : Int) < (n : Int) := by omega
      cases hq : samP (gX xs k) (gR xs k) (gX ys k) (gR ys k) with
      | false =>
        have hBf := k1.out ⟨k, hlt, hq⟩
        generalize gX xs k = p at *
        generalize gR xs k = q at *
        generalize gX ys k = x at *
        generalize gR ys k = y at *
        have Q : ∀ W, (binOp .neq 46 (.agg #[.int .i64 p, .int .i64 q]) (.agg #[.int .i64 x, .int .i64 y])).run Try.prog W = .ok (.bool true) W := fun W => by rw [run_neq_point, hq]; rfl
        clear hq
        subst hBf
        go_wp2_with fail
        go_quiet (fail)
        go_wp2
        go_returns
        exact ⟨rfl, bel_trans hB.out (bel_drewN _ _)⟩
      | true =>
        have ha2 : Hid (∀ j, j < k + 1 → samP (gX xs j) (gR xs j) (gX ys j) (gR ys j) = true) := fun j hj => by
          by_cases e : j = k
          · rw [e]; exact hq
          · exact ha.out j (by omega)
        clear ha
        generalize gX xs k = p at c0 hq
        generalize gR xs k = q at c1 hq
        generalize gX ys k = x at c2 hq
        generalize gR ys k = y at c3 hq
        have Q : ∀ W, (binOp .neq 46 (.agg #[.int .i64 p, .int .i64 q]) (.agg #[.int .i64 x, .int .i64 y])).run Try.prog W = .ok (.bool false) W := fun W => by rw [run_neq_point, hq]; rfl
        clear hq
        go_wp2_with fail
        go_quiet (fail)
        go_wp2
        go_roundw
        case rel => exact ⟨k + 1, by omega, by go_num, bel_trans hB.out (bel_drewN _ _), ha2⟩
        case measure => simp [intOf]; omega
    · obtain rfl : k = n := by omega
      obtain rfl := k2.out ha.out
      go_wp2
      go_returns
      exact ⟨rfl, hB.out⟩
theorem eqG_zero (a : Option Addr) (c : Nat) (a2 : Option Addr) (d : Nat) (w : World) :
    Calls Try.prog 39 #[.slice a 0 c, .slice a2 0 d] w fun e w' => e = .returned (.bool true) ∧ Below w.heap.size w w' := by
  go_enter Try.func39, Try.ntmps39
  go_wp2_with fail
  go_loopw [13] (fun i wr => i = .int .i64 0 ∧ w = wr) (fun _ _ => 0)
  case atStart => exact ⟨rfl, rfl⟩
  case round =>
    obtain ⟨rfl, rfl⟩ := hrel
    go_wp2
    go_returns
    exact ⟨rfl, Below.refl _ _⟩
theorem eqG_lens (a : Option Addr) (n c : Nat) (a2 : Option Addr) (m d : Nat) (w : World) (h : n ≠ m) (hn : n ≤ 9223372036854775807) (hm : m ≤ 9223372036854775807) :
    Calls Try.prog 39 #[.slice a n c, .slice a2 m d] w fun e w' => e = .returned (.bool false) ∧ Below w.heap.size w w' := by
  have g : ((n : Int) != (m : Int)) = true := by rw [bne_iff_ne]; omega
  go_enter Try.func39, Try.ntmps39
  go_wp2
  go_returns
  exact ⟨rfl, Below.refl _ _⟩
theorem eqG_any (v u : Value) (xs ys : List (Int × Int)) (w : World) (hv : Pts w v xs) (hu : Pts w u ys) :
    Calls Try.prog 39 #[v, u] w fun e w' => e = .returned (.bool (decide (xs = ys))) ∧ Below w.heap.size w w' := by
  obtain ⟨a, c, rfl, hl, hh⟩ := hv
  obtain ⟨a2, d, rfl, hl2, hh2⟩ := hu
  have ext : ∀ j, (xs.getD j (0, 0) = ys.getD j (0, 0)) ↔ samP (gX xs j) (gR xs j) (gX ys j) (gR ys j) = true := fun j => by
    unfold samP gX gR
    rw [Bool.and_eq_true, beq_iff_eq, beq_iff_eq]
    exact ⟨fun h => by rw [h]; exact ⟨rfl, rfl⟩, fun h => Prod.ext h.1 h.2⟩
  by_cases hn : xs.length = ys.length
  · rcases hh with h0 | ⟨b, o, rfl, hb, hc⟩
    · have e1 := List.length_eq_zero_iff.1 h0
      have e2 : ys = [] := List.length_eq_zero_iff.1 (by omega)
      subst e1 e2
      exact eqG_zero a c a2 d w
    · rcases hh2 with h0 | ⟨b2, o2, rfl, hb2, hc2⟩
      · have e1 := List.length_eq_zero_iff.1 h0
        have e2 : xs = [] := List.length_eq_zero_iff.1 (by omega)
        subst e1 e2
        exact eqG_zero _ c a2 d w
      · rw [← hn]
        refine eqG_some b o _ c b2 o2 d xs ys _ w (by omega) hb hb2 (Lib.hid hc) (Lib.hid fun j hj => hc2 j (by omega)) (Lib.hid ?_) (Lib.hid ?_)
        · rintro ⟨j, hj, h⟩
          rw [decide_eq_false_iff_not]
          intro e
          have := (ext j).1 (by rw [e])
          rw [h] at this
          cases this
        · intro h
          rw [decide_eq_true_iff]
          apply List.ext_getElem hn
          intro j h1 h2
          have := (ext j).2 (h j h1)
          rw [List.getD_eq_getElem?_getD, List.getD_eq_getElem?_getD, List.getElem?_eq_getElem h1, List.getElem?_eq_getElem h2] at this
          exact this
  · rw [decide_eq_false (fun e => hn (by rw [e]))]
    exact eqG_lens a _ c a2 _ d w hn (by omega) (by omega)
end Go.Proofs.Ytooofppgjknigaa

namespace Go.Proofs.Ytooofppgjknigaa
open Go.RowKit

set_option maxHeartbeats 4000000 in
theorem agrC_any (q : Nat) (V : Value) (x r : Int) (B : Bool) (w : World) (hq : w.cell? ⟨q, 0, none⟩ = some V) (hlt : q < w.heap.size)
    (H : Hid (∀ W, Below w.heap.size w W → Calls Try.prog 42 #[V, .agg #[.int .i64 x, .int .i64 r]] W fun e w' => e = .returned (.bool B) ∧ Below W.heap.size W w')) :
    Calls Try.prog 41 #[.agg #[.int .i64 x, .int .i64 r], .pointer (some ⟨q, 0, none⟩)] w fun e w' => e = .returned (.bool (!B)) ∧ Below w.heap.size w w' := by
  have c0 : ∀ o, (w.alloc o).cell? ⟨q, 0, none⟩ = some V := fun o => by rw [World.cell?_alloc_lt w o _ hlt]; exact hq
  have X0 := Lib.hid (bel_alloc (w := w) (o := .cells #[.int .i64 x, .int .i64 r] 46) (Below.refl _ _))
  go_enter Try.func41, Try.ntmps41
  go_wp2_with fail
  refine (H.out _ X0.out).mono ?_
  rintro e w1 ⟨rfl, gg⟩
  have X1 := Lib.hid (bel_trans X0.out gg); clear gg
  go_wp2
  go_returns
  exact ⟨rfl, X1.out⟩
/-- all rows are among them -/
theorem agr_any (q : Nat) (V u : Value) (C D : List (Int × Int)) (w : World) (hC : C.length ≤ 1000) (hD : D.length ≤ 1000) (hu : Pts w u D) (hV : Pts w V C) (hq : w.cell? ⟨q, 0, none⟩ = some V) (hlt : q < w.heap.size) (hs : ∀ c ∈ D, c ∈ C) :
    Calls Try.prog 40 #[u, .func (.func 41) #[] #[.pointer (some ⟨q, 0, none⟩)]] w fun e w' => e = .returned (.bool false) ∧ Below w.heap.size w w' := by
  obtain ⟨a, cap, rfl, _, _⟩ := hu.shape
  refine cong_of _ _ a D.length cap rfl (fun j => !decide ((gX D j, gR D j) ∈ C)) false _ (Lib.hid ?_) (Lib.hid ?_)
  · exact idxg_any 41 #[.pointer (some ⟨q, 0, none⟩)] (fun j => !decide ((gX D j, gR D j) ∈ C)) (enters_of Try.func41 (by kernel_rfl) rfl) _ D w hD hu
      (Lib.hid fun j W hj hW => agrC_any q V _ _ _ W (cell_bel hq hW) (Nat.lt_of_lt_of_le hlt hW.size) (Lib.hid fun W2 hW2 => hasg_any V C _ _ W2 hC ((hV.below hW).below hW2)))
  · constructor
    · intro h; cases h
    · rintro ⟨j, hj, e⟩
      have := hs _ (gx_mem hj)
      simp [this] at e
/-! ### right density tables -/
theorem ext_gx {m l : List (Int × Int)} (hl : m.length = l.length) (h : ∀ j, j < l.length → gX m j = gX l j ∧ gR m j = gR l j) : m = l := by
  apply List.ext_getElem hl
  intro j h1 h2
  obtain ⟨g1, g2⟩ := h j h2
  unfold gX at g1
  unfold gR at g2
  rw [List.getD_eq_getElem?_getD, List.getD_eq_getElem?_getD, List.getElem?_eq_getElem h1, List.getElem?_eq_getElem h2] at g1 g2
  exact Prod.ext g1 g2
theorem DR.ar {l : List (Int × Int)} (h : DR l) : AR l :=
  ⟨by have := h.n0; omega, h.n1, h.b, fun i hi => by have := h.asc i hi; omega⟩
theorem DR.chain {l : List (Int × Int)} (h : DR l) (j : Nat) : ∀ i : Nat, j < i → i < l.length → gX l j < gX l i ∧ gR l i ≤ gR l j
  | 0, h1, _ => by omega
  | i + 1, h1, h2 => by
    have a := h.asc i h2
    have b := h.down i h2
    by_cases e : j = i
    · subst e; exact ⟨a, b⟩
    · obtain ⟨c, d⟩ := DR.chain h j i (by omega) (by omega)
      exact ⟨by omega, by omega⟩
theorem DR.lev {l : List (Int × Int)} (h : DR l) : leV l = 0 := by
  have b := leV_bd h.ar
  have := (leV_le h.ar (Int.le_refl 0)).2 fun j i hj hi hji => by
    obtain ⟨c, d⟩ := h.chain j i hji hi
    unfold ex exd
    rw [if_neg (by omega)]
    omega
  omega
theorem DR.rp {l : List (Int × Int)} (h : DR l) : rpV l = 0 ∧ rpL l = l := by
  have hA := h.ar
  have e0 := auE_zero.2 hA
  have c := rp_change hA
  rw [h.lev] at c
  refine ⟨by rw [c]; rfl, ?_⟩
  unfold rpL
  rw [if_pos e0]
  refine ext_gx (wiD_len _ _) fun j hj => ?_
  obtain ⟨g1, g2⟩ := wiD_at l (rpF l) hj
  have n := rp_near hA hj
  rw [h.lev] at n
  refine ⟨g1, ?_⟩
  rw [g2]; omega
theorem DR.co {l : List (Int × Int)} (h : DR l) : coF l l.length = l := by
  obtain ⟨h1, h2⟩ := @coF_all l l.length (fun j h0 hj => by
    have := h.asc (j - 1) (by omega)
    rw [show j - 1 + 1 = j by omega] at this
    have ne : gX l j ≠ gX l (j - 1) := by omega
    simp [samP, ne])
  exact ext_gx h1 h2
theorem DR.tb {l : List (Int × Int)} (h : DR l) : tbE l = 0 ∧ tbL l = l := by
  have e0 := auE_zero.2 h.ar
  have d := dnE_zero.2 h
  have e : tbE l = 0 := by
    unfold tbE
    rw [if_neg (by omega), if_neg (by rw [h.lev]; decide), h.co]
    exact d
  exact ⟨e, by unfold tbL; rw [if_pos e, h.co]⟩
theorem co_mem (l : List (Int × Int)) : ∀ k, ∀ j, j < k → (gX l j, gR l j) ∈ coF l k
  | 0, j, h => by omega
  | k + 1, j, h => by
    have ih := co_mem l k
    cases hs : decide (k ≠ 0 ∧ samP (gX l k) (gR l k) (gX l (k - 1)) (gR l (k - 1)) = true) with
    | true =>
      have hs := of_decide_eq_true hs
      rw [coF_skip hs.1 hs.2]
      by_cases e : j = k
      · subst e
        have := ih (j - 1) (by omega)
        have h2 := hs.2
        simp only [samP, Bool.and_eq_true, beq_iff_eq] at h2
        rw [h2.1, h2.2]; exact this
      · exact ih j (by omega)
    | false =>
      have hs := of_decide_eq_false hs
      unfold coF
      rw [if_neg hs]
      by_cases e : j = k
      · subst e; simp
      · exact List.mem_append_left _ (ih j (by omega))
/-- a table that was made is right, is not longer, and has all rows -/
theorem tb_right {l : List (Int × Int)} (h : tbE l = 0) : dnE (tbL l) = 0 ∧ (tbL l).length ≤ l.length ∧ l.length ≤ 128 ∧ ∀ j, j < l.length → (gX l j, gR l j) ∈ tbL l := by
  have hA : auE l = 0 := by
    apply Classical.byContradiction
    intro hh
    unfold tbE at h
    rw [if_pos hh] at h
    exact absurd h (by decide)
  have h2 : ¬ 0 < leV l := by
    intro hh
    unfold tbE at h
    rw [if_neg (by omega), if_pos hh] at h
    exact absurd h (by decide)
  have e : tbL l = coF l l.length := by unfold tbL; rw [if_pos h]
  have d : dnE (coF l l.length) = 0 := by
    unfold tbE at h
    rwa [if_neg (by omega), if_neg h2] at h
  rw [e]
  exact ⟨d, coF_len l _, (auE_zero.1 hA).n1, co_mem l _⟩
end Go.Proofs.Ytooofppgjknigaa

namespace Go.Proofs.Ytooofppgjknigaa.auditAgrees
open Go.ChangeShapes Go.WideShapes Go.ChangeAt Go.RowKit
open Go.ChangeMaps (open_string shut_string)
set_option linter.unusedVariables false

set_option maxHeartbeats 4000000 in
theorem long (a : Option Addr) (n cap : Nat) (w : World) (h : 20 < n) :
    Calls Try.prog 9 #[.slice a n cap] w fun e w' => e = .returned (.bool true) ∧ Below w.heap.size w w' := by
  have HA := Lib.hid (fun W => awake_any W)
  have dn : decide (20 < (n : Int)) = true := decide_eq_true (by omega)
  have HB := Lib.hid (Below.refl w.heap.size w)
  go_enter Try.func9, Try.ntmps9
  go_wp2_with fail
  refine (HA.out _).mono ?_
  rintro e w2 ⟨rfl, h1⟩
  replace HB := Lib.hid (bel_trans HB.out h1); clear h1
  go_wp2
  go_returns
  exact ⟨rfl, HB.out⟩
set_option maxHeartbeats 16000000 in
set_option maxRecDepth 100000 in
theorem bad (a : Option Addr) (n cap : Nat) (I DE TE : Int) (l : List (Int × Int)) (w : World) (h : n ≤ 20) (NV : Hid (Pts w (.slice a n cap) l)) (hd : DE ≠ 0) (ht : TE ≠ 0)
    (C0 : Hid (∀ v W, Pts W v l → Calls Try.prog 38 #[v] W fun e w' => e = .returned (.tuple #[.int .i64 I, .int .i64 DE]) ∧ Below W.heap.size W w'))
    (C3 : Hid (∀ v W, Pts W v l → Calls Try.prog 25 #[v] W fun e w' => ∃ u, e = .returned (.tuple #[u, .int .i64 TE]) ∧ Pts w' u [] ∧ Below W.heap.size W w')) :
    Calls Try.prog 9 #[.slice a n cap] w fun e w' => e = .returned (.bool true) ∧ Below w.heap.size w w' := by
  have HA := Lib.hid (fun W => awake_any W)
  have dn : decide (20 < (n : Int)) = false := decide_eq_false (by omega)
  have d0 : (DE == 0) = false := beq_eq_false_iff_ne.2 hd
  have d1 : (TE != 0) = true := bne_iff_ne.2 ht
  clear hd ht
  have HB := Lib.hid (Below.refl w.heap.size w)
  go_enter Try.func9, Try.ntmps9
  go_wp2_with fail
  refine (HA.out _).mono ?_
  rintro e w5 ⟨rfl, h1⟩
  replace NV := Lib.hid (NV.out.below h1)
  replace HB := Lib.hid (bel_trans HB.out h1); clear h1
  go_wp2_with fail
  refine (C0.out _ _ NV.out).mono ?_
  rintro e w6 ⟨rfl, h1⟩
  replace NV := Lib.hid (NV.out.below h1)
  replace HB := Lib.hid (bel_trans HB.out h1); clear h1
  go_wp2_with fail
  refine (C3.out _ _ NV.out).mono ?_
  rintro e w7 ⟨V3, rfl, hx, h1⟩
  replace NV := Lib.hid (NV.out.below h1)
  replace HB := Lib.hid (bel_trans HB.out h1); clear h1
  have N3 := Lib.hid hx; clear hx
  have BX := Lib.hid (Boxed.new (w7) 22 V3)
  have BS := Lib.hid (bel_alloc (w := (w7)) (o := .cells #[V3] 22) (Below.refl _ _))
  replace HB := Lib.hid (bel_trans HB.out BS.out)
  obtain ⟨a3, c3, e3, _, _⟩ := N3.out.shape
  subst e3
  have cb := BX.out.cell
  clear NV N3
  go_wp2
  go_returns
  exact ⟨rfl, HB.out⟩
set_option maxHeartbeats 16000000 in
set_option maxRecDepth 100000 in
theorem made (a : Option Addr) (n cap : Nat) (I I2 DE : Int) (l TL : List (Int × Int)) (w : World) (h : n ≤ 20) (NV : Hid (Pts w (.slice a n cap) l)) (hd : DE ≠ 0) (hl : l.length ≤ 1000) (hm : TL.length ≤ n) (hs : ∀ c ∈ l, c ∈ TL)
    (C0 : Hid (∀ v W, Pts W v l → Calls Try.prog 38 #[v] W fun e w' => e = .returned (.tuple #[.int .i64 I, .int .i64 DE]) ∧ Below W.heap.size W w'))
    (C3 : Hid (∀ v W, Pts W v l → Calls Try.prog 25 #[v] W fun e w' => ∃ u, e = .returned (.tuple #[u, .int .i64 0]) ∧ Pts w' u TL ∧ Below W.heap.size W w'))
    (C4 : Hid (∀ v W, Pts W v TL → Calls Try.prog 38 #[v] W fun e w' => e = .returned (.tuple #[.int .i64 I2, .int .i64 0]) ∧ Below W.heap.size W w')) :
    Calls Try.prog 9 #[.slice a n cap] w fun e w' => e = .returned (.bool true) ∧ Below w.heap.size w w' := by
  have HA := Lib.hid (fun W => awake_any W)
  have hmf : ∀ (fn : Fn) (first cap : Array Value) (w : World), (Instr.makeFunc fn first cap).run Try.prog w = .ok (.func fn first cap) w := fun _ _ _ _ => rfl
  have dn : decide (20 < (n : Int)) = false := decide_eq_false (by omega)
  have d0 : (DE == 0) = false := beq_eq_false_iff_ne.2 hd
  have d2 : decide ((TL.length : Int) ≤ (n : Int)) = true := decide_eq_true (by omega)
  have zt : TL.length ≤ 1000 := by omega
  clear hd
  have HB := Lib.hid (Below.refl w.heap.size w)
  go_enter Try.func9, Try.ntmps9
  go_wp2_with fail
  refine (HA.out _).mono ?_
  rintro e w10 ⟨rfl, h1⟩
  replace NV := Lib.hid (NV.out.below h1)
  replace HB := Lib.hid (bel_trans HB.out h1); clear h1
  go_wp2_with fail
  refine (C0.out _ _ NV.out).mono ?_
  rintro e w11 ⟨rfl, h1⟩
  replace NV := Lib.hid (NV.out.below h1)
  replace HB := Lib.hid (bel_trans HB.out h1); clear h1
  go_wp2_with fail
  refine (C3.out _ _ NV.out).mono ?_
  rintro e w12 ⟨V3, rfl, hx, h1⟩
  replace NV := Lib.hid (NV.out.below h1)
  replace HB := Lib.hid (bel_trans HB.out h1); clear h1
  have N3 := Lib.hid hx; clear hx
  have N3B := Lib.hid (N3.out.below (bel_alloc (o := .cells #[V3] 22) (Below.refl _ _)))
  have NVB := Lib.hid (NV.out.below (bel_alloc (o := .cells #[V3] 22) (Below.refl _ _)))
  have BX := Lib.hid (Boxed.new (w12) 22 V3)
  have BS := Lib.hid (bel_alloc (w := (w12)) (o := .cells #[V3] 22) (Below.refl _ _))
  replace HB := Lib.hid (bel_trans HB.out BS.out)
  obtain ⟨a3, c3, e3, _, _⟩ := N3.out.shape
  subst e3
  have cb0 := BX.out.cell
  clear C0 C3
  go_wp2_with fail
  refine (C4.out _ _ N3B.out).mono ?_
  rintro e w70 ⟨rfl, h1⟩
  replace N3B := Lib.hid (N3B.out.below h1)
  replace NVB := Lib.hid (NVB.out.below h1)
  replace BX := Lib.hid (bxd_below BX.out h1)
  replace HB := Lib.hid (bel_trans HB.out h1); clear h1
  have TC := Lib.hid (agr_any _ _ _ TL l w70 zt hl NVB.out N3B.out BX.out.cell BX.out.lt hs)
  have cb := BX.out.cell
  clear cb0 BX N3B N3 NV NVB C4 BS HA
  generalize TL.length = nt at *
  go_wp2_with fail
  refine TC.out.mono ?_
  rintro e w71 ⟨rfl, h1⟩
  replace HB := Lib.hid (bel_trans HB.out h1); clear h1
  go_wp2
  go_returns
  exact ⟨rfl, HB.out⟩
set_option maxHeartbeats 16000000 in
set_option maxRecDepth 100000 in
theorem right (a : Option Addr) (n cap : Nat) (I : Int) (l : List (Int × Int)) (w : World) (h : n ≤ 20) (hn : l.length = n) (NV : Hid (Pts w (.slice a n cap) l))
    (C0 : Hid (∀ v W, Pts W v l → Calls Try.prog 38 #[v] W fun e w' => e = .returned (.tuple #[.int .i64 I, .int .i64 0]) ∧ Below W.heap.size W w'))
    (C1 : Hid (∀ v W, Pts W v l → Calls Try.prog 16 #[v] W fun e w' => e = .returned (.tuple #[.int .i64 0, .int .i64 0]) ∧ Below W.heap.size W w'))
    (C2 : Hid (∀ v W, Pts W v l → Calls Try.prog 21 #[v] W fun e w' => ∃ u, e = .returned (.tuple #[u, .int .i64 0, .int .i64 0]) ∧ Pts w' u l ∧ Below W.heap.size W w'))
    (C3 : Hid (∀ v W, Pts W v l → Calls Try.prog 25 #[v] W fun e w' => ∃ u, e = .returned (.tuple #[u, .int .i64 0]) ∧ Pts w' u l ∧ Below W.heap.size W w')) :
    Calls Try.prog 9 #[.slice a n cap] w fun e w' => e = .returned (.bool true) ∧ Below w.heap.size w w' := by
  have HA := Lib.hid (fun W => awake_any W)
  have EQ := Lib.hid (fun v u W h1 h2 => eqG_any v u l l W h1 h2)
  rw [decide_eq_true rfl] at EQ
  have hmf : ∀ (fn : Fn) (first cap : Array Value) (w : World), (Instr.makeFunc fn first cap).run Try.prog w = .ok (.func fn first cap) w := fun _ _ _ _ => rfl
  have dn : decide (20 < (n : Int)) = false := decide_eq_false (by omega)
  have d2 : decide ((n : Int) ≤ (n : Int)) = true := decide_eq_true (by omega)
  have zl : l.length ≤ 1000 := by omega
  have HB := Lib.hid (Below.refl w.heap.size w)
  go_enter Try.func9, Try.ntmps9
  go_wp2_with fail
  refine (HA.out _).mono ?_
  rintro e w15 ⟨rfl, h1⟩
  replace NV := Lib.hid (NV.out.below h1)
  replace HB := Lib.hid (bel_trans HB.out h1); clear h1
  go_wp2_with fail
  refine (C0.out _ _ NV.out).mono ?_
  rintro e w16 ⟨rfl, h1⟩
  replace NV := Lib.hid (NV.out.below h1)
  replace HB := Lib.hid (bel_trans HB.out h1); clear h1
  go_wp2_with fail
  refine (C1.out _ _ NV.out).mono ?_
  rintro e w17 ⟨rfl, h1⟩
  replace NV := Lib.hid (NV.out.below h1)
  replace HB := Lib.hid (bel_trans HB.out h1); clear h1
  go_wp2_with fail
  refine (C2.out _ _ NV.out).mono ?_
  rintro e w18 ⟨V1, rfl, hx, h1⟩
  replace NV := Lib.hid (NV.out.below h1)
  replace HB := Lib.hid (bel_trans HB.out h1); clear h1
  have N1 := Lib.hid hx; clear hx
  go_wp2_with fail
  refine (C3.out _ _ NV.out).mono ?_
  rintro e w19 ⟨V2, rfl, hx, h1⟩
  replace NV := Lib.hid (NV.out.below h1)
  replace N1 := Lib.hid (N1.out.below h1)
  replace HB := Lib.hid (bel_trans HB.out h1); clear h1
  have N2 := Lib.hid hx; clear hx
  go_wp2_with fail
  refine (EQ.out _ _ _ N1.out NV.out).mono ?_
  rintro e w20 ⟨rfl, h1⟩
  replace NV := Lib.hid (NV.out.below h1)
  replace N1 := Lib.hid (N1.out.below h1)
  replace N2 := Lib.hid (N2.out.below h1)
  replace HB := Lib.hid (bel_trans HB.out h1); clear h1
  clear N1
  go_wp2_with fail
  refine (EQ.out _ _ _ N2.out NV.out).mono ?_
  rintro e w22 ⟨rfl, h1⟩
  replace NV := Lib.hid (NV.out.below h1)
  replace N2 := Lib.hid (N2.out.below h1)
  replace HB := Lib.hid (bel_trans HB.out h1); clear h1
  clear N2
  go_wp2_with fail
  refine (C3.out _ _ NV.out).mono ?_
  rintro e w24 ⟨V3, rfl, hx, h1⟩
  replace NV := Lib.hid (NV.out.below h1)
  replace HB := Lib.hid (bel_trans HB.out h1); clear h1
  have N3 := Lib.hid hx; clear hx
  have N3B := Lib.hid (N3.out.below (bel_alloc (o := .cells #[V3] 22) (Below.refl _ _)))
  have NVB := Lib.hid (NV.out.below (bel_alloc (o := .cells #[V3] 22) (Below.refl _ _)))
  have BX := Lib.hid (Boxed.new (w24) 22 V3)
  have BS := Lib.hid (bel_alloc (w := (w24)) (o := .cells #[V3] 22) (Below.refl _ _))
  replace HB := Lib.hid (bel_trans HB.out BS.out)
  obtain ⟨a3, c3, e3, _, _⟩ := N3.out.shape
  rw [hn] at e3
  subst e3
  have cb0 := BX.out.cell
  clear C1 C2 C3
  go_wp2_with fail
  refine (C0.out _ _ N3B.out).mono ?_
  rintro e w70 ⟨rfl, h1⟩
  replace N3B := Lib.hid (N3B.out.below h1)
  replace NVB := Lib.hid (NVB.out.below h1)
  replace BX := Lib.hid (bxd_below BX.out h1)
  replace HB := Lib.hid (bel_trans HB.out h1); clear h1
  have TC := Lib.hid (agr_any _ _ _ l l w70 zl zl NVB.out N3B.out BX.out.cell BX.out.lt (fun c hc => hc))
  have cb := BX.out.cell
  clear cb0 BX N3B N3 NV NVB C0 BS HA EQ
  go_wp2_with fail
  refine TC.out.mono ?_
  rintro e w71 ⟨rfl, h1⟩
  replace HB := Lib.hid (bel_trans HB.out h1); clear h1
  go_wp2
  go_returns
  exact ⟨rfl, HB.out⟩
theorem walk (v : Value) (l : List (Int × Int)) (w : World) (hv : Pts w v l) :
    Calls Try.prog 9 #[v] w fun e w' => e = .returned (.bool true) ∧ Below w.heap.size w w' := by
  have hv2 := hv
  obtain ⟨a, cap, rfl, _, _⟩ := hv.shape
  by_cases hn : 20 < l.length
  · exact long a l.length cap w hn
  by_cases hd : dnE l = 0
  · have hD := dnE_zero.1 hd
    have e0 := auE_zero.2 hD.ar
    have e1 : leE l = 0 := by unfold leE; rw [if_pos e0]
    have H0 := fun v W h => dnChk_any v l W h
    have H1 := fun v W h => auLe_any v l W h
    have H2 := fun v W h => auRp_any v l W h
    have H3 := fun v W h => auTb_any v l W h
    rw [hd] at H0
    rw [e1, hD.lev] at H1
    rw [e1, hD.rp.1, hD.rp.2] at H2
    rw [hD.tb.1, hD.tb.2] at H3
    exact right a l.length cap _ l w (by omega) rfl hv2 (Lib.hid H0) (Lib.hid H1) (Lib.hid H2) (Lib.hid H3)
  · have H3 := fun v W h => auTb_any v l W h
    by_cases ht : tbE l = 0
    · obtain ⟨t1, t2, t3, t4⟩ := tb_right ht
      have H4 := fun v W h => dnChk_any v (tbL l) W h
      rw [t1] at H4
      rw [ht] at H3
      exact made a l.length cap _ _ (dnE l) l (tbL l) w (by omega) hv2 hd (by omega) t2 (fun c hc => by
        obtain ⟨i, hi, g1, g2⟩ := mem_gx hc
        have := t4 i hi
        rwa [g1, g2] at this) (Lib.hid fun v W h => dnChk_any v l W h) (Lib.hid H3) (Lib.hid H4)
    · have e : tbL l = [] := by unfold tbL; rw [if_neg ht]
      rw [e] at H3
      exact bad a l.length cap _ (dnE l) (tbE l) l w (by omega) hv2 hd ht (Lib.hid fun v W h => dnChk_any v l W h) (Lib.hid H3)

set_option maxRecDepth 100000 in
theorem lifted (os : Os) (started : os.Started) (H : Type) (enc : TypeId × Value → H) :
    ReturnsInHanded {} Try.checked os 9 .any (Rows.auditAgreesSpec.pre6 enc Try.prog Try.f9 Rows.auditAgreesRow.domain false) (Rows.auditAgreesSpec.post enc Try.prog Try.f9 false true false false) := by
  refine returnsInHanded_of_change (C := Try.checked) own started (by kernel_rfl) Try.func9
    (ChangeSpec.witness6 (enc := enc) (C := Try.checked) false ⟨#[], #[.slice none 0 0], []⟩ 8 (by kernel_rfl) (by kernel_rfl) (by kernel_rfl) (by kernel_rfl)) ?_
  intro W base args ds gs before hval0 hW hcnd _
  have hval : ∀ (j : Nat) t v, Try.f9.params[j]? = some t → args[j]? = some v → Value.okWide Try.prog W .any base t v := hval0
  clear hval0
  have hW' := hW
  obtain ⟨p, q, hA0, hV, rfl, hfz, hnd⟩ := hW
  have hA : DataW.TrodAll enc Try.prog W 0 (fun _ => true) true Try.f9.params.toList args.toList ds p := hA0
  rw [Try.params9] at hA hval
  obtain ⟨v0, vs0, d0, ds0, p0, q0, hargs, rfl, rfl, h0, r0⟩ := trodAll_cons hA
  obtain ⟨rfl, rfl, rfl⟩ := trodAll_nil r0
  obtain rfl : args = #[v0] := by cases args; simp_all
  obtain ⟨rfl, rfl⟩ := trodVars_none hV
  have k0 := h0
  have lt0 : ∀ x ∈ p0, x.block < W.heap.size := by obtain ⟨m, hm⟩ := k0; exact DataW.trod_lt m _ _ _ hm
  obtain ⟨z0, w0⟩ := open_pts (hval 0 22 v0 rfl rfl) h0
  clear hA0
  refine (walk v0 z0 W w0).mono fun e W' ⟨he, bel⟩ => ?_
  subst he
  exact ⟨_, rfl, _, _, _, [], _, [], hW', trodAll_mk1 (shut_bool Try.underlying4 _), (trodAll_cons_mk (Below.trod laidOut (by kernel_rfl) (of_decide_eq_true (by kernel_rfl)) k0 bel lt0) trodAll_mk0), rfl, bel.frame _, fun h => by cases h⟩

theorem over : Rows.auditAgreesRow.holds Try.pinned (OpenSpec.ofChange Rows.auditAgreesSpec) :=
  OpenClaim.holds_of_wide 9 Try.f9 rfl rfl rfl rfl rfl rfl rfl ⟨rfl, rfl, rfl, rfl, rfl⟩ rfl rfl rfl rfl rfl (by kernel_rfl) Try.func9 (by kernel_rfl)
    (of_decide_eq_true (by kernel_rfl)) (by unfold Func.isWrapper; first | (rw [if_pos (by decide +kernel)]; kernel_rfl) | (rw [if_neg (by decide +kernel)]; exact ⟨rfl, rfl⟩))
    (fun os started H enc _ => lifted os started H enc)

theorem proved : Rows.AuditAgreesSaid := over
#print axioms proved
end Go.Proofs.Ytooofppgjknigaa.auditAgrees
