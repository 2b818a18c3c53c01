/- slices.IndexFunc and ContainsFunc over marks; package dip: Check. -/
import Derived.Test.YtdpkochkpcjioabDoorDPB
namespace Go.Proofs.YtdpkochkpcjioabDoor
open Go.RowKit

/-- the index of the first place at which p holds; -1 if there is none -/
def ixR (p : Nat → Bool) (n : Nat) : Int := if fst p n < n then (fst p n : Int) else -1
theorem ixR_at {p : Nat → Bool} {n k : Nat} (hk : k < n) (h1 : ∀ j, j < k → p j = false) (h2 : p k = true) : ixR p n = k := by
  unfold ixR
  rw [fst_is (by omega) h1 (fun _ => h2), if_pos hk]
theorem ixR_no {p : Nat → Bool} {n : Nat} (h1 : ∀ j, j < n → p j = false) : ixR p n = -1 := by
  unfold ixR
  rw [fst_is (Nat.le_refl _) h1 (fun h => by omega), if_neg (by omega)]
theorem ixR_iff (p : Nat → Bool) (n : Nat) : 0 ≤ ixR p n ↔ ∃ j, j < n ∧ p j = true := by
  unfold ixR
  obtain ⟨s1, s2⟩ := fst_spec p n
  by_cases h : fst p n < n
  · rw [if_pos h]
    exact ⟨fun _ => ⟨_, h, s2 h⟩, fun _ => by omega⟩
  · rw [if_neg h]
    refine ⟨fun h => by omega, ?_⟩
    rintro ⟨j, hj, e⟩
    rw [s1 j (by omega)] at e
    cases e
set_option maxHeartbeats 8000000 in
set_option maxRecDepth 100000 in
theorem idxm_some (f : Nat) (cb : Array Value) (p : Nat → Bool) (eg : ∀ args w, (callFunc f args).run Tryd.prog w = .ok (.enter f args) w)
    (b off n cap : Nat) (l : List (Int × Int)) (w : World) (n1 : n ≤ 1000) (hb : b < w.heap.size)
    (hc : Hid (∀ j, j < n → w.cell? ⟨b, off + j * 2, none⟩ = some (.int .i64 (gX l j)) ∧ w.cell? ⟨b, off + j * 2 + 1, none⟩ = some (.int .i64 (gR l j))))
    (hp : Hid (∀ j W, j < n → Below w.heap.size w W → Calls Tryd.prog f (#[.agg #[.int .i64 (gX l j), .int .i64 (gR l j)]] ++ cb) W fun e w' => e = .returned (.bool (p j)) ∧ Below W.heap.size W w')) :
    Calls Tryd.prog 88 #[.slice (some ⟨b, off, none⟩) n cap, .func (.func f) #[] cb] w fun e w' => e = .returned (.int .i64 (ixR p n)) ∧ Below w.heap.size w w' := by
  go_enter Tryd.func88, Tryd.ntmps88
  go_wp2_with fail
  go_loopw [5, 8] (fun _ i wr => ∃ k : Nat, k ≤ n ∧ i = .int .i64 k ∧ Hid (Below w.heap.size w wr) ∧ Hid (∀ j, j < k → p j = false)) (fun _ i _ => n - (intOf i).toNat)
  case atStart => exact ⟨0, Nat.zero_le _, rfl, Below.refl _ _, fun j hj => by omega⟩
  case round =>
    obtain ⟨k, hk, rfl, hB, ha⟩ := hrel
    by_cases hlt : k < n
    · have c0 : wr.cell? ⟨b, off + k * 2, none⟩ = some (.int .i64 (gX l k)) := by rw [(bcell hB.out).1 _ _ hb]; exact (hc.out k hlt).1
      have c1 : wr.cell? ⟨b, off + k * 2 + 1, none⟩ = some (.int .i64 (gR l k)) := by rw [(bcell hB.out).1 _ _ hb]; exact (hc.out k hlt).2
      have HP := Lib.hid (fun W (hW : Below wr.heap.size wr W) => hp.out k W hlt (bel_trans hB.out hW))
      cases hq : p k with
      | true =>
        have hBt := Lib.hid (ixR_at hlt ha.out hq)
        rw [hq] at HP
        clear hq
        generalize gX l k = x at *
        generalize gR l k = r at *
        go_wp2_with fail
        refine (HP.out _ (by first | exact Below.refl _ _ | exact bel_alloc (Below.refl _ _) | exact bel_drew _ | exact bel_alloc (bel_alloc (Below.refl _ _)))).mono ?_
        rintro e w2 ⟨rfl, gg⟩
        have X := Lib.hid (bel_trans hB.out gg); clear gg
        go_wp2
        go_returns
        exact ⟨by rw [hBt.out]; rfl, X.out⟩
      | false =>
        have ha2 : Hid (∀ j, j < k + 1 → p j = false) := fun j hj => by
          by_cases e : j = k
          · rw [e]; exact hq
          · exact ha.out j (by omega)
        rw [hq] at HP
        clear hq ha
        generalize gX l k = x at c0 HP
        generalize gR l k = r at c1 HP
        go_wp2_with fail
        refine (HP.out _ (by first | exact Below.refl _ _ | exact bel_alloc (Below.refl _ _) | exact bel_drew _ | exact bel_alloc (bel_alloc (Below.refl _ _)))).mono ?_
        rintro e w2 ⟨rfl, gg⟩
        have X := Lib.hid (bel_trans hB.out gg); clear gg
        go_wp2
        go_roundw
        case rel => exact ⟨k + 1, by omega, by go_num, X, ha2⟩
        case measure => simp [intOf]; omega
    · obtain rfl : k = n := by omega
      have hBf := Lib.hid (ixR_no ha.out)
      go_wp2
      go_returns
      exact ⟨by rw [hBf.out]; rfl, hB.out⟩
set_option maxHeartbeats 8000000 in
theorem idxm_nil (f : Value) (a : Option Addr) (cap : Nat) (p : Nat → Bool) (w : World) :
    Calls Tryd.prog 88 #[.slice a 0 cap, f] w fun e w' => e = .returned (.int .i64 (ixR p 0)) ∧ Below w.heap.size w w' := by
  have hBf : Hid (ixR p 0 = -1) := Lib.hid (ixR_no fun j hj => by omega)
  go_enter Tryd.func88, Tryd.ntmps88
  go_wp2_with fail
  go_loopw [5, 8] (fun _ i wr => i = .int .i64 0 ∧ Hid (Below w.heap.size w wr)) (fun _ _ _ => 0)
  case atStart => exact ⟨rfl, Below.refl _ _⟩
  case round =>
    obtain ⟨rfl, hB⟩ := hrel
    go_wp2
    go_returns
    exact ⟨by rw [hBf.out]; rfl, hB.out⟩
theorem conm_of (f : Value) (v : Value) (a : Option Addr) (n cap : Nat) (hv : v = .slice a n cap) (p : Nat → Bool) (B : Bool) (w : World)
    (HI : Hid (Calls Tryd.prog 88 #[v, f] w fun e w' => e = .returned (.int .i64 (ixR p n)) ∧ Below w.heap.size w w'))
    (hB : Hid (B = true ↔ ∃ j, j < n ∧ p j = true)) :
    Calls Tryd.prog 70 #[v, f] w fun e w' => e = .returned (.bool B) ∧ Below w.heap.size w w' := by
  subst hv
  have h : decide (0 ≤ ixR p n) = B := by
    rw [Bool.eq_iff_iff, decide_eq_true_eq, ixR_iff]; exact hB.out.symm
  clear hB
  generalize ixR p n = k at *
  subst h
  go_enter Tryd.func70, Tryd.ntmps70
  go_wp2_with fail
  refine HI.out.mono ?_
  rintro e w1 ⟨rfl, hb⟩
  have HB := Lib.hid hb; clear hb
  go_wp2
  all_goals
    go_ret
    exact ⟨by simp_all, HB.out⟩
/-- IndexFunc over a slice that reads as marks -/
theorem idxm_any (f : Nat) (cb : Array Value) (p : Nat → Bool) (eg : ∀ args w, (callFunc f args).run Tryd.prog w = .ok (.enter f args) w)
    (v : Value) (l : List (Int × Int)) (w : World) (n1 : l.length ≤ 1000) (hv : Pts w v l)
    (hp : Hid (∀ j W, j < l.length → Below w.heap.size w W → Calls Tryd.prog f (#[.agg #[.int .i64 (gX l j), .int .i64 (gR l j)]] ++ cb) W fun e w' => e = .returned (.bool (p j)) ∧ Below W.heap.size W w')) :
    Calls Tryd.prog 88 #[v, .func (.func f) #[] cb] w fun e w' => e = .returned (.int .i64 (ixR p l.length)) ∧ Below w.heap.size w w' := by
  obtain ⟨a, cap, rfl, hcap, hh⟩ := hv
  rcases hh with h0 | ⟨b, off, rfl, hb, hc⟩
  · rw [h0]; exact idxm_nil _ a cap p w
  · exact idxm_some f cb p eg b off _ cap l w n1 hb (Lib.hid hc) hp
/-! ### Check -/
set_option maxHeartbeats 4000000 in
theorem dipOut_any (x v : Int) (w : World) :
    Calls Tryd.prog 71 #[.agg #[.int .i64 x, .int .i64 v]] w fun e w' => e = .returned (.bool (mkOut (x, v))) ∧ Below w.heap.size w w' := by
  unfold mkOut
  have X := Lib.hid (bel_alloc (o := .cells #[.int .i64 x, .int .i64 v] 54) (Below.refl _ (w.alloc (.cells #[.int .i64 x, .int .i64 v] 54))))
  show Calls _ _ _ _ fun e w' => e = .returned (.bool (decide (x < 0) || decide (200000 < x) || decide (v < 0) || decide (4294967296 < v))) ∧ _
  by_cases h0 : x < 0
  · have d0 : decide (x < 0) = true := decide_eq_true h0
    rw [d0, Bool.true_or, Bool.true_or, Bool.true_or]
    clear h0
    go_enter Tryd.func71, Tryd.ntmps71
    go_wp2
    go_returns
    exact ⟨rfl, X.out⟩
  have d0 : decide (x < 0) = false := decide_eq_false h0
  by_cases h1 : 200000 < x
  · have d1 : decide (200000 < x) = true := decide_eq_true h1
    rw [d0, d1, Bool.false_or, Bool.true_or, Bool.true_or]
    clear h0 h1
    go_enter Tryd.func71, Tryd.ntmps71
    go_wp2
    go_returns
    exact ⟨rfl, X.out⟩
  have d1 : decide (200000 < x) = false := decide_eq_false h1
  by_cases h2 : v < 0
  · have d2 : decide (v < 0) = true := decide_eq_true h2
    rw [d0, d1, d2, Bool.false_or, Bool.false_or, Bool.true_or]
    clear h0 h1 h2
    go_enter Tryd.func71, Tryd.ntmps71
    go_wp2
    go_returns
    exact ⟨rfl, X.out⟩
  have d2 : decide (v < 0) = false := decide_eq_false h2
  rw [d0, d1, d2, Bool.false_or, Bool.false_or, Bool.false_or]
  clear h0 h1 h2
  generalize hB : decide (4294967296 < v) = B
  go_enter Tryd.func71, Tryd.ntmps71
  go_wp2
  go_returns
  exact ⟨rfl, X.out⟩
set_option maxHeartbeats 8000000 in
set_option maxRecDepth 100000 in
theorem dipRis_some (b off q cap : Nat) (l : List (Int × Int)) (A : Bool) (w : World) (n0 : 1 ≤ q) (n1 : q ≤ 200) (hb : b < w.heap.size) (hcap : q + 1 ≤ cap)
    (hc : Hid (∀ j, j < q + 1 → w.cell? ⟨b, off + j * 2, none⟩ = some (.int .i64 (gX l j)) ∧ w.cell? ⟨b, off + j * 2 + 1, none⟩ = some (.int .i64 (gR l j))))
    (h5 : Hid ((∃ i, i < q ∧ ¬ (gX l i < gX l (i + 1) ∧ gR l i ≤ gR l (i + 1))) → A = false)) (h6 : Hid ((∀ i, i < q → gX l i < gX l (i + 1) ∧ gR l i ≤ gR l (i + 1)) → A = true)) :
    Calls Tryd.prog 72 #[.slice (some ⟨b, off, none⟩) (q + 1) cap] w fun e w' => e = .returned (.bool A) ∧ Below w.heap.size w w' := by
  have hc1 : ¬ cap = 1 := by omega
  go_enter Tryd.func72, Tryd.ntmps72
  go_wp2_with fail
  go_loopw [8] (fun ii wr => ∃ j : Nat, j ≤ q ∧ ii = .int .i64 (j : Int) ∧ Hid (Below w.heap.size w wr) ∧ Hid (∀ i, i < j → gX l i < gX l (i + 1) ∧ gR l i ≤ gR l (i + 1))) (fun ii _ => q - (intOf ii).toNat)
  case atStart => exact ⟨0, by omega, rfl, Below.refl _ _, fun i hi => by omega⟩
  case round =>
    obtain ⟨j, hj, rfl, hB, hs⟩ := hrel
    by_cases hlt : j < q
    · have bb : b < wr.heap.size := Nat.lt_of_lt_of_le hb hB.out.size
      have c0 : wr.cell? ⟨b, off + j * 2, none⟩ = some (.int .i64 (gX l j)) := by rw [(bcell hB.out).1 _ _ hb]; exact (hc.out j (by omega)).1
      have c1 : wr.cell? ⟨b, off + j * 2 + 1, none⟩ = some (.int .i64 (gR l j)) := by rw [(bcell hB.out).1 _ _ hb]; exact (hc.out j (by omega)).2
      have c2 : wr.cell? ⟨b, off + 2 + j * 2, none⟩ = some (.int .i64 (gX l (j + 1))) := by rw [show off + 2 + j * 2 = off + (j + 1) * 2 by omega, (bcell hB.out).1 _ _ hb]; exact (hc.out (j + 1) (by omega)).1
      have c3 : wr.cell? ⟨b, off + 2 + j * 2 + 1, none⟩ = some (.int .i64 (gR l (j + 1))) := by rw [show off + 2 + j * 2 + 1 = off + (j + 1) * 2 + 1 by omega, (bcell hB.out).1 _ _ hb]; exact (hc.out (j + 1) (by omega)).2
      have HG : Hid (gX l j < gX l (j + 1) ∧ gR l j ≤ gR l (j + 1) → ∀ i, i < j + 1 → gX l i < gX l (i + 1) ∧ gR l i ≤ gR l (i + 1)) := fun h i hi => by
        by_cases e : i = j
        · rw [e]; exact h
        · exact hs.out i (by omega)
      have HN : Hid (¬ (gX l j < gX l (j + 1) ∧ gR l j ≤ gR l (j + 1)) → A = false) := fun h => h5.out ⟨j, hlt, h⟩
      generalize gX l j = x at *
      generalize gR l j = u at *
      generalize gX l (j + 1) = y at *
      generalize gR l (j + 1) = v at *
      have l0 : (j : Int) < (q : Int) + 1 := by omega
      have d0 : (wr.alloc (.cells #[.int .i64 y, .int .i64 v] 54)).cell? ⟨b, off + j * 2, none⟩ = some (.int .i64 x) := by rw [World.cell?_alloc_lt wr _ _ bb]; exact c0
      have d1 : (wr.alloc (.cells #[.int .i64 y, .int .i64 v] 54)).cell? ⟨b, off + j * 2 + 1, none⟩ = some (.int .i64 u) := by rw [World.cell?_alloc_lt wr _ _ bb]; exact c1
      have X := Lib.hid (bel_trans hB.out (bel_alloc (o := .cells #[.int .i64 y, .int .i64 v] 54) (Below.refl _ _)))
      have X2 : Hid (∀ m, Below w.heap.size w ((wr.alloc (.cells #[.int .i64 y, .int .i64 v] 54)).drewN m)) := Lib.hid fun m => ⟨X.out.os, X.out.tape, X.out.output, X.out.size, X.out.block⟩
      by_cases hxy : y ≤ x
      · obtain rfl := HN.out (by omega)
        have hd : decide (y ≤ x) = true := decide_eq_true hxy
        clear HN HG h5 h6 hxy
        go_wp2_with fail
        go_quiet (fail)
        go_wp2
        go_returns
        exact ⟨rfl, X2.out _⟩
      · have hd : decide (y ≤ x) = false := decide_eq_false hxy
        by_cases huv : v < u
        · obtain rfl := HN.out (by omega)
          have hd2 : decide (v < u) = true := decide_eq_true huv
          clear HN HG h5 h6 hxy huv
          go_wp2_with fail
          go_quiet (fail)
          go_wp2
          go_returns
          exact ⟨rfl, X2.out _⟩
        · have hd2 : decide (v < u) = false := decide_eq_false huv
          replace HG := Lib.hid (HG.out (by omega))
          clear HN hxy huv
          go_wp2_with fail
          go_quiet (fail)
          go_wp2
          go_roundw
          case rel => exact ⟨j + 1, by omega, by go_num, X2.out _, HG.out⟩
          case measure => simp [intOf]; omega
    · obtain rfl : j = q := by omega
      obtain rfl := h6.out hs.out
      clear h5 h6
      go_wp2
      go_returns
      exact ⟨rfl, hB.out⟩
end Go.Proofs.YtdpkochkpcjioabDoor

