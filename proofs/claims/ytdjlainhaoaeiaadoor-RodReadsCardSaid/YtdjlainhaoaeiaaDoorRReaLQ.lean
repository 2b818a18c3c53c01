/-
  The statement RodReads of spile/spilelaw14 holds: for every input the call returns true, and each argument reads afterwards as it read before. (The listed package variables hold what the program lays: the card ties them.)
-/
import Derived.Test.YtdjlainhaoaeiaaDoorM2
import Derived.BigQuiet
import Derived.Deep.RegionHeld3
import Derived.Test.YtdjlainhaoaeiaaDoorCards
import Derived.Test.YtdjlainhaoaeiaaDoorTie
import Derived.Below
import Derived.Carry
import Derived.Lib.LaidTab
import Derived.Deep.DeepHandedRow
import Derived.SevenTiedPlain
import Derived.Lay

set_option linter.unusedVariables false
set_option linter.unusedSimpArgs false

namespace Go.Proofs.YtdjlainhaoaeiaaDoor
open Go.RowKit

theorem rtbChk_len (a : Option Addr) (n cap : Nat) (tol V : Int) (w : World) (h : (n < 2 ∧ V = 9) ∨ (¬ n < 2 ∧ 128 < n ∧ n ≤ 9223372036854775807 ∧ V = 8)) :
    Calls Tryd.prog 34 #[.agg #[.slice a n cap, .int .i64 tol]] w fun e w' => e = .returned (.int .i64 V) ∧ Below w.heap.size w w' := by
  have X0 := Lib.hid (bel_alloc (w := w) (o := .cells #[.slice a n cap, .int .i64 tol] 24) (Below.refl _ _))
  obtain ⟨t0, t1, _, _, _⟩ := Two.new w (.slice a n cap) (.int .i64 tol) 24
  rcases h with ⟨h, rfl⟩ | ⟨h, h2, h3, rfl⟩
  all_goals
    go_enter Tryd.func34, Tryd.ntmps34
    go_wp2
    go_returns
    exact ⟨rfl, X0.out⟩
set_option maxRecDepth 100000 in
set_option maxHeartbeats 16000000 in
theorem rtbChk_core (b off n cap : Nat) (tol : Int) (l : List (Int × Int)) (V : Int) (w : World) (n0 : 1 ≤ n) (n1 : n + 1 ≤ 128) (hb : b < w.heap.size) (hn : Hid (l.length = n + 1))
    (hv1 : Hid ((∃ i, i < n + 1 ∧ mkOut (gX l i, gR l i) = true) → V = 2))
    (hv2 : Hid ((∀ i, i < n + 1 → mkOut (gX l i, gR l i) = false) → (tol < 0 ∨ 4294967296 < tol) → V = 2))
    (hv3 : Hid ((∀ i, i < n + 1 → mkOut (gX l i, gR l i) = false) → ¬ (tol < 0 ∨ 4294967296 < tol) → (∃ i, i < n ∧ ¬ (gX l i < gX l (i + 1) ∧ gR l i ≤ gR l (i + 1))) → V = 5))
    (hv4 : Hid ((∀ i, i < n + 1 → mkOut (gX l i, gR l i) = false) → ¬ (tol < 0 ∨ 4294967296 < tol) → (∀ i, i < n → gX l i < gX l (i + 1) ∧ gR l i ≤ gR l (i + 1)) → V = 0))
    (hc : Hid (∀ j, j < n + 1 → w.cell? ⟨b, off + j * 2, none⟩ = some (.int .i64 (gX l j)) ∧ w.cell? ⟨b, off + j * 2 + 1, none⟩ = some (.int .i64 (gR l j)))) :
    Calls Tryd.prog 34 #[.agg #[.slice (some ⟨b, off, none⟩) (n + 1) cap, .int .i64 tol]] w fun e w' => e = .returned (.int .i64 V) ∧ Below w.heap.size w w' := by
  have T0 := Lib.hid (Two.new w (.slice (some ⟨b, off, none⟩) (n + 1) cap) (.int .i64 tol) 24)
  have X0 := Lib.hid (bel_alloc (w := w) (o := .cells #[.slice (some ⟨b, off, none⟩) (n + 1) cap, .int .i64 tol] 24) (Below.refl _ _))
  have TT : Hid (∀ W, Below (w.alloc (.cells #[.slice (some ⟨b, off, none⟩) (n + 1) cap, .int .i64 tol] 24)).heap.size (w.alloc (.cells #[.slice (some ⟨b, off, none⟩) (n + 1) cap, .int .i64 tol] 24)) W → Two w.heap.size W (.slice (some ⟨b, off, none⟩) (n + 1) cap) (.int .i64 tol) ∧ Below w.heap.size w W ∧ ∀ j, j < n + 1 → W.cell? ⟨b, off + j * 2, none⟩ = some (.int .i64 (gX l j)) ∧ W.cell? ⟨b, off + j * 2 + 1, none⟩ = some (.int .i64 (gR l j))) := Lib.hid fun W hW => ⟨T0.out.below hW, bel_trans X0.out hW, fun j hj => ⟨cell_bel (hc.out j hj).1 (bel_trans X0.out hW), cell_bel (hc.out j hj).2 (bel_trans X0.out hW)⟩⟩
  have B0 : Hid (Below (w.alloc (.cells #[.slice (some ⟨b, off, none⟩) (n + 1) cap, .int .i64 tol] 24)).heap.size (w.alloc (.cells #[.slice (some ⟨b, off, none⟩) (n + 1) cap, .int .i64 tol] 24)) (w.alloc (.cells #[.slice (some ⟨b, off, none⟩) (n + 1) cap, .int .i64 tol] 24))) := Lib.hid (Below.refl _ _)
  have BS : Hid (w.heap.size < (w.alloc (.cells #[.slice (some ⟨b, off, none⟩) (n + 1) cap, .int .i64 tol] 24)).heap.size) := Lib.hid (by rw [World.size_alloc]; omega)
  obtain ⟨t0, t1, _, _, _⟩ := T0.out
  have g2 : decide ((n : Int) + 1 < 2) = false := decide_eq_false (by omega)
  have g3 : decide (128 < (n : Int) + 1) = false := decide_eq_false (by omega)
  clear hc X0 T0 hn
  go_enter Tryd.func34, Tryd.ntmps34
  go_wp2_with fail
  generalize w.alloc (.cells #[.slice (some ⟨b, off, none⟩) (n + 1) cap, .int .i64 tol] 24) = W0 at *
  go_loopw [3] (fun ii wr => ∃ k : Nat, k ≤ n + 1 ∧ ii = .int .i64 (k : Int) ∧ Hid (Below W0.heap.size W0 wr) ∧ Hid (∀ i, i < k → mkOut (gX l i, gR l i) = false)) (fun ii _ => n + 1 - (intOf ii).toNat)
  case atStart => exact ⟨0, by omega, rfl, B0, Lib.hid fun i hi => by omega⟩
  case round =>
    clear t0 t1 B0
    obtain ⟨k, hk, rfl, hB, hA⟩ := hrel
    obtain ⟨⟨t0, t1, _, _, _⟩, HX, hcc⟩ := TT.out wr hB.out
    replace HX := Lib.hid HX
    by_cases hlt : k < n + 1
    · obtain ⟨c0, c1⟩ := hcc k hlt
      have l0 : (k : Int) < ((n + 1 : Nat) : Int) := by omega
      have l1 : (k : Int) < (n : Int) + 1 := by omega
      have nb := Lib.hid (Nat.lt_of_lt_of_le BS.out hB.out.size)
      have q1 : w.heap.size ≠ wr.heap.size := by have := nb.out; omega
      have q2 : wr.heap.size ≠ w.heap.size := by have := nb.out; omega
      have hE : Hid (mkOut (gX l k, gR l k) = (decide (gX l k < 0) || decide (200000 < gX l k) || decide (gR l k < 0) || decide (4294967296 < gR l k))) := Lib.hid rfl
      have XA := Lib.hid (fun o => bel_trans HX.out (bel_alloc (w := wr) (o := o) (Below.refl _ _)))
      have XB := Lib.hid (fun o => bel_trans hB.out (bel_alloc (w := wr) (o := o) (Below.refl _ _)))
      clear hcc
      cases hq : mkOut (gX l k, gR l k) with
      | true =>
        obtain rfl := hv1.out ⟨k, hlt, hq⟩
        rw [hq] at hE
        clear hv1 hv2 hv3 hv4 hA hq
        generalize gX l k = x at *
        generalize gR l k = r at *
        have hD : (decide (x < 0) = true) ∨ (decide (x < 0) = false ∧ decide (200000 < x) = true) ∨ (decide (x < 0) = false ∧ decide (200000 < x) = false ∧ decide (r < 0) = true) ∨ (decide (x < 0) = false ∧ decide (200000 < x) = false ∧ decide (r < 0) = false ∧ decide (4294967296 < r) = true) := by
          have := hE.out
          revert this
          cases decide (x < 0) <;> cases decide (200000 < x) <;> cases decide (r < 0) <;> cases decide (4294967296 < r) <;> simp
        clear hE
        rcases hD with d1 | ⟨d1, d2⟩ | ⟨d1, d2, d3⟩ | ⟨d1, d2, d3, d4⟩
        all_goals
          go_wp2
          go_returns
          exact ⟨rfl, XA.out _⟩
      | false =>
        have hA2 : Hid (∀ i, i < k + 1 → mkOut (gX l i, gR l i) = false) := Lib.hid fun i hi => by
          by_cases e : i = k
          · rw [e]; exact hq
          · exact hA.out i (by omega)
        rw [hq] at hE
        clear hq hA
        generalize gX l k = x at *
        generalize gR l k = r at *
        have hD : decide (x < 0) = false ∧ decide (200000 < x) = false ∧ decide (r < 0) = false ∧ decide (4294967296 < r) = false := by
          have := hE.out
          revert this
          cases decide (x < 0) <;> cases decide (200000 < x) <;> cases decide (r < 0) <;> cases decide (4294967296 < r) <;> simp
        obtain ⟨d1, d2, d3, d4⟩ := hD
        clear hE
        go_wp2
        go_roundw
        case rel => exact ⟨k + 1, by omega, by go_num, Lib.hid (XB.out _), hA2⟩
        case measure => simp [intOf]; omega
    · obtain rfl : k = n + 1 := by omega
      replace hv2 := Lib.hid (hv2.out hA.out)
      replace hv3 := Lib.hid (hv3.out hA.out)
      replace hv4 := Lib.hid (hv4.out hA.out)
      clear hv1 hA hlt hk hcc
      by_cases ht : tol < 0
      · obtain rfl := hv2.out (.inl ht)
        have d1 : decide (tol < 0) = true := decide_eq_true ht
        go_wp2
        go_returns
        exact ⟨rfl, HX.out⟩
      by_cases ht2 : 4294967296 < tol
      · obtain rfl := hv2.out (.inr ht2)
        have d1 : decide (tol < 0) = false := decide_eq_false ht
        have d2 : decide (4294967296 < tol) = true := decide_eq_true ht2
        go_wp2
        go_returns
        exact ⟨rfl, HX.out⟩
      have d1 : decide (tol < 0) = false := decide_eq_false ht
      have d2 : decide (4294967296 < tol) = false := decide_eq_false ht2
      replace hv3 := Lib.hid (hv3.out (by omega))
      replace hv4 := Lib.hid (hv4.out (by omega))
      clear hv2
      go_wp2_with fail
      go_loopw [5] (fun ii wr => ∃ k : Nat, k ≤ n ∧ ii = .int .i64 ((k : Int) + 1) ∧ Hid (Below W0.heap.size W0 wr) ∧ Hid (∀ i, i < k → gX l i < gX l (i + 1) ∧ gR l i ≤ gR l (i + 1))) (fun ii _ => n + 1 - (intOf ii).toNat)
      case atStart => exact ⟨0, by omega, rfl, hB, Lib.hid fun i hi => by omega⟩
      case round =>
        clear hB t0 t1 HX
        obtain ⟨k, hk, rfl, hB, hA⟩ := hrel
        obtain ⟨⟨t0, t1, _, _, _⟩, HX, hcc⟩ := TT.out wr hB.out
        replace HX := Lib.hid HX
        by_cases hlt : k < n
        · obtain ⟨c0, c1⟩ := hcc k (by omega)
          obtain ⟨c2, c3⟩ := hcc (k + 1) (by omega)
          have l0 : (k : Int) + 1 < (n : Int) + 1 := by omega
          have l1 : (k : Int) + 1 < ((n + 1 : Nat) : Int) := by omega
          have l2 : (k : Int) < ((n + 1 : Nat) : Int) := by omega
          have l3 : IntKind.i64.wrap ((k : Int) + 1 - 1) = (k : Int) := by rw [wrap_in _ ⟨by omega, by omega⟩]; omega
          have l3' : IntKind.i64.wrap (k : Int) = (k : Int) := wrap_in _ ⟨by omega, by omega⟩
          have l4 : ((k : Int) + 1).toNat = k + 1 := by omega
          have l5 : 0 ≤ (k : Int) + 1 := by omega
          have l6 : (k : Int) < (n : Int) + 1 := by omega
          have BQ1 := Lib.hid (fun q => bel_trans hB.out (bel_drewN wr q))
          have BQ2 := Lib.hid (fun q => bel_trans HX.out (bel_drewN wr q))
          clear hcc HX
          by_cases g : gX l k < gX l (k + 1) ∧ gR l k ≤ gR l (k + 1)
          · have hA2 : Hid (∀ i, i < k + 1 → gX l i < gX l (i + 1) ∧ gR l i ≤ gR l (i + 1)) := Lib.hid fun i hi => by
              by_cases e : i = k
              · rw [e]; exact g
              · exact hA.out i (by omega)
            obtain ⟨g1, g2⟩ := g
            clear hA
            generalize gX l k = x at *
            generalize gR l k = r at *
            generalize gX l (k + 1) = y at *
            generalize gR l (k + 1) = s at *
            have d3 : decide (y ≤ x) = false := decide_eq_false (by omega)
            have d4 : decide (s < r) = false := decide_eq_false (by omega)
            go_upto_region 16 with fail
            go_quiet (fail)
            go_wp2
            go_roundw
            case rel => exact ⟨k + 1, by omega, by go_num, Lib.hid (BQ1.out _), hA2⟩
            case measure => simp [intOf]; omega
          · obtain rfl := hv3.out ⟨k, hlt, g⟩
            clear hv3 hv4 hA
            generalize gX l k = x at *
            generalize gR l k = r at *
            generalize gX l (k + 1) = y at *
            generalize gR l (k + 1) = s at *
            by_cases g1 : x < y
            · have d3 : decide (y ≤ x) = false := decide_eq_false (by omega)
              have d4 : decide (s < r) = true := decide_eq_true (by omega)
              go_upto_region 16 with fail
              go_quiet (fail)
              go_wp2
              go_returns
              exact ⟨rfl, BQ2.out _⟩
            · have d3 : decide (y ≤ x) = true := decide_eq_true (by omega)
              go_upto_region 16 with fail
              go_quiet (fail)
              go_wp2
              go_returns
              exact ⟨rfl, BQ2.out _⟩
        · obtain rfl : k = n := by omega
          obtain rfl := hv4.out hA.out
          have l0 : ¬ (k : Int) + 1 < (k : Int) + 1 := by omega
          go_wp2
          go_returns
          exact ⟨rfl, HX.out⟩
theorem rtbChk_any (v : Value) (l : List (Int × Int)) (tol : Int) (w : World) (hv : TbV w v l tol) :
    Calls Tryd.prog 34 #[v] w fun e w' => e = .returned (.int .i64 (tbE l tol)) ∧ Below w.heap.size w w' := by
  obtain ⟨a, cap, rfl, hp⟩ := hv
  obtain ⟨_, hcap⟩ : l.length ≤ cap ∧ cap ≤ 9223372036854775807 := by
    obtain ⟨a', cap', e, h, _⟩ := hp
    simp only [Value.slice.injEq, true_and] at e
    obtain ⟨_, rfl⟩ := e
    exact h
  by_cases h2 : l.length < 2
  · exact rtbChk_len a _ cap tol _ w (.inl ⟨h2, by unfold tbE; rw [if_pos h2]⟩)
  by_cases h3 : 128 < l.length
  · exact rtbChk_len a _ cap tol _ w (.inr ⟨h2, h3, by omega, by unfold tbE; rw [if_neg h2, if_pos h3]⟩)
  obtain ⟨b, off, rfl, hb, hc⟩ := hp.at (by omega)
  obtain ⟨n, hn⟩ : ∃ n, l.length = n + 1 := ⟨l.length - 1, by omega⟩
  have e0 : tbE l tol = if tol < 0 ∨ 4294967296 < tol ∨ l.any mkOut = true then 2 else if risB l (l.length - 1) = false then 5 else 0 := by
    unfold tbE
    rw [if_neg h2, if_neg h3]
    by_cases q : tol < 0 ∨ 4294967296 < tol ∨ l.any mkOut = true
    · rw [if_pos q, if_pos (by simp only [Bool.or_eq_true, decide_eq_true_eq]; rcases q with q | q | q; exact .inl (.inl q); exact .inl (.inr q); exact .inr q)]
    · rw [if_neg q, if_neg (by simp only [Bool.or_eq_true, decide_eq_true_eq]; rintro ((g | g) | g); exact q (.inl g); exact q (.inr (.inl g)); exact q (.inr (.inr g)))]
  have ea : (∀ i, i < n + 1 → mkOut (gX l i, gR l i) = false) → l.any mkOut = false := fun h => by
    cases q : l.any mkOut with
    | false => rfl
    | true =>
      obtain ⟨i, hi, hp⟩ := anyq_at.1 q
      have := h i (by omega)
      unfold gX gR at this
      rw [show l.getD i (0, 0) = ((l.getD i (0, 0)).1, (l.getD i (0, 0)).2) from rfl, this] at hp
      cases hp
  have el : l.length - 1 = n := by omega
  rw [hn]
  refine rtbChk_core b off n cap tol l (tbE l tol) w (by omega) (by omega) hb (Lib.hid hn) (Lib.hid ?_) (Lib.hid ?_) (Lib.hid ?_) (Lib.hid ?_) (Lib.hid fun j hj => hc j (by omega))
  · rintro ⟨i, hi, hp⟩
    rw [e0, if_pos (.inr (.inr (anyq_at.2 ⟨i, by omega, hp⟩)))]
  · intro h ht
    rw [e0, if_pos (by rcases ht with ht | ht; exact .inl ht; exact .inr (.inl ht))]
  · rintro h ht ⟨i, hi, hp⟩
    rw [e0, if_neg (by rw [ea h]; simp; omega), if_pos]
    cases q : risB l (l.length - 1) with
    | false => rfl
    | true => exact absurd ((risB_iff l _).1 q i (by omega)) hp
  · intro h ht hr
    rw [e0, if_neg (by rw [ea h]; simp; omega), if_neg]
    rw [Bool.not_eq_false]
    exact (risB_iff l _).2 fun i hi => hr i (by omega)
end Go.Proofs.YtdjlainhaoaeiaaDoor

namespace Go.Proofs.YtdjlainhaoaeiaaDoor
open Go.RowKit

set_option maxHeartbeats 16000000 in
set_option maxRecDepth 100000 in
theorem rtbAt_core (b off n cap : Nat) (l : List (Int × Int)) (tol x Y : Int) (i : Nat) (w : World) (n0 : 2 ≤ n) (n1 : n ≤ 1000) (hn : n = l.length) (hb : b < w.heap.size)
    (hc : Hid (∀ j, j < n → w.cell? ⟨b, off + j * 2, none⟩ = some (.int .i64 (gX l j)) ∧ w.cell? ⟨b, off + j * 2 + 1, none⟩ = some (.int .i64 (gR l j))))
    (hR : Hid (MR l)) (x0 : Hid (gX l 0 ≤ x)) (hi : Hid (IsT l x i)) (hY : Hid (Y = vlF l i x)) :
    Calls Tryd.prog 36 #[.agg #[.slice (some ⟨b, off, none⟩) n cap, .int .i64 tol], .int .i64 x] w fun e w' => e = .returned (.int .i64 Y) ∧ Below w.heap.size w w' := by
  have HN := Lib.hid hn
  clear hn
  have T0 := Lib.hid (Two.new w (.slice (some ⟨b, off, none⟩) n cap) (.int .i64 tol) 24)
  have X0 := Lib.hid (bel_alloc (w := w) (o := .cells #[.slice (some ⟨b, off, none⟩) n cap, .int .i64 tol] 24) (Below.refl _ _))
  have BS : Hid (w.heap.size < (w.alloc (.cells #[.slice (some ⟨b, off, none⟩) n cap, .int .i64 tol] 24)).heap.size) := Lib.hid (by rw [World.size_alloc]; omega)
  have TT : Hid (∀ W, Below (w.alloc (.cells #[.slice (some ⟨b, off, none⟩) n cap, .int .i64 tol] 24)).heap.size (w.alloc (.cells #[.slice (some ⟨b, off, none⟩) n cap, .int .i64 tol] 24)) W → Two w.heap.size W (.slice (some ⟨b, off, none⟩) n cap) (.int .i64 tol) ∧ Below w.heap.size w W ∧ ∀ j, j < n → W.cell? ⟨b, off + j * 2, none⟩ = some (.int .i64 (gX l j)) ∧ W.cell? ⟨b, off + j * 2 + 1, none⟩ = some (.int .i64 (gR l j))) := Lib.hid fun W hW => ⟨T0.out.below hW, bel_trans X0.out hW, fun j hj => ⟨cell_bel (hc.out j hj).1 (bel_trans X0.out hW), cell_bel (hc.out j hj).2 (bel_trans X0.out hW)⟩⟩
  have B0 : Hid (Below (w.alloc (.cells #[.slice (some ⟨b, off, none⟩) n cap, .int .i64 tol] 24)).heap.size (w.alloc (.cells #[.slice (some ⟨b, off, none⟩) n cap, .int .i64 tol] 24)) (w.alloc (.cells #[.slice (some ⟨b, off, none⟩) n cap, .int .i64 tol] 24))) := Lib.hid (Below.refl _ _)
  clear hc X0 T0
  go_enter Tryd.func36, Tryd.ntmps36
  go_wp2_with fail
  generalize w.alloc (.cells #[.slice (some ⟨b, off, none⟩) n cap, .int .i64 tol] 24) = W0 at *
  go_loopw [5] (fun ii wr => ∃ k : Nat, k + 1 ≤ i ∧ ii = .int .i64 ((k : Int) + 1) ∧ Hid (Below W0.heap.size W0 wr)) (fun ii _ => n - (intOf ii).toNat)
  case atStart => exact ⟨0, hi.out.h1, rfl, B0⟩
  case round =>
    clear B0
    obtain ⟨k, hk, rfl, hB⟩ := hrel
    have hlt : k + 1 < n := by have := hi.out.h2; have := HN.out; omega
    obtain ⟨⟨t0, t1, _, _, _⟩, HX, hcc⟩ := TT.out wr hB.out
    replace HX := Lib.hid HX
    obtain ⟨c0, c1⟩ := hcc k (by omega)
    obtain ⟨c2, c3⟩ := hcc (k + 1) hlt
    clear hcc
    have nb := Lib.hid (Nat.lt_of_lt_of_le BS.out hB.out.size)
    have q1 : w.heap.size ≠ wr.heap.size := by have := nb.out; omega
    have q2 : wr.heap.size ≠ w.heap.size := by have := nb.out; omega
    have q3 : w.heap.size ≠ wr.heap.size + 1 := by have := nb.out; omega
    have q4 : wr.heap.size + 1 ≠ w.heap.size := by have := nb.out; omega
    have l2 : k < n := by omega
    have l3 : (k : Int) < (n : Int) := by omega
    have l5 : (k : Int) + 1 < (n : Int) := by omega
    have wj : IntKind.i64.wrap ((k : Int) + 1 - 1) = (k : Int) := by simp only [IntKind.wrap_i64]; omega
    have wk : IntKind.i64.wrap (k : Int) = (k : Int) := by simp only [IntKind.wrap_i64]; omega
    have l6 : 0 ≤ (k : Int) + 1 := by omega
    have l7 : ((k : Int) + 1).toNat = k + 1 := by omega
    have XB := Lib.hid (fun W (h : Below wr.heap.size wr W) => bel_trans HX.out h)
    have XC := Lib.hid (fun W (h : Below wr.heap.size wr W) => bel_trans hB.out h)
    by_cases hq : k + 1 = i
    · have I := hi.out
      have i0 := I.from x0.out
      have bd := vlF_bd hR.out I.h1 (by have := I.h2; omega) i0 I.h3
      have a := hR.out.asc (i - 1) (by have := I.h2; have := I.h1; omega)
      have b0 := hR.out.bh (i - 1) (by have := I.h2; omega)
      have b1 := hR.out.bh i I.h2
      have v0 := hR.out.bv (i - 1) (by have := I.h2; omega)
      have v1 := hR.out.bv i I.h2
      have u := hR.out.up (i - 1) (by have := I.h2; have := I.h1; omega)
      have i3 := I.h3
      rw [Nat.sub_add_cancel I.h1] at a u
      have eY := hY.out
      unfold vlF at bd eY
      simp only [← hq, Nat.add_sub_cancel] at bd a b0 b1 v0 v1 u i0 i3 eY
      clear I hi hY hq
      generalize gX l k = A at *
      generalize gR l k = Q at *
      generalize gX l (k + 1) = H at *
      generalize gR l (k + 1) = R at *
      obtain ⟨⟨m0, m1⟩, m2, m3⟩ := bd
      have m4 : (R - Q) * (x - A) / (H - A) ≤ R - Q := by omega
      have m5 : 0 ≤ (R - Q) * (x - A) / (H - A) := by omega
      have p1 : IntKind.i64.wrap (R - Q) = R - Q := wrap_in _ ⟨by omega, by omega⟩
      have p2 : IntKind.i64.wrap (x - A) = x - A := wrap_in _ ⟨by omega, by omega⟩
      have p3 : IntKind.i64.wrap ((R - Q) * (x - A)) = (R - Q) * (x - A) := wrap_in _ ⟨by omega, by omega⟩
      have p4 : IntKind.i64.wrap (H - A) = H - A := wrap_in _ ⟨by omega, by omega⟩
      have nz : ¬ H - A = 0 := by omega
      have nz2 : (H - A == 0) = false := by simpa using nz
      have p5 : IntKind.i64.wrap (((R - Q) * (x - A)).tdiv (H - A)) = (R - Q) * (x - A) / (H - A) := by rw [Int.tdiv_eq_ediv_of_nonneg m0]; exact wrap_in _ ⟨by omega, by omega⟩
      have p6 : IntKind.i64.wrap (Q + (R - Q) * (x - A) / (H - A)) = Y := by rw [eY]; exact wrap_in _ ⟨by omega, by omega⟩
      have dl : decide (H < x) = false := decide_eq_false (by omega)
      have a0 : ∀ o, (wr.alloc o).cell? ⟨b, off + k * 2, none⟩ = some (.int .i64 A) := fun o => cell_bel c0 (bel_alloc (Below.refl _ _))
      have a1 : ∀ o, (wr.alloc o).cell? ⟨b, off + k * 2 + 1, none⟩ = some (.int .i64 Q) := fun o => cell_bel c1 (bel_alloc (Below.refl _ _))
      have a2 : ∀ o, (wr.alloc o).cell? ⟨b, off + (k + 1) * 2, none⟩ = some (.int .i64 H) := fun o => cell_bel c2 (bel_alloc (Below.refl _ _))
      have a3 : ∀ o, (wr.alloc o).cell? ⟨b, off + (k + 1) * 2 + 1, none⟩ = some (.int .i64 R) := fun o => cell_bel c3 (bel_alloc (Below.refl _ _))
      have a4 : ∀ o, (wr.alloc o).cell? ⟨w.heap.size, 0, none⟩ = some (.slice (some ⟨b, off, none⟩) n cap) := fun o => cell_bel t0 (bel_alloc (Below.refl _ _))
      have b0' : ∀ o o2, ((wr.alloc o).alloc o2).cell? ⟨b, off + k * 2, none⟩ = some (.int .i64 A) := fun o o2 => cell_bel c0 (bel_alloc (bel_alloc (Below.refl _ _)))
      have b1' : ∀ o o2, ((wr.alloc o).alloc o2).cell? ⟨b, off + k * 2 + 1, none⟩ = some (.int .i64 Q) := fun o o2 => cell_bel c1 (bel_alloc (bel_alloc (Below.refl _ _)))
      have b2' : ∀ o o2, ((wr.alloc o).alloc o2).cell? ⟨b, off + (k + 1) * 2, none⟩ = some (.int .i64 H) := fun o o2 => cell_bel c2 (bel_alloc (bel_alloc (Below.refl _ _)))
      have b3' : ∀ o o2, ((wr.alloc o).alloc o2).cell? ⟨b, off + (k + 1) * 2 + 1, none⟩ = some (.int .i64 R) := fun o o2 => cell_bel c3 (bel_alloc (bel_alloc (Below.refl _ _)))
      have b4' : ∀ o o2, ((wr.alloc o).alloc o2).cell? ⟨w.heap.size, 0, none⟩ = some (.slice (some ⟨b, off, none⟩) n cap) := fun o o2 => cell_bel t0 (bel_alloc (bel_alloc (Below.refl _ _)))
      clear eY m0 m1 m2 m3 m4 m5 hB
      go_wp2_with fail
      go_region
      all_goals go_wp2_with fail
      all_goals go_quiet (fail)
      all_goals go_wp2
      all_goals go_returns
      all_goals exact ⟨rfl, XB.out _ (bel_alloc (bel_alloc (bel_trans (bel_drew _) (bel_drewN _ _))))⟩
    · have h4 := hi.out.h4 (k + 1) (by omega) (by omega)
      have dl : decide (gX l (k + 1) < x) = true := decide_eq_true h4
      have XD := Lib.hid (XC.out wr (Below.refl _ _))
      generalize gX l k = A at *
      generalize gR l k = Q at *
      generalize gX l (k + 1) = H at *
      generalize gR l (k + 1) = R at *
      go_wp2
      go_roundw
      case rel => exact ⟨k + 1, by omega, by go_num, XD⟩
      case measure => simp [intOf]; omega
theorem rtbAt_any (v : Value) (l : List (Int × Int)) (tol x : Int) (w : World) (hv : TbV w v l tol) (h : MR l) (x0 : gX l 0 ≤ x) (x1 : x ≤ gX l (l.length - 1)) :
    Calls Tryd.prog 36 #[v, .int .i64 x] w fun e w' => e = .returned (.int .i64 (vl l x)) ∧ Below w.heap.size w w' := by
  obtain ⟨a, cap, rfl, hp⟩ := hv
  have n0 := h.n0
  have n1 := h.n1
  obtain ⟨b, off, rfl, hb, hc⟩ := hp.at (by omega)
  exact rtbAt_core b off _ cap l tol x _ (tpc l x) w (by omega) (by omega) rfl hb (Lib.hid hc) (Lib.hid h) (Lib.hid x0) (Lib.hid (tpc_is h x1)) (Lib.hid rfl)
set_option maxHeartbeats 16000000 in
set_option maxRecDepth 100000 in
theorem rtbRd_core (b off m cap : Nat) (tol x X0 X1 Y E : Int) (w : World) (m1 : m ≤ 1000) (hb : b < w.heap.size)
    (c0 : w.cell? ⟨b, off, none⟩ = some (.int .i64 X0)) (c1 : w.cell? ⟨b, off + m * 2, none⟩ = some (.int .i64 X1))
    (hE : (x < X0 ∧ Y = 0 ∧ E = 2) ∨ (¬ x < X0 ∧ X1 < x ∧ Y = 0 ∧ E = 2) ∨ (¬ x < X0 ∧ ¬ X1 < x ∧ E = 0))
    (H1 : Hid (∀ W, Below w.heap.size w W → Calls Tryd.prog 34 #[.agg #[.slice (some ⟨b, off, none⟩) (m + 1) cap, .int .i64 tol]] W fun e w' => e = .returned (.int .i64 0) ∧ Below W.heap.size W w'))
    (H2 : Hid (¬ x < X0 → ¬ X1 < x → ∀ W, Below w.heap.size w W → Calls Tryd.prog 36 #[.agg #[.slice (some ⟨b, off, none⟩) (m + 1) cap, .int .i64 tol], .int .i64 x] W fun e w' => e = .returned (.int .i64 Y) ∧ Below W.heap.size W w')) :
    Calls Tryd.prog 41 #[.agg #[.slice (some ⟨b, off, none⟩) (m + 1) cap, .int .i64 tol], .int .i64 x] w fun e w' => e = .returned (.tuple #[.int .i64 Y, .int .i64 E]) ∧ Below w.heap.size w w' := by
  have T0 := Lib.hid (Two.new w (.slice (some ⟨b, off, none⟩) (m + 1) cap) (.int .i64 tol) 24)
  have wk : IntKind.i64.wrap (((m + 1 : Nat) : Int) - 1) = (m : Int) := by rw [wrap_in _ ⟨by omega, by omega⟩]; omega
  have wk1 : IntKind.i64.wrap ((m : Int) + 1 - 1) = (m : Int) := by rw [wrap_in _ ⟨by omega, by omega⟩]; omega
  have wk2 : (m : Int) < ((m + 1 : Nat) : Int) := by omega
  have wk3 : (m : Int) < (m : Int) + 1 := by omega
  have wk4 : (0 : Int) < (m : Int) + 1 := by omega
  go_enter Tryd.func41, Tryd.ntmps41
  go_wp2_with fail
  refine (H1.out _ (bel_alloc (Below.refl _ _))).mono ?_
  rintro e w1 ⟨rfl, gg⟩
  replace T0 := Lib.hid (T0.out.below gg)
  have X1' := Lib.hid (bel_alloc gg); clear gg
  obtain ⟨t0, t1, _, _, _⟩ := T0.out
  have d0 := cell_bel c0 X1'.out
  have d1 := cell_bel c1 X1'.out
  rcases hE with ⟨h, rfl, rfl⟩ | ⟨h, h2, rfl, rfl⟩ | ⟨h, h2, rfl⟩
  · have e1 : decide (x < X0) = true := decide_eq_true h
    go_wp2
    go_returns
    exact ⟨rfl, X1'.out⟩
  · have e1 : decide (x < X0) = false := decide_eq_false (by omega)
    have e2 : decide (X1 < x) = true := decide_eq_true h2
    go_wp2
    go_returns
    exact ⟨rfl, X1'.out⟩
  · have e1 : decide (x < X0) = false := decide_eq_false (by omega)
    have e2 : decide (X1 < x) = false := decide_eq_false (by omega)
    replace H2 := Lib.hid (H2.out (by omega) (by omega))
    go_wp2_with fail
    refine (H2.out _ X1'.out).mono ?_
    rintro e w2 ⟨rfl, gg⟩
    have X2 := Lib.hid (bel_trans X1'.out gg); clear gg
    go_wp2
    go_returns
    exact ⟨rfl, X2.out⟩
theorem rtbRd_bad (a : Option Addr) (n cap : Nat) (tol x E : Int) (w : World) (e2 : (E != 0) = true)
    (H1 : Hid (∀ W, Below w.heap.size w W → Calls Tryd.prog 34 #[.agg #[.slice a n cap, .int .i64 tol]] W fun e w' => e = .returned (.int .i64 E) ∧ Below W.heap.size W w')) :
    Calls Tryd.prog 41 #[.agg #[.slice a n cap, .int .i64 tol], .int .i64 x] w fun e w' => e = .returned (.tuple #[.int .i64 0, .int .i64 1]) ∧ Below w.heap.size w w' := by
  go_enter Tryd.func41, Tryd.ntmps41
  go_wp2_with fail
  refine (H1.out _ (bel_alloc (Below.refl _ _))).mono ?_
  rintro e w1 ⟨rfl, gg⟩
  have X1' := Lib.hid (bel_alloc gg); clear gg
  go_wp2
  go_returns
  exact ⟨rfl, X1'.out⟩
theorem rtbRd_any (v : Value) (l : List (Int × Int)) (tol x : Int) (w : World) (hv : TbV w v l tol) :
    Calls Tryd.prog 41 #[v, .int .i64 x] w fun e w' => e = .returned (.tuple #[.int .i64 (rdQ l tol x), .int .i64 (rdE l tol x)]) ∧ Below w.heap.size w w' := by
  have H1 : Hid (∀ W, Below w.heap.size w W → _) := Lib.hid fun W hW => rtbChk_any v l tol W (hv.below hW)
  have hv' := hv
  obtain ⟨a, cap, rfl, hp⟩ := hv
  by_cases h : tbE l tol = 0
  · rw [h] at H1
    obtain ⟨hR, _⟩ := tbE_iff.1 h
    have n0 := hR.n0
    have n1 := hR.n1
    have eE : rdE l tol x = if x < gX l 0 ∨ gX l (l.length - 1) < x then 2 else 0 := by unfold rdE; rw [if_neg (by omega)]
    obtain ⟨b, off, rfl, hb, hc⟩ := hp.at (by omega)
    have H2 : Hid (¬ x < gX l 0 → ¬ gX l (l.length - 1) < x → ∀ W, Below w.heap.size w W → _) := Lib.hid fun g1 g2 W hW => rtbAt_any _ l tol x W (hv'.below hW) hR (by omega) (by omega)
    have eQ : rdQ l tol x = if rdE l tol x = 0 then vl l x else 0 := rfl
    obtain ⟨m, hm⟩ : ∃ m, l.length = m + 1 := ⟨l.length - 1, by omega⟩
    have c0 := (hc 0 (by omega)).1
    have c1 := (hc m (by omega)).1
    rw [show l.length - 1 = m by omega] at eE H2
    rw [hm] at H1 H2 ⊢
    rw [show off + 0 * 2 = off by omega] at c0
    refine rtbRd_core b off m cap tol x (gX l 0) (gX l m) _ _ w (by omega) hb c0 c1 ?_ H1 (Lib.hid fun g1 g2 W hW => ?_)
    · by_cases g1 : x < gX l 0
      · left; rw [if_pos (.inl g1)] at eE; exact ⟨g1, by rw [eQ, eE]; rfl, eE⟩
      · right
        by_cases g2 : gX l m < x
        · left; rw [if_pos (.inr g2)] at eE; exact ⟨g1, g2, by rw [eQ, eE]; rfl, eE⟩
        · right; rw [if_neg (by omega)] at eE; exact ⟨g1, g2, eE⟩
    · rw [if_neg (by omega)] at eE
      rw [eQ, if_pos eE]
      exact H2.out g1 g2 W hW
  · have e : rdE l tol x = 1 := by unfold rdE; rw [if_pos (by omega)]
    have e2 : rdQ l tol x = 0 := by unfold rdQ; rw [if_neg (by omega)]
    rw [e, e2]
    exact rtbRd_bad a _ cap tol x _ w (by simpa using h) H1
end Go.Proofs.YtdjlainhaoaeiaaDoor

namespace Go.Proofs.YtdjlainhaoaeiaaDoor
open Go.RowKit

theorem rroChk_len (a : Option Addr) (n cap : Nat) (V : Int) (w : World) (h : (n = 0 ∧ V = 9) ∨ (n ≠ 0 ∧ 128 < n ∧ n ≤ 9223372036854775807 ∧ V = 8)) :
    Calls Tryd.prog 22 #[.slice a n cap] w fun e w' => e = .returned (.int .i64 V) ∧ Below w.heap.size w w' := by
  have X0 := Lib.hid (Below.refl w.heap.size w)
  rcases h with ⟨rfl, rfl⟩ | ⟨h, h2, h3, rfl⟩
  · go_enter Tryd.func22, Tryd.ntmps22
    go_wp2
    go_returns
    exact ⟨rfl, X0.out⟩
  · have e0 : ((n : Int) == 0) = false := by simp; omega
    have e1 : decide (128 < (n : Int)) = true := decide_eq_true (by omega)
    go_enter Tryd.func22, Tryd.ntmps22
    go_wp2
    go_returns
    exact ⟨rfl, X0.out⟩
set_option maxRecDepth 100000 in
set_option maxHeartbeats 16000000 in
theorem rroChk_core (b off n cap : Nat) (l : List (Int × Int)) (V : Int) (w : World) (n1 : n + 1 ≤ 128) (hb : b < w.heap.size) (hn : Hid (l.length = n + 1))
    (hv1 : Hid ((∃ i, i < n + 1 ∧ rkOut (gX l i, gR l i) = true) → V = 2))
    (hv3 : Hid ((∀ i, i < n + 1 → rkOut (gX l i, gR l i) = false) → (∃ i, i < n ∧ ¬ (gX l i < gX l (i + 1) ∧ gR l i < gR l (i + 1))) → V = 5))
    (hv4 : Hid ((∀ i, i < n + 1 → rkOut (gX l i, gR l i) = false) → (∀ i, i < n → gX l i < gX l (i + 1) ∧ gR l i < gR l (i + 1)) → V = 0))
    (hc : Hid (∀ j, j < n + 1 → w.cell? ⟨b, off + j * 2, none⟩ = some (.int .i64 (gX l j)) ∧ w.cell? ⟨b, off + j * 2 + 1, none⟩ = some (.int .i64 (gR l j)))) :
    Calls Tryd.prog 22 #[.slice (some ⟨b, off, none⟩) (n + 1) cap] w fun e w' => e = .returned (.int .i64 V) ∧ Below w.heap.size w w' := by
  have TT : Hid (∀ W, Below w.heap.size w W → ∀ j, j < n + 1 → W.cell? ⟨b, off + j * 2, none⟩ = some (.int .i64 (gX l j)) ∧ W.cell? ⟨b, off + j * 2 + 1, none⟩ = some (.int .i64 (gR l j))) := Lib.hid fun W hW j hj => ⟨cell_bel (hc.out j hj).1 hW, cell_bel (hc.out j hj).2 hW⟩
  have B0 : Hid (Below w.heap.size w w) := Lib.hid (Below.refl _ _)
  have g2 : ((n : Int) + 1 == 0) = false := by simp; omega
  have g3 : decide (128 < (n : Int) + 1) = false := decide_eq_false (by omega)
  clear hc hn
  go_enter Tryd.func22, Tryd.ntmps22
  go_wp2_with fail
  go_loopw [3] (fun ii wr => ∃ k : Nat, k ≤ n + 1 ∧ ii = .int .i64 (k : Int) ∧ Hid (Below w.heap.size w wr) ∧ Hid (∀ i, i < k → rkOut (gX l i, gR l i) = false)) (fun ii _ => n + 1 - (intOf ii).toNat)
  case atStart => exact ⟨0, by omega, rfl, B0, Lib.hid fun i hi => by omega⟩
  case round =>
    clear B0
    obtain ⟨k, hk, rfl, hB, hA⟩ := hrel
    have hcc := TT.out wr hB.out
    by_cases hlt : k < n + 1
    · obtain ⟨c0, c1⟩ := hcc k hlt
      have l0 : (k : Int) < ((n + 1 : Nat) : Int) := by omega
      have l1 : (k : Int) < (n : Int) + 1 := by omega
      have hE : Hid (rkOut (gX l k, gR l k) = (decide (gX l k < 0) || decide (200000 < gX l k) || decide (gR l k < 1) || decide (4294967296 < gR l k))) := Lib.hid rfl
      clear hcc
      cases hq : rkOut (gX l k, gR l k) with
      | true =>
        obtain rfl := hv1.out ⟨k, hlt, hq⟩
        rw [hq] at hE
        clear hv1 hv3 hv4 hA hq
        generalize gX l k = x at *
        generalize gR l k = r at *
        have hD : (decide (x < 0) = true) ∨ (decide (x < 0) = false ∧ decide (200000 < x) = true) ∨ (decide (x < 0) = false ∧ decide (200000 < x) = false ∧ decide (r < 1) = true) ∨ (decide (x < 0) = false ∧ decide (200000 < x) = false ∧ decide (r < 1) = false ∧ decide (4294967296 < r) = true) := by
          have := hE.out
          revert this
          cases decide (x < 0) <;> cases decide (200000 < x) <;> cases decide (r < 1) <;> cases decide (4294967296 < r) <;> simp
        clear hE
        rcases hD with d1 | ⟨d1, d2⟩ | ⟨d1, d2, d3⟩ | ⟨d1, d2, d3, d4⟩
        all_goals
          go_wp2
          go_returns
          exact ⟨rfl, hB.out⟩
      | false =>
        have hA2 : Hid (∀ i, i < k + 1 → rkOut (gX l i, gR l i) = false) := Lib.hid fun i hi => by
          by_cases e : i = k
          · rw [e]; exact hq
          · exact hA.out i (by omega)
        rw [hq] at hE
        clear hq hA
        generalize gX l k = x at *
        generalize gR l k = r at *
        have hD : decide (x < 0) = false ∧ decide (200000 < x) = false ∧ decide (r < 1) = false ∧ decide (4294967296 < r) = false := by
          have := hE.out
          revert this
          cases decide (x < 0) <;> cases decide (200000 < x) <;> cases decide (r < 1) <;> cases decide (4294967296 < r) <;> simp
        obtain ⟨d1, d2, d3, d4⟩ := hD
        clear hE
        go_wp2
        go_roundw
        case rel => exact ⟨k + 1, by omega, by go_num, hB, hA2⟩
        case measure => simp [intOf]; omega
    · obtain rfl : k = n + 1 := by omega
      replace hv3 := Lib.hid (hv3.out hA.out)
      replace hv4 := Lib.hid (hv4.out hA.out)
      clear hv1 hA hlt hk hcc
      go_wp2_with fail
      go_loopw [4] (fun ii wr => ∃ k : Nat, k ≤ n ∧ ii = .int .i64 ((k : Int) + 1) ∧ Hid (Below w.heap.size w wr) ∧ Hid (∀ i, i < k → gX l i < gX l (i + 1) ∧ gR l i < gR l (i + 1))) (fun ii _ => n + 1 - (intOf ii).toNat)
      case atStart => exact ⟨0, by omega, rfl, hB, Lib.hid fun i hi => by omega⟩
      case round =>
        clear hB
        obtain ⟨k, hk, rfl, hB, hA⟩ := hrel
        have hcc := TT.out wr hB.out
        by_cases hlt : k < n
        · obtain ⟨c0, c1⟩ := hcc k (by omega)
          obtain ⟨c2, c3⟩ := hcc (k + 1) (by omega)
          have l0 : (k : Int) + 1 < (n : Int) + 1 := by omega
          have l1 : (k : Int) + 1 < ((n + 1 : Nat) : Int) := by omega
          have l2 : (k : Int) < ((n + 1 : Nat) : Int) := by omega
          have l3 : IntKind.i64.wrap ((k : Int) + 1 - 1) = (k : Int) := by rw [wrap_in _ ⟨by omega, by omega⟩]; omega
          have l3' : IntKind.i64.wrap (k : Int) = (k : Int) := wrap_in _ ⟨by omega, by omega⟩
          have l4 : ((k : Int) + 1).toNat = k + 1 := by omega
          have l5 : 0 ≤ (k : Int) + 1 := by omega
          have l6 : (k : Int) < (n : Int) + 1 := by omega
          have BQ1 := Lib.hid (fun q => bel_trans hB.out (bel_drewN wr q))
          clear hcc
          by_cases g : gX l k < gX l (k + 1) ∧ gR l k < gR l (k + 1)
          · have hA2 : Hid (∀ i, i < k + 1 → gX l i < gX l (i + 1) ∧ gR l i < gR l (i + 1)) := Lib.hid fun i hi => by
              by_cases e : i = k
              · rw [e]; exact g
              · exact hA.out i (by omega)
            obtain ⟨g1, g2⟩ := g
            clear hA
            generalize gX l k = x at *
            generalize gR l k = r at *
            generalize gX l (k + 1) = y at *
            generalize gR l (k + 1) = s at *
            have d3 : decide (y ≤ x) = false := decide_eq_false (by omega)
            have d4 : decide (s ≤ r) = false := decide_eq_false (by omega)
            go_upto_region 13 with fail
            go_quiet (fail)
            go_wp2
            go_roundw
            case rel => exact ⟨k + 1, by omega, by go_num, Lib.hid (BQ1.out _), hA2⟩
            case measure => simp [intOf]; omega
          · obtain rfl := hv3.out ⟨k, hlt, g⟩
            clear hv3 hv4 hA
            generalize gX l k = x at *
            generalize gR l k = r at *
            generalize gX l (k + 1) = y at *
            generalize gR l (k + 1) = s at *
            by_cases g1 : x < y
            · have d3 : decide (y ≤ x) = false := decide_eq_false (by omega)
              have d4 : decide (s ≤ r) = true := decide_eq_true (by omega)
              go_upto_region 13 with fail
              go_quiet (fail)
              go_wp2
              go_returns
              exact ⟨rfl, BQ1.out _⟩
            · have d3 : decide (y ≤ x) = true := decide_eq_true (by omega)
              go_upto_region 13 with fail
              go_quiet (fail)
              go_wp2
              go_returns
              exact ⟨rfl, BQ1.out _⟩
        · obtain rfl : k = n := by omega
          obtain rfl := hv4.out hA.out
          have l0 : ¬ (k : Int) + 1 < (k : Int) + 1 := by omega
          go_wp2
          go_returns
          exact ⟨rfl, hB.out⟩
theorem rroChk_any (v : Value) (l : List (Int × Int)) (w : World) (hp : Pts w v l) :
    Calls Tryd.prog 22 #[v] w fun e w' => e = .returned (.int .i64 (roE l)) ∧ Below w.heap.size w w' := by
  have hp' := hp
  obtain ⟨a, cap, rfl, ⟨hcap1, hcap⟩, _⟩ := hp'
  by_cases h2 : l.length = 0
  · exact rroChk_len a _ cap _ w (.inl ⟨h2, by unfold roE; rw [if_pos h2]⟩)
  by_cases h3 : 128 < l.length
  · exact rroChk_len a _ cap _ w (.inr ⟨h2, h3, by omega, by unfold roE; rw [if_neg h2, if_pos h3]⟩)
  obtain ⟨b, off, rfl, hb, hc⟩ := hp.at (by omega)
  obtain ⟨n, hn⟩ : ∃ n, l.length = n + 1 := ⟨l.length - 1, by omega⟩
  have e0 : roE l = if l.any rkOut = true then 2 else if rrB l (l.length - 1) = false then 5 else 0 := by unfold roE; rw [if_neg h2, if_neg h3]
  have ea : (∀ i, i < n + 1 → rkOut (gX l i, gR l i) = false) → l.any rkOut = false := fun h => by
    cases q : l.any rkOut with
    | false => rfl
    | true =>
      obtain ⟨i, hi, hp⟩ := anyq_at.1 q
      have := h i (by omega)
      unfold gX gR at this
      rw [show l.getD i (0, 0) = ((l.getD i (0, 0)).1, (l.getD i (0, 0)).2) from rfl, this] at hp
      cases hp
  have el : l.length - 1 = n := by omega
  rw [hn]
  refine rroChk_core b off n cap l (roE l) w (by omega) hb (Lib.hid hn) (Lib.hid ?_) (Lib.hid ?_) (Lib.hid ?_) (Lib.hid fun j hj => hc j (by omega))
  · rintro ⟨i, hi, hp⟩
    rw [e0, if_pos (anyq_at.2 ⟨i, by omega, hp⟩)]
  · rintro h ⟨i, hi, hp⟩
    rw [e0, if_neg (by rw [ea h]; simp), if_pos]
    cases q : rrB l (l.length - 1) with
    | false => rfl
    | true => exact absurd ((rrB_iff l _).1 q i (by omega)) hp
  · intro h hr
    rw [e0, if_neg (by rw [ea h]; simp), if_neg]
    rw [Bool.not_eq_false]
    exact (rrB_iff l _).2 fun i hi => hr i (by omega)
end Go.Proofs.YtdjlainhaoaeiaaDoor

namespace Go.Proofs.YtdjlainhaoaeiaaDoor
open Go.RowKit

set_option maxHeartbeats 8000000 in
theorem rrg_bad (v : Value) (x E : Int) (w : World) (e2 : (E != 0) = true)
    (H1 : Hid (∀ W, Below w.heap.size w W → Calls Tryd.prog 22 #[v] W fun e w' => e = .returned (.int .i64 E) ∧ Below W.heap.size W w')) :
    Calls Tryd.prog 18 #[v, .int .i64 x] w fun e w' => e = .returned (.tuple #[.agg #[.int .i64 0, .int .i64 0], .int .i64 1]) ∧ Below w.heap.size w w' := by
  have X0 : Hid (Below w.heap.size w (w.alloc (.cells #[.int .i64 0, .int .i64 0] 34))) := Lib.hid (bel_alloc (Below.refl _ _))
  have T0 := Lib.hid (Two.new w (.int .i64 0) (.int .i64 0) 34)
  go_enter Tryd.func18, Tryd.ntmps18
  go_wp2_with fail
  refine (H1.out _ X0.out).mono ?_
  rintro e w1 ⟨rfl, gg⟩
  replace T0 := Lib.hid (T0.out.below gg)
  replace X0 := Lib.hid (bel_trans X0.out gg); clear gg
  obtain ⟨z0, z1, zf0, zf1, _⟩ := T0.out
  go_wp2
  obtain ⟨p0, p1⟩ := two_read w1 w.heap.size (.int .i64 0) (.int .i64 0) z0 z1
  refine bodyPost_ret (v := .tuple #[.agg #[.int .i64 0, .int .i64 0], .int .i64 1]) (by simp [results, Tryd.results18, go_sem, p0, p1]) rfl ?_
  exact ⟨rfl, (X0.out.setCell (Nat.le_refl _) _).setCell (Nat.le_refl _) _⟩
/-- what stands in Reading -/
def RrI (w : World) (p : Nat) (x1 v1 : Int) (W : World) : Prop := Two w.heap.size W (.int .i64 0) (.int .i64 0) ∧ Below w.heap.size w W ∧ Two p W (.int .i64 x1) (.int .i64 v1)
theorem RrI.below {w : World} {p : Nat} {x1 v1 : Int} {W W' : World} (h : RrI w p x1 v1 W) (hb : Below W.heap.size W W') : RrI w p x1 v1 W' := ⟨h.1.below hb, bel_trans h.2.1 hb, h.2.2.below hb⟩
theorem RrI.put {w : World} {p : Nat} {x1 v1 : Int} {W : World} (h : RrI w p x1 v1 W) (a b : Value) :
    Two w.heap.size ((W.setCell ⟨w.heap.size, 0, none⟩ a).setCell ⟨w.heap.size, 1, none⟩ b) a b ∧ Below w.heap.size w ((W.setCell ⟨w.heap.size, 0, none⟩ a).setCell ⟨w.heap.size, 1, none⟩ b) :=
  ⟨(h.1.set0 a).set1 b, (h.2.1.setCell (p := ⟨w.heap.size, 0, none⟩) (Nat.le_refl _) _).setCell (p := ⟨w.heap.size, 1, none⟩) (Nat.le_refl _) _⟩
set_option maxHeartbeats 16000000 in
set_option maxRecDepth 100000 in
theorem rrg_core (b off m cap k : Nat) (l : List (Int × Int)) (x x1 v1 vk A B V : Int) (w : World) (m1 : m ≤ 1000) (hb : b < w.heap.size) (hk : k ≤ m) (bv : 1 ≤ vk ∧ vk ≤ 4294967296)
    (hx : Hid (gX l m = x1 ∧ gR l m = v1 ∧ gR l k = vk)) (hc : Hid (∀ j, j < m + 1 → w.cell? ⟨b, off + j * 2, none⟩ = some (.int .i64 (gX l j)) ∧ w.cell? ⟨b, off + j * 2 + 1, none⟩ = some (.int .i64 (gR l j))))
    (hV : (x < 0 ∧ V = 2 ∧ A = 0 ∧ B = 0) ∨ (¬ x < 0 ∧ x1 < x ∧ V = 2 ∧ A = 0 ∧ B = 0) ∨ (¬ x < 0 ∧ x = x1 ∧ V = 0 ∧ A = v1 ∧ B = v1) ∨ (¬ x < 0 ∧ x < x1 ∧ V = 0 ∧ Hid (A = if k = 0 then 0 else gR l (k - 1)) ∧ B = vk - 1))
    (hq : Hid (¬ x < 0 → x < x1 → (∀ j, j < k → gX l j ≤ x) ∧ x < gX l k))
    (H1 : Hid (∀ W, Below w.heap.size w W → Calls Tryd.prog 22 #[.slice (some ⟨b, off, none⟩) (m + 1) cap] W fun e w' => e = .returned (.int .i64 0) ∧ Below W.heap.size W w')) :
    Calls Tryd.prog 18 #[.slice (some ⟨b, off, none⟩) (m + 1) cap, .int .i64 x] w fun e w' => e = .returned (.tuple #[.agg #[.int .i64 A, .int .i64 B], .int .i64 V]) ∧ Below w.heap.size w w' := by
  have X0 : Hid (Below w.heap.size w (w.alloc (.cells #[.int .i64 0, .int .i64 0] 34))) := Lib.hid (bel_alloc (Below.refl _ _))
  have T0 := Lib.hid (Two.new w (.int .i64 0) (.int .i64 0) 34)
  have wk : IntKind.i64.wrap (((m + 1 : Nat) : Int) - 1) = (m : Int) := by rw [wrap_in _ ⟨by omega, by omega⟩]; omega
  have wk1 : IntKind.i64.wrap ((m : Int) + 1 - 1) = (m : Int) := by rw [wrap_in _ ⟨by omega, by omega⟩]; omega
  have wk2 : (m : Int) < ((m + 1 : Nat) : Int) := by omega
  have wk3 : (m : Int) < (m : Int) + 1 := by omega
  have wk4 : IntKind.i64.wrap (m : Int) = (m : Int) := wrap_in _ ⟨by omega, by omega⟩
  have CC : Hid (∀ W, Below w.heap.size w W → ∀ j, j < m + 1 → W.cell? ⟨b, off + j * 2, none⟩ = some (.int .i64 (gX l j)) ∧ W.cell? ⟨b, off + j * 2 + 1, none⟩ = some (.int .i64 (gR l j))) := Lib.hid fun W hW j hj => ⟨cell_bel (hc.out j hj).1 hW, cell_bel (hc.out j hj).2 hW⟩
  clear hc
  go_enter Tryd.func18, Tryd.ntmps18
  go_wp2_with fail
  refine (H1.out _ X0.out).mono ?_
  rintro e w1 ⟨rfl, gg⟩
  replace T0 := Lib.hid (T0.out.below gg)
  replace X0 := Lib.hid (bel_trans X0.out gg); clear gg
  obtain ⟨d0, d1⟩ := CC.out w1 X0.out m (by omega)
  rw [hx.out.1] at d0
  rw [hx.out.2.1] at d1
  have BS := T0.out.2.2.2.2
  have ne1 : w.heap.size ≠ w1.heap.size := by omega
  have ne2 : w1.heap.size ≠ w.heap.size := by omega
  have S1 : Hid (RrI w w1.heap.size x1 v1 (w1.alloc (.cells #[.int .i64 x1, .int .i64 v1] 39))) := Lib.hid ⟨T0.out.alloc _, bel_trans X0.out (bel_alloc (Below.refl _ _)), Two.new _ _ _ _⟩
  clear T0 X0 BS
  obtain ⟨⟨z0, z1, zf0, zf1, _⟩, _, n0, n1, _, _, _⟩ := S1.out
  rcases hV with ⟨h, rfl, rfl, rfl⟩ | ⟨h, h2, rfl, rfl, rfl⟩ | ⟨h, h2, rfl, hA, hB⟩ | ⟨h, h2, rfl, hA, rfl⟩
  · have g1 : decide (x < 0) = true := decide_eq_true h
    go_wp2
    obtain ⟨⟨p0, p1, _, _, _⟩, B⟩ := S1.out.put (.int .i64 0) (.int .i64 0)
    refine bodyPost_ret (v := .tuple #[.agg #[.int .i64 0, .int .i64 0], .int .i64 2]) (by simp [results, Tryd.results18, go_sem, p0, p1]) rfl ?_
    exact ⟨rfl, B⟩
  · have g1 : decide (x < 0) = false := decide_eq_false (by omega)
    have g2 : decide (x1 < x) = true := decide_eq_true h2
    go_wp2
    obtain ⟨⟨p0, p1, _, _, _⟩, B⟩ := S1.out.put (.int .i64 0) (.int .i64 0)
    refine bodyPost_ret (v := .tuple #[.agg #[.int .i64 0, .int .i64 0], .int .i64 2]) (by simp [results, Tryd.results18, go_sem, p0, p1]) rfl ?_
    exact ⟨rfl, B⟩
  · have g1 : decide (x < 0) = false := decide_eq_false (by omega)
    subst h2
    have g2 : decide (x < x) = false := decide_eq_false (by omega)
    have g3 : (x == x) = true := by simp
    go_wp2
    obtain ⟨⟨p0, p1, _, _, _⟩, BB⟩ := S1.out.put (.int .i64 v1) (.int .i64 v1)
    refine bodyPost_ret (v := .tuple #[.agg #[.int .i64 v1, .int .i64 v1], .int .i64 0]) (by simp [results, Tryd.results18, go_sem, p0, p1]) rfl ?_
    exact ⟨by rw [hA, hB], BB⟩
  · have g1 : decide (x < 0) = false := decide_eq_false (by omega)
    have g2 : decide (x1 < x) = false := decide_eq_false (by omega)
    have g3 : (x == x1) = false := by simp; omega
    have wb : IntKind.i64.wrap (vk - 1) = vk - 1 := wrap_in _ ⟨by omega, by omega⟩
    replace hq := Lib.hid (hq.out (by omega) h2)
    clear h h2
    go_wp2_with fail
    go_loopw [7, 8] (fun ii lo wr => ∃ j : Nat, j ≤ k ∧ ii = .int .i64 (j : Int) ∧ lo = .int .i64 (if j = 0 then 0 else gR l (j - 1)) ∧ Hid (RrI w w1.heap.size x1 v1 wr)) (fun ii _ _ => k - (intOf ii).toNat)
    case atStart => exact ⟨0, by omega, rfl, rfl, S1⟩
    case round =>
      clear z0 z1 zf0 zf1 n0 n1 S1 d0 d1
      obtain ⟨j, hj, rfl, rfl, S1⟩ := hrel
      obtain ⟨c0, c1⟩ := CC.out wr S1.out.2.1 j (by omega)
      have l1 : (j : Int) < (m : Int) + 1 := by omega
      have l2 : (j : Int) < ((m + 1 : Nat) : Int) := by omega
      by_cases hlt : j < k
      · have dl : decide (gX l j ≤ x) = true := decide_eq_true (hq.out.1 j hlt)
        have en : Hid (gR l j = if j + 1 = 0 then 0 else gR l (j + 1 - 1)) := Lib.hid (by rw [if_neg (by omega), Nat.add_sub_cancel])
        generalize (if j = 0 then 0 else gR l (j - 1)) = lo at *
        generalize gX l j = y at *
        generalize gR l j = r at *
        go_wp2
        go_roundw
        case rel => exact ⟨j + 1, by omega, by go_num, by rw [en.out], S1⟩
        case measure => simp [intOf]; omega
      · obtain rfl : j = k := by omega
        have dl : decide (gX l j ≤ x) = false := decide_eq_false (by have := hq.out.2; omega)
        rw [hx.out.2.2] at c1
        rw [← hA.out]
        obtain ⟨⟨z0, z1, zf0, zf1, _⟩, _, n0, n1, _, _, _⟩ := S1.out
        clear hA hq
        generalize gX l j = y at *
        go_wp2
        obtain ⟨⟨p0, p1, _, _, _⟩, B⟩ := S1.out.put (.int .i64 A) (.int .i64 (vk - 1))
        refine bodyPost_ret (v := .tuple #[.agg #[.int .i64 A, .int .i64 (vk - 1)], .int .i64 0]) (by simp [results, Tryd.results18, go_sem, p0, p1]) rfl ?_
        exact ⟨rfl, B⟩
theorem rrg_any (v : Value) (l : List (Int × Int)) (x : Int) (w : World) (hp : Pts w v l) :
    Calls Tryd.prog 18 #[v, .int .i64 x] w fun e w' => e = .returned (.tuple #[.agg #[.int .i64 (rgL l x), .int .i64 (rgH l x)], .int .i64 (rgE l x)]) ∧ Below w.heap.size w w' := by
  have H1 : Hid (∀ W, Below w.heap.size w W → _) := Lib.hid fun W hW => rroChk_any v l W (hp.below hW)
  by_cases h : roE l = 0
  · rw [h] at H1
    have hR := roE_iff.1 h
    have n0 := hR.n0
    have n1 := hR.n1
    obtain ⟨m, hm⟩ : ∃ m, l.length = m + 1 := ⟨l.length - 1, by omega⟩
    have el : l.length - 1 = m := by omega
    have hE : rgE l x = if x < 0 ∨ gX l m < x then 2 else 0 := by unfold rgE; rw [if_neg (by simpa using h), el]
    have sp := fst_spec (fun j => decide (x < gX l j)) l.length
    have hk : x < gX l m → rgK l x ≤ m := fun g => by
      unfold rgK
      rcases Nat.lt_or_ge m (fst (fun j => decide (x < gX l j)) l.length) with q | q
      · have := of_decide_eq_false (sp.1 m q); omega
      · exact q
    have hkk : x < gX l m → (∀ j, j < rgK l x → gX l j ≤ x) ∧ x < gX l (rgK l x) := fun g => by
      have := hk g
      refine ⟨fun j hj => ?_, ?_⟩
      · have := of_decide_eq_false (sp.1 j hj); omega
      · exact of_decide_eq_true (sp.2 (by unfold rgK at this; omega))
    have hp2 := hp
    obtain ⟨a', cap', rfl, _, _⟩ := hp2
    obtain ⟨b, off, rfl, hb, hc⟩ := hp.at (by omega)
    have bm := hR.bv m (by omega)
    rw [hm] at H1 ⊢
    have hc' : Hid (∀ j, j < m + 1 → _) := Lib.hid fun j hj => hc j (by omega)
    by_cases g1 : x < 0 ∨ gX l m < x
    · rw [if_pos g1] at hE
      have e1 : rgL l x = 0 ∧ rgH l x = 0 := by unfold rgL rgH; rw [if_pos (by omega), if_pos (by omega)]; exact ⟨rfl, rfl⟩
      rw [hE, e1.1, e1.2]
      exact rrg_core b off m cap' m l x _ _ _ 0 0 2 w (by omega) hb (Nat.le_refl _) bm (Lib.hid ⟨rfl, rfl, rfl⟩) hc' ((Classical.em (x < 0)).elim (fun q => .inl ⟨q, rfl, rfl, rfl⟩) (fun q => .inr (.inl ⟨q, by omega, rfl, rfl, rfl⟩))) (Lib.hid fun q q2 => by omega) H1
    · rw [if_neg g1] at hE
      by_cases g2 : x = gX l m
      · have e1 : rgL l x = gR l m ∧ rgH l x = gR l m := ⟨by unfold rgL; rw [if_neg (by rw [hE]; simp), el, if_pos g2], by unfold rgH; rw [if_neg (by rw [hE]; simp), el, if_pos g2]⟩
        rw [hE, e1.1, e1.2]
        exact rrg_core b off m cap' m l x _ _ _ _ _ 0 w (by omega) hb (Nat.le_refl _) bm (Lib.hid ⟨rfl, rfl, rfl⟩) hc' (.inr (.inr (.inl ⟨by omega, g2, rfl, rfl, rfl⟩))) (Lib.hid fun q q2 => by omega) H1
      · have hk2 := hk (by omega)
        have bk := hR.bv (rgK l x) (by omega)
        have e1 : rgL l x = (if rgK l x = 0 then 0 else gR l (rgK l x - 1)) ∧ rgH l x = gR l (rgK l x) - 1 := ⟨by unfold rgL; rw [if_neg (by rw [hE]; simp), el, if_neg g2], by unfold rgH; rw [if_neg (by rw [hE]; simp), el, if_neg g2]⟩
        rw [hE, e1.1, e1.2]
        exact rrg_core b off m cap' (rgK l x) l x _ _ (gR l (rgK l x)) _ _ 0 w (by omega) hb hk2 bk (Lib.hid ⟨rfl, rfl, rfl⟩) hc' (.inr (.inr (.inr ⟨by omega, by omega, rfl, Lib.hid rfl, rfl⟩))) (Lib.hid fun _ q2 => hkk q2) H1
  · have e : rgE l x = 1 := by unfold rgE; rw [if_pos (by omega)]
    have e2 : rgL l x = 0 ∧ rgH l x = 0 := by unfold rgL rgH; rw [if_pos (by omega), if_pos (by omega)]; exact ⟨rfl, rfl⟩
    rw [e, e2.1, e2.2]
    exact rrg_bad v x _ w (by simpa using h) H1
end Go.Proofs.YtdjlainhaoaeiaaDoor

namespace Go.Proofs.YtdjlainhaoaeiaaDoor
open Go.RowKit

/-- what stands in Compare -/
def RcI (w : World) (tv : Value) (tol : Int) (W : World) : Prop := Below w.heap.size w W ∧ Two w.heap.size W tv (.int .i64 tol)
theorem RcI.below {w : World} {tv : Value} {tol : Int} {W W' : World} (h : RcI w tv tol W) (hb : Below W.heap.size W W') : RcI w tv tol W' := ⟨bel_trans h.1 hb, h.2.below hb⟩
def cmP (Q v E tl : Int) : Bool := decide (E ≠ 0) || decide (tl < max (Q - v) (v - Q))
set_option maxHeartbeats 16000000 in
set_option maxRecDepth 100000 in
theorem rcm_core (b off n cap : Nat) (a2 : Option Addr) (n2 cap2 : Nat) (tol tl E1 E2 K V : Int) (Q E : Nat → Int) (l : List (Int × Int)) (w : World) (hb : b < w.heap.size) (n1 : n ≤ 1000)
    (hc : Hid (∀ j, j < n → w.cell? ⟨b, off + j * 2, none⟩ = some (.int .i64 (gX l j)) ∧ w.cell? ⟨b, off + j * 2 + 1, none⟩ = some (.int .i64 (gR l j))))
    (hbd : Hid (E1 = 0 → ∀ j, j < n → (0 ≤ gR l j ∧ gR l j ≤ 4294967296) ∧ 0 ≤ Q j ∧ Q j ≤ 4294967296))
    (hV : ((E1 != 0) = true ∧ K = -1 ∧ V = 1) ∨ (E1 = 0 ∧ (E2 != 0) = true ∧ K = -1 ∧ V = 1) ∨ (E1 = 0 ∧ E2 = 0 ∧ tl < 0 ∧ K = -1 ∧ V = 2) ∨ (E1 = 0 ∧ E2 = 0 ∧ ¬ tl < 0 ∧ 1073741824 < tl ∧ K = -1 ∧ V = 2) ∨ (E1 = 0 ∧ E2 = 0 ∧ ¬ tl < 0 ∧ ¬ 1073741824 < tl ∧ V = 0 ∧ Hid ((∀ k : Nat, k < n → (∀ j, j < k → cmP (Q j) (gR l j) (E j) tl = false) → cmP (Q k) (gR l k) (E k) tl = true → K = (k : Int)) ∧ ((∀ j, j < n → cmP (Q j) (gR l j) (E j) tl = false) → K = -1))))
    (H1 : Hid (∀ W, Below w.heap.size w W → Calls Tryd.prog 22 #[.slice (some ⟨b, off, none⟩) n cap] W fun e w' => e = .returned (.int .i64 E1) ∧ Below W.heap.size W w'))
    (H2 : Hid (∀ W, Below w.heap.size w W → Calls Tryd.prog 34 #[.agg #[.slice a2 n2 cap2, .int .i64 tol]] W fun e w' => e = .returned (.int .i64 E2) ∧ Below W.heap.size W w'))
    (H3 : Hid (∀ j W, j < n → Below w.heap.size w W → Calls Tryd.prog 41 #[.agg #[.slice a2 n2 cap2, .int .i64 tol], .int .i64 (gX l j)] W fun e w' => e = .returned (.tuple #[.int .i64 (Q j), .int .i64 (E j)]) ∧ Below W.heap.size W w')) :
    Calls Tryd.prog 20 #[.slice (some ⟨b, off, none⟩) n cap, .agg #[.slice a2 n2 cap2, .int .i64 tol], .int .i64 tl] w fun e w' => e = .returned (.tuple #[.int .i64 K, .int .i64 V]) ∧ Below w.heap.size w w' := by
  have S0 : Hid (RcI w (.slice a2 n2 cap2) tol (w.alloc (.cells #[.slice a2 n2 cap2, .int .i64 tol] 24))) := Lib.hid ⟨bel_alloc (Below.refl _ _), Two.new _ _ _ _⟩
  have CC : Hid (∀ W, Below w.heap.size w W → ∀ j, j < n → W.cell? ⟨b, off + j * 2, none⟩ = some (.int .i64 (gX l j)) ∧ W.cell? ⟨b, off + j * 2 + 1, none⟩ = some (.int .i64 (gR l j))) := Lib.hid fun W hW j hj => ⟨cell_bel (hc.out j hj).1 hW, cell_bel (hc.out j hj).2 hW⟩
  clear hc
  go_enter Tryd.func20, Tryd.ntmps20
  go_wp2_with fail
  refine (H1.out _ S0.out.1).mono ?_
  rintro e w1 ⟨rfl, gg⟩
  replace S0 := Lib.hid (S0.out.below gg); clear gg
  obtain ⟨_, t0, t1, _, _, _⟩ := S0.out
  rcases hV with ⟨e1, rfl, rfl⟩ | ⟨rfl, e2, rfl, rfl⟩ | ⟨rfl, rfl, h, rfl, rfl⟩ | ⟨rfl, rfl, h, h2, rfl, rfl⟩ | ⟨rfl, rfl, h, h2, rfl, hK⟩
  · have X := Lib.hid S0.out.1
    go_wp2
    go_returns
    exact ⟨rfl, X.out⟩
  all_goals
    go_wp2_with fail
    refine (H2.out _ S0.out.1).mono ?_
    rintro e w2 ⟨rfl, gg⟩
    replace S0 := Lib.hid (S0.out.below gg); clear gg t0 t1
    have X := Lib.hid S0.out.1
    obtain ⟨_, t0, t1, _, _, _⟩ := S0.out
  · go_wp2
    go_returns
    exact ⟨rfl, X.out⟩
  · have d1 : decide (tl < 0) = true := decide_eq_true h
    go_wp2
    go_returns
    exact ⟨rfl, X.out⟩
  · have d1 : decide (tl < 0) = false := decide_eq_false (by omega)
    have d2 : decide (1073741824 < tl) = true := decide_eq_true h2
    go_wp2
    go_returns
    exact ⟨rfl, X.out⟩
  · have d1 : decide (tl < 0) = false := decide_eq_false (by omega)
    have d2 : decide (1073741824 < tl) = false := decide_eq_false (by omega)
    replace hbd := Lib.hid (hbd.out (by trivial))
    clear X
    go_wp2_with fail
    go_loopw [8, 9, 10] (fun ii _ _ wr => ∃ k : Nat, k ≤ n ∧ ii = .int .i64 (k : Int) ∧ Hid (RcI w (.slice a2 n2 cap2) tol wr) ∧ Hid (∀ j, j < k → cmP (Q j) (gR l j) (E j) tl = false)) (fun ii _ _ _ => n - (intOf ii).toNat)
    case atStart => exact ⟨0, by omega, rfl, S0, Lib.hid fun j hj => by omega⟩
    case round =>
      clear S0 t0 t1
      obtain ⟨k, hk, rfl, S0, hA⟩ := hrel
      by_cases hlt : k < n
      · obtain ⟨c0, c1⟩ := CC.out wr S0.out.1 k hlt
        obtain ⟨b1, b2⟩ := hbd.out k hlt
        have HR := Lib.hid (fun W h => H3.out k W hlt h)
        have HC1 := Lib.hid (fun W h => CC.out W h k hlt)
        have lk : (k : Int) < (n : Int) := by omega
        have hP : Hid (cmP (Q k) (gR l k) (E k) tl = (decide (E k ≠ 0) || decide (tl < max (Q k - gR l k) (gR l k - Q k)))) := Lib.hid rfl
        have hT : Hid (cmP (Q k) (gR l k) (E k) tl = true → K = (k : Int)) := Lib.hid (hK.out.1 k hlt hA.out)
        have hF : Hid (cmP (Q k) (gR l k) (E k) tl = false → ∀ j, j < k + 1 → cmP (Q j) (gR l j) (E j) tl = false) := Lib.hid fun h j hj => by
          by_cases e : j = k
          · rw [e]; exact h
          · exact hA.out j (by omega)
        clear hA
        rw [hP.out] at hT hF
        clear hP
        generalize gX l k = x at *
        generalize gR l k = v at *
        generalize Q k = q at *
        generalize E k = ee at *
        have w1' : IntKind.i64.wrap (q - v) = q - v := wrap_in _ ⟨by omega, by omega⟩
        have w2' : IntKind.i64.wrap (v - q) = v - q := wrap_in _ ⟨by omega, by omega⟩
        obtain ⟨_, t0, t1, _, _, _⟩ := S0.out
        go_upto_region 8 with fail
        replace S0 := Lib.hid (S0.out.below (bel_drew _))
        go_region_held3 (fun w' => w'.cell? ⟨w.heap.size, 0, none⟩ = some (.slice a2 n2 cap2) ∧ w'.cell? ⟨w.heap.size, 1, none⟩ = some (.int .i64 tol) ∧ w'.cell? ⟨b, off + k * 2, none⟩ = some (.int .i64 x)) (go_keep) (first
          | (go_at_call 41; (refine (HR.out _ S0.out.1).mono ?_); rintro e w9 ⟨rfl, gg⟩; replace S0 := Lib.hid (S0.out.below gg); obtain ⟨_, t0, t1, _, _, _⟩ := S0.out; have c0 := (HC1.out w9 S0.out.1).1; have c1 := (HC1.out w9 S0.out.1).2; clear gg))
        have X := Lib.hid S0.out.1
        by_cases g1 : ee = 0
        · subst g1
          by_cases g2 : tl < q - v
          · have f1 : decide (tl < q - v) = true := decide_eq_true g2
            obtain rfl := hT.out (by rw [Bool.or_eq_true]; exact .inr (decide_eq_true (by omega)))
            go_wp2
            go_returns
            exact ⟨rfl, X.out⟩
          · have f1 : decide (tl < q - v) = false := decide_eq_false g2
            by_cases g3 : tl < v - q
            · have f2 : decide (tl < v - q) = true := decide_eq_true g3
              obtain rfl := hT.out (by rw [Bool.or_eq_true]; exact .inr (decide_eq_true (by omega)))
              go_wp2
              go_returns
              exact ⟨rfl, X.out⟩
            · have f2 : decide (tl < v - q) = false := decide_eq_false g3
              have hA := Lib.hid (hF.out (by rw [Bool.or_eq_false_iff]; exact ⟨by decide, decide_eq_false (by omega)⟩))
              go_wp2
              go_roundw
              case rel => exact ⟨k + 1, by omega, by go_num, S0, hA⟩
              case measure => simp [intOf]; omega
        · have e1 : (ee != 0) = true := by simpa using g1
          obtain rfl := hT.out (by rw [Bool.or_eq_true]; exact .inl (decide_eq_true g1))
          go_wp2
          go_returns
          exact ⟨rfl, X.out⟩
      · obtain rfl : k = n := by omega
        obtain rfl := hK.out.2 hA.out
        have X := Lib.hid S0.out.1
        go_wp2
        go_returns
        exact ⟨rfl, X.out⟩
theorem rcm_nil (v : Value) (cap : Nat) (a : Option Addr) (z : Value) (tl E1 : Int) (w : World) (e1 : (E1 != 0) = true) (a2 : Option Addr) (n2 cap2 : Nat) (tol : Int)
    (H1 : Hid (∀ W, Below w.heap.size w W → Calls Tryd.prog 22 #[.slice a 0 cap] W fun e w' => e = .returned (.int .i64 E1) ∧ Below W.heap.size W w')) :
    Calls Tryd.prog 20 #[.slice a 0 cap, .agg #[.slice a2 n2 cap2, .int .i64 tol], .int .i64 tl] w fun e w' => e = .returned (.tuple #[.int .i64 (-1), .int .i64 1]) ∧ Below w.heap.size w w' := by
  go_enter Tryd.func20, Tryd.ntmps20
  go_wp2_with fail
  refine (H1.out _ (bel_alloc (Below.refl _ _))).mono ?_
  rintro e w1 ⟨rfl, gg⟩
  have X := Lib.hid (bel_alloc gg); clear gg
  go_wp2
  go_returns
  exact ⟨rfl, X.out⟩
theorem rdQ_bd (t : List (Int × Int)) (tol x : Int) : 0 ≤ rdQ t tol x ∧ rdQ t tol x ≤ 4294967296 := by
  unfold rdQ
  by_cases h : rdE t tol x = 0
  · rw [if_pos h]
    obtain ⟨ht, x0, x1⟩ := rdE_zero.1 h
    obtain ⟨hR, _⟩ := tbE_iff.1 ht
    have b := vl_bd hR x0 x1
    have n0 := hR.n0
    have b0 := hR.bv 0 (by omega)
    have b1 := hR.bv (t.length - 1) (by omega)
    omega
  · rw [if_neg h]; omega
theorem rcm_any (u z : Value) (l t : List (Int × Int)) (tol tl : Int) (w : World) (hu : Pts w u l) (hz : TbV w z t tol) (hl : l.length ≤ 1000) :
    Calls Tryd.prog 20 #[u, z, .int .i64 tl] w fun e w' => e = .returned (.tuple #[.int .i64 (cmK l t tol tl), .int .i64 (cmE l t tol tl)]) ∧ Below w.heap.size w w' := by
  have H1 : Hid (∀ W, Below w.heap.size w W → _) := Lib.hid fun W hW => rroChk_any u l W (hu.below hW)
  have H2 : Hid (∀ W, Below w.heap.size w W → _) := Lib.hid fun W hW => rtbChk_any z t tol W (hz.below hW)
  have H3 : Hid (∀ j W, j < l.length → Below w.heap.size w W → _) := Lib.hid fun j W hj hW => rtbRd_any z t tol (gX l j) W (hz.below hW)
  obtain ⟨a2, cap2, rfl, hp⟩ := hz
  have hu' := hu
  obtain ⟨a, cap, rfl, _, _⟩ := hu'
  by_cases h0 : l.length = 0
  · have e1 : roE l = 9 := by unfold roE; rw [if_pos h0]
    have e2 : cmE l t tol tl = 1 := by unfold cmE; rw [if_pos (.inl (by omega))]
    have e3 : cmK l t tol tl = -1 := by unfold cmK; rw [if_pos (by omega)]
    rw [h0] at H1 ⊢
    rw [e2, e3]
    exact rcm_nil (.slice a 0 cap) cap a (.slice a 0 cap) tl _ w (by rw [e1]; decide) a2 _ cap2 tol H1
  obtain ⟨b, off, rfl, hb, hc⟩ := hu.at (by omega)
  refine rcm_core b off _ cap a2 _ cap2 tol tl (roE l) (tbE t tol) _ _ (fun j => rdQ t tol (gX l j)) (fun j => rdE t tol (gX l j)) l w hb hl (Lib.hid hc) (Lib.hid fun h j hj => ⟨by have := (roE_iff.1 h).bv j hj; omega, rdQ_bd _ _ _⟩) ?_ H1 H2 H3
  by_cases h1 : roE l = 0
  · right
    by_cases h2 : tbE t tol = 0
    · right
      have e : ¬ (roE l ≠ 0 ∨ tbE t tol ≠ 0) := by omega
      by_cases g : tl < 0 ∨ 1073741824 < tl
      · have eE : cmE l t tol tl = 2 := by unfold cmE; rw [if_neg e, if_pos g]
        have eK : cmK l t tol tl = -1 := by unfold cmK; rw [eE, if_pos (by decide)]
        rw [eE, eK]
        by_cases g1 : tl < 0
        · left; exact ⟨h1, h2, g1, rfl, rfl⟩
        · right; left; exact ⟨h1, h2, g1, by omega, rfl, rfl⟩
      · have eE : cmE l t tol tl = 0 := by unfold cmE; rw [if_neg e, if_neg g]
        have eK : cmK l t tol tl = ixR (fun j => cmB t tol tl (gX l j, gR l j)) l.length := by unfold cmK; rw [eE, if_neg (by decide)]
        rw [eE, eK]
        right; right
        refine ⟨h1, h2, by omega, by omega, rfl, Lib.hid ⟨fun k hk h3 h4 => ?_, fun h3 => ?_⟩⟩
        · exact ixR_at hk (fun j hj => h3 j hj) h4
        · exact ixR_no fun j hj => h3 j hj
    · left
      have eE : cmE l t tol tl = 1 := by unfold cmE; rw [if_pos (.inr h2)]
      have eK : cmK l t tol tl = -1 := by unfold cmK; rw [eE, if_pos (by decide)]
      exact ⟨h1, by simpa using h2, eK, eE⟩
  · left
    have eE : cmE l t tol tl = 1 := by unfold cmE; rw [if_pos (.inl h1)]
    have eK : cmK l t tol tl = -1 := by unfold cmK; rw [eE, if_pos (by decide)]
    exact ⟨by simpa using h1, eK, eE⟩
end Go.Proofs.YtdjlainhaoaeiaaDoor

namespace Go.Proofs.YtdjlainhaoaeiaaDoor.rodReads
open Go.ChangeShapes Go.WideShapes Go.ChangeAt Go.RowKit
open Go.ChangeMaps (open_string shut_string)
set_option linter.unusedVariables false

/-- what stands -/
def RdS (w : World) (tv : Value) (tol : Int) (p q : Nat) (A B : Int) (W : World) : Prop := Below w.heap.size w W ∧ Two w.heap.size W tv (.int .i64 tol) ∧ Two p W (.int .i64 A) (.int .i64 B) ∧ Two q W (.int .i64 A) (.int .i64 B)
theorem RdS.below {w : World} {tv : Value} {tol : Int} {p q : Nat} {A B : Int} {W W' : World} (h : RdS w tv tol p q A B W) (hb : Below W.heap.size W W') : RdS w tv tol p q A B W' := ⟨bel_trans h.1 hb, h.2.1.below hb, h.2.2.1.below hb, h.2.2.2.below hb⟩
set_option maxHeartbeats 32000000 in
set_option maxRecDepth 100000 in
theorem core (x tl tol A B E1 E2 K CE : Int) (a0 : Option Addr) (n0 cap0 : Nat) (a : Option Addr) (n cap : Nat) (l t : List (Int × Int)) (w : World) (B1 : Bool) (hn0 : n0 = l.length) (hn : n = t.length) (hw : Hid (CV w)) (hL : Hid (Pts w (.slice a0 n0 cap0) l)) (hP : Hid (Pts w (.slice a n cap) t)) (hs : Hid (B1 = true → l.length ≤ 1000 ∧ t.length ≤ 1000))
    (HF : Hid (∀ u v W, Pts W u l → TbV W v t tol → Calls Tryd.prog 11 #[u, v] W fun e w' => e = .returned (.bool B1) ∧ Below W.heap.size W w'))
    (HR : Hid (∀ u W, Pts W u l → Calls Tryd.prog 16 #[u, .int .i64 x] W fun e w' => e = .returned (.tuple #[.agg #[.int .i64 A, .int .i64 B], .int .i64 E1]) ∧ Below W.heap.size W w'))
    (HR2 : Hid (∀ u W, Pts W u l → Calls Tryd.prog 18 #[u, .int .i64 x] W fun e w' => e = .returned (.tuple #[.agg #[.int .i64 A, .int .i64 B], .int .i64 E1]) ∧ Below W.heap.size W w'))
    (HM : Hid (∀ u v W, Pts W u l → TbV W v t tol → Calls Tryd.prog 19 #[u, v, .int .i64 tl] W fun e w' => e = .returned (.tuple #[.int .i64 K, .int .i64 E2]) ∧ Below W.heap.size W w'))
    (HM2 : Hid (B1 = true → ∀ u v W, Pts W u l → TbV W v t tol → Calls Tryd.prog 20 #[u, v, .int .i64 tl] W fun e w' => e = .returned (.tuple #[.int .i64 K, .int .i64 E2]) ∧ Below W.heap.size W w'))
    (HG : Hid (∀ u W, Pts W u l → Calls Tryd.prog 21 #[u] W fun e w' => e = .returned (.int .i64 CE) ∧ Below W.heap.size W w'))
    (HG2 : Hid (∀ u W, Pts W u l → Calls Tryd.prog 22 #[u] W fun e w' => e = .returned (.int .i64 CE) ∧ Below W.heap.size W w')) :
    Calls Tryd.prog 4 #[.slice a0 n0 cap0, .agg #[.slice a n cap, .int .i64 tol], .int .i64 x, .int .i64 tl] w fun e w' => e = .returned (.bool true) ∧ Below w.heap.size w w' := by
  subst hn hn0
  have Q1 : ∀ (p q : Int) W, (binOp .eql 34 (.agg #[.int .i64 p, .int .i64 q]) (.agg #[.int .i64 p, .int .i64 q])).run Tryd.prog W = .ok (.bool true) W := fun p q W => by rw [run_eql_bounds, show samB p q p q = true by simp [samB]]
  have T0 := Lib.hid (Two.new w (.slice a t.length cap) (.int .i64 tol) 24)
  have HB : Hid (Below w.heap.size w (w.alloc (.cells #[.slice a t.length cap, .int .i64 tol] 24))) := Lib.hid (bel_alloc (Below.refl _ _))
  have HV : Hid (∀ W, Below w.heap.size w W → TbV W (.agg #[.slice a t.length cap, .int .i64 tol]) t tol) := Lib.hid fun W hW => ⟨a, cap, rfl, hP.out.below hW⟩
  have LV : Hid (∀ W, Below w.heap.size w W → Pts W (.slice a0 l.length cap0) l) := Lib.hid fun W hW => hL.out.below hW
  have HA : Hid (∀ W, Below w.heap.size w W → _) := Lib.hid fun W hW => awake_any W (hw.out.below hW)
  have eE1 : (E1 == E1) = true := by simp
  have eE2 : (E2 == E2) = true := by simp
  have eE3 : (K == K) = true := by simp
  have eE4 : (CE == CE) = true := by simp
  have HC := Lib.hid (fun (hB : B1 = true) v W (h : TbV W v t tol) => copy_any v t tol W h (hs.out hB).2)
  have HK := Lib.hid (fun (hB : B1 = true) v W (h : Pts W v l) => cloneM_any v l W h (hs.out hB).1)
  clear hs hP hL
  generalize hN : t.length = n at *
  generalize hN0 : l.length = n0 at *
  replace hN := Lib.hid hN
  replace hN0 := Lib.hid hN0
  go_enter Tryd.func4, Tryd.ntmps4
  go_wp2_with fail
  refine (HA.out _ HB.out).mono ?_
  rintro e w1 ⟨rfl, h1⟩
  replace T0 := Lib.hid (T0.out.below h1)
  replace HB := Lib.hid (bel_trans HB.out h1); clear h1
  obtain ⟨t0, t1, _, _, _⟩ := T0.out
  go_wp2_with fail
  refine (HF.out _ _ _ (LV.out _ HB.out) (HV.out _ HB.out)).mono ?_
  rintro e w2 ⟨rfl, h1⟩
  replace T0 := Lib.hid (T0.out.below h1)
  replace HB := Lib.hid (bel_trans HB.out h1); clear h1 t0 t1
  cases B1 with
  | false =>
    go_wp2
    go_returns
    exact ⟨rfl, HB.out⟩
  | true =>
    replace HC := Lib.hid (HC.out rfl)
    replace HK := Lib.hid (HK.out rfl)
    replace HM2 := Lib.hid (HM2.out rfl)
    go_wp2_with fail
    refine (HK.out _ _ (LV.out _ HB.out)).mono ?_
    rintro e w3 ⟨V3, rfl, hx, h1⟩
    replace T0 := Lib.hid (T0.out.below h1)
    replace HB := Lib.hid (bel_trans HB.out h1); clear h1
    have N3 := Lib.hid hx; clear hx
    go_wp2_with fail
    refine (HR.out _ _ N3.out).mono ?_
    rintro e w4 ⟨rfl, h1⟩
    replace T0 := Lib.hid ((T0.out.below h1).alloc (.cells #[.int .i64 A, .int .i64 B] 34))
    replace HB := Lib.hid (bel_trans (bel_trans HB.out h1) (bel_alloc (o := .cells #[.int .i64 A, .int .i64 B] 34) (Below.refl _ _))); clear h1 N3
    have T4 := Lib.hid (Two.new w4 (.int .i64 A) (.int .i64 B) 34)
    go_wp2_with fail
    refine (HR2.out _ _ (LV.out _ HB.out)).mono ?_
    rintro e w5 ⟨rfl, h1⟩
    have S0 : Hid (RdS w (.slice a n cap) tol w4.heap.size w5.heap.size A B (w5.alloc (.cells #[.int .i64 A, .int .i64 B] 34))) := Lib.hid ⟨bel_trans (bel_trans HB.out h1) (bel_alloc (Below.refl _ _)), (T0.out.below h1).alloc _, (T4.out.below h1).alloc _, Two.new _ _ _ _⟩
    have BZ := T4.out.2.2.2.2
    have BY := h1.size
    have BX := (T0.out.below h1).2.2.2.2
    have BX2 := T0.out.2.2.2.2
    clear h1 HB T0 T4
    generalize hp : w4.heap.size = p at *
    generalize hq : w5.heap.size = q at *
    have m1 : w.heap.size ≠ q := by omega
    have m2 : q ≠ w.heap.size := by omega
    have m3 : p ≠ q := by omega
    have m4 : q ≠ p := by omega
    replace hp := Lib.hid hp
    clear BX BX2 BY BZ
    obtain ⟨_, ⟨t0, t1, _, _, _⟩, ⟨y0, y1, _, _, _⟩, z0, z1, _, _, _⟩ := S0.out
    go_upto_region 7 with fail
    replace S0 := Lib.hid (S0.out.below (bel_drew _))
    replace hq := Lib.hid hq
    go_region_held3 (fun w' => w'.cell? ⟨w.heap.size, 0, none⟩ = some (.slice a n cap) ∧ w'.cell? ⟨w.heap.size, 1, none⟩ = some (.int .i64 tol)) (go_keep) (first
      | (go_at_call 17; (refine (HK.out _ _ (LV.out _ S0.out.1)).mono ?_); rintro e w8 ⟨V8, rfl, ho, gg⟩; replace S0 := Lib.hid (S0.out.below gg); obtain ⟨_, ⟨t0, t1, _, _, _⟩, _⟩ := S0.out; (try (replace N9 := Lib.hid (N9.out.below gg))); have N8 := Lib.hid ho; clear ho gg)
      | (go_at_call 13; (refine (HC.out _ _ (HV.out _ S0.out.1)).mono ?_); rintro e w9 ⟨V9, rfl, ho, gg⟩; replace S0 := Lib.hid (S0.out.below gg); obtain ⟨_, ⟨t0, t1, _, _, _⟩, _⟩ := S0.out; (try (replace N8 := Lib.hid (N8.out.below gg))); have N9 := Lib.hid ho; clear ho gg)
      | (go_at_call 19; (refine (HM.out _ _ _ N8.out N9.out).mono ?_); rintro e w10 ⟨rfl, gg⟩; replace S0 := Lib.hid (S0.out.below gg); obtain ⟨_, ⟨t0, t1, _, _, _⟩, _⟩ := S0.out; clear gg))
    clear y0 y1 z0 z1
    go_wp2_with fail
    refine (HM2.out _ _ _ (LV.out _ S0.out.1) (HV.out _ S0.out.1)).mono ?_
    rintro e w11 ⟨rfl, h1⟩
    replace S0 := Lib.hid (S0.out.below h1); clear h1 t0 t1 N8 N9
    obtain ⟨_, ⟨t0, t1, _, _, _⟩, ⟨y0, y1, _, _, _⟩, z0, z1, _, _, _⟩ := S0.out
    go_wp2_with fail
    refine (HK.out _ _ (LV.out _ S0.out.1)).mono ?_
    rintro e w12 ⟨V12, rfl, hx, h1⟩
    replace S0 := Lib.hid (S0.out.below h1); clear h1 t0 t1 y0 y1 z0 z1
    have N12 := Lib.hid hx; clear hx
    go_wp2_with fail
    refine (HG.out _ _ N12.out).mono ?_
    rintro e w13 ⟨rfl, h1⟩
    replace S0 := Lib.hid (S0.out.below h1); clear h1
    go_wp2_with fail
    refine (HG2.out _ _ (LV.out _ S0.out.1)).mono ?_
    rintro e w14 ⟨rfl, h1⟩
    replace S0 := Lib.hid (S0.out.below h1); clear h1
    have X := Lib.hid S0.out.1
    go_wp2
    go_returns
    exact ⟨rfl, X.out⟩
theorem walk (z : Value) (l : List (Int × Int)) (z2 : Value) (tt : List (Int × Int) × Int) (x tl : Int) (w : World) (hz : Pts w z l) (hz2 : TbV w z2 tt.1 tt.2) (hcv : CV w) :
    Calls Tryd.prog 4 #[z, z2, .int .i64 x, .int .i64 tl] w fun e w' => e = .returned (.bool true) ∧ Below w.heap.size w w' := by
  obtain ⟨t, tol⟩ := tt
  obtain ⟨a, cap, rfl, hp⟩ := hz2
  have hz' := hz
  obtain ⟨a0, cap0, rfl, _⟩ := hz'
  have hB : (decide (l.length ≤ 129) && decide (t.length ≤ 129)) = true → l.length ≤ 1000 ∧ t.length ≤ 1000 := fun h => by
    rw [Bool.and_eq_true] at h
    have := of_decide_eq_true h.1
    have := of_decide_eq_true h.2
    omega
  exact core x tl tol (rgL l x) (rgH l x) (rgE l x) (cmE l t tol tl) (cmK l t tol tl) (roE l) a0 _ cap0 a _ cap l t w (decide (l.length ≤ 129) && decide (t.length ≤ 129)) rfl rfl (Lib.hid hcv) (Lib.hid hz) (Lib.hid hp) (Lib.hid hB) (Lib.hid fun u v W h1 h2 => few14_all u v l t tol W h1 h2) (Lib.hid fun u W h => rodRg_any u l x W h) (Lib.hid fun u W h => rrg_any u l x W h) (Lib.hid fun u v W h1 h2 => rodCm_any u v l t tol tl W h1 h2) (Lib.hid fun hb u v W h1 h2 => rcm_any u v l t tol tl W h1 h2 (hB hb).1) (Lib.hid fun u W h => rodChk_any u l W h) (Lib.hid fun u W h => rroChk_any u l W h)

set_option maxRecDepth 100000 in
theorem contract (H : Type) (enc : TypeId × Value → H) (W : World) (base : Nat) (args : Array Value) (ds gs : List (DataW H)) (before : List MemPlace)
    (hval : ∀ (j : Nat) t v, Tryd.f4.params[j]? = some t → args[j]? = some v → Value.okWide Tryd.prog W .any base t v)
    (hW : DataW.Whole enc Tryd.prog Tryd.f4.params.toList Rows.rodReadsSpec.vars false W args.toList ds gs before) (hL : laidMetH Tryd.prog Rows.rodReadsRow.laid W) (hSh : W.ShapedOpen Tryd.prog) :
    Calls Tryd.prog 4 args W fun e W' => ∃ v, e = .returned v ∧ Rows.rodReadsSpec.post enc Tryd.prog Tryd.f4 false true false false W args v W' := by
  have hW' := hW
  obtain ⟨p, q, hA0, hV, rfl, hfz, hnd⟩ := hW
  have hA : DataW.TrodAll enc Tryd.prog W 0 (fun _ => true) true Tryd.f4.params.toList args.toList ds p := hA0
  rw [Tryd.params4] at hA hval
  obtain ⟨v0, vs0, d0, ds0, p0, q0, hargs, rfl, rfl, h0, r0⟩ := trodAll_cons hA
  obtain ⟨v1, vs1, d1, ds1, p1, q1, rfl, rfl, rfl, h1, r1⟩ := trodAll_cons r0
  obtain ⟨v2, vs2, d2, ds2, p2, q2, rfl, rfl, rfl, h2, r2⟩ := trodAll_cons r1
  obtain ⟨v3, vs3, d3, ds3, p3, q3, rfl, rfl, rfl, h3, r3⟩ := trodAll_cons r2
  obtain ⟨rfl, rfl, rfl⟩ := trodAll_nil r3
  obtain rfl : args = #[v0, v1, v2, v3] := by cases args; simp_all
  obtain ⟨rfl, rfl⟩ := trodVars_none hV
  have k0 := h0
  have lt0 : ∀ x ∈ p0, x.block < W.heap.size := by obtain ⟨m, hm⟩ := k0; exact DataW.trod_lt m _ _ _ hm
  have k1 := h1
  have lt1 : ∀ x ∈ p1, x.block < W.heap.size := by obtain ⟨m, hm⟩ := k1; exact DataW.trod_lt m _ _ _ hm
  have k2 := h2
  have lt2 : ∀ x ∈ p2, x.block < W.heap.size := by obtain ⟨m, hm⟩ := k2; exact DataW.trod_lt m _ _ _ hm
  have k3 := h3
  have lt3 : ∀ x ∈ p3, x.block < W.heap.size := by obtain ⟨m, hm⟩ := k3; exact DataW.trod_lt m _ _ _ hm
  obtain ⟨z0, w0⟩ := open_mks (hval 0 22 v0 rfl rfl) h0
  obtain ⟨z1, w1, wt1⟩ := open_tbl (hval 1 24 v1 rfl rfl) h1
  obtain ⟨a2, rfl, rfl, rfl, w2⟩ := open_int Tryd.underlying3 (hval 2 3 v2 rfl rfl) h2
  obtain ⟨a3, rfl, rfl, rfl, w3⟩ := open_int Tryd.underlying3 (hval 3 3 v3 rfl rfl) h3
  clear hA0
  refine (walk v0 z0 v1 z1 a2 a3 W w0 w1   (laid_of rfl hL hSh)).mono fun e W' ⟨he, bel⟩ => ?_
  subst he
  exact ⟨_, rfl, _, _, _, [], _, [], hW', trodAll_mk1 (shut_bool Tryd.underlying4 _), (trodAll_cons_mk (Below.trod laidOut (by kernel_rfl) (of_decide_eq_true (by kernel_rfl)) k0 bel lt0) (trodAll_cons_mk (Below.trod laidOut (by kernel_rfl) (of_decide_eq_true (by kernel_rfl)) k1 bel lt1) (trodAll_cons_mk (Below.trod laidOut (by kernel_rfl) (of_decide_eq_true (by kernel_rfl)) k2 bel lt2) (trodAll_cons_mk (Below.trod laidOut (by kernel_rfl) (of_decide_eq_true (by kernel_rfl)) k3 bel lt3) trodAll_mk0)))), rfl, bel.frame _, fun h => by cases h⟩

noncomputable def laidWorld (os : Os) : World := World.laidAll Tryd.prog os Rows.rodReadsRow.laid
theorem laid_met (os : Os) : laidMet Tryd.prog Rows.rodReadsRow.laid ((laidWorld os).forCall (fun _ _ => 0) ⟨#[], #[.slice none 0 0, .agg #[.slice none 0 0, .int .i64 0], .int .i64 0, .int .i64 0], []⟩).memory :=
  laidMet_laidAll _ (by kernel_rfl) (by kernel_rfl)
theorem reads (os : Os) {H : Type} (enc : TypeId × Value → H) : ∃ places, DataW.whole enc Tryd.prog ((laidWorld os).forCall (fun _ _ => 0) ⟨#[], #[.slice none 0 0, .agg #[.slice none 0 0, .int .i64 0], .int .i64 0, .int .i64 0], []⟩).memory Tryd.f4.params.toList Rows.rodReadsSpec.vars false (#[.slice none 0 0, .agg #[.slice none 0 0, .int .i64 0], .int .i64 0, .int .i64 0] : Array Value).toList 8 = some ([.nil, .agg [.nil, .lit (.int .i64 0)], .lit (.int .i64 0), .lit (.int .i64 0)], [], places) :=
  ⟨[], by kernel_rfl⟩

set_option maxRecDepth 100000 in
theorem lifted (os : Os) (started : os.Started) (H : Type) (enc : TypeId × Value → H) (F : Stop.Interp) :
    ReturnsInHanded {} Tryd.checked os 4 .any ((OpenSpec.ofChange Rows.rodReadsSpec).preRow enc Tryd.prog Tryd.f4 Rows.rodReadsRow.domain false Rows.rodReadsRow.laid) (((OpenSpec.ofChange Rows.rodReadsSpec).at F).post enc Tryd.prog Tryd.f4 false true false false) := by
  obtain ⟨places, hx⟩ := reads os enc
  refine returnsInHanded_of_row (C := Tryd.checked) (s := OpenSpec.ofChange Rows.rodReadsSpec) own started (by kernel_rfl) Tryd.func4
    (witness_row_at (enc := enc) (C := Tryd.checked) false (laidWorld os) #[.slice none 0 0, .agg #[.slice none 0 0, .int .i64 0], .int .i64 0, .int .i64 0] (World.laidAll_os _ _ _) (by kernel_rfl) (by kernel_rfl) (by kernel_rfl)
      (OpenSpec.preRow_of_cond 8 hx (by kernel_rfl) (fun k hk => by cases hk) (by kernel_rfl) (laid_met os))) ?_
  intro W base args ds gs before hval hW _ _ _ hL hSh _
  exact contract H enc W base args ds gs before hval hW hL hSh

theorem said : Rows.RodReadsSaid :=
  OpenClaim.holds_of_cond 4 Tryd.f4 rfl rfl rfl rfl rfl rfl rfl ⟨rfl, rfl, rfl, rfl, rfl⟩ rfl rfl rfl rfl rfl (by kernel_rfl) Tryd.func4 (by kernel_rfl)
    (of_decide_eq_true (by kernel_rfl)) (by unfold Func.isWrapper; first | (rw [if_pos (by decide +kernel)]; kernel_rfl) | (rw [if_neg (by decide +kernel)]; exact ⟨rfl, rfl⟩))
    (fun os started H enc _ F => by rw [OpenClaim.pre_eq_preRow]; exact lifted os started H enc F)

theorem plain (f : FuncId) (fn : Func) (hf : Tryd.pinned.checked.prog.funcNamed "spile/spilelaw14.RodReads" = some f) (hfn : Tryd.pinned.checked.prog.funcs[f]? = some fn) :
    false = Tryd.pinned.checked.prog.looks [] ∧ ∀ (j : Nat) t, fn.params[j]? = some t → Tryd.pinned.checked.prog.wantsStandIn t = false := by
  obtain rfl : f = 4 := Option.some.inj ((show Tryd.prog.funcNamed "spile/spilelaw14.RodReads" = some 4 by kernel_rfl).symm.trans hf) |>.symm
  obtain rfl : fn = Tryd.f4 := (Option.some.inj (Tryd.func4.symm.trans hfn)).symm
  refine ⟨by kernel_rfl, fun j t ht => ?_⟩
  rw [Tryd.params4] at ht
  rcases j with _ | _ | _ | _ | j
  · obtain rfl : t = 22 := by simpa using ht.symm
    exact (show Tryd.prog.wantsStandIn 22 = false by kernel_rfl)
  · obtain rfl : t = 24 := by simpa using ht.symm
    exact (show Tryd.prog.wantsStandIn 24 = false by kernel_rfl)
  · obtain rfl : t = 3 := by simpa using ht.symm
    exact (show Tryd.prog.wantsStandIn 3 = false by kernel_rfl)
  · obtain rfl : t = 3 := by simpa using ht.symm
    exact (show Tryd.prog.wantsStandIn 3 = false by kernel_rfl)
  · simp at ht

theorem proved : Rows.RodReadsCardSaid :=
  Claim7.holds_tied_plain_at .later [] _ _ _ _ said (fun _ h => by cases h) (by kernel_rfl) (fun _ h => by cases h) rodReads_row_tie rfl ⟨rfl, rfl⟩ (by kernel_rfl) rfl plain (by kernel_rfl)
#print axioms proved
end Go.Proofs.YtdjlainhaoaeiaaDoor.rodReads
