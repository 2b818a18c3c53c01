/-
  The statement RodTexts of spile/spilelaw14 holds: for every input the call returns true, and each argument reads afterwards as it read before. (The listed package variables hold what the program lays: the card ties them.)
-/
import Derived.Test.YtdjlainhaoaeiaaDoorM2
import Derived.BigQuiet
import Derived.Deep.RegionHeld3
import Derived.Test.YtdjlainhaoaeiaaDoorCards
import Derived.Test.YtdjlainhaoaeiaaDoorTie
import Derived.Below
import Derived.Carry
import Derived.Lib.LaidTab
import Derived.Deep.DeepHandedRow
import Derived.SevenTiedPlain
import Derived.Lay

set_option linter.unusedVariables false
set_option linter.unusedSimpArgs false

namespace Go.Proofs.YtdjlainhaoaeiaaDoor
open Go.RowKit

theorem rtbChk_len (a : Option Addr) (n cap : Nat) (tol V : Int) (w : World) (h : (n < 2 ∧ V = 9) ∨ (¬ n < 2 ∧ 128 < n ∧ n ≤ 9223372036854775807 ∧ V = 8)) :
    Calls Tryd.prog 34 #[.agg #[.slice a n cap, .int .i64 tol]] w fun e w' => e = .returned (.int .i64 V) ∧ Below w.heap.size w w' := by
  have X0 := Lib.hid (bel_alloc (w := w) (o := .cells #[.slice a n cap, .int .i64 tol] 24) (Below.refl _ _))
  obtain ⟨t0, t1, _, _, _⟩ := Two.new w (.slice a n cap) (.int .i64 tol) 24
  rcases h with ⟨h, rfl⟩ | ⟨h, h2, h3, rfl⟩
  all_goals
    go_enter Tryd.func34, Tryd.ntmps34
    go_wp2
    go_returns
    exact ⟨rfl, X0.out⟩
set_option maxRecDepth 100000 in
set_option maxHeartbeats 16000000 in
theorem rtbChk_core (b off n cap : Nat) (tol : Int) (l : List (Int × Int)) (V : Int) (w : World) (n0 : 1 ≤ n) (n1 : n + 1 ≤ 128) (hb : b < w.heap.size) (hn : Hid (l.length = n + 1))
    (hv1 : Hid ((∃ i, i < n + 1 ∧ mkOut (gX l i, gR l i) = true) → V = 2))
    (hv2 : Hid ((∀ i, i < n + 1 → mkOut (gX l i, gR l i) = false) → (tol < 0 ∨ 4294967296 < tol) → V = 2))
    (hv3 : Hid ((∀ i, i < n + 1 → mkOut (gX l i, gR l i) = false) → ¬ (tol < 0 ∨ 4294967296 < tol) → (∃ i, i < n ∧ ¬ (gX l i < gX l (i + 1) ∧ gR l i ≤ gR l (i + 1))) → V = 5))
    (hv4 : Hid ((∀ i, i < n + 1 → mkOut (gX l i, gR l i) = false) → ¬ (tol < 0 ∨ 4294967296 < tol) → (∀ i, i < n → gX l i < gX l (i + 1) ∧ gR l i ≤ gR l (i + 1)) → V = 0))
    (hc : Hid (∀ j, j < n + 1 → w.cell? ⟨b, off + j * 2, none⟩ = some (.int .i64 (gX l j)) ∧ w.cell? ⟨b, off + j * 2 + 1, none⟩ = some (.int .i64 (gR l j)))) :
    Calls Tryd.prog 34 #[.agg #[.slice (some ⟨b, off, none⟩) (n + 1) cap, .int .i64 tol]] w fun e w' => e = .returned (.int .i64 V) ∧ Below w.heap.size w w' := by
  have T0 := Lib.hid (Two.new w (.slice (some ⟨b, off, none⟩) (n + 1) cap) (.int .i64 tol) 24)
  have X0 := Lib.hid (bel_alloc (w := w) (o := .cells #[.slice (some ⟨b, off, none⟩) (n + 1) cap, .int .i64 tol] 24) (Below.refl _ _))
  have TT : Hid (∀ W, Below (w.alloc (.cells #[.slice (some ⟨b, off, none⟩) (n + 1) cap, .int .i64 tol] 24)).heap.size (w.alloc (.cells #[.slice (some ⟨b, off, none⟩) (n + 1) cap, .int .i64 tol] 24)) W → Two w.heap.size W (.slice (some ⟨b, off, none⟩) (n + 1) cap) (.int .i64 tol) ∧ Below w.heap.size w W ∧ ∀ j, j < n + 1 → W.cell? ⟨b, off + j * 2, none⟩ = some (.int .i64 (gX l j)) ∧ W.cell? ⟨b, off + j * 2 + 1, none⟩ = some (.int .i64 (gR l j))) := Lib.hid fun W hW => ⟨T0.out.below hW, bel_trans X0.out hW, fun j hj => ⟨cell_bel (hc.out j hj).1 (bel_trans X0.out hW), cell_bel (hc.out j hj).2 (bel_trans X0.out hW)⟩⟩
  have B0 : Hid (Below (w.alloc (.cells #[.slice (some ⟨b, off, none⟩) (n + 1) cap, .int .i64 tol] 24)).heap.size (w.alloc (.cells #[.slice (some ⟨b, off, none⟩) (n + 1) cap, .int .i64 tol] 24)) (w.alloc (.cells #[.slice (some ⟨b, off, none⟩) (n + 1) cap, .int .i64 tol] 24))) := Lib.hid (Below.refl _ _)
  have BS : Hid (w.heap.size < (w.alloc (.cells #[.slice (some ⟨b, off, none⟩) (n + 1) cap, .int .i64 tol] 24)).heap.size) := Lib.hid (by rw [World.size_alloc]; omega)
  obtain ⟨t0, t1, _, _, _⟩ := T0.out
  have g2 : decide ((n : Int) + 1 < 2) = false := decide_eq_false (by omega)
  have g3 : decide (128 < (n : Int) + 1) = false := decide_eq_false (by omega)
  clear hc X0 T0 hn
  go_enter Tryd.func34, Tryd.ntmps34
  go_wp2_with fail
  generalize w.alloc (.cells #[.slice (some ⟨b, off, none⟩) (n + 1) cap, .int .i64 tol] 24) = W0 at *
  go_loopw [3] (fun ii wr => ∃ k : Nat, k ≤ n + 1 ∧ ii = .int .i64 (k : Int) ∧ Hid (Below W0.heap.size W0 wr) ∧ Hid (∀ i, i < k → mkOut (gX l i, gR l i) = false)) (fun ii _ => n + 1 - (intOf ii).toNat)
  case atStart => exact ⟨0, by omega, rfl, B0, Lib.hid fun i hi => by omega⟩
  case round =>
    clear t0 t1 B0
    obtain ⟨k, hk, rfl, hB, hA⟩ := hrel
    obtain ⟨⟨t0, t1, _, _, _⟩, HX, hcc⟩ := TT.out wr hB.out
    replace HX := Lib.hid HX
    by_cases hlt : k < n + 1
    · obtain ⟨c0, c1⟩ := hcc k hlt
      have l0 : (k : Int) < ((n + 1 : Nat) : Int) := by omega
      have l1 : (k : Int) < (n : Int) + 1 := by omega
      have nb := Lib.hid (Nat.lt_of_lt_of_le BS.out hB.out.size)
      have q1 : w.heap.size ≠ wr.heap.size := by have := nb.out; omega
      have q2 : wr.heap.size ≠ w.heap.size := by have := nb.out; omega
      have hE : Hid (mkOut (gX l k, gR l k) = (decide (gX l k < 0) || decide (200000 < gX l k) || decide (gR l k < 0) || decide (4294967296 < gR l k))) := Lib.hid rfl
      have XA := Lib.hid (fun o => bel_trans HX.out (bel_alloc (w := wr) (o := o) (Below.refl _ _)))
      have XB := Lib.hid (fun o => bel_trans hB.out (bel_alloc (w := wr) (o := o) (Below.refl _ _)))
      clear hcc
      cases hq : mkOut (gX l k, gR l k) with
      | true =>
        obtain rfl := hv1.out ⟨k, hlt, hq⟩
        rw [hq] at hE
        clear hv1 hv2 hv3 hv4 hA hq
        generalize gX l k = x at *
        generalize gR l k = r at *
        have hD : (decide (x < 0) = true) ∨ (decide (x < 0) = false ∧ decide (200000 < x) = true) ∨ (decide (x < 0) = false ∧ decide (200000 < x) = false ∧ decide (r < 0) = true) ∨ (decide (x < 0) = false ∧ decide (200000 < x) = false ∧ decide (r < 0) = false ∧ decide (4294967296 < r) = true) := by
          have := hE.out
          revert this
          cases decide (x < 0) <;> cases decide (200000 < x) <;> cases decide (r < 0) <;> cases decide (4294967296 < r) <;> simp
        clear hE
        rcases hD with d1 | ⟨d1, d2⟩ | ⟨d1, d2, d3⟩ | ⟨d1, d2, d3, d4⟩
        all_goals
          go_wp2
          go_returns
          exact ⟨rfl, XA.out _⟩
      | false =>
        have hA2 : Hid (∀ i, i < k + 1 → mkOut (gX l i, gR l i) = false) := Lib.hid fun i hi => by
          by_cases e : i = k
          · rw [e]; exact hq
          · exact hA.out i (by omega)
        rw [hq] at hE
        clear hq hA
        generalize gX l k = x at *
        generalize gR l k = r at *
        have hD : decide (x < 0) = false ∧ decide (200000 < x) = false ∧ decide (r < 0) = false ∧ decide (4294967296 < r) = false := by
          have := hE.out
          revert this
          cases decide (x < 0) <;> cases decide (200000 < x) <;> cases decide (r < 0) <;> cases decide (4294967296 < r) <;> simp
        obtain ⟨d1, d2, d3, d4⟩ := hD
        clear hE
        go_wp2
        go_roundw
        case rel => exact ⟨k + 1, by omega, by go_num, Lib.hid (XB.out _), hA2⟩
        case measure => simp [intOf]; omega
    · obtain rfl : k = n + 1 := by omega
      replace hv2 := Lib.hid (hv2.out hA.out)
      replace hv3 := Lib.hid (hv3.out hA.out)
      replace hv4 := Lib.hid (hv4.out hA.out)
      clear hv1 hA hlt hk hcc
      by_cases ht : tol < 0
      · obtain rfl := hv2.out (.inl ht)
        have d1 : decide (tol < 0) = true := decide_eq_true ht
        go_wp2
        go_returns
        exact ⟨rfl, HX.out⟩
      by_cases ht2 : 4294967296 < tol
      · obtain rfl := hv2.out (.inr ht2)
        have d1 : decide (tol < 0) = false := decide_eq_false ht
        have d2 : decide (4294967296 < tol) = true := decide_eq_true ht2
        go_wp2
        go_returns
        exact ⟨rfl, HX.out⟩
      have d1 : decide (tol < 0) = false := decide_eq_false ht
      have d2 : decide (4294967296 < tol) = false := decide_eq_false ht2
      replace hv3 := Lib.hid (hv3.out (by omega))
      replace hv4 := Lib.hid (hv4.out (by omega))
      clear hv2
      go_wp2_with fail
      go_loopw [5] (fun ii wr => ∃ k : Nat, k ≤ n ∧ ii = .int .i64 ((k : Int) + 1) ∧ Hid (Below W0.heap.size W0 wr) ∧ Hid (∀ i, i < k → gX l i < gX l (i + 1) ∧ gR l i ≤ gR l (i + 1))) (fun ii _ => n + 1 - (intOf ii).toNat)
      case atStart => exact ⟨0, by omega, rfl, hB, Lib.hid fun i hi => by omega⟩
      case round =>
        clear hB t0 t1 HX
        obtain ⟨k, hk, rfl, hB, hA⟩ := hrel
        obtain ⟨⟨t0, t1, _, _, _⟩, HX, hcc⟩ := TT.out wr hB.out
        replace HX := Lib.hid HX
        by_cases hlt : k < n
        · obtain ⟨c0, c1⟩ := hcc k (by omega)
          obtain ⟨c2, c3⟩ := hcc (k + 1) (by omega)
          have l0 : (k : Int) + 1 < (n : Int) + 1 := by omega
          have l1 : (k : Int) + 1 < ((n + 1 : Nat) : Int) := by omega
          have l2 : (k : Int) < ((n + 1 : Nat) : Int) := by omega
          have l3 : IntKind.i64.wrap ((k : Int) + 1 - 1) = (k : Int) := by rw [wrap_in _ ⟨by omega, by omega⟩]; omega
          have l3' : IntKind.i64.wrap (k : Int) = (k : Int) := wrap_in _ ⟨by omega, by omega⟩
          have l4 : ((k : Int) + 1).toNat = k + 1 := by omega
          have l5 : 0 ≤ (k : Int) + 1 := by omega
          have l6 : (k : Int) < (n : Int) + 1 := by omega
          have BQ1 := Lib.hid (fun q => bel_trans hB.out (bel_drewN wr q))
          have BQ2 := Lib.hid (fun q => bel_trans HX.out (bel_drewN wr q))
          clear hcc HX
          by_cases g : gX l k < gX l (k + 1) ∧ gR l k ≤ gR l (k + 1)
          · have hA2 : Hid (∀ i, i < k + 1 → gX l i < gX l (i + 1) ∧ gR l i ≤ gR l (i + 1)) := Lib.hid fun i hi => by
              by_cases e : i = k
              · rw [e]; exact g
              · exact hA.out i (by omega)
            obtain ⟨g1, g2⟩ := g
            clear hA
            generalize gX l k = x at *
            generalize gR l k = r at *
            generalize gX l (k + 1) = y at *
            generalize gR l (k + 1) = s at *
            have d3 : decide (y ≤ x) = false := decide_eq_false (by omega)
            have d4 : decide (s < r) = false := decide_eq_false (by omega)
            go_upto_region 16 with fail
            go_quiet (fail)
            go_wp2
            go_roundw
            case rel => exact ⟨k + 1, by omega, by go_num, Lib.hid (BQ1.out _), hA2⟩
            case measure => simp [intOf]; omega
          · obtain rfl := hv3.out ⟨k, hlt, g⟩
            clear hv3 hv4 hA
            generalize gX l k = x at *
            generalize gR l k = r at *
            generalize gX l (k + 1) = y at *
            generalize gR l (k + 1) = s at *
            by_cases g1 : x < y
            · have d3 : decide (y ≤ x) = false := decide_eq_false (by omega)
              have d4 : decide (s < r) = true := decide_eq_true (by omega)
              go_upto_region 16 with fail
              go_quiet (fail)
              go_wp2
              go_returns
              exact ⟨rfl, BQ2.out _⟩
            · have d3 : decide (y ≤ x) = true := decide_eq_true (by omega)
              go_upto_region 16 with fail
              go_quiet (fail)
              go_wp2
              go_returns
              exact ⟨rfl, BQ2.out _⟩
        · obtain rfl : k = n := by omega
          obtain rfl := hv4.out hA.out
          have l0 : ¬ (k : Int) + 1 < (k : Int) + 1 := by omega
          go_wp2
          go_returns
          exact ⟨rfl, HX.out⟩
theorem rtbChk_any (v : Value) (l : List (Int × Int)) (tol : Int) (w : World) (hv : TbV w v l tol) :
    Calls Tryd.prog 34 #[v] w fun e w' => e = .returned (.int .i64 (tbE l tol)) ∧ Below w.heap.size w w' := by
  obtain ⟨a, cap, rfl, hp⟩ := hv
  obtain ⟨_, hcap⟩ : l.length ≤ cap ∧ cap ≤ 9223372036854775807 := by
    obtain ⟨a', cap', e, h, _⟩ := hp
    simp only [Value.slice.injEq, true_and] at e
    obtain ⟨_, rfl⟩ := e
    exact h
  by_cases h2 : l.length < 2
  · exact rtbChk_len a _ cap tol _ w (.inl ⟨h2, by unfold tbE; rw [if_pos h2]⟩)
  by_cases h3 : 128 < l.length
  · exact rtbChk_len a _ cap tol _ w (.inr ⟨h2, h3, by omega, by unfold tbE; rw [if_neg h2, if_pos h3]⟩)
  obtain ⟨b, off, rfl, hb, hc⟩ := hp.at (by omega)
  obtain ⟨n, hn⟩ : ∃ n, l.length = n + 1 := ⟨l.length - 1, by omega⟩
  have e0 : tbE l tol = if tol < 0 ∨ 4294967296 < tol ∨ l.any mkOut = true then 2 else if risB l (l.length - 1) = false then 5 else 0 := by
    unfold tbE
    rw [if_neg h2, if_neg h3]
    by_cases q : tol < 0 ∨ 4294967296 < tol ∨ l.any mkOut = true
    · rw [if_pos q, if_pos (by simp only [Bool.or_eq_true, decide_eq_true_eq]; rcases q with q | q | q; exact .inl (.inl q); exact .inl (.inr q); exact .inr q)]
    · rw [if_neg q, if_neg (by simp only [Bool.or_eq_true, decide_eq_true_eq]; rintro ((g | g) | g); exact q (.inl g); exact q (.inr (.inl g)); exact q (.inr (.inr g)))]
  have ea : (∀ i, i < n + 1 → mkOut (gX l i, gR l i) = false) → l.any mkOut = false := fun h => by
    cases q : l.any mkOut with
    | false => rfl
    | true =>
      obtain ⟨i, hi, hp⟩ := anyq_at.1 q
      have := h i (by omega)
      unfold gX gR at this
      rw [show l.getD i (0, 0) = ((l.getD i (0, 0)).1, (l.getD i (0, 0)).2) from rfl, this] at hp
      cases hp
  have el : l.length - 1 = n := by omega
  rw [hn]
  refine rtbChk_core b off n cap tol l (tbE l tol) w (by omega) (by omega) hb (Lib.hid hn) (Lib.hid ?_) (Lib.hid ?_) (Lib.hid ?_) (Lib.hid ?_) (Lib.hid fun j hj => hc j (by omega))
  · rintro ⟨i, hi, hp⟩
    rw [e0, if_pos (.inr (.inr (anyq_at.2 ⟨i, by omega, hp⟩)))]
  · intro h ht
    rw [e0, if_pos (by rcases ht with ht | ht; exact .inl ht; exact .inr (.inl ht))]
  · rintro h ht ⟨i, hi, hp⟩
    rw [e0, if_neg (by rw [ea h]; simp; omega), if_pos]
    cases q : risB l (l.length - 1) with
    | false => rfl
    | true => exact absurd ((risB_iff l _).1 q i (by omega)) hp
  · intro h ht hr
    rw [e0, if_neg (by rw [ea h]; simp; omega), if_neg]
    rw [Bool.not_eq_false]
    exact (risB_iff l _).2 fun i hi => hr i (by omega)
end Go.Proofs.YtdjlainhaoaeiaaDoor

namespace Go.Proofs.YtdjlainhaoaeiaaDoor
open Go.RowKit

set_option maxHeartbeats 16000000 in
set_option maxRecDepth 100000 in
theorem rtbAt_core (b off n cap : Nat) (l : List (Int × Int)) (tol x Y : Int) (i : Nat) (w : World) (n0 : 2 ≤ n) (n1 : n ≤ 1000) (hn : n = l.length) (hb : b < w.heap.size)
    (hc : Hid (∀ j, j < n → w.cell? ⟨b, off + j * 2, none⟩ = some (.int .i64 (gX l j)) ∧ w.cell? ⟨b, off + j * 2 + 1, none⟩ = some (.int .i64 (gR l j))))
    (hR : Hid (MR l)) (x0 : Hid (gX l 0 ≤ x)) (hi : Hid (IsT l x i)) (hY : Hid (Y = vlF l i x)) :
    Calls Tryd.prog 36 #[.agg #[.slice (some ⟨b, off, none⟩) n cap, .int .i64 tol], .int .i64 x] w fun e w' => e = .returned (.int .i64 Y) ∧ Below w.heap.size w w' := by
  have HN := Lib.hid hn
  clear hn
  have T0 := Lib.hid (Two.new w (.slice (some ⟨b, off, none⟩) n cap) (.int .i64 tol) 24)
  have X0 := Lib.hid (bel_alloc (w := w) (o := .cells #[.slice (some ⟨b, off, none⟩) n cap, .int .i64 tol] 24) (Below.refl _ _))
  have BS : Hid (w.heap.size < (w.alloc (.cells #[.slice (some ⟨b, off, none⟩) n cap, .int .i64 tol] 24)).heap.size) := Lib.hid (by rw [World.size_alloc]; omega)
  have TT : Hid (∀ W, Below (w.alloc (.cells #[.slice (some ⟨b, off, none⟩) n cap, .int .i64 tol] 24)).heap.size (w.alloc (.cells #[.slice (some ⟨b, off, none⟩) n cap, .int .i64 tol] 24)) W → Two w.heap.size W (.slice (some ⟨b, off, none⟩) n cap) (.int .i64 tol) ∧ Below w.heap.size w W ∧ ∀ j, j < n → W.cell? ⟨b, off + j * 2, none⟩ = some (.int .i64 (gX l j)) ∧ W.cell? ⟨b, off + j * 2 + 1, none⟩ = some (.int .i64 (gR l j))) := Lib.hid fun W hW => ⟨T0.out.below hW, bel_trans X0.out hW, fun j hj => ⟨cell_bel (hc.out j hj).1 (bel_trans X0.out hW), cell_bel (hc.out j hj).2 (bel_trans X0.out hW)⟩⟩
  have B0 : Hid (Below (w.alloc (.cells #[.slice (some ⟨b, off, none⟩) n cap, .int .i64 tol] 24)).heap.size (w.alloc (.cells #[.slice (some ⟨b, off, none⟩) n cap, .int .i64 tol] 24)) (w.alloc (.cells #[.slice (some ⟨b, off, none⟩) n cap, .int .i64 tol] 24))) := Lib.hid (Below.refl _ _)
  clear hc X0 T0
  go_enter Tryd.func36, Tryd.ntmps36
  go_wp2_with fail
  generalize w.alloc (.cells #[.slice (some ⟨b, off, none⟩) n cap, .int .i64 tol] 24) = W0 at *
  go_loopw [5] (fun ii wr => ∃ k : Nat, k + 1 ≤ i ∧ ii = .int .i64 ((k : Int) + 1) ∧ Hid (Below W0.heap.size W0 wr)) (fun ii _ => n - (intOf ii).toNat)
  case atStart => exact ⟨0, hi.out.h1, rfl, B0⟩
  case round =>
    clear B0
    obtain ⟨k, hk, rfl, hB⟩ := hrel
    have hlt : k + 1 < n := by have := hi.out.h2; have := HN.out; omega
    obtain ⟨⟨t0, t1, _, _, _⟩, HX, hcc⟩ := TT.out wr hB.out
    replace HX := Lib.hid HX
    obtain ⟨c0, c1⟩ := hcc k (by omega)
    obtain ⟨c2, c3⟩ := hcc (k + 1) hlt
    clear hcc
    have nb := Lib.hid (Nat.lt_of_lt_of_le BS.out hB.out.size)
    have q1 : w.heap.size ≠ wr.heap.size := by have := nb.out; omega
    have q2 : wr.heap.size ≠ w.heap.size := by have := nb.out; omega
    have q3 : w.heap.size ≠ wr.heap.size + 1 := by have := nb.out; omega
    have q4 : wr.heap.size + 1 ≠ w.heap.size := by have := nb.out; omega
    have l2 : k < n := by omega
    have l3 : (k : Int) < (n : Int) := by omega
    have l5 : (k : Int) + 1 < (n : Int) := by omega
    have wj : IntKind.i64.wrap ((k : Int) + 1 - 1) = (k : Int) := by simp only [IntKind.wrap_i64]; omega
    have wk : IntKind.i64.wrap (k : Int) = (k : Int) := by simp only [IntKind.wrap_i64]; omega
    have l6 : 0 ≤ (k : Int) + 1 := by omega
    have l7 : ((k : Int) + 1).toNat = k + 1 := by omega
    have XB := Lib.hid (fun W (h : Below wr.heap.size wr W) => bel_trans HX.out h)
    have XC := Lib.hid (fun W (h : Below wr.heap.size wr W) => bel_trans hB.out h)
    by_cases hq : k + 1 = i
    · have I := hi.out
      have i0 := I.from x0.out
      have bd := vlF_bd hR.out I.h1 (by have := I.h2; omega) i0 I.h3
      have a := hR.out.asc (i - 1) (by have := I.h2; have := I.h1; omega)
      have b0 := hR.out.bh (i - 1) (by have := I.h2; omega)
      have b1 := hR.out.bh i I.h2
      have v0 := hR.out.bv (i - 1) (by have := I.h2; omega)
      have v1 := hR.out.bv i I.h2
      have u := hR.out.up (i - 1) (by have := I.h2; have := I.h1; omega)
      have i3 := I.h3
      rw [Nat.sub_add_cancel I.h1] at a u
      have eY := hY.out
      unfold vlF at bd eY
      simp only [← hq, Nat.add_sub_cancel] at bd a b0 b1 v0 v1 u i0 i3 eY
      clear I hi hY hq
      generalize gX l k = A at *
      generalize gR l k = Q at *
      generalize gX l (k + 1) = H at *
      generalize gR l (k + 1) = R at *
      obtain ⟨⟨m0, m1⟩, m2, m3⟩ := bd
      have m4 : (R - Q) * (x - A) / (H - A) ≤ R - Q := by omega
      have m5 : 0 ≤ (R - Q) * (x - A) / (H - A) := by omega
      have p1 : IntKind.i64.wrap (R - Q) = R - Q := wrap_in _ ⟨by omega, by omega⟩
      have p2 : IntKind.i64.wrap (x - A) = x - A := wrap_in _ ⟨by omega, by omega⟩
      have p3 : IntKind.i64.wrap ((R - Q) * (x - A)) = (R - Q) * (x - A) := wrap_in _ ⟨by omega, by omega⟩
      have p4 : IntKind.i64.wrap (H - A) = H - A := wrap_in _ ⟨by omega, by omega⟩
      have nz : ¬ H - A = 0 := by omega
      have nz2 : (H - A == 0) = false := by simpa using nz
      have p5 : IntKind.i64.wrap (((R - Q) * (x - A)).tdiv (H - A)) = (R - Q) * (x - A) / (H - A) := by rw [Int.tdiv_eq_ediv_of_nonneg m0]; exact wrap_in _ ⟨by omega, by omega⟩
      have p6 : IntKind.i64.wrap (Q + (R - Q) * (x - A) / (H - A)) = Y := by rw [eY]; exact wrap_in _ ⟨by omega, by omega⟩
      have dl : decide (H < x) = false := decide_eq_false (by omega)
      have a0 : ∀ o, (wr.alloc o).cell? ⟨b, off + k * 2, none⟩ = some (.int .i64 A) := fun o => cell_bel c0 (bel_alloc (Below.refl _ _))
      have a1 : ∀ o, (wr.alloc o).cell? ⟨b, off + k * 2 + 1, none⟩ = some (.int .i64 Q) := fun o => cell_bel c1 (bel_alloc (Below.refl _ _))
      have a2 : ∀ o, (wr.alloc o).cell? ⟨b, off + (k + 1) * 2, none⟩ = some (.int .i64 H) := fun o => cell_bel c2 (bel_alloc (Below.refl _ _))
      have a3 : ∀ o, (wr.alloc o).cell? ⟨b, off + (k + 1) * 2 + 1, none⟩ = some (.int .i64 R) := fun o => cell_bel c3 (bel_alloc (Below.refl _ _))
      have a4 : ∀ o, (wr.alloc o).cell? ⟨w.heap.size, 0, none⟩ = some (.slice (some ⟨b, off, none⟩) n cap) := fun o => cell_bel t0 (bel_alloc (Below.refl _ _))
      have b0' : ∀ o o2, ((wr.alloc o).alloc o2).cell? ⟨b, off + k * 2, none⟩ = some (.int .i64 A) := fun o o2 => cell_bel c0 (bel_alloc (bel_alloc (Below.refl _ _)))
      have b1' : ∀ o o2, ((wr.alloc o).alloc o2).cell? ⟨b, off + k * 2 + 1, none⟩ = some (.int .i64 Q) := fun o o2 => cell_bel c1 (bel_alloc (bel_alloc (Below.refl _ _)))
      have b2' : ∀ o o2, ((wr.alloc o).alloc o2).cell? ⟨b, off + (k + 1) * 2, none⟩ = some (.int .i64 H) := fun o o2 => cell_bel c2 (bel_alloc (bel_alloc (Below.refl _ _)))
      have b3' : ∀ o o2, ((wr.alloc o).alloc o2).cell? ⟨b, off + (k + 1) * 2 + 1, none⟩ = some (.int .i64 R) := fun o o2 => cell_bel c3 (bel_alloc (bel_alloc (Below.refl _ _)))
      have b4' : ∀ o o2, ((wr.alloc o).alloc o2).cell? ⟨w.heap.size, 0, none⟩ = some (.slice (some ⟨b, off, none⟩) n cap) := fun o o2 => cell_bel t0 (bel_alloc (bel_alloc (Below.refl _ _)))
      clear eY m0 m1 m2 m3 m4 m5 hB
      go_wp2_with fail
      go_region
      all_goals go_wp2_with fail
      all_goals go_quiet (fail)
      all_goals go_wp2
      all_goals go_returns
      all_goals exact ⟨rfl, XB.out _ (bel_alloc (bel_alloc (bel_trans (bel_drew _) (bel_drewN _ _))))⟩
    · have h4 := hi.out.h4 (k + 1) (by omega) (by omega)
      have dl : decide (gX l (k + 1) < x) = true := decide_eq_true h4
      have XD := Lib.hid (XC.out wr (Below.refl _ _))
      generalize gX l k = A at *
      generalize gR l k = Q at *
      generalize gX l (k + 1) = H at *
      generalize gR l (k + 1) = R at *
      go_wp2
      go_roundw
      case rel => exact ⟨k + 1, by omega, by go_num, XD⟩
      case measure => simp [intOf]; omega
theorem rtbAt_any (v : Value) (l : List (Int × Int)) (tol x : Int) (w : World) (hv : TbV w v l tol) (h : MR l) (x0 : gX l 0 ≤ x) (x1 : x ≤ gX l (l.length - 1)) :
    Calls Tryd.prog 36 #[v, .int .i64 x] w fun e w' => e = .returned (.int .i64 (vl l x)) ∧ Below w.heap.size w w' := by
  obtain ⟨a, cap, rfl, hp⟩ := hv
  have n0 := h.n0
  have n1 := h.n1
  obtain ⟨b, off, rfl, hb, hc⟩ := hp.at (by omega)
  exact rtbAt_core b off _ cap l tol x _ (tpc l x) w (by omega) (by omega) rfl hb (Lib.hid hc) (Lib.hid h) (Lib.hid x0) (Lib.hid (tpc_is h x1)) (Lib.hid rfl)
set_option maxHeartbeats 16000000 in
set_option maxRecDepth 100000 in
theorem rtbRd_core (b off m cap : Nat) (tol x X0 X1 Y E : Int) (w : World) (m1 : m ≤ 1000) (hb : b < w.heap.size)
    (c0 : w.cell? ⟨b, off, none⟩ = some (.int .i64 X0)) (c1 : w.cell? ⟨b, off + m * 2, none⟩ = some (.int .i64 X1))
    (hE : (x < X0 ∧ Y = 0 ∧ E = 2) ∨ (¬ x < X0 ∧ X1 < x ∧ Y = 0 ∧ E = 2) ∨ (¬ x < X0 ∧ ¬ X1 < x ∧ E = 0))
    (H1 : Hid (∀ W, Below w.heap.size w W → Calls Tryd.prog 34 #[.agg #[.slice (some ⟨b, off, none⟩) (m + 1) cap, .int .i64 tol]] W fun e w' => e = .returned (.int .i64 0) ∧ Below W.heap.size W w'))
    (H2 : Hid (¬ x < X0 → ¬ X1 < x → ∀ W, Below w.heap.size w W → Calls Tryd.prog 36 #[.agg #[.slice (some ⟨b, off, none⟩) (m + 1) cap, .int .i64 tol], .int .i64 x] W fun e w' => e = .returned (.int .i64 Y) ∧ Below W.heap.size W w')) :
    Calls Tryd.prog 41 #[.agg #[.slice (some ⟨b, off, none⟩) (m + 1) cap, .int .i64 tol], .int .i64 x] w fun e w' => e = .returned (.tuple #[.int .i64 Y, .int .i64 E]) ∧ Below w.heap.size w w' := by
  have T0 := Lib.hid (Two.new w (.slice (some ⟨b, off, none⟩) (m + 1) cap) (.int .i64 tol) 24)
  have wk : IntKind.i64.wrap (((m + 1 : Nat) : Int) - 1) = (m : Int) := by rw [wrap_in _ ⟨by omega, by omega⟩]; omega
  have wk1 : IntKind.i64.wrap ((m : Int) + 1 - 1) = (m : Int) := by rw [wrap_in _ ⟨by omega, by omega⟩]; omega
  have wk2 : (m : Int) < ((m + 1 : Nat) : Int) := by omega
  have wk3 : (m : Int) < (m : Int) + 1 := by omega
  have wk4 : (0 : Int) < (m : Int) + 1 := by omega
  go_enter Tryd.func41, Tryd.ntmps41
  go_wp2_with fail
  refine (H1.out _ (bel_alloc (Below.refl _ _))).mono ?_
  rintro e w1 ⟨rfl, gg⟩
  replace T0 := Lib.hid (T0.out.below gg)
  have X1' := Lib.hid (bel_alloc gg); clear gg
  obtain ⟨t0, t1, _, _, _⟩ := T0.out
  have d0 := cell_bel c0 X1'.out
  have d1 := cell_bel c1 X1'.out
  rcases hE with ⟨h, rfl, rfl⟩ | ⟨h, h2, rfl, rfl⟩ | ⟨h, h2, rfl⟩
  · have e1 : decide (x < X0) = true := decide_eq_true h
    go_wp2
    go_returns
    exact ⟨rfl, X1'.out⟩
  · have e1 : decide (x < X0) = false := decide_eq_false (by omega)
    have e2 : decide (X1 < x) = true := decide_eq_true h2
    go_wp2
    go_returns
    exact ⟨rfl, X1'.out⟩
  · have e1 : decide (x < X0) = false := decide_eq_false (by omega)
    have e2 : decide (X1 < x) = false := decide_eq_false (by omega)
    replace H2 := Lib.hid (H2.out (by omega) (by omega))
    go_wp2_with fail
    refine (H2.out _ X1'.out).mono ?_
    rintro e w2 ⟨rfl, gg⟩
    have X2 := Lib.hid (bel_trans X1'.out gg); clear gg
    go_wp2
    go_returns
    exact ⟨rfl, X2.out⟩
theorem rtbRd_bad (a : Option Addr) (n cap : Nat) (tol x E : Int) (w : World) (e2 : (E != 0) = true)
    (H1 : Hid (∀ W, Below w.heap.size w W → Calls Tryd.prog 34 #[.agg #[.slice a n cap, .int .i64 tol]] W fun e w' => e = .returned (.int .i64 E) ∧ Below W.heap.size W w')) :
    Calls Tryd.prog 41 #[.agg #[.slice a n cap, .int .i64 tol], .int .i64 x] w fun e w' => e = .returned (.tuple #[.int .i64 0, .int .i64 1]) ∧ Below w.heap.size w w' := by
  go_enter Tryd.func41, Tryd.ntmps41
  go_wp2_with fail
  refine (H1.out _ (bel_alloc (Below.refl _ _))).mono ?_
  rintro e w1 ⟨rfl, gg⟩
  have X1' := Lib.hid (bel_alloc gg); clear gg
  go_wp2
  go_returns
  exact ⟨rfl, X1'.out⟩
theorem rtbRd_any (v : Value) (l : List (Int × Int)) (tol x : Int) (w : World) (hv : TbV w v l tol) :
    Calls Tryd.prog 41 #[v, .int .i64 x] w fun e w' => e = .returned (.tuple #[.int .i64 (rdQ l tol x), .int .i64 (rdE l tol x)]) ∧ Below w.heap.size w w' := by
  have H1 : Hid (∀ W, Below w.heap.size w W → _) := Lib.hid fun W hW => rtbChk_any v l tol W (hv.below hW)
  have hv' := hv
  obtain ⟨a, cap, rfl, hp⟩ := hv
  by_cases h : tbE l tol = 0
  · rw [h] at H1
    obtain ⟨hR, _⟩ := tbE_iff.1 h
    have n0 := hR.n0
    have n1 := hR.n1
    have eE : rdE l tol x = if x < gX l 0 ∨ gX l (l.length - 1) < x then 2 else 0 := by unfold rdE; rw [if_neg (by omega)]
    obtain ⟨b, off, rfl, hb, hc⟩ := hp.at (by omega)
    have H2 : Hid (¬ x < gX l 0 → ¬ gX l (l.length - 1) < x → ∀ W, Below w.heap.size w W → _) := Lib.hid fun g1 g2 W hW => rtbAt_any _ l tol x W (hv'.below hW) hR (by omega) (by omega)
    have eQ : rdQ l tol x = if rdE l tol x = 0 then vl l x else 0 := rfl
    obtain ⟨m, hm⟩ : ∃ m, l.length = m + 1 := ⟨l.length - 1, by omega⟩
    have c0 := (hc 0 (by omega)).1
    have c1 := (hc m (by omega)).1
    rw [show l.length - 1 = m by omega] at eE H2
    rw [hm] at H1 H2 ⊢
    rw [show off + 0 * 2 = off by omega] at c0
    refine rtbRd_core b off m cap tol x (gX l 0) (gX l m) _ _ w (by omega) hb c0 c1 ?_ H1 (Lib.hid fun g1 g2 W hW => ?_)
    · by_cases g1 : x < gX l 0
      · left; rw [if_pos (.inl g1)] at eE; exact ⟨g1, by rw [eQ, eE]; rfl, eE⟩
      · right
        by_cases g2 : gX l m < x
        · left; rw [if_pos (.inr g2)] at eE; exact ⟨g1, g2, by rw [eQ, eE]; rfl, eE⟩
        · right; rw [if_neg (by omega)] at eE; exact ⟨g1, g2, eE⟩
    · rw [if_neg (by omega)] at eE
      rw [eQ, if_pos eE]
      exact H2.out g1 g2 W hW
  · have e : rdE l tol x = 1 := by unfold rdE; rw [if_pos (by omega)]
    have e2 : rdQ l tol x = 0 := by unfold rdQ; rw [if_neg (by omega)]
    rw [e, e2]
    exact rtbRd_bad a _ cap tol x _ w (by simpa using h) H1
end Go.Proofs.YtdjlainhaoaeiaaDoor

namespace Go.Proofs.YtdjlainhaoaeiaaDoor
open Go.RowKit

theorem rroChk_len (a : Option Addr) (n cap : Nat) (V : Int) (w : World) (h : (n = 0 ∧ V = 9) ∨ (n ≠ 0 ∧ 128 < n ∧ n ≤ 9223372036854775807 ∧ V = 8)) :
    Calls Tryd.prog 22 #[.slice a n cap] w fun e w' => e = .returned (.int .i64 V) ∧ Below w.heap.size w w' := by
  have X0 := Lib.hid (Below.refl w.heap.size w)
  rcases h with ⟨rfl, rfl⟩ | ⟨h, h2, h3, rfl⟩
  · go_enter Tryd.func22, Tryd.ntmps22
    go_wp2
    go_returns
    exact ⟨rfl, X0.out⟩
  · have e0 : ((n : Int) == 0) = false := by simp; omega
    have e1 : decide (128 < (n : Int)) = true := decide_eq_true (by omega)
    go_enter Tryd.func22, Tryd.ntmps22
    go_wp2
    go_returns
    exact ⟨rfl, X0.out⟩
set_option maxRecDepth 100000 in
set_option maxHeartbeats 16000000 in
theorem rroChk_core (b off n cap : Nat) (l : List (Int × Int)) (V : Int) (w : World) (n1 : n + 1 ≤ 128) (hb : b < w.heap.size) (hn : Hid (l.length = n + 1))
    (hv1 : Hid ((∃ i, i < n + 1 ∧ rkOut (gX l i, gR l i) = true) → V = 2))
    (hv3 : Hid ((∀ i, i < n + 1 → rkOut (gX l i, gR l i) = false) → (∃ i, i < n ∧ ¬ (gX l i < gX l (i + 1) ∧ gR l i < gR l (i + 1))) → V = 5))
    (hv4 : Hid ((∀ i, i < n + 1 → rkOut (gX l i, gR l i) = false) → (∀ i, i < n → gX l i < gX l (i + 1) ∧ gR l i < gR l (i + 1)) → V = 0))
    (hc : Hid (∀ j, j < n + 1 → w.cell? ⟨b, off + j * 2, none⟩ = some (.int .i64 (gX l j)) ∧ w.cell? ⟨b, off + j * 2 + 1, none⟩ = some (.int .i64 (gR l j)))) :
    Calls Tryd.prog 22 #[.slice (some ⟨b, off, none⟩) (n + 1) cap] w fun e w' => e = .returned (.int .i64 V) ∧ Below w.heap.size w w' := by
  have TT : Hid (∀ W, Below w.heap.size w W → ∀ j, j < n + 1 → W.cell? ⟨b, off + j * 2, none⟩ = some (.int .i64 (gX l j)) ∧ W.cell? ⟨b, off + j * 2 + 1, none⟩ = some (.int .i64 (gR l j))) := Lib.hid fun W hW j hj => ⟨cell_bel (hc.out j hj).1 hW, cell_bel (hc.out j hj).2 hW⟩
  have B0 : Hid (Below w.heap.size w w) := Lib.hid (Below.refl _ _)
  have g2 : ((n : Int) + 1 == 0) = false := by simp; omega
  have g3 : decide (128 < (n : Int) + 1) = false := decide_eq_false (by omega)
  clear hc hn
  go_enter Tryd.func22, Tryd.ntmps22
  go_wp2_with fail
  go_loopw [3] (fun ii wr => ∃ k : Nat, k ≤ n + 1 ∧ ii = .int .i64 (k : Int) ∧ Hid (Below w.heap.size w wr) ∧ Hid (∀ i, i < k → rkOut (gX l i, gR l i) = false)) (fun ii _ => n + 1 - (intOf ii).toNat)
  case atStart => exact ⟨0, by omega, rfl, B0, Lib.hid fun i hi => by omega⟩
  case round =>
    clear B0
    obtain ⟨k, hk, rfl, hB, hA⟩ := hrel
    have hcc := TT.out wr hB.out
    by_cases hlt : k < n + 1
    · obtain ⟨c0, c1⟩ := hcc k hlt
      have l0 : (k : Int) < ((n + 1 : Nat) : Int) := by omega
      have l1 : (k : Int) < (n : Int) + 1 := by omega
      have hE : Hid (rkOut (gX l k, gR l k) = (decide (gX l k < 0) || decide (200000 < gX l k) || decide (gR l k < 1) || decide (4294967296 < gR l k))) := Lib.hid rfl
      clear hcc
      cases hq : rkOut (gX l k, gR l k) with
      | true =>
        obtain rfl := hv1.out ⟨k, hlt, hq⟩
        rw [hq] at hE
        clear hv1 hv3 hv4 hA hq
        generalize gX l k = x at *
        generalize gR l k = r at *
        have hD : (decide (x < 0) = true) ∨ (decide (x < 0) = false ∧ decide (200000 < x) = true) ∨ (decide (x < 0) = false ∧ decide (200000 < x) = false ∧ decide (r < 1) = true) ∨ (decide (x < 0) = false ∧ decide (200000 < x) = false ∧ decide (r < 1) = false ∧ decide (4294967296 < r) = true) := by
          have := hE.out
          revert this
          cases decide (x < 0) <;> cases decide (200000 < x) <;> cases decide (r < 1) <;> cases decide (4294967296 < r) <;> simp
        clear hE
        rcases hD with d1 | ⟨d1, d2⟩ | ⟨d1, d2, d3⟩ | ⟨d1, d2, d3, d4⟩
        all_goals
          go_wp2
          go_returns
          exact ⟨rfl, hB.out⟩
      | false =>
        have hA2 : Hid (∀ i, i < k + 1 → rkOut (gX l i, gR l i) = false) := Lib.hid fun i hi => by
          by_cases e : i = k
          · rw [e]; exact hq
          · exact hA.out i (by omega)
        rw [hq] at hE
        clear hq hA
        generalize gX l k = x at *
        generalize gR l k = r at *
        have hD : decide (x < 0) = false ∧ decide (200000 < x) = false ∧ decide (r < 1) = false ∧ decide (4294967296 < r) = false := by
          have := hE.out
          revert this
          cases decide (x < 0) <;> cases decide (200000 < x) <;> cases decide (r < 1) <;> cases decide (4294967296 < r) <;> simp
        obtain ⟨d1, d2, d3, d4⟩ := hD
        clear hE
        go_wp2
        go_roundw
        case rel => exact ⟨k + 1, by omega, by go_num, hB, hA2⟩
        case measure => simp [intOf]; omega
    · obtain rfl : k = n + 1 := by omega
      replace hv3 := Lib.hid (hv3.out hA.out)
      replace hv4 := Lib.hid (hv4.out hA.out)
      clear hv1 hA hlt hk hcc
      go_wp2_with fail
      go_loopw [4] (fun ii wr => ∃ k : Nat, k ≤ n ∧ ii = .int .i64 ((k : Int) + 1) ∧ Hid (Below w.heap.size w wr) ∧ Hid (∀ i, i < k → gX l i < gX l (i + 1) ∧ gR l i < gR l (i + 1))) (fun ii _ => n + 1 - (intOf ii).toNat)
      case atStart => exact ⟨0, by omega, rfl, hB, Lib.hid fun i hi => by omega⟩
      case round =>
        clear hB
        obtain ⟨k, hk, rfl, hB, hA⟩ := hrel
        have hcc := TT.out wr hB.out
        by_cases hlt : k < n
        · obtain ⟨c0, c1⟩ := hcc k (by omega)
          obtain ⟨c2, c3⟩ := hcc (k + 1) (by omega)
          have l0 : (k : Int) + 1 < (n : Int) + 1 := by omega
          have l1 : (k : Int) + 1 < ((n + 1 : Nat) : Int) := by omega
          have l2 : (k : Int) < ((n + 1 : Nat) : Int) := by omega
          have l3 : IntKind.i64.wrap ((k : Int) + 1 - 1) = (k : Int) := by rw [wrap_in _ ⟨by omega, by omega⟩]; omega
          have l3' : IntKind.i64.wrap (k : Int) = (k : Int) := wrap_in _ ⟨by omega, by omega⟩
          have l4 : ((k : Int) + 1).toNat = k + 1 := by omega
          have l5 : 0 ≤ (k : Int) + 1 := by omega
          have l6 : (k : Int) < (n : Int) + 1 := by omega
          have BQ1 := Lib.hid (fun q => bel_trans hB.out (bel_drewN wr q))
          clear hcc
          by_cases g : gX l k < gX l (k + 1) ∧ gR l k < gR l (k + 1)
          · have hA2 : Hid (∀ i, i < k + 1 → gX l i < gX l (i + 1) ∧ gR l i < gR l (i + 1)) := Lib.hid fun i hi => by
              by_cases e : i = k
              · rw [e]; exact g
              · exact hA.out i (by omega)
            obtain ⟨g1, g2⟩ := g
            clear hA
            generalize gX l k = x at *
            generalize gR l k = r at *
            generalize gX l (k + 1) = y at *
            generalize gR l (k + 1) = s at *
            have d3 : decide (y ≤ x) = false := decide_eq_false (by omega)
            have d4 : decide (s ≤ r) = false := decide_eq_false (by omega)
            go_upto_region 13 with fail
            go_quiet (fail)
            go_wp2
            go_roundw
            case rel => exact ⟨k + 1, by omega, by go_num, Lib.hid (BQ1.out _), hA2⟩
            case measure => simp [intOf]; omega
          · obtain rfl := hv3.out ⟨k, hlt, g⟩
            clear hv3 hv4 hA
            generalize gX l k = x at *
            generalize gR l k = r at *
            generalize gX l (k + 1) = y at *
            generalize gR l (k + 1) = s at *
            by_cases g1 : x < y
            · have d3 : decide (y ≤ x) = false := decide_eq_false (by omega)
              have d4 : decide (s ≤ r) = true := decide_eq_true (by omega)
              go_upto_region 13 with fail
              go_quiet (fail)
              go_wp2
              go_returns
              exact ⟨rfl, BQ1.out _⟩
            · have d3 : decide (y ≤ x) = true := decide_eq_true (by omega)
              go_upto_region 13 with fail
              go_quiet (fail)
              go_wp2
              go_returns
              exact ⟨rfl, BQ1.out _⟩
        · obtain rfl : k = n := by omega
          obtain rfl := hv4.out hA.out
          have l0 : ¬ (k : Int) + 1 < (k : Int) + 1 := by omega
          go_wp2
          go_returns
          exact ⟨rfl, hB.out⟩
theorem rroChk_any (v : Value) (l : List (Int × Int)) (w : World) (hp : Pts w v l) :
    Calls Tryd.prog 22 #[v] w fun e w' => e = .returned (.int .i64 (roE l)) ∧ Below w.heap.size w w' := by
  have hp' := hp
  obtain ⟨a, cap, rfl, ⟨hcap1, hcap⟩, _⟩ := hp'
  by_cases h2 : l.length = 0
  · exact rroChk_len a _ cap _ w (.inl ⟨h2, by unfold roE; rw [if_pos h2]⟩)
  by_cases h3 : 128 < l.length
  · exact rroChk_len a _ cap _ w (.inr ⟨h2, h3, by omega, by unfold roE; rw [if_neg h2, if_pos h3]⟩)
  obtain ⟨b, off, rfl, hb, hc⟩ := hp.at (by omega)
  obtain ⟨n, hn⟩ : ∃ n, l.length = n + 1 := ⟨l.length - 1, by omega⟩
  have e0 : roE l = if l.any rkOut = true then 2 else if rrB l (l.length - 1) = false then 5 else 0 := by unfold roE; rw [if_neg h2, if_neg h3]
  have ea : (∀ i, i < n + 1 → rkOut (gX l i, gR l i) = false) → l.any rkOut = false := fun h => by
    cases q : l.any rkOut with
    | false => rfl
    | true =>
      obtain ⟨i, hi, hp⟩ := anyq_at.1 q
      have := h i (by omega)
      unfold gX gR at this
      rw [show l.getD i (0, 0) = ((l.getD i (0, 0)).1, (l.getD i (0, 0)).2) from rfl, this] at hp
      cases hp
  have el : l.length - 1 = n := by omega
  rw [hn]
  refine rroChk_core b off n cap l (roE l) w (by omega) hb (Lib.hid hn) (Lib.hid ?_) (Lib.hid ?_) (Lib.hid ?_) (Lib.hid fun j hj => hc j (by omega))
  · rintro ⟨i, hi, hp⟩
    rw [e0, if_pos (anyq_at.2 ⟨i, by omega, hp⟩)]
  · rintro h ⟨i, hi, hp⟩
    rw [e0, if_neg (by rw [ea h]; simp), if_pos]
    cases q : rrB l (l.length - 1) with
    | false => rfl
    | true => exact absurd ((rrB_iff l _).1 q i (by omega)) hp
  · intro h hr
    rw [e0, if_neg (by rw [ea h]; simp), if_neg]
    rw [Bool.not_eq_false]
    exact (rrB_iff l _).2 fun i hi => hr i (by omega)
end Go.Proofs.YtdjlainhaoaeiaaDoor

namespace Go.Proofs.YtdjlainhaoaeiaaDoor
open Go.RowKit

theorem val_take' (s : ByteArray) (k : Nat) (h : k < s.size) : val (s.data.toList.take (k + 1)) = 10 * val (s.data.toList.take k) + ((s[k].toNat : Int) - 48) := by rw [take_snoc s k h, val_snoc]
theorem val_tk_bd' (s : ByteArray) (k : Nat) (hk : k ≤ 10) (h : dgs (s.data.toList.take k) = true) : 0 ≤ val (s.data.toList.take k) ∧ val (s.data.toList.take k) ≤ 999999999999999 :=
  val_small _ h (by rw [List.length_take]; omega)
set_option maxHeartbeats 16000000 in
set_option maxRecDepth 100000 in
theorem rnum_core (s : ByteArray) (w : World) (hs : s.size ≤ 9223372036854775807) (Q : Int → Bool → Prop)
    (h1 : Hid (dgs s.data.toList = false → Q 0 false)) (h3 : Hid (10 < s.size → Q 0 false))
    (h2 : Hid (s.size = 0 → ∀ v, Q v false))
    (h4 : Hid (dgs s.data.toList = true → s.size = 1 → Q (val s.data.toList) true))
    (h5 : Hid (∀ h : 0 < s.size, dgs s.data.toList = true → s.size ≤ 10 → s.size ≠ 1 → s[0].toNat = 48 → ∀ v, Q v false))
    (h6 : Hid (∀ h : 0 < s.size, dgs s.data.toList = true → s.size ≤ 10 → s[0].toNat ≠ 48 → Q (val s.data.toList) true)) :
    Calls Tryd.prog 62 #[.string s] w fun e w' => ∃ v b, e = .returned (.tuple #[.int .i64 v, .bool b]) ∧ Q v b ∧ Below w.heap.size w w' := by
  have em : s.toList.isEmpty = decide (s.size = 0) := by rw [ByteArray.toList_eq]; exact emp_sz s
  have EM := Lib.hid em
  clear em
  go_enter Tryd.func62, Tryd.ntmps62
  go_wp2_with fail
  go_loopw [4, 5] (fun nn ii wr => ∃ i : Nat, i ≤ s.size ∧ i ≤ 10 ∧ ii = .int .i64 i ∧ nn = .int .i64 (val (s.data.toList.take i)) ∧ wr = w ∧ Hid (dgs (s.data.toList.take i) = true)) (fun _ ii _ => s.size - (intOf ii).toNat)
  case atStart => exact ⟨0, by omega, by omega, rfl, rfl, rfl, rfl⟩
  case round =>
    obtain ⟨i, hi, hi10, rfl, rfl, rfl, ha⟩ := hrel
    by_cases hlt : i < s.size
    · cases hc : isDg s[i] with
      | false =>
        have hq := h1.out (dgs_take s i hlt hc)
        have hn := (isDg_not _).1 hc
        clear hc ha h1 h2 h3 h4 h5 h6
        generalize val (s.data.toList.take i) = V at *
        by_cases h48 : s[i].toNat < 48
        · have d0 : decide ((s[i].toNat : Int) < 48) = true := decide_eq_true (by omega)
          clear hn
          go_wp2
          go_returns
          exact ⟨_, _, rfl, hq, Below.refl _ _⟩
        · have d0 : decide ((s[i].toNat : Int) < 48) = false := decide_eq_false (by omega)
          have d1 : decide ((57 : Int) < s[i].toNat) = true := decide_eq_true (by omega)
          clear hn
          go_wp2
          go_returns
          exact ⟨_, _, rfl, hq, Below.refl _ _⟩
      | true =>
        have HA : Hid (dgs (s.data.toList.take (i + 1)) = true) := by show _ = _; rw [take_snoc s i hlt, dgs_snoc, ha.out, hc]; rfl
        obtain ⟨c0, c1⟩ := (isDg_iff _).1 hc
        have d0 : decide ((s[i].toNat : Int) < 48) = false := decide_eq_false (by omega)
        have d1 : decide ((57 : Int) < s[i].toNat) = false := decide_eq_false (by omega)
        have w0 : IntKind.u8.wrap ((s[i].toNat : Int) - 48) = (s[i].toNat : Int) - 48 := by
          show ((s[i].toNat : Int) - 48) % 256 = _
          omega
        by_cases h10 : i < 10
        · have d2 : decide ((10 : Int) ≤ (i : Int)) = false := decide_eq_false (by omega)
          have ev := val_take' s i hlt
          have bd := val_tk_bd' s i (by omega) ha.out
          have EV : Hid (val (s.data.toList.take (i + 1)) = 10 * val (s.data.toList.take i) + ((s[i].toNat : Int) - 48)) := ev
          clear ev hc ha h1 h2 h3 h4 h5 h6
          generalize val (s.data.toList.take i) = V at *
          generalize hb : (s[i].toNat : Int) = b at *
          have w1 : IntKind.i64.wrap (10 * V) = 10 * V := wrap_in _ ⟨by omega, by omega⟩
          have w2 : IntKind.i64.wrap (b - 48) = b - 48 := wrap_in _ ⟨by omega, by omega⟩
          have w3 : IntKind.i64.wrap (10 * V + (b - 48)) = 10 * V + (b - 48) := wrap_in _ ⟨by omega, by omega⟩
          go_wp2
          go_roundw
          case rel => exact ⟨i + 1, by omega, by omega, by go_num, by rw [EV.out], by first | rfl | trivial, HA⟩
          case measure => simp [intOf]; omega
        · have d2 : decide ((10 : Int) ≤ (i : Int)) = true := decide_eq_true (by omega)
          have hq := h3.out (by omega)
          clear hc ha h1 h2 h3 h4 h5 h6
          generalize val (s.data.toList.take i) = V at *
          go_wp2
          go_returns
          exact ⟨_, _, rfl, hq, Below.refl _ _⟩
    · obtain rfl : i = s.size := by omega
      have ha' := ha.out
      rw [take_all s s.size (Nat.le_refl _)] at ha' ⊢
      have H4 := Lib.hid (h4.out ha')
      have H5 := Lib.hid (fun h => h5.out h ha')
      have H6 := Lib.hid (fun h => h6.out h ha')
      clear ha ha' h1 h4 h5 h6 hlt
      generalize val s.data.toList = V at *
      by_cases g1 : s.size = 0
      · have hq := h2.out g1
        have em : s.toList.isEmpty = true := by rw [EM.out]; exact decide_eq_true g1
        clear H4 H5 H6 h2 h3 hi hs g1
        go_wp2_with fail
        go_quiet (fail)
        go_wp2
        go_returns
        exact ⟨_, _, rfl, hq _, bel_drewN _ _⟩
      · have em : s.toList.isEmpty = false := by rw [EM.out]; exact decide_eq_false g1
        by_cases g3 : s.size = 1
        · have hq := H4.out g3
          have z1 : ((s.size : Int) == 1) = true := by simp only [beq_iff_eq]; omega
          clear h2 h3 H4 H5 H6 hi hs g1 g3
          go_wp2_with fail
          go_quiet (fail)
          go_wp2
          go_returns
          exact ⟨_, _, rfl, hq, bel_drewN _ _⟩
        · have hpos : 0 < s.size := by omega
          have lp : (0 : Int) < (s.size : Int) := by omega
          by_cases g4 : s[0].toNat = 48
          · have hq := H5.out hpos (by omega) g3 g4
            have z1 : ((s.size : Int) == 1) = false := by simp only [beq_eq_false_iff_ne, ne_eq]; omega
            have y0 : ((s[0].toNat : Int) != 48) = false := by simp only [bne_eq_false_iff_eq]; omega
            clear h2 h3 H4 H5 H6 hi hs g1 g3 g4
            go_wp2_with fail
            go_quiet (fail)
            go_wp2
            go_returns
            exact ⟨_, _, rfl, hq _, bel_drewN _ _⟩
          · have hq := H6.out hpos (by omega) g4
            have z1 : ((s.size : Int) == 1) = false := by simp only [beq_eq_false_iff_ne, ne_eq]; omega
            have y0 : ((s[0].toNat : Int) != 48) = true := by simp only [bne_iff_ne, ne_eq]; omega
            clear h2 h3 H4 H5 H6 hi hs g1 g3 g4
            go_wp2_with fail
            go_quiet (fail)
            go_wp2
            go_returns
            exact ⟨_, _, rfl, hq, bel_drewN _ _⟩
theorem rnum_any (s : ByteArray) (w : World) (hs : s.size ≤ 9223372036854775807) :
    Calls Tryd.prog 62 #[.string s] w fun e w' => ∃ v b, e = .returned (.tuple #[.int .i64 v, .bool b]) ∧ (b = nmB s ∧ (b = true → v = nmV s)) ∧ Below w.heap.size w w' := by
  have hl : s.data.toList.length = s.size := len_sz s
  have no : ∀ {v}, ¬ (dgs s.data.toList = true ∧ 1 ≤ s.data.toList.length ∧ s.data.toList.length ≤ 10 ∧ (s.data.toList.length = 1 ∨ s.data.toList.head? ≠ some 48)) → false = nmB s ∧ (false = true → v = nmV s) := fun h => ⟨(nm_none h).2.symm, fun h => by cases h⟩
  have yes : (dgs s.data.toList = true ∧ 1 ≤ s.data.toList.length ∧ s.data.toList.length ≤ 10 ∧ (s.data.toList.length = 1 ∨ s.data.toList.head? ≠ some 48)) → true = nmB s ∧ (true = true → val s.data.toList = nmV s) := fun h => ⟨(nm_some h).2.symm, fun _ => (nm_some h).1.symm⟩
  refine rnum_core s w hs (fun v b => b = nmB s ∧ (b = true → v = nmV s)) (Lib.hid fun h => no ?_) (Lib.hid fun h => no ?_) (Lib.hid fun h v => no ?_) (Lib.hid fun h1 h2 => yes ?_) (Lib.hid fun h h1 h2 h3 h4 v => no ?_) (Lib.hid fun h h1 h2 h3 => yes ?_)
  · rintro ⟨q, _⟩; rw [h] at q; cases q
  · rintro ⟨_, _, q, _⟩; omega
  · rintro ⟨_, q, _⟩; omega
  · exact ⟨h1, by omega, by omega, .inl (by omega)⟩
  · rintro ⟨_, _, _, q | q⟩
    · omega
    · rw [head_at s h] at q
      apply q
      congr 1
      apply UInt8.toNat_inj.1
      rw [h4]; rfl
  · refine ⟨h1, by omega, by omega, .inr ?_⟩
    rw [head_at s h]
    intro q
    apply h3
    rw [Option.some.inj q]; rfl
/-- what mark returns of a line without its line feed -/
def mkB (s : ByteArray) : Bool := nmB ⟨(Lib.cut s.data.toList [32]).1.toArray⟩ && nmB ⟨(Lib.cut s.data.toList [32]).2.1.toArray⟩
def mkM (s : ByteArray) : Int × Int := (nmV ⟨(Lib.cut s.data.toList [32]).1.toArray⟩, nmV ⟨(Lib.cut s.data.toList [32]).2.1.toArray⟩)
set_option maxHeartbeats 16000000 in
set_option maxRecDepth 100000 in
theorem rmark_core (s S1 S2 : ByteArray) (k : Nat) (w : World) (hs : s.size ≤ 1000000) (hk : k ≤ s.size) (h0 : Hid (∀ j (h : j < s.size), j < k → (s[j].toNat == 32) = false)) (h1 : Hid (∀ h : k < s.size, s[k].toNat = 32))
    (e1 : Hid (s.extract 0 k = S1)) (e2 : Hid (k < s.size → s.extract (k + 1) s.size = S2)) (z1 : S1.size ≤ 1000000) (z2 : S2.size ≤ 1000000) (hn : Hid (k = s.size → nmB S1 = false ∨ nmB S2 = false)) :
    Calls Tryd.prog 49 #[.string s] w fun e w' => ∃ x v b, e = .returned (.tuple #[.agg #[.int .i64 x, .int .i64 v], .bool b]) ∧ (b = (nmB S1 && nmB S2) ∧ (b = true → x = nmV S1 ∧ v = nmV S2)) ∧ Below w.heap.size w w' := by
  have T0 := Lib.hid (Two.new w (.int .i64 0) (.int .i64 0) 39)
  have X0 : Hid (Below w.heap.size w (w.alloc (.cells #[.int .i64 0, .int .i64 0] 39))) := Lib.hid (bel_alloc (Below.refl _ _))
  have HA : Hid (∀ W, _) := Lib.hid fun W => rnum_any S1 W (by omega)
  have HB : Hid (∀ W, _) := Lib.hid fun W => rnum_any S2 W (by omega)
  go_enter Tryd.func49, Tryd.ntmps49
  go_wp2_with fail
  go_loopw [4] (fun ii wr => ∃ i : Nat, i ≤ k ∧ ii = .int .i64 i ∧ wr = w.alloc (.cells #[.int .i64 0, .int .i64 0] 39)) (fun ii _ => s.size - (intOf ii).toNat)
  case atStart => exact ⟨0, by omega, rfl, rfl⟩
  case round =>
    obtain ⟨i, hi, rfl, rfl⟩ := hrel
    by_cases hlt : i < k
    · have hq := h0.out i (by omega) hlt
      have l1 : (i : Int) < (s.size : Int) := by omega
      have l2 : i < s.size := by omega
      have d0 : ((s[i].toNat : Int) == 32) = false := by
        simp only [beq_eq_false_iff_ne, ne_eq] at hq ⊢; omega
      go_wp2
      go_roundw
      case rel => exact ⟨i + 1, by omega, by go_num, by first | rfl | trivial⟩
      case measure => simp [intOf]; omega
    · obtain rfl : i = k := by omega
      by_cases g : i < s.size
      · have hq := h1.out g
        have l1 : (i : Int) < (s.size : Int) := by omega
        have d0 : ((s[i].toNat : Int) == 32) = true := by simp only [beq_iff_eq]; omega
        have q1 := sl_to s i (by omega) (w.alloc (.cells #[.int .i64 0, .int .i64 0] 39))
        have q2 := fun W => sl_from s (i + 1) (by omega) W
        have q3 : IntKind.i64.wrap ((i : Int) + 1) = ((i + 1 : Nat) : Int) := by rw [wrap_in _ ⟨by omega, by omega⟩]; omega
        have q4 : ((i + 1 : Nat) : Int) = (i : Int) + 1 := by omega
        rw [e1.out] at q1
        simp only [e2.out g] at q2
        simp only [q4] at q2 q3
        clear h0 h1 e1 e2 hn hq
        go_wp2_with fail
        refine (HA.out _).mono ?_
        rintro e w1 ⟨v1, b1, rfl, ⟨hb1, hv1⟩, gg⟩
        replace hb1 := Lib.hid hb1
        replace hv1 := Lib.hid hv1
        replace T0 := Lib.hid (T0.out.below gg)
        replace X0 := Lib.hid (bel_trans X0.out gg); clear gg
        go_wp2_with fail
        refine (HB.out _).mono ?_
        rintro e w2 ⟨v2, b2, rfl, ⟨hb2, hv2⟩, gg⟩
        replace hb2 := Lib.hid hb2
        replace hv2 := Lib.hid hv2
        replace T0 := Lib.hid (T0.out.below gg)
        replace X0 := Lib.hid (bel_trans X0.out gg); clear gg
        obtain ⟨t0, t1, f0, f1, _⟩ := T0.out
        cases b1 <;> cases b2
        all_goals
          go_wp2
          obtain ⟨p0, p1, _, _, _⟩ := (T0.out.set0 (.int .i64 v1)).set1 (.int .i64 v2)
          refine bodyPost_ret (v := .tuple #[.agg #[.int .i64 v1, .int .i64 v2], .bool _]) (by simp [results, Tryd.results49, go_sem, p0, p1]; rfl) rfl ?_
          refine ⟨_, _, _, rfl, ⟨?_, ?_⟩, (X0.out.setCell (Nat.le_refl _) _).setCell (Nat.le_refl _) _⟩
          · rw [← hb1.out, ← hb2.out]; rfl
          · intro h; first | exact ⟨hv1.out (by trivial), hv2.out (by trivial)⟩ | cases h
      · obtain rfl : i = s.size := by omega
        have hn' := hn.out rfl
        obtain ⟨t0, t1, f0, f1, _⟩ := T0.out
        clear h0 h1 e1 e2 hn
        go_wp2
        obtain ⟨p0, p1⟩ := two_read _ w.heap.size (.int .i64 0) (.int .i64 0) t0 t1
        refine bodyPost_ret (v := .tuple #[.agg #[.int .i64 0, .int .i64 0], .bool false]) (by simp [results, Tryd.results49, go_sem, p0, p1]) rfl ?_
        refine ⟨_, _, _, rfl, ⟨?_, fun h => by cases h⟩, X0.out⟩
        rcases hn' with h | h <;> rw [h] <;> simp
theorem ext_data (s : ByteArray) (a b : Nat) : (s.extract a b).data.toList = (s.data.toList.drop a).take (b - a) := Lib.extract_data s a b
theorem ext_size (s : ByteArray) (a b : Nat) : (s.extract a b).size ≤ s.size := by
  rw [← len_sz, ext_data, ← len_sz, List.length_take, List.length_drop]; omega
theorem get_data (s : ByteArray) (j : Nat) (h : j < s.size) : s.data.toList[j]? = some s[j] := by
  rw [List.getElem?_eq_getElem (by rw [len_sz]; exact h), Array.getElem_toList]; rfl
theorem ba_eq {a b : ByteArray} (h : a.data.toList = b.data.toList) : a = b := by
  cases a with | mk a => cases b with | mk b => exact congrArg ByteArray.mk (Array.toList_inj.1 h)
theorem nmB_nil : nmB ⟨#[]⟩ = false := by decide
theorem rmark_any (s : ByteArray) (w : World) (hs : s.size ≤ 1000000) :
    Calls Tryd.prog 49 #[.string s] w fun e w' => ∃ x v b, e = .returned (.tuple #[.agg #[.int .i64 x, .int .i64 v], .bool b]) ∧ (b = mkB s ∧ (b = true → (x, v) = mkM s)) ∧ Below w.heap.size w w' := by
  have fin : ∀ S1 S2 : ByteArray, S1 = ⟨(Lib.cut s.data.toList [32]).1.toArray⟩ → S2 = ⟨(Lib.cut s.data.toList [32]).2.1.toArray⟩ → (Calls Tryd.prog 49 #[.string s] w fun e w' => ∃ x v b, e = .returned (.tuple #[.agg #[.int .i64 x, .int .i64 v], .bool b]) ∧ (b = (nmB S1 && nmB S2) ∧ (b = true → x = nmV S1 ∧ v = nmV S2)) ∧ Below w.heap.size w w') → Calls Tryd.prog 49 #[.string s] w fun e w' => ∃ x v b, e = .returned (.tuple #[.agg #[.int .i64 x, .int .i64 v], .bool b]) ∧ (b = mkB s ∧ (b = true → (x, v) = mkM s)) ∧ Below w.heap.size w w' := fun S1 S2 e1 e2 h => by
    refine h.mono ?_
    rintro e w' ⟨x, v, b, rfl, ⟨hb, hv⟩, gg⟩
    refine ⟨x, v, b, rfl, ⟨?_, fun h => ?_⟩, gg⟩
    · rw [hb]; unfold mkB; rw [← e1, ← e2]
    · obtain ⟨h1, h2⟩ := hv h
      unfold mkM
      rw [← e1, ← e2, h1, h2]
  by_cases g : (32 : UInt8) ∈ s.data.toList
  · obtain ⟨a, b, ha, hab⟩ := first_of g
    have hl : s.size = a.length + (b.length + 1) := by rw [← len_sz, hab]; simp
    have hc := cut_at (b := b) ha
    have g0 : ∀ j (h : j < s.size), s.data.toList[j]? = some s[j] := fun j h => get_data s j h
    refine fin (s.extract 0 a.length) (s.extract (a.length + 1) s.size) (ba_eq ?_) (ba_eq ?_) (rmark_core s _ _ a.length w hs (by omega) (Lib.hid fun j h hj => ?_) (Lib.hid fun h => ?_) (Lib.hid rfl) (Lib.hid fun _ => rfl) (by have := ext_size s 0 a.length; omega) (by have := ext_size s (a.length + 1) s.size; omega) (Lib.hid fun h => by omega))
    · rw [ext_data, hab, hc]; simp
    · rw [ext_data, hl, hab, hc]
      simp
      rw [List.take_of_length_le (by omega)]
    · have e := g0 j h
      rw [hab, List.getElem?_append_left hj] at e
      have hm : s[j] ∈ a := List.mem_of_getElem? e
      simp only [beq_eq_false_iff_ne, ne_eq]
      intro q
      apply ha
      rw [show (32 : UInt8) = s[j] from UInt8.toNat_inj.1 (by rw [q]; rfl)]
      exact hm
    · have e := g0 a.length h
      rw [hab, List.getElem?_append_right (Nat.le_refl _), Nat.sub_self] at e
      simp at e
      rw [← e]; rfl
  · have hc := cut_no g
    refine fin s ⟨#[]⟩ (ba_eq (by rw [hc])) (ba_eq (by rw [hc])) (rmark_core s _ _ s.size w hs (Nat.le_refl _) (Lib.hid fun j h hj => ?_) (Lib.hid fun h => by omega) (Lib.hid ?_) (Lib.hid fun h => by omega) (by omega) (by decide) (Lib.hid fun _ => .inr nmB_nil))
    · have e := get_data s j h
      have hm : s[j] ∈ s.data.toList := List.mem_of_getElem? e
      simp only [beq_eq_false_iff_ne, ne_eq]
      intro q
      apply g
      rw [show (32 : UInt8) = s[j] from UInt8.toNat_inj.1 (by rw [q]; rfl)]
      exact hm
    · apply ba_eq
      rw [ext_data, List.drop_zero, Nat.sub_zero, List.take_of_length_le (by rw [len_sz]; exact Nat.le_refl _)]
end Go.Proofs.YtdjlainhaoaeiaaDoor

namespace Go.Proofs.YtdjlainhaoaeiaaDoor
open Go.RowKit
open RM

theorem rprt_bad (v : Value) (E : Int) (w : World) (e2 : (E != 0) = true)
    (H1 : Hid (Calls Tryd.prog 22 #[v] w fun e w' => e = .returned (.int .i64 E) ∧ Below w.heap.size w w')) :
    Calls Tryd.prog 24 #[v] w fun e w' => e = .returned (.tuple #[str [], .int .i64 E]) ∧ Below w.heap.size w w' := by
  go_enter Tryd.func24, Tryd.ntmps24
  go_wp2_with fail
  refine H1.out.mono ?_
  rintro e w1 ⟨rfl, gg⟩
  have X1 := Lib.hid gg; clear gg
  go_wp2
  go_returns
  exact ⟨rfl, X1.out⟩
set_option maxHeartbeats 16000000 in
set_option maxRecDepth 100000 in
theorem rprt_some (b off n cap : Nat) (l : List (Int × Int)) (w : World) (hw : CV w) (n1 : n ≤ 128) (hb : b < w.heap.size)
    (hc : Hid (∀ j, j < n → w.cell? ⟨b, off + j * 2, none⟩ = some (.int .i64 (gX l j)) ∧ w.cell? ⟨b, off + j * 2 + 1, none⟩ = some (.int .i64 (gR l j))))
    (hx : Hid (∀ j, j < n → (0 ≤ gX l j ∧ gX l j ≤ 200000) ∧ 0 ≤ gR l j ∧ gR l j ≤ 4294967296))
    (H1 : Hid (Calls Tryd.prog 22 #[.slice (some ⟨b, off, none⟩) n cap] w fun e w' => e = .returned (.int .i64 0) ∧ Below w.heap.size w w')) :
    Calls Tryd.prog 24 #[.slice (some ⟨b, off, none⟩) n cap] w fun e w' => e = .returned (.tuple #[str (roK l n), .int .i64 0]) ∧ Below w.heap.size w w' := by
  have HW := Lib.hid hw
  clear hw
  go_enter Tryd.func24, Tryd.ntmps24
  go_wp2_with fail
  refine H1.out.mono ?_
  rintro e w1 ⟨rfl, gg⟩
  have X1 := Lib.hid gg; clear gg
  go_wp2_with fail
  go_loopw [5, 6] (fun ss ii wr => ∃ k : Nat, k ≤ n ∧ ii = .int .i64 (k : Int) ∧ ss = .string ⟨(roK l k).toArray⟩ ∧ Hid (Below w.heap.size w wr)) (fun _ ii _ => n - (intOf ii).toNat)
  case atStart => exact ⟨0, by omega, rfl, rfl, X1⟩
  case round =>
    clear X1
    obtain ⟨k, hk, rfl, rfl, hB⟩ := hrel
    by_cases hlt : k < n
    · have c0 := cell_bel (hc.out k hlt).1 hB.out
      have c1 := cell_bel (hc.out k hlt).2 hB.out
      have CC : Hid (∀ W, Below w.heap.size w W → W.cell? ⟨b, off + k * 2, none⟩ = some (.int .i64 (gX l k)) ∧ W.cell? ⟨b, off + k * 2 + 1, none⟩ = some (.int .i64 (gR l k))) := Lib.hid fun W hW => ⟨cell_bel (hc.out k hlt).1 hW, cell_bel (hc.out k hlt).2 hW⟩
      have l0 : (k : Int) < (n : Int) := by omega
      obtain ⟨bx, br⟩ := hx.out k hlt
      have tl := roK_len hx.out k (by omega)
      have ln := mkN_len bx br
      have eN0 : Hid (roK l (k + 1) = roK l k ++ mkN (gX l k, gR l k)) := Lib.hid (roK_succ l k)
      have K1 : Hid (∀ W, Below w.heap.size w W → Calls Tryd.prog 45 #[.int .i64 (gX l k)] W fun e w' => e = .returned (.string ⟨(Lib.itoa (gX l k)).toArray⟩) ∧ Below W.heap.size W w') := Lib.hid fun W h => itoa_any _ W (by omega) (HW.out.below h)
      have K2 : Hid (∀ W, Below w.heap.size w W → Calls Tryd.prog 45 #[.int .i64 (gR l k)] W fun e w' => e = .returned (.string ⟨(Lib.itoa (gR l k)).toArray⟩) ∧ Below W.heap.size W w') := Lib.hid fun W h => itoa_any _ W (by omega) (HW.out.below h)
      have t0 : (⟨(roK l k).toArray⟩ : ByteArray).size ≤ 5632 := by rw [str_size]; omega
      have t1 : (⟨(Lib.itoa (gX l k)).toArray⟩ : ByteArray).size ≤ 21 := by rw [str_size]; exact ln.1
      have t2 : (⟨(Lib.itoa (gR l k)).toArray⟩ : ByteArray).size ≤ 21 := by rw [str_size]; exact ln.2.1
      have eN : Hid ((⟨(roK l k).toArray⟩ : ByteArray) ++ (⟨(Lib.itoa (gX l k)).toArray⟩ ++ ⟨#[32]⟩ ++ ⟨(Lib.itoa (gR l k)).toArray⟩ ++ ⟨#[10]⟩) = ⟨(roK l (k + 1)).toArray⟩) := Lib.hid (by
        apply ba_eq
        rw [eN0.out]
        unfold mkN
        simp [ByteArray.data_append])
      clear ln tl eN0
      generalize (⟨(roK l k).toArray⟩ : ByteArray) = S at *
      generalize (⟨(Lib.itoa (gX l k)).toArray⟩ : ByteArray) = D1 at *
      generalize (⟨(Lib.itoa (gR l k)).toArray⟩ : ByteArray) = D2 at *
      generalize gX l k = X at *
      generalize gR l k = R at *
      have s1 : (D1 ++ ⟨#[32]⟩ : ByteArray).size = D1.size + 1 := by rw [ByteArray.size_append]; rfl
      have s2 : (D1 ++ ⟨#[32]⟩ ++ D2 : ByteArray).size = D1.size + 1 + D2.size := by rw [ByteArray.size_append, s1]
      have s3 : (D1 ++ ⟨#[32]⟩ ++ D2 ++ ⟨#[10]⟩ : ByteArray).size = D1.size + 1 + D2.size + 1 := by rw [ByteArray.size_append, s2]; rfl
      have u1 : ¬ D1.size + (⟨#[32]⟩ : ByteArray).size > 9223372036854775807 := by show ¬ D1.size + 1 > _; omega
      have u2 : ¬ (D1 ++ ⟨#[32]⟩ : ByteArray).size + D2.size > 9223372036854775807 := by omega
      have u3 : ¬ (D1 ++ ⟨#[32]⟩ ++ D2 : ByteArray).size + (⟨#[10]⟩ : ByteArray).size > 9223372036854775807 := by show ¬ (D1 ++ ⟨#[32]⟩ ++ D2 : ByteArray).size + 1 > 9223372036854775807; omega
      have u4 : ¬ S.size + (D1 ++ ⟨#[32]⟩ ++ D2 ++ ⟨#[10]⟩ : ByteArray).size > 9223372036854775807 := by omega
      have r1 : ¬ D1.size + 1 > 9223372036854775807 := by omega
      have r2 : ¬ D1.size + 1 + D2.size > 9223372036854775807 := by omega
      have r3 : ¬ D1.size + 1 + D2.size + 1 > 9223372036854775807 := by omega
      have r4 : ¬ S.size + (D1.size + 1 + D2.size + 1) > 9223372036854775807 := by omega
      have q1 : D1.size + 1 ≤ 9223372036854775807 := by omega
      have q2 : D1.size + 1 + D2.size ≤ 9223372036854775807 := by omega
      have q3 : D1.size + 1 + D2.size + 1 ≤ 9223372036854775807 := by omega
      have q4 : S.size + (D1.size + 1 + D2.size + 1) ≤ 9223372036854775807 := by omega
      clear s1 s2 s3 t0 t1 t2 bx br
      go_upto_region 8 with fail
      replace hB := Lib.hid (bel_trans hB.out (bel_drew _))
      go_region_held3 (fun w' => w'.cell? ⟨b, off + k * 2, none⟩ = some (.int .i64 X) ∧ w'.cell? ⟨b, off + k * 2 + 1, none⟩ = some (.int .i64 R)) (go_keep) (first
        | (go_at_call 45; (with_reducible refine (K1.out _ hB.out).mono ?_); rintro e w5 ⟨rfl, gg⟩; replace hB := Lib.hid (bel_trans hB.out gg); obtain ⟨c0, c1⟩ := CC.out _ hB.out; clear gg)
        | (go_at_call 45; (with_reducible refine (K2.out _ hB.out).mono ?_); rintro e w6 ⟨rfl, gg⟩; replace hB := Lib.hid (bel_trans hB.out gg); obtain ⟨c0, c1⟩ := CC.out _ hB.out; clear gg))
      all_goals
        go_wp2
        go_roundw
        case rel => exact ⟨k + 1, by omega, by go_num, by rw [← eN.out], hB⟩
        case measure => simp [intOf]; omega
    · obtain rfl : k = n := by omega
      go_wp2
      go_returns
      exact ⟨rfl, hB.out⟩
theorem rprt_any (v : Value) (l : List (Int × Int)) (w : World) (hw : CV w) (hp : Pts w v l) :
    Calls Tryd.prog 24 #[v] w fun e w' => e = .returned (.tuple #[str (rpS l), .int .i64 (roE l)]) ∧ Below w.heap.size w w' := by
  have H1 := Lib.hid (rroChk_any v l w hp)
  unfold rpS
  by_cases h : roE l = 0
  · rw [if_pos h, h]
    rw [h] at H1
    have hR := roE_iff.1 h
    have n0 := hR.n0
    have hp2 := hp
    obtain ⟨a', cap', rfl, _, _⟩ := hp2
    obtain ⟨b, off, rfl, hb, hc⟩ := hp.at (by omega)
    exact rprt_some b off _ cap' l w hw hR.n1 hb (Lib.hid hc) (Lib.hid fun j hj => ⟨hR.bh j hj, by have := hR.bv j hj; omega⟩) H1
  · rw [if_neg h]
    exact rprt_bad v _ w (by simpa using h) H1
theorem slcM (s : ByteArray) (f k : Nat) (h1 : f ≤ k) (h2 : k ≤ s.size) (w : World) :
    (Instr.slice 9 (.string s) (some (.int .i64 f)) (some (.int .i64 k)) none).run Tryd.prog w = .ok (.string (s.extract f k)) w := by
  have := run_slice_string (P := Tryd.prog) w 9 s .i64 .i64 f k Tryd.underlying9 (by omega) (by omega) (by omega)
  simpa using this
theorem rpar_big (s : ByteArray) (w : World) (hs : 4096 < s.size) :
    Calls Tryd.prog 26 #[.string s] w fun e w' => e = .returned (.tuple #[.slice none 0 0, .int .i64 0, .int .i64 8]) ∧ Below w.heap.size w w' := by
  have d : decide ((4096 : Int) < (s.size : Int)) = true := decide_eq_true (by omega)
  have X := Lib.hid (Below.refl w.heap.size w)
  go_enter Tryd.func26, Tryd.ntmps26
  go_wp2
  go_returns
  exact ⟨rfl, X.out⟩
set_option maxHeartbeats 32000000 in
set_option maxRecDepth 100000 in
theorem rpar_core (s : ByteArray) (w : World) (hs : s.size ≤ 4096) (F : Nat → Nat) (Lm : Nat → List (Int × Int)) (pc : Nat → ByteArray) (good : Nat → Prop) (N E : Int) (L : List (Int × Int))
    (hF0 : F 0 = 0) (hL0 : Lm 0 = []) (hg0 : good 0) (hF : Hid (∀ i, i ≤ s.size → F i ≤ i)) (hpc : Hid (∀ i, i ≤ s.size → s.extract (F i) i = pc i))
    (hl : Hid (∀ i, i ≤ s.size → (Lm i).length ≤ i))
    (hno : Hid (∀ i (h : i < s.size), (s[i].toNat != 10) = true → F (i + 1) = F i ∧ Lm (i + 1) = Lm i ∧ (good i → good (i + 1))))
    (hyes : Hid (∀ i (h : i < s.size), (s[i].toNat != 10) = false → mkB (pc i) = true → F (i + 1) = i + 1 ∧ Lm (i + 1) = Lm i ++ [mkM (pc i)] ∧ (good i → good (i + 1))))
    (hbad : Hid (∀ i (h : i < s.size), (s[i].toNat != 10) = false → mkB (pc i) = false → good i → N = (Lm i).length + 1 ∧ E = 3 ∧ L = []))
    (hend : Hid (good s.size → F s.size < s.size → N = (Lm s.size).length + 1 ∧ E = 3 ∧ L = []))
    (hfin : Hid (good s.size → ¬ F s.size < s.size → N = 0 ∧ E = roE (Lm s.size) ∧ ((roE (Lm s.size) ≠ 0 ∧ L = []) ∨ (roE (Lm s.size) = 0 ∧ L = Lm s.size)))) :
    Calls Tryd.prog 26 #[.string s] w fun e w' => ∃ v, e = .returned (.tuple #[v, .int .i64 N, .int .i64 E]) ∧ Pts w' v L ∧ Below w.heap.size w w' := by
  obtain ⟨i0, hi, hz0, hz1, hz2⟩ := RM.info_parts mk_info
  replace hi := Lib.hid hi
  replace hz0 := Lib.hid hz0
  replace hz1 := Lib.hid hz1
  replace hz2 := Lib.hid hz2
  have d : decide ((4096 : Int) < (s.size : Int)) = false := decide_eq_false (by omega)
  have S0 : Hid (MkI w (.slice none 0 0) (Lm 0) w) := Lib.hid ⟨Below.refl _ _, by rw [hL0]; exact RM.nil _ _⟩
  have HM : Hid (∀ i W, i ≤ s.size → _) := Lib.hid fun i W (h : i ≤ s.size) => rmark_any (pc i) W (by rw [← hpc.out i h]; have := ext_size s (F i) i; omega)
  have HCk : Hid (∀ v i W, Pts W v (Lm i) → _) := Lib.hid fun v i W (h : Pts W v (Lm i)) => rroChk_any v (Lm i) W h
  go_enter Tryd.func26, Tryd.ntmps26
  go_wp2_with fail
  go_loopw [5, 6, 7, 9] (fun oo ff ii _ wr => ∃ i : Nat, i ≤ s.size ∧ ii = .int .i64 (i : Int) ∧ ff = .int .i64 (F i : Nat) ∧ Hid (good i) ∧ Hid (MkI w oo (Lm i) wr)) (fun _ _ ii _ _ => s.size - (intOf ii).toNat)
  case atStart => exact ⟨0, by omega, rfl, by rw [hF0]; rfl, Lib.hid hg0, S0⟩
  case round =>
    clear S0
    obtain ⟨i, hi', rfl, rfl, hg, hS⟩ := hrel
    obtain ⟨av, cv, ev⟩ := RM.shape hS.out.2
    subst ev
    have hll := hl.out i hi'
    by_cases hlt : i < s.size
    · have l1 : (i : Int) < (s.size : Int) := by omega
      by_cases h10 : (s[i].toNat != 10) = true
      · obtain ⟨f1, f2, f3⟩ := hno.out i hlt h10
        have hg' := Lib.hid (f3 hg.out)
        have d10 : ((s[i].toNat : Int) != 10) = true := by simp only [bne_iff_ne, ne_eq] at h10 ⊢; omega
        have S1 : Hid (MkI w (.slice av (Lm i).length cv) (Lm (i + 1)) wr) := Lib.hid (by rw [f2]; exact hS.out)
        replace f1 := Lib.hid f1
        clear f2 f3 hno hyes hbad hend hfin hS
        generalize (Lm i).length = n at *
        go_wp2
        go_roundw
        case rel => exact ⟨i + 1, by omega, by go_num, by rw [f1.out], hg', S1⟩
        case measure => simp [intOf]; omega
      · have h10' : (s[i].toNat != 10) = false := by simpa using h10
        have d10 : ((s[i].toNat : Int) != 10) = false := by simp only [bne_eq_false_iff_eq] at h10' ⊢; omega
        have hfi := hF.out i hi'
        have SL := slcM s (F i) i hfi hi'
        rw [hpc.out i hi'] at SL
        have HQ := Lib.hid (HM.out i wr hi')
        have X := Lib.hid hS.out.1
        have wl : IntKind.i64.wrap (((Lm i).length : Int) + 1) = ((Lm i).length : Int) + 1 := wrap_in _ ⟨by omega, by omega⟩
        cases hB : mkB (pc i) with
        | false =>
          obtain ⟨eN, rfl, rfl⟩ := hbad.out i hlt h10' hB hg.out
          replace eN := Lib.hid eN
          rw [hB] at HQ
          clear hno hyes hbad hend hfin hS HM HCk
          generalize (Lm i).length = n at *
          generalize F i = fi at *
          go_wp2_with fail
          refine HQ.out.mono ?_
          rintro e w1 ⟨x1, v1, b1, rfl, ⟨rfl, _⟩, gg⟩
          have X1 := Lib.hid (bel_trans X.out (bel_trans gg (bel_alloc (o := .cells #[.int .i64 x1, .int .i64 v1] 39) (Below.refl _ _)))); clear gg
          go_wp2
          go_returns
          have eN' := eN.out
          subst eN'
          exact ⟨_, rfl, pts_nil _, X1.out⟩
        | true =>
          obtain ⟨f1, f2, f3⟩ := hyes.out i hlt h10' hB
          have hg' := Lib.hid (f3 hg.out)
          rw [hB] at HQ
          replace f1 := Lib.hid f1
          replace f2 := Lib.hid f2
          clear f3 hno hyes hbad hend hfin HM HCk
          obtain ⟨n, hn⟩ : ∃ n, n = (Lm i).length := ⟨_, rfl⟩
          rw [← hn] at wl hll ⊢
          replace hn := Lib.hid hn
          generalize F i = fi at *
          go_wp2_with fail
          refine HQ.out.mono ?_
          rintro e w1 ⟨x1, v1, b1, rfl, ⟨rfl, hxv⟩, gg⟩
          have hxv := hxv rfl
          have S4 := Lib.hid ((hS.out.below gg).below (bel_alloc (o := .cells #[.int .i64 x1, .int .i64 v1] 39) (Below.refl _ _)))
          have P4 := Lib.hid (Two.new w1 (.int .i64 x1) (.int .i64 v1) 39)
          have eL : Hid (Lm (i + 1) = Lm i ++ [(x1, v1)]) := Lib.hid (by rw [f2.out, hxv])
          clear gg hS X HQ f2 hxv
          obtain ⟨W4, hW4⟩ : ∃ W4, W4 = w1.alloc (.cells #[.int .i64 x1, .int .i64 v1] 39) := ⟨_, rfl⟩
          obtain ⟨p4, hp4⟩ : ∃ p4, p4 = w1.heap.size := ⟨_, rfl⟩
          rw [← hW4] at S4 P4
          rw [← hp4] at P4
          obtain ⟨y0, y1, _, _, _⟩ := P4.out
          have OA : Hid ((W4.alloc (.cells #[.int .i64 x1, .int .i64 v1] 39)).ownsRow w.heap.size 39 2 (.slice av n cv) n (flat (Lm i))) := Lib.hid (by
            have := RM.below S4.out.2 (bel_alloc (o := .cells #[.int .i64 x1, .int .i64 v1] 39) (Below.refl _ _))
            unfold OwnM at this
            rwa [← hn.out] at this)
          have CN := Lib.hid (RM.pair_new W4 x1 v1 39)
          have S5 := Lib.hid (S4.out.below (bel_alloc (o := .cells #[.int .i64 x1, .int .i64 v1] 39) (Below.refl _ _)))
          have HS : Hid (w.heap.size ≤ (W4.alloc (.cells #[.int .i64 x1, .int .i64 v1] 39)).heap.size) := Lib.hid S5.out.1.size
          have M1 : Hid (n + 1 ≤ maxLen) := Lib.hid (by unfold maxLen; omega)
          have M2 : Hid ((n + 1) * 16 ≤ 140737488355328) := Lib.hid (by omega)
          go_wp2_with (first | (rw [← hW4, ← hp4]; clear hW4 hp4) | (at_builtin; refine wpList_append_own_at _ rfl _ _ 22 rfl w.heap.size 39 i0 (.agg #[.int .i64 0, .int .i64 0]) 2 16 Tryd.underlying22 hi.out hz0.out hz1.out hz2.out rfl (by omega) _ _ _ rfl OA.out ⟨W4.heap.size, 0, none⟩ 1 1 [.int .i64 x1, .int .i64 v1] rfl rfl CN.out (RM.pair_one x1 v1) M1.out M2.out HS.out ?_))
          intro v2 w5 hown hgrow _ _
          have SN : Hid (MkI w v2 (Lm (i + 1)) w5) := Lib.hid (by
            have lt := fun r hr => (World.ownsRow.lt OA.out r hr).1
            exact ⟨S5.out.1.grown hgrow HS.out lt, RM.push eL.out hn.out.symm hown⟩)
          clear hown hgrow OA CN y0 y1 P4 S4 S5 HS
          go_wp2
          go_roundw
          case rel => exact ⟨i + 1, by omega, by go_num, by rw [f1.out]; go_num, hg', SN⟩
          case measure => simp [intOf]; omega
    · obtain rfl : i = s.size := by omega
      have X := Lib.hid hS.out.1
      have PV := Lib.hid (RM.pts hS.out.2)
      have wl : IntKind.i64.wrap (((Lm s.size).length : Int) + 1) = ((Lm s.size).length : Int) + 1 := wrap_in _ ⟨by omega, by omega⟩
      by_cases gF : F s.size < s.size
      · have dF : decide (((F s.size : Nat) : Int) < (s.size : Int)) = true := decide_eq_true (by omega)
        obtain ⟨eN, rfl, rfl⟩ := hend.out hg.out gF
        replace eN := Lib.hid eN
        clear hno hyes hbad hend hfin HM HCk hS PV hl hpc hF
        generalize (Lm s.size).length = n at *
        generalize F s.size = fi at *
        go_wp2
        go_returns
        have eN' := eN.out
        subst eN'
        exact ⟨_, rfl, pts_nil _, X.out⟩
      · have dF : decide (((F s.size : Nat) : Int) < (s.size : Int)) = false := decide_eq_false (by omega)
        obtain ⟨rfl, eE, hL⟩ := hfin.out hg.out gF
        have HQ := Lib.hid (HCk.out _ s.size wr PV.out)
        rw [← eE] at HQ hL
        replace eE := Lib.hid eE
        clear hno hyes hbad hend hfin HM HCk hl hpc hF hS wl
        generalize hn : (Lm s.size).length = n at *
        replace hn := Lib.hid hn
        generalize F s.size = fi at *
        go_wp2_with fail
        refine HQ.out.mono ?_
        rintro e w1 ⟨rfl, gg⟩
        replace X := Lib.hid (bel_trans X.out gg)
        have PV2 := Lib.hid (PV.out.below gg); clear gg
        rcases hL with ⟨h, rfl⟩ | ⟨rfl, rfl⟩
        · have e1 : (E != 0) = true := by simpa using h
          replace h := Lib.hid h
          go_wp2
          go_returns
          exact ⟨.slice none 0 0, rfl, pts_nil _, X.out⟩
        · go_wp2
          go_returns
          exact ⟨_, rfl, PV2.out, X.out⟩
end Go.Proofs.YtdjlainhaoaeiaaDoor

namespace Go.Proofs.YtdjlainhaoaeiaaDoor
open Go.RowKit

theorem lf_mk (l : List UInt8) : lnB (l ++ [10]) = mkB ⟨l.toArray⟩ ∧ lnM (l ++ [10]) = mkM ⟨l.toArray⟩ := by
  obtain ⟨h1, h2⟩ := tsuf_nl l
  have e : lnC (l ++ [10]) = Lib.cut l [32] := by unfold lnC; rw [h2]
  have el : (⟨l.toArray⟩ : ByteArray).data.toList = l := by simp
  constructor
  · unfold lnB mkB; rw [h1, e, el]; rfl
  · unfold lnM mkM; rw [e, el]
theorem hsuf_no {c : List UInt8} (h : (10 : UInt8) ∉ c) : Lib.hasSuffix c [10] = false := by
  cases q : Lib.hasSuffix c [10] with
  | false => rfl
  | true =>
    have := hsuf_nl q
    exact absurd (by rw [this]; simp) h
def stO (s : ByteArray) (i : Nat) : List (List UInt8) := (fl 10 ([], []) (s.data.toList.take i)).1
def stC (s : ByteArray) (i : Nat) : List UInt8 := (fl 10 ([], []) (s.data.toList.take i)).2
theorem st_step (s : ByteArray) (i : Nat) (h : i < s.size) : (stO s (i + 1), stC s (i + 1)) = stp 10 (stO s i, stC s i) s[i] := by
  have e : fl 10 ([], []) (s.data.toList.take (i + 1)) = stp 10 (fl 10 ([], []) (s.data.toList.take i)) s[i] := by rw [take_snoc s i h, fl_snoc]
  show (_, _) = _
  unfold stO stC
  rw [e]
theorem st_join (s : ByteArray) (i : Nat) : (stO s i).flatMap (· ++ [10]) ++ stC s i = s.data.toList.take i := by
  have := fl_join 10 (s.data.toList.take i) [] []
  simpa [stO, stC] using this
theorem st_len (s : ByteArray) (i : Nat) (h : i ≤ s.size) : (stC s i).length ≤ i ∧ (stO s i).length ≤ i := by
  have e := congrArg List.length (st_join s i)
  rw [List.length_append, List.length_take, len_sz, Nat.min_eq_left h] at e
  have k : ∀ L : List (List UInt8), L.length ≤ (L.flatMap (· ++ [(10 : UInt8)])).length := by
    intro L
    induction L with
    | nil => simp
    | cons a L ih => rw [List.flatMap_cons, List.length_append, List.length_append, List.length_cons]; simp only [List.length_cons, List.length_nil]; omega
  have := k (stO s i)
  omega
theorem st_pc (s : ByteArray) (i : Nat) (h : i ≤ s.size) : s.extract (i - (stC s i).length) i = ⟨(stC s i).toArray⟩ := by
  apply ba_eq
  have hl := (st_len s i h).1
  rw [ext_data, Nat.sub_sub_self hl]
  have e := st_join s i
  have el := congrArg List.length e
  rw [List.length_append, List.length_take, len_sz, Nat.min_eq_left h] at el
  have e2 : (s.data.toList.take i).drop (i - (stC s i).length) = stC s i := by
    rw [← e, show i - (stC s i).length = ((stO s i).flatMap (· ++ [10])).length by omega, List.drop_left]
  rw [List.drop_take, Nat.sub_sub_self hl] at e2
  rw [e2]
theorem rpar_any (s : ByteArray) (w : World) :
    Calls Tryd.prog 26 #[.string s] w fun e w' => ∃ v, e = .returned (.tuple #[v, .int .i64 (pnN s), .int .i64 (pnE s)]) ∧ Pts w' v (pnL s) ∧ Below w.heap.size w w' := by
  by_cases hs : s.size ≤ 4096
  · have goodP : ∀ L : List (List UInt8), (∀ l ∈ L, mkB ⟨l.toArray⟩ = true) → paG (L.map lf) 0 = none := fun L h => paG_none fun x hx => by
      obtain ⟨l, hl, rfl⟩ := List.mem_map.1 hx
      rw [lf_dt, (lf_mk l).1]
      exact h l hl
    have tk : s.data.toList.take s.size = s.data.toList := take_all s s.size (Nat.le_refl _)
    have eS : fl 10 ([], []) s.data.toList = (stO s s.size, stC s s.size) := by unfold stO stC; rw [tk]
    have eL : liN s.data.toList = (stO s s.size).map lf ++ (if stC s s.size = [] then [] else [⟨(stC s s.size).toArray⟩]) := by rw [liN_eq, eS]
    have cl : ∀ i, (10 : UInt8) ∉ stC s i := fun i => (fl_clean 10 (s.data.toList.take i) [] [] (by simp) (by simp)).2
    have n10 : ∀ i (h : i < s.size), (s[i].toNat != 10) = true → stO s (i + 1) = stO s i ∧ stC s (i + 1) = stC s i ++ [s[i]] := fun i h hq => by
      have e := st_step s i h
      unfold stp at e
      rw [if_neg (by intro q; rw [q] at hq; revert hq; decide)] at e
      exact ⟨(Prod.mk.inj e).1, (Prod.mk.inj e).2⟩
    have y10 : ∀ i (h : i < s.size), (s[i].toNat != 10) = false → stO s (i + 1) = stO s i ++ [stC s i] ∧ stC s (i + 1) = [] := fun i h hq => by
      have e := st_step s i h
      unfold stp at e
      rw [if_pos (by apply UInt8.toNat_inj.1; simp only [bne_eq_false_iff_eq] at hq; rw [hq]; rfl)] at e
      exact ⟨(Prod.mk.inj e).1, (Prod.mk.inj e).2⟩
    refine rpar_core s w hs (fun i => i - (stC s i).length) (fun i => (stO s i).map fun l => mkM ⟨l.toArray⟩) (fun i => ⟨(stC s i).toArray⟩) (fun i => ∀ l ∈ stO s i, mkB ⟨l.toArray⟩ = true) (pnN s) (pnE s) (pnL s) (by simp) (by simp [stO, fl]) (by simp [stO, fl]) (Lib.hid fun i h => by omega) (Lib.hid fun i h => st_pc s i h) (Lib.hid fun i h => by rw [List.length_map]; exact (st_len s i h).2) (Lib.hid fun i h hq => ?_) (Lib.hid fun i h hq hb => ?_) (Lib.hid fun i h hq hb hg => ?_) (Lib.hid fun hg hF => ?_) (Lib.hid fun hg hF => ?_)
    · obtain ⟨e1, e2⟩ := n10 i h hq
      have := (st_len s i (by omega)).1
      refine ⟨?_, ?_, ?_⟩
      · show i + 1 - (stC s (i + 1)).length = i - (stC s i).length
        rw [e2, List.length_append, List.length_singleton]; omega
      · show (stO s (i + 1)).map _ = _
        rw [e1]
      · show (∀ l ∈ stO s i, _) → ∀ l ∈ stO s (i + 1), _
        rw [e1]; exact fun h => h
    · obtain ⟨e1, e2⟩ := y10 i h hq
      refine ⟨?_, ?_, ?_⟩
      · show i + 1 - (stC s (i + 1)).length = i + 1
        rw [e2]; simp
      · show (stO s (i + 1)).map _ = _
        rw [e1, List.map_append]; rfl
      · show (∀ l ∈ stO s i, _) → ∀ l ∈ stO s (i + 1), _
        rw [e1]
        intro hg l hl
        rcases List.mem_append.1 hl with hl | hl
        · exact hg l hl
        · rw [List.mem_singleton] at hl; rw [hl]; exact hb
    · obtain ⟨e1, e2⟩ := y10 i h hq
      have e3 : fl 10 ([], []) s.data.toList = ((stO s i ++ [stC s i]) ++ (fl 10 ([], []) (s.data.toList.drop (i + 1))).1, (fl 10 ([], []) (s.data.toList.drop (i + 1))).2) := by
        conv => lhs; rw [← List.take_append_drop (i + 1) s.data.toList, fl_app]
        have : fl 10 ([], []) (s.data.toList.take (i + 1)) = (stO s i ++ [stC s i], []) := Prod.ext e1 e2
        rw [this, fl_acc]
      rw [eS] at e3
      have e4 := congrArg Prod.fst e3
      have e4' : stO s s.size = (stO s i ++ [stC s i]) ++ (fl 10 ([], []) (s.data.toList.drop (i + 1))).1 := e4
      have hp : paG (liN s.data.toList) 0 = some ((stO s i).length + 1) := by
        rw [eL, e4', List.map_append, List.map_append, List.append_assoc, List.append_assoc]
        show paG ((stO s i).map lf ++ lf (stC s i) :: _) 0 = _
        rw [paG_pre (goodP _ hg), lf_dt, (lf_mk _).1, if_neg (by rw [hb]; simp), List.length_map]
        simp
      obtain ⟨p1, p2, p3⟩ := pn_bad hs hp
      refine ⟨?_, p1, p3⟩
      rw [p2, List.length_map]; omega
    · have hne : stC s s.size ≠ [] := by
        intro q
        have : s.size - (stC s s.size).length < s.size := hF
        rw [q] at this; simp at this
      have hp : paG (liN s.data.toList) 0 = some ((stO s s.size).length + 1) := by
        rw [eL, if_neg hne, paG_pre (goodP _ hg)]
        have : lnB (⟨(stC s s.size).toArray⟩ : ByteArray).data.toList = false := by
          unfold lnB
          rw [show (⟨(stC s s.size).toArray⟩ : ByteArray).data.toList = stC s s.size by simp, hsuf_no (cl s.size)]; rfl
        rw [this, List.length_map]
        simp
      obtain ⟨p1, p2, p3⟩ := pn_bad hs hp
      refine ⟨?_, p1, p3⟩
      rw [p2, List.length_map]; omega
    · have hl := (st_len s s.size (Nat.le_refl _)).1
      have he : stC s s.size = [] := by
        have : ¬ s.size - (stC s s.size).length < s.size := hF
        cases q : stC s s.size with
        | nil => rfl
        | cons a b => rw [q] at this hl; simp at this hl; omega
      have hp : paG (liN s.data.toList) 0 = none := by
        rw [eL, if_pos he, List.append_nil]
        exact goodP _ hg
      obtain ⟨p1, p2, p3⟩ := pn_good hs hp
      have em : mkP (liN s.data.toList) = (stO s s.size).map fun l => mkM ⟨l.toArray⟩ := by
        unfold mkP
        rw [eL, if_pos he, List.append_nil, List.map_map]
        refine List.map_congr_left fun l _ => ?_
        show lnM (lf l).data.toList = _
        rw [lf_dt, (lf_mk l).2]
      rw [em] at p1 p3
      refine ⟨p2, p1, ?_⟩
      by_cases q : roE ((stO s s.size).map fun l => mkM ⟨l.toArray⟩) = 0
      · right; exact ⟨q, by rw [p3, if_pos q]⟩
      · left; exact ⟨q, by rw [p3, if_neg q]⟩
  · have e : pnE s = 8 := by unfold pnE; rw [if_pos (by omega)]
    have e1 : pnN s = 0 := by unfold pnN; rw [if_pos (by omega)]
    have e2 : pnL s = [] := by unfold pnL; rw [e]; rfl
    rw [e, e1, e2]
    refine (rpar_big s w (by omega)).mono ?_
    rintro e w' ⟨rfl, hb⟩
    exact ⟨_, rfl, pts_nil _, hb⟩
end Go.Proofs.YtdjlainhaoaeiaaDoor

namespace Go.Proofs.YtdjlainhaoaeiaaDoor.rodTexts
open Go.ChangeShapes Go.WideShapes Go.ChangeAt Go.RowKit
open Go.ChangeMaps (open_string shut_string)
set_option linter.unusedVariables false

set_option maxHeartbeats 32000000 in
set_option maxRecDepth 100000 in
theorem core (tx S2 : ByteArray) (E1 N1 E2 : Int) (a : Option Addr) (n cap : Nat) (l M : List (Int × Int)) (w : World) (B1 : Bool) (hn : n = l.length) (hw : Hid (CV w)) (hP : Hid (Pts w (.slice a n cap) l)) (hl : Hid (B1 = true → l.length ≤ 1000))
    (HF : Hid (∀ v u W, Pts W v l → TbV W u [] 0 → Calls Tryd.prog 11 #[v, u] W fun e w' => e = .returned (.bool B1) ∧ Below W.heap.size W w'))
    (HP : Hid (∀ W, Below w.heap.size w W → Calls Tryd.prog 25 #[.string tx] W fun e w' => ∃ v, e = .returned (.tuple #[v, .int .i64 N1, .int .i64 E1]) ∧ Pts w' v M ∧ Below W.heap.size W w'))
    (HP2 : Hid (∀ W, Below w.heap.size w W → Calls Tryd.prog 26 #[.string tx] W fun e w' => ∃ v, e = .returned (.tuple #[v, .int .i64 N1, .int .i64 E1]) ∧ Pts w' v M ∧ Below W.heap.size W w'))
    (HR : Hid (∀ v W, Below w.heap.size w W → Pts W v l → Calls Tryd.prog 23 #[v] W fun e w' => e = .returned (.tuple #[.string S2, .int .i64 E2]) ∧ Below W.heap.size W w'))
    (HR2 : Hid (∀ v W, Below w.heap.size w W → Pts W v l → Calls Tryd.prog 24 #[v] W fun e w' => e = .returned (.tuple #[.string S2, .int .i64 E2]) ∧ Below W.heap.size W w')) :
    Calls Tryd.prog 5 #[.slice a n cap, .string tx] w fun e w' => e = .returned (.bool true) ∧ Below w.heap.size w w' := by
  subst hn
  have HA : Hid (∀ W, Below w.heap.size w W → _) := Lib.hid fun W hW => awake_any W (hw.out.below hW)
  have HV : Hid (∀ W, Below w.heap.size w W → Pts W (.slice a l.length cap) l) := Lib.hid fun W hW => hP.out.below hW
  have HCl : Hid (B1 = true → ∀ v W, Pts W v l → _) := Lib.hid fun h v W hv => cloneM_any v l W hv (hl.out h)
  have HS : Hid (∀ u v W, Pts W u M → Pts W v M → _) := Lib.hid fun u v W h1 h2 => same14_eq u v M W h1 h2
  have HB : Hid (Below w.heap.size w w) := Lib.hid (Below.refl _ _)
  have HT : Hid (∀ W, TbV W (.agg #[.slice none 0 0, .int .i64 0]) [] 0) := Lib.hid fun W => ⟨none, 0, rfl, pts_nil _⟩
  have q1 : (E1 == E1) = true := by simp
  have q2 : (E2 == E2) = true := by simp
  have q3 : (N1 == N1) = true := by simp
  clear hP hl hw
  generalize hN : l.length = n at *
  replace hN := Lib.hid hN
  go_enter Tryd.func5, Tryd.ntmps5
  go_wp2_with fail
  refine (HA.out _ HB.out).mono ?_
  rintro e w1 ⟨rfl, h1⟩
  replace HB := Lib.hid (bel_trans HB.out h1); clear h1
  go_wp2_with fail
  refine (HF.out _ _ _ (HV.out _ HB.out) (HT.out _)).mono ?_
  rintro e w2 ⟨rfl, h1⟩
  replace HB := Lib.hid (bel_trans HB.out h1); clear h1
  cases B1 with
  | false =>
    go_wp2
    go_returns
    exact ⟨rfl, HB.out⟩
  | true =>
    replace HCl := Lib.hid (HCl.out rfl)
    by_cases g : (1000 : Int) < (tx.size : Int)
    · have d : decide ((1000 : Int) < (tx.size : Int)) = true := decide_eq_true g
      go_wp2
      go_returns
      exact ⟨rfl, HB.out⟩
    · have d : decide ((1000 : Int) < (tx.size : Int)) = false := decide_eq_false g
      replace g := Lib.hid g
      go_wp2_with fail
      refine (HCl.out _ _ (HV.out _ HB.out)).mono ?_
      rintro e w5 ⟨V5, rfl, hx, h1⟩
      replace HB := Lib.hid (bel_trans HB.out h1); clear h1
      have N5 := Lib.hid hx; clear hx
      go_wp2_with fail
      refine (HR.out _ _ HB.out N5.out).mono ?_
      rintro e w6 ⟨rfl, h1⟩
      replace HB := Lib.hid (bel_trans HB.out h1); clear h1 N5
      go_wp2_with fail
      refine (HR2.out _ _ HB.out (HV.out _ HB.out)).mono ?_
      rintro e w7 ⟨rfl, h1⟩
      replace HB := Lib.hid (bel_trans HB.out h1); clear h1
      go_wp2_with fail
      refine (HP.out _ HB.out).mono ?_
      rintro e w8 ⟨V8, rfl, hx, h1⟩
      replace HB := Lib.hid (bel_trans HB.out h1); clear h1
      have N8 := Lib.hid hx; clear hx
      go_wp2_with fail
      refine (HP2.out _ HB.out).mono ?_
      rintro e w9 ⟨V9, rfl, hx, h1⟩
      replace HB := Lib.hid (bel_trans HB.out h1)
      replace N8 := Lib.hid (N8.out.below h1); clear h1
      have N9 := Lib.hid hx; clear hx
      go_wp2_with fail
      refine (HS.out _ _ _ N8.out N9.out).mono ?_
      rintro e w10 ⟨rfl, h1⟩
      replace HB := Lib.hid (bel_trans HB.out h1); clear h1
      go_wp2
      go_returns
      exact ⟨rfl, HB.out⟩
theorem walk (z : Value) (l : List (Int × Int)) (tx : ByteArray) (w : World) (hz : Pts w z l) (ht : tx.size ≤ maxLen) (hcv : CV w) :
    Calls Tryd.prog 5 #[z, .string tx] w fun e w' => e = .returned (.bool true) ∧ Below w.heap.size w w' := by
  have hz' := hz
  obtain ⟨a, cap, rfl, _⟩ := hz'
  refine core tx ⟨(rpS l).toArray⟩ (pnE tx) (pnN tx) (roE l) a _ cap l (pnL tx) w (decide (l.length ≤ 129) && decide (([] : List (Int × Int)).length ≤ 129)) rfl (Lib.hid hcv) (Lib.hid hz) (Lib.hid fun h => ?_) (Lib.hid fun v u W h1 h2 => few14_all v u l [] 0 W h1 h2) (Lib.hid fun W hW => rodPar_any tx W (hcv.below hW)) (Lib.hid fun W hW => rpar_any tx W) (Lib.hid fun v W hW hv => rodPr_any v l W (hcv.below hW) hv) (Lib.hid fun v W hW hv => rprt_any v l W (hcv.below hW) hv)
  rw [Bool.and_eq_true] at h
  have := of_decide_eq_true h.1; omega

set_option maxRecDepth 100000 in
theorem contract (H : Type) (enc : TypeId × Value → H) (W : World) (base : Nat) (args : Array Value) (ds gs : List (DataW H)) (before : List MemPlace)
    (hval : ∀ (j : Nat) t v, Tryd.f5.params[j]? = some t → args[j]? = some v → Value.okWide Tryd.prog W .any base t v)
    (hW : DataW.Whole enc Tryd.prog Tryd.f5.params.toList Rows.rodTextsSpec.vars false W args.toList ds gs before) (hL : laidMetH Tryd.prog Rows.rodTextsRow.laid W) (hSh : W.ShapedOpen Tryd.prog) :
    Calls Tryd.prog 5 args W fun e W' => ∃ v, e = .returned v ∧ Rows.rodTextsSpec.post enc Tryd.prog Tryd.f5 false true false false W args v W' := by
  have hW' := hW
  obtain ⟨p, q, hA0, hV, rfl, hfz, hnd⟩ := hW
  have hA : DataW.TrodAll enc Tryd.prog W 0 (fun _ => true) true Tryd.f5.params.toList args.toList ds p := hA0
  rw [Tryd.params5] at hA hval
  obtain ⟨v0, vs0, d0, ds0, p0, q0, hargs, rfl, rfl, h0, r0⟩ := trodAll_cons hA
  obtain ⟨v1, vs1, d1, ds1, p1, q1, rfl, rfl, rfl, h1, r1⟩ := trodAll_cons r0
  obtain ⟨rfl, rfl, rfl⟩ := trodAll_nil r1
  obtain rfl : args = #[v0, v1] := by cases args; simp_all
  obtain ⟨rfl, rfl⟩ := trodVars_none hV
  have k0 := h0
  have lt0 : ∀ x ∈ p0, x.block < W.heap.size := by obtain ⟨m, hm⟩ := k0; exact DataW.trod_lt m _ _ _ hm
  have k1 := h1
  have lt1 : ∀ x ∈ p1, x.block < W.heap.size := by obtain ⟨m, hm⟩ := k1; exact DataW.trod_lt m _ _ _ hm
  obtain ⟨z0, w0⟩ := open_mks (hval 0 22 v0 rfl rfl) h0
  obtain ⟨a1, rfl, rfl, rfl, w1⟩ := open_string Tryd.underlying9 (hval 1 9 v1 rfl rfl) h1
  clear hA0
  refine (walk v0 z0 a1 W w0 w1 (laid_of rfl hL hSh)).mono fun e W' ⟨he, bel⟩ => ?_
  subst he
  exact ⟨_, rfl, _, _, _, [], _, [], hW', trodAll_mk1 (shut_bool Tryd.underlying4 _), (trodAll_cons_mk (Below.trod laidOut (by kernel_rfl) (of_decide_eq_true (by kernel_rfl)) k0 bel lt0) (trodAll_cons_mk (Below.trod laidOut (by kernel_rfl) (of_decide_eq_true (by kernel_rfl)) k1 bel lt1) trodAll_mk0)), rfl, bel.frame _, fun h => by cases h⟩

noncomputable def laidWorld (os : Os) : World := World.laidAll Tryd.prog os Rows.rodTextsRow.laid
theorem laid_met (os : Os) : laidMet Tryd.prog Rows.rodTextsRow.laid ((laidWorld os).forCall (fun _ _ => 0) ⟨#[], #[.slice none 0 0, .string ByteArray.empty], []⟩).memory :=
  laidMet_laidAll _ (by kernel_rfl) (by kernel_rfl)
theorem reads (os : Os) {H : Type} (enc : TypeId × Value → H) : ∃ places, DataW.whole enc Tryd.prog ((laidWorld os).forCall (fun _ _ => 0) ⟨#[], #[.slice none 0 0, .string ByteArray.empty], []⟩).memory Tryd.f5.params.toList Rows.rodTextsSpec.vars false (#[.slice none 0 0, .string ByteArray.empty] : Array Value).toList 8 = some ([.nil, .lit (.string [])], [], places) :=
  ⟨[], by kernel_rfl⟩

set_option maxRecDepth 100000 in
theorem lifted (os : Os) (started : os.Started) (H : Type) (enc : TypeId × Value → H) (F : Stop.Interp) :
    ReturnsInHanded {} Tryd.checked os 5 .any ((OpenSpec.ofChange Rows.rodTextsSpec).preRow enc Tryd.prog Tryd.f5 Rows.rodTextsRow.domain false Rows.rodTextsRow.laid) (((OpenSpec.ofChange Rows.rodTextsSpec).at F).post enc Tryd.prog Tryd.f5 false true false false) := by
  obtain ⟨places, hx⟩ := reads os enc
  refine returnsInHanded_of_row (C := Tryd.checked) (s := OpenSpec.ofChange Rows.rodTextsSpec) own started (by kernel_rfl) Tryd.func5
    (witness_row_at (enc := enc) (C := Tryd.checked) false (laidWorld os) #[.slice none 0 0, .string ByteArray.empty] (World.laidAll_os _ _ _) (by kernel_rfl) (by kernel_rfl) (by kernel_rfl)
      (OpenSpec.preRow_of_cond 8 hx (by kernel_rfl) (fun k hk => by cases hk) (by kernel_rfl) (laid_met os))) ?_
  intro W base args ds gs before hval hW _ _ _ hL hSh _
  exact contract H enc W base args ds gs before hval hW hL hSh

theorem said : Rows.RodTextsSaid :=
  OpenClaim.holds_of_cond 5 Tryd.f5 rfl rfl rfl rfl rfl rfl rfl ⟨rfl, rfl, rfl, rfl, rfl⟩ rfl rfl rfl rfl rfl (by kernel_rfl) Tryd.func5 (by kernel_rfl)
    (of_decide_eq_true (by kernel_rfl)) (by unfold Func.isWrapper; first | (rw [if_pos (by decide +kernel)]; kernel_rfl) | (rw [if_neg (by decide +kernel)]; exact ⟨rfl, rfl⟩))
    (fun os started H enc _ F => by rw [OpenClaim.pre_eq_preRow]; exact lifted os started H enc F)

theorem plain (f : FuncId) (fn : Func) (hf : Tryd.pinned.checked.prog.funcNamed "spile/spilelaw14.RodTexts" = some f) (hfn : Tryd.pinned.checked.prog.funcs[f]? = some fn) :
    false = Tryd.pinned.checked.prog.looks [] ∧ ∀ (j : Nat) t, fn.params[j]? = some t → Tryd.pinned.checked.prog.wantsStandIn t = false := by
  obtain rfl : f = 5 := Option.some.inj ((show Tryd.prog.funcNamed "spile/spilelaw14.RodTexts" = some 5 by kernel_rfl).symm.trans hf) |>.symm
  obtain rfl : fn = Tryd.f5 := (Option.some.inj (Tryd.func5.symm.trans hfn)).symm
  refine ⟨by kernel_rfl, fun j t ht => ?_⟩
  rw [Tryd.params5] at ht
  rcases j with _ | _ | j
  · obtain rfl : t = 22 := by simpa using ht.symm
    exact (show Tryd.prog.wantsStandIn 22 = false by kernel_rfl)
  · obtain rfl : t = 9 := by simpa using ht.symm
    exact (show Tryd.prog.wantsStandIn 9 = false by kernel_rfl)
  · simp at ht

theorem proved : Rows.RodTextsCardSaid :=
  Claim7.holds_tied_plain_at .later [] _ _ _ _ said (fun _ h => by cases h) (by kernel_rfl) (fun _ h => by cases h) rodTexts_row_tie rfl ⟨rfl, rfl⟩ (by kernel_rfl) rfl plain (by kernel_rfl)
#print axioms proved
end Go.Proofs.YtdjlainhaoaeiaaDoor.rodTexts
