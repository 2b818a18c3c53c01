/-
  The statement RodMakes of spile/spilelaw14 holds: for every input the call returns true, and each argument reads afterwards as it read before. (The listed package variables hold what the program lays: the card ties them.)
-/
import Derived.Test.YtdjlainhaoaeiaaDoorM2
import Derived.BigQuiet
import Derived.Test.YtdjlainhaoaeiaaDoorCards
import Derived.Test.YtdjlainhaoaeiaaDoorTie
import Derived.Below
import Derived.Carry
import Derived.Lib.LaidTab
import Derived.Deep.DeepHandedRow
import Derived.SevenTiedPlain
import Derived.Lay

set_option linter.unusedVariables false
set_option linter.unusedSimpArgs false

namespace Go.Proofs.YtdjlainhaoaeiaaDoor
open Go.RowKit

theorem rtbChk_len (a : Option Addr) (n cap : Nat) (tol V : Int) (w : World) (h : (n < 2 ∧ V = 9) ∨ (¬ n < 2 ∧ 128 < n ∧ n ≤ 9223372036854775807 ∧ V = 8)) :
    Calls Tryd.prog 34 #[.agg #[.slice a n cap, .int .i64 tol]] w fun e w' => e = .returned (.int .i64 V) ∧ Below w.heap.size w w' := by
  have X0 := Lib.hid (bel_alloc (w := w) (o := .cells #[.slice a n cap, .int .i64 tol] 24) (Below.refl _ _))
  obtain ⟨t0, t1, _, _, _⟩ := Two.new w (.slice a n cap) (.int .i64 tol) 24
  rcases h with ⟨h, rfl⟩ | ⟨h, h2, h3, rfl⟩
  all_goals
    go_enter Tryd.func34, Tryd.ntmps34
    go_wp2
    go_returns
    exact ⟨rfl, X0.out⟩
set_option maxRecDepth 100000 in
set_option maxHeartbeats 16000000 in
theorem rtbChk_core (b off n cap : Nat) (tol : Int) (l : List (Int × Int)) (V : Int) (w : World) (n0 : 1 ≤ n) (n1 : n + 1 ≤ 128) (hb : b < w.heap.size) (hn : Hid (l.length = n + 1))
    (hv1 : Hid ((∃ i, i < n + 1 ∧ mkOut (gX l i, gR l i) = true) → V = 2))
    (hv2 : Hid ((∀ i, i < n + 1 → mkOut (gX l i, gR l i) = false) → (tol < 0 ∨ 4294967296 < tol) → V = 2))
    (hv3 : Hid ((∀ i, i < n + 1 → mkOut (gX l i, gR l i) = false) → ¬ (tol < 0 ∨ 4294967296 < tol) → (∃ i, i < n ∧ ¬ (gX l i < gX l (i + 1) ∧ gR l i ≤ gR l (i + 1))) → V = 5))
    (hv4 : Hid ((∀ i, i < n + 1 → mkOut (gX l i, gR l i) = false) → ¬ (tol < 0 ∨ 4294967296 < tol) → (∀ i, i < n → gX l i < gX l (i + 1) ∧ gR l i ≤ gR l (i + 1)) → V = 0))
    (hc : Hid (∀ j, j < n + 1 → w.cell? ⟨b, off + j * 2, none⟩ = some (.int .i64 (gX l j)) ∧ w.cell? ⟨b, off + j * 2 + 1, none⟩ = some (.int .i64 (gR l j)))) :
    Calls Tryd.prog 34 #[.agg #[.slice (some ⟨b, off, none⟩) (n + 1) cap, .int .i64 tol]] w fun e w' => e = .returned (.int .i64 V) ∧ Below w.heap.size w w' := by
  have T0 := Lib.hid (Two.new w (.slice (some ⟨b, off, none⟩) (n + 1) cap) (.int .i64 tol) 24)
  have X0 := Lib.hid (bel_alloc (w := w) (o := .cells #[.slice (some ⟨b, off, none⟩) (n + 1) cap, .int .i64 tol] 24) (Below.refl _ _))
  have TT : Hid (∀ W, Below (w.alloc (.cells #[.slice (some ⟨b, off, none⟩) (n + 1) cap, .int .i64 tol] 24)).heap.size (w.alloc (.cells #[.slice (some ⟨b, off, none⟩) (n + 1) cap, .int .i64 tol] 24)) W → Two w.heap.size W (.slice (some ⟨b, off, none⟩) (n + 1) cap) (.int .i64 tol) ∧ Below w.heap.size w W ∧ ∀ j, j < n + 1 → W.cell? ⟨b, off + j * 2, none⟩ = some (.int .i64 (gX l j)) ∧ W.cell? ⟨b, off + j * 2 + 1, none⟩ = some (.int .i64 (gR l j))) := Lib.hid fun W hW => ⟨T0.out.below hW, bel_trans X0.out hW, fun j hj => ⟨cell_bel (hc.out j hj).1 (bel_trans X0.out hW), cell_bel (hc.out j hj).2 (bel_trans X0.out hW)⟩⟩
  have B0 : Hid (Below (w.alloc (.cells #[.slice (some ⟨b, off, none⟩) (n + 1) cap, .int .i64 tol] 24)).heap.size (w.alloc (.cells #[.slice (some ⟨b, off, none⟩) (n + 1) cap, .int .i64 tol] 24)) (w.alloc (.cells #[.slice (some ⟨b, off, none⟩) (n + 1) cap, .int .i64 tol] 24))) := Lib.hid (Below.refl _ _)
  have BS : Hid (w.heap.size < (w.alloc (.cells #[.slice (some ⟨b, off, none⟩) (n + 1) cap, .int .i64 tol] 24)).heap.size) := Lib.hid (by rw [World.size_alloc]; omega)
  obtain ⟨t0, t1, _, _, _⟩ := T0.out
  have g2 : decide ((n : Int) + 1 < 2) = false := decide_eq_false (by omega)
  have g3 : decide (128 < (n : Int) + 1) = false := decide_eq_false (by omega)
  clear hc X0 T0 hn
  go_enter Tryd.func34, Tryd.ntmps34
  go_wp2_with fail
  generalize w.alloc (.cells #[.slice (some ⟨b, off, none⟩) (n + 1) cap, .int .i64 tol] 24) = W0 at *
  go_loopw [3] (fun ii wr => ∃ k : Nat, k ≤ n + 1 ∧ ii = .int .i64 (k : Int) ∧ Hid (Below W0.heap.size W0 wr) ∧ Hid (∀ i, i < k → mkOut (gX l i, gR l i) = false)) (fun ii _ => n + 1 - (intOf ii).toNat)
  case atStart => exact ⟨0, by omega, rfl, B0, Lib.hid fun i hi => by omega⟩
  case round =>
    clear t0 t1 B0
    obtain ⟨k, hk, rfl, hB, hA⟩ := hrel
    obtain ⟨⟨t0, t1, _, _, _⟩, HX, hcc⟩ := TT.out wr hB.out
    replace HX := Lib.hid HX
    by_cases hlt : k < n + 1
    · obtain ⟨c0, c1⟩ := hcc k hlt
      have l0 : (k : Int) < ((n + 1 : Nat) : Int) := by omega
      have l1 : (k : Int) < (n : Int) + 1 := by omega
      have nb := Lib.hid (Nat.lt_of_lt_of_le BS.out hB.out.size)
      have q1 : w.heap.size ≠ wr.heap.size := by have := nb.out; omega
      have q2 : wr.heap.size ≠ w.heap.size := by have := nb.out; omega
      have hE : Hid (mkOut (gX l k, gR l k) = (decide (gX l k < 0) || decide (200000 < gX l k) || decide (gR l k < 0) || decide (4294967296 < gR l k))) := Lib.hid rfl
      have XA := Lib.hid (fun o => bel_trans HX.out (bel_alloc (w := wr) (o := o) (Below.refl _ _)))
      have XB := Lib.hid (fun o => bel_trans hB.out (bel_alloc (w := wr) (o := o) (Below.refl _ _)))
      clear hcc
      cases hq : mkOut (gX l k, gR l k) with
      | true =>
        obtain rfl := hv1.out ⟨k, hlt, hq⟩
        rw [hq] at hE
        clear hv1 hv2 hv3 hv4 hA hq
        generalize gX l k = x at *
        generalize gR l k = r at *
        have hD : (decide (x < 0) = true) ∨ (decide (x < 0) = false ∧ decide (200000 < x) = true) ∨ (decide (x < 0) = false ∧ decide (200000 < x) = false ∧ decide (r < 0) = true) ∨ (decide (x < 0) = false ∧ decide (200000 < x) = false ∧ decide (r < 0) = false ∧ decide (4294967296 < r) = true) := by
          have := hE.out
          revert this
          cases decide (x < 0) <;> cases decide (200000 < x) <;> cases decide (r < 0) <;> cases decide (4294967296 < r) <;> simp
        clear hE
        rcases hD with d1 | ⟨d1, d2⟩ | ⟨d1, d2, d3⟩ | ⟨d1, d2, d3, d4⟩
        all_goals
          go_wp2
          go_returns
          exact ⟨rfl, XA.out _⟩
      | false =>
        have hA2 : Hid (∀ i, i < k + 1 → mkOut (gX l i, gR l i) = false) := Lib.hid fun i hi => by
          by_cases e : i = k
          · rw [e]; exact hq
          · exact hA.out i (by omega)
        rw [hq] at hE
        clear hq hA
        generalize gX l k = x at *
        generalize gR l k = r at *
        have hD : decide (x < 0) = false ∧ decide (200000 < x) = false ∧ decide (r < 0) = false ∧ decide (4294967296 < r) = false := by
          have := hE.out
          revert this
          cases decide (x < 0) <;> cases decide (200000 < x) <;> cases decide (r < 0) <;> cases decide (4294967296 < r) <;> simp
        obtain ⟨d1, d2, d3, d4⟩ := hD
        clear hE
        go_wp2
        go_roundw
        case rel => exact ⟨k + 1, by omega, by go_num, Lib.hid (XB.out _), hA2⟩
        case measure => simp [intOf]; omega
    · obtain rfl : k = n + 1 := by omega
      replace hv2 := Lib.hid (hv2.out hA.out)
      replace hv3 := Lib.hid (hv3.out hA.out)
      replace hv4 := Lib.hid (hv4.out hA.out)
      clear hv1 hA hlt hk hcc
      by_cases ht : tol < 0
      · obtain rfl := hv2.out (.inl ht)
        have d1 : decide (tol < 0) = true := decide_eq_true ht
        go_wp2
        go_returns
        exact ⟨rfl, HX.out⟩
      by_cases ht2 : 4294967296 < tol
      · obtain rfl := hv2.out (.inr ht2)
        have d1 : decide (tol < 0) = false := decide_eq_false ht
        have d2 : decide (4294967296 < tol) = true := decide_eq_true ht2
        go_wp2
        go_returns
        exact ⟨rfl, HX.out⟩
      have d1 : decide (tol < 0) = false := decide_eq_false ht
      have d2 : decide (4294967296 < tol) = false := decide_eq_false ht2
      replace hv3 := Lib.hid (hv3.out (by omega))
      replace hv4 := Lib.hid (hv4.out (by omega))
      clear hv2
      go_wp2_with fail
      go_loopw [5] (fun ii wr => ∃ k : Nat, k ≤ n ∧ ii = .int .i64 ((k : Int) + 1) ∧ Hid (Below W0.heap.size W0 wr) ∧ Hid (∀ i, i < k → gX l i < gX l (i + 1) ∧ gR l i ≤ gR l (i + 1))) (fun ii _ => n + 1 - (intOf ii).toNat)
      case atStart => exact ⟨0, by omega, rfl, hB, Lib.hid fun i hi => by omega⟩
      case round =>
        clear hB t0 t1 HX
        obtain ⟨k, hk, rfl, hB, hA⟩ := hrel
        obtain ⟨⟨t0, t1, _, _, _⟩, HX, hcc⟩ := TT.out wr hB.out
        replace HX := Lib.hid HX
        by_cases hlt : k < n
        · obtain ⟨c0, c1⟩ := hcc k (by omega)
          obtain ⟨c2, c3⟩ := hcc (k + 1) (by omega)
          have l0 : (k : Int) + 1 < (n : Int) + 1 := by omega
          have l1 : (k : Int) + 1 < ((n + 1 : Nat) : Int) := by omega
          have l2 : (k : Int) < ((n + 1 : Nat) : Int) := by omega
          have l3 : IntKind.i64.wrap ((k : Int) + 1 - 1) = (k : Int) := by rw [wrap_in _ ⟨by omega, by omega⟩]; omega
          have l3' : IntKind.i64.wrap (k : Int) = (k : Int) := wrap_in _ ⟨by omega, by omega⟩
          have l4 : ((k : Int) + 1).toNat = k + 1 := by omega
          have l5 : 0 ≤ (k : Int) + 1 := by omega
          have l6 : (k : Int) < (n : Int) + 1 := by omega
          have BQ1 := Lib.hid (fun q => bel_trans hB.out (bel_drewN wr q))
          have BQ2 := Lib.hid (fun q => bel_trans HX.out (bel_drewN wr q))
          clear hcc HX
          by_cases g : gX l k < gX l (k + 1) ∧ gR l k ≤ gR l (k + 1)
          · have hA2 : Hid (∀ i, i < k + 1 → gX l i < gX l (i + 1) ∧ gR l i ≤ gR l (i + 1)) := Lib.hid fun i hi => by
              by_cases e : i = k
              · rw [e]; exact g
              · exact hA.out i (by omega)
            obtain ⟨g1, g2⟩ := g
            clear hA
            generalize gX l k = x at *
            generalize gR l k = r at *
            generalize gX l (k + 1) = y at *
            generalize gR l (k + 1) = s at *
            have d3 : decide (y ≤ x) = false := decide_eq_false (by omega)
            have d4 : decide (s < r) = false := decide_eq_false (by omega)
            go_upto_region 16 with fail
            go_quiet (fail)
            go_wp2
            go_roundw
            case rel => exact ⟨k + 1, by omega, by go_num, Lib.hid (BQ1.out _), hA2⟩
            case measure => simp [intOf]; omega
          · obtain rfl := hv3.out ⟨k, hlt, g⟩
            clear hv3 hv4 hA
            generalize gX l k = x at *
            generalize gR l k = r at *
            generalize gX l (k + 1) = y at *
            generalize gR l (k + 1) = s at *
            by_cases g1 : x < y
            · have d3 : decide (y ≤ x) = false := decide_eq_false (by omega)
              have d4 : decide (s < r) = true := decide_eq_true (by omega)
              go_upto_region 16 with fail
              go_quiet (fail)
              go_wp2
              go_returns
              exact ⟨rfl, BQ2.out _⟩
            · have d3 : decide (y ≤ x) = true := decide_eq_true (by omega)
              go_upto_region 16 with fail
              go_quiet (fail)
              go_wp2
              go_returns
              exact ⟨rfl, BQ2.out _⟩
        · obtain rfl : k = n := by omega
          obtain rfl := hv4.out hA.out
          have l0 : ¬ (k : Int) + 1 < (k : Int) + 1 := by omega
          go_wp2
          go_returns
          exact ⟨rfl, HX.out⟩
theorem rtbChk_any (v : Value) (l : List (Int × Int)) (tol : Int) (w : World) (hv : TbV w v l tol) :
    Calls Tryd.prog 34 #[v] w fun e w' => e = .returned (.int .i64 (tbE l tol)) ∧ Below w.heap.size w w' := by
  obtain ⟨a, cap, rfl, hp⟩ := hv
  obtain ⟨_, hcap⟩ : l.length ≤ cap ∧ cap ≤ 9223372036854775807 := by
    obtain ⟨a', cap', e, h, _⟩ := hp
    simp only [Value.slice.injEq, true_and] at e
    obtain ⟨_, rfl⟩ := e
    exact h
  by_cases h2 : l.length < 2
  · exact rtbChk_len a _ cap tol _ w (.inl ⟨h2, by unfold tbE; rw [if_pos h2]⟩)
  by_cases h3 : 128 < l.length
  · exact rtbChk_len a _ cap tol _ w (.inr ⟨h2, h3, by omega, by unfold tbE; rw [if_neg h2, if_pos h3]⟩)
  obtain ⟨b, off, rfl, hb, hc⟩ := hp.at (by omega)
  obtain ⟨n, hn⟩ : ∃ n, l.length = n + 1 := ⟨l.length - 1, by omega⟩
  have e0 : tbE l tol = if tol < 0 ∨ 4294967296 < tol ∨ l.any mkOut = true then 2 else if risB l (l.length - 1) = false then 5 else 0 := by
    unfold tbE
    rw [if_neg h2, if_neg h3]
    by_cases q : tol < 0 ∨ 4294967296 < tol ∨ l.any mkOut = true
    · rw [if_pos q, if_pos (by simp only [Bool.or_eq_true, decide_eq_true_eq]; rcases q with q | q | q; exact .inl (.inl q); exact .inl (.inr q); exact .inr q)]
    · rw [if_neg q, if_neg (by simp only [Bool.or_eq_true, decide_eq_true_eq]; rintro ((g | g) | g); exact q (.inl g); exact q (.inr (.inl g)); exact q (.inr (.inr g)))]
  have ea : (∀ i, i < n + 1 → mkOut (gX l i, gR l i) = false) → l.any mkOut = false := fun h => by
    cases q : l.any mkOut with
    | false => rfl
    | true =>
      obtain ⟨i, hi, hp⟩ := anyq_at.1 q
      have := h i (by omega)
      unfold gX gR at this
      rw [show l.getD i (0, 0) = ((l.getD i (0, 0)).1, (l.getD i (0, 0)).2) from rfl, this] at hp
      cases hp
  have el : l.length - 1 = n := by omega
  rw [hn]
  refine rtbChk_core b off n cap tol l (tbE l tol) w (by omega) (by omega) hb (Lib.hid hn) (Lib.hid ?_) (Lib.hid ?_) (Lib.hid ?_) (Lib.hid ?_) (Lib.hid fun j hj => hc j (by omega))
  · rintro ⟨i, hi, hp⟩
    rw [e0, if_pos (.inr (.inr (anyq_at.2 ⟨i, by omega, hp⟩)))]
  · intro h ht
    rw [e0, if_pos (by rcases ht with ht | ht; exact .inl ht; exact .inr (.inl ht))]
  · rintro h ht ⟨i, hi, hp⟩
    rw [e0, if_neg (by rw [ea h]; simp; omega), if_pos]
    cases q : risB l (l.length - 1) with
    | false => rfl
    | true => exact absurd ((risB_iff l _).1 q i (by omega)) hp
  · intro h ht hr
    rw [e0, if_neg (by rw [ea h]; simp; omega), if_neg]
    rw [Bool.not_eq_false]
    exact (risB_iff l _).2 fun i hi => hr i (by omega)
end Go.Proofs.YtdjlainhaoaeiaaDoor

namespace Go.Proofs.YtdjlainhaoaeiaaDoor
open Go.RowKit

set_option maxHeartbeats 16000000 in
set_option maxRecDepth 100000 in
theorem rtbAt_core (b off n cap : Nat) (l : List (Int × Int)) (tol x Y : Int) (i : Nat) (w : World) (n0 : 2 ≤ n) (n1 : n ≤ 1000) (hn : n = l.length) (hb : b < w.heap.size)
    (hc : Hid (∀ j, j < n → w.cell? ⟨b, off + j * 2, none⟩ = some (.int .i64 (gX l j)) ∧ w.cell? ⟨b, off + j * 2 + 1, none⟩ = some (.int .i64 (gR l j))))
    (hR : Hid (MR l)) (x0 : Hid (gX l 0 ≤ x)) (hi : Hid (IsT l x i)) (hY : Hid (Y = vlF l i x)) :
    Calls Tryd.prog 36 #[.agg #[.slice (some ⟨b, off, none⟩) n cap, .int .i64 tol], .int .i64 x] w fun e w' => e = .returned (.int .i64 Y) ∧ Below w.heap.size w w' := by
  have HN := Lib.hid hn
  clear hn
  have T0 := Lib.hid (Two.new w (.slice (some ⟨b, off, none⟩) n cap) (.int .i64 tol) 24)
  have X0 := Lib.hid (bel_alloc (w := w) (o := .cells #[.slice (some ⟨b, off, none⟩) n cap, .int .i64 tol] 24) (Below.refl _ _))
  have BS : Hid (w.heap.size < (w.alloc (.cells #[.slice (some ⟨b, off, none⟩) n cap, .int .i64 tol] 24)).heap.size) := Lib.hid (by rw [World.size_alloc]; omega)
  have TT : Hid (∀ W, Below (w.alloc (.cells #[.slice (some ⟨b, off, none⟩) n cap, .int .i64 tol] 24)).heap.size (w.alloc (.cells #[.slice (some ⟨b, off, none⟩) n cap, .int .i64 tol] 24)) W → Two w.heap.size W (.slice (some ⟨b, off, none⟩) n cap) (.int .i64 tol) ∧ Below w.heap.size w W ∧ ∀ j, j < n → W.cell? ⟨b, off + j * 2, none⟩ = some (.int .i64 (gX l j)) ∧ W.cell? ⟨b, off + j * 2 + 1, none⟩ = some (.int .i64 (gR l j))) := Lib.hid fun W hW => ⟨T0.out.below hW, bel_trans X0.out hW, fun j hj => ⟨cell_bel (hc.out j hj).1 (bel_trans X0.out hW), cell_bel (hc.out j hj).2 (bel_trans X0.out hW)⟩⟩
  have B0 : Hid (Below (w.alloc (.cells #[.slice (some ⟨b, off, none⟩) n cap, .int .i64 tol] 24)).heap.size (w.alloc (.cells #[.slice (some ⟨b, off, none⟩) n cap, .int .i64 tol] 24)) (w.alloc (.cells #[.slice (some ⟨b, off, none⟩) n cap, .int .i64 tol] 24))) := Lib.hid (Below.refl _ _)
  clear hc X0 T0
  go_enter Tryd.func36, Tryd.ntmps36
  go_wp2_with fail
  generalize w.alloc (.cells #[.slice (some ⟨b, off, none⟩) n cap, .int .i64 tol] 24) = W0 at *
  go_loopw [5] (fun ii wr => ∃ k : Nat, k + 1 ≤ i ∧ ii = .int .i64 ((k : Int) + 1) ∧ Hid (Below W0.heap.size W0 wr)) (fun ii _ => n - (intOf ii).toNat)
  case atStart => exact ⟨0, hi.out.h1, rfl, B0⟩
  case round =>
    clear B0
    obtain ⟨k, hk, rfl, hB⟩ := hrel
    have hlt : k + 1 < n := by have := hi.out.h2; have := HN.out; omega
    obtain ⟨⟨t0, t1, _, _, _⟩, HX, hcc⟩ := TT.out wr hB.out
    replace HX := Lib.hid HX
    obtain ⟨c0, c1⟩ := hcc k (by omega)
    obtain ⟨c2, c3⟩ := hcc (k + 1) hlt
    clear hcc
    have nb := Lib.hid (Nat.lt_of_lt_of_le BS.out hB.out.size)
    have q1 : w.heap.size ≠ wr.heap.size := by have := nb.out; omega
    have q2 : wr.heap.size ≠ w.heap.size := by have := nb.out; omega
    have q3 : w.heap.size ≠ wr.heap.size + 1 := by have := nb.out; omega
    have q4 : wr.heap.size + 1 ≠ w.heap.size := by have := nb.out; omega
    have l2 : k < n := by omega
    have l3 : (k : Int) < (n : Int) := by omega
    have l5 : (k : Int) + 1 < (n : Int) := by omega
    have wj : IntKind.i64.wrap ((k : Int) + 1 - 1) = (k : Int) := by simp only [IntKind.wrap_i64]; omega
    have wk : IntKind.i64.wrap (k : Int) = (k : Int) := by simp only [IntKind.wrap_i64]; omega
    have l6 : 0 ≤ (k : Int) + 1 := by omega
    have l7 : ((k : Int) + 1).toNat = k + 1 := by omega
    have XB := Lib.hid (fun W (h : Below wr.heap.size wr W) => bel_trans HX.out h)
    have XC := Lib.hid (fun W (h : Below wr.heap.size wr W) => bel_trans hB.out h)
    by_cases hq : k + 1 = i
    · have I := hi.out
      have i0 := I.from x0.out
      have bd := vlF_bd hR.out I.h1 (by have := I.h2; omega) i0 I.h3
      have a := hR.out.asc (i - 1) (by have := I.h2; have := I.h1; omega)
      have b0 := hR.out.bh (i - 1) (by have := I.h2; omega)
      have b1 := hR.out.bh i I.h2
      have v0 := hR.out.bv (i - 1) (by have := I.h2; omega)
      have v1 := hR.out.bv i I.h2
      have u := hR.out.up (i - 1) (by have := I.h2; have := I.h1; omega)
      have i3 := I.h3
      rw [Nat.sub_add_cancel I.h1] at a u
      have eY := hY.out
      unfold vlF at bd eY
      simp only [← hq, Nat.add_sub_cancel] at bd a b0 b1 v0 v1 u i0 i3 eY
      clear I hi hY hq
      generalize gX l k = A at *
      generalize gR l k = Q at *
      generalize gX l (k + 1) = H at *
      generalize gR l (k + 1) = R at *
      obtain ⟨⟨m0, m1⟩, m2, m3⟩ := bd
      have m4 : (R - Q) * (x - A) / (H - A) ≤ R - Q := by omega
      have m5 : 0 ≤ (R - Q) * (x - A) / (H - A) := by omega
      have p1 : IntKind.i64.wrap (R - Q) = R - Q := wrap_in _ ⟨by omega, by omega⟩
      have p2 : IntKind.i64.wrap (x - A) = x - A := wrap_in _ ⟨by omega, by omega⟩
      have p3 : IntKind.i64.wrap ((R - Q) * (x - A)) = (R - Q) * (x - A) := wrap_in _ ⟨by omega, by omega⟩
      have p4 : IntKind.i64.wrap (H - A) = H - A := wrap_in _ ⟨by omega, by omega⟩
      have nz : ¬ H - A = 0 := by omega
      have nz2 : (H - A == 0) = false := by simpa using nz
      have p5 : IntKind.i64.wrap (((R - Q) * (x - A)).tdiv (H - A)) = (R - Q) * (x - A) / (H - A) := by rw [Int.tdiv_eq_ediv_of_nonneg m0]; exact wrap_in _ ⟨by omega, by omega⟩
      have p6 : IntKind.i64.wrap (Q + (R - Q) * (x - A) / (H - A)) = Y := by rw [eY]; exact wrap_in _ ⟨by omega, by omega⟩
      have dl : decide (H < x) = false := decide_eq_false (by omega)
      have a0 : ∀ o, (wr.alloc o).cell? ⟨b, off + k * 2, none⟩ = some (.int .i64 A) := fun o => cell_bel c0 (bel_alloc (Below.refl _ _))
      have a1 : ∀ o, (wr.alloc o).cell? ⟨b, off + k * 2 + 1, none⟩ = some (.int .i64 Q) := fun o => cell_bel c1 (bel_alloc (Below.refl _ _))
      have a2 : ∀ o, (wr.alloc o).cell? ⟨b, off + (k + 1) * 2, none⟩ = some (.int .i64 H) := fun o => cell_bel c2 (bel_alloc (Below.refl _ _))
      have a3 : ∀ o, (wr.alloc o).cell? ⟨b, off + (k + 1) * 2 + 1, none⟩ = some (.int .i64 R) := fun o => cell_bel c3 (bel_alloc (Below.refl _ _))
      have a4 : ∀ o, (wr.alloc o).cell? ⟨w.heap.size, 0, none⟩ = some (.slice (some ⟨b, off, none⟩) n cap) := fun o => cell_bel t0 (bel_alloc (Below.refl _ _))
      have b0' : ∀ o o2, ((wr.alloc o).alloc o2).cell? ⟨b, off + k * 2, none⟩ = some (.int .i64 A) := fun o o2 => cell_bel c0 (bel_alloc (bel_alloc (Below.refl _ _)))
      have b1' : ∀ o o2, ((wr.alloc o).alloc o2).cell? ⟨b, off + k * 2 + 1, none⟩ = some (.int .i64 Q) := fun o o2 => cell_bel c1 (bel_alloc (bel_alloc (Below.refl _ _)))
      have b2' : ∀ o o2, ((wr.alloc o).alloc o2).cell? ⟨b, off + (k + 1) * 2, none⟩ = some (.int .i64 H) := fun o o2 => cell_bel c2 (bel_alloc (bel_alloc (Below.refl _ _)))
      have b3' : ∀ o o2, ((wr.alloc o).alloc o2).cell? ⟨b, off + (k + 1) * 2 + 1, none⟩ = some (.int .i64 R) := fun o o2 => cell_bel c3 (bel_alloc (bel_alloc (Below.refl _ _)))
      have b4' : ∀ o o2, ((wr.alloc o).alloc o2).cell? ⟨w.heap.size, 0, none⟩ = some (.slice (some ⟨b, off, none⟩) n cap) := fun o o2 => cell_bel t0 (bel_alloc (bel_alloc (Below.refl _ _)))
      clear eY m0 m1 m2 m3 m4 m5 hB
      go_wp2_with fail
      go_region
      all_goals go_wp2_with fail
      all_goals go_quiet (fail)
      all_goals go_wp2
      all_goals go_returns
      all_goals exact ⟨rfl, XB.out _ (bel_alloc (bel_alloc (bel_trans (bel_drew _) (bel_drewN _ _))))⟩
    · have h4 := hi.out.h4 (k + 1) (by omega) (by omega)
      have dl : decide (gX l (k + 1) < x) = true := decide_eq_true h4
      have XD := Lib.hid (XC.out wr (Below.refl _ _))
      generalize gX l k = A at *
      generalize gR l k = Q at *
      generalize gX l (k + 1) = H at *
      generalize gR l (k + 1) = R at *
      go_wp2
      go_roundw
      case rel => exact ⟨k + 1, by omega, by go_num, XD⟩
      case measure => simp [intOf]; omega
theorem rtbAt_any (v : Value) (l : List (Int × Int)) (tol x : Int) (w : World) (hv : TbV w v l tol) (h : MR l) (x0 : gX l 0 ≤ x) (x1 : x ≤ gX l (l.length - 1)) :
    Calls Tryd.prog 36 #[v, .int .i64 x] w fun e w' => e = .returned (.int .i64 (vl l x)) ∧ Below w.heap.size w w' := by
  obtain ⟨a, cap, rfl, hp⟩ := hv
  have n0 := h.n0
  have n1 := h.n1
  obtain ⟨b, off, rfl, hb, hc⟩ := hp.at (by omega)
  exact rtbAt_core b off _ cap l tol x _ (tpc l x) w (by omega) (by omega) rfl hb (Lib.hid hc) (Lib.hid h) (Lib.hid x0) (Lib.hid (tpc_is h x1)) (Lib.hid rfl)
set_option maxHeartbeats 16000000 in
set_option maxRecDepth 100000 in
theorem rtbRd_core (b off m cap : Nat) (tol x X0 X1 Y E : Int) (w : World) (m1 : m ≤ 1000) (hb : b < w.heap.size)
    (c0 : w.cell? ⟨b, off, none⟩ = some (.int .i64 X0)) (c1 : w.cell? ⟨b, off + m * 2, none⟩ = some (.int .i64 X1))
    (hE : (x < X0 ∧ Y = 0 ∧ E = 2) ∨ (¬ x < X0 ∧ X1 < x ∧ Y = 0 ∧ E = 2) ∨ (¬ x < X0 ∧ ¬ X1 < x ∧ E = 0))
    (H1 : Hid (∀ W, Below w.heap.size w W → Calls Tryd.prog 34 #[.agg #[.slice (some ⟨b, off, none⟩) (m + 1) cap, .int .i64 tol]] W fun e w' => e = .returned (.int .i64 0) ∧ Below W.heap.size W w'))
    (H2 : Hid (¬ x < X0 → ¬ X1 < x → ∀ W, Below w.heap.size w W → Calls Tryd.prog 36 #[.agg #[.slice (some ⟨b, off, none⟩) (m + 1) cap, .int .i64 tol], .int .i64 x] W fun e w' => e = .returned (.int .i64 Y) ∧ Below W.heap.size W w')) :
    Calls Tryd.prog 41 #[.agg #[.slice (some ⟨b, off, none⟩) (m + 1) cap, .int .i64 tol], .int .i64 x] w fun e w' => e = .returned (.tuple #[.int .i64 Y, .int .i64 E]) ∧ Below w.heap.size w w' := by
  have T0 := Lib.hid (Two.new w (.slice (some ⟨b, off, none⟩) (m + 1) cap) (.int .i64 tol) 24)
  have wk : IntKind.i64.wrap (((m + 1 : Nat) : Int) - 1) = (m : Int) := by rw [wrap_in _ ⟨by omega, by omega⟩]; omega
  have wk1 : IntKind.i64.wrap ((m : Int) + 1 - 1) = (m : Int) := by rw [wrap_in _ ⟨by omega, by omega⟩]; omega
  have wk2 : (m : Int) < ((m + 1 : Nat) : Int) := by omega
  have wk3 : (m : Int) < (m : Int) + 1 := by omega
  have wk4 : (0 : Int) < (m : Int) + 1 := by omega
  go_enter Tryd.func41, Tryd.ntmps41
  go_wp2_with fail
  refine (H1.out _ (bel_alloc (Below.refl _ _))).mono ?_
  rintro e w1 ⟨rfl, gg⟩
  replace T0 := Lib.hid (T0.out.below gg)
  have X1' := Lib.hid (bel_alloc gg); clear gg
  obtain ⟨t0, t1, _, _, _⟩ := T0.out
  have d0 := cell_bel c0 X1'.out
  have d1 := cell_bel c1 X1'.out
  rcases hE with ⟨h, rfl, rfl⟩ | ⟨h, h2, rfl, rfl⟩ | ⟨h, h2, rfl⟩
  · have e1 : decide (x < X0) = true := decide_eq_true h
    go_wp2
    go_returns
    exact ⟨rfl, X1'.out⟩
  · have e1 : decide (x < X0) = false := decide_eq_false (by omega)
    have e2 : decide (X1 < x) = true := decide_eq_true h2
    go_wp2
    go_returns
    exact ⟨rfl, X1'.out⟩
  · have e1 : decide (x < X0) = false := decide_eq_false (by omega)
    have e2 : decide (X1 < x) = false := decide_eq_false (by omega)
    replace H2 := Lib.hid (H2.out (by omega) (by omega))
    go_wp2_with fail
    refine (H2.out _ X1'.out).mono ?_
    rintro e w2 ⟨rfl, gg⟩
    have X2 := Lib.hid (bel_trans X1'.out gg); clear gg
    go_wp2
    go_returns
    exact ⟨rfl, X2.out⟩
theorem rtbRd_bad (a : Option Addr) (n cap : Nat) (tol x E : Int) (w : World) (e2 : (E != 0) = true)
    (H1 : Hid (∀ W, Below w.heap.size w W → Calls Tryd.prog 34 #[.agg #[.slice a n cap, .int .i64 tol]] W fun e w' => e = .returned (.int .i64 E) ∧ Below W.heap.size W w')) :
    Calls Tryd.prog 41 #[.agg #[.slice a n cap, .int .i64 tol], .int .i64 x] w fun e w' => e = .returned (.tuple #[.int .i64 0, .int .i64 1]) ∧ Below w.heap.size w w' := by
  go_enter Tryd.func41, Tryd.ntmps41
  go_wp2_with fail
  refine (H1.out _ (bel_alloc (Below.refl _ _))).mono ?_
  rintro e w1 ⟨rfl, gg⟩
  have X1' := Lib.hid (bel_alloc gg); clear gg
  go_wp2
  go_returns
  exact ⟨rfl, X1'.out⟩
theorem rtbRd_any (v : Value) (l : List (Int × Int)) (tol x : Int) (w : World) (hv : TbV w v l tol) :
    Calls Tryd.prog 41 #[v, .int .i64 x] w fun e w' => e = .returned (.tuple #[.int .i64 (rdQ l tol x), .int .i64 (rdE l tol x)]) ∧ Below w.heap.size w w' := by
  have H1 : Hid (∀ W, Below w.heap.size w W → _) := Lib.hid fun W hW => rtbChk_any v l tol W (hv.below hW)
  have hv' := hv
  obtain ⟨a, cap, rfl, hp⟩ := hv
  by_cases h : tbE l tol = 0
  · rw [h] at H1
    obtain ⟨hR, _⟩ := tbE_iff.1 h
    have n0 := hR.n0
    have n1 := hR.n1
    have eE : rdE l tol x = if x < gX l 0 ∨ gX l (l.length - 1) < x then 2 else 0 := by unfold rdE; rw [if_neg (by omega)]
    obtain ⟨b, off, rfl, hb, hc⟩ := hp.at (by omega)
    have H2 : Hid (¬ x < gX l 0 → ¬ gX l (l.length - 1) < x → ∀ W, Below w.heap.size w W → _) := Lib.hid fun g1 g2 W hW => rtbAt_any _ l tol x W (hv'.below hW) hR (by omega) (by omega)
    have eQ : rdQ l tol x = if rdE l tol x = 0 then vl l x else 0 := rfl
    obtain ⟨m, hm⟩ : ∃ m, l.length = m + 1 := ⟨l.length - 1, by omega⟩
    have c0 := (hc 0 (by omega)).1
    have c1 := (hc m (by omega)).1
    rw [show l.length - 1 = m by omega] at eE H2
    rw [hm] at H1 H2 ⊢
    rw [show off + 0 * 2 = off by omega] at c0
    refine rtbRd_core b off m cap tol x (gX l 0) (gX l m) _ _ w (by omega) hb c0 c1 ?_ H1 (Lib.hid fun g1 g2 W hW => ?_)
    · by_cases g1 : x < gX l 0
      · left; rw [if_pos (.inl g1)] at eE; exact ⟨g1, by rw [eQ, eE]; rfl, eE⟩
      · right
        by_cases g2 : gX l m < x
        · left; rw [if_pos (.inr g2)] at eE; exact ⟨g1, g2, by rw [eQ, eE]; rfl, eE⟩
        · right; rw [if_neg (by omega)] at eE; exact ⟨g1, g2, eE⟩
    · rw [if_neg (by omega)] at eE
      rw [eQ, if_pos eE]
      exact H2.out g1 g2 W hW
  · have e : rdE l tol x = 1 := by unfold rdE; rw [if_pos (by omega)]
    have e2 : rdQ l tol x = 0 := by unfold rdQ; rw [if_neg (by omega)]
    rw [e, e2]
    exact rtbRd_bad a _ cap tol x _ w (by simpa using h) H1
end Go.Proofs.YtdjlainhaoaeiaaDoor

namespace Go.Proofs.YtdjlainhaoaeiaaDoor
open Go.RowKit
open RM

set_option maxHeartbeats 16000000 in
set_option maxRecDepth 100000 in
theorem rle_core (b off m cap : Nat) (tol v x0 x1 A : Int) (V : Int → Int) (w : World) (m1 : m ≤ 1000) (hb : b < w.heap.size) (hx : 0 ≤ x0 ∧ x0 ≤ A ∧ A ≤ x1 ∧ x1 ≤ 200000)
    (c0 : w.cell? ⟨b, off, none⟩ = some (.int .i64 x0)) (c1 : w.cell? ⟨b, off + m * 2, none⟩ = some (.int .i64 x1))
    (hV : Hid (∀ x, x0 ≤ x → x ≤ x1 → (v ≤ V x ↔ A ≤ x)))
    (H1 : Hid (∀ x W, x0 ≤ x → x ≤ x1 → Below w.heap.size w W → Calls Tryd.prog 36 #[.agg #[.slice (some ⟨b, off, none⟩) (m + 1) cap, .int .i64 tol], .int .i64 x] W fun e w' => e = .returned (.int .i64 (V x)) ∧ Below W.heap.size W w')) :
    Calls Tryd.prog 35 #[.agg #[.slice (some ⟨b, off, none⟩) (m + 1) cap, .int .i64 tol], .int .i64 v] w fun e w' => e = .returned (.int .i64 A) ∧ Below w.heap.size w w' := by
  have T0 := Lib.hid (Two.new w (.slice (some ⟨b, off, none⟩) (m + 1) cap) (.int .i64 tol) 24)
  have X0 := Lib.hid (bel_alloc (w := w) (o := .cells #[.slice (some ⟨b, off, none⟩) (m + 1) cap, .int .i64 tol] 24) (Below.refl _ _))
  have TT : Hid (∀ W, Below (w.alloc (.cells #[.slice (some ⟨b, off, none⟩) (m + 1) cap, .int .i64 tol] 24)).heap.size (w.alloc (.cells #[.slice (some ⟨b, off, none⟩) (m + 1) cap, .int .i64 tol] 24)) W → Two w.heap.size W (.slice (some ⟨b, off, none⟩) (m + 1) cap) (.int .i64 tol) ∧ Below w.heap.size w W) := Lib.hid fun W hW => ⟨T0.out.below hW, bel_trans X0.out hW⟩
  have d0 := cell_bel c0 X0.out
  have d1 := cell_bel c1 X0.out
  obtain ⟨t0, t1, _, _, _⟩ := T0.out
  have wk : IntKind.i64.wrap (((m + 1 : Nat) : Int) - 1) = (m : Int) := by rw [wrap_in _ ⟨by omega, by omega⟩]; omega
  have wk1 : IntKind.i64.wrap ((m : Int) + 1 - 1) = (m : Int) := by rw [wrap_in _ ⟨by omega, by omega⟩]; omega
  have wk1' : IntKind.i64.wrap (m : Int) = (m : Int) := wrap_in _ ⟨by omega, by omega⟩
  have wk2 : (m : Int) < ((m + 1 : Nat) : Int) := by omega
  have wk3 : (m : Int) < (m : Int) + 1 := by omega
  have wk4 : (0 : Int) < (m : Int) + 1 := by omega
  have wk5 : (0 : Int) < ((m + 1 : Nat) : Int) := by omega
  have B0 : Hid (∀ j, Below (w.alloc (.cells #[.slice (some ⟨b, off, none⟩) (m + 1) cap, .int .i64 tol] 24)).heap.size (w.alloc (.cells #[.slice (some ⟨b, off, none⟩) (m + 1) cap, .int .i64 tol] 24)) ((w.alloc (.cells #[.slice (some ⟨b, off, none⟩) (m + 1) cap, .int .i64 tol] 24)).drewN j)) := Lib.hid fun j => bel_drewN _ _
  clear c0 c1 T0 X0
  go_enter Tryd.func35, Tryd.ntmps35
  go_upto_region 1 with fail
  go_quiet (fail)
  go_wp2_with fail
  go_loopw [5, 6] (fun lo hi wr => ∃ a c : Int, lo = .int .i64 a ∧ hi = .int .i64 c ∧ x0 ≤ a ∧ a ≤ A ∧ A ≤ c ∧ c ≤ x1 ∧ Hid (Below (w.alloc (.cells #[.slice (some ⟨b, off, none⟩) (m + 1) cap, .int .i64 tol] 24)).heap.size (w.alloc (.cells #[.slice (some ⟨b, off, none⟩) (m + 1) cap, .int .i64 tol] 24)) wr)) (fun lo hi _ => (intOf hi - intOf lo).toNat)
  case atStart => exact ⟨x0, x1, rfl, rfl, by omega, by omega, by omega, by omega, Lib.hid (B0.out _)⟩
  case round =>
    clear B0 t0 t1 d0 d1
    obtain ⟨a, c, rfl, rfl, a0, a1, a2, a3, hB⟩ := hrel
    obtain ⟨⟨t0, t1, _, _, _⟩, HX⟩ := TT.out wr hB.out
    replace HX := Lib.hid HX
    by_cases hlt : a < c
    · have dl : decide (a < c) = true := decide_eq_true hlt
      have w1 : IntKind.i64.wrap (a + c) = a + c := wrap_in _ ⟨by omega, by omega⟩
      have w2 : (a + c).tdiv 2 = (a + c) / 2 := Int.tdiv_eq_ediv_of_nonneg (by omega)
      have w3 : IntKind.i64.wrap ((a + c) / 2) = (a + c) / 2 := wrap_in _ ⟨by omega, by omega⟩
      have hm0 : a ≤ (a + c) / 2 := by omega
      have hm1 : (a + c) / 2 < c := by omega
      have iff := hV.out ((a + c) / 2) (by omega) (by omega)
      have HQ := Lib.hid (H1.out ((a + c) / 2) wr (by omega) (by omega) HX.out)
      generalize hmid : (a + c) / 2 = mid at *
      replace hmid := Lib.hid hmid
      by_cases g : v ≤ V mid
      · have dg : decide (v ≤ V mid) = true := decide_eq_true g
        have g2 := iff.1 g
        clear iff
        generalize V mid = vm at *
        go_wp2_with fail
        refine HQ.out.mono ?_
        rintro e w3 ⟨rfl, gg⟩
        have hB3 := Lib.hid (bel_trans hB.out gg); clear gg
        go_wp2
        go_roundw
        case rel => exact ⟨a, mid, rfl, rfl, by omega, by omega, by omega, by omega, hB3⟩
        case measure => simp only [intOf]; omega
      · have dg : decide (v ≤ V mid) = false := decide_eq_false g
        have g2 : ¬ A ≤ mid := fun h => g (iff.2 h)
        have w4 : IntKind.i64.wrap (mid + 1) = mid + 1 := wrap_in _ ⟨by omega, by omega⟩
        clear iff
        generalize V mid = vm at *
        go_wp2_with fail
        refine HQ.out.mono ?_
        rintro e w3 ⟨rfl, gg⟩
        have hB3 := Lib.hid (bel_trans hB.out gg); clear gg
        go_wp2
        go_roundw
        case rel => exact ⟨mid + 1, c, rfl, rfl, by omega, by omega, by omega, by omega, hB3⟩
        case measure => simp only [intOf]; omega
    · have dl : decide (a < c) = false := decide_eq_false hlt
      obtain rfl : a = A := by omega
      go_wp2
      go_returns
      exact ⟨rfl, HX.out⟩
theorem rle_any (z : Value) (l : List (Int × Int)) (tol v : Int) (w : World) (hz : TbV w z l tol) (h : MR l) (hv : v ≤ gR l (l.length - 1)) :
    Calls Tryd.prog 35 #[z, .int .i64 v] w fun e w' => e = .returned (.int .i64 (lsA l v)) ∧ Below w.heap.size w w' := by
  have hz' := hz
  obtain ⟨a, cap, rfl, hp⟩ := hz
  have n0 := h.n0
  have n1 := h.n1
  have sp := h.span
  have b := ls_bd h v
  have em := vl_mark h (i := l.length - 1) (by omega)
  have t := (ls_iff h v (x := gX l (l.length - 1)) (by omega) (Int.le_refl _)).1 (by omega)
  have H1 : Hid (∀ x W, gX l 0 ≤ x → x ≤ gX l (l.length - 1) → Below w.heap.size w W → _) := Lib.hid fun x W g1 g2 hW => rtbAt_any _ l tol x W (hz'.below hW) h g1 g2
  have hV : Hid (∀ x, gX l 0 ≤ x → x ≤ gX l (l.length - 1) → (v ≤ vl l x ↔ lsA l v ≤ x)) := Lib.hid fun x g1 g2 => ls_iff h v g1 g2
  obtain ⟨bb, off, rfl, hb, hc⟩ := hp.at (by omega)
  obtain ⟨m, hm⟩ : ∃ m, l.length = m + 1 := ⟨l.length - 1, by omega⟩
  have c0 := (hc 0 (by omega)).1
  have c1 := (hc m (by omega)).1
  rw [show l.length - 1 = m by omega] at H1 hV t sp
  rw [hm] at H1 ⊢
  rw [show off + 0 * 2 = off by omega] at c0
  exact rle_core bb off m cap tol v (gX l 0) (gX l m) _ (vl l) w (by omega) hb ⟨by omega, b.1, t, by omega⟩ c0 c1 hV H1
set_option maxHeartbeats 8000000 in
theorem rmk_bad (a : Option Addr) (n cap : Nat) (tol s E V : Int) (w : World) (h : ((E != 0) = true ∧ V = 1) ∨ (E = 0 ∧ s < 1 ∧ V = 2) ∨ (E = 0 ∧ ¬ s < 1 ∧ 1073741824 < s ∧ V = 2))
    (H1 : Hid (∀ W, Below w.heap.size w W → Calls Tryd.prog 34 #[.agg #[.slice a n cap, .int .i64 tol]] W fun e w' => e = .returned (.int .i64 E) ∧ Below W.heap.size W w')) :
    Calls Tryd.prog 14 #[.agg #[.slice a n cap, .int .i64 tol], .int .i64 s] w fun e w' => e = .returned (.tuple #[.slice none 0 0, .int .i64 V]) ∧ Below w.heap.size w w' := by
  go_enter Tryd.func14, Tryd.ntmps14
  go_wp2_with fail
  refine (H1.out _ (bel_alloc (Below.refl _ _))).mono ?_
  rintro e w1 ⟨rfl, gg⟩
  have X1 := Lib.hid (bel_alloc gg); clear gg
  rcases h with ⟨e2, rfl⟩ | ⟨rfl, h, rfl⟩ | ⟨rfl, h, h2, rfl⟩
  · go_wp2
    go_returns
    exact ⟨rfl, X1.out⟩
  · have d1 : decide (s < 1) = true := decide_eq_true h
    go_wp2
    go_returns
    exact ⟨rfl, X1.out⟩
  · have d1 : decide (s < 1) = false := decide_eq_false (by omega)
    have d2 : decide (1073741824 < s) = true := decide_eq_true h2
    go_wp2
    go_returns
    exact ⟨rfl, X1.out⟩
set_option maxHeartbeats 32000000 in
set_option maxRecDepth 100000 in
theorem rmk_ok (b off m cap : Nat) (tol s last : Int) (V H Q M : Nat → Int) (N : Nat) (w : World) (m1 : m ≤ 1000) (hb : b < w.heap.size) (s0 : 1 ≤ s) (s1 : s ≤ 1073741824) (N1 : N ≤ 129) (l1 : 0 ≤ last ∧ last ≤ 4294967296)
    (hc0 : Hid (∃ y, w.cell? ⟨b, off + m * 2, none⟩ = some (.int .i64 y)))
    (hc : Hid (w.cell? ⟨b, off + m * 2 + 1, none⟩ = some (.int .i64 last)))
    (v0 : V 0 = s) (hv : Hid (∀ k, k < N → V k ≤ last ∧ 0 ≤ Q k ∧ Q k ≤ 4294967296 ∧ M k = Q k / s * s ∧ V (k + 1) = M k + s)) (hN : N < 129 → last < V N)
    (H1 : Hid (∀ W, Below w.heap.size w W → Calls Tryd.prog 34 #[.agg #[.slice (some ⟨b, off, none⟩) (m + 1) cap, .int .i64 tol]] W fun e w' => e = .returned (.int .i64 0) ∧ Below W.heap.size W w'))
    (H2 : Hid (∀ k W, k < N → Below w.heap.size w W → Calls Tryd.prog 35 #[.agg #[.slice (some ⟨b, off, none⟩) (m + 1) cap, .int .i64 tol], .int .i64 (V k)] W fun e w' => e = .returned (.int .i64 (H k)) ∧ Below W.heap.size W w'))
    (H3 : Hid (∀ k W, k < N → Below w.heap.size w W → Calls Tryd.prog 36 #[.agg #[.slice (some ⟨b, off, none⟩) (m + 1) cap, .int .i64 tol], .int .i64 (H k)] W fun e w' => e = .returned (.int .i64 (Q k)) ∧ Below W.heap.size W w')) :
    Calls Tryd.prog 14 #[.agg #[.slice (some ⟨b, off, none⟩) (m + 1) cap, .int .i64 tol], .int .i64 s] w fun e w' => ∃ u, e = .returned (.tuple #[u, .int .i64 (if N = 0 then 9 else if 128 < N then 8 else 0)]) ∧ Pts w' u (if N = 0 then [] else if 128 < N then [] else (List.range N).map fun k => (H k, M k)) ∧ Below w.heap.size w w' := by
  obtain ⟨i0, hi, hz0, hz1, hz2⟩ := RM.info_parts mk_info
  replace hi := Lib.hid hi
  replace hz0 := Lib.hid hz0
  replace hz1 := Lib.hid hz1
  replace hz2 := Lib.hid hz2
  have T0 := Lib.hid (Two.new w (.slice (some ⟨b, off, none⟩) (m + 1) cap) (.int .i64 tol) 24)
  have wk : IntKind.i64.wrap (((m + 1 : Nat) : Int) - 1) = (m : Int) := by rw [wrap_in _ ⟨by omega, by omega⟩]; omega
  have wk1 : IntKind.i64.wrap ((m : Int) + 1 - 1) = (m : Int) := by rw [wrap_in _ ⟨by omega, by omega⟩]; omega
  have wk2 : (m : Int) < ((m + 1 : Nat) : Int) := by omega
  have wk3 : (m : Int) < (m : Int) + 1 := by omega
  have ds : decide (s < 1) = false := decide_eq_false (by omega)
  have ds2 : decide (1073741824 < s) = false := decide_eq_false (by omega)
  go_enter Tryd.func14, Tryd.ntmps14
  go_wp2_with fail
  refine (H1.out _ (bel_alloc (Below.refl _ _))).mono ?_
  rintro e w1 ⟨rfl, gg⟩
  replace T0 := Lib.hid (T0.out.below gg)
  have X1 := Lib.hid (bel_alloc gg); clear gg
  obtain ⟨t0, t1, _, _, _⟩ := T0.out
  have cl : w1.cell? ⟨b, off + m * 2 + 1, none⟩ = some (.int .i64 last) := by rw [(bcell X1.out).1 _ _ hb]; exact hc.out
  obtain ⟨lx, hlx⟩ := hc0.out
  have cl0 : w1.cell? ⟨b, off + m * 2, none⟩ = some (.int .i64 lx) := by rw [(bcell X1.out).1 _ _ hb]; exact hlx
  clear hlx hc0
  by_cases hlast : last < s
  · have dl : decide (last < s) = true := decide_eq_true hlast
    have N0 : N = 0 := by
      rcases Nat.eq_zero_or_pos N with q | q
      · exact q
      · have := (hv.out 0 q).1; rw [v0] at this; omega
    subst N0
    have XA := Lib.hid (bel_trans X1.out (bel_alloc (o := .cells #[.int .i64 lx, .int .i64 last] 39) (Below.refl _ _)))
    go_wp2
    go_returns
    exact ⟨_, rfl, pts_nil _, XA.out⟩
  have dl0 : decide (last < s) = false := decide_eq_false hlast
  have N0 : N ≠ 0 := by
    intro q
    have := hN (by omega)
    rw [q, v0] at this
    omega
  have XA := Lib.hid (bel_trans X1.out (bel_alloc (o := .cells #[.int .i64 lx, .int .i64 last] 39) (Below.refl _ _)))
  have XL := Lib.hid (Two.new w1 (.int .i64 lx) (.int .i64 last) 39)
  have TA := Lib.hid (T0.out.alloc (.cells #[.int .i64 lx, .int .i64 last] 39))
  have BS : Hid (w.heap.size < w1.heap.size) := Lib.hid T0.out.2.2.2.2
  have S0 : Hid (MkI (w1.alloc (.cells #[.int .i64 lx, .int .i64 last] 39)) (.slice none 0 0) ((List.range 0).map fun k => (H k, M k)) (w1.alloc (.cells #[.int .i64 lx, .int .i64 last] 39))) := Lib.hid ⟨Below.refl _ _, RM.nil _ _⟩
  go_wp2_with fail
  go_loopw [7, 8, 9] (fun v mm _ wr => ∃ k : Nat, k ≤ N ∧ k ≤ 128 ∧ mm = .int .i64 (V k) ∧ Hid (MkI (w1.alloc (.cells #[.int .i64 lx, .int .i64 last] 39)) v ((List.range k).map fun k => (H k, M k)) wr)) (fun v _ _ _ => 200 - (match v with | .slice _ n _ => n | _ => 0))
  case atStart => exact ⟨0, by omega, by omega, by rw [v0], S0⟩
  case round =>
    clear S0 t0 t1 cl cl0
    obtain ⟨k, hk, hk2, rfl, hS⟩ := hrel
    obtain ⟨av, cv, ev⟩ := RM.shape hS.out.2
    have hln : ((List.range k).map fun k => (H k, M k)).length = k := by simp
    rw [hln] at ev
    subst ev
    have X2 := Lib.hid (bel_trans XA.out hS.out.1)
    have KT := Lib.hid (fun W (hW : Below (w1.alloc (.cells #[.int .i64 lx, .int .i64 last] 39)).heap.size (w1.alloc (.cells #[.int .i64 lx, .int .i64 last] 39)) W) => And.intro (TA.out.below hW) (XL.out.below hW))
    obtain ⟨⟨t0, t1, _, _, _⟩, y0, y1, _, _, _⟩ := KT.out wr hS.out.1
    by_cases hlt : k < N
    · obtain ⟨f0, f1, f2, f3, f4⟩ := hv.out k hlt
      have dl : decide (V k ≤ last) = true := decide_eq_true f0
      have HR := Lib.hid (fun W hW => H2.out k W hlt hW)
      have HQ := Lib.hid (fun W hW => H3.out k W hlt hW)
      have PK : Hid ((List.range (k + 1)).map (fun k => (H k, M k)) = (List.range k).map (fun k => (H k, M k)) ++ [(H k, M k)]) := Lib.hid (by rw [List.range_succ, List.map_append]; rfl)
      have sz : ¬ s = 0 := by omega
      have sz2 : (s == 0) = false := by simp; omega
      have dv := dvs (Q k) s0
      have dv0 : 0 ≤ Q k / s := Int.ediv_nonneg f1 (by omega)
      have dv1 : Q k / s ≤ Q k := Int.ediv_le_self _ f1
      have dv2 : 0 ≤ Q k / s * s := Int.mul_nonneg dv0 (by omega)
      have w1' : IntKind.i64.wrap (Q k / s) = Q k / s := wrap_in _ ⟨by omega, by omega⟩
      have w2' : IntKind.i64.wrap (Q k / s * s) = M k := by rw [← f3]; exact wrap_in _ ⟨by omega, by omega⟩
      have w3' : IntKind.i64.wrap (M k + s) = V (k + 1) := by rw [f4]; exact wrap_in _ ⟨by omega, by omega⟩
      have w4' : (Q k).tdiv s = Q k / s := Int.tdiv_eq_ediv_of_nonneg f1
      replace f3 := Lib.hid f3
      replace f4 := Lib.hid f4
      clear dv dv0 dv1 dv2
      generalize hL : (List.range k).map (fun k => (H k, M k)) = L at *
      replace hL := Lib.hid hL
      replace hln := Lib.hid hln
      generalize hq : Q k = qk at *
      generalize hm : M k = mk at *
      generalize hh : H k = hk' at *
      generalize hvk : V k = vk at *
      generalize hvk1 : V (k + 1) = vk1 at *
      clear hq hm hh hvk
      replace hvk1 := Lib.hid hvk1
      go_wp2_with fail
      refine (HR.out _ X2.out).mono ?_
      rintro e w3 ⟨rfl, gg⟩
      have S3 := Lib.hid (hS.out.below gg)
      clear gg t0 t1 y0 y1
      have X3 := Lib.hid (bel_trans XA.out S3.out.1)
      obtain ⟨⟨t0, t1, _, _, _⟩, y0, y1, _, _, _⟩ := KT.out w3 S3.out.1
      go_wp2_with fail
      refine (HQ.out _ X3.out).mono ?_
      rintro e w4 ⟨rfl, gg⟩
      have S4 := Lib.hid (S3.out.below gg)
      clear gg t0 t1 y0 y1
      have OA : Hid ((w4.alloc (.cells #[.int .i64 hk', .int .i64 mk] 39)).ownsRow (w1.alloc (.cells #[.int .i64 lx, .int .i64 last] 39)).heap.size 39 2 (.slice av k cv) k (flat L)) := Lib.hid (by
        have := RM.below S4.out.2 (bel_alloc (o := .cells #[.int .i64 hk', .int .i64 mk] 39) (Below.refl _ _))
        unfold OwnM at this
        rwa [hln.out] at this)
      have CN := Lib.hid (RM.pair_new w4 hk' mk 39)
      have S5 := Lib.hid (S4.out.below (bel_alloc (o := .cells #[.int .i64 hk', .int .i64 mk] 39) (Below.refl _ _)))
      have HS : Hid ((w1.alloc (.cells #[.int .i64 lx, .int .i64 last] 39)).heap.size ≤ (w4.alloc (.cells #[.int .i64 hk', .int .i64 mk] 39)).heap.size) := Lib.hid S5.out.1.size
      have M1 : Hid (k + 1 ≤ maxLen) := Lib.hid (by unfold maxLen; omega)
      have M2 : Hid ((k + 1) * 16 ≤ 140737488355328) := Lib.hid (by omega)
      go_wp2_with (at_builtin; refine wpList_append_own_at _ rfl _ _ 22 rfl (w1.alloc (.cells #[.int .i64 lx, .int .i64 last] 39)).heap.size 39 i0 (.agg #[.int .i64 0, .int .i64 0]) 2 16 Tryd.underlying22 hi.out hz0.out hz1.out hz2.out rfl (by omega) _ _ _ rfl OA.out ⟨w4.heap.size, 0, none⟩ 1 1 [.int .i64 hk', .int .i64 mk] rfl rfl CN.out (RM.pair_one hk' mk) M1.out M2.out HS.out ?_)
      intro v2 w5 hown hgrow _ _
      have SN : Hid (MkI (w1.alloc (.cells #[.int .i64 lx, .int .i64 last] 39)) v2 ((List.range (k + 1)).map (fun k => (H k, M k))) w5) := Lib.hid (by
        have lt := fun r hr => (World.ownsRow.lt OA.out r hr).1
        exact ⟨S5.out.1.grown hgrow HS.out lt, RM.push PK.out hln.out (by first | exact hown | (rw [World.size_alloc]; exact hown))⟩)
      obtain ⟨a9, c9, ev⟩ := RM.shape SN.out.2
      rw [show ((List.range (k + 1)).map (fun k => (H k, M k))).length = k + 1 by simp] at ev
      clear hown hgrow OA CN
      subst ev
      by_cases h8 : k = 128
      · subst h8
        obtain rfl : N = 129 := by omega
        have X5 := Lib.hid (bel_trans XA.out SN.out.1)
        go_wp2
        go_returns
        exact ⟨_, rfl, pts_nil _, X5.out⟩
      · have d8 : decide (128 < (k : Int) + 1) = false := decide_eq_false (by omega)
        have d8' : decide ((128 : Int) < ((k + 1 : Nat) : Int)) = false := decide_eq_false (by omega)
        go_wp2
        go_roundw
        case rel => exact ⟨k + 1, by omega, by omega, by rw [hvk1.out], SN⟩
        case measure => show 200 - (k + 1) < 200 - k; omega
    · obtain rfl : k = N := by omega
      have h9 := hN (by omega)
      have dl : decide (V k ≤ last) = false := decide_eq_false (by omega)
      have PV := Lib.hid (RM.pts hS.out.2)
      have i1 : ¬ 128 < k := by omega
      generalize V k = vk at *
      go_wp2
      go_returns
      refine ⟨_, rfl, ?_, X2.out⟩
      first | exact PV.out | (rw [if_neg N0, if_neg i1]; exact PV.out)
theorem rmk_any (z : Value) (l : List (Int × Int)) (tol s : Int) (w : World) (hz : TbV w z l tol) :
    Calls Tryd.prog 14 #[z, .int .i64 s] w fun e w' => ∃ u, e = .returned (.tuple #[u, .int .i64 (rmE l tol s)]) ∧ Pts w' u (rmL l tol s) ∧ Below w.heap.size w w' := by
  have H1 : Hid (∀ W, Below w.heap.size w W → _) := Lib.hid fun W hW => rtbChk_any z l tol W (hz.below hW)
  have bad : ∀ V : Int, rmE l tol s = V → V ≠ 0 → (Calls Tryd.prog 14 #[z, .int .i64 s] w fun e w' => e = .returned (.tuple #[.slice none 0 0, .int .i64 V]) ∧ Below w.heap.size w w') → Calls Tryd.prog 14 #[z, .int .i64 s] w fun e w' => ∃ u, e = .returned (.tuple #[u, .int .i64 (rmE l tol s)]) ∧ Pts w' u (rmL l tol s) ∧ Below w.heap.size w w' := fun V e1 e2 hC => by
    refine hC.mono ?_
    rintro e w' ⟨rfl, hb⟩
    refine ⟨_, by rw [e1], ?_, hb⟩
    unfold rmL
    rw [if_neg (by omega)]
    exact pts_nil _
  by_cases h : tbE l tol = 0
  · by_cases g : s < 1 ∨ 1073741824 < s
    · have e1 : rmE l tol s = 2 := by unfold rmE; rw [if_neg (by simpa using h), if_pos g]
      refine bad 2 e1 (by decide) ?_
      rw [h] at H1
      obtain ⟨a, cap, rfl, hp⟩ := hz
      exact rmk_bad a _ cap tol s 0 2 w ((Classical.em (s < 1)).elim (fun g1 => .inr (.inl ⟨rfl, g1, rfl⟩)) (fun g1 => .inr (.inr ⟨rfl, g1, by omega, rfl⟩))) H1
    · obtain ⟨hR, _⟩ := tbE_iff.1 h
      have n0 := hR.n0
      have n1 := hR.n1
      have hs : 1 ≤ s := by omega
      have e1 : rmE l tol s = if rdC l s = 0 then 9 else if 128 < rdC l s then 8 else 0 := by unfold rmE; rw [if_neg (by simpa using h), if_neg g]
      have e2 : rmL l tol s = if rdC l s = 0 then [] else if 128 < rdC l s then [] else (List.range (rdC l s)).map fun k => (lsA l (rdV l s k), vl l (lsA l (rdV l s k)) / s * s) := by
        unfold rmL
        rw [e1]
        by_cases q1 : rdC l s = 0
        · rw [if_pos q1, if_pos q1, if_neg (by decide)]
        · rw [if_neg q1, if_neg q1]
          by_cases q2 : 128 < rdC l s
          · rw [if_pos q2, if_pos q2, if_neg (by decide)]
          · rw [if_neg q2, if_neg q2, if_pos rfl]
            rfl
      rw [e1, e2]
      have H2 : Hid (∀ k W, k < rdC l s → Below w.heap.size w W → _) := Lib.hid fun k W hk hW => rle_any z l tol (rdV l s k) W (hz.below hW) hR (rd_lt hk)
      have H3 : Hid (∀ k W, k < rdC l s → Below w.heap.size w W → Calls Tryd.prog 36 #[z, .int .i64 (lsA l (rdV l s k))] W fun e w' => e = .returned (.int .i64 (vl l (lsA l (rdV l s k)))) ∧ Below W.heap.size W w') := Lib.hid fun k W hk hW => by
        have r := rd_k hR hs (rd_lt hk)
        exact rtbAt_any z l tol (lsA l (rdV l s k)) W (hz.below hW) hR r.h0 r.h1
      rw [h] at H1
      obtain ⟨a, cap, rfl, hp⟩ := hz
      obtain ⟨b, off, rfl, hb, hc⟩ := hp.at (by omega)
      obtain ⟨m, hm⟩ : ∃ m, l.length = m + 1 := ⟨l.length - 1, by omega⟩
      have c0 := (hc m (by omega)).2
      have b1 := hR.bv m (by omega)
      have el : l.length - 1 = m := by omega
      rw [hm] at H1 H2 H3 ⊢
      refine rmk_ok b off m cap tol s (gR l m) (rdV l s) (fun k => lsA l (rdV l s k)) (fun k => vl l (lsA l (rdV l s k))) (fun k => vl l (lsA l (rdV l s k)) / s * s) (rdC l s) w (by omega) hb hs (by omega) (fst_le _ _) b1 (Lib.hid ⟨_, (hc m (by omega)).1⟩) (Lib.hid c0) rfl (Lib.hid fun k hk => ?_) (fun hN => ?_) H1 H2 H3
      · have r := rd_k hR hs (rd_lt hk)
        have q := rd_lt hk
        have v := r.v1
        have sp := hR.span
        have vb := vl_bd hR r.h0 r.h1
        have v0 := (hR.bv 0 (by omega)).1
        rw [el] at q v vb
        have dm := Int.mul_ediv_add_emod (vl l (lsA l (rdV l s k))) s
        rw [Int.mul_comm] at dm
        exact ⟨q, by omega, by omega, rfl, rfl⟩
      · have := rd_end (l := l) (s := s) (by omega)
        rwa [el] at this
  · have e1 : rmE l tol s = 1 := by unfold rmE; rw [if_pos (by simpa using h)]
    refine bad 1 e1 (by decide) ?_
    obtain ⟨a, cap, rfl, hp⟩ := hz
    exact rmk_bad a _ cap tol s _ 1 w (.inl ⟨by simpa using h, rfl⟩) H1
end Go.Proofs.YtdjlainhaoaeiaaDoor

namespace Go.Proofs.YtdjlainhaoaeiaaDoor.rodMakes
open Go.ChangeShapes Go.WideShapes Go.ChangeAt Go.RowKit
open Go.ChangeMaps (open_string shut_string)
set_option linter.unusedVariables false

set_option maxHeartbeats 32000000 in
set_option maxRecDepth 100000 in
theorem core (st tol E : Int) (a : Option Addr) (n cap : Nat) (t l : List (Int × Int)) (w : World) (B1 : Bool) (hn : n = t.length) (hw : Hid (CV w)) (hP : Hid (Pts w (.slice a n cap) t)) (hs : Hid (B1 = true → t.length ≤ 1000))
    (HF : Hid (∀ v W, TbV W v t tol → Calls Tryd.prog 11 #[.slice none 0 0, v] W fun e w' => e = .returned (.bool B1) ∧ Below W.heap.size W w'))
    (HM : Hid (∀ v W, TbV W v t tol → Calls Tryd.prog 12 #[v, .int .i64 st] W fun e w' => ∃ u, e = .returned (.tuple #[u, .int .i64 E]) ∧ Pts w' u l ∧ Below W.heap.size W w'))
    (HM2 : Hid (∀ v W, TbV W v t tol → Calls Tryd.prog 14 #[v, .int .i64 st] W fun e w' => ∃ u, e = .returned (.tuple #[u, .int .i64 E]) ∧ Pts w' u l ∧ Below W.heap.size W w')) :
    Calls Tryd.prog 3 #[.agg #[.slice a n cap, .int .i64 tol], .int .i64 st] w fun e w' => e = .returned (.bool true) ∧ Below w.heap.size w w' := by
  subst hn
  have T0 := Lib.hid (Two.new w (.slice a t.length cap) (.int .i64 tol) 24)
  have HB : Hid (Below w.heap.size w (w.alloc (.cells #[.slice a t.length cap, .int .i64 tol] 24))) := Lib.hid (bel_alloc (Below.refl _ _))
  have HV : Hid (∀ W, Below w.heap.size w W → TbV W (.agg #[.slice a t.length cap, .int .i64 tol]) t tol) := Lib.hid fun W hW => ⟨a, cap, rfl, hP.out.below hW⟩
  have HA : Hid (∀ W, Below w.heap.size w W → _) := Lib.hid fun W hW => awake_any W (hw.out.below hW)
  have HS : Hid (∀ u v W, Pts W u l → Pts W v l → _) := Lib.hid fun u v W h1 h2 => same14_eq u v l W h1 h2
  have eE : (E == E) = true := by simp
  generalize hN : t.length = n at *
  replace hN := Lib.hid hN
  go_enter Tryd.func3, Tryd.ntmps3
  go_wp2_with fail
  refine (HA.out _ HB.out).mono ?_
  rintro e w1 ⟨rfl, h1⟩
  replace T0 := Lib.hid (T0.out.below h1)
  replace HB := Lib.hid (bel_trans HB.out h1); clear h1
  obtain ⟨t0, t1, _, _, _⟩ := T0.out
  go_wp2_with fail
  refine (HF.out _ _ (HV.out _ HB.out)).mono ?_
  rintro e w2 ⟨rfl, h1⟩
  replace T0 := Lib.hid (T0.out.below h1)
  replace HB := Lib.hid (bel_trans HB.out h1); clear h1 t0 t1
  cases B1 with
  | false =>
    go_wp2
    go_returns
    exact ⟨rfl, HB.out⟩
  | true =>
    have HC := Lib.hid (fun v W (h : TbV W v t tol) => copy_any v t tol W h (by rw [hN.out]; exact hs.out (by trivial)))
    obtain ⟨t0, t1, _, _, _⟩ := T0.out
    go_wp2_with fail
    refine (HC.out _ _ (HV.out _ HB.out)).mono ?_
    rintro e w3 ⟨V3, rfl, hx, h1⟩
    replace T0 := Lib.hid (T0.out.below h1)
    replace HB := Lib.hid (bel_trans HB.out h1); clear h1 t0 t1
    have N3 := Lib.hid hx; clear hx
    go_wp2_with fail
    refine (HM.out _ _ N3.out).mono ?_
    rintro e w4 ⟨V4, rfl, hx, h1⟩
    replace T0 := Lib.hid (T0.out.below h1)
    replace HB := Lib.hid (bel_trans HB.out h1); clear h1 N3
    have N4 := Lib.hid hx; clear hx
    obtain ⟨t0, t1, _, _, _⟩ := T0.out
    go_wp2_with fail
    refine (HM2.out _ _ (HV.out _ HB.out)).mono ?_
    rintro e w5 ⟨V5, rfl, hx, h1⟩
    replace N4 := Lib.hid (N4.out.below h1)
    replace HB := Lib.hid (bel_trans HB.out h1); clear h1 t0 t1
    have N5 := Lib.hid hx; clear hx
    go_wp2_with fail
    refine (HS.out _ _ _ N4.out N5.out).mono ?_
    rintro e w6 ⟨rfl, h1⟩
    replace HB := Lib.hid (bel_trans HB.out h1); clear h1
    go_wp2
    go_returns
    exact ⟨rfl, HB.out⟩
theorem walk (z : Value) (tt : List (Int × Int) × Int) (st : Int) (w : World) (hz : TbV w z tt.1 tt.2) (hcv : CV w) :
    Calls Tryd.prog 3 #[z, .int .i64 st] w fun e w' => e = .returned (.bool true) ∧ Below w.heap.size w w' := by
  obtain ⟨t, tol⟩ := tt
  obtain ⟨a, cap, rfl, hp⟩ := hz
  exact core st tol (rmE t tol st) a _ cap t (rmL t tol st) w (decide (t.length ≤ 129)) rfl (Lib.hid hcv) (Lib.hid hp) (Lib.hid fun h => by have := of_decide_eq_true h; omega) (Lib.hid fun v W h => few14_any v t tol W h) (Lib.hid fun v W h => mk_any v t tol st W h) (Lib.hid fun v W h => rmk_any v t tol st W h)

set_option maxRecDepth 100000 in
theorem contract (H : Type) (enc : TypeId × Value → H) (W : World) (base : Nat) (args : Array Value) (ds gs : List (DataW H)) (before : List MemPlace)
    (hval : ∀ (j : Nat) t v, Tryd.f3.params[j]? = some t → args[j]? = some v → Value.okWide Tryd.prog W .any base t v)
    (hW : DataW.Whole enc Tryd.prog Tryd.f3.params.toList Rows.rodMakesSpec.vars false W args.toList ds gs before) (hL : laidMetH Tryd.prog Rows.rodMakesRow.laid W) (hSh : W.ShapedOpen Tryd.prog) :
    Calls Tryd.prog 3 args W fun e W' => ∃ v, e = .returned v ∧ Rows.rodMakesSpec.post enc Tryd.prog Tryd.f3 false true false false W args v W' := by
  have hW' := hW
  obtain ⟨p, q, hA0, hV, rfl, hfz, hnd⟩ := hW
  have hA : DataW.TrodAll enc Tryd.prog W 0 (fun _ => true) true Tryd.f3.params.toList args.toList ds p := hA0
  rw [Tryd.params3] at hA hval
  obtain ⟨v0, vs0, d0, ds0, p0, q0, hargs, rfl, rfl, h0, r0⟩ := trodAll_cons hA
  obtain ⟨v1, vs1, d1, ds1, p1, q1, rfl, rfl, rfl, h1, r1⟩ := trodAll_cons r0
  obtain ⟨rfl, rfl, rfl⟩ := trodAll_nil r1
  obtain rfl : args = #[v0, v1] := by cases args; simp_all
  obtain ⟨rfl, rfl⟩ := trodVars_none hV
  have k0 := h0
  have lt0 : ∀ x ∈ p0, x.block < W.heap.size := by obtain ⟨m, hm⟩ := k0; exact DataW.trod_lt m _ _ _ hm
  have k1 := h1
  have lt1 : ∀ x ∈ p1, x.block < W.heap.size := by obtain ⟨m, hm⟩ := k1; exact DataW.trod_lt m _ _ _ hm
  obtain ⟨z0, w0, wt0⟩ := open_tbl (hval 0 24 v0 rfl rfl) h0
  obtain ⟨a1, rfl, rfl, rfl, w1⟩ := open_int Tryd.underlying3 (hval 1 3 v1 rfl rfl) h1
  clear hA0
  refine (walk v0 z0 a1 W w0  (laid_of rfl hL hSh)).mono fun e W' ⟨he, bel⟩ => ?_
  subst he
  exact ⟨_, rfl, _, _, _, [], _, [], hW', trodAll_mk1 (shut_bool Tryd.underlying4 _), (trodAll_cons_mk (Below.trod laidOut (by kernel_rfl) (of_decide_eq_true (by kernel_rfl)) k0 bel lt0) (trodAll_cons_mk (Below.trod laidOut (by kernel_rfl) (of_decide_eq_true (by kernel_rfl)) k1 bel lt1) trodAll_mk0)), rfl, bel.frame _, fun h => by cases h⟩

noncomputable def laidWorld (os : Os) : World := World.laidAll Tryd.prog os Rows.rodMakesRow.laid
theorem laid_met (os : Os) : laidMet Tryd.prog Rows.rodMakesRow.laid ((laidWorld os).forCall (fun _ _ => 0) ⟨#[], #[.agg #[.slice none 0 0, .int .i64 0], .int .i64 0], []⟩).memory :=
  laidMet_laidAll _ (by kernel_rfl) (by kernel_rfl)
theorem reads (os : Os) {H : Type} (enc : TypeId × Value → H) : ∃ places, DataW.whole enc Tryd.prog ((laidWorld os).forCall (fun _ _ => 0) ⟨#[], #[.agg #[.slice none 0 0, .int .i64 0], .int .i64 0], []⟩).memory Tryd.f3.params.toList Rows.rodMakesSpec.vars false (#[.agg #[.slice none 0 0, .int .i64 0], .int .i64 0] : Array Value).toList 8 = some ([.agg [.nil, .lit (.int .i64 0)], .lit (.int .i64 0)], [], places) :=
  ⟨[], by kernel_rfl⟩

set_option maxRecDepth 100000 in
theorem lifted (os : Os) (started : os.Started) (H : Type) (enc : TypeId × Value → H) (F : Stop.Interp) :
    ReturnsInHanded {} Tryd.checked os 3 .any ((OpenSpec.ofChange Rows.rodMakesSpec).preRow enc Tryd.prog Tryd.f3 Rows.rodMakesRow.domain false Rows.rodMakesRow.laid) (((OpenSpec.ofChange Rows.rodMakesSpec).at F).post enc Tryd.prog Tryd.f3 false true false false) := by
  obtain ⟨places, hx⟩ := reads os enc
  refine returnsInHanded_of_row (C := Tryd.checked) (s := OpenSpec.ofChange Rows.rodMakesSpec) own started (by kernel_rfl) Tryd.func3
    (witness_row_at (enc := enc) (C := Tryd.checked) false (laidWorld os) #[.agg #[.slice none 0 0, .int .i64 0], .int .i64 0] (World.laidAll_os _ _ _) (by kernel_rfl) (by kernel_rfl) (by kernel_rfl)
      (OpenSpec.preRow_of_cond 8 hx (by kernel_rfl) (fun k hk => by cases hk) (by kernel_rfl) (laid_met os))) ?_
  intro W base args ds gs before hval hW _ _ _ hL hSh _
  exact contract H enc W base args ds gs before hval hW hL hSh

theorem said : Rows.RodMakesSaid :=
  OpenClaim.holds_of_cond 3 Tryd.f3 rfl rfl rfl rfl rfl rfl rfl ⟨rfl, rfl, rfl, rfl, rfl⟩ rfl rfl rfl rfl rfl (by kernel_rfl) Tryd.func3 (by kernel_rfl)
    (of_decide_eq_true (by kernel_rfl)) (by unfold Func.isWrapper; first | (rw [if_pos (by decide +kernel)]; kernel_rfl) | (rw [if_neg (by decide +kernel)]; exact ⟨rfl, rfl⟩))
    (fun os started H enc _ F => by rw [OpenClaim.pre_eq_preRow]; exact lifted os started H enc F)

theorem plain (f : FuncId) (fn : Func) (hf : Tryd.pinned.checked.prog.funcNamed "spile/spilelaw14.RodMakes" = some f) (hfn : Tryd.pinned.checked.prog.funcs[f]? = some fn) :
    false = Tryd.pinned.checked.prog.looks [] ∧ ∀ (j : Nat) t, fn.params[j]? = some t → Tryd.pinned.checked.prog.wantsStandIn t = false := by
  obtain rfl : f = 3 := Option.some.inj ((show Tryd.prog.funcNamed "spile/spilelaw14.RodMakes" = some 3 by kernel_rfl).symm.trans hf) |>.symm
  obtain rfl : fn = Tryd.f3 := (Option.some.inj (Tryd.func3.symm.trans hfn)).symm
  refine ⟨by kernel_rfl, fun j t ht => ?_⟩
  rw [Tryd.params3] at ht
  rcases j with _ | _ | j
  · obtain rfl : t = 24 := by simpa using ht.symm
    exact (show Tryd.prog.wantsStandIn 24 = false by kernel_rfl)
  · obtain rfl : t = 3 := by simpa using ht.symm
    exact (show Tryd.prog.wantsStandIn 3 = false by kernel_rfl)
  · simp at ht

theorem proved : Rows.RodMakesCardSaid :=
  Claim7.holds_tied_plain_at .later [] _ _ _ _ said (fun _ h => by cases h) (by kernel_rfl) (fun _ h => by cases h) rodMakes_row_tie rfl ⟨rfl, rfl⟩ (by kernel_rfl) rfl plain (by kernel_rfl)
#print axioms proved
end Go.Proofs.YtdjlainhaoaeiaaDoor.rodMakes
