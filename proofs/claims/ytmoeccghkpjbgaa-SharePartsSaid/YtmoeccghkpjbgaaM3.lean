/- Texts that the proofs of this seat share, one behind the other: SHA, SHB, SHC, PKept, SHD, SHE, SHR1, MD0, Ref2, MXD, MXE0, MXE, SHR2. -/
import Derived.Test.YtmoeccghkpjbgaaM2
import Derived.Deep.RegionWith
import Derived.RangeFuncNested
import Derived.RangeFuncBound
import Derived.RangeFuncCalls
import Derived.RangeFuncLeaves
import Derived.RangeFuncBox
import Derived.Test.YtmoeccghkpjbgaaM1
import Derived.Shelf.Abstract
import Derived.Shelf.RegionOpen
import Derived.OwnWalkIn
import Derived.TacticsInMore
import Derived.LoopNIn
import Derived.LoopIn
import Derived.BigQuiet
import Derived.Deep.RegionHeld3
import Derived.Sort.CutIn
import Derived.Laws.EntriesVeiled
import Derived.Deep.DeepCutAuto
import Derived.Laws.AppendOwn
import Derived.Maps.AppendAt

set_option linter.unusedVariables false
set_option linter.unusedSimpArgs false

/- Package share: the fault of a share, Check, areRight. -/
namespace Go.Proofs.Ytmoeccghkpjbgaa
open Go.RowKit

/-- the fault of a share behind one with a fill -/
def scV (x y p : Int) : Int := if (!idB x || decide (y < 1) || decide (10737418240000 < y)) = true then 2 else if x ≤ p then 5 else 0
def scF (s : List (Int × Int)) (k : Nat) : Int := scV (gX s k) (gR s k) (pvF s k)
theorem scF_zero {s : List (Int × Int)} {k : Nat} : scF s k = 0 ↔ shB s k = false := by
  unfold scF scV shB
  generalize idB (gX s k) = i
  by_cases a : gX s k ≤ pvF s k <;> by_cases b : gR s k < 1 <;> by_cases c : 10737418240000 < gR s k <;> cases i <;> simp [a, b, c]
def scK (s : List (Int × Int)) : Nat := fst (fun k => scF s k != 0) s.length
/-- the first fault of shares -/
def scE (s : List (Int × Int)) : Int := if 32 < s.length then 8 else if scK s < s.length then scF s (scK s) else if 10737418240000 < sm fM s then 15 else 0
/-- right shares -/
structure SR (s : List (Int × Int)) : Prop where
  len : s.length ≤ 32
  ok : ∀ k, k < s.length → shB s k = false
  sum : sm fM s ≤ 10737418240000
theorem SR.sh {s : List (Int × Int)} (h : SR s) : shO s = true := shO_iff.2 h.ok
theorem scE_zero {s : List (Int × Int)} : scE s = 0 ↔ SR s := by
  unfold scE
  obtain ⟨s1, s2⟩ := fst_spec (fun k => scF s k != 0) s.length
  have le := fst_le (fun k => scF s k != 0) s.length
  change scK s ≤ s.length at le
  constructor
  · intro h
    by_cases h1 : 32 < s.length
    · rw [if_pos h1] at h; cases h
    rw [if_neg h1] at h
    by_cases h2 : scK s < s.length
    · rw [if_pos h2] at h
      have := s2 h2
      change (scF s (scK s) != 0) = true at this
      rw [h] at this; cases this
    · rw [if_neg h2] at h
      by_cases h3 : 10737418240000 < sm fM s
      · rw [if_pos h3] at h; cases h
      · exact ⟨by omega, fun k hk => scF_zero.1 (by have := s1 k (show k < scK s by omega); simpa using this), by omega⟩
  · intro h
    have e : ¬ scK s < s.length := fun h2 => by
      have := s2 h2
      change (scF s (scK s) != 0) = true at this
      rw [scF_zero.2 (h.ok _ h2)] at this; cases this
    rw [if_neg (by have := h.len; omega), if_neg e, if_neg (by have := h.sum; omega)]
set_option maxHeartbeats 4000000 in
theorem shId_any (n : Int) (w : World) :
    Calls Try.prog 50 #[.int .i64 n] w fun e w' => e = .returned (.bool (idB n)) ∧ w' = w := by
  unfold idB
  by_cases h : 1 ≤ n
  · have d : decide (1 ≤ n) = true := decide_eq_true h
    rw [d, Bool.true_and]
    clear h
    generalize hB : decide (n ≤ 1073741824) = B
    go_enter Try.func50, Try.ntmps50
    go_wp2
    go_returns
    exact ⟨rfl, rfl⟩
  · have d : decide (1 ≤ n) = false := decide_eq_false h
    rw [d, Bool.false_and]
    clear h
    go_enter Try.func50, Try.ntmps50
    go_wp2
    go_returns
    exact ⟨rfl, rfl⟩
set_option maxHeartbeats 8000000 in
set_option maxRecDepth 100000 in
theorem shFa_any (x y p : Int) (w : World) :
    Calls Try.prog 46 #[.agg #[.int .i64 x, .int .i64 y], .int .i64 p] w fun e w' => e = .returned (.int .i64 (scV x y p)) ∧ Below w.heap.size w w' := by
  have T0 := Two.new w (.int .i64 x) (.int .i64 y) 52
  have X : Hid (Below w.heap.size w (w.alloc (.cells #[.int .i64 x, .int .i64 y] 52))) := Lib.hid (bel_alloc (Below.refl _ _))
  have HI := Lib.hid (fun W => shId_any x W)
  obtain ⟨b0, b1, _, _, _⟩ := T0
  unfold scV
  cases e0 : idB x with
  | false =>
    rw [e0] at HI
    rw [if_pos (by simp)]
    clear e0
    go_enter Try.func46, Try.ntmps46
    go_wp2_with fail
    refine (HI.out _).mono ?_
    rintro e w1 ⟨rfl, hw⟩
    subst hw
    go_wp2
    go_returns
    exact ⟨rfl, X.out⟩
  | true =>
    rw [e0] at HI
    clear e0
    by_cases h1 : y < 1
    · have d1 : decide (y < 1) = true := decide_eq_true h1
      rw [if_pos (by simp [h1])]
      go_enter Try.func46, Try.ntmps46
      go_wp2_with fail
      refine (HI.out _).mono ?_
      rintro e w1 ⟨rfl, hw⟩
      subst hw
      go_wp2
      go_returns
      exact ⟨rfl, X.out⟩
    have d1 : decide (y < 1) = false := decide_eq_false h1
    by_cases h2 : 10737418240000 < y
    · have d2 : decide (10737418240000 < y) = true := decide_eq_true h2
      rw [if_pos (by simp [h2])]
      go_enter Try.func46, Try.ntmps46
      go_wp2_with fail
      refine (HI.out _).mono ?_
      rintro e w1 ⟨rfl, hw⟩
      subst hw
      go_wp2
      go_returns
      exact ⟨rfl, X.out⟩
    have d2 : decide (10737418240000 < y) = false := decide_eq_false h2
    rw [if_neg (by simp [h1, h2])]
    by_cases h3 : x ≤ p
    · have d3 : decide (x ≤ p) = true := decide_eq_true h3
      rw [if_pos h3]
      go_enter Try.func46, Try.ntmps46
      go_wp2_with fail
      refine (HI.out _).mono ?_
      rintro e w1 ⟨rfl, hw⟩
      subst hw
      go_wp2
      go_returns
      exact ⟨rfl, X.out⟩
    · have d3 : decide (x ≤ p) = false := decide_eq_false h3
      rw [if_neg h3]
      go_enter Try.func46, Try.ntmps46
      go_wp2_with fail
      refine (HI.out _).mono ?_
      rintro e w1 ⟨rfl, hw⟩
      subst hw
      go_wp2
      go_returns
      exact ⟨rfl, X.out⟩
set_option maxHeartbeats 4000000 in
theorem shCh_long (a : Option Addr) (n cap : Nat) (w : World) (h : 32 < n) (hn : n ≤ 9223372036854775807) :
    Calls Try.prog 18 #[.slice a n cap] w fun e w' => e = .returned (.int .i64 8) ∧ Below w.heap.size w w' := by
  have q : decide (32 < (n : Int)) = true := decide_eq_true (by omega)
  go_enter Try.func18, Try.ntmps18
  go_wp2
  go_returns
  exact ⟨rfl, Below.refl _ _⟩
theorem sc_bd {s : List (Int × Int)} : ∀ {k : Nat}, (∀ j, j < k → shB s j = false) → k ≤ s.length → 0 ≤ sm fM (s.take k) ∧ sm fM (s.take k) ≤ 10737418240000 * k
  | 0, _, _ => by simp [sm]
  | k + 1, h, hk => by
    have ih := sc_bd (k := k) (fun j hj => h j (by omega)) (by omega)
    have s1 : sm fM (s.take (k + 1)) = sm fM (s.take k) + gR s k := sm_step fM s k (by omega)
    have := (shB_false.1 (h k (by omega))).2.2
    omega
set_option maxHeartbeats 16000000 in
set_option maxRecDepth 100000 in
theorem shCh_ok (a : Option Addr) (n cap : Nat) (s : List (Int × Int)) (w : World) (NV0 : Hid (Pts w (.slice a n cap) s)) (hl : Hid (s.length = n)) (hn : n ≤ 32) (T : Int) (hT : Hid (sm fM s = T)) (E : Int) (hE : Hid ((if 10737418240000 < T then 15 else 0 : Int) = E)) (hp : Hid (∀ j, j < n → scF s j = 0)) :
    Calls Try.prog 18 #[.slice a n cap] w fun e w' => e = .returned (.int .i64 E) ∧ Below w.heap.size w w' := by
  have q : decide (32 < (n : Int)) = false := decide_eq_false (by omega)
  have HS := Lib.hid (sm_step fM s)
  have FS := Lib.hid (sm_full fM s)
  have HF := Lib.hid (fun x y p W => shFa_any x y p W)
  have HY : Hid (∀ k, k ≤ n → 0 ≤ sm fM (s.take k) ∧ sm fM (s.take k) ≤ 10737418240000 * k) := Lib.hid (fun k hk => sc_bd (fun j hj => scF_zero.1 (hp.out j (by omega))) (by rw [hl.out]; omega))
  have HX := Lib.hid (fun k (hk : k < n) => (shB_false.1 (scF_zero.1 (hp.out k hk))).2.2)
  rw [hl.out] at HS FS
  go_enter Try.func18, Try.ntmps18
  go_wp2_with fail
  go_loopw [3, 4, 13] (fun bf t i wr => ∃ k : Nat, k ≤ n ∧ i = .int .i64 k ∧ bf = .int .i64 (pvF s k) ∧ t = .int .i64 (sm fM (s.take k)) ∧ Hid (Below w.heap.size w wr)) (fun _ _ i _ => n - (intOf i).toNat)
  case atStart => exact ⟨0, Nat.zero_le _, rfl, rfl, rfl, Lib.hid (Below.refl _ _)⟩
  case round =>
    obtain ⟨k, hk, rfl, rfl, rfl, X⟩ := hrel
    have NV := Lib.hid (NV0.out.below X.out)
    by_cases hlt : k < n
    · have hv : pvF s (k + 1) = gX s k := rfl
      have s1 := Lib.hid (HS.out k (by omega))
      change Hid (sm fM (s.take (k + 1)) = sm fM (s.take k) + gR s k) at s1
      have yb := HY.out k (by omega)
      have xb := HX.out k hlt
      have l9 : (k : Int) < (n : Int) := by omega
      have HFk := Lib.hid (HF.out (gX s k) (gR s k) (pvF s k))
      have h0 := hp.out k hlt
      unfold scF at h0
      rw [h0] at HFk
      obtain ⟨b, off, rfl, hb, hc⟩ := NV.out.at (by omega)
      obtain ⟨c0, c1⟩ := hc k (by omega)
      clear hc h0
      generalize pvF s k = p at *
      generalize gX s k = x at *
      generalize gR s k = y at *
      generalize sm fM (s.take k) = S at *
      have w1 : IntKind.i64.wrap (S + y) = S + y := wrap_in _ ⟨by omega, by omega⟩
      have T0 := Lib.hid (Two.new wr (.int .i64 x) (.int .i64 y) 52)
      have X1 : Hid (Below w.heap.size w (wr.alloc (.cells #[.int .i64 x, .int .i64 y] 52))) := Lib.hid (bel_trans X.out (bel_alloc (Below.refl _ _)))
      obtain ⟨p0, p1, _, _, _⟩ := T0.out
      go_wp2_with fail
      refine (HFk.out _).mono ?_
      rintro e w3 ⟨rfl, hw⟩
      replace T0 := Lib.hid (T0.out.below hw)
      replace X1 := Lib.hid (bel_trans X1.out hw)
      clear hw p0 p1 c0 c1
      obtain ⟨p0, p1, _, _, _⟩ := T0.out
      go_wp2
      go_roundw
      case rel => exact ⟨k + 1, by omega, by go_num, by rw [hv], by rw [s1.out], X1⟩
      case measure => simp [intOf]; omega
    · obtain rfl : k = n := by omega
      rw [FS.out, hT.out]
      clear FS HS HY HX
      have hE1 := hE.out
      by_cases g : 10737418240000 < T
      · have d : decide (10737418240000 < T) = true := decide_eq_true g
        rw [if_pos g] at hE1
        subst hE1
        go_wp2
        go_returns
        exact ⟨rfl, X.out⟩
      · have d : decide (10737418240000 < T) = false := decide_eq_false g
        rw [if_neg g] at hE1
        subst hE1
        go_wp2
        go_returns
        exact ⟨rfl, X.out⟩
set_option maxHeartbeats 16000000 in
set_option maxRecDepth 100000 in
theorem shCh_bad (a : Option Addr) (n cap : Nat) (s : List (Int × Int)) (w : World) (NV0 : Hid (Pts w (.slice a n cap) s)) (hl : Hid (s.length = n)) (hn : n ≤ 32) (m : Nat) (hm : m < n) (F : Int) (hF : (F != 0) = true) (hq : scF s m = F) (hp : Hid (∀ j, j < m → scF s j = 0)) :
    Calls Try.prog 18 #[.slice a n cap] w fun e w' => e = .returned (.int .i64 F) ∧ Below w.heap.size w w' := by
  have q : decide (32 < (n : Int)) = false := decide_eq_false (by omega)
  have HS := Lib.hid (sm_step fM s)
  have FS := Lib.hid (sm_full fM s)
  have HF := Lib.hid (fun x y p W => shFa_any x y p W)
  have HY : Hid (∀ k, k ≤ m → 0 ≤ sm fM (s.take k) ∧ sm fM (s.take k) ≤ 10737418240000 * k) := Lib.hid (fun k hk => sc_bd (fun j hj => scF_zero.1 (hp.out j (by omega))) (by rw [hl.out]; omega))
  have HX := Lib.hid (fun k (hk : k < m) => (shB_false.1 (scF_zero.1 (hp.out k hk))).2.2)
  rw [hl.out] at HS FS
  go_enter Try.func18, Try.ntmps18
  go_wp2_with fail
  go_loopw [3, 4, 13] (fun bf t i wr => ∃ k : Nat, k ≤ m ∧ i = .int .i64 k ∧ bf = .int .i64 (pvF s k) ∧ t = .int .i64 (sm fM (s.take k)) ∧ Hid (Below w.heap.size w wr)) (fun _ _ i _ => n - (intOf i).toNat)
  case atStart => exact ⟨0, Nat.zero_le _, rfl, rfl, rfl, Lib.hid (Below.refl _ _)⟩
  case round =>
    obtain ⟨k, hk, rfl, rfl, rfl, X⟩ := hrel
    have NV := Lib.hid (NV0.out.below X.out)
    by_cases hlt : k < m
    · have hv : pvF s (k + 1) = gX s k := rfl
      have s1 := Lib.hid (HS.out k (by omega))
      change Hid (sm fM (s.take (k + 1)) = sm fM (s.take k) + gR s k) at s1
      have yb := HY.out k (by omega)
      have xb := HX.out k hlt
      have l9 : (k : Int) < (n : Int) := by omega
      have HFk := Lib.hid (HF.out (gX s k) (gR s k) (pvF s k))
      have h0 := hp.out k hlt
      unfold scF at h0
      rw [h0] at HFk
      obtain ⟨b, off, rfl, hb, hc⟩ := NV.out.at (by omega)
      obtain ⟨c0, c1⟩ := hc k (by omega)
      clear hc h0
      generalize pvF s k = p at *
      generalize gX s k = x at *
      generalize gR s k = y at *
      generalize sm fM (s.take k) = S at *
      have w1 : IntKind.i64.wrap (S + y) = S + y := wrap_in _ ⟨by omega, by omega⟩
      have T0 := Lib.hid (Two.new wr (.int .i64 x) (.int .i64 y) 52)
      have X1 : Hid (Below w.heap.size w (wr.alloc (.cells #[.int .i64 x, .int .i64 y] 52))) := Lib.hid (bel_trans X.out (bel_alloc (Below.refl _ _)))
      obtain ⟨p0, p1, _, _, _⟩ := T0.out
      go_wp2_with fail
      refine (HFk.out _).mono ?_
      rintro e w3 ⟨rfl, hw⟩
      replace T0 := Lib.hid (T0.out.below hw)
      replace X1 := Lib.hid (bel_trans X1.out hw)
      clear hw p0 p1 c0 c1
      obtain ⟨p0, p1, _, _, _⟩ := T0.out
      go_wp2
      go_roundw
      case rel => exact ⟨k + 1, by omega, by go_num, by rw [hv], by rw [s1.out], X1⟩
      case measure => simp [intOf]; omega
    · obtain rfl : k = m := by omega
      have l9 : (k : Int) < (n : Int) := by omega
      have HFk := Lib.hid (HF.out (gX s k) (gR s k) (pvF s k))
      unfold scF at hq
      rw [hq] at HFk
      obtain ⟨b, off, rfl, hb, hc⟩ := NV.out.at (by omega)
      obtain ⟨c0, c1⟩ := hc k (by omega)
      clear hc hq HY HX HS FS
      generalize pvF s k = p at *
      generalize gX s k = x at *
      generalize gR s k = y at *
      generalize sm fM (s.take k) = S at *
      have T0 := Lib.hid (Two.new wr (.int .i64 x) (.int .i64 y) 52)
      have X1 : Hid (Below w.heap.size w (wr.alloc (.cells #[.int .i64 x, .int .i64 y] 52))) := Lib.hid (bel_trans X.out (bel_alloc (Below.refl _ _)))
      obtain ⟨p0, p1, _, _, _⟩ := T0.out
      go_wp2_with fail
      refine (HFk.out _).mono ?_
      rintro e w3 ⟨rfl, hw⟩
      replace X1 := Lib.hid (bel_trans X1.out hw)
      clear hw p0 p1 c0 c1 T0
      go_wp2
      go_returns
      exact ⟨rfl, X1.out⟩
theorem shCh_any (v : Value) (s : List (Int × Int)) (w : World) (hv : Pts w v s) :
    Calls Try.prog 18 #[v] w fun e w' => e = .returned (.int .i64 (scE s)) ∧ Below w.heap.size w w' := by
  obtain ⟨a, cap, rfl, hcap, _⟩ := id hv
  unfold scE
  obtain ⟨s1, s2⟩ := fst_spec (fun k => scF s k != 0) s.length
  have le := fst_le (fun k => scF s k != 0) s.length
  change scK s ≤ s.length at le
  by_cases h : 32 < s.length
  · rw [if_pos h]; exact shCh_long a _ cap w h (by omega)
  · rw [if_neg h]
    by_cases g : scK s < s.length
    · rw [if_pos g]
      exact shCh_bad a _ cap s w hv (Lib.hid rfl) (by omega) (scK s) g _ (s2 g) rfl (Lib.hid fun j hj => by simpa using s1 j hj)
    · rw [if_neg g]
      exact shCh_ok a _ cap s w hv (Lib.hid rfl) (by omega) _ (Lib.hid rfl) _ (Lib.hid rfl) (Lib.hid fun j hj => by
        have : scK s = s.length := by omega
        have := s1 j (by show j < scK s; omega)
        simpa using this)
theorem shAr_any (v : Value) (s : List (Int × Int)) (w : World) (hv : Pts w v s) :
    Calls Try.prog 37 #[v] w fun e w' => e = .returned (.bool (scE s == 0)) ∧ Below w.heap.size w w' := by
  have HC := Lib.hid (shCh_any v s w hv)
  generalize scE s = E at *
  go_enter Try.func37, Try.ntmps37
  go_wp2_with fail
  refine HC.out.mono ?_
  rintro e w1 ⟨rfl, h1⟩
  have X := Lib.hid h1; clear h1
  go_wp2
  go_returns
  exact ⟨rfl, X.out⟩
end Go.Proofs.Ytmoeccghkpjbgaa

/- Package share: amounts, Sum, with. -/
namespace Go.Proofs.Ytmoeccghkpjbgaa
open Go.RowKit

/-- the alcohol of each share -/
def amS (s : List (Int × Int)) : List Int := s.map Prod.snd
theorem amS_len (s : List (Int × Int)) : (amS s).length = s.length := by simp [amS]
theorem amS_get (s : List (Int × Int)) (k : Nat) : (amS s).getD k 0 = gR s k := by
  unfold amS gR
  simp only [List.getD_eq_getElem?_getD, List.getElem?_map]
  cases s[k]? <;> rfl
theorem amS_sum (s : List (Int × Int)) : (amS s).sum = sm fM s := rfl
/-- shares with other amounts, of the first k -/
def wiS (s : List (Int × Int)) (zs : List Int) : Nat → List (Int × Int)
  | 0 => []
  | k + 1 => if 0 < zs.getD k 0 then wiS s zs k ++ [(gX s k, zs.getD k 0)] else wiS s zs k
theorem wiS_len (s : List (Int × Int)) (zs : List Int) : ∀ k, (wiS s zs k).length ≤ k
  | 0 => by simp [wiS]
  | k + 1 => by
    have := wiS_len s zs k
    unfold wiS
    split <;> simp <;> omega
set_option maxHeartbeats 8000000 in
set_option maxRecDepth 100000 in
theorem shAm_any (v : Value) (s : List (Int × Int)) (w : World) (hv : Pts w v s) (hn : s.length ≤ 64) (hA : ∀ k, k < s.length → 0 ≤ gR s k ∧ gR s k ≤ 21474836480000) :
    Calls Try.prog 38 #[v] w fun e w' => ∃ u, e = .returned (.tuple #[u, .int .i64 (sm fM s)]) ∧ Ins w' u (amS s) ∧ Below w.heap.size w w' := by
  obtain ⟨a, cap, rfl, hcap, hh⟩ := hv
  have NV0 : Hid (Pts w (.slice a s.length cap) s) := ⟨a, cap, rfl, hcap, hh⟩
  clear hh hcap
  have HS := Lib.hid (sm_step fM s)
  have FS := Lib.hid (sm_full fM s)
  have HY : Hid (∀ k, k ≤ s.length → 0 ≤ sm fM (s.take k) ∧ sm fM (s.take k) ≤ 21474836480000 * k) := Lib.hid fun k hk => by
    induction k with
    | zero => simp [sm]
    | succ k ih =>
      have ih := ih (by omega)
      have s1 : sm fM (s.take (k + 1)) = sm fM (s.take k) + gR s k := HS.out k (by omega)
      have := hA k (by omega)
      omega
  replace hA := Lib.hid hA
  have LA := Lib.hid (amS_len s)
  generalize sm fM s = T at *
  obtain ⟨n, hN⟩ : ∃ n, s.length = n := ⟨_, rfl⟩
  rw [hN] at NV0 HS FS HY hA LA hn ⊢
  obtain ⟨i0, hi, hz0, hz1, hz2⟩ := info_parts Try.info3
  have HI := Lib.hid hi; have HZ0 := Lib.hid hz0; have HZ1 := Lib.hid hz1; have HZ2 := Lib.hid hz2
  clear hi hz0 hz1 hz2
  go_enter Try.func38, Try.ntmps38
  go_wp2_with (at_make; refine wpList_make_full _ rfl _ _ 30 rfl w.heap.size 3 i0 (.int .i64 0) 1 Try.underlying30 HI.out HZ0.out HZ1.out .i64 .i64 _ _ n rfl rfl rfl rfl (by rw [HZ2.out]; omega) (by unfold maxLen; omega) (by omega) ?_; intro w3 ho3 hg3)
  rw [madeZeros] at ho3
  have hb3 : Below w.heap.size w w3 := (Below.refl _ _).grown hg3 (Nat.le_refl _) (by simp)
  have O3 : Hid (Own w3 w.heap.size w.heap.size n n (List.replicate n 0)) := ho3
  have HB3 := Lib.hid hb3
  clear ho3 hg3 hb3
  go_wp2_with fail
  go_loopw [5, 13] (fun t i wr => ∃ k : Nat, k ≤ n ∧ i = .int .i64 k ∧ t = .int .i64 (sm fM (s.take k)) ∧ Hid (Own wr w.heap.size w.heap.size n n (fillTo (amS s) k)) ∧ Hid (Below w.heap.size w wr)) (fun _ i _ => n - (intOf i).toNat)
  case atStart => exact ⟨0, Nat.zero_le _, rfl, rfl, by rw [fillTo_zero, LA.out]; exact O3, HB3⟩
  case round =>
    clear O3 HB3
    obtain ⟨k, hk, rfl, rfl, P2, X⟩ := hrel
    have NV := Lib.hid (NV0.out.below X.out)
    by_cases hlt : k < n
    · have s1 := Lib.hid (HS.out k hlt)
      change Hid (sm fM (s.take (k + 1)) = sm fM (s.take k) + gR s k) at s1
      have yb := HY.out k (by omega)
      have xb := hA.out k hlt
      have l9 : (k : Int) < (n : Int) := by omega
      obtain ⟨b, off, rfl, hb, hc⟩ := NV.out.at (by omega)
      obtain ⟨c0, c1⟩ := hc k (by omega)
      clear hc
      have F1 := Lib.hid (fillTo_set (amS s) k (by rw [LA.out]; exact hlt))
      rw [amS_get] at F1
      generalize gX s k = x at *
      generalize gR s k = y at *
      generalize sm fM (s.take k) = S at *
      have w1 : IntKind.i64.wrap (S + y) = S + y := wrap_in _ ⟨by omega, by omega⟩
      have T0 := Lib.hid (Two.new wr (.int .i64 x) (.int .i64 y) 52)
      have X1 : Hid (Below wr.heap.size wr (wr.alloc (.cells #[.int .i64 x, .int .i64 y] 52))) := Lib.hid (bel_alloc (Below.refl _ _))
      have P3 := P2.out.below X1.out
      have c2 := P3.cell k hlt
      have f2 := World.ownsRow.frozenAt P3 k
      have S2 := Lib.hid (P3.set k y)
      rw [F1.out] at S2
      have hne : wr.heap.size ≠ w.heap.size := by have := P2.out.lt.2; omega
      have hne2 : w.heap.size ≠ wr.heap.size := fun e => hne e.symm
      have X2 := Lib.hid ((bel_trans X.out X1.out).setCell (p := ⟨w.heap.size, k, none⟩) (Nat.le_refl _) (.int .i64 y))
      obtain ⟨p0, p1, _, _, _⟩ := T0.out
      have p1' : ((wr.alloc (.cells #[.int .i64 x, .int .i64 y] 52)).setCell ⟨w.heap.size, k, none⟩ (.int .i64 y)).cell? ⟨wr.heap.size, 1, none⟩ = some (.int .i64 y) := by
        rw [World.cell?_setCell_other _ _ _ _ (by intro e; simp only [Addr.mk.injEq] at e; omega)]; exact p1
      clear X1 F1 P2 P3 T0 X
      go_wp2
      go_roundw
      case rel => exact ⟨k + 1, by omega, by go_num, by rw [s1.out], S2, X2⟩
      case measure => simp [intOf]; omega
    · obtain rfl : k = n := by omega
      have E1 := fillTo_all (amS s) k (by rw [LA.out]; omega)
      rw [E1] at P2
      rw [FS.out]
      have IN := Lib.hid (P2.out.ins (by omega))
      clear P2 E1
      go_wp2
      go_returns
      exact ⟨_, rfl, IN.out, X.out⟩
theorem SR.am {s : List (Int × Int)} (h : SR s) : ∀ k, k < s.length → 0 ≤ gR s k ∧ gR s k ≤ 21474836480000 := fun k hk => by
  have := (shB_false.1 (h.ok k hk)).2.2
  omega
def suF (s : List (Int × Int)) : Int := if scE s = 0 then sm fM s else 0
def suG (s : List (Int × Int)) : Int := if scE s = 0 then 0 else 1
theorem shSu_any (v : Value) (s : List (Int × Int)) (w : World) (hv : Pts w v s) :
    Calls Try.prog 12 #[v] w fun e w' => e = .returned (.tuple #[.int .i64 (suF s), .int .i64 (suG s)]) ∧ Below w.heap.size w w' := by
  have HC := Lib.hid (shAr_any v s w hv)
  unfold suF suG
  by_cases h : scE s = 0
  · have hR := scE_zero.1 h
    rw [if_pos h, if_pos h]
    rw [h] at HC
    have HM := Lib.hid (fun W g => shAm_any v s W g (by have := hR.len; omega) hR.am)
    replace hv := Lib.hid hv
    clear h hR
    generalize sm fM s = T at *
    go_enter Try.func12, Try.ntmps12
    go_wp2_with fail
    refine HC.out.mono ?_
    rintro e w1 ⟨rfl, h1⟩
    have X := Lib.hid h1; clear h1
    go_wp2_with fail
    refine (HM.out _ (hv.out.below X.out)).mono ?_
    rintro e w2 ⟨u, rfl, _, h1⟩
    replace X := Lib.hid (bel_trans X.out h1); clear h1
    go_wp2
    go_returns
    exact ⟨rfl, X.out⟩
  · rw [if_neg h, if_neg h]
    rw [show (scE s == 0) = false by simpa using h] at HC
    clear h
    go_enter Try.func12, Try.ntmps12
    go_wp2_with fail
    refine HC.out.mono ?_
    rintro e w1 ⟨rfl, h1⟩
    have X := Lib.hid h1; clear h1
    go_wp2
    go_returns
    exact ⟨rfl, X.out⟩
namespace RH
/-- what loops that put shares keep -/
def SI (w : World) (v : Value) (L : List (Int × Int)) (W : World) : Prop := Below w.heap.size w W ∧ Sh W w.heap.size v L
theorem SI.below {w : World} {v : Value} {L : List (Int × Int)} {W W' : World} (h : SI w v L W) (hb : Below W.heap.size W W') : SI w v L W' := ⟨bel_trans h.1 hb, h.2.below hb⟩
theorem pair_new (w : World) (y0 y1 : Int) (T : TypeId) (j : Nat) (u : Value) (hj : [Value.int .i64 y0, .int .i64 y1][j]? = some u) : (w.alloc (.cells #[.int .i64 y0, .int .i64 y1] T)).cell? ((⟨w.heap.size, 0, none⟩ : Addr).add j) = some u := by
  obtain ⟨n0, n1, _, _, _⟩ := Two.new w (.int .i64 y0) (.int .i64 y1) T
  rw [Go.WideShapes.add_plain, Nat.zero_add]
  match j, hj with
  | 0, hj => simp at hj; rw [← hj]; exact n0
  | 1, hj => simp at hj; rw [← hj]; exact n1
  | j + 2, hj => simp at hj
theorem pair_one (y0 y1 : Int) : ∀ u ∈ [Value.int .i64 y0, .int .i64 y1], u.oneCell' = true := by
  intro u hu; simp at hu; rcases hu with rfl | rfl <;> rfl
theorem flat_two (x y : Int) : flat [(x, y)] = [.int .i64 x, .int .i64 y] := rfl
theorem push {W : World} {B k : Nat} {v : Value} {l m : List (Int × Int)} {y0 y1 : Int} (e : m = l ++ [(y0, y1)]) (hk : l.length = k) (h : W.ownsRow B 52 2 v (k + 1) (flat l ++ [.int .i64 y0, .int .i64 y1])) : Sh W B v m := by
  rw [e]
  unfold Sh
  rw [flat_app, flat_two, List.length_append, hk]
  exact h
/-- an append of one share in a drawn region -/
theorem step_one {ops : Array Oper} {o : Oper} {a : Act} {w : World} {K : Act → World → Prop} {Q : Exit → Act → World → Prop} {E : Prop} (hg : o.guard = none) (s x : Operand)
    (hop : o.op = Op.call { callee := Callee.builtin Builtin.append, args := #[s, x], argTypes := #[22, 22] }) (B n g c : Nat) (v : Value) (l : List (Int × Int)) (p q : Int)
    (hs : a.eval s = v) (hx : a.eval x = .slice (some ⟨g, 0, none⟩) 1 c) (hown : w.ownsRow B 52 2 v n (flat l)) (hn : n ≤ 1000) (hB : B ≤ w.heap.size)
    (hp : w.cell? ⟨g, 0, none⟩ = some (.int .i64 p)) (hq : w.cell? ⟨g, 1, none⟩ = some (.int .i64 q))
    (h : ∀ v' w', w'.ownsRow B 52 2 v' (n + 1) (flat l ++ [.int .i64 p, .int .i64 q]) → w.grownBy w' v.ownBlock → K (a.put o.dst v') w') :
    if Region.wanted o (yielded ops a.tmps) = true then Oper.wp Try.prog o a w K Q else E := by
  obtain ⟨i0, hi, hz0, hz1, hz2⟩ := info_parts sh_info
  rw [if_pos (by simp [Region.wanted, hg])]
  refine wp_append_own w s x 22 hop B 52 i0 (.agg #[.int .i64 0, .int .i64 0]) 2 16 Try.underlying22 hi hz0 hz1 hz2 rfl (by decide) v n _ hs hown ⟨g, 0, none⟩ 1 c [.int .i64 p, .int .i64 q] hx rfl (fun j u hj => ?_) (fun u hu => ?_) (by unfold maxLen; omega) (by omega) hB (fun v' w' h1 h2 _ => h v' w' h1 h2)
  · match j, hj with
    | 0, hj => simp at hj; subst hj; simpa [Addr.add] using hp
    | 1, hj => simp at hj; subst hj; simpa [Addr.add] using hq
    | j + 2, hj => simp at hj
  · simp at hu; rcases hu with rfl | rfl <;> rfl
end RH
set_option maxHeartbeats 16000000 in
set_option maxRecDepth 100000 in
theorem shWi_any (v z : Value) (s : List (Int × Int)) (zs : List Int) (w : World) (hv : Pts w v s) (hz : Ins w z zs) (hn : s.length ≤ 64) (hl : zs.length = s.length) :
    Calls Try.prog 41 #[v, z] w fun e w' => ∃ u, e = .returned u ∧ RH.Sh w' w.heap.size u (wiS s zs s.length) ∧ Below w.heap.size w w' := by
  obtain ⟨i0, hi, hz0, hz1, hz2⟩ := RH.info_parts RH.sh_info
  replace hi := Lib.hid hi
  replace hz0 := Lib.hid hz0
  replace hz1 := Lib.hid hz1
  replace hz2 := Lib.hid hz2
  have NV0 := Lib.hid hv
  have NZ0 := Lib.hid hz
  obtain ⟨a, cap, rfl, _, _⟩ := hv
  obtain ⟨za, zcap, rfl, _, _⟩ := hz
  obtain ⟨n, hN⟩ : ∃ n, s.length = n := ⟨_, rfl⟩
  rw [hN] at hl hn NV0 ⊢
  rw [hl] at NZ0 ⊢
  have S0 : Hid (RH.SI w (.slice none 0 0) (wiS s zs 0) w) := Lib.hid ⟨Below.refl _ _, World.ownsRow_nil _ _ _ _⟩
  go_enter Try.func41, Try.ntmps41
  go_wp2_with fail
  go_loopw [5, 10] (fun v ii wr => ∃ k : Nat, k ≤ n ∧ ii = .int .i64 (k : Int) ∧ Hid (RH.SI w v (wiS s zs k) wr)) (fun _ ii _ => n - (intOf ii).toNat)
  case atStart => exact ⟨0, Nat.zero_le _, rfl, S0⟩
  case round =>
    clear S0
    obtain ⟨k, hk, rfl, hS⟩ := hrel
    by_cases hlt : k < n
    · have l0 : (k : Int) < (n : Int) := by omega
      obtain ⟨b, off, rfl, hb, hc⟩ := (NV0.out.below hS.out.1).at (by omega)
      obtain ⟨c0, _⟩ := hc k hlt
      clear hc
      have hzc : ∃ zb zo, za = some ⟨zb, zo, none⟩ ∧ wr.cell? ⟨zb, zo + k, none⟩ = some (.int .i64 (zs.getD k 0)) := by
        obtain ⟨a', c', e, _, hin⟩ := NZ0.out.below hS.out.1
        simp only [Value.slice.injEq] at e
        rcases hin with hin | ⟨zb, zo, e2, _, hc⟩
        · omega
        · exact ⟨zb, zo, by rw [e.1, e2], hc k (by omega)⟩
      obtain ⟨zb, zo, rfl, z0⟩ := hzc
      obtain ⟨av, cv, ev⟩ := hS.out.2.shape
      have hln := wiS_len s zs k
      have PK : Hid (wiS s zs (k + 1) = if 0 < zs.getD k 0 then wiS s zs k ++ [(gX s k, zs.getD k 0)] else wiS s zs k) := Lib.hid rfl
      generalize hT : wiS s zs k = T at *
      replace hT := Lib.hid hT
      obtain ⟨q, hq⟩ : ∃ q, T.length = q := ⟨_, rfl⟩
      rw [hq] at ev hln
      subst ev
      replace hq := Lib.hid hq
      generalize gX s k = x at *
      generalize zs.getD k 0 = r at *
      by_cases e1 : 0 < r
      · have e1' : decide (0 < r) = true := decide_eq_true e1
        replace PK : Hid (wiS s zs (k + 1) = T ++ [(x, r)]) := Lib.hid (by rw [PK.out, if_pos e1])
        clear e1
        have OA : Hid ((wr.alloc (.cells #[.int .i64 x, .int .i64 r] 52)).ownsRow w.heap.size 52 2 (.slice av q cv) q (flat T)) := Lib.hid (by
          have := hS.out.2.below (bel_alloc (o := .cells #[.int .i64 x, .int .i64 r] 52) (Below.refl _ _))
          unfold RH.Sh at this
          rwa [hq.out] at this)
        have CN := Lib.hid (RH.pair_new wr x r 52)
        have S5 := Lib.hid (hS.out.below (bel_alloc (o := .cells #[.int .i64 x, .int .i64 r] 52) (Below.refl _ _)))
        have HS : Hid (w.heap.size ≤ (wr.alloc (.cells #[.int .i64 x, .int .i64 r] 52)).heap.size) := Lib.hid S5.out.1.size
        have M1 : Hid (q + 1 ≤ maxLen) := Lib.hid (by unfold maxLen; omega)
        have M2 : Hid ((q + 1) * 16 ≤ 140737488355328) := Lib.hid (by omega)
        go_wp2_with (at_builtin; refine wpList_append_own_at _ rfl _ _ 22 rfl w.heap.size 52 i0 (.agg #[.int .i64 0, .int .i64 0]) 2 16 Try.underlying22 hi.out hz0.out hz1.out hz2.out rfl (by omega) _ _ _ rfl OA.out ⟨wr.heap.size, 0, none⟩ 1 1 [.int .i64 x, .int .i64 r] rfl rfl CN.out (RH.pair_one x r) M1.out M2.out HS.out ?_)
        intro v2 w5 hown hgrow _ _
        have SN : Hid (RH.SI w v2 (wiS s zs (k + 1)) w5) := Lib.hid (by
          have lt := fun r hr => (World.ownsRow.lt OA.out r hr).1
          exact ⟨S5.out.1.grown hgrow HS.out lt, RH.push PK.out hq.out hown⟩)
        clear hown hgrow OA CN
        go_wp2
        go_roundw
        case rel => exact ⟨k + 1, by omega, by go_num, SN⟩
        case measure => simp [intOf]; omega
      · have e1' : decide (0 < r) = false := decide_eq_false e1
        replace PK : Hid (wiS s zs (k + 1) = T) := Lib.hid (by rw [PK.out, if_neg e1])
        clear e1
        have SN : Hid (RH.SI w (.slice av q cv) (wiS s zs (k + 1)) wr) := Lib.hid (by rw [PK.out]; exact hS.out)
        go_wp2
        go_roundw
        case rel => exact ⟨k + 1, by omega, by go_num, SN⟩
        case measure => simp [intOf]; omega
    · obtain rfl : n = k := by omega
      have PF := Lib.hid hS.out.2
      have XF := Lib.hid hS.out.1
      clear hS
      go_wp2
      go_returns
      exact ⟨_, rfl, PF.out, XF.out⟩
end Go.Proofs.Ytmoeccghkpjbgaa

/- Package share: Take, Parts. -/
namespace Go.Proofs.Ytmoeccghkpjbgaa
open Go.RowKit

theorem amS_isAm {s : List (Int × Int)} (h : SR s) : (amS s).all isAm = true := by
  rw [List.all_eq_true]
  intro x hx
  obtain ⟨i, hi, e⟩ := List.getElem_of_mem hx
  rw [amS_len] at hi
  have g := amS_get s i
  rw [List.getD_eq_getElem?_getD, List.getElem?_eq_getElem (by rw [amS_len]; exact hi), e] at g
  have := (shB_false.1 (h.ok i hi)).2.2
  simp at g
  rw [isAm_iff]; omega
theorem SR.sm0 {s : List (Int × Int)} (h : SR s) : 0 ≤ sm fM s := by
  have := (shO_bd h.sh s.length).1
  rwa [sm_full fM s] at this
theorem SR.pos {s : List (Int × Int)} (h : SR s) (h0 : 0 < s.length) : 0 < sm fM s := by
  have s1 : sm fM (s.take 1) = sm fM (s.take 0) + gR s 0 := sm_step fM s 0 h0
  have mono : ∀ k, 1 ≤ k → k ≤ s.length → sm fM (s.take 1) ≤ sm fM (s.take k) := by
    intro k hk
    induction k with
    | zero => omega
    | succ k ih =>
      intro hl
      by_cases e : k = 0
      · subst e; exact Int.le_refl _
      · have := ih (by omega) (by omega)
        have s2 : sm fM (s.take (k + 1)) = sm fM (s.take k) + gR s k := sm_step fM s k (by omega)
        have := (shB_false.1 (h.ok k (by omega))).2.2
        omega
  have := mono s.length (by omega) (Nat.le_refl _)
  rw [sm_full fM s] at this
  have := (shB_false.1 (h.ok 0 h0)).2.2
  have : sm fM (s.take 0) = 0 := by simp [sm]
  omega
theorem SR.tot {s : List (Int × Int)} (h : SR s) (h0 : 0 < s.length) : totE (amS s) = 0 := by
  unfold totE
  rw [amS_len, if_neg (by omega), if_neg (by have := h.len; omega), if_pos (amS_isAm h), amS_sum, if_pos (by rw [isAm_iff]; have := h.sum; have := h.pos h0; omega), if_neg (by have := h.pos h0; omega)]
theorem SR.tot0 {s : List (Int × Int)} (h0 : s.length = 0) : totE (amS s) = 9 := by
  unfold totE
  rw [amS_len, if_pos h0]
theorem SR.div {s : List (Int × Int)} (h : SR s) (h0 : 0 < s.length) {a : Int} (ha : isAm a = true) : divE a (amS s) = 0 := by
  unfold divE
  rw [if_pos ha, h.tot h0]
theorem SR.drw {s : List (Int × Int)} (h : SR s) (h0 : 0 < s.length) {a : Int} (a0 : 0 ≤ a) (a1 : a ≤ sm fM s) : drawE (amS s) a = 0 := by
  unfold drawE
  rw [if_pos (h.div h0 (by rw [isAm_iff]; have := h.sum; omega)), amS_sum, if_pos a1]
theorem SR.lens {s : List (Int × Int)} (h : SR s) {a : Int} (a0 : 0 ≤ a) (a1 : a ≤ sm fM s) : (drawD (amS s) a).length = s.length ∧ (drawS (amS s) a).length = s.length := by
  by_cases h0 : 0 < s.length
  · have e := h.drw h0 a0 a1
    have ed := h.div h0 (a := a) (by rw [isAm_iff]; have := h.sum; omega)
    unfold drawD drawS
    rw [if_pos e, if_pos e, List.length_zipWith, divP_len a _ ed, amS_len]
    omega
  · have e : drawE (amS s) a ≠ 0 := by
      have d : divE a (amS s) ≠ 0 := by
        unfold divE
        rw [SR.tot0 (by omega)]
        split <;> decide
      unfold drawE
      rw [if_neg d]
      exact d
    unfold drawD drawS
    rw [if_neg e, if_neg e]
    have : s.length = 0 := by omega
    rw [this]; exact ⟨rfl, rfl⟩
def tkE (s : List (Int × Int)) (a : Int) : Int := if scE s ≠ 0 then 1 else if a < 0 then 2 else if sm fM s < a then 17 else 0
def tkA (s : List (Int × Int)) (a : Int) : List (Int × Int) := if tkE s a = 0 then wiS s (drawD (amS s) a) s.length else []
def tkB (s : List (Int × Int)) (a : Int) : List (Int × Int) := if tkE s a = 0 then wiS s (drawS (amS s) a) s.length else []
theorem tkE_zero {s : List (Int × Int)} {a : Int} : tkE s a = 0 ↔ SR s ∧ 0 ≤ a ∧ a ≤ sm fM s := by
  unfold tkE
  rw [← scE_zero]
  by_cases h : scE s = 0
  · rw [if_neg (by omega)]
    by_cases h1 : a < 0
    · rw [if_pos h1]; constructor
      · intro h; cases h
      · intro h; omega
    · rw [if_neg h1]
      by_cases h2 : sm fM s < a
      · rw [if_pos h2]; constructor
        · intro h; cases h
        · intro h; omega
      · rw [if_neg h2]; exact ⟨fun _ => ⟨h, by omega, by omega⟩, fun _ => rfl⟩
  · rw [if_pos h]; constructor
    · intro h; cases h
    · intro g; exact absurd g.1 h
theorem RH.Sh.nil (w : World) (B : Nat) : RH.Sh w B (.slice none 0 0) [] := World.ownsRow_nil _ _ _ _
set_option maxHeartbeats 8000000 in
set_option maxRecDepth 100000 in
theorem shTk_bad (v : Value) (s : List (Int × Int)) (a : Int) (w : World) (HV : Hid (Pts w v s)) (hE : (scE s == 0) = false) :
    Calls Try.prog 14 #[v, .int .i64 a] w fun e w' => ∃ u1 u2, e = .returned (.tuple #[u1, u2, .int .i64 1]) ∧ RH.Sh w' w.heap.size u1 [] ∧ RH.Sh w' w.heap.size u2 [] ∧ Below w.heap.size w w' := by
  have HC := Lib.hid (shAr_any v s w HV.out)
  rw [hE] at HC
  clear hE
  go_enter Try.func14, Try.ntmps14
  go_wp2_with fail
  refine HC.out.mono ?_
  rintro e w1 ⟨rfl, h1⟩
  have X := Lib.hid h1; clear h1
  go_wp2
  go_returns
  exact ⟨_, _, rfl, RH.Sh.nil _ _, RH.Sh.nil _ _, X.out⟩
set_option maxHeartbeats 8000000 in
set_option maxRecDepth 100000 in
theorem shTk_neg (v : Value) (s : List (Int × Int)) (a : Int) (w : World) (HV : Hid (Pts w v s)) (hR : SR s) (hE : (scE s == 0) = true) (ha : a < 0) :
    Calls Try.prog 14 #[v, .int .i64 a] w fun e w' => ∃ u1 u2, e = .returned (.tuple #[u1, u2, .int .i64 2]) ∧ RH.Sh w' w.heap.size u1 [] ∧ RH.Sh w' w.heap.size u2 [] ∧ Below w.heap.size w w' := by
  have HM := Lib.hid (fun W g => shAm_any v s W g (by have := hR.len; omega) hR.am)
  clear hR
  have d0 : decide (a < 0) = true := decide_eq_true ha
  have HC := Lib.hid (shAr_any v s w HV.out)
  rw [hE] at HC
  clear hE
  go_enter Try.func14, Try.ntmps14
  go_wp2_with fail
  refine HC.out.mono ?_
  rintro e w1 ⟨rfl, h1⟩
  have X := Lib.hid h1; clear h1
  go_wp2_with fail
  refine (HM.out _ (HV.out.below X.out)).mono ?_
  rintro e w2 ⟨ua, rfl, hi, h1⟩
  replace X := Lib.hid (bel_trans X.out h1)
  have I2 := Lib.hid hi
  clear h1 hi
  go_wp2
  go_returns
  exact ⟨_, _, rfl, RH.Sh.nil _ _, RH.Sh.nil _ _, X.out⟩
set_option maxHeartbeats 8000000 in
set_option maxRecDepth 100000 in
theorem shTk_big (v : Value) (s : List (Int × Int)) (a : Int) (w : World) (HV : Hid (Pts w v s)) (hR : SR s) (hE : (scE s == 0) = true) (ha : ¬ a < 0) (hb : sm fM s < a) :
    Calls Try.prog 14 #[v, .int .i64 a] w fun e w' => ∃ u1 u2, e = .returned (.tuple #[u1, u2, .int .i64 17]) ∧ RH.Sh w' w.heap.size u1 [] ∧ RH.Sh w' w.heap.size u2 [] ∧ Below w.heap.size w w' := by
  have HM := Lib.hid (fun W g => shAm_any v s W g (by have := hR.len; omega) hR.am)
  clear hR
  have d0 : decide (a < 0) = false := decide_eq_false ha
  have d1 : decide (sm fM s < a) = true := decide_eq_true hb
  generalize sm fM s = T at *
  have HC := Lib.hid (shAr_any v s w HV.out)
  rw [hE] at HC
  clear hE
  go_enter Try.func14, Try.ntmps14
  go_wp2_with fail
  refine HC.out.mono ?_
  rintro e w1 ⟨rfl, h1⟩
  have X := Lib.hid h1; clear h1
  go_wp2_with fail
  refine (HM.out _ (HV.out.below X.out)).mono ?_
  rintro e w2 ⟨ua, rfl, hi, h1⟩
  replace X := Lib.hid (bel_trans X.out h1)
  have I2 := Lib.hid hi
  clear h1 hi
  go_wp2
  go_returns
  exact ⟨_, _, rfl, RH.Sh.nil _ _, RH.Sh.nil _ _, X.out⟩
set_option maxHeartbeats 8000000 in
set_option maxRecDepth 100000 in
theorem shTk_ok (v : Value) (s : List (Int × Int)) (a : Int) (w : World) (HV : Hid (Pts w v s)) (hR : SR s) (hE : (scE s == 0) = true) (a0 : 0 ≤ a) (a1 : a ≤ sm fM s) :
    Calls Try.prog 14 #[v, .int .i64 a] w fun e w' => ∃ u1 u2, e = .returned (.tuple #[u1, u2, .int .i64 0]) ∧ RH.Sh w' w.heap.size u1 (wiS s (drawD (amS s) a) s.length) ∧ RH.Sh w' w.heap.size u2 (wiS s (drawS (amS s) a) s.length) ∧ Below w.heap.size w w' := by
  have d0 : decide (a < 0) = false := decide_eq_false (by omega)
  have d1 : decide (sm fM s < a) = false := decide_eq_false (by omega)
  have HW1 := Lib.hid (fun z W g h => shWi_any v z s (drawD (amS s) a) W g h (by have := hR.len; omega) (hR.lens a0 a1).1)
  have HW2 := Lib.hid (fun z W g h => shWi_any v z s (drawS (amS s) a) W g h (by have := hR.len; omega) (hR.lens a0 a1).2)
  have HD := Lib.hid (fun z W h => draw_any (amS s) a z W h)
  have HM := Lib.hid (fun W g => shAm_any v s W g (by have := hR.len; omega) hR.am)
  clear hR
  generalize sm fM s = T at *
  generalize hD : drawD (amS s) a = D at *
  generalize hS : drawS (amS s) a = S at *
  generalize hEE : drawE (amS s) a = EE at *
  have HC := Lib.hid (shAr_any v s w HV.out)
  rw [hE] at HC
  clear hE
  go_enter Try.func14, Try.ntmps14
  go_wp2_with fail
  refine HC.out.mono ?_
  rintro e w1 ⟨rfl, h1⟩
  have X := Lib.hid h1; clear h1
  go_wp2_with fail
  refine (HM.out _ (HV.out.below X.out)).mono ?_
  rintro e w2 ⟨ua, rfl, hi, h1⟩
  replace X := Lib.hid (bel_trans X.out h1)
  have I2 := Lib.hid hi
  clear h1 hi
  go_wp2_with fail
  refine (HD.out _ _ I2.out).mono ?_
  rintro e w3 ⟨z1, z2, rfl, g1, g2, h1⟩
  replace X := Lib.hid (bel_trans X.out h1)
  have J1 := Lib.hid g1
  have J2 := Lib.hid g2
  clear h1 g1 g2
  go_wp2_with fail
  refine (HW1.out _ _ (HV.out.below X.out) J1.out).mono ?_
  rintro e w4 ⟨u1, rfl, g1, h1⟩
  have U1 := Lib.hid (g1.base (B' := w.heap.size) X.out.size)
  replace J2 := Lib.hid (J2.out.below h1)
  replace X := Lib.hid (bel_trans X.out h1)
  clear h1 g1
  go_wp2_with fail
  refine (HW2.out _ _ (HV.out.below X.out) J2.out).mono ?_
  rintro e w5 ⟨u2, rfl, g1, h1⟩
  have U2 := Lib.hid (g1.base (B' := w.heap.size) X.out.size)
  replace U1 := Lib.hid (U1.out.below h1)
  replace X := Lib.hid (bel_trans X.out h1)
  clear h1 g1
  go_wp2
  go_returns
  exact ⟨_, _, rfl, by first | exact U1.out | (rw [hD]; exact U1.out), by first | exact U2.out | (rw [hS]; exact U2.out), X.out⟩
theorem shTk_any (v : Value) (s : List (Int × Int)) (a : Int) (w : World) (hv : Pts w v s) :
    Calls Try.prog 14 #[v, .int .i64 a] w fun e w' => ∃ u1 u2, e = .returned (.tuple #[u1, u2, .int .i64 (tkE s a)]) ∧ (RH.Sh w' w.heap.size u1 (tkA s a) ∧ RH.Sh w' w.heap.size u2 (tkB s a)) ∧ Below w.heap.size w w' := by
  have fin : ∀ {E : Int} {A B : List (Int × Int)}, tkE s a = E → tkA s a = A → tkB s a = B → (Calls Try.prog 14 #[v, .int .i64 a] w fun e w' => ∃ u1 u2, e = .returned (.tuple #[u1, u2, .int .i64 E]) ∧ (RH.Sh w' w.heap.size u1 A ∧ RH.Sh w' w.heap.size u2 B) ∧ Below w.heap.size w w') → Calls Try.prog 14 #[v, .int .i64 a] w fun e w' => ∃ u1 u2, e = .returned (.tuple #[u1, u2, .int .i64 (tkE s a)]) ∧ (RH.Sh w' w.heap.size u1 (tkA s a) ∧ RH.Sh w' w.heap.size u2 (tkB s a)) ∧ Below w.heap.size w w' := by
    rintro E A B rfl rfl rfl h; exact h
  by_cases h : scE s = 0
  · have hR := scE_zero.1 h
    have hE : (scE s == 0) = true := by simpa using h
    by_cases h1 : a < 0
    · have e : tkE s a = 2 := by unfold tkE; rw [if_neg (by omega), if_pos h1]
      exact fin e (by unfold tkA; rw [if_neg (by omega)]) (by unfold tkB; rw [if_neg (by omega)]) (by simpa only [and_assoc] using shTk_neg v s a w (Lib.hid hv) hR hE h1)
    · by_cases h2 : sm fM s < a
      · have e : tkE s a = 17 := by unfold tkE; rw [if_neg (by omega), if_neg h1, if_pos h2]
        exact fin e (by unfold tkA; rw [if_neg (by omega)]) (by unfold tkB; rw [if_neg (by omega)]) (by simpa only [and_assoc] using shTk_big v s a w (Lib.hid hv) hR hE h1 h2)
      · have e : tkE s a = 0 := by unfold tkE; rw [if_neg (by omega), if_neg h1, if_neg h2]
        exact fin e (by unfold tkA; rw [if_pos e]) (by unfold tkB; rw [if_pos e]) (by simpa only [and_assoc] using shTk_ok v s a w (Lib.hid hv) hR hE (by omega) (by omega))
  · have e : tkE s a = 1 := by unfold tkE; rw [if_pos h]
    exact fin e (by unfold tkA; rw [if_neg (by omega)]) (by unfold tkB; rw [if_neg (by omega)]) (by simpa only [and_assoc] using shTk_bad v s a w (Lib.hid hv) (by simpa using h))
def spE (s : List (Int × Int)) (a : Int) : Int := if scE s = 0 then divE a (amS s) else 1
def spP (s : List (Int × Int)) (a : Int) : List Int := if scE s = 0 then divP a (amS s) else []
set_option maxHeartbeats 8000000 in
set_option maxRecDepth 100000 in
theorem shPa_any (v : Value) (s : List (Int × Int)) (a : Int) (w : World) (hv : Pts w v s) :
    Calls Try.prog 16 #[v, .int .i64 a] w fun e w' => ∃ u, e = .returned (.tuple #[u, .int .i64 (spE s a)]) ∧ Ins w' u (spP s a) ∧ Below w.heap.size w w' := by
  have HC := Lib.hid (shAr_any v s w hv)
  unfold spE spP
  by_cases h : scE s = 0
  · have hR := scE_zero.1 h
    rw [if_pos h, if_pos h]
    rw [show (scE s == 0) = true by simpa using h] at HC
    have HM := Lib.hid (fun W g => shAm_any v s W g (by have := hR.len; omega) hR.am)
    have HD := Lib.hid (fun z W g => divide_any a z (amS s) W g)
    replace hv := Lib.hid hv
    clear h hR
    generalize divE a (amS s) = E at *
    generalize hP : divP a (amS s) = P at *
    generalize sm fM s = T at *
    go_enter Try.func16, Try.ntmps16
    go_wp2_with fail
    refine HC.out.mono ?_
    rintro e w1 ⟨rfl, h1⟩
    have X := Lib.hid h1; clear h1
    go_wp2_with fail
    refine (HM.out _ (hv.out.below X.out)).mono ?_
    rintro e w2 ⟨u, rfl, hi, h1⟩
    replace X := Lib.hid (bel_trans X.out h1)
    have I2 := Lib.hid hi
    clear h1 hi
    go_wp2_with fail
    refine (HD.out _ _ I2.out).mono ?_
    rintro e w3 ⟨z, rfl, hi, h1⟩
    replace X := Lib.hid (bel_trans X.out h1)
    have I3 := Lib.hid hi
    clear h1 hi
    go_wp2
    go_returns
    exact ⟨_, rfl, I3.out, X.out⟩
  · rw [if_neg h, if_neg h]
    rw [show (scE s == 0) = false by simpa using h] at HC
    clear h
    go_enter Try.func16, Try.ntmps16
    go_wp2_with fail
    refine HC.out.mono ?_
    rintro e w1 ⟨rfl, h1⟩
    have X := Lib.hid h1; clear h1
    go_wp2
    go_returns
    exact ⟨_, rfl, ins_nil _, X.out⟩
end Go.Proofs.Ytmoeccghkpjbgaa

/- What is kept by blocks that are laid, and by stores elsewhere. -/
namespace Go.Proofs.Ytmoeccghkpjbgaa
open Go.RowKit

theorem bA {w Y : World} (h : Below w.heap.size w Y) (o : Obj) : Below w.heap.size w (Y.alloc o) := h.alloc h.size o
theorem bS {w Y : World} (g i : Nat) (v : Value) (h : Below w.heap.size w Y) (hg : w.heap.size ≤ g) : Below w.heap.size w (Y.setCell ⟨g, i, none⟩ v) := h.setCell (p := ⟨g, i, none⟩) hg v
theorem Two.newAt {P : Nat} (W : World) (x y : Value) (T : TypeId) (h : P = W.heap.size) : Two P (W.alloc (.cells #[x, y] T)) x y := by subst h; exact Two.new W x y T
theorem Two.both {b : Nat} {W : World} {x y : Value} (u v : Value) (h : Two b W x y) : Two b ((W.setCell ⟨b, 0, none⟩ u).setCell ⟨b, 1, none⟩ v) u v := (h.set0 u).set1 v
theorem Two.apart {b : Nat} {W : World} {x y : Value} (g i : Nat) (v : Value) (h : Two b W x y) (hp : g ≠ b) : Two b (W.setCell ⟨g, i, none⟩ v) x y := h.other ⟨g, i, none⟩ hp v
theorem cell_al {W : World} {a : Addr} {v : Value} (o : Obj) (h : W.cell? a = some v) : (W.alloc o).cell? a = some v := by rw [World.cell?_alloc_lt W o _ (World.block_lt_of_cell? W _ h)]; exact h
theorem two_kept {b : Nat} {A B : World} {x y : Value} {row : Option Nat} (h : Two b A x y) (hg : A.grownBy B row) (hr : ∀ r, row = some r → ∃ o : Obj, A.heap[r]? = some o ∧ o.isCells = false) : Two b B x y := by
  obtain ⟨h0, h1, h2, h3, h4⟩ := h
  exact ⟨cell_kept h0 hg hr, cell_kept h1 hg hr, (frozen_kept h0 hg hr).trans h2, (frozen_kept h1 hg hr).trans h3, Nat.lt_of_lt_of_le h4 hg.size⟩

theorem keeps_set2 {W X : World} (B : Nat) (p q : Addr) (u v : Value) (h : Below W.heap.size W X) : KeepsFrom B W ((X.setCell p u).setCell q v) := by
  have h0 : KeepsOthers W X := ⟨h.size, fun k o hk _ => by
    have hlt : k < W.heap.size := (Array.getElem?_eq_some_iff.1 hk).1
    rw [h.block k hlt]; exact hk⟩
  exact ((h0.trans (KeepsOthers.setCell _ _ _)).trans (KeepsOthers.setCell _ _ _)).from B
theorem cell_apart {W : World} {b i g j : Nat} {v : Value} (u : Value) (h : W.cell? ⟨b, i, none⟩ = some v) (hn : b ≠ g) : (W.setCell ⟨g, j, none⟩ u).cell? ⟨b, i, none⟩ = some v := by
  rw [World.cell?_setCell_other _ _ _ _ (fun e => by injection e; omega)]; exact h

end Go.Proofs.Ytmoeccghkpjbgaa

/- Package share: shares are merged, and yielded. -/
namespace Go.Proofs.Ytmoeccghkpjbgaa
open Go.RowKit Go.Shelf
attribute [local go_sem] Oper.semAt_some

/-- the next share of two lists, and where they are then -/
def jstep (l m : List (Int × Int)) (i k : Nat) : (Int × Int) × Nat × Nat :=
  if k = m.length ∨ (i < l.length ∧ gX l i < gX m k) then ((gX l i, gR l i), i + 1, k)
  else if i = l.length ∨ gX m k < gX l i then ((gX m k, gR m k), i, k + 1)
  else ((gX l i, gR l i + gR m k), i + 1, k + 1)
/-- the places and the shares behind some rounds -/
def jst (l m : List (Int × Int)) : Nat → Nat × Nat × List (Int × Int)
  | 0 => (0, 0, [])
  | t + 1 => if (jst l m t).1 < l.length ∨ (jst l m t).2.1 < m.length then ((jstep l m (jst l m t).1 (jst l m t).2.1).2.1, (jstep l m (jst l m t).1 (jst l m t).2.1).2.2, (jst l m t).2.2 ++ [(jstep l m (jst l m t).1 (jst l m t).2.1).1]) else jst l m t
/-- the sums of two lists of shares -/
def jn (l m : List (Int × Int)) : List (Int × Int) := (jst l m (l.length + m.length)).2.2
theorem jst_stable {l m : List (Int × Int)} {t : Nat} (h : ¬ ((jst l m t).1 < l.length ∨ (jst l m t).2.1 < m.length)) : ∀ d, jst l m (t + d) = jst l m t
  | 0 => rfl
  | d + 1 => by
    have ih := jst_stable h d
    have e : jst l m (t + d + 1) = if (jst l m (t + d)).1 < l.length ∨ (jst l m (t + d)).2.1 < m.length then ((jstep l m (jst l m (t + d)).1 (jst l m (t + d)).2.1).2.1, (jstep l m (jst l m (t + d)).1 (jst l m (t + d)).2.1).2.2, (jst l m (t + d)).2.2 ++ [(jstep l m (jst l m (t + d)).1 (jst l m (t + d)).2.1).1]) else jst l m (t + d) := rfl
    rw [← Nat.add_assoc, e, ih, if_neg h]
theorem jstep_bd {l m : List (Int × Int)} {i k : Nat} (hi : i ≤ l.length) (hk : k ≤ m.length) (h : i < l.length ∨ k < m.length) :
    (jstep l m i k).2.1 ≤ l.length ∧ (jstep l m i k).2.2 ≤ m.length ∧ i + k < (jstep l m i k).2.1 + (jstep l m i k).2.2 ∧ i ≤ (jstep l m i k).2.1 ∧ k ≤ (jstep l m i k).2.2 := by
  unfold jstep
  by_cases h1 : k = m.length ∨ (i < l.length ∧ gX l i < gX m k)
  · rw [if_pos h1]
    dsimp only
    rcases h1 with h1 | ⟨h1, _⟩ <;> omega
  · rw [if_neg h1]
    have g1 : k ≠ m.length := fun e => h1 (.inl e)
    by_cases h2 : i = l.length ∨ gX m k < gX l i
    · rw [if_pos h2]
      dsimp only
      omega
    · rw [if_neg h2]
      have g2 : i ≠ l.length := fun e => h2 (.inl e)
      dsimp only
      omega
/-- where the merge stands behind t rounds -/
structure JS (l m : List (Int × Int)) (t i k : Nat) (o : List (Int × Int)) : Prop where
  e : jst l m t = (i, k, o)
  ti : t ≤ i + k
  il : i ≤ l.length
  kl : k ≤ m.length
  ol : o.length = t
theorem JS.zero (l m : List (Int × Int)) : JS l m 0 0 0 [] := ⟨rfl, by omega, by omega, by omega, rfl⟩
theorem JS.next {l m : List (Int × Int)} {t i k : Nat} {o : List (Int × Int)} (h : JS l m t i k o) (ha : i < l.length ∨ k < m.length) : JS l m (t + 1) (jstep l m i k).2.1 (jstep l m i k).2.2 (o ++ [(jstep l m i k).1]) := by
  obtain ⟨b1, b2, b3, b4, b5⟩ := jstep_bd h.il h.kl ha
  refine ⟨?_, by have := h.ti; omega, b1, b2, by rw [List.length_append, h.ol]; rfl⟩
  unfold jst
  rw [h.e, if_pos ha]
theorem JS.done {l m : List (Int × Int)} {t i k : Nat} {o : List (Int × Int)} (h : JS l m t i k o) (ha : ¬ (i < l.length ∨ k < m.length)) : o = jn l m := by
  have hs := jst_stable (l := l) (m := m) (t := t) (by rw [h.e]; exact ha) (l.length + m.length - t)
  have := h.ti; have := h.il; have := h.kl
  rw [show t + (l.length + m.length - t) = l.length + m.length by omega, h.e] at hs
  unfold jn
  rw [hs]
theorem JS.lt {l m : List (Int × Int)} {t i k : Nat} {o : List (Int × Int)} (h : JS l m t i k o) (ha : i < l.length ∨ k < m.length) : o.length < l.length + m.length := by
  rw [h.ol]; have := h.ti; have := h.il; have := h.kl; omega
/-- a share as it is yielded -/
def encJ (x : Int × Int) : Array Value := #[.agg #[.int .i64 x.1, .int .i64 x.2]]
/-- what a round keeps: what lay below n₀, and two boxes -/
def KpC (B1 B2 n₀ : Nat) (W W' : World) : Prop := Below n₀ W W' ∧ (∀ v, W.cell? ⟨B1, 0, none⟩ = some v → W'.cell? ⟨B1, 0, none⟩ = some v) ∧ ∀ v, W.cell? ⟨B2, 0, none⟩ = some v → W'.cell? ⟨B2, 0, none⟩ = some v
theorem kpC_refl (B1 B2 n₀ : Nat) (W : World) : KpC B1 B2 n₀ W W := ⟨Below.refl _ _, fun _ h => h, fun _ h => h⟩
theorem kpC_t {B1 B2 n₀ : Nat} {A B C : World} (h : KpC B1 B2 n₀ A B) (k : KpC B1 B2 n₀ B C) : KpC B1 B2 n₀ A C := ⟨h.1.trans k.1, fun v e => k.2.1 v (h.2.1 v e), fun v e => k.2.2 v (h.2.2 v e)⟩
theorem kpC_b {B1 B2 n₀ : Nat} {w : World} (hn : n₀ ≤ w.heap.size) (W : World) (l : Nat) (o o' : Obj) (hl : w.heap.size ≤ l) (h : W.heap[l]? = some o) (h1 : o.isCells = false) (h2 : o.isWalk = false) : KpC B1 B2 n₀ W (W.putObj l o') :=
  ⟨belowK_b hn W l o o' hl h h1 h2, fun _ e => cell_kept e (grownBy_putObj' W l o') (fun r e => by cases e; exact ⟨o, h, h1⟩), fun _ e => cell_kept e (grownBy_putObj' W l o') (fun r e => by cases e; exact ⟨o, h, h1⟩)⟩
theorem kpC_bel {B1 B2 n₀ : Nat} {W W' : World} (h : Below W.heap.size W W') (hn : n₀ ≤ W.heap.size) : KpC B1 B2 n₀ W W' := ⟨h.mono hn, fun _ e => cell_bel e h, fun _ e => cell_bel e h⟩
theorem grownB {A B : World} (h : Below A.heap.size A B) : A.grownBy B none := ⟨h.os, h.tape, h.output, h.size, fun k hk _ => h.block k hk⟩
set_option maxRecDepth 100000 in
set_option maxHeartbeats 16000000 in
theorem merge1_in (n l B1 B2 n₀ : Nat) (a1 a2 : Option Addr) (c1 c2 : Nat) (s z : List (Int × Int)) (h1 : s.length ≤ 32) (h2 : z.length ≤ 32)
    (HS : Hid (∀ j, j < s.length → 0 ≤ gR s j ∧ gR s j ≤ 10737418240000)) (HZ : Hid (∀ j, j < z.length → 0 ≤ gR z j ∧ gR z j ≤ 10737418240000))
    (J Jx : List (Int × Int) → World → Prop) (B0 : Nat) (hJ : Hid (AbidesFrom B0 J))
    (hY : Hid (∀ pre x W, J pre W → pre.length < s.length + z.length → YieldAt Fence.wide (n - 1) Try.prog l (encJ x) W fun e W' =>
      (e = .returned (.bool true) ∧ J (pre ++ [x]) W' ∧ KpC B1 B2 n₀ W W') ∨ (e = .returned (.bool false) ∧ Jx (pre ++ [x]) W')))
    (W : World) (hn : n₀ ≤ W.heap.size) (hB1 : W.cell? ⟨B1, 0, none⟩ = some (.slice a1 s.length c1)) (hB2 : W.cell? ⟨B2, 0, none⟩ = some (.slice a2 z.length c2))
    (HP1 : Hid (∀ W', Below n₀ W W' → Pts W' (.slice a1 s.length c1) s)) (HP2 : Hid (∀ W', Below n₀ W W' → Pts W' (.slice a2 z.length c2) z)) (h0 : Hid (J [] W)) :
    CallsIn Fence.wide n Try.prog 73 #[.func (.yield l) #[] #[], .pointer (some ⟨B1, 0, none⟩), .pointer (some ⟨B2, 0, none⟩)] W fun e W' => (∃ v, e = .returned v) ∧
      ((∃ ys, ys = jn s z ∧ J ys W') ∨ (∃ pre, True ∧ Jx pre W')) := by
  refine callsIn_wide.2 ?_
  go_enter Try.func73, Try.ntmps73
  go_wp2_with fail
  go_loopw [4, 5] (fun i k wr => ∃ (t p q : Nat) (o : List (Int × Int)), i = .int .i64 (p : Nat) ∧ k = .int .i64 (q : Nat) ∧ JS s z t p q o ∧ Hid (J o wr) ∧ Hid (KpC B1 B2 n₀ W wr))
    (fun i k _ => (s.length - (intOf i).toNat) + (z.length - (intOf k).toNat))
  case atStart => exact ⟨0, 0, 0, [], rfl, rfl, JS.zero s z, h0, kpC_refl _ _ _ _⟩
  case round =>
    obtain ⟨t, p, q, o, rfl, rfl, hT, hJs, hK⟩ := hrel
    have k1 : wr.cell? ⟨B1, 0, none⟩ = some (.slice a1 s.length c1) := hK.out.2.1 _ hB1
    have k2 : wr.cell? ⟨B2, 0, none⟩ = some (.slice a2 z.length c2) := hK.out.2.2 _ hB2
    by_cases hact : p < s.length ∨ q < z.length
    · have HN := Lib.hid (hT.next hact)
      have HO := Lib.hid (hT.lt hact)
      have hbd := jstep_bd hT.il hT.kl hact
      have XA : Hid (Below wr.heap.size wr (wr.alloc (.cells #[.int .i64 0, .int .i64 0] 52))) := Lib.hid (bel_alloc (Below.refl _ _))
      have T6 := Lib.hid (Two.new wr (.int .i64 0) (.int .i64 0) 52)
      have P1 := Lib.hid ((HP1.out wr hK.out.1).below XA.out)
      have P2 := Lib.hid ((HP2.out wr hK.out.1).below XA.out)
      have m1 := cell_bel k1 XA.out
      have m2 := cell_bel k2 XA.out
      have hil := hT.il
      have hkl := hT.kl
      have CUT : ∀ (d : Bool), decide ((p : Int) < (s.length : Int)) = d → (d = false → decide ((q : Int) < (z.length : Int)) = true) → True := fun _ _ _ => trivial
      clear CUT
      by_cases hp : p < s.length
      · have l0 : (p : Int) < (s.length : Int) := by omega
        have d0 : decide ((p : Int) < (s.length : Int)) = true := decide_eq_true l0
        have wp : IntKind.i64.wrap ((p : Int) + 1) = ((p + 1 : Nat) : Int) := by rw [wrap_in _ ⟨by omega, by omega⟩]; omega
        have wq : IntKind.i64.wrap ((q : Int) + 1) = ((q + 1 : Nat) : Int) := by rw [wrap_in _ ⟨by omega, by omega⟩]; omega
        obtain ⟨bs, os, rfl, hbs, hcs⟩ := P1.out.at (by omega)
        obtain ⟨x0, x1⟩ := hcs p hp
        clear hcs
        have e3 : ((p : Int) == (s.length : Int)) = false := by rw [beq_eq_false_iff_ne]; omega
        go_upto_block 2 with fail
        go_cut [4, 5] from 7 to 91 (fun i' k' wx => i' = .int .i64 (((jstep s z p q).2.1 : Nat) : Int) ∧ k' = .int .i64 (((jstep s z p q).2.2 : Nat) : Int) ∧ Hid (Two wr.heap.size wx (.int .i64 (jstep s z p q).1.1) (.int .i64 (jstep s z p q).1.2)) ∧ Hid (Below wr.heap.size wr wx))
        case first =>
          by_cases hA : q = z.length
          · have E : jstep s z p q = ((gX s p, gR s p), p + 1, q) := by unfold jstep; rw [if_pos (.inl hA)]
            have dA : ((q : Int) == (z.length : Int)) = true := by rw [beq_iff_eq]; omega
            generalize gX s p = x at *
            generalize gR s p = y at *
            go_wp2_with fail
            go_quiet (fail)
            rename_i nq
            go_wp2
            go_meet
            rw [E]
            exact ⟨by first | rfl | go_num, by first | rfl | go_num, Lib.hid (T6.out.both _ _), Lib.hid (((bel_trans XA.out (bel_drewN _ _)).setCell (p := ⟨wr.heap.size, 0, none⟩) (Nat.le_refl _) _).setCell (p := ⟨wr.heap.size, 1, none⟩) (Nat.le_refl _) _)⟩
          · have dA : ((q : Int) == (z.length : Int)) = false := by rw [beq_eq_false_iff_ne]; omega
            have hqz : q < z.length := by omega
            have l1 : (q : Int) < (z.length : Int) := by omega
            obtain ⟨bz, oz, rfl, hbz, hcz⟩ := P2.out.at (by omega)
            obtain ⟨y0, y1⟩ := hcz q hqz
            clear hcz
            by_cases hB : gX s p < gX z q
            · have E : jstep s z p q = ((gX s p, gR s p), p + 1, q) := by unfold jstep; rw [if_pos (.inr ⟨hp, hB⟩)]
              have dB : decide (gX s p < gX z q) = true := decide_eq_true hB
              generalize gX s p = x at *
              generalize gR s p = y at *
              generalize gX z q = u at *
              generalize gR z q = v at *
              go_wp2_with fail
              go_quiet (fail)
              rename_i nq
              go_wp2
              go_meet
              rw [E]
              exact ⟨by first | rfl | go_num, by first | rfl | go_num, Lib.hid (T6.out.both _ _), Lib.hid (((bel_trans XA.out (bel_drewN _ _)).setCell (p := ⟨wr.heap.size, 0, none⟩) (Nat.le_refl _) _).setCell (p := ⟨wr.heap.size, 1, none⟩) (Nat.le_refl _) _)⟩
            · have dB : decide (gX s p < gX z q) = false := decide_eq_false hB
              by_cases hD : gX z q < gX s p
              · have E : jstep s z p q = ((gX z q, gR z q), p, q + 1) := by
                  unfold jstep; rw [if_neg (by rintro (h | ⟨_, h⟩) <;> omega), if_pos (.inr hD)]
                have dD : decide (gX z q < gX s p) = true := decide_eq_true hD
                generalize gX s p = x at *
                generalize gR s p = y at *
                generalize gX z q = u at *
                generalize gR z q = v at *
                go_wp2_with fail
                go_quiet (fail)
                rename_i nq
                go_wp2_with fail
                go_quiet (fail)
                rename_i nq2
                go_wp2
                go_meet
                rw [E]
                exact ⟨by first | rfl | go_num, by first | rfl | go_num, Lib.hid (T6.out.both _ _), Lib.hid (((bel_trans XA.out (bel_drewN _ _)).setCell (p := ⟨wr.heap.size, 0, none⟩) (Nat.le_refl _) _).setCell (p := ⟨wr.heap.size, 1, none⟩) (Nat.le_refl _) _)⟩
              · have E : jstep s z p q = ((gX s p, gR s p + gR z q), p + 1, q + 1) := by
                  unfold jstep; rw [if_neg (by rintro (h | ⟨_, h⟩) <;> omega), if_neg (by rintro (h | h) <;> omega)]
                have dD : decide (gX z q < gX s p) = false := decide_eq_false hD
                have bx := HS.out p hp
                have by' := HZ.out q hqz
                generalize gX s p = x at *
                generalize gR s p = y at *
                generalize gX z q = u at *
                generalize gR z q = v at *
                have ws : IntKind.i64.wrap (y + v) = y + v := wrap_in _ ⟨by omega, by omega⟩
                go_wp2_with fail
                go_quiet (fail)
                rename_i nq
                go_wp2_with fail
                go_quiet (fail)
                rename_i nq2
                go_wp2_with fail
                go_region
                all_goals go_wp2
                all_goals go_meet
                all_goals rw [E]
                all_goals exact ⟨by first | rfl | go_num, by first | rfl | go_num, Lib.hid (T6.out.both _ _), Lib.hid (((bel_trans XA.out (bel_drewN _ _)).setCell (p := ⟨wr.heap.size, 0, none⟩) (Nat.le_refl _) _).setCell (p := ⟨wr.heap.size, 1, none⟩) (Nat.le_refl _) _)⟩
        case rest =>
          obtain ⟨rfl, rfl, hS, hBV⟩ := hcut
          clear d0 l0 P1 P2 m1 m2 k1 k2 XA T6
          have hJw := hJ.out _ _ _ none hJs.out (grownB hBV.out) (fun r e => by cases e)
          obtain ⟨fn, tmps, assign, body, hy, hR⟩ := hY.out _ (jstep s z p q).1 wc hJw HO.out
          dsimp only [encJ] at hy
          have HR2 : Hid (RoundIn Fence.wide (n - 1) Try.prog l fn tmps assign body wc fun e W' => ∃ bb : Bool, e = .returned (.bool bb) ∧ Hid ((bb = true ∧ J (o ++ [(jstep s z p q).1]) W' ∧ KpC B1 B2 n₀ wc W') ∨ (bb = false ∧ Jx (o ++ [(jstep s z p q).1]) W'))) := by
            refine hR.mono ?_
            rintro e W3 (⟨rfl, h⟩ | ⟨rfl, h⟩)
            · exact ⟨true, rfl, .inl ⟨rfl, h⟩⟩
            · exact ⟨false, rfl, .inr ⟨rfl, h⟩⟩
          have HX : Hid (KpC B1 B2 n₀ W wc) := Lib.hid (kpC_t hK.out (kpC_bel hBV.out (Nat.le_trans hn hK.out.1.size)))
          obtain ⟨f0, f1, _, _, _⟩ := hS.out
          clear hR hJw hBV hS
          replace hbd := Lib.hid hbd
          replace HR2 : Hid (∃ rr, rr = jstep s z p q ∧ RoundIn Fence.wide (n - 1) Try.prog l fn tmps assign body wc fun e W' => ∃ bb : Bool, e = .returned (.bool bb) ∧ Hid ((bb = true ∧ J (o ++ [rr.1]) W' ∧ KpC B1 B2 n₀ wc W') ∨ (bb = false ∧ Jx (o ++ [rr.1]) W'))) := Lib.hid ⟨_, rfl, HR2.out⟩
          obtain ⟨rr, hrr, HR3⟩ := HR2.out
          clear HR2
          rw [← hrr] at HN
          rw [← hrr] at hbd
          try rw [← hrr] at f0
          try rw [← hrr] at f1
          try rw [← hrr] at hy
          try rw [← hrr]
          clear hrr
          obtain ⟨⟨rx, ry⟩, p', q'⟩ := rr
          simp only at f0 f1 hy HN hbd ⊢
          replace HR3 := Lib.hid HR3
          go_upto_region 12 with fail
          refine (wpIn_wide (n := n)).1 ?_
          gi_wp2
          refine ⟨(fun h => by cases h), HR3.out.mono ?_⟩
          rintro e W3 ⟨bb, rfl, h3⟩
          rcases h3.out with ⟨rfl, hJ3, hk3⟩ | ⟨rfl, hJx3⟩
          · gi_wp2
            go_wp2
            go_roundw
            case rel => exact ⟨t + 1, p', q', _, rfl, rfl, HN.out, Lib.hid hJ3, Lib.hid (kpC_t HX.out hk3)⟩
            case measure =>
              have := hbd.out
              simp [intOf]; omega
          · gi_wp2
            go_wp2
            refine bodyPost_ret (results_none rfl _ _ _) rfl ?_
            exact ⟨⟨_, rfl⟩, .inr ⟨_, trivial, hJx3⟩⟩
      · have hq : q < z.length := by omega
        have l0 : ¬ (p : Int) < (s.length : Int) := by omega
        have d0 : decide ((p : Int) < (s.length : Int)) = false := decide_eq_false l0
        have l1 : (q : Int) < (z.length : Int) := by omega
        have d1 : decide ((q : Int) < (z.length : Int)) = true := decide_eq_true l1
        have wq : IntKind.i64.wrap ((q : Int) + 1) = ((q + 1 : Nat) : Int) := by rw [wrap_in _ ⟨by omega, by omega⟩]; omega
        have e3 : ((p : Int) == (s.length : Int)) = true := by rw [beq_iff_eq]; omega
        have dA : ((q : Int) == (z.length : Int)) = false := by rw [beq_eq_false_iff_ne]; omega
        obtain ⟨bz, oz, rfl, hbz, hcz⟩ := P2.out.at (by omega)
        obtain ⟨y0, y1⟩ := hcz q hq
        clear hcz
        go_upto_block 2 with fail
        go_cut [4, 5] from 7 to 91 (fun i' k' wx => i' = .int .i64 (((jstep s z p q).2.1 : Nat) : Int) ∧ k' = .int .i64 (((jstep s z p q).2.2 : Nat) : Int) ∧ Hid (Two wr.heap.size wx (.int .i64 (jstep s z p q).1.1) (.int .i64 (jstep s z p q).1.2)) ∧ Hid (Below wr.heap.size wr wx))
        case first =>
          have E : jstep s z p q = ((gX z q, gR z q), p, q + 1) := by
            unfold jstep; rw [if_neg (by rintro (h | ⟨h, _⟩) <;> omega), if_pos (.inl (by omega))]
          generalize gX z q = u at *
          generalize gR z q = v at *
          go_wp2_with fail
          go_quiet (fail)
          rename_i nq
          go_wp2_with fail
          go_quiet (fail)
          rename_i nq2
          go_wp2
          go_meet
          rw [E]
          exact ⟨by first | rfl | go_num, by first | rfl | go_num, Lib.hid (T6.out.both _ _), Lib.hid (((bel_trans XA.out (bel_drewN _ _)).setCell (p := ⟨wr.heap.size, 0, none⟩) (Nat.le_refl _) _).setCell (p := ⟨wr.heap.size, 1, none⟩) (Nat.le_refl _) _)⟩
        case rest =>
          obtain ⟨rfl, rfl, hS, hBV⟩ := hcut
          clear d0 l0 P1 P2 m1 m2 k1 k2 XA T6
          have hJw := hJ.out _ _ _ none hJs.out (grownB hBV.out) (fun r e => by cases e)
          obtain ⟨fn, tmps, assign, body, hy, hR⟩ := hY.out _ (jstep s z p q).1 wc hJw HO.out
          dsimp only [encJ] at hy
          have HR2 : Hid (RoundIn Fence.wide (n - 1) Try.prog l fn tmps assign body wc fun e W' => ∃ bb : Bool, e = .returned (.bool bb) ∧ Hid ((bb = true ∧ J (o ++ [(jstep s z p q).1]) W' ∧ KpC B1 B2 n₀ wc W') ∨ (bb = false ∧ Jx (o ++ [(jstep s z p q).1]) W'))) := by
            refine hR.mono ?_
            rintro e W3 (⟨rfl, h⟩ | ⟨rfl, h⟩)
            · exact ⟨true, rfl, .inl ⟨rfl, h⟩⟩
            · exact ⟨false, rfl, .inr ⟨rfl, h⟩⟩
          have HX : Hid (KpC B1 B2 n₀ W wc) := Lib.hid (kpC_t hK.out (kpC_bel hBV.out (Nat.le_trans hn hK.out.1.size)))
          obtain ⟨f0, f1, _, _, _⟩ := hS.out
          clear hR hJw hBV hS
          replace hbd := Lib.hid hbd
          replace HR2 : Hid (∃ rr, rr = jstep s z p q ∧ RoundIn Fence.wide (n - 1) Try.prog l fn tmps assign body wc fun e W' => ∃ bb : Bool, e = .returned (.bool bb) ∧ Hid ((bb = true ∧ J (o ++ [rr.1]) W' ∧ KpC B1 B2 n₀ wc W') ∨ (bb = false ∧ Jx (o ++ [rr.1]) W'))) := Lib.hid ⟨_, rfl, HR2.out⟩
          obtain ⟨rr, hrr, HR3⟩ := HR2.out
          clear HR2
          rw [← hrr] at HN
          rw [← hrr] at hbd
          try rw [← hrr] at f0
          try rw [← hrr] at f1
          try rw [← hrr] at hy
          try rw [← hrr]
          clear hrr
          obtain ⟨⟨rx, ry⟩, p', q'⟩ := rr
          simp only at f0 f1 hy HN hbd ⊢
          replace HR3 := Lib.hid HR3
          go_upto_region 12 with fail
          refine (wpIn_wide (n := n)).1 ?_
          gi_wp2
          refine ⟨(fun h => by cases h), HR3.out.mono ?_⟩
          rintro e W3 ⟨bb, rfl, h3⟩
          rcases h3.out with ⟨rfl, hJ3, hk3⟩ | ⟨rfl, hJx3⟩
          · gi_wp2
            go_wp2
            go_roundw
            case rel => exact ⟨t + 1, p', q', _, rfl, rfl, HN.out, Lib.hid hJ3, Lib.hid (kpC_t HX.out hk3)⟩
            case measure =>
              have := hbd.out
              simp [intOf]; omega
          · gi_wp2
            go_wp2
            refine bodyPost_ret (results_none rfl _ _ _) rfl ?_
            exact ⟨⟨_, rfl⟩, .inr ⟨_, trivial, hJx3⟩⟩
    · have d1 : decide ((p : Int) < (s.length : Int)) = false := decide_eq_false (by omega)
      have d2 : decide ((q : Int) < (z.length : Int)) = false := decide_eq_false (by omega)
      have ho := hT.done hact
      go_wp2
      go_end0
      exact ⟨⟨_, rfl⟩, .inl ⟨_, ho, hJs.out⟩⟩
end Go.Proofs.Ytmoeccghkpjbgaa

/- Package share: Join. -/
namespace Go.Proofs.Ytmoeccghkpjbgaa
open Go.RowKit Go.Shelf
attribute [local go_sem] Oper.semAt_some

theorem merge_any (v1 v2 : Value) (a1 a2 : Option Addr) (n1 n2 c1 c2 : Nat) (h1 : v1 = .slice a1 n1 c1) (h2 : v2 = .slice a2 n2 c2) (w : World) :
    Calls Try.prog 47 #[v1, v2] w fun e w' => e = .returned (.func (.func 73) #[] #[.pointer (some ⟨w.heap.size, 0, none⟩), .pointer (some ⟨w.heap.size + 1, 0, none⟩)]) ∧ w' = (w.alloc (.cells #[v1] 22)).alloc (.cells #[v2] 22) := by
  subst h1 h2
  have hmf : ∀ (fn : Fn) (first cap : Array Value) (w : World), (Instr.makeFunc fn first cap).run Try.prog w = .ok (.func fn first cap) w := fun _ _ _ _ => rfl
  go_enter Try.func47, Try.ntmps47
  go_wp2
  go_ret
  exact ⟨rfl, rfl⟩
/-- what merge returns yields all sums -/
theorem merge_stops (n B1 B2 n₀ : Nat) (a1 a2 : Option Addr) (c1 c2 : Nat) (s z : List (Int × Int)) (h1 : SR s) (h2 : SR z) (w : World) (hn : n₀ ≤ w.heap.size)
    (hB1 : w.cell? ⟨B1, 0, none⟩ = some (.slice a1 s.length c1)) (hB2 : w.cell? ⟨B2, 0, none⟩ = some (.slice a2 z.length c2))
    (HP1 : ∀ W', Below n₀ w W' → Pts W' (.slice a1 s.length c1) s) (HP2 : ∀ W', Below n₀ w W' → Pts W' (.slice a2 z.length c2) z) :
    SeqStopsK Fence.wide n Try.prog 73 #[.pointer (some ⟨B1, 0, none⟩), .pointer (some ⟨B2, 0, none⟩)] encJ (KpC B1 B2 n₀) (fun ys => ys = jn s z) (fun _ => True) (s.length + z.length) w := fun l J Jx W hW hJ _ hY h0 =>
  merge1_in n l B1 B2 n₀ a1 a2 c1 c2 s z h1.len h2.len (Lib.hid fun j hj => by have := (shB_false.1 (h1.ok j hj)).2.2; omega) (Lib.hid fun j hj => by have := (shB_false.1 (h2.ok j hj)).2.2; omega) J Jx W.heap.size (Lib.hid hJ) (Lib.hid hY) W (Nat.le_trans hn hW.size)
    (cell_bel hB1 hW) (cell_bel hB2 hW) (Lib.hid fun W' h => HP1 W' ((hW.mono hn).trans h)) (Lib.hid fun W' h => HP2 W' ((hW.mono hn).trans h)) (Lib.hid h0)
theorem jst_all {s z : List (Int × Int)} (h1 : SR s) (h2 : SR z) : ∀ t, (jst s z t).1 ≤ s.length ∧ (jst s z t).2.1 ≤ z.length ∧ (jst s z t).2.2.length ≤ t ∧ ∀ x ∈ (jst s z t).2.2, 0 ≤ x.2 ∧ x.2 ≤ 21474836480000
  | 0 => ⟨Nat.zero_le _, Nat.zero_le _, Nat.le_refl _, fun x hx => by cases hx⟩
  | t + 1 => by
    obtain ⟨i1, i2, i3, i4⟩ := jst_all h1 h2 t
    unfold jst
    generalize jst s z t = r at *
    obtain ⟨i, k, o⟩ := r
    simp only at i1 i2 i3 i4 ⊢
    by_cases ha : i < s.length ∨ k < z.length
    · rw [if_pos ha]
      obtain ⟨b1, b2, _⟩ := jstep_bd i1 i2 ha
      refine ⟨b1, b2, by simp; omega, fun x hx => ?_⟩
      rcases List.mem_append.1 hx with hx | hx
      · exact i4 x hx
      · rw [List.mem_singleton.1 hx]
        have f1 := fun h => (shB_false.1 (h1.ok i h)).2.2
        have f2 := fun h => (shB_false.1 (h2.ok k h)).2.2
        unfold jstep
        by_cases g1 : k = z.length ∨ (i < s.length ∧ gX s i < gX z k)
        · rw [if_pos g1]
          have : i < s.length := by rcases g1 with g1 | ⟨g1, _⟩ <;> omega
          have := f1 this
          dsimp only; omega
        · rw [if_neg g1]
          have g3 : k ≠ z.length := fun e => g1 (.inl e)
          by_cases g2 : i = s.length ∨ gX z k < gX s i
          · rw [if_pos g2]
            have := f2 (by omega)
            dsimp only; omega
          · rw [if_neg g2]
            have g4 : i ≠ s.length := fun e => g2 (.inl e)
            have := f2 (by omega)
            have := f1 (by omega)
            dsimp only; omega
    · rw [if_neg ha]
      exact ⟨i1, i2, by dsimp only; omega, i4⟩
theorem jn_len {s z : List (Int × Int)} (h1 : SR s) (h2 : SR z) : (jn s z).length ≤ 64 := by
  have := (jst_all h1 h2 (s.length + z.length)).2.2.1
  have := h1.len; have := h2.len
  unfold jn; omega
theorem jn_bd {s z : List (Int × Int)} (h1 : SR s) (h2 : SR z) : ∀ k, k < (jn s z).length → 0 ≤ gR (jn s z) k ∧ gR (jn s z) k ≤ 21474836480000 := fun k hk => by
  have := (jst_all h1 h2 (s.length + z.length)).2.2.2 ((jn s z)[k]) (List.getElem_mem hk)
  unfold gR
  rw [List.getD_eq_getElem?_getD, List.getElem?_eq_getElem hk]
  exact this
/-- what Join answers -/
def jnQ (J : List (Int × Int)) (E : Int) (L : List (Int × Int)) : Prop := (32 < J.length ∧ E = 12 ∧ L = []) ∨ (J.length ≤ 32 ∧ 10737418240000 < sm fM J ∧ E = 15 ∧ L = []) ∨ (J.length ≤ 32 ∧ sm fM J ≤ 10737418240000 ∧ E = 0 ∧ L = J)
/-- what the loop of Join keeps -/
def JI (wA : World) (a1 a2 : Option Addr) (n1 n2 c1 c2 : Nat) (pre : List (Int × Int)) (W : World) : Prop :=
  (∃ v, Boxed W wA.heap.size 22 v ∧ RH.Sh W wA.heap.size v pre) ∧ Boxed W (wA.heap.size + 1) 22 (.slice a1 n1 c1) ∧ Boxed W (wA.heap.size + 1 + 1) 22 (.slice a2 n2 c2) ∧ Below wA.heap.size wA W
theorem boxed_other {W W' : World} {row : Option Nat} {B : Nat} {t : TypeId} {v : Value} (h : Boxed W B t v) (hg : W.grownBy W' row) (hr : ∀ r, row = some r → ∃ o : Obj, W.heap[r]? = some o ∧ o.isCells = false) : Boxed W' B t v :=
  h.kept hg (fun e => by obtain ⟨o, h3, h4⟩ := hr _ e.symm; rw [show W.heap[B]? = _ from h] at h3; cases h3; cases h4)
theorem JI.own {wA : World} {a1 a2 : Option Addr} {n1 n2 c1 c2 : Nat} {B : Nat} (hB : wA.heap.size ≤ B) : OwnFrom B (JI wA a1 a2 n1 n2 c1 c2) := by
  rintro pre A A' row ⟨⟨v, i1, i2⟩, i3, i4, i5⟩ hg hr
  have hr2 := fun r e => (hr r e).2
  refine ⟨⟨v, boxed_other i1 hg hr2, i2.kept hg ?_⟩, boxed_other i3 hg hr2, boxed_other i4 hg hr2, ownFrom_below (β := Unit) (Nat.le_refl _) hB () A A' row i5 hg hr⟩
  rcases i2.2 with ⟨rfl, _⟩ | ⟨g, cap, cur, rfl, _, hgb, _⟩
  · exact .inl rfl
  · refine .inr fun e' => ?_
    obtain ⟨o, ho, hc⟩ := hr2 g (by simpa [Value.ownBlock] using e'.symm)
    rw [hgb] at ho; cases ho; cases hc
theorem JI.alloc {wA : World} {a1 a2 : Option Addr} {n1 n2 c1 c2 : Nat} {pre : List (Int × Int)} {W : World} (h : JI wA a1 a2 n1 n2 c1 c2 pre W) (o : Obj) : JI wA a1 a2 n1 n2 c1 c2 pre (W.alloc o) :=
  JI.own (B := wA.heap.size) (Nat.le_refl _) pre W _ none h (World.grownBy_alloc W o none) (fun r e => by cases e)
set_option maxRecDepth 100000 in
set_option maxHeartbeats 16000000 in
theorem shJn_ok (a1 a2 : Option Addr) (c1 c2 : Nat) (s z : List (Int × Int)) (w : World) (HV1 : Hid (Pts w (.slice a1 s.length c1) s)) (HV2 : Hid (Pts w (.slice a2 z.length c2) z)) (hR1 : SR s) (hR2 : SR z) :
    Calls Try.prog 22 #[.slice a1 s.length c1, .slice a2 z.length c2] w fun e w' => (∃ u E L, e = .returned (.tuple #[u, .int .i64 E]) ∧ RH.Sh w' w.heap.size u L ∧ jnQ (jn s z) E L) ∧ Below w.heap.size w w' := by
  have HC1 := Lib.hid (shAr_any _ s w HV1.out)
  have HC2 := Lib.hid (fun W h => shAr_any (.slice a2 z.length c2) z W h)
  rw [show (scE s == 0) = true by simpa using scE_zero.2 hR1] at HC1
  rw [show (scE z == 0) = true by simpa using scE_zero.2 hR2] at HC2
  have HM := Lib.hid (fun v W g => shAm_any v (jn s z) W g (jn_len hR1 hR2) (jn_bd hR1 hR2))
  have hmx : Try.prog.follows .mixedOrders = true := by kernel_rfl
  obtain ⟨i0, hi, hz0, hz1, hz2⟩ := RH.info_parts RH.sh_info
  replace hi := Lib.hid hi
  replace hz0 := Lib.hid hz0
  replace hz1 := Lib.hid hz1
  replace hz2 := Lib.hid hz2
  refine (callsIn_wide (n := 10)).1 ?_
  refine callsIn_of_wp_marks Try.func22 rfl trivial ?_ rfl
  simp only [Try.ntmps22, List.size_toArray, List.length_cons, List.length_nil, Nat.reduceAdd, Nat.reduceSub, Array.replicate_succ, Array.replicate_zero, List.push_toArray, List.append_toArray, List.nil_append, List.cons_append]
  gi_wp2_with fail
  refine ⟨trivial, (callsIn_wide.2 HC1.out).mono ?_⟩
  rintro e w1 ⟨rfl, g1⟩
  have X := Lib.hid g1
  clear g1
  gi_wp2_with fail
  refine ⟨trivial, (callsIn_wide.2 (HC2.out _ (HV2.out.below X.out))).mono ?_⟩
  rintro e wA ⟨rfl, g1⟩
  replace X := Lib.hid (bel_trans X.out g1)
  clear g1 HC1 HC2
  have V1 := Lib.hid (HV1.out.below X.out)
  have V2 := Lib.hid (HV2.out.below X.out)
  gi_wp2_with fail
  refine ⟨trivial, (callsIn_wide.2 (merge_any _ _ a1 a2 s.length z.length c1 c2 rfl rfl _)).mono ?_⟩
  rintro e w3 ⟨rfl, rfl⟩
  gi_wp2_with fail
  have BO : Hid (Boxed (((wA.alloc (.cells #[.slice none 0 0] 22)).alloc (.cells #[.slice a1 s.length c1] 22)).alloc (.cells #[.slice a2 z.length c2] 22)) wA.heap.size 22 (.slice none 0 0)) := Lib.hid (((Boxed.new wA 22 (.slice none 0 0)).alloc _).alloc _)
  have BX : Hid (Boxed (((wA.alloc (.cells #[.slice none 0 0] 22)).alloc (.cells #[.slice a1 s.length c1] 22)).alloc (.cells #[.slice a2 z.length c2] 22)) (wA.heap.size + 1) 22 (.slice a1 s.length c1)) := Lib.hid (by
    have := (Boxed.new (wA.alloc (.cells #[.slice none 0 0] 22)) 22 (.slice a1 s.length c1)).alloc (.cells #[.slice a2 z.length c2] 22)
    rwa [World.size_alloc] at this)
  have BY : Hid (Boxed (((wA.alloc (.cells #[.slice none 0 0] 22)).alloc (.cells #[.slice a1 s.length c1] 22)).alloc (.cells #[.slice a2 z.length c2] 22)) (wA.heap.size + 1 + 1) 22 (.slice a2 z.length c2)) := Lib.hid (by
    have := Boxed.new ((wA.alloc (.cells #[.slice none 0 0] 22)).alloc (.cells #[.slice a1 s.length c1] 22)) 22 (.slice a2 z.length c2)
    rwa [World.size_alloc, World.size_alloc] at this)
  have X1 : Hid (Below wA.heap.size wA (((wA.alloc (.cells #[.slice none 0 0] 22)).alloc (.cells #[.slice a1 s.length c1] 22)).alloc (.cells #[.slice a2 z.length c2] 22))) := Lib.hid (bel_alloc (bel_alloc (bel_alloc (Below.refl _ _))))
  obtain ⟨W0, hW0⟩ : ∃ W0, (((wA.alloc (.cells #[.slice none 0 0] 22)).alloc (.cells #[.slice a1 s.length c1] 22)).alloc (.cells #[.slice a2 z.length c2] 22)) = W0 := ⟨_, rfl⟩
  have hsz : W0.heap.size = wA.heap.size + 1 + 1 + 1 := by rw [← hW0]; simp
  rw [hW0] at BO BX BY X1 ⊢
  clear hW0
  have JI0 : JI wA a1 a2 s.length z.length c1 c2 [] W0 := ⟨⟨_, BO.out, RH.Sh.nil _ _⟩, BX.out, BY.out, X1.out⟩
  refine wpIn_rangeFunc_ownH rfl (by omega) (gf := 73) (lb := #[.pointer (some ⟨wA.heap.size + 1, 0, none⟩), .pointer (some ⟨wA.heap.size + 1 + 1, 0, none⟩)]) rfl trivial (enters_of Try.func73 (by kernel_rfl) rfl)
    (merge_stops 9 (wA.heap.size + 1) (wA.heap.size + 1 + 1) wA.heap.size a1 a2 c1 c2 s z hR1 hR2 W0 X1.out.size BX.out.cell BY.out.cell (fun W' h => V1.out.below (X1.out.trans h)) (fun W' h => V2.out.below (X1.out.trans h))) kpC_t (kpC_b X1.out.size) (Below.refl _ _) (fun _ => rfl)
    (JI wA a1 a2 s.length z.length c1 c2)
    (fun _ _ _ => False)
    (JI.own (by rw [hsz]; omega))
    (fun c s A B row h _ _ => h)
    JI0
    (fun x a' W => ∃ Bx : Nat, wA.heap.size + 1 + 1 < Bx ∧ (W.cell? ⟨Bx, 0, none⟩ = some (.int .i64 x.1) ∧ W.cell? ⟨Bx, 1, none⟩ = some (.int .i64 x.2)) ∧ a' = { tmps := #[.slice a1 s.length c1, .slice a2 z.length c2, undef, undef, .slice none 0 0, .int .i64 0, .pointer (some ⟨wA.heap.size, 0, none⟩), .pointer (some ⟨Bx, 0, none⟩), undef, undef, .slice a1 s.length c1, .bool true, .bool false, .bool false, .slice a2 z.length c2, .bool true, .bool false, .bool false, .slice a1 s.length c1, .slice a2 z.length c2, .func (.func 73) #[] #[.pointer (some ⟨wA.heap.size + 1, 0, none⟩), .pointer (some ⟨wA.heap.size + 1 + 1, 0, none⟩)], .agg #[.int .i64 x.1, .int .i64 x.2], undef, undef, undef, undef, undef, undef, undef, undef, undef, undef, undef, undef, undef, undef, undef], defers := [] })
    (fun x a' _ A B row ⟨Bx, h1, h2, h3⟩ hg hr => ⟨Bx, h1, ⟨cell_kept h2.1 hg (fun r e => (hr r e).2), cell_kept h2.2 hg (fun r e => (hr r e).2)⟩, h3⟩) ?assign ?body ?done ?stop
  case assign =>
    rintro lp pre ⟨x, y⟩ W K hI hK
    dsimp only [encJ]
    have hz := hI.2.2.1.lt
    obtain ⟨n0, n1, _, _, _⟩ := Two.new W (.int .i64 x) (.int .i64 y) 52
    have hb : Below wA.heap.size W (W.alloc (.cells #[.int .i64 x, .int .i64 y] 52)) := (Below.refl _ W).alloc hI.2.2.2.size _
    gi_wp2
    exact hK _ _ ((KeepsOthers.alloc _ _).from _) ⟨hb, fun v e => cell_al _ e, fun v e => cell_al _ e⟩ (hI.alloc _) ⟨W.heap.size, hz, ⟨n0, n1⟩, rfl⟩
  case body =>
    rintro lp pre ⟨x, y⟩ aa W hlp ⟨rr, hrr⟩ hI ⟨Bx, hBx, ⟨f0, f1⟩, rfl⟩ hlen
    obtain ⟨⟨v, i1, i2⟩, i3, i4, i5⟩ := hI
    obtain ⟨av, cv, ev⟩ := i2.shape
    subst ev
    have cO := i1.cell
    have fO := i1.frozen
    have hl1 := hR1.len
    have hl2 := hR2.len
    have OA : Hid ((W.alloc (.cells #[.int .i64 x, .int .i64 y] 52)).ownsRow wA.heap.size 52 2 (.slice av pre.length cv) pre.length (flat pre)) := Lib.hid (i2.below (bel_alloc (Below.refl _ _)))
    have CN := Lib.hid (RH.pair_new W x y 52)
    have HS : Hid (wA.heap.size ≤ (W.alloc (.cells #[.int .i64 x, .int .i64 y] 52)).heap.size) := Lib.hid (by have := i5.size; simp; omega)
    have M1 : Hid (pre.length + 1 ≤ maxLen) := Lib.hid (by unfold maxLen; omega)
    have M2 : Hid ((pre.length + 1) * 16 ≤ 140737488355328) := Lib.hid (by omega)
    obtain ⟨q, hq⟩ : ∃ q, pre.length = q := ⟨_, rfl⟩
    rw [hq] at cO OA M1 M2
    simp only at f0 f1
    gi_wp2_with (gi_at_builtin; refine wpListIn_append_own _ rfl _ _ 22 rfl wA.heap.size 52 i0 (.agg #[.int .i64 0, .int .i64 0]) 2 16 Try.underlying22 hi.out hz0.out hz1.out hz2.out rfl (by omega) _ _ _ rfl OA.out ⟨W.heap.size, 0, none⟩ 1 1 [.int .i64 x, .int .i64 y] rfl rfl CN.out (RH.pair_one x y) M1.out M2.out HS.out ?_)
    intro v2 w5 hown hgrow _
    obtain ⟨gg, cc, hv2⟩ := ownsRow_succ hown
    subst hv2
    rw [hq] at i1
    have i2' : W.ownsRow wA.heap.size 52 2 (.slice av q cv) q (flat pre) := by
      have := i2
      unfold RH.Sh at this
      rwa [hq] at this
    obtain ⟨b1, b2, b3, b4, b5⟩ := Boxed.appended (tmp := .cells #[.int .i64 x, .int .i64 y] 52) i1 (by decide) i2' i5.size (Nat.le_refl _) hown hgrow
    have e3 := ((i3.alloc (.cells #[.int .i64 x, .int .i64 y] 52)).kept hgrow (i3.not_row (by decide) i2')).other (B' := wA.heap.size) (by omega) (.slice (some ⟨gg, 0, none⟩) (q + 1) cc)
    have e4 := ((i4.alloc (.cells #[.int .i64 x, .int .i64 y] 52)).kept hgrow (i4.not_row (by decide) i2')).other (B' := wA.heap.size) (by omega) (.slice (some ⟨gg, 0, none⟩) (q + 1) cc)
    have c5 := b1.cell
    have f5 := b1.frozen
    have R := Lib.hid (show KeepsFrom W0.heap.size W (w5.setCell ⟨wA.heap.size, 0, none⟩ (.slice (some ⟨gg, 0, none⟩) (q + 1) cc)) ∧ KpC (wA.heap.size + 1) (wA.heap.size + 1 + 1) wA.heap.size W (w5.setCell ⟨wA.heap.size, 0, none⟩ (.slice (some ⟨gg, 0, none⟩) (q + 1) cc)) ∧ JI wA a1 a2 s.length z.length c1 c2 (pre ++ [(x, y)]) (w5.setCell ⟨wA.heap.size, 0, none⟩ (.slice (some ⟨gg, 0, none⟩) (q + 1) cc)) from
      ⟨b4.from _, ⟨b5, fun u e => by rw [i3.cell] at e; cases e; exact e3.cell, fun u e => by rw [i4.cell] at e; cases e; exact e4.cell⟩, ⟨_, b2, RH.push rfl hq b3⟩, e3, e4, i5.trans b5⟩)
    clear b1 b2 b3 b4 b5 e3 e4 hown hgrow OA CN i1 i2 i2' i3 i4 i5
    gi_wp2
    exact R.out
  case done =>
    rintro D ys W hD rfl ⟨⟨v, i1, i2⟩, i3, i4, i5⟩ hK
    obtain ⟨av, cv, ev⟩ := i2.shape
    subst ev
    have cO := i1.cell
    have NP := Lib.hid i2.pts
    have U := Lib.hid (i2.base (B' := w.heap.size) X.out.size)
    have XW := Lib.hid (bel_trans X.out i5)
    have hne : D ≠ wA.heap.size := by omega
    have hJl := jn_len hR1 hR2
    clear i1 i2 i3 i4 i5
    generalize hJ : jn s z = J at *
    obtain ⟨q, hq⟩ : ∃ q, J.length = q := ⟨_, rfl⟩
    rw [hq] at cO NP U
    by_cases hbig : 32 < J.length
    · have d0 : decide (32 < (q : Int)) = true := decide_eq_true (by omega)
      gi_wp2
      refine ⟨by simp, .inl ⟨_, _, rfl, run_takeDeferred hK, ?_⟩⟩
      refine ⟨.tuple #[.slice none 0 0, .int .i64 12], ?_, ⟨_, _, _, rfl, RH.Sh.nil _ _, .inl ⟨by first | exact hbig | (rw [hJ]; exact hbig), rfl, rfl⟩⟩, XW.out.trans (belowK_b (w := w) (Nat.le_refl _) _ D _ _ (by have := X.out.size; omega) hK rfl rfl)⟩
      simp [results, Try.results22, go_sem]
    · have d0 : decide (32 < (q : Int)) = false := decide_eq_false (by omega)
      gi_wp2_with fail
      refine ⟨trivial, (callsIn_wide.2 (HM.out _ _ NP.out)).mono ?_⟩
      rintro e w7 ⟨ui, rfl, _, g1⟩
      have hlt7 : D < W.heap.size := (Array.getElem?_eq_some_iff.1 hK).1
      have hK7 : w7.heap[D]? = some (.deferred (some [])) := (g1.block D hlt7).trans hK
      have cO7 := cell_bel cO g1
      have X7 := Lib.hid (bel_trans XW.out g1)
      have U7 := Lib.hid (U.out.below g1)
      clear g1 hK cO
      by_cases hsm : 10737418240000 < sm fM J
      · have d1 : decide (10737418240000 < sm fM J) = true := decide_eq_true hsm
        have hT : ∃ T, T = sm fM J := ⟨_, rfl⟩
        gi_wp2
        refine ⟨by simp, .inl ⟨_, _, rfl, run_takeDeferred hK7, ?_⟩⟩
        refine ⟨.tuple #[.slice none 0 0, .int .i64 15], ?_, ⟨_, _, _, rfl, RH.Sh.nil _ _, .inr (.inl ⟨by first | exact Nat.le_of_not_lt hbig | (rw [hJ]; exact Nat.le_of_not_lt hbig), by first | exact hsm | (rw [hJ]; exact hsm), rfl, rfl⟩)⟩, X7.out.trans (belowK_b (w := w) (Nat.le_refl _) _ D _ _ (by have := X.out.size; omega) hK7 rfl rfl)⟩
        simp [results, Try.results22, go_sem]
      · have d1 : decide (10737418240000 < sm fM J) = false := decide_eq_false hsm
        gi_wp2
        refine ⟨by simp, .inl ⟨_, _, rfl, run_takeDeferred hK7, ?_⟩⟩
        refine ⟨.tuple #[.slice av q cv, .int .i64 0], ?_, ⟨_, _, _, rfl, ownsRow_putObj U7.out _ hK7 rfl, .inr (.inr ⟨by first | exact Nat.le_of_not_lt hbig | (rw [hJ]; exact Nat.le_of_not_lt hbig), by first | exact hsm | exact Int.not_lt.1 hsm | (rw [hJ]; first | exact hsm | exact Int.not_lt.1 hsm), rfl, by first | rfl | exact hJ.symm⟩)⟩, X7.out.trans (belowK_b (w := w) (Nat.le_refl _) _ D _ _ (by have := X.out.size; omega) hK7 rfl rfl)⟩
        simp [results, Try.results22, go_sem]
  case stop => rintro D cc pre W hD _ h; exact h.elim
set_option maxHeartbeats 8000000 in
set_option maxRecDepth 100000 in
theorem shJn_bad1 (v1 v2 : Value) (s : List (Int × Int)) (w : World) (HV1 : Hid (Pts w v1 s)) (hE : (scE s == 0) = false) :
    Calls Try.prog 22 #[v1, v2] w fun e w' => ∃ u, e = .returned (.tuple #[u, .int .i64 1]) ∧ RH.Sh w' w.heap.size u [] ∧ Below w.heap.size w w' := by
  have HC1 := Lib.hid (shAr_any v1 s w HV1.out)
  rw [hE] at HC1
  go_enter Try.func22, Try.ntmps22
  go_wp2_with fail
  refine HC1.out.mono ?_
  rintro e w1 ⟨rfl, g1⟩
  have X := Lib.hid g1
  clear g1
  go_wp2
  go_returns
  exact ⟨_, rfl, RH.Sh.nil _ _, X.out⟩
set_option maxHeartbeats 8000000 in
set_option maxRecDepth 100000 in
theorem shJn_bad2 (v1 v2 : Value) (s z : List (Int × Int)) (w : World) (HV1 : Hid (Pts w v1 s)) (HV2 : Hid (Pts w v2 z)) (hE : (scE s == 0) = true) (hE2 : (scE z == 0) = false) :
    Calls Try.prog 22 #[v1, v2] w fun e w' => ∃ u, e = .returned (.tuple #[u, .int .i64 1]) ∧ RH.Sh w' w.heap.size u [] ∧ Below w.heap.size w w' := by
  have HC1 := Lib.hid (shAr_any v1 s w HV1.out)
  have HC2 := Lib.hid (fun W h => shAr_any v2 z W h)
  rw [hE] at HC1
  rw [hE2] at HC2
  go_enter Try.func22, Try.ntmps22
  go_wp2_with fail
  refine HC1.out.mono ?_
  rintro e w1 ⟨rfl, g1⟩
  have X := Lib.hid g1
  clear g1
  go_wp2_with fail
  refine (HC2.out _ (HV2.out.below X.out)).mono ?_
  rintro e w2 ⟨rfl, g1⟩
  replace X := Lib.hid (bel_trans X.out g1)
  clear g1
  go_wp2
  go_returns
  exact ⟨_, rfl, RH.Sh.nil _ _, X.out⟩
def jnE (s z : List (Int × Int)) : Int := if scE s ≠ 0 ∨ scE z ≠ 0 then 1 else if 32 < (jn s z).length then 12 else if 10737418240000 < sm fM (jn s z) then 15 else 0
def jnL (s z : List (Int × Int)) : List (Int × Int) := if jnE s z = 0 then jn s z else []
theorem jnQ_is {s z : List (Int × Int)} (h1 : SR s) (h2 : SR z) {E : Int} {L : List (Int × Int)} (h : jnQ (jn s z) E L) : E = jnE s z ∧ L = jnL s z := by
  have g : ¬ (scE s ≠ 0 ∨ scE z ≠ 0) := by rw [scE_zero.2 h1, scE_zero.2 h2]; simp
  unfold jnL jnE
  rw [if_neg g]
  rcases h with ⟨a, rfl, rfl⟩ | ⟨a, b, rfl, rfl⟩ | ⟨a, b, rfl, rfl⟩
  · rw [if_pos a]; exact ⟨rfl, by rw [if_neg (by decide)]⟩
  · rw [if_neg (by omega), if_pos b]; exact ⟨rfl, by rw [if_neg (by decide)]⟩
  · rw [if_neg (by omega), if_neg (by omega)]; exact ⟨rfl, by rw [if_pos rfl]⟩
theorem shJn_any (v1 v2 : Value) (s z : List (Int × Int)) (w : World) (hv1 : Pts w v1 s) (hv2 : Pts w v2 z) :
    Calls Try.prog 22 #[v1, v2] w fun e w' => ∃ u, e = .returned (.tuple #[u, .int .i64 (jnE s z)]) ∧ RH.Sh w' w.heap.size u (jnL s z) ∧ Below w.heap.size w w' := by
  by_cases h1 : scE s = 0
  · by_cases h2 : scE z = 0
    · have hR1 := scE_zero.1 h1
      have hR2 := scE_zero.1 h2
      obtain ⟨a1, c1, rfl, _, _⟩ := id hv1
      obtain ⟨a2, c2, rfl, _, _⟩ := id hv2
      refine (shJn_ok a1 a2 c1 c2 s z w (Lib.hid hv1) (Lib.hid hv2) hR1 hR2).mono ?_
      rintro e w' ⟨⟨u, E, L, rfl, hu, hq⟩, hb⟩
      obtain ⟨rfl, rfl⟩ := jnQ_is hR1 hR2 hq
      exact ⟨u, rfl, hu, hb⟩
    · have e : jnE s z = 1 := by unfold jnE; rw [if_pos (.inr h2)]
      have e2 : jnL s z = [] := by unfold jnL; rw [e, if_neg (by decide)]
      rw [e, e2]
      exact shJn_bad2 v1 v2 s z w (Lib.hid hv1) (Lib.hid hv2) (by simpa using h1) (by simpa using h2)
  · have e : jnE s z = 1 := by unfold jnE; rw [if_pos (.inl h1)]
    have e2 : jnL s z = [] := by unfold jnL; rw [e, if_neg (by decide)]
    rw [e, e2]
    exact shJn_bad1 v1 v2 s w (Lib.hid hv1) (by simpa using h1)
end Go.Proofs.Ytmoeccghkpjbgaa

/- The reference of layer 23: Check, Sum, amounts, with. -/
namespace Go.Proofs.Ytmoeccghkpjbgaa
open Go.RowKit

set_option maxHeartbeats 4000000 in
theorem rsCh_long (a : Option Addr) (n cap : Nat) (w : World) (h : 32 < n) (hn : n ≤ 9223372036854775807) :
    Calls Try.prog 19 #[.slice a n cap] w fun e w' => e = .returned (.int .i64 8) ∧ Below w.heap.size w w' := by
  have q : decide (32 < (n : Int)) = true := decide_eq_true (by omega)
  go_enter Try.func19, Try.ntmps19
  go_wp2
  go_returns
  exact ⟨rfl, Below.refl _ _⟩
set_option maxHeartbeats 32000000 in
set_option maxRecDepth 100000 in
theorem rsCh_ok (a : Option Addr) (n cap : Nat) (s : List (Int × Int))  (w : World) (NV0 : Hid (Pts w (.slice a n cap) s)) (hn : n ≤ 32) (hl : Hid (s.length = n)) (hp : Hid (∀ j, j < n → shB s j = false)) (T : Int) (hT : Hid (sm fM s = T)) (E : Int) (hE : Hid ((if 10737418240000 < T then 15 else 0 : Int) = E)) :
    Calls Try.prog 19 #[.slice a n cap] w fun e w' => e = .returned (.int .i64 E) ∧ Below w.heap.size w w' := by
  have q : decide (32 < (n : Int)) = false := decide_eq_false (by omega)
  have HA := Lib.hid (fun W h => rlAl_any (.slice a n cap) s W h (by rw [hl.out]; exact hn) (shO_iff.2 (by rw [hl.out]; exact hp.out)))
  rw [hT.out] at HA
  go_enter Try.func19, Try.ntmps19
  go_wp2_with fail
  go_loopw [3] (fun i wr => ∃ k : Nat, k ≤ n ∧ i = .int .i64 k ∧ Hid (Below w.heap.size w wr)) (fun i _ => n - (intOf i).toNat)
  case atStart => exact ⟨0, Nat.zero_le _, rfl, Lib.hid (Below.refl _ _)⟩
  case round =>
    obtain ⟨k, hk, rfl, X⟩ := hrel
    have NV := Lib.hid (NV0.out.below X.out)
    by_cases hlt : k < n
    · have h0 := shB_false.1 (hp.out k hlt)
      unfold pvF at h0
      have l9 : (k : Int) < (n : Int) := by omega
      obtain ⟨b, off, rfl, hb, hc⟩ := NV.out.at (by omega)
      obtain ⟨c0, c1⟩ := hc k (by omega)
      by_cases hz : k = 0
      · clear hc
        subst hz
        rw [if_pos rfl] at h0
        simp only [Nat.zero_mul, Nat.add_zero] at c0 c1
        generalize gX s 0 = x at *
        generalize gR s 0 = y at *
        have l8 : (0 : Int) < (n : Int) := by omega
        have l7 : (0 : Nat) < n := by omega
        have d1 : decide (x < 1) = false := decide_eq_false (by omega)
        have d2 : decide (1073741824 < x) = false := decide_eq_false (by omega)
        have d3 : decide (y < 1) = false := decide_eq_false (by omega)
        have d4 : decide (10737418240000 < y) = false := decide_eq_false (by omega)
        go_wp2_with fail
        go_quiet (fail)
        rename_i nq
        go_wp2
        go_roundw
        case rel => exact ⟨1, by omega, by go_num, Lib.hid (bel_trans X.out (bel_drewN _ _))⟩
        case measure => simp [intOf]; omega
      · obtain ⟨j, rfl⟩ : ∃ j, k = j + 1 := ⟨k - 1, by omega⟩
        obtain ⟨e0, _⟩ := hc j (by omega)
        rw [if_neg (by omega), Nat.add_sub_cancel] at h0
        clear hc
        generalize gX s (j + 1) = x at *
        generalize gR s (j + 1) = y at *
        generalize gX s j = p at *
        have d1 : decide (x < 1) = false := decide_eq_false (by omega)
        have d2 : decide (1073741824 < x) = false := decide_eq_false (by omega)
        have d3 : decide (y < 1) = false := decide_eq_false (by omega)
        have d4 : decide (10737418240000 < y) = false := decide_eq_false (by omega)
        have d5 : decide (0 < (j : Int) + 1) = true := decide_eq_true (by omega)
        have d6 : decide (x ≤ p) = false := decide_eq_false (by omega)
        have wj : IntKind.i64.wrap (j : Int) = (j : Int) := wrap_in _ ⟨by omega, by omega⟩
        go_wp2_with fail
        go_quiet (fail)
        rename_i nq
        go_wp2
        go_roundw
        case rel => exact ⟨j + 1 + 1, by omega, by go_num, Lib.hid (bel_trans X.out (bel_drewN _ _))⟩
        case measure => simp [intOf]; omega
    · obtain rfl : k = n := by omega
      clear hp
      have hE1 := hE.out
      by_cases g : 10737418240000 < T
      · have d : decide (10737418240000 < T) = true := decide_eq_true g
        rw [if_pos g] at hE1
        subst hE1
        go_wp2_with fail
        refine (HA.out _ NV.out).mono ?_
        rintro e w3 ⟨rfl, hw⟩
        have X1 := Lib.hid (bel_trans X.out hw)
        clear hw
        go_wp2
        go_returns
        exact ⟨rfl, X1.out⟩
      · have d : decide (10737418240000 < T) = false := decide_eq_false g
        rw [if_neg g] at hE1
        subst hE1
        go_wp2_with fail
        refine (HA.out _ NV.out).mono ?_
        rintro e w3 ⟨rfl, hw⟩
        have X1 := Lib.hid (bel_trans X.out hw)
        clear hw
        go_wp2
        go_returns
        exact ⟨rfl, X1.out⟩
set_option maxHeartbeats 32000000 in
set_option maxRecDepth 100000 in
theorem rsCh_bad (a : Option Addr) (n cap : Nat) (s : List (Int × Int)) (m : Nat) (hm : m < n) (F : Int) (hF : (F != 0) = true) (hq : scF s m = F) (w : World) (NV0 : Hid (Pts w (.slice a n cap) s)) (hn : n ≤ 32) (hp : Hid (∀ j, j < m → shB s j = false)) :
    Calls Try.prog 19 #[.slice a n cap] w fun e w' => e = .returned (.int .i64 F) ∧ Below w.heap.size w w' := by
  have q : decide (32 < (n : Int)) = false := decide_eq_false (by omega)
  go_enter Try.func19, Try.ntmps19
  go_wp2_with fail
  go_loopw [3] (fun i wr => ∃ k : Nat, k ≤ m ∧ i = .int .i64 k ∧ Hid (Below w.heap.size w wr)) (fun i _ => n - (intOf i).toNat)
  case atStart => exact ⟨0, Nat.zero_le _, rfl, Lib.hid (Below.refl _ _)⟩
  case round =>
    obtain ⟨k, hk, rfl, X⟩ := hrel
    have NV := Lib.hid (NV0.out.below X.out)
    by_cases hlt : k < m
    · have h0 := shB_false.1 (hp.out k hlt)
      unfold pvF at h0
      have l9 : (k : Int) < (n : Int) := by omega
      obtain ⟨b, off, rfl, hb, hc⟩ := NV.out.at (by omega)
      obtain ⟨c0, c1⟩ := hc k (by omega)
      by_cases hz : k = 0
      · clear hc
        subst hz
        rw [if_pos rfl] at h0
        simp only [Nat.zero_mul, Nat.add_zero] at c0 c1
        generalize gX s 0 = x at *
        generalize gR s 0 = y at *
        have l8 : (0 : Int) < (n : Int) := by omega
        have l7 : (0 : Nat) < n := by omega
        have d1 : decide (x < 1) = false := decide_eq_false (by omega)
        have d2 : decide (1073741824 < x) = false := decide_eq_false (by omega)
        have d3 : decide (y < 1) = false := decide_eq_false (by omega)
        have d4 : decide (10737418240000 < y) = false := decide_eq_false (by omega)
        go_wp2_with fail
        go_quiet (fail)
        rename_i nq
        go_wp2
        go_roundw
        case rel => exact ⟨1, by omega, by go_num, Lib.hid (bel_trans X.out (bel_drewN _ _))⟩
        case measure => simp [intOf]; omega
      · obtain ⟨j, rfl⟩ : ∃ j, k = j + 1 := ⟨k - 1, by omega⟩
        obtain ⟨e0, _⟩ := hc j (by omega)
        rw [if_neg (by omega), Nat.add_sub_cancel] at h0
        clear hc
        generalize gX s (j + 1) = x at *
        generalize gR s (j + 1) = y at *
        generalize gX s j = p at *
        have d1 : decide (x < 1) = false := decide_eq_false (by omega)
        have d2 : decide (1073741824 < x) = false := decide_eq_false (by omega)
        have d3 : decide (y < 1) = false := decide_eq_false (by omega)
        have d4 : decide (10737418240000 < y) = false := decide_eq_false (by omega)
        have d5 : decide (0 < (j : Int) + 1) = true := decide_eq_true (by omega)
        have d6 : decide (x ≤ p) = false := decide_eq_false (by omega)
        have wj : IntKind.i64.wrap (j : Int) = (j : Int) := wrap_in _ ⟨by omega, by omega⟩
        go_wp2_with fail
        go_quiet (fail)
        rename_i nq
        go_wp2
        go_roundw
        case rel => exact ⟨j + 1 + 1, by omega, by go_num, Lib.hid (bel_trans X.out (bel_drewN _ _))⟩
        case measure => simp [intOf]; omega
    · obtain rfl : k = m := by omega
      have l9 : (k : Int) < (n : Int) := by omega
      obtain ⟨b, off, rfl, hb, hc⟩ := NV.out.at (by omega)
      obtain ⟨c0, c1⟩ := hc k (by omega)
      clear hp
      have hq1 : scV (gX s k) (gR s k) (pvF s k) = F := hq
      clear hq
      generalize gR s k = y at *
      by_cases g0 : gX s k < 1
      · have d1 : decide (gX s k < 1) = true := decide_eq_true g0
        have e : F = 2 := by rw [← hq1]; unfold scV; rw [if_pos]; simp [idB]; omega
        subst e
        clear hc hq1
        generalize gX s k = x at *
        go_wp2
        go_returns
        exact ⟨rfl, X.out⟩
      have d1 : decide (gX s k < 1) = false := decide_eq_false g0
      by_cases g1 : 1073741824 < gX s k
      · have d2 : decide (1073741824 < gX s k) = true := decide_eq_true g1
        have e : F = 2 := by rw [← hq1]; unfold scV; rw [if_pos]; simp [idB]; omega
        subst e
        clear hc hq1
        generalize gX s k = x at *
        go_wp2
        go_returns
        exact ⟨rfl, X.out⟩
      have d2 : decide (1073741824 < gX s k) = false := decide_eq_false g1
      by_cases g2 : y < 1
      · have d3 : decide (y < 1) = true := decide_eq_true g2
        have e : F = 2 := by rw [← hq1]; unfold scV; rw [if_pos]; simp [g2]
        subst e
        clear hc hq1
        generalize gX s k = x at *
        go_wp2
        go_returns
        exact ⟨rfl, X.out⟩
      have d3 : decide (y < 1) = false := decide_eq_false g2
      by_cases g3 : 10737418240000 < y
      · have d4 : decide (10737418240000 < y) = true := decide_eq_true g3
        have e : F = 2 := by rw [← hq1]; unfold scV; rw [if_pos]; simp [g3]
        subst e
        clear hc hq1
        generalize gX s k = x at *
        go_wp2
        go_returns
        exact ⟨rfl, X.out⟩
      have d4 : decide (10737418240000 < y) = false := decide_eq_false g3
      have hq2 : (if gX s k ≤ pvF s k then 5 else 0 : Int) = F := by
        have hc2 : ¬ ((!idB (gX s k) || decide (y < 1) || decide (10737418240000 < y)) = true) := by simp [idB, g2, g3]; omega
        unfold scV at hq1; rw [if_neg hc2] at hq1; exact hq1
      have h3 : gX s k ≤ pvF s k := by
        by_cases h : gX s k ≤ pvF s k
        · exact h
        · rw [if_neg h] at hq2; subst hq2; cases hF
      rw [if_pos h3] at hq2
      subst hq2
      cases k with
      | zero => unfold pvF at h3; simp at h3; omega
      | succ j =>
        obtain ⟨e0, _⟩ := hc j (by omega)
        have h4 : gX s (j + 1) ≤ gX s j := h3
        clear hc h3 hq1
        generalize gX s (j + 1) = x at *
        generalize gX s j = p at *
        have d5 : decide (0 < (j : Int) + 1) = true := decide_eq_true (by omega)
        have d6 : decide (x ≤ p) = true := decide_eq_true (by omega)
        have wj : IntKind.i64.wrap (j : Int) = (j : Int) := wrap_in _ ⟨by omega, by omega⟩
        go_wp2_with fail
        go_quiet (fail)
        rename_i nq
        go_wp2
        go_returns
        exact ⟨rfl, bel_trans X.out (bel_drewN _ _)⟩
theorem rsCh_any (v : Value) (s : List (Int × Int)) (w : World) (hv : Pts w v s) :
    Calls Try.prog 19 #[v] w fun e w' => e = .returned (.int .i64 (scE s)) ∧ Below w.heap.size w w' := by
  obtain ⟨a, cap, rfl, hcap, _⟩ := id hv
  unfold scE
  obtain ⟨s1, s2⟩ := fst_spec (fun k => scF s k != 0) s.length
  have le := fst_le (fun k => scF s k != 0) s.length
  change scK s ≤ s.length at le
  by_cases h : 32 < s.length
  · rw [if_pos h]; exact rsCh_long a _ cap w h (by omega)
  · rw [if_neg h]
    by_cases g : scK s < s.length
    · rw [if_pos g]
      exact rsCh_bad a _ cap s (scK s) g _ (s2 g) rfl w hv (by omega) (Lib.hid fun j hj => scF_zero.1 (by simpa using s1 j hj))
    · rw [if_neg g]
      exact rsCh_ok a _ cap s w hv (by omega) (Lib.hid rfl) (Lib.hid fun j hj => scF_zero.1 (by
        have : scK s = s.length := by omega
        have := s1 j (by show j < scK s; omega)
        simpa using this)) _ (Lib.hid rfl) _ (Lib.hid rfl)
set_option maxHeartbeats 8000000 in
set_option maxRecDepth 100000 in
theorem rsSu_any (v : Value) (s : List (Int × Int)) (w : World) (hv : Pts w v s) :
    Calls Try.prog 13 #[v] w fun e w' => e = .returned (.tuple #[.int .i64 (suF s), .int .i64 (suG s)]) ∧ Below w.heap.size w w' := by
  have HC := Lib.hid (rsCh_any v s w hv)
  unfold suF suG
  by_cases h : scE s = 0
  · have hR := scE_zero.1 h
    have HA := Lib.hid (fun W g => rlAl_any v s W g hR.len hR.sh)
    rw [if_pos h, if_pos h]
    rw [h] at HC
    replace hv := Lib.hid hv
    clear h hR
    generalize sm fM s = T at *
    go_enter Try.func13, Try.ntmps13
    go_wp2_with fail
    refine HC.out.mono ?_
    rintro e w1 ⟨rfl, h1⟩
    have X := Lib.hid h1; clear h1
    go_wp2_with fail
    refine (HA.out _ (hv.out.below X.out)).mono ?_
    rintro e w2 ⟨rfl, h1⟩
    replace X := Lib.hid (bel_trans X.out h1); clear h1
    go_wp2
    go_returns
    exact ⟨rfl, X.out⟩
  · rw [if_neg h, if_neg h]
    have d : (scE s != 0) = true := by simpa using h
    clear h
    generalize scE s = E at *
    go_enter Try.func13, Try.ntmps13
    go_wp2_with fail
    refine HC.out.mono ?_
    rintro e w1 ⟨rfl, h1⟩
    have X := Lib.hid h1; clear h1
    go_wp2
    go_returns
    exact ⟨rfl, X.out⟩
end Go.Proofs.Ytmoeccghkpjbgaa

/- Rows of liquids of the call's own; parts of parts. -/
namespace Go.Proofs.Ytmoeccghkpjbgaa
open Go.RowKit

theorem row_belB {W W' : World} {B n size : Nat} {e : TypeId} {v : Value} {xs : List Value} (h : W.ownsRow B e size v n xs) (hb : Below W.heap.size W W') : W'.ownsRow B e size v n xs := by
  obtain ⟨h1, h2⟩ := h
  refine ⟨h1, ?_⟩
  rcases h2 with ⟨h2, h3⟩ | ⟨g, cap, cur, h2, hg, hh, r⟩
  · exact .inl ⟨h2, h3⟩
  · refine .inr ⟨g, cap, cur, h2, hg, ?_, r⟩
    rw [hb.block _ (Array.getElem?_eq_some_iff.1 hh).1]
    exact hh
def OwnL (w : World) (B : Nat) (v : Value) (l : List (Int × Int)) : Prop := w.ownsRow B 41 2 v l.length (flat l)
theorem OwnL.pts {w : World} {B : Nat} {v : Value} {l : List (Int × Int)} (h : OwnL w B v l) : Pts w v l := by
  have h' := h
  obtain ⟨_, h2⟩ := h
  rcases h2 with ⟨rfl, hn⟩ | ⟨g, cap, cur, rfl, hg, hh, hc, hm, hs, ht⟩
  · exact ⟨none, 0, by rw [hn], by omega, .inl hn⟩
  · have hlt : g < w.heap.size := (Array.getElem?_eq_some_iff.1 hh).1
    unfold maxLen at hm
    refine ⟨_, cap, rfl, ⟨hc, by omega⟩, .inr ⟨g, 0, rfl, hlt, fun j hj => ?_⟩⟩
    have hcell := World.ownsRow.cells h' (g := g) rfl
    have hf := flat_at l j hj
    have c0 := hcell _ _ hf.1
    have c1 := hcell _ _ hf.2
    rw [Go.WideShapes.add_plain] at c0 c1
    exact ⟨c0, by rw [Nat.add_assoc]; exact c1⟩
theorem flat_set (l : List (Int × Int)) (k : Nat) (x y : Int) : ((flat l).set (k * 2) (.int .i64 x)).set (k * 2 + 1) (.int .i64 y) = flat (l.set k (x, y)) := by
  induction l generalizing k with
  | nil => simp [flat]
  | cons q l ih =>
    cases k with
    | zero => simp [flat]
    | succ k =>
      rw [show (k + 1) * 2 = k * 2 + 1 + 1 by omega]
      simp only [flat, List.set_cons_succ]
      rw [ih]
theorem OwnL.put {w : World} {B g n cap : Nat} {l : List (Int × Int)} (hn : l.length = n) (h : OwnL w B (.slice (some ⟨g, 0, none⟩) n cap) l) (k : Nat) (x y : Int) : OwnL ((w.setCell ⟨g, k * 2, none⟩ (.int .i64 x)).setCell ⟨g, k * 2 + 1, none⟩ (.int .i64 y)) B (.slice (some ⟨g, 0, none⟩) n cap) (l.set k (x, y)) := by
  subst hn
  have h0 : w.ownsRow B 41 2 (.slice (some ⟨g, 0, none⟩) l.length cap) l.length (flat l) := h
  have h1 := (World.ownsRow.stored h0 (k * 2) (.int .i64 x)).1
  have h2 := (World.ownsRow.stored h1 (k * 2 + 1) (.int .i64 y)).1
  rw [flat_set] at h2
  unfold OwnL
  rw [List.length_set]
  exact h2
theorem OwnL.cell {W : World} {B g n cap : Nat} {L : List (Int × Int)} (hn : L.length = n) (O : OwnL W B (.slice (some ⟨g, 0, none⟩) n cap) L) {k : Nat} (hk : k < n) : ∃ z0 z1 : Int, W.cell? ⟨g, k * 2, none⟩ = some (.int .i64 z0) ∧ W.cell? ⟨g, k * 2 + 1, none⟩ = some (.int .i64 z1) ∧ W.frozen? ⟨g, k * 2, none⟩ = false ∧ W.frozen? ⟨g, k * 2 + 1, none⟩ = false ∧ B ≤ g := by
  obtain ⟨b', o', e, _, hcc⟩ := O.pts.at (by omega)
  simp only [Option.some.injEq, Addr.mk.injEq, and_true] at e
  obtain ⟨rfl, rfl⟩ := e
  have := hcc k hk
  simp only [Nat.zero_add] at this
  have hr : W.ownsRow B 41 2 (.slice (some ⟨g, 0, none⟩) n cap) L.length (flat L) := O
  rw [hn] at hr
  exact ⟨_, _, this.1, this.2, World.ownsRow.frozenAt hr _, World.ownsRow.frozenAt hr _, (World.ownsRow.lt hr g rfl).1⟩
theorem lq_info : (Try.prog.info? 41).map (fun i => (i.zero, i.size, i.bytes)) = some (some (.agg #[.int .i64 0, .int .i64 0]), 2, 16) := by kernel_rfl
theorem madeLq (n : Nat) : (madeCells (Value.agg #[.int .i64 0, .int .i64 0]).cells (n * 2)).toList = flat (List.replicate n ((0, 0) : Int × Int)) := by
  apply List.ext_getElem?
  intro i
  by_cases hi : i < n * 2
  · have h1 : ∃ j, j < n ∧ (i = j * 2 ∨ i = j * 2 + 1) := ⟨i / 2, by omega, by omega⟩
    obtain ⟨j, hj, e⟩ := h1
    have f := flat_at (List.replicate n ((0, 0) : Int × Int)) j (by simpa using hj)
    have g0 : gX (List.replicate n ((0, 0) : Int × Int)) j = 0 ∧ gR (List.replicate n ((0, 0) : Int × Int)) j = 0 := by
      simp [gX, gR, List.getD_eq_getElem?_getD, List.getElem?_replicate, hj]
    rw [g0.1, g0.2] at f
    rcases e with rfl | rfl
    · rw [f.1]
      simp [madeCells, Value.cells, hi]
    · rw [f.2]
      simp [madeCells, Value.cells, hi, show (j * 2 + 1) % 2 = 1 by omega]
  · rw [List.getElem?_eq_none (by simp [madeCells, Value.cells]; omega), List.getElem?_eq_none (by rw [flat_len]; simp; omega)]
/-- a row of liquids while it is filled -/
def filL (l : List (Int × Int)) (k : Nat) : List (Int × Int) := l.take k ++ List.replicate (l.length - k) (0, 0)
theorem filL_len (l : List (Int × Int)) (k : Nat) (h : k ≤ l.length) : (filL l k).length = l.length := by unfold filL; simp; omega
theorem filL_zero (l : List (Int × Int)) : filL l 0 = List.replicate l.length (0, 0) := by simp [filL]
theorem filL_all (l : List (Int × Int)) : filL l l.length = l := by simp [filL]
theorem filL_set (l : List (Int × Int)) (k : Nat) (h : k < l.length) : (filL l k).set k (gX l k, gR l k) = filL l (k + 1) := by
  unfold filL
  have e : (gX l k, gR l k) = l[k] := by simp [gX, gR, List.getD_eq_getElem?_getD, List.getElem?_eq_getElem h]
  rw [e, List.set_append_right _ _ (by simp; omega), List.take_succ_eq_append_getElem h, List.append_assoc]
  obtain ⟨d, hd⟩ : ∃ d, l.length = k + 1 + d := ⟨l.length - (k + 1), by omega⟩
  rw [show l.length - k = d + 1 by omega, show l.length - (k + 1) = d by omega, List.replicate_succ, show k - (l.take k).length = 0 by simp; omega]
  simp
theorem le_sum {l : List Int} (h : ∀ x ∈ l, 0 ≤ x) : ∀ x ∈ l, x ≤ l.sum := by
  induction l with
  | nil => intro x hx; cases hx
  | cons y l ih =>
    intro x hx
    have s := sum_nonneg l fun z hz => h z (List.mem_cons_of_mem _ hz)
    have y0 := h y List.mem_cons_self
    rw [List.sum_cons]
    rcases List.mem_cons.1 hx with rfl | hx
    · omega
    · have := ih (fun z hz => h z (List.mem_cons_of_mem _ hz)) x hx; omega
theorem divP_nn {a : Int} {ws : List Int} (h : divE a ws = 0) : ∀ x ∈ divP a ws, 0 ≤ x ∧ x ≤ a := by
  obtain ⟨ha, ht⟩ := divE_zero h
  obtain ⟨a0, a1⟩ := (isAm_iff a).1 ha
  have nn : ∀ x ∈ divP a ws, 0 ≤ x := by
    intro x hx
    obtain ⟨i, hi, rfl⟩ := List.getElem_of_mem hx
    have := give_bd (divL a ws) (divQ a ws) (divR a ws) a (fun j => by
      by_cases hj : j < (divQ a ws).length
      · have hm : (divQ a ws).getD j 0 ∈ divQ a ws := by simp [List.getD_eq_getElem?_getD, List.getElem?_eq_getElem hj]
        unfold divQ at hm
        obtain ⟨y, hy, e⟩ := List.mem_map.1 hm
        have := of_weight a y ws ha ht hy
        rw [show (divQ a ws).getD j 0 = a * y / ws.sum from by unfold divQ; exact e.symm]
        exact ⟨this.2.2.2.1, this.2.2.2.2.1⟩
      · rw [List.getD_eq_getElem?_getD, List.getElem?_eq_none (by omega)]; simp; exact a0) i
    unfold divP at hi ⊢
    simp only [if_pos h] at hi ⊢
    have e : ((give (divL a ws) (divQ a ws, divR a ws)).1)[i] = (give (divL a ws) (divQ a ws, divR a ws)).1.getD i 0 := by simp [List.getD_eq_getElem?_getD, List.getElem?_eq_getElem hi]
    rw [e]; exact this.1
  intro x hx
  have s := divP_sum a ws h
  have := le_sum nn x hx
  exact ⟨nn x hx, by omega⟩
/-- the parts of a mass that is not 0 are right weights -/
theorem div_again {A M : Int} {ws : List Int} (hP : plB A M = true) (hM : M ≠ 0) (h : divE M ws = 0) : divE A (divP M ws) = 0 := by
  obtain ⟨a0, a1, m0, m1, z⟩ := plB_iff.1 hP
  obtain ⟨ha, ht⟩ := divE_zero h
  obtain ⟨t1, t2, t3, t4, t5⟩ := totE_zero ht
  have hl := divP_len _ _ h
  have hs := divP_sum M ws h
  have nn := divP_nn h
  unfold divE totE
  rw [(isAm_iff A).2 ⟨a0, by omega⟩, if_pos rfl, if_neg (by omega), if_neg (by omega), hs, show (divP M ws).all isAm = true from List.all_eq_true.2 fun x hx => (isAm_iff x).2 ⟨(nn x hx).1, by have := (nn x hx).2; omega⟩, (isAm_iff M).2 ⟨m0, m1⟩]
  simp [hM]
theorem zip_at (a b : List Int) (k : Nat) (ha : k < a.length) (hb : k < b.length) : gX (a.zip b) k = a.getD k 0 ∧ gR (a.zip b) k = b.getD k 0 := by
  have hz : k < (a.zip b).length := by rw [List.length_zip]; omega
  simp [gX, gR, List.getD_eq_getElem?_getD, List.getElem?_eq_getElem hz, List.getElem?_eq_getElem ha, List.getElem?_eq_getElem hb, List.getElem_zip]
end Go.Proofs.Ytmoeccghkpjbgaa

/- The reference of layer 1: its Of, by bits. -/
namespace Go.Proofs.Ytmoeccghkpjbgaa
open Go.RowKit

theorem less_lit (p q : Int) (w : World) (r : Bool) (h : decide (p < q) = r) :
    Calls Try.prog 97 #[.agg #[.int .u64 (hi62 p), .int .u64 (lo62 p)], .agg #[.int .u64 (hi62 q), .int .u64 (lo62 q)]] w fun e w' => e = .returned (.bool r) ∧ Below w.heap.size w w' := by
  rw [← h, ← lessB_eq]; exact less_any _ _ _ _ w
theorem less_small (p c : Int) (w : World) (r : Bool) (c0 : 0 ≤ c) (c1 : c ≤ 4611686018427387903) (h : decide (p < c) = r) :
    Calls Try.prog 97 #[.agg #[.int .u64 (hi62 p), .int .u64 (lo62 p)], .agg #[.int .u64 0, .int .u64 c]] w fun e w' => e = .returned (.bool r) ∧ Below w.heap.size w w' := by
  have e0 : (0 : Int) = hi62 c := by unfold hi62; omega
  have e1 : c = lo62 c := by unfold lo62; omega
  rw [e0]
  conv in (Value.int .u64 c) => rw [e1]
  exact less_lit p c w r h

/-- the guess by bits: what its round has to be told -/
structure Bit (Q q bit : Int) (k : Nat) : Prop where
  le : q ≤ Q
  lt : Q < q + 2 ^ k
  bit : bit = 2 ^ k / 2
theorem Bit.start (Q : Int) (h0 : 0 ≤ Q) (h1 : Q < 4611686018427387904) : Bit Q 0 2305843009213693952 62 := ⟨h0, by omega, by omega⟩
theorem Bit.stop {Q q bit : Int} {k : Nat} (h : Bit Q q bit k) (hb : bit ≤ 0) : q = Q := by
  have := h.le; have := h.lt; have := h.bit
  cases k with
  | zero => simp at *; omega
  | succ k => have : (0 : Int) < 2 ^ k := Int.pow_pos (by omega); rw [Int.pow_succ] at *; omega
theorem Bit.up {Q q bit : Int} {k : Nat} (h : Bit Q q bit (k + 1)) (hb : q + bit ≤ Q) : Bit Q (q + bit) (bit / 2) k := by
  have := h.le; have h2 := h.lt; have h3 := h.bit
  rw [Int.pow_succ] at h2 h3
  exact ⟨hb, by omega, by omega⟩
theorem Bit.keep {Q q bit : Int} {k : Nat} (h : Bit Q q bit (k + 1)) (hb : Q < q + bit) : Bit Q q (bit / 2) k := by
  have := h.le; have h2 := h.lt; have h3 := h.bit
  rw [Int.pow_succ] at h2 h3
  exact ⟨by omega, by omega, by omega⟩
theorem Bit.pos {Q q bit : Int} {k : Nat} (h : Bit Q q bit k) (hb : 0 < bit) : ∃ j, k = j + 1 := by
  cases k with
  | zero => have := h.bit; simp at this; omega
  | succ k => exact ⟨k, rfl⟩

theorem field_low (h l : Int) (w : World) : (Instr.field 126 (.agg #[.int .u64 h, .int .u64 l]) 1).run Try.prog w = .ok (.int .u64 l) w := by kernel_rfl

/-- an operation that is not wanted, and whose slot is empty, is passed over -/
theorem wpAnyH_skip {P : Program} {ops : Array Oper} {Q : Exit → Act → World → Prop} {md : Region.Mode} {S : World → Prop} (i : Nat) {oi : Oper} {fuel : Nat} {listed : Array Bool} {a : Act} {w : World} (hi : ops[i]? = some oi)
    (hs : Region.noSelect ops = true) (hf : Region.free md ops listed i = true) (hr : (Region.ready md ops listed).contains i = true)
    (hQ : ∀ c a w, Q (.panic c) (a.put oi.dst undef) w → Q (.panic c) a w) (hw : Region.wanted oi (yielded ops a.tmps) = false) (hp : a.put oi.dst undef = a) (hS : S w)
    (h : wpAnyH P md ops Q S fuel (listed.setIfInBounds i true) a w) : wpAnyH P md ops Q S (fuel + 1) listed a w :=
  wpAnyH_take hi hs hf hr hQ (Or.inr ⟨hw, rfl⟩) hS (by rw [hp]; exact h)

/-- a call in a chain of worlds over 'w', beside a block B whose cells are read later -/
theorem chain {P : Program} {f : FuncId} {args : Array Value} {W w : World} {v : Value} (B : Nat) (h : Hid (Below w.heap.size w W)) (hB : B < W.heap.size)
    (c : Calls P f args W fun e w' => e = .returned v ∧ Below W.heap.size W w') :
    Calls P f args W fun e w' => e = .returned v ∧ Hid (Below w.heap.size w w') ∧ W.heap.size ≤ w'.heap.size ∧ ∀ o, w'.cell? ⟨B, o, none⟩ = W.cell? ⟨B, o, none⟩ :=
  c.mono fun _ _ g => ⟨g.1, bel_trans h.out g.2, g.2.size, fun o => (bcell g.2).1 B o hB⟩

set_option maxHeartbeats 1000000 in
theorem refOf_big (a b c : Int) (w : World) (h : (isAm a && isAm b && isAm c) = true) (hc : 1 ≤ c) (hq : 128849018880000 < a * b / c) :
    Calls Try.prog 89 #[.int .i64 a, .int .i64 b, .int .i64 c, .int .i64 128849018880000] w fun e w' => e = .returned (.tuple #[.int .i64 0, .int .i64 0, .bool false]) ∧ Below w.heap.size w w' := by
  have h' := h
  simp only [Bool.and_eq_true, isAm_iff] at h'
  obtain ⟨⟨⟨a0, a1⟩, b0, b1⟩, c0, c1⟩ := h'
  clear h
  have k0 : 128849018880001 * c ≤ a * b := by
    have : (128849018880000 + 1) * c ≤ a * b / c * c := Int.mul_le_mul_of_nonneg_right (by omega) c0
    have := Int.ediv_mul_le (a * b) (show c ≠ 0 by omega)
    omega
  have k4 : a * b ≤ 128849018880000 * 128849018880000 := Int.mul_le_mul a1 b1 b0 (by omega)
  have K1 := Lib.hid (show decide (128849018880000 * c < a * b) = true by simp; omega)
  have K2 := Lib.hid (show decide (a * b - 128849018880000 * c < c) = false by simp; omega)
  clear hq
  go_enter Try.func89, Try.ntmps89
  go_wp2_with fail
  refine (product_any a b _ a0 (by omega) b0 (by omega)).mono ?_
  rintro e w1 ⟨rfl, hb1⟩
  go_wp2_with fail
  have HC : Hid (Below w.heap.size w (w1.alloc (.cells #[.int .u64 (hi62 (a * b)), .int .u64 (lo62 (a * b))] 126)).drew) := (bel_trans hb1 (bel_alloc (Below.refl _ _))).drew
  clear hb1
  have hwc : IntKind.u64.wrap c = c := IntWalk.u64_in _ ⟨by omega, by omega⟩
  go_region_held3 (fun w' => w'.cell? ⟨w1.heap.size, 0, none⟩ = some (.int .u64 (hi62 (a * b))) ∧ w'.cell? ⟨w1.heap.size, 1, none⟩ = some (.int .u64 (lo62 (a * b)))) (go_keep)
    (first
      | (go_at_call 96; refine (chain w1.heap.size HC (by first | omega | (simp; done) | (simp; omega)) (product_any _ _ _ (by omega) (by omega) (by omega) (by omega))).mono ?_; rintro e w2 ⟨rfl, HC, hz2, hs2⟩; (try simp at hz2))
      | (go_at_call 97; (with_reducible refine (chain w1.heap.size HC (by first | omega | (simp; done) | (simp; omega)) (less_lit _ _ _ true K1.out)).mono ?_); rintro e w2 ⟨rfl, HC, hz2, hs2⟩; (try simp at hz2))
      | (go_at_call 97; (with_reducible refine (chain w1.heap.size HC (by first | omega | (simp; done) | (simp; omega)) (less_small _ _ _ false c0 (by omega) K2.out)).mono ?_); rintro e w2 ⟨rfl, HC, hz2, hs2⟩; (try simp at hz2))
      | (go_at_call 98; refine (chain w1.heap.size HC (by first | omega | (simp; done) | (simp; omega)) (minus_any _ _ _ (by omega) (by omega) (by omega))).mono ?_; rintro e w2 ⟨rfl, HC, hz2, hs2⟩; (try simp at hz2)))
  go_wp2
  go_returns
  exact ⟨rfl, HC.out⟩

set_option linter.unusedSimpArgs false in
set_option maxHeartbeats 2000000 in
theorem refOf_ok (a b c Q R : Int) (w : World) (h : (isAm a && isAm b && isAm c) = true) (hc : 1 ≤ c) (hQ : Hid (a * b / c = Q)) (hR : Hid (a * b % c = R)) (hq : Q ≤ 128849018880000) :
    Calls Try.prog 89 #[.int .i64 a, .int .i64 b, .int .i64 c, .int .i64 128849018880000] w fun e w' => e = .returned (.tuple #[.int .i64 Q, .int .i64 R, .bool true]) ∧ Below w.heap.size w w' := by
  have h' := h
  simp only [Bool.and_eq_true, isAm_iff] at h'
  obtain ⟨⟨⟨a0, a1⟩, b0, b1⟩, c0, c1⟩ := h'
  clear h
  have k4 : a * b ≤ 128849018880000 * 128849018880000 := Int.mul_le_mul a1 b1 b0 (by omega)
  have k5 : 0 ≤ a * b := Int.mul_nonneg a0 b0
  have k6 : Q * c ≤ a * b := by rw [← hQ.out]; exact Int.ediv_mul_le (a * b) (show c ≠ 0 by omega)
  have q0 : 0 ≤ Q := by rw [← hQ.out]; exact Int.ediv_nonneg k5 c0
  have k7 : 0 ≤ Q * c := Int.mul_nonneg q0 c0
  have r0 : 0 ≤ R := by rw [← hR.out]; exact Int.emod_nonneg _ (by omega)
  have r1 : R < c := by rw [← hR.out]; exact Int.emod_lt_of_pos _ (by omega)
  have k8 : a * b - Q * c = R := by
    have := Int.emod_add_mul_ediv (a * b) c; rw [hQ.out, hR.out, Int.mul_comm c Q] at this; omega
  have K8 := Lib.hid k8; clear k8
  go_enter Try.func89, Try.ntmps89
  go_wp2_with fail
  refine (product_any a b _ a0 (by omega) b0 (by omega)).mono ?_
  rintro e w1 ⟨rfl, hb1⟩
  go_upto_region 2 with fail
  have HC : Hid (Below w.heap.size w (w1.alloc (.cells #[.int .u64 (hi62 (a * b)), .int .u64 (lo62 (a * b))] 126)).drew) := (bel_trans hb1 (bel_alloc (Below.refl _ _))).drew
  clear hb1
  go_cut [33] (fun s33 wx => s33 = .bool false ∧ Hid (Below w.heap.size w wx) ∧ w1.heap.size < wx.heap.size ∧ wx.cell? ⟨w1.heap.size, 0, none⟩ = some (.int .u64 (hi62 (a * b))) ∧ wx.cell? ⟨w1.heap.size, 1, none⟩ = some (.int .u64 (lo62 (a * b))))
  case first =>
    have hwc : IntKind.u64.wrap c = c := IntWalk.u64_in _ ⟨by omega, by omega⟩
    by_cases t1 : 128849018880000 * c < a * b
    · have K1 := Lib.hid (show decide (128849018880000 * c < a * b) = true by simp; omega)
      have k9 : Q * c ≤ 128849018880000 * c := Int.mul_le_mul_of_nonneg_right hq c0
      have K2 := Lib.hid (show decide (a * b - 128849018880000 * c < c) = true by have := K8.out; simp; omega)
      go_region_held3 (fun w' => w'.cell? ⟨w1.heap.size, 0, none⟩ = some (.int .u64 (hi62 (a * b))) ∧ w'.cell? ⟨w1.heap.size, 1, none⟩ = some (.int .u64 (lo62 (a * b)))) (go_keep)
        (first
          | (go_at_call 96; refine (chain w1.heap.size HC (by first | omega | (simp; done) | (simp; omega)) (product_any _ _ _ (by omega) (by omega) (by omega) (by omega))).mono ?_; rintro e w2 ⟨rfl, HC, hz2, hs2⟩; (try simp at hz2))
          | (go_at_call 97; (with_reducible refine (chain w1.heap.size HC (by first | omega | (simp; done) | (simp; omega)) (less_lit _ _ _ true K1.out)).mono ?_); rintro e w2 ⟨rfl, HC, hz2, hs2⟩; (try simp at hz2))
          | (go_at_call 97; (with_reducible refine (chain w1.heap.size HC (by first | omega | (simp; done) | (simp; omega)) (less_small _ _ _ true c0 (by omega) K2.out)).mono ?_); rintro e w2 ⟨rfl, HC, hz2, hs2⟩; (try simp at hz2))
          | (go_at_call 98; refine (chain w1.heap.size HC (by first | omega | (simp; done) | (simp; omega)) (minus_any _ _ _ (by omega) (by omega) (by omega))).mono ?_; rintro e w2 ⟨rfl, HC, hz2, hs2⟩; (try simp at hz2)))
      go_wp2
      go_meet
      case rel => exact ⟨rfl, HC, by simp at *; omega, by simp [*], by simp [*]⟩
    · have K1 := Lib.hid (show decide (128849018880000 * c < a * b) = false by simp; omega)
      refine wp_region_held_drew (S := (fun w' => w'.cell? ⟨w1.heap.size, 0, none⟩ = some (.int .u64 (hi62 (a * b))) ∧ w'.cell? ⟨w1.heap.size, 1, none⟩ = some (.int .u64 (lo62 (a * b))))) (by kernel_rfl) (by go_keep) (fun hHeld => ?_)
      refine wpAnyH_take (i := 0) (v := ?_) rfl (by kernel_rfl) (by kernel_rfl) (by kernel_rfl) (fun _ _ _ h => h) (Or.inl ⟨by rfl, ?_⟩) (by assumption) ?_
      rotate_left
      · intro w hSw; (try dsimp only at hSw); go_simp; try (with_reducible rfl)
      try simp only [Act.put, List.setIfInBounds_toArray, List.set_cons_zero, List.set_cons_succ]
      refine wpAnyH_take (i := 1) (v := ?_) rfl (by kernel_rfl) (by kernel_rfl) (by kernel_rfl) (fun _ _ _ h => h) (Or.inl ⟨by rfl, ?_⟩) (by assumption) ?_
      rotate_left
      · intro w hSw; (try dsimp only at hSw); go_simp; try (with_reducible rfl)
      try simp only [Act.put, List.setIfInBounds_toArray, List.set_cons_zero, List.set_cons_succ]
      refine wpAnyH_take (i := 3) (v := ?_) rfl (by kernel_rfl) (by kernel_rfl) (by kernel_rfl) (fun _ _ _ h => h) (Or.inl ⟨by rfl, ?_⟩) (by assumption) ?_
      rotate_left
      · intro w hSw; (try dsimp only at hSw); go_simp; try (with_reducible rfl)
      try simp only [Act.put, List.setIfInBounds_toArray, List.set_cons_zero, List.set_cons_succ]
      refine wpAnyH_ready (rs := [2]) (by kernel_rfl) (by simp) ?_
      refine AllReadyH.cons rfl (fun K hK => ?_) AllReadyH.nil
      go_simp
      refine (chain w1.heap.size HC (by first | omega | (simp; done) | (simp; omega)) (product_any _ _ _ (by omega) (by omega) (by omega) (by omega))).mono ?_; rintro e w2 ⟨rfl, HC, hz2, hs2⟩; (try simp at hz2)
      refine hK.out _ _ (by first | go_keep | (simp [*])) (fun hHeld => ?_)
      clear hK K
      try simp only [Act.put, List.setIfInBounds_toArray, List.set_cons_zero, List.set_cons_succ]
      refine wpAnyH_ready (rs := [4]) (by kernel_rfl) (by simp) ?_
      refine AllReadyH.cons rfl (fun K hK => ?_) AllReadyH.nil
      go_simp
      refine (chain w1.heap.size HC (by first | omega | (simp; done) | (simp; omega)) (less_lit _ _ _ false K1.out)).mono ?_; rintro e w2 ⟨rfl, HC, hz2, hs2⟩; (try simp at hz2)
      refine hK.out _ _ (by first | go_keep | (simp [*])) (fun hHeld => ?_)
      clear hK K
      try simp only [Act.put, List.setIfInBounds_toArray, List.set_cons_zero, List.set_cons_succ]
      refine wpAnyH_take (i := 5) (v := ?_) rfl (by kernel_rfl) (by kernel_rfl) (by kernel_rfl) (fun _ _ _ h => h) (Or.inl ⟨by rfl, ?_⟩) (by assumption) ?_
      rotate_left
      · intro w hSw; (try dsimp only at hSw); go_simp; try (with_reducible rfl)
      try simp only [Act.put, List.setIfInBounds_toArray, List.set_cons_zero, List.set_cons_succ]
      refine wpAnyH_skip 6 rfl (by kernel_rfl) (by kernel_rfl) (by kernel_rfl) (fun _ _ _ h => h) (by rfl) rfl (by assumption) ?_
      try simp only [Act.put, List.setIfInBounds_toArray, List.set_cons_zero, List.set_cons_succ]
      refine wpAnyH_skip 7 rfl (by kernel_rfl) (by kernel_rfl) (by kernel_rfl) (fun _ _ _ h => h) (by rfl) rfl (by assumption) ?_
      try simp only [Act.put, List.setIfInBounds_toArray, List.set_cons_zero, List.set_cons_succ]
      refine wpAnyH_skip 8 rfl (by kernel_rfl) (by kernel_rfl) (by kernel_rfl) (fun _ _ _ h => h) (by rfl) rfl (by assumption) ?_
      try simp only [Act.put, List.setIfInBounds_toArray, List.set_cons_zero, List.set_cons_succ]
      refine wpAnyH_skip 9 rfl (by kernel_rfl) (by kernel_rfl) (by kernel_rfl) (fun _ _ _ h => h) (by rfl) rfl (by assumption) ?_
      try simp only [Act.put, List.setIfInBounds_toArray, List.set_cons_zero, List.set_cons_succ]
      refine wpAnyH_skip 10 rfl (by kernel_rfl) (by kernel_rfl) (by kernel_rfl) (fun _ _ _ h => h) (by rfl) rfl (by assumption) ?_
      try simp only [Act.put, List.setIfInBounds_toArray, List.set_cons_zero, List.set_cons_succ]
      refine wpAnyH_skip 11 rfl (by kernel_rfl) (by kernel_rfl) (by kernel_rfl) (fun _ _ _ h => h) (by rfl) rfl (by assumption) ?_
      try simp only [Act.put, List.setIfInBounds_toArray, List.set_cons_zero, List.set_cons_succ]
      refine wpAnyH_skip 12 rfl (by kernel_rfl) (by kernel_rfl) (by kernel_rfl) (fun _ _ _ h => h) (by rfl) rfl (by assumption) ?_
      try simp only [Act.put, List.setIfInBounds_toArray, List.set_cons_zero, List.set_cons_succ]
      refine wpAnyH_skip 13 rfl (by kernel_rfl) (by kernel_rfl) (by kernel_rfl) (fun _ _ _ h => h) (by rfl) rfl (by assumption) ?_
      try simp only [Act.put, List.setIfInBounds_toArray, List.set_cons_zero, List.set_cons_succ]
      refine wpAnyH_skip 14 rfl (by kernel_rfl) (by kernel_rfl) (by kernel_rfl) (fun _ _ _ h => h) (by rfl) rfl (by assumption) ?_
      try simp only [Act.put, List.setIfInBounds_toArray, List.set_cons_zero, List.set_cons_succ]
      refine wpAnyH_skip 15 rfl (by kernel_rfl) (by kernel_rfl) (by kernel_rfl) (fun _ _ _ h => h) (by rfl) rfl (by assumption) ?_
      try simp only [Act.put, List.setIfInBounds_toArray, List.set_cons_zero, List.set_cons_succ]
      refine wpAnyH_take (i := 16) (v := ?_) rfl (by kernel_rfl) (by kernel_rfl) (by kernel_rfl) (fun _ _ _ h => h) (Or.inl ⟨by rfl, ?_⟩) (by assumption) ?_
      rotate_left
      · intro w hSw; (try dsimp only at hSw); go_simp; try (with_reducible rfl)
      try simp only [Act.put, List.setIfInBounds_toArray, List.set_cons_zero, List.set_cons_succ]
      refine wpAnyH_done (by kernel_rfl) ?_ _
      go_wp2
      go_meet
      case rel => exact ⟨rfl, HC, by simp at *; omega, by simp [*], by simp [*]⟩
  case rest =>
  obtain ⟨rfl, HC, hz, s0, s1⟩ := hcut
  go_wp2_with fail
  go_loopw [12, 13] (fun q bit wr => ∃ q1 b1 : Int, ∃ k : Nat, q = .int .i64 q1 ∧ bit = .int .i64 b1 ∧ Hid (Bit Q q1 b1 k) ∧ 0 ≤ q1 ∧ q1 ≤ 128849018880000 ∧ 0 ≤ b1 ∧ b1 ≤ 2305843009213693952 ∧ Hid (Below w.heap.size w wr) ∧ w1.heap.size < wr.heap.size ∧ wr.cell? ⟨w1.heap.size, 0, none⟩ = some (.int .u64 (hi62 (a * b))) ∧ wr.cell? ⟨w1.heap.size, 1, none⟩ = some (.int .u64 (lo62 (a * b)))) (fun _ bit _ => (intOf bit).toNat)
  case atStart => exact ⟨0, 2305843009213693952, 62, rfl, rfl, Bit.start Q q0 (by omega), by omega, by omega, by omega, by omega, HC, hz, s0, s1⟩
  case round =>
    clear s0 s1 hz HC
    obtain ⟨q1, b1, k, rfl, rfl, HK, g0, g1, g2, g3, HC0, hz, s0, s1⟩ := hrel
    by_cases hb : 0 < b1
    · obtain ⟨j, rfl⟩ := HK.out.pos hb
      by_cases t1 : q1 + b1 ≤ 128849018880000
      · have p0 : 0 ≤ (q1 + b1) * c := Int.mul_nonneg (by omega) c0
        by_cases t2 : a * b < (q1 + b1) * c
        · have K1 := Lib.hid (show decide (a * b < (q1 + b1) * c) = true by simp; omega)
          have HN := Lib.hid (HK.out.keep (Int.not_le.1 fun hge => by have := Int.mul_le_mul_of_nonneg_right hge c0; omega))
          go_wp2_with fail
          have HC : Hid (Below w.heap.size w wr.drew) := HC0.out.drew
          have hs1 : IntKind.i64.wrap (q1 + b1) = q1 + b1 := IntWalk.i64_in _ ⟨by omega, by omega⟩
          have hs2 : decide (q1 + b1 ≤ 128849018880000) = true := by simp; omega
          go_region_held3 (fun w' => w'.cell? ⟨w1.heap.size, 0, none⟩ = some (.int .u64 (hi62 (a * b))) ∧ w'.cell? ⟨w1.heap.size, 1, none⟩ = some (.int .u64 (lo62 (a * b)))) (go_keep)
            (first
              | (go_at_call 96; refine (chain w1.heap.size HC (by first | omega | (simp; done) | (simp; omega)) (product_any _ _ _ (by omega) (by omega) (by omega) (by omega))).mono ?_; rintro e w2 ⟨rfl, HC, hz2, hs2⟩; (try simp at hz2))
              | (go_at_call 97; (with_reducible refine (chain w1.heap.size HC (by first | omega | (simp; done) | (simp; omega)) (less_lit _ _ _ true K1.out)).mono ?_); rintro e w2 ⟨rfl, HC, hz2, hs2⟩; (try simp at hz2)))
          go_wp2
          go_roundw
          case rel => exact ⟨q1, b1 / 2, j, rfl, rfl, HN.out, by omega, by omega, by omega, by omega, HC, by simp at *; omega, by simp [*], by simp [*]⟩
          case measure => simp [intOf]; omega

        · have K1 := Lib.hid (show decide (a * b < (q1 + b1) * c) = false by simp; omega)
          have HN := Lib.hid (HK.out.up (by rw [← hQ.out]; exact Int.le_ediv_of_mul_le (by omega) (by omega)))
          go_wp2_with fail
          have HC : Hid (Below w.heap.size w wr.drew) := HC0.out.drew
          have hs1 : IntKind.i64.wrap (q1 + b1) = q1 + b1 := IntWalk.i64_in _ ⟨by omega, by omega⟩
          have hs2 : decide (q1 + b1 ≤ 128849018880000) = true := by simp; omega
          go_region_held3 (fun w' => w'.cell? ⟨w1.heap.size, 0, none⟩ = some (.int .u64 (hi62 (a * b))) ∧ w'.cell? ⟨w1.heap.size, 1, none⟩ = some (.int .u64 (lo62 (a * b)))) (go_keep)
            (first
              | (go_at_call 96; refine (chain w1.heap.size HC (by first | omega | (simp; done) | (simp; omega)) (product_any _ _ _ (by omega) (by omega) (by omega) (by omega))).mono ?_; rintro e w2 ⟨rfl, HC, hz2, hs2⟩; (try simp at hz2))
              | (go_at_call 97; (with_reducible refine (chain w1.heap.size HC (by first | omega | (simp; done) | (simp; omega)) (less_lit _ _ _ false K1.out)).mono ?_); rintro e w2 ⟨rfl, HC, hz2, hs2⟩; (try simp at hz2)))
          go_wp2
          go_roundw
          case rel => exact ⟨q1 + b1, b1 / 2, j, rfl, rfl, HN.out, by omega, by omega, by omega, by omega, HC, by simp at *; omega, by simp [*], by simp [*]⟩
          case measure => simp [intOf]; omega

      · have HN := Lib.hid (HK.out.keep (by omega))
        have ht : decide (q1 + b1 ≤ 128849018880000) = false := by simp; omega
        have hs1 : IntKind.i64.wrap (q1 + b1) = q1 + b1 := IntWalk.i64_in _ ⟨by omega, by omega⟩
        go_wp2_with fail
        go_quiet (fail)
        go_wp2
        go_roundw
        case rel => exact ⟨q1, b1 / 2, j, rfl, rfl, HN.out, by omega, by omega, by omega, by omega, bel_trans HC0.out (bel_drewN _ _), by simp at *; omega, by simp [*], by simp [*]⟩
        case measure => simp [intOf]; omega
    · have HE := Lib.hid (HK.out.stop (by omega))
      obtain rfl : q1 = Q := HE.out
      go_wp2_with fail
      have HC : Hid (Below w.heap.size w wr.drew) := HC0.out.drew
      have hm : lo62 (a * b - q1 * c) = R := by rw [K8.out]; unfold lo62; omega
      have hf1 := field_low
      have hwr : IntKind.i64.wrap R = R := IntWalk.i64_in _ ⟨by omega, by omega⟩
      go_region_held3 (fun w' => w'.cell? ⟨w1.heap.size, 0, none⟩ = some (.int .u64 (hi62 (a * b))) ∧ w'.cell? ⟨w1.heap.size, 1, none⟩ = some (.int .u64 (lo62 (a * b)))) (go_keep)
        (first
          | (go_at_call 96; refine (chain w1.heap.size HC (by first | omega | (simp; done) | (simp; omega)) (product_any _ _ _ (by omega) (by omega) (by omega) (by omega))).mono ?_; rintro e w2 ⟨rfl, HC, hz2, hs2⟩; (try simp at hz2))
          | (go_at_call 98; refine (chain w1.heap.size HC (by first | omega | (simp; done) | (simp; omega)) (minus_any _ _ _ (by omega) (by omega) (by omega))).mono ?_; rintro e w2 ⟨rfl, HC, hz2, hs2⟩; (try simp at hz2)))
      go_wp2
      go_returns
      exact ⟨rfl, HC.out⟩

end Go.Proofs.Ytmoeccghkpjbgaa

/- The reference of layer 1: Proportion, weigh. -/
namespace Go.Proofs.Ytmoeccghkpjbgaa
open Go.RowKit

set_option maxHeartbeats 4000000 in
theorem rPr_any (a b c Q R : Int) (w : World) (h : (isAm a && isAm b && isAm c) = true) (hc : 1 ≤ c) (hQ : Hid (a * b / c = Q)) (hR : Hid (a * b % c = R)) (hq : Q ≤ 128849018880000) :
    Calls Try.prog 72 #[.int .i64 a, .int .i64 b, .int .i64 c] w fun e w' => e = .returned (.tuple #[.int .i64 Q, .int .i64 R]) ∧ Below w.heap.size w w' := by
  have HO := Lib.hid (fun W => refOf_ok a b c Q R W h hc hQ hR hq)
  clear h hQ hR
  go_enter Try.func72, Try.ntmps72
  go_wp2_with fail
  refine (HO.out _).mono ?_
  rintro e w1 ⟨rfl, h1⟩
  have X := Lib.hid h1; clear h1
  go_wp2
  go_returns
  exact ⟨rfl, X.out⟩
set_option maxHeartbeats 8000000 in
set_option maxRecDepth 100000 in
theorem rWe_neg (a : Int) (ad : Option Addr) (n cap : Nat) (w : World) (ha : isAm a = false) :
    Calls Try.prog 71 #[.int .i64 a, .slice ad n cap] w fun e w' => e = .returned (.tuple #[.int .i64 0, .int .i64 2]) ∧ Below w.heap.size w w' := by
  have HI := Lib.hid (fun n W => is_any n W)
  have H1 := Lib.hid (fun W => is_any a W)
  rw [ha] at H1
  clear ha
  go_enter Try.func71, Try.ntmps71
  go_wp2_with fail
  refine (H1.out _).mono ?_
  rintro e w1 ⟨rfl, hw⟩
  subst hw
  go_wp2
  go_returns
  exact ⟨rfl, Below.refl _ _⟩
set_option maxHeartbeats 8000000 in
set_option maxRecDepth 100000 in
theorem rWe_nil (a : Int) (ad : Option Addr) (cap : Nat) (w : World) (ha : isAm a = true) :
    Calls Try.prog 71 #[.int .i64 a, .slice ad 0 cap] w fun e w' => e = .returned (.tuple #[.int .i64 0, .int .i64 9]) ∧ Below w.heap.size w w' := by
  have HI := Lib.hid (fun n W => is_any n W)
  have H1 := Lib.hid (fun W => is_any a W)
  rw [ha] at H1
  clear ha
  go_enter Try.func71, Try.ntmps71
  go_wp2_with fail
  refine (H1.out _).mono ?_
  rintro e w1 ⟨rfl, hw⟩
  subst hw
  go_wp2
  go_returns
  exact ⟨rfl, Below.refl _ _⟩
set_option maxHeartbeats 8000000 in
set_option maxRecDepth 100000 in
theorem rWe_long (a : Int) (ad : Option Addr) (n cap : Nat) (w : World) (ha : isAm a = true) (h1 : 64 < n) (h2 : n ≤ 9223372036854775807) :
    Calls Try.prog 71 #[.int .i64 a, .slice ad n cap] w fun e w' => e = .returned (.tuple #[.int .i64 0, .int .i64 8]) ∧ Below w.heap.size w w' := by
  have q0 : ((n : Int) == 0) = false := by rw [beq_eq_false_iff_ne]; omega
  have q1 : decide (64 < (n : Int)) = true := decide_eq_true (by omega)
  have HI := Lib.hid (fun n W => is_any n W)
  have H1 := Lib.hid (fun W => is_any a W)
  rw [ha] at H1
  clear ha
  go_enter Try.func71, Try.ntmps71
  go_wp2_with fail
  refine (H1.out _).mono ?_
  rintro e w1 ⟨rfl, hw⟩
  subst hw
  go_wp2
  go_returns
  exact ⟨rfl, Below.refl _ _⟩
/-- the weight at which it is seen that they are wrong -/
def wgB (ws : List Int) (j : Nat) : Bool := !isAm (ws.getD j 0) || !isAm ((ws.take j).sum + ws.getD j 0)
set_option maxHeartbeats 8000000 in
set_option maxRecDepth 100000 in
theorem rWe_bad (a : Int) (b off n cap : Nat) (ws : List Int) (m : Nat) (w : World) (ha : isAm a = true) (h0 : 0 < n) (h64 : n ≤ 64) (hl : Hid (ws.length = n)) (hc : Hid (∀ j, j < n → w.cell? ⟨b, off + j, none⟩ = some (.int .i64 (ws.getD j 0)))) (hm : m < n) (hp : Hid (∀ j, j < m → wgB ws j = false)) (hq : wgB ws m = true) (hS : ∀ j, 0 ≤ j → j = m → 0 ≤ (ws.take j).sum ∧ (ws.take j).sum ≤ 128849018880000) :
    Calls Try.prog 71 #[.int .i64 a, .slice (some ⟨b, off, none⟩) n cap] w fun e w' => e = .returned (.tuple #[.int .i64 0, .int .i64 2]) ∧ Below w.heap.size w w' := by
  have q0 : ((n : Int) == 0) = false := by rw [beq_eq_false_iff_ne]; omega
  have q1 : decide (64 < (n : Int)) = false := decide_eq_false (by omega)
  have HI := Lib.hid (fun n W => is_any n W)
  have H1 := Lib.hid (fun W => is_any a W)
  rw [ha] at H1
  clear ha
  go_enter Try.func71, Try.ntmps71
  go_wp2_with fail
  refine (H1.out _).mono ?_
  rintro e w1 ⟨rfl, hw⟩
  subst hw
  go_wp2_with fail
  go_loopw [6, 7] (fun s i wr => ∃ k : Nat, k ≤ m ∧ i = .int .i64 k ∧ s = .int .i64 ((ws.take k).sum) ∧ wr = w) (fun _ i _ => n - (intOf i).toNat)
  case atStart => exact ⟨0, Nat.zero_le _, rfl, rfl, rfl⟩
  case round =>
    obtain ⟨k, hk, rfl, rfl, rfl⟩ := hrel
    by_cases hlt : k < m
    · have l9 : (k : Int) < (n : Int) := by omega
      have hp1 := hp.out k hlt
      have hs := Lib.hid (sum_take_succ ws k (by rw [hl.out]; omega))
      unfold wgB at hp1
      rw [Bool.or_eq_false_iff, Bool.not_eq_false', Bool.not_eq_false'] at hp1
      obtain ⟨i1, i2⟩ := hp1
      have c0 := hc.out k (by omega)
      generalize ws.getD k 0 = x at *
      generalize (ws.take k).sum = S at *
      have HX := Lib.hid (HI.out x)
      have HY := Lib.hid (HI.out (S + x))
      rw [i1] at HX
      rw [i2] at HY
      have b1 := (isAm_iff _).1 i1
      have b2 := (isAm_iff _).1 i2
      have w1 : IntKind.i64.wrap (S + x) = S + x := wrap_in _ ⟨by omega, by omega⟩
      clear i1 i2
      go_wp2_with fail
      refine (HX.out _).mono ?_
      rintro e w2 ⟨rfl, hw⟩
      subst hw
      go_wp2_with fail
      refine (HY.out _).mono ?_
      rintro e w2 ⟨rfl, hw⟩
      subst hw
      go_wp2
      go_roundw
      case rel => exact ⟨k + 1, by omega, by go_num, by rw [hs.out], by trivial⟩
      case measure => simp [intOf]; omega
    · obtain rfl : k = m := by omega
      have l9 : (k : Int) < (n : Int) := by omega
      have c0 := hc.out k (by omega)
      unfold wgB at hq
      cases i1 : isAm (ws.getD k 0) with
      | false =>
        clear hq
        generalize ws.getD k 0 = x at *
        generalize (ws.take k).sum = S at *
        have HX := Lib.hid (HI.out x)
        rw [i1] at HX
        clear i1
        go_wp2_with fail
        refine (HX.out _).mono ?_
        rintro e w2 ⟨rfl, hw⟩
        subst hw
        go_wp2
        go_returns
        exact ⟨rfl, Below.refl _ _⟩
      | true =>
        rw [i1, Bool.not_true, Bool.false_or, Bool.not_eq_true'] at hq
        have b1 := (isAm_iff _).1 i1
        have b2 := hS k (Nat.zero_le _) rfl
        generalize ws.getD k 0 = x at *
        generalize (ws.take k).sum = S at *
        have HX := Lib.hid (HI.out x)
        have HY := Lib.hid (HI.out (S + x))
        rw [i1] at HX
        rw [hq] at HY
        have w1 : IntKind.i64.wrap (S + x) = S + x := wrap_in _ ⟨by omega, by omega⟩
        clear i1 hq
        go_wp2_with fail
        refine (HX.out _).mono ?_
        rintro e w2 ⟨rfl, hw⟩
        subst hw
        go_wp2_with fail
        refine (HY.out _).mono ?_
        rintro e w2 ⟨rfl, hw⟩
        subst hw
        go_wp2
        go_returns
        exact ⟨rfl, Below.refl _ _⟩
set_option maxHeartbeats 8000000 in
set_option maxRecDepth 100000 in
theorem rWe_zero (a : Int) (b off n cap : Nat) (ws : List Int) (w : World) (ha : isAm a = true) (h0 : 0 < n) (h64 : n ≤ 64) (hl : Hid (ws.length = n)) (hc : Hid (∀ j, j < n → w.cell? ⟨b, off + j, none⟩ = some (.int .i64 (ws.getD j 0)))) (hp : Hid (∀ j, j < n → wgB ws j = false)) (hz : Hid (ws.sum = 0)) :
    Calls Try.prog 71 #[.int .i64 a, .slice (some ⟨b, off, none⟩) n cap] w fun e w' => e = .returned (.tuple #[.int .i64 0, .int .i64 16]) ∧ Below w.heap.size w w' := by
  have q0 : ((n : Int) == 0) = false := by rw [beq_eq_false_iff_ne]; omega
  have q1 : decide (64 < (n : Int)) = false := decide_eq_false (by omega)
  have HI := Lib.hid (fun n W => is_any n W)
  have H1 := Lib.hid (fun W => is_any a W)
  rw [ha] at H1
  clear ha
  go_enter Try.func71, Try.ntmps71
  go_wp2_with fail
  refine (H1.out _).mono ?_
  rintro e w1 ⟨rfl, hw⟩
  subst hw
  go_wp2_with fail
  go_loopw [6, 7] (fun s i wr => ∃ k : Nat, k ≤ n ∧ i = .int .i64 k ∧ s = .int .i64 ((ws.take k).sum) ∧ wr = w) (fun _ i _ => n - (intOf i).toNat)
  case atStart => exact ⟨0, Nat.zero_le _, rfl, rfl, rfl⟩
  case round =>
    obtain ⟨k, hk, rfl, rfl, rfl⟩ := hrel
    by_cases hlt : k < n
    · have l9 : (k : Int) < (n : Int) := by omega
      have hp1 := hp.out k hlt
      have hs := Lib.hid (sum_take_succ ws k (by rw [hl.out]; omega))
      unfold wgB at hp1
      rw [Bool.or_eq_false_iff, Bool.not_eq_false', Bool.not_eq_false'] at hp1
      obtain ⟨i1, i2⟩ := hp1
      have c0 := hc.out k (by omega)
      generalize ws.getD k 0 = x at *
      generalize (ws.take k).sum = S at *
      have HX := Lib.hid (HI.out x)
      have HY := Lib.hid (HI.out (S + x))
      rw [i1] at HX
      rw [i2] at HY
      have b1 := (isAm_iff _).1 i1
      have b2 := (isAm_iff _).1 i2
      have w1 : IntKind.i64.wrap (S + x) = S + x := wrap_in _ ⟨by omega, by omega⟩
      clear i1 i2
      go_wp2_with fail
      refine (HX.out _).mono ?_
      rintro e w2 ⟨rfl, hw⟩
      subst hw
      go_wp2_with fail
      refine (HY.out _).mono ?_
      rintro e w2 ⟨rfl, hw⟩
      subst hw
      go_wp2
      go_roundw
      case rel => exact ⟨k + 1, by omega, by go_num, by rw [hs.out], by trivial⟩
      case measure => simp [intOf]; omega
    · obtain rfl : k = n := by omega
      have ef : ws.take k = ws := List.take_of_length_le (by rw [hl.out]; exact Nat.le_refl _)
      rw [ef, hz.out]
      go_wp2
      go_returns
      exact ⟨rfl, Below.refl _ _⟩
set_option maxHeartbeats 8000000 in
set_option maxRecDepth 100000 in
theorem rWe_ok (a : Int) (b off n cap : Nat) (ws : List Int) (T : Int) (w : World) (ha : isAm a = true) (h0 : 0 < n) (h64 : n ≤ 64) (hl : Hid (ws.length = n)) (hc : Hid (∀ j, j < n → w.cell? ⟨b, off + j, none⟩ = some (.int .i64 (ws.getD j 0)))) (hp : Hid (∀ j, j < n → wgB ws j = false)) (hz : Hid (ws.sum = T)) (hT : (T == 0) = false) :
    Calls Try.prog 71 #[.int .i64 a, .slice (some ⟨b, off, none⟩) n cap] w fun e w' => e = .returned (.tuple #[.int .i64 T, .int .i64 0]) ∧ Below w.heap.size w w' := by
  have q0 : ((n : Int) == 0) = false := by rw [beq_eq_false_iff_ne]; omega
  have q1 : decide (64 < (n : Int)) = false := decide_eq_false (by omega)
  have HI := Lib.hid (fun n W => is_any n W)
  have H1 := Lib.hid (fun W => is_any a W)
  rw [ha] at H1
  clear ha
  go_enter Try.func71, Try.ntmps71
  go_wp2_with fail
  refine (H1.out _).mono ?_
  rintro e w1 ⟨rfl, hw⟩
  subst hw
  go_wp2_with fail
  go_loopw [6, 7] (fun s i wr => ∃ k : Nat, k ≤ n ∧ i = .int .i64 k ∧ s = .int .i64 ((ws.take k).sum) ∧ wr = w) (fun _ i _ => n - (intOf i).toNat)
  case atStart => exact ⟨0, Nat.zero_le _, rfl, rfl, rfl⟩
  case round =>
    obtain ⟨k, hk, rfl, rfl, rfl⟩ := hrel
    by_cases hlt : k < n
    · have l9 : (k : Int) < (n : Int) := by omega
      have hp1 := hp.out k hlt
      have hs := Lib.hid (sum_take_succ ws k (by rw [hl.out]; omega))
      unfold wgB at hp1
      rw [Bool.or_eq_false_iff, Bool.not_eq_false', Bool.not_eq_false'] at hp1
      obtain ⟨i1, i2⟩ := hp1
      have c0 := hc.out k (by omega)
      generalize ws.getD k 0 = x at *
      generalize (ws.take k).sum = S at *
      have HX := Lib.hid (HI.out x)
      have HY := Lib.hid (HI.out (S + x))
      rw [i1] at HX
      rw [i2] at HY
      have b1 := (isAm_iff _).1 i1
      have b2 := (isAm_iff _).1 i2
      have w1 : IntKind.i64.wrap (S + x) = S + x := wrap_in _ ⟨by omega, by omega⟩
      clear i1 i2
      go_wp2_with fail
      refine (HX.out _).mono ?_
      rintro e w2 ⟨rfl, hw⟩
      subst hw
      go_wp2_with fail
      refine (HY.out _).mono ?_
      rintro e w2 ⟨rfl, hw⟩
      subst hw
      go_wp2
      go_roundw
      case rel => exact ⟨k + 1, by omega, by go_num, by rw [hs.out], by trivial⟩
      case measure => simp [intOf]; omega
    · obtain rfl : k = n := by omega
      have ef : ws.take k = ws := List.take_of_length_le (by rw [hl.out]; exact Nat.le_refl _)
      rw [ef, hz.out]
      go_wp2
      go_returns
      exact ⟨rfl, Below.refl _ _⟩
theorem wgB_none {ws : List Int} (h : ∀ j, j < ws.length → wgB ws j = false) : ws.all isAm = true ∧ (ws ≠ [] → isAm ws.sum = true) := by
  have h1 : ∀ j, j < ws.length → isAm (ws.getD j 0) = true ∧ isAm ((ws.take j).sum + ws.getD j 0) = true := fun j hj => by
    have := h j hj
    unfold wgB at this
    rwa [Bool.or_eq_false_iff, Bool.not_eq_false', Bool.not_eq_false'] at this
  constructor
  · rw [List.all_eq_true]
    intro x hx
    obtain ⟨i, hi, e⟩ := List.getElem_of_mem hx
    have := (h1 i hi).1
    rwa [List.getD_eq_getElem?_getD, List.getElem?_eq_getElem hi, Option.getD_some, e] at this
  · intro hne
    have hl : 0 < ws.length := List.length_pos_iff.2 hne
    have := (h1 (ws.length - 1) (by omega)).2
    rw [← sum_take_succ ws (ws.length - 1) (by omega), List.take_of_length_le (by omega)] at this
    exact this
theorem wgB_some {ws : List Int} (ha : ws.all isAm = true) {m : Nat} (hm : m < ws.length) (h : wgB ws m = true) : isAm ws.sum = false := by
  have hx := all_get ws ha m hm
  unfold wgB at h
  rw [hx, Bool.not_true, Bool.false_or, Bool.not_eq_true'] at h
  rw [← sum_take_succ ws m hm] at h
  have nn : ∀ x ∈ ws, 0 ≤ x := fun x hx => ((isAm_iff x).1 (List.all_eq_true.1 ha x hx)).1
  have s := sum_take_le ws nn (m + 1)
  rcases (isAm_not _).1 h with g | g
  · omega
  · exact (isAm_not _).2 (.inr (by omega))
theorem rWe_any (a : Int) (v : Value) (ws : List Int) (w : World) (hv : Ins w v ws) :
    Calls Try.prog 71 #[.int .i64 a, v] w fun e w' => e = .returned (.tuple #[.int .i64 (if divE a ws = 0 then ws.sum else 0), .int .i64 (divE a ws)]) ∧ Below w.heap.size w w' := by
  obtain ⟨ad, cap, rfl, hln, hh⟩ := id hv
  cases ha : isAm a with
  | false =>
    have e : divE a ws = 2 := by unfold divE; rw [ha]; rfl
    rw [e]; exact rWe_neg a ad _ cap w ha
  | true =>
    have eT : divE a ws = totE ws := by unfold divE; rw [ha]; rfl
    rw [eT]
    by_cases h0 : ws.length = 0
    · have e : totE ws = 9 := by unfold totE; rw [if_pos h0]
      rw [e, h0]; exact rWe_nil a ad cap w ha
    · by_cases h64 : 64 < ws.length
      · have e : totE ws = 8 := by unfold totE; rw [if_neg h0, if_pos h64]
        rw [e]; exact rWe_long a ad _ cap w ha h64 hln
      · rcases hh with hh | ⟨b, off, rfl, hb, hc⟩
        · exact absurd hh h0
        obtain ⟨s1, s2⟩ := fst_spec (wgB ws) ws.length
        have le := fst_le (wgB ws) ws.length
        generalize fst (wgB ws) ws.length = m at *
        rcases Nat.lt_or_ge m ws.length with g | g
        · have hm := s2 g
          have e : totE ws = 2 := by
            unfold totE
            rw [if_neg h0, if_neg h64]
            cases hall : ws.all isAm with
            | false => rfl
            | true => rw [wgB_some hall g hm]; rfl
          have hS : ∀ j, 0 ≤ j → j = m → 0 ≤ (ws.take j).sum ∧ (ws.take j).sum ≤ 128849018880000 := by
            rintro j _ rfl
            cases j with
            | zero => simp
            | succ j =>
              have := s1 j (by omega)
              unfold wgB at this
              rw [Bool.or_eq_false_iff, Bool.not_eq_false', Bool.not_eq_false'] at this
              rw [sum_take_succ ws j (by omega)]
              exact (isAm_iff _).1 this.2
          rw [e]; exact rWe_bad a b off _ cap ws m w ha (by omega) (by omega) rfl hc g s1 hm hS
        · obtain ⟨hall, hsum⟩ := wgB_none (ws := ws) (fun j hj => s1 j (by omega))
          have hs := hsum (by intro e; rw [e] at h0; exact h0 rfl)
          by_cases hz : ws.sum = 0
          · have e : totE ws = 16 := by unfold totE; rw [if_neg h0, if_neg h64, hall, hs, if_pos rfl, if_pos rfl, if_pos hz]
            rw [e]; exact rWe_zero a b off _ cap ws w ha (by omega) (by omega) rfl hc (Lib.hid fun j hj => s1 j (by omega)) hz
          · have e : totE ws = 0 := by unfold totE; rw [if_neg h0, if_neg h64, hall, hs, if_pos rfl, if_pos rfl, if_neg hz]
            rw [e]; exact rWe_ok a b off _ cap ws _ w ha (by omega) (by omega) rfl hc (Lib.hid fun j hj => s1 j (by omega)) rfl (by simpa using hz)
end Go.Proofs.Ytmoeccghkpjbgaa

/- Plain facts: what is left goes to the greatest remainders, in two ways. -/
namespace Go.Proofs.Ytmoeccghkpjbgaa

/-- the first one of the greatest of the first numbers -/
def fm (ts : List Int) : Nat → Nat
  | 0 => 0
  | k + 1 => if ts.getD (fm ts k) 0 < ts.getD k 0 then k else fm ts k
theorem fm_spec (ts : List Int) : ∀ k, 0 < k → fm ts k < k ∧ (∀ j, j < k → ts.getD j 0 ≤ ts.getD (fm ts k) 0) ∧ ∀ j, j < fm ts k → ts.getD j 0 < ts.getD (fm ts k) 0
  | 0, h => by omega
  | 1, _ => by
    have e : fm ts 1 = 0 := by unfold fm; split <;> rfl
    rw [e]
    exact ⟨by omega, fun j hj => by obtain rfl : j = 0 := by omega
                                    exact Int.le_refl _, fun j hj => by omega⟩
  | k + 2, _ => by
    obtain ⟨i1, i2, i3⟩ := fm_spec ts (k + 1) (by omega)
    have e : fm ts (k + 2) = if ts.getD (fm ts (k + 1)) 0 < ts.getD (k + 1) 0 then k + 1 else fm ts (k + 1) := rfl
    rw [e]
    generalize fm ts (k + 1) = p at *
    by_cases h : ts.getD p 0 < ts.getD (k + 1) 0
    · rw [if_pos h]
      refine ⟨by omega, fun j hj => ?_, fun j hj => ?_⟩
      · by_cases e : j = k + 1
        · rw [e]; exact Int.le_refl _
        · have := i2 j (by omega); omega
      · have := i2 j (by omega); omega
    · rw [if_neg h]
      refine ⟨by omega, fun j hj => ?_, i3⟩
      by_cases e : j = k + 1
      · rw [e]; omega
      · exact i2 j (by omega)
theorem pick_is {ts : List Int} {p : Nat} (hp : p < ts.length) (h1 : ∀ j, j < ts.length → ts.getD j 0 ≤ ts.getD p 0) (h2 : ∀ j, j < p → ts.getD j 0 < ts.getD p 0) : pick ts = p := by
  have hne : ts ≠ [] := by intro e; rw [e] at hp; simp at hp
  obtain ⟨m1, m2⟩ := maxOf_spec ts hne
  obtain ⟨k, k1, k2, k3, k4⟩ := idxFrom_spec _ ts 0 m1
  have pk : pick ts = k := by unfold pick Lib.idxOf; rw [k3]; omega
  have hm : ts.getD p 0 = Lib.maxOf ts := by
    have a := m2 (ts.getD p 0) (by simp [List.getD_eq_getElem?_getD, List.getElem?_eq_getElem hp])
    have b := h1 k k1
    omega
  rw [pk]
  rcases Nat.lt_trichotomy k p with g | g | g
  · have := h2 k g; omega
  · exact g
  · exact absurd hm (k4 p g)
/-- remainders, once with nothing and once with -1 where one was given -/
def RL (ts us : List Int) : Prop := us.length = ts.length ∧ ∀ i, i < ts.length → us.getD i 0 = ts.getD i 0 ∨ (ts.getD i 0 = 0 ∧ us.getD i 0 = -1)
theorem RL.refl (ts : List Int) : RL ts ts := ⟨rfl, fun _ _ => .inl rfl⟩
theorem RL.pick {ts us : List Int} (h : RL ts us) (hx : ∃ x ∈ ts, 0 < x) : pick ts = fm us ts.length := by
  obtain ⟨hl, hr⟩ := h
  obtain ⟨x, hx1, hx0⟩ := hx
  obtain ⟨i, hi, e⟩ := List.getElem_of_mem hx1
  have ei : ts.getD i 0 = x := by rw [List.getD_eq_getElem?_getD, List.getElem?_eq_getElem hi, Option.getD_some, e]
  obtain ⟨f1, f2, f3⟩ := fm_spec us ts.length (by omega)
  generalize fm us ts.length = p at *
  have hp : us.getD p 0 = ts.getD p 0 := by
    rcases hr p f1 with g | ⟨_, g⟩
    · exact g
    · have a := f2 i hi
      rcases hr i hi with b | ⟨b, _⟩ <;> omega
  have pos : 0 < ts.getD p 0 := by
    have a := f2 i hi
    rcases hr i hi with b | ⟨b, _⟩ <;> omega
  refine pick_is f1 (fun j hj => ?_) (fun j hj => ?_)
  · have a := f2 j hj
    rcases hr j hj with b | ⟨b, _⟩ <;> omega
  · have a := f3 j hj
    rcases hr j (by omega) with b | ⟨b, _⟩ <;> omega
theorem RL.step {ts us : List Int} (h : RL ts us) {p : Nat} (hp : p < ts.length) : RL (ts.set p 0) (us.set p (-1)) := by
  obtain ⟨hl, hr⟩ := h
  refine ⟨by simp [hl], fun i hi => ?_⟩
  rw [List.length_set] at hi
  rw [get_set ts p i 0 hp, get_set us p i (-1) (by omega)]
  by_cases e : p = i
  · rw [if_pos e, if_pos e]; exact .inr ⟨rfl, rfl⟩
  · rw [if_neg e, if_neg e]; exact hr i hi
/-- a round of giving: the place, what is given, what is left to give -/
theorem give_round {a : Int} {ws : List Int} (h : divE a ws = 0) {j : Nat} (hj : j < divL a ws) {us : List Int} (hu : RL (give j (divQ a ws, divR a ws)).2 us) :
    fm us ws.length < ws.length ∧ (give (j + 1) (divQ a ws, divR a ws)).1 = (give j (divQ a ws, divR a ws)).1.set (fm us ws.length) ((give j (divQ a ws, divR a ws)).1.getD (fm us ws.length) 0 + 1) ∧ RL (give (j + 1) (divQ a ws, divR a ws)).2 (us.set (fm us ws.length) (-1)) := by
  have hd := divL_pos a ws h
  have I := inv_give (divQ a ws) (divR a ws) (by simp [divQ, divR]) j (by omega)
  have hp : 0 < posN (give j (divQ a ws, divR a ws)).2 := by have := I.cnt; omega
  have hl : (give j (divQ a ws, divR a ws)).2.length = ws.length := by rw [I.l2]; simp [divR]
  have hx := posN_pos _ hp
  have pk := hu.pick hx
  rw [hl] at pk
  have hlt : fm us ws.length < ws.length := (fm_spec us ws.length (by
    obtain ⟨x, hx1, _⟩ := hx
    have := List.length_pos_of_mem hx1
    omega)).1
  refine ⟨hlt, ?_, ?_⟩
  · simp only [give, giveStep]; rw [pk]
  · have := hu.step (p := fm us ws.length) (by omega)
    simp only [give, giveStep]; rw [pk]; exact this
end Go.Proofs.Ytmoeccghkpjbgaa

/- The reference of layer 1: Divide. -/
namespace Go.Proofs.Ytmoeccghkpjbgaa
open Go.RowKit

theorem at_mem {l : List Int} {k : Nat} (hk : k < l.length) : l.getD k 0 ∈ l := by simp [List.getD_eq_getElem?_getD, List.getElem?_eq_getElem hk]
theorem cell_oneE (w : World) (v : Value) (T : TypeId) (j : Nat) (u : Value) (hj : [v][j]? = some u) : (w.alloc (.cells #[v] T)).cell? ((⟨w.heap.size, 0, none⟩ : Addr).add j) = some u := by
  match j, hj with
  | 0, hj => simp at hj; rw [Go.WideShapes.add_plain, Nat.zero_add, ← hj, World.cell?_alloc_new]; rfl
  | j + 1, hj => simp at hj
def OwnI (w : World) (B : Nat) (v : Value) (zs : List Int) : Prop := w.ownsRow B 3 1 v zs.length (zs.map (Value.int .i64))
theorem OwnI.alloc {w : World} {B : Nat} {v : Value} {zs : List Int} (h : OwnI w B v zs) (o : Obj) : OwnI (w.alloc o) B v zs := World.ownsRow.alloc h o
theorem OwnI.below {w w' : World} {B : Nat} {v : Value} {zs : List Int} (h : OwnI w B v zs) (hb : Below w.heap.size w w') : OwnI w' B v zs := row_belB h hb
theorem OwnI.nil (w : World) (B : Nat) : OwnI w B (.slice none 0 0) [] := ⟨rfl, .inl ⟨rfl, rfl⟩⟩
theorem OwnI.push {w' : World} {B n : Nat} {v' : Value} {zs : List Int} {x : Int} (hn : n = zs.length) (h : w'.ownsRow B 3 1 v' (n + 1) (zs.map (Value.int .i64) ++ [.int .i64 x])) : OwnI w' B v' (zs ++ [x]) := by
  subst hn
  unfold OwnI
  rw [List.length_append, List.map_append]
  exact h
theorem OwnI.own {w : World} {B : Nat} {v : Value} {zs : List Int} {n : Nat} (h : OwnI w B v zs) (hn : zs.length = n) (h0 : 0 < n) : ∃ g cap, v = .slice (some ⟨g, 0, none⟩) n cap ∧ Own w B g n cap zs := by
  subst hn
  have h' := h
  obtain ⟨_, h2⟩ := h
  rcases h2 with ⟨_, e⟩ | ⟨g, cap, cur, e, _⟩
  · omega
  · subst e; exact ⟨g, cap, rfl, h'⟩
/-- two rows do not lie in one block -/
def Apart (u v : Value) : Prop := ∀ g, u.ownBlock = some g → v.ownBlock ≠ some g
theorem Apart.ne {u v : Value} (h : Apart u v) : u.ownBlock = none ∨ u.ownBlock ≠ v.ownBlock := by
  cases e : u.ownBlock with
  | none => exact .inl rfl
  | some g => exact .inr fun e2 => h g e e2.symm
theorem Apart.symm {u v : Value} (h : Apart u v) : Apart v u := fun g e e2 => h g e2 e
theorem Apart.step {u u' v : Value} {W : World} {B n N : Nat} {xs : List Value} (h : Apart u v) (hu : u'.ownBlock = u.ownBlock ∨ u'.ownBlock = some N) (hv : W.ownsRow B 3 1 v n xs) (hN : W.heap.size ≤ N := by simp) : Apart u' v := fun g e e2 => by
  rcases hu with hu | hu
  · exact h g (hu ▸ e) e2
  · rw [hu] at e
    have := (World.ownsRow.lt hv g e2).2
    simp only [Option.some.injEq] at e
    omega
set_option maxHeartbeats 4000000 in
theorem rDv_err (a E : Int) (v : Value) (w : World) (hE : (E != 0) = true)
    (HW : Hid (Calls Try.prog 71 #[.int .i64 a, v] w fun e w' => e = .returned (.tuple #[.int .i64 0, .int .i64 E]) ∧ Below w.heap.size w w')) :
    Calls Try.prog 44 #[.int .i64 a, v] w fun e w' => e = .returned (.tuple #[.slice none 0 0, .int .i64 E]) ∧ Below w.heap.size w w' := by
  go_enter Try.func44, Try.ntmps44
  go_wp2_with fail
  refine HW.out.mono ?_
  rintro e w1 ⟨rfl, h1⟩
  have X := Lib.hid h1; clear h1
  go_wp2
  go_returns
  exact ⟨rfl, X.out⟩
set_option maxHeartbeats 32000000 in
set_option maxRecDepth 100000 in
theorem rDv_ok (a T : Int) (b off n cap L : Nat) (ws Q R P : List Int) (w : World) (n0 : 0 < n) (n1 : n ≤ 64) (hL1 : L ≤ 64) (ba : 0 ≤ a ∧ a ≤ 128849018880000) (hb : b < w.heap.size)
    (hc : Hid (∀ j, j < n → w.cell? ⟨b, off + j, none⟩ = some (.int .i64 (ws.getD j 0)))) (hQ : Hid (Q.length = n)) (hR : Hid (R.length = n))
    (HW : Hid (Calls Try.prog 71 #[.int .i64 a, .slice (some ⟨b, off, none⟩) n cap] w fun e w' => e = .returned (.tuple #[.int .i64 T, .int .i64 0]) ∧ Below w.heap.size w w'))
    (HP : Hid (∀ k, k < n → ∀ W, Calls Try.prog 72 #[.int .i64 a, .int .i64 (ws.getD k 0), .int .i64 T] W fun e w' => e = .returned (.tuple #[.int .i64 (Q.getD k 0), .int .i64 (R.getD k 0)]) ∧ Below W.heap.size W w'))
    (hS : Hid (∀ k, 0 ≤ (Q.take k).sum ∧ (Q.take k).sum ≤ a)) (hq : Hid (∀ k, k < n → 0 ≤ Q.getD k 0 ∧ Q.getD k 0 ≤ a)) (hL : Hid (a - Q.sum = (L : Int)))
    (GR : Hid (∀ j us, j < L → RL (give j (Q, R)).2 us → fm us n < n ∧ (give (j + 1) (Q, R)).1 = (give j (Q, R)).1.set (fm us n) ((give j (Q, R)).1.getD (fm us n) 0 + 1) ∧ RL (give (j + 1) (Q, R)).2 (us.set (fm us n) (-1))))
    (GL : Hid (∀ j, (give j (Q, R)).1.length = n ∧ (give j (Q, R)).2.length = n)) (GB : Hid (∀ j i, 0 ≤ (give j (Q, R)).1.getD i 0 ∧ (give j (Q, R)).1.getD i 0 ≤ a + j)) (GE : Hid ((give L (Q, R)).1 = P)) :
    Calls Try.prog 44 #[.int .i64 a, .slice (some ⟨b, off, none⟩) n cap] w fun e w' => ∃ g c, e = .returned (.tuple #[.slice (some ⟨g, 0, none⟩) n c, .int .i64 0]) ∧ Own w' w.heap.size g n c P ∧ Below w.heap.size w w' := by
  obtain ⟨i0, hi, hz0, hz1, hz2⟩ := info_parts Try.info3
  replace hi := Lib.hid hi
  replace hz0 := Lib.hid hz0
  replace hz1 := Lib.hid hz1
  replace hz2 := Lib.hid hz2
  have HS := Lib.hid (fun k (hk : k < n) => sum_take_succ Q k (by rw [hQ.out]; exact hk))
  have HTQ : Hid (∀ k, k < n → Q.take (k + 1) = Q.take k ++ [Q.getD k 0]) := Lib.hid fun k hk => by
    rw [List.take_succ_eq_append_getElem (by rw [hQ.out]; exact hk)]; simp [List.getD_eq_getElem?_getD, List.getElem?_eq_getElem (show k < Q.length by rw [hQ.out]; exact hk)]
  have HTR : Hid (∀ k, k < n → R.take (k + 1) = R.take k ++ [R.getD k 0]) := Lib.hid fun k hk => by
    rw [List.take_succ_eq_append_getElem (by rw [hR.out]; exact hk)]; simp [List.getD_eq_getElem?_getD, List.getElem?_eq_getElem (show k < R.length by rw [hR.out]; exact hk)]
  have HLQ : Hid (∀ k, k ≤ n → (Q.take k).length = k) := Lib.hid fun k hk => by rw [List.length_take, hQ.out]; omega
  have HLR : Hid (∀ k, k ≤ n → (R.take k).length = k) := Lib.hid fun k hk => by rw [List.length_take, hR.out]; omega
  go_enter Try.func44, Try.ntmps44
  go_wp2_with fail
  refine HW.out.mono ?_
  rintro e w1 ⟨rfl, h1⟩
  have X := Lib.hid h1; clear h1 HW
  go_wp2_with fail
  go_loopw [8, 9, 10, 11] (fun p r lf i wr => ∃ k : Nat, k ≤ n ∧ i = .int .i64 k ∧ lf = .int .i64 (a - (Q.take k).sum) ∧ Hid (OwnI wr w.heap.size p (Q.take k)) ∧ Hid (OwnI wr w.heap.size r (R.take k)) ∧ Hid (Apart p r) ∧ Hid (Below w.heap.size w wr)) (fun _ _ _ i _ => n - (intOf i).toNat)
  case atStart => exact ⟨0, Nat.zero_le _, rfl, by simp, Lib.hid (OwnI.nil _ _), Lib.hid (OwnI.nil _ _), Lib.hid (fun g e => by simp [Value.ownBlock] at e), X⟩
  case round =>
    clear X
    obtain ⟨k, hk, rfl, rfl, O8, O9, AP, X⟩ := hrel
    by_cases hlt : k < n
    · have l9 : (k : Int) < (n : Int) := by omega
      have c0 : wr.cell? ⟨b, off + k, none⟩ = some (.int .i64 (ws.getD k 0)) := by rw [(bcell X.out).1 _ _ hb]; exact hc.out k hlt
      have HPk := Lib.hid (HP.out k hlt)
      have s1 := Lib.hid (HS.out k hlt)
      have t1 := Lib.hid (HTQ.out k hlt)
      have t2 := Lib.hid (HTR.out k hlt)
      have m1 := HLQ.out k hk
      have m2 := HLR.out k hk
      have b1 := hS.out k
      have b2 := hS.out (k + 1)
      rw [s1.out] at b2
      have b3 := hq.out k hlt
      generalize ws.getD k 0 = x at *
      generalize Q.getD k 0 = q at *
      generalize R.getD k 0 = r0 at *
      generalize (Q.take k).sum = S at *
      generalize hQk : Q.take k = QK at *
      generalize hRk : R.take k = RK at *
      replace hQk := Lib.hid hQk
      replace hRk := Lib.hid hRk
      have e1 : IntKind.i64.wrap (a - S - q) = a - S - q := wrap_in _ ⟨by omega, by omega⟩
      go_wp2_with fail
      refine (HPk.out _).mono ?_
      rintro e w2 ⟨rfl, h1⟩
      replace O8 := Lib.hid (O8.out.below h1)
      replace O9 := Lib.hid (O9.out.below h1)
      replace X := Lib.hid (bel_trans X.out h1)
      clear h1 c0 HPk
      have CN := Lib.hid (cell_oneE w2 (.int .i64 q) 3)
      have OA := Lib.hid (O8.out.alloc (.cells #[.int .i64 q] 3))
      have OB := Lib.hid (O9.out.alloc (.cells #[.int .i64 q] 3))
      have XA := Lib.hid (bel_trans X.out (bel_alloc (o := .cells #[.int .i64 q] 3) (Below.refl _ _)))
      have HZ : Hid (w.heap.size ≤ (w2.alloc (.cells #[.int .i64 q] 3)).heap.size) := Lib.hid XA.out.size
      unfold OwnI at OA
      rw [m1] at OA
      go_wp2_with (at_builtin; refine wpList_append_own_at _ rfl _ _ 30 rfl w.heap.size 3 i0 (.int .i64 0) 1 8 Try.underlying30 hi.out hz0.out hz1.out hz2.out rfl (by omega) _ _ _ rfl OA.out ⟨w2.heap.size, 0, none⟩ 1 1 [.int .i64 q] rfl rfl CN.out (by intro u hu; rw [List.mem_singleton] at hu; rw [hu]; rfl) ?qd4 ?qd5 HZ.out ?_)
      case qd4 => unfold maxLen; omega
      case qd5 => omega
      intro v2 w3 hown3 hgrow _ hob
      have N8 : Hid (OwnI w3 w.heap.size v2 (QK ++ [q])) := Lib.hid (OwnI.push m1.symm hown3)
      have N9 : Hid (OwnI w3 w.heap.size _ RK) := Lib.hid (World.ownsRow.kept OB.out hgrow AP.out.symm.ne)
      have AP2 := Lib.hid (AP.out.step hob OB.out)
      have X3 := Lib.hid (XA.out.grown hgrow HZ.out (fun g hg => (World.ownsRow.lt OA.out g hg).1))
      clear hown3 hgrow hob OA OB CN HZ XA X O8 O9 AP
      have CN := Lib.hid (cell_oneE w3 (.int .i64 r0) 3)
      have OA := Lib.hid (N9.out.alloc (.cells #[.int .i64 r0] 3))
      have OB := Lib.hid (N8.out.alloc (.cells #[.int .i64 r0] 3))
      have XA := Lib.hid (bel_trans X3.out (bel_alloc (o := .cells #[.int .i64 r0] 3) (Below.refl _ _)))
      have HZ : Hid (w.heap.size ≤ (w3.alloc (.cells #[.int .i64 r0] 3)).heap.size) := Lib.hid XA.out.size
      unfold OwnI at OA
      rw [m2] at OA
      go_wp2_with (at_builtin; refine wpList_append_own_at _ rfl _ _ 30 rfl w.heap.size 3 i0 (.int .i64 0) 1 8 Try.underlying30 hi.out hz0.out hz1.out hz2.out rfl (by omega) _ _ _ rfl OA.out ⟨w3.heap.size, 0, none⟩ 1 1 [.int .i64 r0] rfl rfl CN.out (by intro u hu; rw [List.mem_singleton] at hu; rw [hu]; rfl) ?qd4 ?qd5 HZ.out ?_)
      case qd4 => unfold maxLen; omega
      case qd5 => omega
      intro v3 w4 hown3 hgrow _ hob
      have M9 : Hid (OwnI w4 w.heap.size v3 (RK ++ [r0])) := Lib.hid (OwnI.push m2.symm hown3)
      have M8 : Hid (OwnI w4 w.heap.size _ (QK ++ [q])) := Lib.hid (World.ownsRow.kept OB.out hgrow AP2.out.ne)
      have AP3 := Lib.hid (AP2.out.symm.step hob OB.out).symm
      have X4 := Lib.hid (XA.out.grown hgrow HZ.out (fun g hg => (World.ownsRow.lt OA.out g hg).1))
      clear hown3 hgrow hob OA OB CN HZ XA X3 N8 N9 AP2
      go_wp2
      go_roundw
      case rel => exact ⟨k + 1, by omega, by go_num, by rw [s1.out]; go_num, by rw [t1.out]; exact M8, by rw [t2.out]; exact M9, Lib.hid AP3, X4⟩
      case measure => simp [intOf]; omega
    · obtain rfl : n = k := by omega
      have eQ : Q.take n = Q := List.take_of_length_le (by rw [hQ.out]; exact Nat.le_refl _)
      have eR : R.take n = R := List.take_of_length_le (by rw [hR.out]; exact Nat.le_refl _)
      rw [eQ] at O8
      rw [eR] at O9
      rw [eQ, hL.out]
      obtain ⟨g8, c8, rfl, o8⟩ := O8.out.own hQ.out n0
      obtain ⟨g9, c9, rfl, o9⟩ := O9.out.own hR.out n0
      have n89 : g8 ≠ g9 := fun e => AP.out g8 rfl (by rw [e]; rfl)
      have n98 : g9 ≠ g8 := fun e => n89 e.symm
      have R8 := Lib.hid o8
      have R9 := Lib.hid o9
      clear o8 o9 O8 O9 AP eQ eR HS HTQ HTR HLQ HLR HP hS hq hL hc
      go_wp2_with fail
      go_loopw [10] (fun lf wr => ∃ (j : Nat) (us : List Int), j ≤ L ∧ lf = .int .i64 ((L : Int) - j) ∧ Hid (Own wr w.heap.size g8 n c8 (give j (Q, R)).1) ∧ Hid (Own wr w.heap.size g9 n c9 us) ∧ Hid (RL (give j (Q, R)).2 us) ∧ Hid (Below w.heap.size w wr)) (fun lf _ => (intOf lf).toNat)
      case atStart => exact ⟨0, R, Nat.zero_le _, by simp, R8, R9, Lib.hid (RL.refl _), X⟩
      case round =>
        clear R8 R9 X
        obtain ⟨j, us, hj, rfl, R8, R9, HR, X⟩ := hrel
        by_cases hlt : j < L
        · have l9 : (0 : Int) < (L : Int) - j := by omega
          have d0 : decide (0 < (L : Int) - (j : Int)) = true := decide_eq_true l9
          have w1 : IntKind.i64.wrap ((L : Int) - j - 1) = (L : Int) - j - 1 := wrap_in _ ⟨by omega, by omega⟩
          obtain ⟨p1, p2, p3⟩ := GR.out j us hlt HR.out
          have HP2 := Lib.hid p2
          have HP3 := Lib.hid p3
          have HF := Lib.hid (fm_spec us)
          have gb := GB.out j (fm us n)
          clear p2 p3 HR
          generalize (give j (Q, R)).1 = ps at *
          go_wp2_with fail
          go_loopw [14, 15] (fun bs i wi => ∃ k : Nat, k ≤ n ∧ i = .int .i64 k ∧ bs = .int .i64 (fm us k : Nat) ∧ Hid (Own wi w.heap.size g8 n c8 ps) ∧ Hid (Own wi w.heap.size g9 n c9 us) ∧ Hid (Below w.heap.size w wi)) (fun _ i _ => n - (intOf i).toNat)
          case atStart => exact ⟨0, Nat.zero_le _, rfl, rfl, R8, R9, X⟩
          case round =>
            clear R8 R9 X
            obtain ⟨k, hk, rfl, rfl, R8, R9, X⟩ := hrel
            by_cases hkn : k < n
            · have l8 : (k : Int) < (n : Int) := by omega
              have hf : fm us k < n := by
                by_cases e : 0 < k
                · have := (HF.out k e).1; omega
                · obtain rfl : k = 0 := by omega
                  exact n0
              have fs : fm us (k + 1) = if us.getD (fm us k) 0 < us.getD k 0 then k else fm us k := rfl
              have r1 := R9.out.cell k hkn
              have r2 := R9.out.cell (fm us k) hf
              have l7 : ((fm us k : Nat) : Int) < (n : Int) := by omega
              generalize us.getD k 0 = y at *
              generalize us.getD (fm us k) 0 = z at *
              generalize hfk : fm us k = f at *
              clear hfk
              by_cases hzy : z < y
              · have d : decide (z < y) = true := decide_eq_true hzy
                rw [if_pos hzy] at fs
                replace fs := Lib.hid fs
                go_wp2_with fail
                go_region
                all_goals go_wp2
                all_goals go_roundw
                all_goals try (case rel => exact ⟨k + 1, by omega, by go_num, by rw [fs.out], Lib.hid R8.out, Lib.hid R9.out, by first | exact X | exact Lib.hid (bel_trans X.out (bel_drew _)) | exact Lib.hid (bel_trans X.out (bel_drewN _ _))⟩)
                all_goals (case measure => simp [intOf]; omega)
              · have d : decide (z < y) = false := decide_eq_false hzy
                rw [if_neg hzy] at fs
                replace fs := Lib.hid fs
                go_wp2_with fail
                go_region
                all_goals go_wp2
                all_goals go_roundw
                all_goals try (case rel => exact ⟨k + 1, by omega, by go_num, by rw [fs.out], Lib.hid R8.out, Lib.hid R9.out, by first | exact X | exact Lib.hid (bel_trans X.out (bel_drew _)) | exact Lib.hid (bel_trans X.out (bel_drewN _ _))⟩)
                all_goals (case measure => simp [intOf]; omega)
            · obtain rfl : n = k := by omega
              generalize fm us n = f at *
              have l7 : ((f : Nat) : Int) < (n : Int) := by omega
              have r8 := R8.out.cell f p1
              have f8 := World.ownsRow.frozenAt R8.out f
              have r9 := R9.out.cell f p1
              have f9 := World.ownsRow.frozenAt R9.out f
              have b8 := R8.out.lt.1
              have b9 := R9.out.lt.1
              have w2 : IntKind.i64.wrap (ps.getD f 0 + 1) = ps.getD f 0 + 1 := wrap_in _ ⟨by omega, by omega⟩
              have N8 := Lib.hid ((R8.out.set f (ps.getD f 0 + 1)).other ⟨g9, f, none⟩ n98 (.int .i64 (-1)))
              have N9 := Lib.hid ((R9.out.other ⟨g8, f, none⟩ n89 (.int .i64 (ps.getD f 0 + 1))).set f (-1))
              have NX := Lib.hid ((X.out.setCell (p := ⟨g8, f, none⟩) b8 (.int .i64 (ps.getD f 0 + 1))).setCell (p := ⟨g9, f, none⟩) b9 (.int .i64 (-1)))
              generalize us.getD f 0 = y at *
              rw [← HP2.out] at N8
              generalize ps.getD f 0 = z at *
              go_wp2
              go_roundw
              case rel => exact ⟨j + 1, _, by omega, by go_num, N8, N9, HP3, NX⟩
              case measure => simp [intOf]; omega
        · obtain rfl : L = j := by omega
          have d0 : decide (0 < (L : Int) - (L : Int)) = false := decide_eq_false (by omega)
          rw [GE.out] at R8
          go_wp2
          go_returns
          exact ⟨g8, c8, rfl, R8.out, X.out⟩
theorem rDv_any (a : Int) (v : Value) (ws : List Int) (w : World) (hv : Ins w v ws) :
    (divE a ws ≠ 0 → Calls Try.prog 44 #[.int .i64 a, v] w fun e w' => e = .returned (.tuple #[.slice none 0 0, .int .i64 (divE a ws)]) ∧ Below w.heap.size w w') ∧
    (divE a ws = 0 → Calls Try.prog 44 #[.int .i64 a, v] w fun e w' => ∃ g c, e = .returned (.tuple #[.slice (some ⟨g, 0, none⟩) ws.length c, .int .i64 0]) ∧ Own w' w.heap.size g ws.length c (divP a ws) ∧ Below w.heap.size w w') := by
  have HW := rWe_any a v ws w hv
  constructor
  · intro h
    rw [if_neg h] at HW
    exact rDv_err a _ v w (by rw [bne_iff_ne]; exact h) HW
  · intro h
    rw [if_pos h, h] at HW
    obtain ⟨ha, ht⟩ := divE_zero h
    obtain ⟨t1, t2, t3, t4, t5⟩ := totE_zero ht
    obtain ⟨d1, d2, d3⟩ := div_left a ws ha ht
    have ba := (isAm_iff a).1 ha
    obtain ⟨ad, cap, rfl, hln, hh⟩ := id hv
    rcases hh with hh | ⟨b, off, rfl, hb, hc⟩
    · omega
    have q0 : ∀ x ∈ divQ a ws, 0 ≤ x := fun x hx => by
      unfold divQ at hx
      obtain ⟨y, hy, rfl⟩ := List.mem_map.1 hx
      exact (of_weight a y ws ha ht hy).2.2.2.1
    have lQ : (divQ a ws).length = ws.length := by simp [divQ]
    have lR : (divR a ws).length = ws.length := by simp [divR]
    refine rDv_ok a ws.sum b off ws.length cap (divL a ws) ws (divQ a ws) (divR a ws) (divP a ws) w t1 t2 (by omega) ba hb hc lQ lR HW (Lib.hid fun k hk W => ?_) (Lib.hid fun k => ?_) (Lib.hid fun k hk => ?_) (by show _ = _; omega) (Lib.hid fun j us hj hu => give_round h hj hu) (Lib.hid fun j => ?_) (Lib.hid fun j i => ?_) (by show _ = _; unfold divP; rw [if_pos h])
    · have hx : ws.getD k 0 ∈ ws := at_mem hk
      obtain ⟨_, _, _, o4, o5, _, _⟩ := of_weight a _ ws ha ht hx
      rw [divQ_get a ws k hk, divR_get a ws k hk]
      exact rPr_any a _ _ _ _ W (by rw [ha, all_get ws t3 k hk, t4]; rfl) (by omega) rfl rfl (by omega)
    · have := sum_take_le (divQ a ws) q0 k; omega
    · have hx : ws.getD k 0 ∈ ws := at_mem hk
      obtain ⟨_, _, _, o4, o5, _, _⟩ := of_weight a _ ws ha ht hx
      rw [divQ_get a ws k hk]; exact ⟨o4, o5⟩
    · have := give_len j (divQ a ws, divR a ws)
      exact ⟨this.1.trans lQ, this.2.trans lR⟩
    · refine give_bd j (divQ a ws) (divR a ws) a (fun j => ?_) i
      by_cases hj : j < ws.length
      · have hx : ws.getD j 0 ∈ ws := at_mem hj
        obtain ⟨_, _, _, o4, o5, _, _⟩ := of_weight a _ ws ha ht hx
        rw [divQ_get a ws j hj]; exact ⟨o4, o5⟩
      · rw [List.getD_eq_getElem?_getD, List.getElem?_eq_none (by omega)]; simp; exact ba.1
end Go.Proofs.Ytmoeccghkpjbgaa

/- The reference of layers 1 and 23: amounts, with, Draw, take, Take, Parts. -/
namespace Go.Proofs.Ytmoeccghkpjbgaa
open Go.RowKit

theorem take_snoc (l : List Int) (k : Nat) (h : k < l.length) : l.take (k + 1) = l.take k ++ [l.getD k 0] := by
  rw [List.take_succ_eq_append_getElem h]
  simp [List.getD_eq_getElem?_getD, List.getElem?_eq_getElem h]
/-- an append of one integer in a drawn region -/
theorem step_oneI {ops : Array Oper} {o : Oper} {a : Act} {w : World} {K : Act → World → Prop} {Q : Exit → Act → World → Prop} {E : Prop} (hg : o.guard = none) (s x : Operand)
    (hop : o.op = Op.call { callee := Callee.builtin Builtin.append, args := #[s, x], argTypes := #[30, 30] }) (B n g c : Nat) (v : Value) (zs : List Int) (p : Int)
    (hs : a.eval s = v) (hx : a.eval x = .slice (some ⟨g, 0, none⟩) 1 c) (hown : w.ownsRow B 3 1 v n (zs.map (Value.int .i64))) (hn : n ≤ 1000) (hB : B ≤ w.heap.size)
    (hp : w.cell? ⟨g, 0, none⟩ = some (.int .i64 p))
    (h : ∀ v' w', w'.ownsRow B 3 1 v' (n + 1) (zs.map (Value.int .i64) ++ [.int .i64 p]) → w.grownBy w' v.ownBlock → K (a.put o.dst v') w') :
    if Region.wanted o (yielded ops a.tmps) = true then Oper.wp Try.prog o a w K Q else E := by
  obtain ⟨i0, hi, hz0, hz1, hz2⟩ := info_parts Try.info3
  rw [if_pos (by simp [Region.wanted, hg])]
  refine wp_append_own w s x 30 hop B 3 i0 (.int .i64 0) 1 8 Try.underlying30 hi hz0 hz1 hz2 rfl (by decide) v n _ hs hown ⟨g, 0, none⟩ 1 c [.int .i64 p] hx rfl (fun j u hj => ?_) (fun u hu => ?_) (by unfold maxLen; omega) (by omega) hB (fun v' w' h1 h2 _ => h v' w' h1 h2)
  · match j, hj with
    | 0, hj => simp at hj; subst hj; simpa [Addr.add] using hp
    | j + 1, hj => simp at hj
  · simp at hu; subst hu; rfl
theorem OwnI.ins {w : World} {B : Nat} {v : Value} {zs : List Int} (h : OwnI w B v zs) (hn : zs.length ≤ 1000) : Ins w v zs := by
  by_cases h0 : 0 < zs.length
  · obtain ⟨g, cap, rfl, ho⟩ := h.own rfl h0
    exact ho.ins (by omega)
  · have e : zs = [] := List.length_eq_zero_iff.1 (by omega)
    subst e
    obtain ⟨_, h2⟩ := h
    rcases h2 with ⟨rfl, _⟩ | ⟨g, cap, cur, rfl, _⟩
    · exact ⟨none, 0, rfl, by simp, .inl rfl⟩
    · exact ⟨_, cap, rfl, by simp, .inl rfl⟩
/-- what loops that put integers keep -/
def SJ (w : World) (v : Value) (L : List Int) (W : World) : Prop := Below w.heap.size w W ∧ OwnI W w.heap.size v L
theorem SJ.below {w : World} {v : Value} {L : List Int} {W W' : World} (h : SJ w v L W) (hb : Below W.heap.size W W') : SJ w v L W' := ⟨bel_trans h.1 hb, h.2.below hb⟩
theorem SJ.shape {w : World} {v : Value} {L : List Int} {W : World} (h : SJ w v L W) : ∃ a cap, v = .slice a L.length cap := by
  obtain ⟨_, _, h2⟩ := h
  rcases h2 with ⟨rfl, hn⟩ | ⟨g, cap, cur, rfl, _⟩
  · exact ⟨none, 0, by rw [hn]⟩
  · exact ⟨_, _, rfl⟩
set_option maxHeartbeats 16000000 in
set_option maxRecDepth 100000 in
theorem rsAm_any (v : Value) (s : List (Int × Int)) (w : World) (hv : Pts w v s) (hn : s.length ≤ 64) :
    Calls Try.prog 45 #[v] w fun e w' => ∃ u, e = .returned u ∧ Ins w' u (amS s) ∧ Below w.heap.size w w' := by
  obtain ⟨i0, hi, hz0, hz1, hz2⟩ := info_parts Try.info3
  replace hi := Lib.hid hi
  replace hz0 := Lib.hid hz0
  replace hz1 := Lib.hid hz1
  replace hz2 := Lib.hid hz2
  have NV0 := Lib.hid hv
  obtain ⟨a, cap, rfl, _, _⟩ := hv
  have LA := Lib.hid (amS_len s)
  obtain ⟨n, hN⟩ : ∃ n, s.length = n := ⟨_, rfl⟩
  rw [hN] at hn NV0 LA ⊢
  have S0 : Hid (SJ w (.slice (some ⟨w.heap.size, 0, none⟩) 0 0) ((amS s).take 0) (w.alloc (.cells #[] 3))) := Lib.hid ⟨bel_alloc (Below.refl _ _), RH.no_row w w.heap.size 1 3 (Nat.le_refl _)⟩
  go_enter Try.func45, Try.ntmps45
  go_wp2_with fail
  go_loopw [3, 4] (fun v ii wr => ∃ k : Nat, k ≤ n ∧ ii = .int .i64 (k : Int) ∧ Hid (SJ w v ((amS s).take k) wr)) (fun _ ii _ => n - (intOf ii).toNat)
  case atStart => exact ⟨0, Nat.zero_le _, rfl, S0⟩
  case round =>
    clear S0
    obtain ⟨k, hk, rfl, hS⟩ := hrel
    by_cases hlt : k < n
    · have l0 : (k : Int) < (n : Int) := by omega
      obtain ⟨b, off, rfl, hb, hc⟩ := (NV0.out.below hS.out.1).at (by omega)
      obtain ⟨_, c0⟩ := hc k hlt
      clear hc
      obtain ⟨av, cv, ev⟩ := hS.out.shape
      have hq : ((amS s).take k).length = k := by rw [List.length_take, LA.out]; omega
      have PK := Lib.hid (take_snoc (amS s) k (by rw [LA.out]; exact hlt))
      rw [amS_get] at PK
      rw [hq] at ev
      subst ev
      generalize (amS s).take k = T at *
      replace hq := Lib.hid hq
      generalize gR s k = x at *
      have OA : Hid ((wr.alloc (.cells #[.int .i64 x] 3)).ownsRow w.heap.size 3 1 (.slice av k cv) k (T.map (Value.int .i64))) := Lib.hid (by
        have := hS.out.2.alloc (.cells #[.int .i64 x] 3)
        unfold OwnI at this
        rwa [hq.out] at this)
      have CN := Lib.hid (cell_oneE wr (.int .i64 x) 3)
      have S5 := Lib.hid (hS.out.below (bel_alloc (o := .cells #[.int .i64 x] 3) (Below.refl _ _)))
      have HS : Hid (w.heap.size ≤ (wr.alloc (.cells #[.int .i64 x] 3)).heap.size) := Lib.hid S5.out.1.size
      have M1 : Hid (k + 1 ≤ maxLen) := Lib.hid (by unfold maxLen; omega)
      have M2 : Hid ((k + 1) * 8 ≤ 140737488355328) := Lib.hid (by omega)
      go_wp2_with (at_builtin; refine wpList_append_own_at _ rfl _ _ 30 rfl w.heap.size 3 i0 (.int .i64 0) 1 8 Try.underlying30 hi.out hz0.out hz1.out hz2.out rfl (by omega) _ _ _ rfl OA.out ⟨wr.heap.size, 0, none⟩ 1 1 [.int .i64 x] rfl rfl CN.out (by intro u hu; simp at hu; subst hu; rfl) M1.out M2.out HS.out ?_)
      intro v2 w5 hown hgrow _ _
      have SN : Hid (SJ w v2 ((amS s).take (k + 1)) w5) := Lib.hid (by
        have lt := fun r hr => (World.ownsRow.lt OA.out r hr).1
        exact ⟨S5.out.1.grown hgrow HS.out lt, by rw [PK.out]; exact OwnI.push hq.out.symm hown⟩)
      clear hown hgrow OA CN
      go_wp2
      go_roundw
      case rel => exact ⟨k + 1, by omega, by go_num, SN⟩
      case measure => simp [intOf]; omega
    · obtain rfl : n = k := by omega
      have e : (amS s).take n = amS s := List.take_of_length_le (by rw [LA.out]; omega)
      rw [e] at hS
      have PF := Lib.hid (hS.out.2.ins (by rw [LA.out]; omega))
      have XF := Lib.hid hS.out.1
      clear hS e
      go_wp2
      go_returns
      exact ⟨_, rfl, PF.out, XF.out⟩
set_option maxHeartbeats 16000000 in
set_option maxRecDepth 100000 in
theorem rsWi_any (v z : Value) (s : List (Int × Int)) (zs : List Int) (w : World) (hv : Pts w v s) (hz : Ins w z zs) (hn : s.length ≤ 64) (hl : zs.length = s.length) :
    Calls Try.prog 68 #[v, z] w fun e w' => ∃ u, e = .returned u ∧ RH.Sh w' w.heap.size u (wiS s zs s.length) ∧ Below w.heap.size w w' := by
  have NV0 := Lib.hid hv
  have NZ0 := Lib.hid hz
  obtain ⟨a, cap, rfl, _, _⟩ := hv
  obtain ⟨za, zcap, rfl, _, _⟩ := hz
  obtain ⟨n, hN⟩ : ∃ n, s.length = n := ⟨_, rfl⟩
  rw [hN] at hl hn NV0 ⊢
  rw [hl] at NZ0 ⊢
  have S0 : Hid (RH.SI w (.slice (some ⟨w.heap.size, 0, none⟩) 0 0) (wiS s zs 0) (w.alloc (.cells #[] 52))) := Lib.hid ⟨bel_alloc (Below.refl _ _), RH.no_row w w.heap.size 2 52 (Nat.le_refl _)⟩
  go_enter Try.func68, Try.ntmps68
  go_wp2_with fail
  go_loopw [5, 6] (fun v ii wr => ∃ k : Nat, k ≤ n ∧ ii = .int .i64 (k : Int) ∧ Hid (RH.SI w v (wiS s zs k) wr)) (fun _ ii _ => n - (intOf ii).toNat)
  case atStart => exact ⟨0, Nat.zero_le _, rfl, S0⟩
  case round =>
    clear S0
    obtain ⟨k, hk, rfl, hS⟩ := hrel
    by_cases hlt : k < n
    · have l0 : (k : Int) < (n : Int) := by omega
      obtain ⟨b, off, rfl, hb, hc⟩ := (NV0.out.below hS.out.1).at (by omega)
      obtain ⟨c0, _⟩ := hc k hlt
      clear hc
      have hzc : ∃ zb zo, za = some ⟨zb, zo, none⟩ ∧ wr.cell? ⟨zb, zo + k, none⟩ = some (.int .i64 (zs.getD k 0)) := by
        obtain ⟨a', c', e, _, hin⟩ := NZ0.out.below hS.out.1
        simp only [Value.slice.injEq] at e
        rcases hin with hin | ⟨zb, zo, e2, _, hc⟩
        · omega
        · exact ⟨zb, zo, by rw [e.1, e2], hc k (by omega)⟩
      obtain ⟨zb, zo, rfl, z0⟩ := hzc
      obtain ⟨av, cv, ev⟩ := hS.out.2.shape
      have hln := wiS_len s zs k
      have PK : Hid (wiS s zs (k + 1) = if 0 < zs.getD k 0 then wiS s zs k ++ [(gX s k, zs.getD k 0)] else wiS s zs k) := Lib.hid rfl
      generalize hT : wiS s zs k = T at *
      replace hT := Lib.hid hT
      obtain ⟨q, hq⟩ : ∃ q, T.length = q := ⟨_, rfl⟩
      rw [hq] at ev hln
      subst ev
      replace hq := Lib.hid hq
      generalize gX s k = x at *
      generalize zs.getD k 0 = r at *
      by_cases e1 : 0 < r
      · have e1' : decide (0 < r) = true := decide_eq_true e1
        replace PK : Hid (wiS s zs (k + 1) = T ++ [(x, r)]) := Lib.hid (by rw [PK.out, if_pos e1])
        clear e1
        have OA : Hid (∀ o, (wr.drew.alloc o).ownsRow w.heap.size 52 2 (.slice av q cv) q (flat T)) := Lib.hid (fun o => by
          have := (show RH.Sh wr.drew w.heap.size (.slice av q cv) T from hS.out.2).below (bel_alloc (o := o) (Below.refl _ _))
          unfold RH.Sh at this
          rwa [hq.out] at this)
        have hsz : Hid (w.heap.size ≤ wr.heap.size) := Lib.hid hS.out.1.size
        go_wp2_with fail
        go_region_law (refine RH.step_one rfl (.tmp 19) (.tmp 30) rfl w.heap.size q wr.heap.size 1 _ T x r (by simp [Act.eval, Act.put]) (by simp [Act.eval, Act.put]) (OA.out _) (by omega) (by have := hsz.out; simp; omega) (by simp [go_sem]) (by simp [go_sem]) ?_; intro v' w1 hown' hgrow)
        all_goals
          have SN : Hid (RH.SI w v' (wiS s zs (k + 1)) w1) := Lib.hid (by
            have lt := fun r hr => (World.ownsRow.lt (OA.out (.cells #[] 3)) r hr).1
            exact ⟨(bel_trans hS.out.1 (bel_trans (bel_drew wr) (bel_alloc (Below.refl _ _)))).grown hgrow (by have := hsz.out; simp; omega) lt, RH.push PK.out hq.out hown'⟩)
          clear hown' hgrow OA
          go_wp2
          go_roundw
          case rel => exact ⟨k + 1, by omega, by go_num, SN⟩
          case measure => simp [intOf]; omega
      · have e1' : decide (0 < r) = false := decide_eq_false e1
        replace PK : Hid (wiS s zs (k + 1) = T) := Lib.hid (by rw [PK.out, if_neg e1])
        clear e1
        have SN : Hid (RH.SI w (.slice av q cv) (wiS s zs (k + 1)) wr) := Lib.hid (by rw [PK.out]; exact hS.out)
        go_wp2
        go_roundw
        case rel => exact ⟨k + 1, by omega, by go_num, SN⟩
        case measure => simp [intOf]; omega
    · obtain rfl : n = k := by omega
      have PF := Lib.hid hS.out.2
      have XF := Lib.hid hS.out.1
      clear hS
      go_wp2
      go_returns
      exact ⟨_, rfl, PF.out, XF.out⟩
end Go.Proofs.Ytmoeccghkpjbgaa
