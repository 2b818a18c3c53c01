/-
  The statement MixBetween of spile/spilelaw21 holds: for every input the call returns true, and each argument reads afterwards as it read before.
-/
import Derived.Test.YtfkcgdnpfngdkaaM2
import Derived.Below
import Derived.Carry

set_option linter.unusedVariables false
set_option linter.unusedSimpArgs false

namespace Go.Proofs.Ytfkcgdnpfngdkaa.mixBetween
open Go.ChangeShapes Go.WideShapes Go.ChangeAt Go.RowKit
open Go.ChangeMaps (open_string shut_string)
set_option linter.unusedVariables false

/-- which ends were found -/
def fb (p q : Bool) : Int := (if p then 1 else 0) + (if q then 2 else 0)
def fo (t l : List (Int × Int)) (E : Int) : Nat → Bool
  | 0 => false
  | k + 1 => fo t l E k || (!(gR l k == 0) && (sgV t (gX l k) (gR l k) == E))
theorem fb1 (p q : Bool) : bits .or .i64 (fb p q) 1 = fb true q := by cases p <;> cases q <;> decide
theorem fb2 (p q : Bool) : bits .or .i64 (fb p q) 2 = fb p true := by cases p <;> cases q <;> decide
theorem fo_hit {t l : List (Int × Int)} {E : Int} {j : Nat} (h1 : gR l j ≠ 0) (h2 : sgV t (gX l j) (gR l j) = E) : ∀ k, j < k → fo t l E k = true
  | 0, h => by omega
  | k + 1, h => by
    unfold fo
    by_cases e : j = k
    · subst e
      simp [h1, h2]
    · rw [fo_hit h1 h2 k (by omega)]; rfl
theorem lo_hi (t l : List (Int × Int)) : ∀ k, loB t l k ≤ 10000 ∧ 0 ≤ hiB t l k ∧ (∀ j, j < k → 0 < gR l j → loB t l k ≤ sgV t (gX l j) (gR l j) ∧ sgV t (gX l j) (gR l j) ≤ hiB t l k)
  | 0 => ⟨by unfold loB; omega, by unfold hiB; omega, fun j hj => by omega⟩
  | k + 1 => by
    obtain ⟨i1, i2, i3⟩ := lo_hi t l k
    unfold loB hiB
    by_cases h : 0 < gR l k
    · rw [if_pos h, if_pos h]
      refine ⟨by omega, by omega, fun j hj h0 => ?_⟩
      by_cases e : j = k
      · subst e; omega
      · have := i3 j (by omega) h0; omega
    · rw [if_neg h, if_neg h]
      refine ⟨i1, i2, fun j hj h0 => ?_⟩
      by_cases e : j = k
      · subst e; exact absurd h0 h
      · exact i3 j (by omega) h0
theorem ends_met (t l : List (Int × Int)) (hb : ∀ j, 0 ≤ sgV t (gX l j) (gR l j) ∧ sgV t (gX l j) (gR l j) ≤ 10000) : ∀ k, (∃ j, j < k ∧ 0 < gR l j) → (∃ j, j < k ∧ 0 < gR l j ∧ sgV t (gX l j) (gR l j) = loB t l k) ∧ ∃ j, j < k ∧ 0 < gR l j ∧ sgV t (gX l j) (gR l j) = hiB t l k
  | 0, ⟨j, hj, _⟩ => by omega
  | k + 1, ⟨j, hj, h0⟩ => by
    obtain ⟨i1, i2, i3⟩ := lo_hi t l k
    by_cases ex : ∃ j, j < k ∧ 0 < gR l j
    · obtain ⟨⟨p, p1, p2, p3⟩, q, q1, q2, q3⟩ := ends_met t l hb k ex
      unfold loB hiB
      by_cases h : 0 < gR l k
      · rw [if_pos h, if_pos h]
        constructor
        · by_cases c : sgV t (gX l k) (gR l k) ≤ loB t l k
          · exact ⟨k, by omega, h, by omega⟩
          · exact ⟨p, by omega, p2, by omega⟩
        · by_cases c : hiB t l k ≤ sgV t (gX l k) (gR l k)
          · exact ⟨k, by omega, h, by omega⟩
          · exact ⟨q, by omega, q2, by omega⟩
      · rw [if_neg h, if_neg h]
        exact ⟨⟨p, by omega, p2, p3⟩, q, by omega, q2, q3⟩
    · obtain rfl : j = k := by
        by_cases e : j = k
        · exact e
        · exact absurd ⟨j, by omega, h0⟩ ex
      have z : ∀ i, (∀ j, j < i → ¬ 0 < gR l j) → loB t l i = 10000 ∧ hiB t l i = 0 := by
        intro i
        induction i with
        | zero => intro _; exact ⟨rfl, rfl⟩
        | succ i ih =>
          intro hi
          have := ih fun j hj => hi j (by omega)
          unfold loB hiB
          rw [if_neg (hi i (by omega)), if_neg (hi i (by omega))]
          exact this
      have z' := z j fun i hi g => ex ⟨i, hi, g⟩
      have hb' := hb j
      unfold loB hiB
      rw [if_pos h0, if_pos h0, z'.1, z'.2]
      exact ⟨⟨j, by omega, h0, by omega⟩, j, by omega, h0, by omega⟩
theorem sm_cons (q : Int × Int) (m : List (Int × Int)) : sm fA (q :: m) = q.1 + sm fA m ∧ sm fM (q :: m) = q.2 + sm fM m := by simp [sm, fA, fM]
theorem sum_ge {s d : Int} : ∀ m : List (Int × Int), (∀ q ∈ m, q.2 * s ≤ q.1 * d) → sm fM m * s ≤ sm fA m * d
  | [], _ => by simp [sm]
  | q :: m, h => by
    have i := sum_ge m fun x hx => h x (List.mem_cons_of_mem _ hx)
    have j := h q List.mem_cons_self
    rw [(sm_cons q m).1, (sm_cons q m).2, Int.add_mul, Int.add_mul]
    omega
theorem sum_le {s d : Int} : ∀ m : List (Int × Int), (∀ q ∈ m, q.1 * d ≤ q.2 * s) → sm fA m * d ≤ sm fM m * s
  | [], _ => by simp [sm]
  | q :: m, h => by
    have i := sum_le m fun x hx => h x (List.mem_cons_of_mem _ hx)
    have j := h q List.mem_cons_self
    rw [(sm_cons q m).1, (sm_cons q m).2, Int.add_mul, Int.add_mul]
    omega
theorem sum_lt' {s d : Int} : ∀ m : List (Int × Int), (∀ q ∈ m, q.1 * d ≤ q.2 * s) → (∃ q ∈ m, q.1 * d < q.2 * s) → sm fA m * d < sm fM m * s
  | [], _, ⟨q, hq, _⟩ => by cases hq
  | q :: m, h, ⟨x, hx, g⟩ => by
    have j := h q List.mem_cons_self
    rw [(sm_cons q m).1, (sm_cons q m).2, Int.add_mul, Int.add_mul]
    rcases List.mem_cons.1 hx with rfl | hx
    · have i := sum_le m fun x hx => h x (List.mem_cons_of_mem _ hx)
      omega
    · have i := sum_lt' m (fun x hx => h x (List.mem_cons_of_mem _ hx)) ⟨x, hx, g⟩
      omega
theorem has_pos : ∀ m : List (Int × Int), sm fM m ≠ 0 → ∃ q ∈ m, q.2 ≠ 0
  | [], h => absurd rfl h
  | q :: m, h => by
    by_cases e : q.2 = 0
    · rw [(sm_cons q m).2, e, Int.zero_add] at h
      obtain ⟨x, hx, g⟩ := has_pos m h
      exact ⟨x, List.mem_cons_of_mem _ hx, g⟩
    · exact ⟨q, List.mem_cons_self, e⟩
/-- what holds of the ends -/
structure EN (t l : List (Int × Int)) : Prop where
  row : ∀ j, j < l.length → gR l j ≠ 0 → loB t l l.length ≤ sgV t (gX l j) (gR l j) ∧ sgV t (gX l j) (gR l j) ≤ hiB t l l.length
  low : fo t l (loB t l l.length) l.length = true
  high : fo t l (hiB t l l.length) l.length = true
  mid : loB t l l.length ≤ sgV t (sm fA l) (sm fM l) ∧ sgV t (sm fA l) (sm fM l) ≤ hiB t l l.length
theorem mem_at {l : List (Int × Int)} {q : Int × Int} (h : q ∈ l) : ∃ j, j < l.length ∧ gX l j = q.1 ∧ gR l j = q.2 := by
  obtain ⟨i, hi, e⟩ := List.getElem_of_mem h
  exact ⟨i, hi, by simp [gX, List.getD_eq_getElem?_getD, List.getElem?_eq_getElem hi, e], by simp [gR, List.getD_eq_getElem?_getD, List.getElem?_eq_getElem hi, e]⟩
theorem ends_ok {t l : List (Int × Int)} (h : riE t l = 0) (hM : sm fM l ≠ 0) : EN t l := by
  obtain ⟨hn, hD, hL, hP⟩ := riE_zero.1 h
  have LM := mix_right h
  obtain ⟨b1, b2, b3⟩ := lo_hi t l l.length
  have pos : ∀ j, j < l.length → gR l j ≠ 0 → 0 < gR l j := fun j hj g => by have := (hL j hj).m0; omega
  have hb : ∀ j, 0 ≤ sgV t (gX l j) (gR l j) ∧ sgV t (gX l j) (gR l j) ≤ 10000 := fun j => by
    unfold sgV; split
    · have := sgN_le t (gX l j) (gR l j); omega
    · omega
  obtain ⟨q, hq, hq0⟩ := has_pos l hM
  obtain ⟨jq, hjq, e1, e2⟩ := mem_at hq
  have ex : ∃ j, j < l.length ∧ 0 < gR l j := ⟨jq, hjq, pos jq hjq (by rw [e2]; exact hq0)⟩
  obtain ⟨⟨p, p1, p2, p3⟩, r, r1, r2, r3⟩ := ends_met t l hb l.length ex
  refine ⟨fun j hj g => b3 j hj (pos j hj g), fo_hit (by omega) p3 _ p1, fo_hit (by omega) r3 _ r1, ?_⟩
  rw [(sgV_ok hD LM).1]
  have lo0 : 0 ≤ loB t l l.length := by rw [← p3]; exact (hb p).1
  have hi1 : hiB t l l.length ≤ 10000 := by rw [← r3]; exact (hb r).2
  generalize loB t l l.length = LO at *
  generalize hiB t l l.length = HI at *
  constructor
  · refine (sgN_iff hD LM hM lo0 b1).1 (sum_ge l fun x hx => ?_)
    obtain ⟨j, hj, g1, g2⟩ := mem_at hx
    rw [← g1, ← g2]
    by_cases z : gR l j = 0
    · rw [(hL j hj).zero hD z, z]; omega
    · have := (b3 j hj (pos j hj z)).1
      rw [(sgV_ok hD (hL j hj)).1] at this
      exact (sgN_iff hD (hL j hj) z lo0 b1).2 this
  · rcases Int.lt_or_le HI (sgN t (sm fA l) (sm fM l)) with c | c
    · exfalso
      have le := sgN_le t (sm fA l) (sm fM l)
      have k1 := (sgN_iff hD LM hM (s := HI + 1) (by omega) (by omega)).2 (by omega)
      have k2 : sm fA l * atD t (HI + 1) < sm fM l * (HI + 1) := by
        have str : ∀ j, j < l.length → gR l j ≠ 0 → gX l j * atD t (HI + 1) < gR l j * (HI + 1) := fun j hj z => by
          rcases Int.lt_or_le (gX l j * atD t (HI + 1)) (gR l j * (HI + 1)) with d | d
          · exact d
          · have := (sgN_iff hD (hL j hj) z (s := HI + 1) (by omega) (by omega)).1 d
            have g := (b3 j hj (pos j hj z)).2
            rw [(sgV_ok hD (hL j hj)).1] at g
            omega
        refine sum_lt' l (fun x hx => ?_) ⟨q, hq, ?_⟩
        · obtain ⟨j, hj, g1, g2⟩ := mem_at hx
          rw [← g1, ← g2]
          by_cases z : gR l j = 0
          · rw [(hL j hj).zero hD z, z]; omega
          · exact Int.le_of_lt (str j hj z)
        · rw [← e1, ← e2]; exact str jq hjq (by rw [e2]; exact hq0)
      omega
    · exact c
set_option maxHeartbeats 16000000 in
set_option maxRecDepth 100000 in
theorem long1 (a : Option Addr) (n cap : Nat) (b : Option Addr) (m cap2 : Nat) (t l : List (Int × Int)) (w : World) (NV : Hid (Pts w (.slice a n cap) t)) (LV : Hid (Pts w (.slice b m cap2) l)) (hf : fwB t.length = false) :
    Calls Try.prog 7 #[.slice a n cap, .slice b m cap2] w fun e w' => e = .returned (.bool true) ∧ Below w.heap.size w w' := by
  have HA := Lib.hid (fun W => awakeM_any W)
  have FW := Lib.hid (fun v W h => few_any v t W h)
  rw [hf] at FW
  have HB := Lib.hid (Below.refl w.heap.size w)
  go_enter Try.func7, Try.ntmps7
  go_wp2_with fail
  refine (HA.out _).mono ?_
  rintro e w3 ⟨rfl, h1⟩
  replace NV := Lib.hid (NV.out.below h1)
  replace LV := Lib.hid (LV.out.below h1)
  replace HB := Lib.hid (bel_trans HB.out h1); clear h1
  go_wp2_with fail
  refine (FW.out _ _ NV.out).mono ?_
  rintro e w90 ⟨rfl, hw⟩
  subst hw
  go_wp2
  go_returns
  exact ⟨rfl, HB.out⟩
set_option maxHeartbeats 16000000 in
set_option maxRecDepth 100000 in
theorem long2 (a : Option Addr) (n cap : Nat) (b : Option Addr) (m cap2 : Nat) (t l : List (Int × Int)) (w : World) (NV : Hid (Pts w (.slice a n cap) t)) (LV : Hid (Pts w (.slice b m cap2) l)) (hf : fwB t.length = true) (d : decide (8 < (m : Int)) = true) :
    Calls Try.prog 7 #[.slice a n cap, .slice b m cap2] w fun e w' => e = .returned (.bool true) ∧ Below w.heap.size w w' := by
  have HA := Lib.hid (fun W => awakeM_any W)
  have FW := Lib.hid (fun v W h => few_any v t W h)
  rw [hf] at FW
  have HB := Lib.hid (Below.refl w.heap.size w)
  go_enter Try.func7, Try.ntmps7
  go_wp2_with fail
  refine (HA.out _).mono ?_
  rintro e w6 ⟨rfl, h1⟩
  replace NV := Lib.hid (NV.out.below h1)
  replace LV := Lib.hid (LV.out.below h1)
  replace HB := Lib.hid (bel_trans HB.out h1); clear h1
  go_wp2_with fail
  refine (FW.out _ _ NV.out).mono ?_
  rintro e w90 ⟨rfl, hw⟩
  subst hw
  go_wp2
  go_returns
  exact ⟨rfl, HB.out⟩
set_option maxHeartbeats 16000000 in
set_option maxRecDepth 100000 in
theorem bad (a : Option Addr) (n cap : Nat) (b : Option Addr) (m cap2 : Nat) (t l : List (Int × Int)) (E : Int) (w : World) (NV : Hid (Pts w (.slice a n cap) t)) (LV : Hid (Pts w (.slice b m cap2) l)) (hf : fwB t.length = true) (d : decide (8 < (m : Int)) = false) (hE : (E != 0) = true) (C1 : Hid (∀ W, Pts W (.slice a n cap) t → Pts W (.slice b m cap2) l → Calls Try.prog 21 #[.slice a n cap, .slice b m cap2] W fun e w' => e = .returned (.tuple #[.agg #[.int .i64 0, .int .i64 0], .int .i64 0, .int .i64 E]) ∧ Below W.heap.size W w')) :
    Calls Try.prog 7 #[.slice a n cap, .slice b m cap2] w fun e w' => e = .returned (.bool true) ∧ Below w.heap.size w w' := by
  have qz : ∀ W, (binOp .eql 41 (.agg #[.int .i64 0, .int .i64 0]) (.agg #[.int .i64 0, .int .i64 0])).run Try.prog W = .ok (.bool true) W := fun W => by rw [run_eql_bounds]; simp [samP, samB]
  have HA := Lib.hid (fun W => awakeM_any W)
  have FW := Lib.hid (fun v W h => few_any v t W h)
  rw [hf] at FW
  have HB := Lib.hid (Below.refl w.heap.size w)
  go_enter Try.func7, Try.ntmps7
  go_wp2_with fail
  refine (HA.out _).mono ?_
  rintro e w9 ⟨rfl, h1⟩
  replace NV := Lib.hid (NV.out.below h1)
  replace LV := Lib.hid (LV.out.below h1)
  replace HB := Lib.hid (bel_trans HB.out h1); clear h1
  go_wp2_with fail
  refine (FW.out _ _ NV.out).mono ?_
  rintro e w90 ⟨rfl, hw⟩
  subst hw
  go_wp2_with fail
  refine (C1.out _ NV.out LV.out).mono ?_
  rintro e w10 ⟨rfl, h1⟩
  replace NV := Lib.hid (NV.out.below h1)
  replace LV := Lib.hid (LV.out.below h1)
  replace HB := Lib.hid (bel_trans HB.out h1); clear h1
  have T5 := Lib.hid (Two.new (w10) (.int .i64 0) (.int .i64 0) 41)
  replace NV := Lib.hid (NV.out.alloc (.cells #[.int .i64 0, .int .i64 0] 41))
  replace LV := Lib.hid (LV.out.alloc (.cells #[.int .i64 0, .int .i64 0] 41))
  replace HB := Lib.hid (bel_trans HB.out (bel_alloc (Below.refl _ ((w10).alloc (.cells #[.int .i64 0, .int .i64 0] 41)))))
  obtain ⟨T50, T51, T52, T53, T54⟩ := T5.out
  go_wp2
  go_returns
  exact ⟨rfl, HB.out⟩
set_option maxHeartbeats 16000000 in
set_option maxRecDepth 100000 in
theorem good (a : Option Addr) (n cap : Nat) (b : Option Addr) (m cap2 : Nat) (t l : List (Int × Int)) (LO HI S A M F : Int) (w : World) (NV : Hid (Pts w (.slice a n cap) t)) (LV : Hid (Pts w (.slice b m cap2) l)) (hf : fwB t.length = true) (d : decide (8 < (m : Int)) = false) (hl : Hid (l.length = m)) (hS : LO ≤ S ∧ S ≤ HI) (hr : Hid (∀ j, j < m → gR l j ≠ 0 → meE t (gX l j) (gR l j) = 0 ∧ LO ≤ sgV t (gX l j) (gR l j) ∧ sgV t (gX l j) (gR l j) ≤ HI)) (h1 : Hid (fo t l LO m = true)) (h2 : Hid (fo t l HI m = true))
    (C1 : Hid (∀ W, Pts W (.slice a n cap) t → Pts W (.slice b m cap2) l → Calls Try.prog 21 #[.slice a n cap, .slice b m cap2] W fun e w' => e = .returned (.tuple #[.agg #[.int .i64 LO, .int .i64 HI], .int .i64 S, .int .i64 0]) ∧ Below W.heap.size W w')) (C2 : Hid (∀ W, Pts W (.slice b m cap2) l → Calls Try.prog 11 #[.slice b m cap2] W fun e w' => e = .returned (.tuple #[.agg #[.int .i64 A, .int .i64 M], .int .i64 0]) ∧ Below W.heap.size W w')) (C3 : Hid (∀ W, Pts W (.slice a n cap) t → Calls Try.prog 23 #[.slice a n cap, .agg #[.int .i64 A, .int .i64 M]] W fun e w' => e = .returned (.tuple #[.int .i64 S, .int .i64 0]) ∧ Below W.heap.size W w')) :
    Calls Try.prog 7 #[.slice a n cap, .slice b m cap2] w fun e w' => e = .returned (.bool true) ∧ Below w.heap.size w w' := by
  have hm8 : m ≤ 8 := by have := of_decide_eq_false d; omega
  have NV0 := Lib.hid NV.out
  have LV0 := Lib.hid LV.out
  have s1 : decide (S < LO) = false := decide_eq_false (by omega)
  have s2 : decide (HI < S) = false := decide_eq_false (by omega)
  have f1 := fb1
  have f2 := fb2
  have f3 : ((fb true true) == 3) = true := by decide
  have HA := Lib.hid (fun W => awakeM_any W)
  have FW := Lib.hid (fun v W h => few_any v t W h)
  rw [hf] at FW
  have HB := Lib.hid (Below.refl w.heap.size w)
  go_enter Try.func7, Try.ntmps7
  go_wp2_with fail
  refine (HA.out _).mono ?_
  rintro e w15 ⟨rfl, h1⟩
  replace NV := Lib.hid (NV.out.below h1)
  replace LV := Lib.hid (LV.out.below h1)
  replace HB := Lib.hid (bel_trans HB.out h1); clear h1
  go_wp2_with fail
  refine (FW.out _ _ NV.out).mono ?_
  rintro e w90 ⟨rfl, hw⟩
  subst hw
  go_wp2_with fail
  refine (C1.out _ NV.out LV.out).mono ?_
  rintro e w16 ⟨rfl, h1⟩
  replace NV := Lib.hid (NV.out.below h1)
  replace LV := Lib.hid (LV.out.below h1)
  replace HB := Lib.hid (bel_trans HB.out h1); clear h1
  have T5 := Lib.hid (Two.new (w16) (.int .i64 LO) (.int .i64 HI) 41)
  replace NV := Lib.hid (NV.out.alloc (.cells #[.int .i64 LO, .int .i64 HI] 41))
  replace LV := Lib.hid (LV.out.alloc (.cells #[.int .i64 LO, .int .i64 HI] 41))
  replace HB := Lib.hid (bel_trans HB.out (bel_alloc (Below.refl _ ((w16).alloc (.cells #[.int .i64 LO, .int .i64 HI] 41)))))
  obtain ⟨T50, T51, T52, T53, T54⟩ := T5.out
  go_wp2_with fail
  refine (C2.out _ LV.out).mono ?_
  rintro e w20 ⟨rfl, h1⟩
  replace NV := Lib.hid (NV.out.below h1)
  replace LV := Lib.hid (LV.out.below h1)
  replace T5 := Lib.hid (T5.out.below h1)
  replace HB := Lib.hid (bel_trans HB.out h1); clear h1
  have T8 := Lib.hid (Two.new (w20) (.int .i64 A) (.int .i64 M) 24)
  replace NV := Lib.hid (NV.out.alloc (.cells #[.int .i64 A, .int .i64 M] 24))
  replace LV := Lib.hid (LV.out.alloc (.cells #[.int .i64 A, .int .i64 M] 24))
  replace T5 := Lib.hid (T5.out.alloc (.cells #[.int .i64 A, .int .i64 M] 24))
  replace HB := Lib.hid (bel_trans HB.out (bel_alloc (Below.refl _ ((w20).alloc (.cells #[.int .i64 A, .int .i64 M] 24)))))
  obtain ⟨T50, T51, T52, T53, T54⟩ := T5.out
  obtain ⟨T80, T81, T82, T83, T84⟩ := T8.out
  go_wp2_with fail
  refine (C3.out _ NV.out).mono ?_
  rintro e w23 ⟨rfl, h1⟩
  replace NV := Lib.hid (NV.out.below h1)
  replace LV := Lib.hid (LV.out.below h1)
  replace T5 := Lib.hid (T5.out.below h1)
  replace T8 := Lib.hid (T8.out.below h1)
  replace HB := Lib.hid (bel_trans HB.out h1); clear h1
  obtain ⟨T50, T51, T52, T53, T54⟩ := T5.out
  go_wp2_with fail
  clear T50 T51 T52 T53 T54
  generalize w16.heap.size = g at *
  go_loopw [12, 79] (fun s i wr => ∃ k : Nat, k ≤ m ∧ i = .int .i64 k ∧ s = .int .i64 (fb (fo t l LO k) (fo t l HI k)) ∧ Hid (Below w.heap.size w wr) ∧ Hid (Two g wr (.int .i64 LO) (.int .i64 HI))) (fun _ i _ => m - (intOf i).toNat)
  case atStart => exact ⟨0, Nat.zero_le _, rfl, rfl, HB, T5⟩
  case round =>
    clear HB T5 NV LV T8 C1 C2 C3
    obtain ⟨k, hk, rfl, rfl, X, T5⟩ := hrel
    have NV := Lib.hid (NV0.out.below X.out)
    have LV := Lib.hid (LV0.out.below X.out)
    by_cases hlt : k < m
    · have l9 : (k : Int) < (m : Int) := by omega
      have r := hr.out k hlt
      have HV := Lib.hid (fun W h => alSt_any (.slice a n cap) t (gX l k) (gR l k) W h)
      have u1 : fo t l LO (k + 1) = (fo t l LO k || (!(gR l k == 0) && (sgV t (gX l k) (gR l k) == LO))) := rfl
      have u2 : fo t l HI (k + 1) = (fo t l HI k || (!(gR l k == 0) && (sgV t (gX l k) (gR l k) == HI))) := rfl
      obtain ⟨vb, off, rfl, hb, hc⟩ := LV.out.at (by omega)
      obtain ⟨c0, c1⟩ := hc k hlt
      clear hc
      generalize meE t (gX l k) (gR l k) = E1 at *
      generalize sgV t (gX l k) (gR l k) = V at *
      generalize gX l k = x at *
      generalize gR l k = y at *
      generalize fo t l LO k = p at *
      generalize fo t l HI k = q at *
      have Q0 := Lib.hid (Two.new wr (.int .i64 x) (.int .i64 y) 24)
      replace X := Lib.hid (bel_trans X.out (bel_alloc (o := .cells #[.int .i64 x, .int .i64 y] 24) (Below.refl _ _)))
      replace NV := Lib.hid (NV.out.alloc (.cells #[.int .i64 x, .int .i64 y] 24))
      replace T5 := Lib.hid (T5.out.alloc (.cells #[.int .i64 x, .int .i64 y] 24))
      by_cases hy : y = 0
      · obtain rfl := hy
        have d : ((0 : Int) == 0) = true := rfl
        rw [d, Bool.not_true, Bool.false_and, Bool.or_false] at u1 u2
        replace u1 := Lib.hid u1
        replace u2 := Lib.hid u2
        obtain ⟨q0, q1, _, _, _⟩ := Q0.out
        go_wp2
        go_roundw
        case rel => exact ⟨k + 1, by omega, by go_num, by rw [u1.out, u2.out], X, T5⟩
        case measure => simp [intOf]; omega
      · have d : (y == 0) = false := by simpa using hy
        rw [d, Bool.not_false, Bool.true_and] at u1 u2
        obtain ⟨rfl, r1, r2⟩ := r hy
        have d1 : decide (V < LO) = false := decide_eq_false (by omega)
        have d2 : decide (HI < V) = false := decide_eq_false (by omega)
        obtain ⟨q0, q1, _, _, _⟩ := Q0.out
        go_wp2_with fail
        refine (HV.out _ NV.out).mono ?_
        rintro e w3 ⟨rfl, hb3⟩
        replace X := Lib.hid (bel_trans X.out hb3)
        replace T5 := Lib.hid (T5.out.below hb3)
        clear hb3 q0 q1
        obtain ⟨t0, t1, _, _, _⟩ := T5.out
        cases d3 : (V == LO) <;> cases d4 : (V == HI)
        all_goals
          rw [d3] at u1
          rw [d4] at u2
          first | rw [Bool.or_false] at u1 | rw [Bool.or_true] at u1
          first | rw [Bool.or_false] at u2 | rw [Bool.or_true] at u2
          replace u1 := Lib.hid u1
          replace u2 := Lib.hid u2
          go_wp2
          go_roundw
          case rel => exact ⟨k + 1, by omega, by go_num, by rw [u1.out, u2.out], X, T5⟩
          case measure => simp [intOf]; omega
    · obtain rfl : k = m := by omega
      rw [h1.out, h2.out]
      go_wp2
      go_returns
      exact ⟨rfl, X.out⟩
theorem walk (v : Value) (t : List (Int × Int)) (u : Value) (l : List (Int × Int)) (w : World) (hv : Pts w v t) (hu : Pts w u l) :
    Calls Try.prog 7 #[v, u] w fun e w' => e = .returned (.bool true) ∧ Below w.heap.size w w' := by
  obtain ⟨a, cap, rfl, _, _⟩ := id hv
  obtain ⟨b, cap2, rfl, hcl, _⟩ := id hu
  cases hf : fwB t.length with
  | false => exact long1 a _ cap b _ cap2 t l w hv hu hf
  | true =>
    by_cases h8 : 8 < l.length
    · exact long2 a _ cap b _ cap2 t l w hv hu hf (decide_eq_true (by omega))
    · have C1 := fun W h g => mxBe_any (.slice a t.length cap) (.slice b l.length cap2) t l W h g
      by_cases he : beE t l = 0
      · have hr : riE t l = 0 := by
          by_cases e : riE t l = 0
          · exact e
          · unfold beE at he; rw [if_pos e] at he; exact absurd he e
        have hM : sm fM l ≠ 0 := by
          intro e
          unfold beE at he; rw [if_neg (by omega), if_pos e] at he; cases he
        have en := ends_ok hr hM
        obtain ⟨hn, hD, hL, hP⟩ := riE_zero.1 hr
        have hs : suE l = 0 := by
          have := hr
          unfold riE at this
          rw [if_neg h8] at this
          by_cases g : dnE t ≠ 0 ∨ ∃ j, j < l.length ∧ wrB t l j = true
          · rw [if_pos g] at this; cases this
          · rwa [if_neg g] at this
        have C2 := fun W h => mxSu_any (.slice b l.length cap2) l W h
        rw [hs, (suV_ok hs).1, (suV_ok hs).2] at C2
        have C3 := fun W h => alSt_any (.slice a t.length cap) t (sm fA l) (sm fM l) W h
        rw [show meE t (sm fA l) (sm fM l) = 0 by unfold meE; rw [if_pos (alE_zero.2 ⟨hD, mix_right hr⟩)]] at C3
        rw [he] at C1
        rw [show beL t l = loB t l l.length by unfold beL; rw [if_pos he], show beH t l = hiB t l l.length by unfold beH; rw [if_pos he], show beS t l = sgV t (sm fA l) (sm fM l) by unfold beS; rw [if_pos he]] at C1
        exact good a _ cap b _ cap2 t l _ _ _ _ _ 0 w hv hu hf (decide_eq_false (by omega)) rfl en.mid (Lib.hid fun j hj g => ⟨by unfold meE; rw [if_pos (alE_zero.2 ⟨hD, hL j hj⟩)], en.row j hj g⟩) en.low en.high (Lib.hid C1) (Lib.hid C2) (Lib.hid C3)
      · rw [show beL t l = 0 by unfold beL; rw [if_neg he], show beH t l = 0 by unfold beH; rw [if_neg he], show beS t l = 0 by unfold beS; rw [if_neg he]] at C1
        exact bad a _ cap b _ cap2 t l _ w hv hu hf (decide_eq_false (by omega)) (by rw [bne_iff_ne]; exact he) (Lib.hid C1)

set_option maxRecDepth 100000 in
theorem lifted (os : Os) (started : os.Started) (H : Type) (enc : TypeId × Value → H) :
    ReturnsInHanded {} Try.checked os 7 .any (Rows.mixBetweenSpec.pre6 enc Try.prog Try.f7 Rows.mixBetweenRow.domain false) (Rows.mixBetweenSpec.post enc Try.prog Try.f7 false true false false) := by
  refine returnsInHanded_of_change (C := Try.checked) own started (by kernel_rfl) Try.func7
    (ChangeSpec.witness6 (enc := enc) (C := Try.checked) false ⟨#[], #[.slice none 0 0, .slice none 0 0], []⟩ 8 (by kernel_rfl) (by kernel_rfl) (by kernel_rfl) (by kernel_rfl)) ?_
  intro W base args ds gs before hval0 hW hcnd _
  have hval : ∀ (j : Nat) t v, Try.f7.params[j]? = some t → args[j]? = some v → Value.okWide Try.prog W .any base t v := hval0
  clear hval0
  have hW' := hW
  obtain ⟨p, q, hA0, hV, rfl, hfz, hnd⟩ := hW
  have hA : DataW.TrodAll enc Try.prog W 0 (fun _ => true) true Try.f7.params.toList args.toList ds p := hA0
  rw [Try.params7] at hA hval
  obtain ⟨v0, vs0, d0, ds0, p0, q0, hargs, rfl, rfl, h0, r0⟩ := trodAll_cons hA
  obtain ⟨v1, vs1, d1, ds1, p1, q1, rfl, rfl, rfl, h1, r1⟩ := trodAll_cons r0
  obtain ⟨rfl, rfl, rfl⟩ := trodAll_nil r1
  obtain rfl : args = #[v0, v1] := by cases args; simp_all
  obtain ⟨rfl, rfl⟩ := trodVars_none hV
  have k0 := h0
  have lt0 : ∀ x ∈ p0, x.block < W.heap.size := by obtain ⟨m, hm⟩ := k0; exact DataW.trod_lt m _ _ _ hm
  have k1 := h1
  have lt1 : ∀ x ∈ p1, x.block < W.heap.size := by obtain ⟨m, hm⟩ := k1; exact DataW.trod_lt m _ _ _ hm
  obtain ⟨z0, w0⟩ := open_pts (hval 0 36 v0 rfl rfl) h0
  obtain ⟨z1, w1⟩ := open_lqs (hval 1 22 v1 rfl rfl) h1
  clear hA0
  refine (walk v0 z0 v1 z1 W w0 w1).mono fun e W' ⟨he, bel⟩ => ?_
  subst he
  exact ⟨_, rfl, _, _, _, [], _, [], hW', trodAll_mk1 (shut_bool Try.underlying4 _), (trodAll_cons_mk (Below.trod laidOut (by kernel_rfl) (of_decide_eq_true (by kernel_rfl)) k0 bel lt0) (trodAll_cons_mk (Below.trod laidOut (by kernel_rfl) (of_decide_eq_true (by kernel_rfl)) k1 bel lt1) trodAll_mk0)), rfl, bel.frame _, fun h => by cases h⟩

theorem over : Rows.mixBetweenRow.holds Try.pinned (OpenSpec.ofChange Rows.mixBetweenSpec) :=
  OpenClaim.holds_of_wide 7 Try.f7 rfl rfl rfl rfl rfl rfl rfl ⟨rfl, rfl, rfl, rfl, rfl⟩ rfl rfl rfl rfl rfl (by kernel_rfl) Try.func7 (by kernel_rfl)
    (of_decide_eq_true (by kernel_rfl)) (by unfold Func.isWrapper; first | (rw [if_pos (by decide +kernel)]; kernel_rfl) | (rw [if_neg (by decide +kernel)]; exact ⟨rfl, rfl⟩))
    (fun os started H enc _ => lifted os started H enc)

theorem proved : Rows.MixBetweenSaid := over
#print axioms proved
end Go.Proofs.Ytfkcgdnpfngdkaa.mixBetween
