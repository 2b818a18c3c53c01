/-
  The statement InterpolateThins of spile/spilelaw18 holds: for every input the call returns true, and each argument reads afterwards as it read before.
-/
import Derived.Test.YtadkhhkoankhnaaM2
import Derived.Deep.RegionLaw
import Derived.Deep.RegionLawGrows
import Derived.Laws.AppendOwn
import Derived.Below
import Derived.Carry

set_option linter.unusedVariables false
set_option linter.unusedSimpArgs false

namespace Go.Proofs.Ytadkhhkoankhnaa
open Go.RowKit

theorem itDi_any (x : Int) (w : World) :
    Calls Try.prog 58 #[.int .i64 x] w fun e w' => e = .returned (.bool (decide (1 ≤ x ∧ x ≤ 10000))) ∧ w' = w := by
  by_cases h0 : 1 ≤ x
  · have d0 : decide (1 ≤ x) = true := decide_eq_true h0
    by_cases h1 : x ≤ 10000
    · have d1 : decide (x ≤ 10000) = true := decide_eq_true h1
      rw [decide_eq_true (show 1 ≤ x ∧ x ≤ 10000 from ⟨h0, h1⟩)]
      go_enter Try.func58, Try.ntmps58
      go_wp2
      go_returns
      exact ⟨rfl, rfl⟩
    · have d1 : decide (x ≤ 10000) = false := decide_eq_false h1
      rw [decide_eq_false (show ¬ (1 ≤ x ∧ x ≤ 10000) by omega)]
      go_enter Try.func58, Try.ntmps58
      go_wp2
      go_returns
      exact ⟨rfl, rfl⟩
  · have d0 : decide (1 ≤ x) = false := decide_eq_false h0
    rw [decide_eq_false (show ¬ (1 ≤ x ∧ x ≤ 10000) by omega)]
    go_enter Try.func58, Try.ntmps58
    go_wp2
    go_returns
    exact ⟨rfl, rfl⟩
/-- how many rows stand before the last one -/
def dnsK (d : Int) : Nat := ((10000 + d - 1) / d).toNat
def dnsR (l : List (Int × Int)) (d : Int) (k : Nat) : List (Int × Int) := (List.range k).map fun (i : Nat) => ((i : Int) * d, atD l ((i : Int) * d))
theorem dnsR_succ (l : List (Int × Int)) (d : Int) (k : Nat) : dnsR l d (k + 1) = dnsR l d k ++ [((k : Int) * d, atD l ((k : Int) * d))] := by
  unfold dnsR
  rw [List.range_succ, List.map_append]; rfl
theorem dnsR_len (l : List (Int × Int)) (d : Int) (k : Nat) : (dnsR l d k).length = k := by unfold dnsR; simp
theorem dnsK_lt {d : Int} (h0 : 1 ≤ d) (h1 : d ≤ 10000) : (1 ≤ dnsK d ∧ dnsK d ≤ 10000) ∧ ∀ k : Nat, k < dnsK d ↔ (k : Int) * d < 10000 := by
  have p : 0 ≤ (10000 + d - 1) / d := Int.ediv_nonneg (by omega) (by omega)
  have q : (dnsK d : Int) = (10000 + d - 1) / d := by unfold dnsK; exact Int.toNat_of_nonneg p
  have r := Int.mul_ediv_add_emod (10000 + d - 1) d
  have r1 := Int.emod_nonneg (10000 + d - 1) (show d ≠ 0 by omega)
  have r2 := Int.emod_lt_of_pos (10000 + d - 1) (show 0 < d by omega)
  rw [← q] at r
  generalize (10000 + d - 1) % d = z at *
  refine ⟨⟨?_, ?_⟩, fun k => ⟨fun g => ?_, fun g => ?_⟩⟩
  · rcases Nat.eq_zero_or_pos (dnsK d) with g | g
    · rw [g] at r; simp at r; omega
    · exact g
  · rcases Nat.lt_or_ge 10000 (dnsK d) with g | g
    · have := Int.mul_le_mul_of_nonneg_left (show (10001 : Int) ≤ (dnsK d : Int) by omega) (show 0 ≤ d by omega); omega
    · exact g
  · have := Int.mul_le_mul_of_nonneg_left (show (k : Int) + 1 ≤ (dnsK d : Int) by omega) (show 0 ≤ d by omega)
    rw [Int.mul_add, Int.mul_comm d k] at this
    omega
  · rcases Nat.lt_or_ge k (dnsK d) with g2 | g2
    · exact g2
    · have := Int.mul_le_mul_of_nonneg_left (show (dnsK d : Int) ≤ (k : Int) by omega) (show 0 ≤ d by omega)
      rw [Int.mul_comm d k] at this
      omega
def dnsE (l : List (Int × Int)) (d : Int) : Int := if dnE l ≠ 0 then 1 else if 1 ≤ d ∧ d ≤ 10000 then (if 128 < dnsK d + 1 then 8 else 0) else 2
def dnsL (l : List (Int × Int)) (d : Int) : List (Int × Int) := if dnsE l d = 0 then dnsR l d (dnsK d) ++ [(gX l (l.length - 1), gR l (l.length - 1))] else []
set_option maxHeartbeats 32000000 in
set_option maxRecDepth 100000 in
theorem itDn_big (b off n cap K : Nat) (l : List (Int × Int)) (d : Int) (w : World) (n2 : 2 ≤ n) (n1 : n ≤ 128) (hb : b < w.heap.size) (d0 : 1 ≤ d) (d1 : d ≤ 10000) (hK : Hid ((1 ≤ K ∧ K ≤ 10000) ∧ ∀ k : Nat, k < K ↔ (k : Int) * d < 10000)) (hB : Hid (128 < K + 1))
    (NC : Hid (∀ W, Below w.heap.size w W → W.cell? ⟨b, off + (n - 1) * 2, none⟩ = some (.int .i64 (gX l (n - 1))) ∧ W.cell? ⟨b, off + (n - 1) * 2 + 1, none⟩ = some (.int .i64 (gR l (n - 1)))))
    (HR : Hid (Calls Try.prog 49 #[.slice (some ⟨b, off, none⟩) n cap] w fun e w' => e = .returned (.bool true) ∧ Below w.heap.size w w'))
    (HD : Hid (∀ W, Calls Try.prog 58 #[.int .i64 d] W fun e w' => e = .returned (.bool true) ∧ w' = W))
    (HA : Hid (∀ W (s : Int), 0 ≤ s → s ≤ 10000 → Below w.heap.size w W → Calls Try.prog 50 #[.slice (some ⟨b, off, none⟩) n cap, .int .i64 s] W fun e w' => e = .returned (.int .i64 (atD l s)) ∧ Below W.heap.size W w')) :
    Calls Try.prog 25 #[.slice (some ⟨b, off, none⟩) n cap, .int .i64 d] w fun e w' => ∃ u, e = .returned (.tuple #[u, .int .i64 8]) ∧ Pts w' u ([]) ∧ Below w.heap.size w w' := by
  obtain ⟨i0, hi, hz0, hz1, hz2⟩ := RG.info_parts RG.mk_info
  replace hi := Lib.hid hi
  replace hz0 := Lib.hid hz0
  replace hz1 := Lib.hid hz1
  replace hz2 := Lib.hid hz2
  go_enter Try.func25, Try.ntmps25
  go_wp2_with fail
  refine HR.out.mono ?_
  rintro e w1 ⟨rfl, gg⟩
  go_wp2_with fail
  refine (HD.out _).mono ?_
  rintro e w2 ⟨rfl, hw⟩
  subst hw
  have S0 : Hid (RG.MkI w (.slice none 0 0) (dnsR l d 0) w2) := Lib.hid ⟨gg, by rw [show dnsR l d 0 = [] from rfl]; exact RG.nil _ _⟩
  clear gg
  go_wp2_with fail
  go_loopw [6, 7] (fun v ii wr => ∃ (k : Nat) (s : Int), Hid (k ≤ K ∧ s = (k : Int) * d) ∧ 0 ≤ s ∧ s ≤ 20000 ∧ ii = .int .i64 s ∧ Hid (RG.MkI w v (dnsR l d k) wr)) (fun _ ii _ => (20000 - intOf ii).toNat)
  case atStart => exact ⟨0, 0, ⟨Nat.zero_le _, by simp⟩, by omega, by omega, rfl, S0⟩
  case round =>
    clear S0
    obtain ⟨k, s, hk, s0, s1, rfl, hS⟩ := hrel
    obtain ⟨av, cv, ev⟩ := RG.shape hS.out.2
    by_cases hlt : s < 10000
    · have ws : IntKind.i64.wrap (s + d) = s + d := wrap_in _ ⟨by omega, by omega⟩
      have HC := Lib.hid (HA.out wr s s0 (by omega) hS.out.1)
      have kK : Hid (k < K) := Lib.hid ((hK.out.2 k).2 (by rw [← hk.out.2]; exact hlt))
      have e1 : Hid (dnsR l d (k + 1) = dnsR l d k ++ [(s, atD l s)]) := Lib.hid (by rw [dnsR_succ, ← hk.out.2])
      have e2 : Hid (s + d = ((k + 1 : Nat) : Int) * d) := Lib.hid (by rw [hk.out.2]; push_cast; rw [Int.add_mul, Int.one_mul])
      have ql := dnsR_len l d k
      rw [ql] at ev
      subst ev
      have hq : Hid ((dnsR l d k).length = k) := Lib.hid ql
      clear ql
      have kb : Hid (k ≤ 10000) := Lib.hid (by have := kK.out; have := hK.out.1.2; omega)
      generalize dnsR l d k = T at *
      generalize hr : atD l s = r at *
      replace hr := Lib.hid hr
      generalize hx : s = x at *
      replace hx := Lib.hid hx
      go_wp2_with fail
      refine HC.out.mono ?_
      rintro e w4 ⟨rfl, gg⟩
      replace hS := Lib.hid (hS.out.below gg); clear gg
      have qb := kb.out
      have OA : Hid ((w4.alloc (.cells #[.int .i64 x, .int .i64 r] 42)).ownsRow w.heap.size 42 2 (.slice av k cv) k (flat T)) := Lib.hid (by
        have := RG.below hS.out.2 (bel_alloc (o := .cells #[.int .i64 x, .int .i64 r] 42) (Below.refl _ _))
        unfold RG.OwnM at this
        rwa [hq.out] at this)
      have CN := Lib.hid (RG.pair_new w4 x r 42)
      have S5 := Lib.hid (hS.out.below (bel_alloc (o := .cells #[.int .i64 x, .int .i64 r] 42) (Below.refl _ _)))
      have HS : Hid (w.heap.size ≤ (w4.alloc (.cells #[.int .i64 x, .int .i64 r] 42)).heap.size) := Lib.hid S5.out.1.size
      have M1 : Hid (k + 1 ≤ maxLen) := Lib.hid (by unfold maxLen; omega)
      have M2 : Hid ((k + 1) * 16 ≤ 140737488355328) := Lib.hid (by omega)
      go_wp2_with (at_builtin; refine wpList_append_own_at _ rfl _ _ 22 rfl w.heap.size 42 i0 (.agg #[.int .i64 0, .int .i64 0]) 2 16 Try.underlying22 hi.out hz0.out hz1.out hz2.out rfl (by omega) _ _ _ rfl OA.out ⟨w4.heap.size, 0, none⟩ 1 1 [.int .i64 x, .int .i64 r] rfl rfl CN.out (RG.pair_one x r) M1.out M2.out HS.out ?_)
      intro v2 w5 hown hgrow _ _
      have SN : Hid (RG.MkI w v2 (T ++ [(x, r)]) w5) := Lib.hid (by
        have lt := fun r hr => (World.ownsRow.lt OA.out r hr).1
        exact ⟨S5.out.1.grown hgrow HS.out lt, RG.push rfl hq.out hown⟩)
      clear hgrow OA CN
      clear qb
      go_wp2
      go_roundw
      case rel => exact ⟨k + 1, x + d, ⟨by have := kK.out; omega, e2.out⟩, by omega, by omega, by go_num, by rw [e1.out]; exact SN⟩
      case measure => simp [intOf]; omega
    · have ek : k = K := by
        rcases Nat.lt_or_ge k K with g | g
        · exact absurd ((hK.out.2 k).1 g) (by rw [← hk.out.2]; exact hlt)
        · have := hk.out.1; omega
      subst ek
      have kb := hK.out.1.2
      obtain ⟨c0, c1⟩ := NC.out wr hS.out.1
      have ql := dnsR_len l d k
      rw [ql] at ev
      subst ev
      have hq : Hid ((dnsR l d k).length = k) := Lib.hid ql
      clear ql
      generalize hT : dnsR l d k = T at hS hq
      replace hT := Lib.hid hT
      obtain ⟨m, hm⟩ : ∃ m, n - 1 = m := ⟨_, rfl⟩
      have wn : IntKind.i64.wrap ((n : Int) - 1) = (m : Int) := by rw [wrap_in _ ⟨by omega, by omega⟩]; omega
      have lm : (m : Int) < (n : Int) := by omega
      obtain ⟨x, hx⟩ : ∃ x, gX l (n - 1) = x := ⟨_, rfl⟩
      obtain ⟨r, hr⟩ : ∃ r, gR l (n - 1) = r := ⟨_, rfl⟩
      rw [hx, hm] at c0
      rw [hr, hm] at c1
      replace hx := Lib.hid hx
      replace hr := Lib.hid hr
      replace hm := Lib.hid hm
      have dB : decide ((128 : Int) < ((k + 1 : Nat) : Int)) = true := decide_eq_true (by have := hB.out; omega)
      have dB2 : decide ((128 : Int) < (k : Int) + 1) = true := decide_eq_true (by have := hB.out; omega)
      have OA : Hid ((wr.alloc (.cells #[.int .i64 x, .int .i64 r] 42)).ownsRow w.heap.size 42 2 (.slice av k cv) k (flat T)) := Lib.hid (by
        have := RG.below hS.out.2 (bel_alloc (o := .cells #[.int .i64 x, .int .i64 r] 42) (Below.refl _ _))
        unfold RG.OwnM at this
        rwa [hq.out] at this)
      have CN := Lib.hid (RG.pair_new wr x r 42)
      have S5 := Lib.hid (hS.out.below (bel_alloc (o := .cells #[.int .i64 x, .int .i64 r] 42) (Below.refl _ _)))
      have HS : Hid (w.heap.size ≤ (wr.alloc (.cells #[.int .i64 x, .int .i64 r] 42)).heap.size) := Lib.hid S5.out.1.size
      have M1 : Hid (k + 1 ≤ maxLen) := Lib.hid (by unfold maxLen; omega)
      have M2 : Hid ((k + 1) * 16 ≤ 140737488355328) := Lib.hid (by omega)
      go_wp2_with (at_builtin; refine wpList_append_own_at _ rfl _ _ 22 rfl w.heap.size 42 i0 (.agg #[.int .i64 0, .int .i64 0]) 2 16 Try.underlying22 hi.out hz0.out hz1.out hz2.out rfl (by omega) _ _ _ rfl OA.out ⟨wr.heap.size, 0, none⟩ 1 1 [.int .i64 x, .int .i64 r] rfl rfl CN.out (RG.pair_one x r) M1.out M2.out HS.out ?_)
      intro v2 w5 hown hgrow _ _
      have SN : Hid (RG.MkI w v2 (T ++ [(x, r)]) w5) := Lib.hid (by
        have lt := fun r hr => (World.ownsRow.lt OA.out r hr).1
        exact ⟨S5.out.1.grown hgrow HS.out lt, RG.push rfl hq.out hown⟩)
      clear hgrow OA CN
      obtain ⟨av2, cv2, ev2⟩ := RG.shape SN.out.2
      rw [List.length_append, hq.out] at ev2
      change v2 = .slice av2 (k + 1) cv2 at ev2
      subst ev2
      clear hown
      go_wp2
      go_returns
      exact ⟨_, rfl, pts_nil _, SN.out.1⟩
set_option maxHeartbeats 32000000 in
set_option maxRecDepth 100000 in
theorem itDn_ok (b off n cap K : Nat) (l : List (Int × Int)) (d : Int) (w : World) (n2 : 2 ≤ n) (n1 : n ≤ 128) (hb : b < w.heap.size) (d0 : 1 ≤ d) (d1 : d ≤ 10000) (hK : Hid ((1 ≤ K ∧ K ≤ 10000) ∧ ∀ k : Nat, k < K ↔ (k : Int) * d < 10000)) (hB : Hid (¬ 128 < K + 1))
    (NC : Hid (∀ W, Below w.heap.size w W → W.cell? ⟨b, off + (n - 1) * 2, none⟩ = some (.int .i64 (gX l (n - 1))) ∧ W.cell? ⟨b, off + (n - 1) * 2 + 1, none⟩ = some (.int .i64 (gR l (n - 1)))))
    (HR : Hid (Calls Try.prog 49 #[.slice (some ⟨b, off, none⟩) n cap] w fun e w' => e = .returned (.bool true) ∧ Below w.heap.size w w'))
    (HD : Hid (∀ W, Calls Try.prog 58 #[.int .i64 d] W fun e w' => e = .returned (.bool true) ∧ w' = W))
    (HA : Hid (∀ W (s : Int), 0 ≤ s → s ≤ 10000 → Below w.heap.size w W → Calls Try.prog 50 #[.slice (some ⟨b, off, none⟩) n cap, .int .i64 s] W fun e w' => e = .returned (.int .i64 (atD l s)) ∧ Below W.heap.size W w')) :
    Calls Try.prog 25 #[.slice (some ⟨b, off, none⟩) n cap, .int .i64 d] w fun e w' => ∃ u, e = .returned (.tuple #[u, .int .i64 0]) ∧ Pts w' u (dnsR l d K ++ [(gX l (n - 1), gR l (n - 1))]) ∧ Below w.heap.size w w' := by
  obtain ⟨i0, hi, hz0, hz1, hz2⟩ := RG.info_parts RG.mk_info
  replace hi := Lib.hid hi
  replace hz0 := Lib.hid hz0
  replace hz1 := Lib.hid hz1
  replace hz2 := Lib.hid hz2
  go_enter Try.func25, Try.ntmps25
  go_wp2_with fail
  refine HR.out.mono ?_
  rintro e w1 ⟨rfl, gg⟩
  go_wp2_with fail
  refine (HD.out _).mono ?_
  rintro e w2 ⟨rfl, hw⟩
  subst hw
  have S0 : Hid (RG.MkI w (.slice none 0 0) (dnsR l d 0) w2) := Lib.hid ⟨gg, by rw [show dnsR l d 0 = [] from rfl]; exact RG.nil _ _⟩
  clear gg
  go_wp2_with fail
  go_loopw [6, 7] (fun v ii wr => ∃ (k : Nat) (s : Int), Hid (k ≤ K ∧ s = (k : Int) * d) ∧ 0 ≤ s ∧ s ≤ 20000 ∧ ii = .int .i64 s ∧ Hid (RG.MkI w v (dnsR l d k) wr)) (fun _ ii _ => (20000 - intOf ii).toNat)
  case atStart => exact ⟨0, 0, ⟨Nat.zero_le _, by simp⟩, by omega, by omega, rfl, S0⟩
  case round =>
    clear S0
    obtain ⟨k, s, hk, s0, s1, rfl, hS⟩ := hrel
    obtain ⟨av, cv, ev⟩ := RG.shape hS.out.2
    by_cases hlt : s < 10000
    · have ws : IntKind.i64.wrap (s + d) = s + d := wrap_in _ ⟨by omega, by omega⟩
      have HC := Lib.hid (HA.out wr s s0 (by omega) hS.out.1)
      have kK : Hid (k < K) := Lib.hid ((hK.out.2 k).2 (by rw [← hk.out.2]; exact hlt))
      have e1 : Hid (dnsR l d (k + 1) = dnsR l d k ++ [(s, atD l s)]) := Lib.hid (by rw [dnsR_succ, ← hk.out.2])
      have e2 : Hid (s + d = ((k + 1 : Nat) : Int) * d) := Lib.hid (by rw [hk.out.2]; push_cast; rw [Int.add_mul, Int.one_mul])
      have ql := dnsR_len l d k
      rw [ql] at ev
      subst ev
      have hq : Hid ((dnsR l d k).length = k) := Lib.hid ql
      clear ql
      have kb : Hid (k ≤ 10000) := Lib.hid (by have := kK.out; have := hK.out.1.2; omega)
      generalize dnsR l d k = T at *
      generalize hr : atD l s = r at *
      replace hr := Lib.hid hr
      generalize hx : s = x at *
      replace hx := Lib.hid hx
      go_wp2_with fail
      refine HC.out.mono ?_
      rintro e w4 ⟨rfl, gg⟩
      replace hS := Lib.hid (hS.out.below gg); clear gg
      have qb := kb.out
      have OA : Hid ((w4.alloc (.cells #[.int .i64 x, .int .i64 r] 42)).ownsRow w.heap.size 42 2 (.slice av k cv) k (flat T)) := Lib.hid (by
        have := RG.below hS.out.2 (bel_alloc (o := .cells #[.int .i64 x, .int .i64 r] 42) (Below.refl _ _))
        unfold RG.OwnM at this
        rwa [hq.out] at this)
      have CN := Lib.hid (RG.pair_new w4 x r 42)
      have S5 := Lib.hid (hS.out.below (bel_alloc (o := .cells #[.int .i64 x, .int .i64 r] 42) (Below.refl _ _)))
      have HS : Hid (w.heap.size ≤ (w4.alloc (.cells #[.int .i64 x, .int .i64 r] 42)).heap.size) := Lib.hid S5.out.1.size
      have M1 : Hid (k + 1 ≤ maxLen) := Lib.hid (by unfold maxLen; omega)
      have M2 : Hid ((k + 1) * 16 ≤ 140737488355328) := Lib.hid (by omega)
      go_wp2_with (at_builtin; refine wpList_append_own_at _ rfl _ _ 22 rfl w.heap.size 42 i0 (.agg #[.int .i64 0, .int .i64 0]) 2 16 Try.underlying22 hi.out hz0.out hz1.out hz2.out rfl (by omega) _ _ _ rfl OA.out ⟨w4.heap.size, 0, none⟩ 1 1 [.int .i64 x, .int .i64 r] rfl rfl CN.out (RG.pair_one x r) M1.out M2.out HS.out ?_)
      intro v2 w5 hown hgrow _ _
      have SN : Hid (RG.MkI w v2 (T ++ [(x, r)]) w5) := Lib.hid (by
        have lt := fun r hr => (World.ownsRow.lt OA.out r hr).1
        exact ⟨S5.out.1.grown hgrow HS.out lt, RG.push rfl hq.out hown⟩)
      clear hgrow OA CN
      clear qb
      go_wp2
      go_roundw
      case rel => exact ⟨k + 1, x + d, ⟨by have := kK.out; omega, e2.out⟩, by omega, by omega, by go_num, by rw [e1.out]; exact SN⟩
      case measure => simp [intOf]; omega
    · have ek : k = K := by
        rcases Nat.lt_or_ge k K with g | g
        · exact absurd ((hK.out.2 k).1 g) (by rw [← hk.out.2]; exact hlt)
        · have := hk.out.1; omega
      subst ek
      have kb := hK.out.1.2
      obtain ⟨c0, c1⟩ := NC.out wr hS.out.1
      have ql := dnsR_len l d k
      rw [ql] at ev
      subst ev
      have hq : Hid ((dnsR l d k).length = k) := Lib.hid ql
      clear ql
      generalize hT : dnsR l d k = T at hS hq
      replace hT := Lib.hid hT
      obtain ⟨m, hm⟩ : ∃ m, n - 1 = m := ⟨_, rfl⟩
      have wn : IntKind.i64.wrap ((n : Int) - 1) = (m : Int) := by rw [wrap_in _ ⟨by omega, by omega⟩]; omega
      have lm : (m : Int) < (n : Int) := by omega
      obtain ⟨x, hx⟩ : ∃ x, gX l (n - 1) = x := ⟨_, rfl⟩
      obtain ⟨r, hr⟩ : ∃ r, gR l (n - 1) = r := ⟨_, rfl⟩
      rw [hx, hm] at c0
      rw [hr, hm] at c1
      replace hx := Lib.hid hx
      replace hr := Lib.hid hr
      replace hm := Lib.hid hm
      have dB : decide ((128 : Int) < ((k + 1 : Nat) : Int)) = false := decide_eq_false (by have := hB.out; omega)
      have dB2 : decide ((128 : Int) < (k : Int) + 1) = false := decide_eq_false (by have := hB.out; omega)
      have OA : Hid ((wr.alloc (.cells #[.int .i64 x, .int .i64 r] 42)).ownsRow w.heap.size 42 2 (.slice av k cv) k (flat T)) := Lib.hid (by
        have := RG.below hS.out.2 (bel_alloc (o := .cells #[.int .i64 x, .int .i64 r] 42) (Below.refl _ _))
        unfold RG.OwnM at this
        rwa [hq.out] at this)
      have CN := Lib.hid (RG.pair_new wr x r 42)
      have S5 := Lib.hid (hS.out.below (bel_alloc (o := .cells #[.int .i64 x, .int .i64 r] 42) (Below.refl _ _)))
      have HS : Hid (w.heap.size ≤ (wr.alloc (.cells #[.int .i64 x, .int .i64 r] 42)).heap.size) := Lib.hid S5.out.1.size
      have M1 : Hid (k + 1 ≤ maxLen) := Lib.hid (by unfold maxLen; omega)
      have M2 : Hid ((k + 1) * 16 ≤ 140737488355328) := Lib.hid (by omega)
      go_wp2_with (at_builtin; refine wpList_append_own_at _ rfl _ _ 22 rfl w.heap.size 42 i0 (.agg #[.int .i64 0, .int .i64 0]) 2 16 Try.underlying22 hi.out hz0.out hz1.out hz2.out rfl (by omega) _ _ _ rfl OA.out ⟨wr.heap.size, 0, none⟩ 1 1 [.int .i64 x, .int .i64 r] rfl rfl CN.out (RG.pair_one x r) M1.out M2.out HS.out ?_)
      intro v2 w5 hown hgrow _ _
      have SN : Hid (RG.MkI w v2 (T ++ [(x, r)]) w5) := Lib.hid (by
        have lt := fun r hr => (World.ownsRow.lt OA.out r hr).1
        exact ⟨S5.out.1.grown hgrow HS.out lt, RG.push rfl hq.out hown⟩)
      clear hgrow OA CN
      obtain ⟨av2, cv2, ev2⟩ := RG.shape SN.out.2
      rw [List.length_append, hq.out] at ev2
      change v2 = .slice av2 (k + 1) cv2 at ev2
      subst ev2
      clear hown
      go_wp2
      go_returns
      exact ⟨_, rfl, by rw [hT.out, hx.out, hr.out]; exact RG.pts SN.out.2, SN.out.1⟩
theorem no_row (w : World) (B : Nat) (hB : B ≤ w.heap.size) : RG.OwnM (w.alloc (.cells #[] 42)) B (.slice (some ⟨w.heap.size, 0, none⟩) 0 0) [] :=
  ⟨by simp [flat], .inr ⟨w.heap.size, 0, #[], rfl, hB, heap_alloc_new w _, Nat.le_refl _, by unfold maxLen; omega, rfl, by simp [flat]⟩⟩
set_option maxHeartbeats 32000000 in
set_option maxRecDepth 100000 in
theorem rfDn_ok (b off n cap K : Nat) (l : List (Int × Int)) (d : Int) (w : World) (n2 : 2 ≤ n) (n1 : n ≤ 128) (hb : b < w.heap.size) (d0 : 1 ≤ d) (d1 : d ≤ 10000) (hK : Hid ((1 ≤ K ∧ K ≤ 10000) ∧ ∀ k : Nat, k < K ↔ (k : Int) * d < 10000)) (hB : Hid (¬ 128 < K + 1)) (hQ : (10000 + d - 1) / d = (K : Int))
    (NC : Hid (∀ W, Below w.heap.size w W → W.cell? ⟨b, off + (n - 1) * 2, none⟩ = some (.int .i64 (gX l (n - 1))) ∧ W.cell? ⟨b, off + (n - 1) * 2 + 1, none⟩ = some (.int .i64 (gR l (n - 1)))))
    (HR : Hid (Calls Try.prog 51 #[.slice (some ⟨b, off, none⟩) n cap] w fun e w' => e = .returned (.bool true) ∧ Below w.heap.size w w'))
    (HA : Hid (∀ W (s : Int), 0 ≤ s → s ≤ 10000 → Below w.heap.size w W → Calls Try.prog 52 #[.slice (some ⟨b, off, none⟩) n cap, .int .i64 s] W fun e w' => e = .returned (.int .i64 (atD l s)) ∧ Below W.heap.size W w')) :
    Calls Try.prog 26 #[.slice (some ⟨b, off, none⟩) n cap, .int .i64 d] w fun e w' => ∃ u, e = .returned (.tuple #[u, .int .i64 0]) ∧ Pts w' u (dnsR l d K ++ [(gX l (n - 1), gR l (n - 1))]) ∧ Below w.heap.size w w' := by
  obtain ⟨i0, hi, hz0, hz1, hz2⟩ := RG.info_parts RG.mk_info
  replace hi := Lib.hid hi
  replace hz0 := Lib.hid hz0
  replace hz1 := Lib.hid hz1
  replace hz2 := Lib.hid hz2
  go_enter Try.func26, Try.ntmps26
  go_wp2_with fail
  refine HR.out.mono ?_
  rintro e w1 ⟨rfl, gg⟩
  have d2 : decide (d < 1) = false := decide_eq_false (by omega)
  have d3 : decide (10000 < d) = false := decide_eq_false (by omega)
  have dz : (d == 0) = false := beq_eq_false_iff_ne.2 (by omega)
  have dz2 : ¬ d = 0 := by omega
  have w3 : IntKind.i64.wrap (10000 + d) = 10000 + d := wrap_in _ ⟨by omega, by omega⟩
  have w4 : IntKind.i64.wrap (10000 + d - 1) = 10000 + d - 1 := wrap_in _ ⟨by omega, by omega⟩
  have k9 : (K : Int) ≤ 10000 := by have := hK.out.1.2; omega
  have tq : (10000 + d - 1).tdiv d = (K : Int) := by rw [Int.tdiv_eq_ediv_of_nonneg (by omega)]; exact hQ
  have w5 : IntKind.i64.wrap (K : Int) = (K : Int) := wrap_in _ ⟨by omega, by omega⟩
  have w6 : IntKind.i64.wrap ((K : Int) + 1) = (K : Int) + 1 := wrap_in _ ⟨by omega, by omega⟩
  have d6 : decide ((128 : Int) < (K : Int) + 1) = false := decide_eq_false (by have := hB.out; omega)
  have S0 : Hid (RG.MkI w (.slice (some ⟨w1.heap.size, 0, none⟩) 0 0) (dnsR l d 0) (w1.alloc (.cells #[] 42))) := Lib.hid ⟨bel_trans gg (bel_alloc (Below.refl _ _)), by rw [show dnsR l d 0 = [] from rfl]; exact no_row w1 w.heap.size gg.size⟩
  clear gg
  go_wp2_with fail
  go_loopw [6, 7] (fun v ii wr => ∃ (k : Nat) (s : Int), Hid (k ≤ K ∧ s = (k : Int) * d) ∧ 0 ≤ s ∧ s ≤ 20000 ∧ ii = .int .i64 s ∧ Hid (RG.MkI w v (dnsR l d k) wr)) (fun _ ii _ => (20000 - intOf ii).toNat)
  case atStart => exact ⟨0, 0, ⟨Nat.zero_le _, by simp⟩, by omega, by omega, rfl, S0⟩
  case round =>
    clear S0
    obtain ⟨k, s, hk, s0, s1, rfl, hS⟩ := hrel
    obtain ⟨av, cv, ev⟩ := RG.shape hS.out.2
    by_cases hlt : s < 10000
    · have ws : IntKind.i64.wrap (s + d) = s + d := wrap_in _ ⟨by omega, by omega⟩
      have HC := Lib.hid (HA.out wr s s0 (by omega) hS.out.1)
      have kK : Hid (k < K) := Lib.hid ((hK.out.2 k).2 (by rw [← hk.out.2]; exact hlt))
      have e1 : Hid (dnsR l d (k + 1) = dnsR l d k ++ [(s, atD l s)]) := Lib.hid (by rw [dnsR_succ, ← hk.out.2])
      have e2 : Hid (s + d = ((k + 1 : Nat) : Int) * d) := Lib.hid (by rw [hk.out.2]; push_cast; rw [Int.add_mul, Int.one_mul])
      have ql := dnsR_len l d k
      rw [ql] at ev
      subst ev
      have hq : Hid ((dnsR l d k).length = k) := Lib.hid ql
      clear ql
      have kb : Hid (k ≤ 10000) := Lib.hid (by have := kK.out; have := hK.out.1.2; omega)
      generalize dnsR l d k = T at *
      generalize hr : atD l s = r at *
      replace hr := Lib.hid hr
      generalize hx : s = x at *
      replace hx := Lib.hid hx
      go_wp2_with fail
      refine HC.out.mono ?_
      rintro e w4 ⟨rfl, gg⟩
      replace hS := Lib.hid (hS.out.below gg); clear gg
      have qb := kb.out
      have OA : Hid ((w4.alloc (.cells #[.int .i64 x, .int .i64 r] 42)).ownsRow w.heap.size 42 2 (.slice av k cv) k (flat T)) := Lib.hid (by
        have := RG.below hS.out.2 (bel_alloc (o := .cells #[.int .i64 x, .int .i64 r] 42) (Below.refl _ _))
        unfold RG.OwnM at this
        rwa [hq.out] at this)
      have CN := Lib.hid (RG.pair_new w4 x r 42)
      have S5 := Lib.hid (hS.out.below (bel_alloc (o := .cells #[.int .i64 x, .int .i64 r] 42) (Below.refl _ _)))
      have HS : Hid (w.heap.size ≤ (w4.alloc (.cells #[.int .i64 x, .int .i64 r] 42)).heap.size) := Lib.hid S5.out.1.size
      have M1 : Hid (k + 1 ≤ maxLen) := Lib.hid (by unfold maxLen; omega)
      have M2 : Hid ((k + 1) * 16 ≤ 140737488355328) := Lib.hid (by omega)
      go_wp2_with (at_builtin; refine wpList_append_own_at _ rfl _ _ 22 rfl w.heap.size 42 i0 (.agg #[.int .i64 0, .int .i64 0]) 2 16 Try.underlying22 hi.out hz0.out hz1.out hz2.out rfl (by omega) _ _ _ rfl OA.out ⟨w4.heap.size, 0, none⟩ 1 1 [.int .i64 x, .int .i64 r] rfl rfl CN.out (RG.pair_one x r) M1.out M2.out HS.out ?_)
      intro v2 w5 hown hgrow _ _
      have SN : Hid (RG.MkI w v2 (T ++ [(x, r)]) w5) := Lib.hid (by
        have lt := fun r hr => (World.ownsRow.lt OA.out r hr).1
        exact ⟨S5.out.1.grown hgrow HS.out lt, RG.push rfl hq.out hown⟩)
      clear hgrow OA CN
      clear qb
      go_wp2
      go_roundw
      case rel => exact ⟨k + 1, x + d, ⟨by have := kK.out; omega, e2.out⟩, by omega, by omega, by go_num, by rw [e1.out]; exact SN⟩
      case measure => simp [intOf]; omega
    · have ek : k = K := by
        rcases Nat.lt_or_ge k K with g | g
        · exact absurd ((hK.out.2 k).1 g) (by rw [← hk.out.2]; exact hlt)
        · have := hk.out.1; omega
      subst ek
      have kb := hK.out.1.2
      obtain ⟨c0, c1⟩ := NC.out wr hS.out.1
      have ql := dnsR_len l d k
      rw [ql] at ev
      subst ev
      have hq : Hid ((dnsR l d k).length = k) := Lib.hid ql
      clear ql
      generalize hT : dnsR l d k = T at hS hq
      replace hT := Lib.hid hT
      obtain ⟨m, hm⟩ : ∃ m, n - 1 = m := ⟨_, rfl⟩
      have wn : IntKind.i64.wrap ((n : Int) - 1) = (m : Int) := by rw [wrap_in _ ⟨by omega, by omega⟩]; omega
      have lm : (m : Int) < (n : Int) := by omega
      obtain ⟨x, hx⟩ : ∃ x, gX l (n - 1) = x := ⟨_, rfl⟩
      obtain ⟨r, hr⟩ : ∃ r, gR l (n - 1) = r := ⟨_, rfl⟩
      rw [hx, hm] at c0
      rw [hr, hm] at c1
      replace hx := Lib.hid hx
      replace hr := Lib.hid hr
      replace hm := Lib.hid hm
      have dB : decide ((128 : Int) < ((k + 1 : Nat) : Int)) = false := decide_eq_false (by have := hB.out; omega)
      have dB2 : decide ((128 : Int) < (k : Int) + 1) = false := decide_eq_false (by have := hB.out; omega)
      have OA : Hid ((wr.alloc (.cells #[.int .i64 x, .int .i64 r] 42)).ownsRow w.heap.size 42 2 (.slice av k cv) k (flat T)) := Lib.hid (by
        have := RG.below hS.out.2 (bel_alloc (o := .cells #[.int .i64 x, .int .i64 r] 42) (Below.refl _ _))
        unfold RG.OwnM at this
        rwa [hq.out] at this)
      have CN := Lib.hid (RG.pair_new wr x r 42)
      have S5 := Lib.hid (hS.out.below (bel_alloc (o := .cells #[.int .i64 x, .int .i64 r] 42) (Below.refl _ _)))
      have HS : Hid (w.heap.size ≤ (wr.alloc (.cells #[.int .i64 x, .int .i64 r] 42)).heap.size) := Lib.hid S5.out.1.size
      have M1 : Hid (k + 1 ≤ maxLen) := Lib.hid (by unfold maxLen; omega)
      have M2 : Hid ((k + 1) * 16 ≤ 140737488355328) := Lib.hid (by omega)
      go_wp2_with (at_builtin; refine wpList_append_own_at _ rfl _ _ 22 rfl w.heap.size 42 i0 (.agg #[.int .i64 0, .int .i64 0]) 2 16 Try.underlying22 hi.out hz0.out hz1.out hz2.out rfl (by omega) _ _ _ rfl OA.out ⟨wr.heap.size, 0, none⟩ 1 1 [.int .i64 x, .int .i64 r] rfl rfl CN.out (RG.pair_one x r) M1.out M2.out HS.out ?_)
      intro v2 w5 hown hgrow _ _
      have SN : Hid (RG.MkI w v2 (T ++ [(x, r)]) w5) := Lib.hid (by
        have lt := fun r hr => (World.ownsRow.lt OA.out r hr).1
        exact ⟨S5.out.1.grown hgrow HS.out lt, RG.push rfl hq.out hown⟩)
      clear hgrow OA CN
      obtain ⟨av2, cv2, ev2⟩ := RG.shape SN.out.2
      rw [List.length_append, hq.out] at ev2
      change v2 = .slice av2 (k + 1) cv2 at ev2
      subst ev2
      clear hown
      go_wp2
      go_returns
      exact ⟨_, rfl, by rw [hT.out, hx.out, hr.out]; exact RG.pts SN.out.2, SN.out.1⟩
theorem itDn_any (v : Value) (l : List (Int × Int)) (d : Int) (w : World) (hv : Pts w v l) (_ : -9223372036854775808 ≤ d ∧ d ≤ 9223372036854775807) :
    Calls Try.prog 25 #[v, .int .i64 d] w fun e w' => ∃ u, e = .returned (.tuple #[u, .int .i64 (dnsE l d)]) ∧ Pts w' u (dnsL l d) ∧ Below w.heap.size w w' := by
  have HR := Lib.hid (itRt_any v l w hv)
  have HD := Lib.hid (fun W => itDi_any d W)
  by_cases he : dnE l = 0
  · have hD := dnE_zero.1 he
    have n0 := hD.n0
    have n1 := hD.n1
    rw [show (dnE l == 0) = true by simpa using he] at HR
    by_cases hd : 1 ≤ d ∧ d ≤ 10000
    · obtain ⟨d0, d1⟩ := hd
      have hK := dnsK_lt d0 d1
      have hv2 := Lib.hid hv
      obtain ⟨a, cap, rfl, hl, hh⟩ := hv
      rcases hh with hh | ⟨b, off, rfl, hb, hc⟩
      · omega
      have NC : Hid (∀ W, Below w.heap.size w W → W.cell? ⟨b, off + (l.length - 1) * 2, none⟩ = some (.int .i64 (gX l (l.length - 1))) ∧ W.cell? ⟨b, off + (l.length - 1) * 2 + 1, none⟩ = some (.int .i64 (gR l (l.length - 1)))) := Lib.hid fun W hW => by
        obtain ⟨c0, c1⟩ := hc (l.length - 1) (by omega)
        exact ⟨cell_bel c0 hW, cell_bel c1 hW⟩
      rw [decide_eq_true (show 1 ≤ d ∧ d ≤ 10000 from ⟨d0, d1⟩)] at HD
      have HA : Hid (∀ W (s : Int), 0 ≤ s → s ≤ 10000 → Below w.heap.size w W → _) := Lib.hid fun W s s0 s1 hW => itAt_any _ l s W (hv2.out.below hW) hD s0 s1
      by_cases hB : 128 < dnsK d + 1
      · have e8 : dnsE l d = 8 := by unfold dnsE; rw [if_neg (by omega), if_pos ⟨d0, d1⟩, if_pos hB]
        rw [show dnsL l d = [] by unfold dnsL; rw [if_neg (by omega)], e8]
        exact itDn_big b off l.length cap (dnsK d) l d w n0 n1 hb d0 d1 (Lib.hid hK) (Lib.hid hB) NC HR HD HA
      · have e0 : dnsE l d = 0 := by unfold dnsE; rw [if_neg (by omega), if_pos ⟨d0, d1⟩, if_neg hB]
        rw [show dnsL l d = dnsR l d (dnsK d) ++ [(gX l (l.length - 1), gR l (l.length - 1))] by unfold dnsL; rw [if_pos e0], e0]
        exact itDn_ok b off l.length cap (dnsK d) l d w n0 n1 hb d0 d1 (Lib.hid hK) (Lib.hid hB) NC HR HD HA
    · have e2 : dnsE l d = 2 := by unfold dnsE; rw [if_neg (by omega), if_neg hd]
      rw [show dnsL l d = [] by unfold dnsL; rw [if_neg (by omega)], e2]
      rw [decide_eq_false hd] at HD
      go_enter Try.func25, Try.ntmps25
      go_wp2_with fail
      refine HR.out.mono ?_
      rintro e w1 ⟨rfl, gg⟩
      have X := Lib.hid gg; clear gg
      go_wp2_with fail
      refine (HD.out _).mono ?_
      rintro e w2 ⟨rfl, hw⟩
      subst hw
      go_wp2
      go_returns
      exact ⟨_, rfl, pts_nil _, X.out⟩
  · have e1 : dnsE l d = 1 := by unfold dnsE; rw [if_pos he]
    rw [show dnsL l d = [] by unfold dnsL; rw [if_neg (by omega)], e1]
    rw [show (dnE l == 0) = false by simpa using he] at HR
    go_enter Try.func25, Try.ntmps25
    go_wp2_with fail
    refine HR.out.mono ?_
    rintro e w1 ⟨rfl, gg⟩
    have X := Lib.hid gg; clear gg
    go_wp2
    go_returns
    exact ⟨_, rfl, pts_nil _, X.out⟩
theorem rfDn_any (v : Value) (l : List (Int × Int)) (d : Int) (w : World) (hv : Pts w v l) (_ : -9223372036854775808 ≤ d ∧ d ≤ 9223372036854775807) :
    Calls Try.prog 26 #[v, .int .i64 d] w fun e w' => ∃ u, e = .returned (.tuple #[u, .int .i64 (dnsE l d)]) ∧ Pts w' u (dnsL l d) ∧ Below w.heap.size w w' := by
  have HR := Lib.hid (rnRt_any v l w hv)
  by_cases he : dnE l = 0
  · have hD := dnE_zero.1 he
    have n0 := hD.n0
    have n1 := hD.n1
    rw [show (dnE l == 0) = true by simpa using he] at HR
    by_cases hd : 1 ≤ d ∧ d ≤ 10000
    · obtain ⟨d0, d1⟩ := hd
      have hK := dnsK_lt d0 d1
      have hv2 := Lib.hid hv
      obtain ⟨a, cap, rfl, hl, hh⟩ := hv
      rcases hh with hh | ⟨b, off, rfl, hb, hc⟩
      · omega
      have NC : Hid (∀ W, Below w.heap.size w W → W.cell? ⟨b, off + (l.length - 1) * 2, none⟩ = some (.int .i64 (gX l (l.length - 1))) ∧ W.cell? ⟨b, off + (l.length - 1) * 2 + 1, none⟩ = some (.int .i64 (gR l (l.length - 1)))) := Lib.hid fun W hW => by
        obtain ⟨c0, c1⟩ := hc (l.length - 1) (by omega)
        exact ⟨cell_bel c0 hW, cell_bel c1 hW⟩
      have HA : Hid (∀ W (s : Int), 0 ≤ s → s ≤ 10000 → Below w.heap.size w W → _) := Lib.hid fun W s s0 s1 hW => rfAt_any _ l s W (hv2.out.below hW) hD s0 s1
      by_cases hB : 128 < dnsK d + 1
      · have e8 : dnsE l d = 8 := by unfold dnsE; rw [if_neg (by omega), if_pos ⟨d0, d1⟩, if_pos hB]
        rw [show dnsL l d = [] by unfold dnsL; rw [if_neg (by omega)], e8]
        have q0 : 0 ≤ (10000 + d - 1) / d := Int.ediv_nonneg (by omega) (by omega)
        have hQ : (10000 + d - 1) / d = (dnsK d : Int) := by unfold dnsK; exact (Int.toNat_of_nonneg q0).symm
        have g2 : decide (d < 1) = false := decide_eq_false (by omega)
        have g3 : decide (10000 < d) = false := decide_eq_false (by omega)
        have k9 : (dnsK d : Int) ≤ 10000 := by have := hK.1.2; omega
        have d6 : decide ((128 : Int) < (dnsK d : Int) + 1) = true := decide_eq_true (by omega)
        generalize dnsK d = K at *
        have dz : (d == 0) = false := beq_eq_false_iff_ne.2 (by omega)
        have dz2 : ¬ d = 0 := by omega
        have w3 : IntKind.i64.wrap (10000 + d) = 10000 + d := wrap_in _ ⟨by omega, by omega⟩
        have w4 : IntKind.i64.wrap (10000 + d - 1) = 10000 + d - 1 := wrap_in _ ⟨by omega, by omega⟩
        have tq : (10000 + d - 1).tdiv d = (K : Int) := by rw [Int.tdiv_eq_ediv_of_nonneg (by omega)]; exact hQ
        have w5 : IntKind.i64.wrap (K : Int) = (K : Int) := wrap_in _ ⟨by omega, by omega⟩
        have w6 : IntKind.i64.wrap ((K : Int) + 1) = (K : Int) + 1 := wrap_in _ ⟨by omega, by omega⟩
        clear hK hQ hB HA NC
        go_enter Try.func26, Try.ntmps26
        go_wp2_with fail
        refine HR.out.mono ?_
        rintro e w1 ⟨rfl, gg⟩
        have X := Lib.hid gg; clear gg
        go_wp2
        go_returns
        exact ⟨_, rfl, pts_nil _, X.out⟩
      · have e0 : dnsE l d = 0 := by unfold dnsE; rw [if_neg (by omega), if_pos ⟨d0, d1⟩, if_neg hB]
        rw [show dnsL l d = dnsR l d (dnsK d) ++ [(gX l (l.length - 1), gR l (l.length - 1))] by unfold dnsL; rw [if_pos e0], e0]
        exact rfDn_ok b off l.length cap (dnsK d) l d w n0 n1 hb d0 d1 (Lib.hid hK) (Lib.hid hB) (by unfold dnsK; exact (Int.toNat_of_nonneg (Int.ediv_nonneg (by omega) (by omega))).symm) NC HR HA
    · have e2 : dnsE l d = 2 := by unfold dnsE; rw [if_neg (by omega), if_neg hd]
      rw [show dnsL l d = [] by unfold dnsL; rw [if_neg (by omega)], e2]
      by_cases g1 : d < 1
      · have g2 : decide (d < 1) = true := decide_eq_true g1
        go_enter Try.func26, Try.ntmps26
        go_wp2_with fail
        refine HR.out.mono ?_
        rintro e w1 ⟨rfl, gg⟩
        have X := Lib.hid gg; clear gg
        go_wp2
        go_returns
        exact ⟨_, rfl, pts_nil _, X.out⟩
      · have g2 : decide (d < 1) = false := decide_eq_false g1
        have g3 : decide (10000 < d) = true := decide_eq_true (by omega)
        go_enter Try.func26, Try.ntmps26
        go_wp2_with fail
        refine HR.out.mono ?_
        rintro e w1 ⟨rfl, gg⟩
        have X := Lib.hid gg; clear gg
        go_wp2
        go_returns
        exact ⟨_, rfl, pts_nil _, X.out⟩
  · have e1 : dnsE l d = 1 := by unfold dnsE; rw [if_pos he]
    rw [show dnsL l d = [] by unfold dnsL; rw [if_neg (by omega)], e1]
    rw [show (dnE l == 0) = false by simpa using he] at HR
    go_enter Try.func26, Try.ntmps26
    go_wp2_with fail
    refine HR.out.mono ?_
    rintro e w1 ⟨rfl, gg⟩
    have X := Lib.hid gg; clear gg
    go_wp2
    go_returns
    exact ⟨_, rfl, pts_nil _, X.out⟩
end Go.Proofs.Ytadkhhkoankhnaa

namespace Go.Proofs.Ytadkhhkoankhnaa

/-- the last row of a list -/
def lsX (T : List (Int × Int)) : Int := gX T (T.length - 1)
def lsR (T : List (Int × Int)) : Int := gR T (T.length - 1)
theorem three_lo {x0 r0 x1 r1 x2 r2 s : Int} (h : WR [(x0, r0), (x1, r1), (x2, r2)]) (h0 : x0 ≤ s) (h1 : s ≤ x1) : atD [(x0, r0), (x1, r1), (x2, r2)] s = btD x0 r0 x1 r1 s :=
  atD_eqW h (k := 0) (by simp) h0 h1
theorem three_hi {x0 r0 x1 r1 x2 r2 s : Int} (h : WR [(x0, r0), (x1, r1), (x2, r2)]) (h0 : x1 ≤ s) (h1 : s ≤ x2) : atD [(x0, r0), (x1, r1), (x2, r2)] s = btD x1 r1 x2 r2 s :=
  atD_eqW h (k := 1) (by simp) h0 h1
theorem wr_of {l : List (Int × Int)} (h : DR l) {j k : Nat} (hj : j ≤ k) (hk : k + 2 < l.length) : WR [(gX l j, gR l j), (gX l (k + 1), gR l (k + 1)), (gX l (k + 2), gR l (k + 2))] :=
  wr3 (h.b j (by omega)).1 (h.lt (by omega) (by omega)) (h.lt (by omega) (by omega)) (h.b (k + 2) hk).2.1 (h.b (k + 2) hk).2.2.1 (h.ge (by omega) (by omega)) (h.ge (by omega) (by omega)) (h.b j (by omega)).2.2.2
theorem th_inv {l : List (Int × Int)} (h : DR l) : ∀ k, k + 1 < l.length → ∀ s : Int, lsX (thK l k) ≤ s → s ≤ gX l (k + 1) → atD l s = btD (lsX (thK l k)) (lsR (thK l k)) (gX l (k + 1)) (gR l (k + 1)) s
  | 0, hk, s, h0, h1 => atD_eq h (k := 0) hk h0 h1
  | k + 1, hk, s, h0, h1 => by
    obtain ⟨_, j, hj, e1, e2⟩ := thK_last l k
    have ih := th_inv h k (by omega)
    have w3 := wr_of h hj hk
    have e : thK l (k + 1) = if nlB (gX (thK l k) ((thK l k).length - 1)) (gR (thK l k) ((thK l k).length - 1)) (gX l (k + 1)) (gR l (k + 1)) (gX l (k + 2)) (gR l (k + 2)) = true then thK l k else thK l k ++ [(gX l (k + 1), gR l (k + 1))] := rfl
    rw [e1, e2] at e
    unfold lsX lsR at ih
    rw [e1, e2] at ih
    by_cases hn : nlB (gX l j) (gR l j) (gX l (k + 1)) (gR l (k + 1)) (gX l (k + 2)) (gR l (k + 2)) = true
    · rw [if_pos hn] at e
      rw [e] at h0 ⊢
      unfold lsX at h0
      unfold lsX lsR
      rw [e1] at h0
      rw [e1, e2]
      have q : btD (gX l j) (gR l j) (gX l (k + 2)) (gR l (k + 2)) s = atD [(gX l j, gR l j), (gX l (k + 1), gR l (k + 1)), (gX l (k + 2), gR l (k + 2))] s := by
        by_cases c : btD (gX l j) (gR l j) (gX l (k + 2)) (gR l (k + 2)) s = atD [(gX l j, gR l j), (gX l (k + 1), gR l (k + 1)), (gX l (k + 2), gR l (k + 2))] s
        · exact c
        · rw [nlB_no h0 h1 c] at hn; cases hn
      rw [show gX l (k + 1 + 1) = gX l (k + 2) from rfl, show gR l (k + 1 + 1) = gR l (k + 2) from rfl, q]
      rcases Int.le_total s (gX l (k + 1)) with c | c
      · rw [three_lo w3 h0 c]; exact ih s h0 c
      · rw [three_hi w3 c h1]; exact atD_eq h (k := k + 1) hk c h1
    · rw [if_neg hn] at e
      rw [e] at h0 ⊢
      have f : ∀ (T : List (Int × Int)) (x r : Int), lsX (T ++ [(x, r)]) = x ∧ lsR (T ++ [(x, r)]) = r := fun T x r => by
        unfold lsX lsR gX gR
        simp [List.getD_eq_getElem?_getD]
      rw [(f _ _ _).1] at h0
      rw [(f _ _ _).1, (f _ _ _).2]
      exact atD_eq h (k := k + 1) hk h0 h1
/-- a row is needless iff the line around it has the densities of the whole table -/
theorem th_same {l : List (Int × Int)} (h : DR l) {k : Nat} (hk : k + 2 < l.length) :
    nlB (lsX (thK l k)) (lsR (thK l k)) (gX l (k + 1)) (gR l (k + 1)) (gX l (k + 2)) (gR l (k + 2)) = true ↔ ∀ s : Int, lsX (thK l k) ≤ s → s ≤ gX l (k + 2) → atD l s = btD (lsX (thK l k)) (lsR (thK l k)) (gX l (k + 2)) (gR l (k + 2)) s := by
  obtain ⟨_, j, hj, e1, e2⟩ := thK_last l k
  have w3 := wr_of h hj hk
  have ih := th_inv h k (by omega)
  unfold lsX lsR at ih ⊢
  rw [e1, e2] at ih ⊢
  have t : ∀ s : Int, gX l j ≤ s → s ≤ gX l (k + 2) → atD [(gX l j, gR l j), (gX l (k + 1), gR l (k + 1)), (gX l (k + 2), gR l (k + 2))] s = atD l s := fun s h0 h1 => by
    rcases Int.le_total s (gX l (k + 1)) with c | c
    · rw [three_lo w3 h0 c]; exact (ih s h0 c).symm
    · rw [three_hi w3 c h1]; exact (atD_eq h (k := k + 1) hk c h1).symm
  constructor
  · intro hn s h0 h1
    by_cases c : btD (gX l j) (gR l j) (gX l (k + 2)) (gR l (k + 2)) s = atD [(gX l j, gR l j), (gX l (k + 1), gR l (k + 1)), (gX l (k + 2), gR l (k + 2))] s
    · rw [c, t s h0 h1]
    · rw [nlB_no h0 h1 c] at hn; cases hn
  · intro g
    exact nlB_yes fun s h0 h1 => by rw [t s h0 h1]; exact (g s h0 h1).symm
end Go.Proofs.Ytadkhhkoankhnaa

namespace Go.Proofs.Ytadkhhkoankhnaa
open Go.RowKit

set_option maxHeartbeats 8000000 in
theorem rfSm_any (v u : Value) (l m : List (Int × Int)) (x y : Int) (B : Bool) (w : World) (hv : Pts w v l) (hu : Pts w u m) (hD : DR l) (hE : DR m) (h0 : 0 ≤ x) (hxy : x ≤ y) (h1 : y ≤ 10000)
    (hB1 : Hid (∀ s, x ≤ s → s ≤ y → atD l s ≠ atD m s → B = false)) (hB2 : Hid ((∀ s, x ≤ s → s ≤ y → atD l s = atD m s) → B = true)) :
    Calls Try.prog 57 #[v, u, .int .i64 x, .int .i64 y] w fun e w' => e = .returned (.bool B) ∧ Below w.heap.size w w' := by
  have HA := Lib.hid (fun W (s : Int) (hW : Below w.heap.size w W) (s0 : 0 ≤ s) (s1 : s ≤ 10000) => rfAt_any v l s W (hv.below hW) hD s0 s1)
  have HC := Lib.hid (fun W (s : Int) (hW : Below w.heap.size w W) (s0 : 0 ≤ s) (s1 : s ≤ 10000) => rfAt_any u m s W (hu.below hW) hE s0 s1)
  clear hv hu hD hE
  go_enter Try.func57, Try.ntmps57
  go_wp2_with fail
  go_loopw [9] (fun ss wr => ∃ s : Int, ss = .int .i64 s ∧ x ≤ s ∧ s ≤ y + 1 ∧ Hid (Below w.heap.size w wr) ∧ Hid (∀ t, x ≤ t → t < s → atD l t = atD m t)) (fun ss _ => (y + 1 - intOf ss).toNat)
  case atStart => exact ⟨x, rfl, Int.le_refl _, by omega, Below.refl _ _, fun t g1 g2 => by omega⟩
  case round =>
    obtain ⟨s, rfl, s0, s1, hS, ha⟩ := hrel
    by_cases hlt : s ≤ y
    · have l0 : decide (s ≤ y) = true := decide_eq_true hlt
      have HA1 := Lib.hid (HA.out _ s hS.out (by omega) (by omega))
      have HC1 := Lib.hid (fun W hW => HC.out W s hW (by omega) (by omega))
      have H1 := Lib.hid (hB1.out s s0 hlt)
      have HN : Hid (atD l s = atD m s → ∀ t, x ≤ t → t < s + 1 → atD l t = atD m t) := Lib.hid fun e t g1 g2 => by
        by_cases k : t = s
        · rw [k]; exact e
        · exact ha.out t g1 (by omega)
      have ws : IntKind.i64.wrap (s + 1) = s + 1 := wrap_in _ ⟨by omega, by omega⟩
      generalize atD l s = p at *
      generalize atD m s = q at *
      by_cases hq : p = q
      · have hq2 : (p != q) = false := by simp [hq]
        have hN2 := Lib.hid (HN.out hq)
        clear H1 HN
        replace hq := Lib.hid hq
        go_wp2_with fail
        refine HA1.out.mono ?_
        rintro e w3 ⟨rfl, gg⟩
        have X := Lib.hid (bel_trans hS.out gg); clear gg
        go_wp2_with fail
        refine (HC1.out _ X.out).mono ?_
        rintro e w4 ⟨rfl, gg⟩
        replace X := Lib.hid (bel_trans X.out gg); clear gg
        go_wp2
        go_roundw
        case rel => exact ⟨s + 1, rfl, by omega, by omega, X, hN2⟩
        case measure => simp [intOf]; omega
      · have hq2 : (p != q) = true := by simpa using hq
        obtain rfl := H1.out hq
        clear HN hq
        go_wp2_with fail
        refine HA1.out.mono ?_
        rintro e w3 ⟨rfl, gg⟩
        have X := Lib.hid (bel_trans hS.out gg); clear gg
        go_wp2_with fail
        refine (HC1.out _ X.out).mono ?_
        rintro e w4 ⟨rfl, gg⟩
        replace X := Lib.hid (bel_trans X.out gg); clear gg
        go_wp2
        go_returns
        exact ⟨rfl, X.out⟩
    · have l0 : decide (s ≤ y) = false := decide_eq_false hlt
      obtain rfl := hB2.out (fun t g1 g2 => ha.out t g1 (by omega))
      go_wp2
      go_returns
      exact ⟨rfl, hS.out⟩
end Go.Proofs.Ytadkhhkoankhnaa

namespace Go.Proofs.Ytadkhhkoankhnaa

theorem gx_get {l : List (Int × Int)} {i : Nat} (h : i < l.length) : gX l i = l[i].1 ∧ gR l i = l[i].2 := by
  unfold gX gR
  simp [List.getD_eq_getElem?_getD, List.getElem?_eq_getElem h]
theorem DR.pw {l : List (Int × Int)} (h : DR l) : l.Pairwise fun a b => a.1 < b.1 ∧ b.2 ≤ a.2 :=
  List.pairwise_iff_getElem.2 fun i j hi hj hij => by
    have a := h.lt hij hj
    have b := h.ge (show i ≤ j by omega) hj
    rw [(gx_get hi).1, (gx_get hj).1] at a
    rw [(gx_get hi).2, (gx_get hj).2] at b
    exact ⟨a, b⟩
theorem DR.of_sub {l m : List (Int × Int)} (h : DR l) (hs : m.Sublist l) (n0 : 2 ≤ m.length) (z : gX m 0 = 0) (t : gX m (m.length - 1) = 10000) : DR m := by
  have pw := List.pairwise_iff_getElem.1 (h.pw.sublist hs)
  refine ⟨n0, Nat.le_trans hs.length_le h.n1, fun i hi => ?_, fun i hi => ?_, fun i hi => ?_, z, t⟩
  · have mem : m[i] ∈ l := hs.subset (List.getElem_mem hi)
    obtain ⟨j, hj, e⟩ := List.getElem_of_mem mem
    have b := h.b j hj
    rw [(gx_get hj).1, (gx_get hj).2, e] at b
    rw [(gx_get hi).1, (gx_get hi).2]
    exact b
  · have p := pw i (i + 1) (by omega) hi (by omega)
    rw [(gx_get (show i < m.length by omega)).1, (gx_get hi).1]
    exact p.1
  · have p := pw i (i + 1) (by omega) hi (by omega)
    rw [(gx_get (show i < m.length by omega)).2, (gx_get hi).2]
    exact p.2
theorem take_row {l : List (Int × Int)} {k : Nat} (hk : k < l.length) : l.take (k + 1) = l.take k ++ [(gX l k, gR l k)] := by
  have e : (gX l k, gR l k) = l[k] := by rw [(gx_get hk).1, (gx_get hk).2]
  rw [List.take_succ_eq_append_getElem hk, e]
theorem thK_sub {l : List (Int × Int)} : ∀ k, k < l.length → (thK l k).Sublist (l.take (k + 1))
  | 0, hk => by rw [take_row hk]; exact List.sublist_append_right _ _
  | k + 1, hk => by
    have ih := thK_sub (l := l) k (by omega)
    rw [take_row hk]
    rw [show thK l (k + 1) = if nlB (gX (thK l k) ((thK l k).length - 1)) (gR (thK l k) ((thK l k).length - 1)) (gX l (k + 1)) (gR l (k + 1)) (gX l (k + 2)) (gR l (k + 2)) = true then thK l k else thK l k ++ [(gX l (k + 1), gR l (k + 1))] from rfl]
    split
    · exact ih.trans (List.sublist_append_left _ _)
    · exact ih.append (List.Sublist.refl _)
theorem thK_first (l : List (Int × Int)) : ∀ k, gX (thK l k) 0 = gX l 0
  | 0 => rfl
  | k + 1 => by
    have ih := thK_first l k
    have n := (thK_last l k).1.1
    rw [show thK l (k + 1) = if nlB (gX (thK l k) ((thK l k).length - 1)) (gR (thK l k) ((thK l k).length - 1)) (gX l (k + 1)) (gR l (k + 1)) (gX l (k + 2)) (gR l (k + 2)) = true then thK l k else thK l k ++ [(gX l (k + 1), gR l (k + 1))] from rfl]
    split
    · exact ih
    · unfold gX at ih ⊢
      rw [List.getD_eq_getElem?_getD, List.getElem?_append_left (by omega), ← List.getD_eq_getElem?_getD]
      exact ih
/-- what stands while the reference thins: the rows that were kept, and those from j on -/
def thU (l : List (Int × Int)) (k j : Nat) : List (Int × Int) := thK l k ++ l.drop j
theorem thU_len {l : List (Int × Int)} {k j : Nat} : (thU l k j).length = (thK l k).length + (l.length - j) := by unfold thU; simp
theorem thU_lo {l : List (Int × Int)} {k j i : Nat} (h : i < (thK l k).length) : gX (thU l k j) i = gX (thK l k) i ∧ gR (thU l k j) i = gR (thK l k) i := by
  unfold thU gX gR
  simp only [List.getD_eq_getElem?_getD, List.getElem?_append_left h]
  exact ⟨trivial, trivial⟩
theorem thU_hi {l : List (Int × Int)} {k j i : Nat} : gX (thU l k j) ((thK l k).length + i) = gX l (j + i) ∧ gR (thU l k j) ((thK l k).length + i) = gR l (j + i) := by
  unfold thU gX gR
  simp only [List.getD_eq_getElem?_getD, List.getElem?_append_right (Nat.le_add_right _ _), Nat.add_sub_cancel_left, List.getElem?_drop]
  exact ⟨trivial, trivial⟩
theorem thU_dr {l : List (Int × Int)} (h : DR l) {k j : Nat} (hk : k < j) (hj : j < l.length) : DR (thU l k j) := by
  have n := (thK_last l k).1.1
  refine h.of_sub ?_ (by rw [thU_len]; omega) ?_ ?_
  · unfold thU
    have s1 := thK_sub (l := l) k (by omega)
    have s2 : (l.take (k + 1)).Sublist (l.take j) := List.take_sublist_take_left (by omega)
    have s3 := (s1.trans s2).append (List.Sublist.refl (l.drop j))
    rwa [List.take_append_drop] at s3
  · rw [(thU_lo (by omega)).1, thK_first, h.z]
  · rw [thU_len, show (thK l k).length + (l.length - j) - 1 = (thK l k).length + (l.length - 1 - j) by omega, thU_hi.1, show j + (l.length - 1 - j) = l.length - 1 by omega, h.t]
/-- the densities around a row that was left out -/
theorem thU_at {l : List (Int × Int)} (h : DR l) {k j : Nat} (hk : k < j) (hj : j < l.length) {s : Int} (h0 : lsX (thK l k) ≤ s) (h1 : s ≤ gX l j) :
    atD (thU l k j) s = btD (lsX (thK l k)) (lsR (thK l k)) (gX l j) (gR l j) s := by
  have n := (thK_last l k).1.1
  have e := atD_eq (thU_dr h hk hj) (s := s) (k := (thK l k).length - 1) (by rw [thU_len]; omega)
  rw [(thU_lo (show (thK l k).length - 1 < (thK l k).length by omega)).1, (thU_lo (show (thK l k).length - 1 < (thK l k).length by omega)).2, show (thK l k).length - 1 + 1 = (thK l k).length + 0 by omega, thU_hi.1, thU_hi.2, Nat.add_zero] at e
  exact e h0 h1
end Go.Proofs.Ytadkhhkoankhnaa

namespace Go.Proofs.Ytadkhhkoankhnaa
open Go.RowKit

theorem flat_take (l : List (Int × Int)) (i : Nat) : flat (l.take i) = (flat l).take (i * 2) := by
  induction l generalizing i with
  | nil => simp [flat]
  | cons q l ih =>
    cases i with
    | zero => simp [flat]
    | succ i =>
      rw [show (i + 1) * 2 = i * 2 + 1 + 1 by omega]
      simp only [List.take_succ_cons, flat, ih]
theorem flat_drop (l : List (Int × Int)) (i : Nat) : flat (l.drop i) = (flat l).drop (i * 2) := by
  induction l generalizing i with
  | nil => simp [flat]
  | cons q l ih =>
    cases i with
    | zero => simp [flat]
    | succ i =>
      rw [show (i + 1) * 2 = i * 2 + 1 + 1 by omega]
      simp only [List.drop_succ_cons, flat, ih]
/-- the cells of a list that lies in memory -/
theorem flat_cells {W : World} {b off n : Nat} {l : List (Int × Int)} (hn : n = l.length) (hc : ∀ j, j < n → W.cell? ⟨b, off + j * 2, none⟩ = some (.int .i64 (gX l j)) ∧ W.cell? ⟨b, off + j * 2 + 1, none⟩ = some (.int .i64 (gR l j))) :
    ∀ j u, (flat l)[j]? = some u → W.cell? ⟨b, off + j, none⟩ = some u := by
  intro j u hj
  obtain ⟨i, hi, ⟨rfl, rfl⟩ | ⟨rfl, rfl⟩⟩ := flat_inv l j u hj
  · exact (hc i (by omega)).1
  · rw [← Nat.add_assoc]; exact (hc i (by omega)).2
theorem take_cells {W : World} {b off n : Nat} {l : List (Int × Int)} (i : Nat) (h : ∀ j u, (flat l)[j]? = some u → W.cell? ⟨b, off + j, none⟩ = some u) :
    ∀ j u, (flat (l.take i))[j]? = some u → W.cell? ((⟨b, off, none⟩ : Addr).add j) = some u := by
  intro j u hj
  rw [flat_take, List.getElem?_take] at hj
  split at hj
  · rw [Go.WideShapes.add_plain]; exact h j u hj
  · cases hj
theorem drop_cells {W : World} {b off : Nat} {l : List (Int × Int)} (i : Nat) (h : ∀ j u, (flat l)[j]? = some u → W.cell? ⟨b, off + j, none⟩ = some u) :
    ∀ j u, (flat (l.drop i))[j]? = some u → W.cell? ((⟨b, off + i * 2, none⟩ : Addr).add j) = some u := by
  intro j u hj
  rw [flat_drop, List.getElem?_drop] at hj
  rw [Go.WideShapes.add_plain, Nat.add_assoc]
  exact h _ u hj
theorem step_firstg {ops : Array Oper} {o : Oper} {a : Act} {w : World} {K : Act → World → Prop} {Q : Exit → Act → World → Prop} {E : Prop} (hg : o.guard = none) (s x : Operand)
    (hop : o.op = Op.call { callee := Callee.builtin Builtin.append, args := #[s, x], argTypes := #[22, 22] })
    (hs : ∃ g, a.eval s = .slice (some ⟨g, 0, none⟩) 0 0) (b off n c : Nat) (hx : a.eval x = .slice (some ⟨b, off, none⟩) n c) (l : List (Int × Int)) (hl : (flat l).length = n * 2)
    (hc : ∀ j u, (flat l)[j]? = some u → w.cell? ((⟨b, off, none⟩ : Addr).add j) = some u) (h0 : 0 < n) (hn : n ≤ 1000)
    (h : ∀ v' w', w'.ownsRow w.heap.size 42 2 v' n (flat l) → w.grownBy w' none → K (a.put o.dst v') w') :
    if Region.wanted o (yielded ops a.tmps) = true then Oper.wp Try.prog o a w K Q else E := by
  obtain ⟨i0, hi, hz0, hz1, hz2⟩ := RG.info_parts RG.mk_info
  obtain ⟨g, hs⟩ := hs
  refine step_append_grows hg s x 22 hop 42 i0 (.agg #[.int .i64 0, .int .i64 0]) 2 16 Try.underlying22 hi hz0 hz1 hz2 rfl (by decide) (some ⟨g, 0, none⟩) 0 0 [] hs (fun h => by cases h) rfl (fun b' hb' j u hj => by cases hj) ⟨b, off, none⟩ n c (flat l) hx hl hc (flat_one _) (by omega) (by unfold maxLen; omega) (by omega) (fun v' w' h1 h2 => h v' w' (by simpa using h1) h2)
end Go.Proofs.Ytadkhhkoankhnaa

namespace Go.Proofs.Ytadkhhkoankhnaa
open Go.RowKit

theorem step_rowsg {ops : Array Oper} {o : Oper} {a : Act} {w : World} {K : Act → World → Prop} {Q : Exit → Act → World → Prop} {E : Prop} (hg : o.guard = none) (s x : Operand)
    (hop : o.op = Op.call { callee := Callee.builtin Builtin.append, args := #[s, x], argTypes := #[22, 22] }) (B n b off k c : Nat) (v : Value) (l m : List (Int × Int))
    (hs : a.eval s = v) (hx : a.eval x = .slice (some ⟨b, off, none⟩) k c) (hown : w.ownsRow B 42 2 v n (flat l)) (hm : m.length = k) (hn : n + k ≤ 1000) (hB : B ≤ w.heap.size)
    (hp : ∀ j u, (flat m)[j]? = some u → w.cell? ((⟨b, off, none⟩ : Addr).add j) = some u)
    (h : ∀ v' w', w'.ownsRow B 42 2 v' (n + k) (flat l ++ flat m) → w.grownBy w' v.ownBlock → K (a.put o.dst v') w') :
    if Region.wanted o (yielded ops a.tmps) = true then Oper.wp Try.prog o a w K Q else E := by
  obtain ⟨i0, hi, hz0, hz1, hz2⟩ := RG.info_parts RG.mk_info
  rw [if_pos (by simp [Region.wanted, hg])]
  exact wp_append_own w s x 22 hop B 42 i0 (.agg #[.int .i64 0, .int .i64 0]) 2 16 Try.underlying22 hi hz0 hz1 hz2 rfl (by decide) v n _ hs hown ⟨b, off, none⟩ k c (flat m) hx (by rw [flat_len, hm]) hp (flat_one _) (by unfold maxLen; omega) (by omega) hB (fun v' w' h1 h2 _ => h v' w' h1 h2)
theorem own_base {w : World} {B B' n size : Nat} {e : TypeId} {v : Value} {xs : List Value} (h : w.ownsRow B e size v n xs) (hb : B' ≤ B) : w.ownsRow B' e size v n xs := by
  obtain ⟨h1, h2⟩ := h
  refine ⟨h1, ?_⟩
  rcases h2 with h2 | ⟨g, cap, cur, h2, hg, r⟩
  · exact .inl h2
  · exact .inr ⟨g, cap, cur, h2, Nat.le_trans hb hg, r⟩
theorem thU_keep {l : List (Int × Int)} {k : Nat} (hk : k + 1 < l.length) : thK l k ++ [(gX l (k + 1), gR l (k + 1))] ++ l.drop (k + 2) = thU l k (k + 1) := by
  have e : (gX l (k + 1), gR l (k + 1)) = l[k + 1] := by rw [(gx_get hk).1, (gx_get hk).2]
  unfold thU
  rw [List.drop_eq_getElem_cons hk, e, List.append_assoc]; rfl
theorem drop_last {l : List (Int × Int)} {m : Nat} (h : l.length = m + 2) : l.drop (m + 1) = [(gX l (m + 1), gR l (m + 1))] := by
  have e : (gX l (m + 1), gR l (m + 1)) = l[m + 1] := by rw [(gx_get (show m + 1 < l.length by omega)).1, (gx_get (show m + 1 < l.length by omega)).2]
  rw [List.drop_eq_getElem_cons (show m + 1 < l.length by omega), e, List.drop_eq_nil_of_le (by omega)]
theorem thU_take (l : List (Int × Int)) (k j : Nat) : (thU l k j).take (thK l k).length = thK l k := by unfold thU; simp
theorem thU_drop (l : List (Int × Int)) (k j : Nat) : (thU l k j).drop ((thK l k).length + 1) = l.drop (j + 1) := by unfold thU; simp [List.drop_append]
set_option maxHeartbeats 32000000 in
set_option maxRecDepth 100000 in
theorem rfTh_ok (b off m cap : Nat) (l : List (Int × Int)) (w : World) (hl : l.length = m + 2) (hD : Hid (DR l)) (n1 : m + 2 ≤ 128) (hb : b < w.heap.size) (NV : Hid (Pts w (.slice (some ⟨b, off, none⟩) (m + 2) cap) l))
    (hc : Hid (∀ j, j < m + 2 → w.cell? ⟨b, off + j * 2, none⟩ = some (.int .i64 (gX l j)) ∧ w.cell? ⟨b, off + j * 2 + 1, none⟩ = some (.int .i64 (gR l j))))
    (H : Hid (Calls Try.prog 51 #[.slice (some ⟨b, off, none⟩) (m + 2) cap] w fun e w' => e = .returned (.bool true) ∧ Below w.heap.size w w')) :
    Calls Try.prog 24 #[.slice (some ⟨b, off, none⟩) (m + 2) cap] w fun e w' => ∃ u, e = .returned (.tuple #[u, .int .i64 0]) ∧ Pts w' u (thK l m ++ [(gX l (m + 1), gR l (m + 1))]) ∧ Below w.heap.size w w' := by
  obtain ⟨i0, hi, hz0, hz1, hz2⟩ := RG.info_parts RG.mk_info
  replace hi := Lib.hid hi
  replace hz0 := Lib.hid hz0
  replace hz1 := Lib.hid hz1
  replace hz2 := Lib.hid hz2
  go_enter Try.func24, Try.ntmps24
  go_wp2_with fail
  refine H.out.mono ?_
  rintro e w1 ⟨rfl, gg⟩
  have X1 := Lib.hid gg; clear gg
  have XA : Hid (Below w.heap.size w (w1.alloc (.cells #[] 42))) := Lib.hid (bel_trans X1.out (bel_alloc (Below.refl _ _)))
  have OA : Hid ((w1.alloc (.cells #[] 42)).ownsRow w.heap.size 42 2 (.slice (some ⟨w1.heap.size, 0, none⟩) 0 0) 0 (flat [])) := Lib.hid (no_row w1 w.heap.size X1.out.size)
  have CN : Hid (∀ j u, (flat l)[j]? = some u → (w1.alloc (.cells #[] 42)).cell? ((⟨b, off, none⟩ : Addr).add j) = some u) := Lib.hid fun j u hj => by
    rw [Go.WideShapes.add_plain]
    exact flat_cells hl.symm (fun j hj => ⟨cell_bel (hc.out j hj).1 XA.out, cell_bel (hc.out j hj).2 XA.out⟩) j u hj
  have FL : Hid ((flat l).length = (m + 2) * 2) := Lib.hid (by rw [flat_len, hl])
  have HS : Hid (w.heap.size ≤ (w1.alloc (.cells #[] 42)).heap.size) := Lib.hid XA.out.size
  have M1 : Hid (0 + (m + 2) ≤ maxLen) := Lib.hid (by unfold maxLen; omega)
  have M2 : Hid ((0 + (m + 2)) * 16 ≤ 140737488355328) := Lib.hid (by omega)
  go_wp2_with (at_builtin; refine wpList_append_own_at _ rfl _ _ 22 rfl w.heap.size 42 i0 (.agg #[.int .i64 0, .int .i64 0]) 2 16 Try.underlying22 hi.out hz0.out hz1.out hz2.out rfl (by omega) _ _ _ rfl OA.out ⟨b, off, none⟩ (m + 2) cap (flat l) rfl FL.out CN.out (flat_one _) M1.out M2.out HS.out ?_)
  intro v2 w5 hown hgrow _ _
  have S0 : Hid (RG.MkI w v2 (thU l 0 1) w5) := Lib.hid (by
    have lt := fun r hr => (World.ownsRow.lt OA.out r hr).1
    have e : thU l 0 1 = l := by
      obtain ⟨q, l', rfl⟩ : ∃ q l', l = q :: l' := by
        rcases l with _ | ⟨q, l'⟩
        · simp at hl
        · exact ⟨q, l', rfl⟩
      unfold thU
      simp [thK, gX, gR]
    refine ⟨XA.out.grown hgrow HS.out lt, ?_⟩
    rw [e]
    unfold RG.OwnM
    rw [hl]
    exact hown)
  clear hown hgrow OA CN FL HS M1 M2
  go_wp2_with fail
  go_loopw [4, 5] (fun v ii wr => ∃ k : Nat, k ≤ m ∧ ii = .int .i64 ((thK l k).length : Int) ∧ Hid (RG.MkI w v (thU l k (k + 1)) wr)) (fun v ii _ => (match v with | .slice _ n _ => n | _ => 0) - (intOf ii).toNat)
  case atStart => exact ⟨0, Nat.zero_le _, rfl, S0⟩
  case round =>
    clear S0
    obtain ⟨k, hk, rfl, hS⟩ := hrel
    obtain ⟨⟨p0, p1⟩, _⟩ := thK_last l k
    obtain ⟨av, cv, ev⟩ := RG.shape hS.out.2
    have ql : (thU l k (k + 1)).length = (thK l k).length + (m + 1 - k) := by rw [thU_len, hl]; omega
    obtain ⟨p, hp⟩ : ∃ p, (thK l k).length = p := ⟨_, rfl⟩
    obtain ⟨q, hq⟩ : ∃ q, p + (m + 1 - k) = q := ⟨_, rfl⟩
    rw [hp] at p0 p1 ql ⊢
    rw [hq] at ql
    rw [ql] at ev
    subst ev
    have wq : IntKind.i64.wrap ((q : Int) - 1) = (q : Int) - 1 := wrap_in _ ⟨by omega, by omega⟩
    by_cases hlt : k < m
    · have l0 : (p : Int) < (q : Int) - 1 := by omega
      have hP := RG.pts hS.out.2
      have hc12 : q ≤ cv ∧ cv ≤ 9223372036854775807 := by
        obtain ⟨_, _, ec, hh, _⟩ := hP
        simp only [Value.slice.injEq] at ec
        obtain ⟨_, _, ec2⟩ := ec
        rw [ql, ← ec2] at hh
        exact hh
      obtain ⟨hc1, hc2⟩ := hc12
      obtain ⟨g, og, rfl, hg, hgc⟩ := hP.at (by omega)
      replace hP := Lib.hid hP
      have lp : (p : Int) ≤ (cv : Int) := by omega
      have lp2 : p ≤ cv := by omega
      have l1 : (p : Int) < (q : Int) := by omega
      obtain ⟨z, hz⟩ : ∃ z, p + 1 = z := ⟨_, rfl⟩
      have l2 : (z : Int) < (q : Int) := by omega
      have l3 : (z : Int) ≤ (q : Int) := by omega
      have l4 : z ≤ q := by omega
      have l5 : (z : Int) ≤ (cv : Int) := by omega
      have l6 : z ≤ cv := by omega
      have wp : IntKind.i64.wrap ((p : Int) + 1) = (z : Int) := by rw [wrap_in _ ⟨by omega, by omega⟩]; omega
      have wz : IntKind.i64.wrap (z : Int) = (z : Int) := wrap_in _ ⟨by omega, by omega⟩
      have l7 : z ≠ cv := by omega
      have l8 : cv ≠ z := by omega
      have FC := Lib.hid (flat_cells ql.symm hgc)
      have OA2 : Hid (((wr.alloc (.cells #[] 42)).drew).ownsRow wr.heap.size 42 2 (.slice (some ⟨wr.heap.size, 0, none⟩) 0 0) 0 (flat [])) := Lib.hid (RG.row_belM (no_row wr wr.heap.size (Nat.le_refl _)) (bel_drew _))
      have XB : Hid (Below wr.heap.size wr ((wr.alloc (.cells #[] 42)).drew)) := Lib.hid (bel_trans (bel_alloc (Below.refl _ _)) (bel_drew _))
      have FN : ∀ W, Below wr.heap.size wr W → ∀ j u, (flat (thU l k (k + 1)))[j]? = some u → W.cell? ⟨g, og + j, none⟩ = some u := fun W hW j u hj => cell_bel (FC.out j u hj) hW
      have NA : Hid (∀ j u, (flat (thK l k))[j]? = some u → ((wr.alloc (.cells #[] 42)).drew).cell? ((⟨g, og, none⟩ : Addr).add j) = some u) := Lib.hid (by
        have := take_cells (n := 0) p (FN _ XB.out)
        rwa [← hp, thU_take] at this)
      have NB : Hid (∀ W, Below wr.heap.size wr W → ∀ j u, (flat (l.drop (k + 2)))[j]? = some u → W.cell? ((⟨g, og + z * 2, none⟩ : Addr).add j) = some u) := Lib.hid fun W hW => by
        have := drop_cells z (FN W hW)
        rwa [← hz, ← hp, thU_drop, hp, hz] at this
      have mB : Hid ((l.drop (k + 2)).length = q - z) := Lib.hid (by rw [List.length_drop]; omega)
      have sB : Hid (wr.heap.size ≤ ((wr.alloc (.cells #[] 42)).drew).heap.size) := Lib.hid XB.out.size
      clear FN
      go_upto_region 6 with fail
      go_region_law (first
        | (refine step_rowsg rfl (.tmp 18) (.tmp 21) rfl wr.heap.size 0 g og p cv (.slice (some ⟨wr.heap.size, 0, none⟩) 0 0) [] (thK l k) (by simp [Act.eval, Act.put]) (by simp [Act.eval, Act.put]) OA2.out hp (by omega) sB.out NA.out ?_; intro v3 w6 hown1 hgrow1; have gB : Hid (Below wr.heap.size wr w6) := Lib.hid (XB.out.grown hgrow1 XB.out.size (fun j hj => (World.ownsRow.lt OA2.out j hj).1)); have sC := Lib.hid gB.out.size)
        | (refine step_rowsg rfl (.tmp 22) (.tmp 26) rfl wr.heap.size (0 + p) g (og + z * 2) (q - z) (cv - z) v3 (thK l k) (l.drop (k + 2)) (by simp [Act.eval, Act.put]) (by simp [Act.eval, Act.put]) hown1 mB.out (by omega) sC.out (NB.out _ gB.out) ?_; intro v4 w7 hown2 hgrow2))
      all_goals
        have gC : Hid (Below wr.heap.size wr w7) := Lib.hid (gB.out.grown hgrow2 gB.out.size (fun j hj => (World.ownsRow.lt hown1 j hj).1))
        have X7 : Hid (Below w.heap.size w w7) := Lib.hid (hS.out.1.trans (gC.out.mono hS.out.1.size))
        have OU : Hid (RG.OwnM w7 w.heap.size v4 (thU l k (k + 2))) := Lib.hid (by
          have h2 := own_base hown2 hS.out.1.size
          unfold RG.OwnM thU
          rw [flat_app, List.length_append, mB.out, hp]
          rw [Nat.zero_add] at h2
          exact h2)
        obtain ⟨r, hr⟩ : ∃ r, p - 1 = r := ⟨_, rfl⟩
        have hX : gX (thU l k (k + 1)) r = lsX (thK l k) := by rw [(thU_lo (by omega)).1]; unfold lsX; rw [hp, hr]
        have hY : gX (thU l k (k + 1)) z = gX l (k + 2) := by rw [show z = (thK l k).length + 1 by omega, thU_hi.1]
        have cx := cell_bel (hgc r (by omega)).1 (bel_trans gC.out (bel_drew _))
        have cy := cell_bel (hgc z (by omega)).1 (bel_trans gC.out (bel_drew _))
        rw [hX] at cx
        rw [hY] at cy
        obtain ⟨⟨_, _⟩, j, hj, ej, _⟩ := thK_last l k
        have bX : lsX (thK l k) = gX l j := ej
        have b0 := (hD.out.b j (by omega)).1
        have b1 := (hD.out.b (k + 2) (by omega)).2.1
        have b2 := hD.out.lt (show j < k + 2 by omega) (by omega)
        have HC : Hid (∀ W, Below w7.heap.size w7 W → Calls Try.prog 57 #[.slice (some ⟨b, off, none⟩) (m + 2) cap, v4, .int .i64 (lsX (thK l k)), .int .i64 (gX l (k + 2))] W fun e w' => e = .returned (.bool (nlB (lsX (thK l k)) (lsR (thK l k)) (gX l (k + 1)) (gR l (k + 1)) (gX l (k + 2)) (gR l (k + 2)))) ∧ Below W.heap.size W w') := Lib.hid fun W hW => by
          have sm := th_same hD.out (show k + 2 < l.length by omega)
          have at' := fun s => thU_at hD.out (s := s) (show k < k + 2 by omega) (show k + 2 < l.length by omega)
          refine rfSm_any _ v4 l (thU l k (k + 2)) _ _ _ W (NV.out.below (bel_trans X7.out hW)) ((RG.pts OU.out).below hW) hD.out (thU_dr hD.out (by omega) (by omega)) (by rw [bX]; exact b0) (by rw [bX]; omega) b1 (Lib.hid fun s h0 h1 hne => ?_) (Lib.hid fun h => ?_)
          · cases hB : nlB (lsX (thK l k)) (lsR (thK l k)) (gX l (k + 1)) (gR l (k + 1)) (gX l (k + 2)) (gR l (k + 2)) with
            | false => rfl
            | true => exact absurd ((sm.1 hB s h0 h1).trans (at' s h0 h1).symm) hne
          · exact sm.2 fun s h0 h1 => (h s h0 h1).trans (at' s h0 h1)
        have PK : Hid (thK l (k + 1) = if nlB (lsX (thK l k)) (lsR (thK l k)) (gX l (k + 1)) (gR l (k + 1)) (gX l (k + 2)) (gR l (k + 2)) = true then thK l k else thK l k ++ [(gX l (k + 1), gR l (k + 1))]) := Lib.hid rfl
        generalize nlB (lsX (thK l k)) (lsR (thK l k)) (gX l (k + 1)) (gR l (k + 1)) (gX l (k + 2)) (gR l (k + 2)) = NL at *
        have k2 : k + 2 < l.length := by omega
        replace k2 := Lib.hid k2
        clear hX hY bX b0 b1 b2 ej hj
        generalize lsX (thK l k) = xx at *
        generalize gX l (k + 2) = yy at *
        have lr : (r : Int) < (q : Int) := by omega
        have wr1 : IntKind.i64.wrap ((p : Int) - 1) = (r : Int) := by rw [wrap_in _ ⟨by omega, by omega⟩]; omega
        have wr2 : IntKind.i64.wrap (r : Int) = (r : Int) := wrap_in _ ⟨by omega, by omega⟩
        have XX : Hid (Below w7.heap.size w7 w7.drew) := Lib.hid (bel_drew _)
        clear hown1 hown2 hgrow1 hgrow2
        go_upto_region 7 with fail
        cases NL with
        | true =>
          go_region_held3 (fun w' => w'.cell? ⟨g, og + r * 2, none⟩ = some (.int .i64 xx) ∧ w'.cell? ⟨g, og + z * 2, none⟩ = some (.int .i64 yy)) (go_keep) (first
            | (go_at_call 57; (with_reducible refine (HC.out _ XX.out).mono ?_); rintro e w8 ⟨rfl, gg⟩; have X8 := Lib.hid (bel_trans XX.out gg); have cx := cell_bel cx gg; have cy := cell_bel cy gg; clear gg))
          all_goals
            have e1 : thK l (k + 1) = thK l k := by rw [PK.out]; simp
            have SN : Hid (RG.MkI w v4 (thU l (k + 1) (k + 2)) w8) := Lib.hid ⟨bel_trans X7.out X8.out, by unfold thU; rw [e1]; exact RG.below OU.out X8.out⟩
            have e2 : (thK l (k + 1)).length = p := by rw [e1, hp]
            replace e2 := Lib.hid e2
            clear e1 PK
            obtain ⟨a4, c4, ev4⟩ := RG.shape OU.out
            rw [thU_len, hp, hl] at ev4
            obtain ⟨q4, hq4⟩ : ∃ q4, p + (m + 2 - (k + 2)) = q4 := ⟨_, rfl⟩
            rw [hq4] at ev4
            subst ev4
            go_wp2
            go_roundw
            case rel => exact ⟨k + 1, by omega, by rw [e2.out], SN⟩
            case measure => simp [intOf]; omega
        | false =>
          go_region_held3 (fun w' => w'.cell? ⟨g, og + r * 2, none⟩ = some (.int .i64 xx) ∧ w'.cell? ⟨g, og + z * 2, none⟩ = some (.int .i64 yy)) (go_keep) (first
            | (go_at_call 57; (with_reducible refine (HC.out _ XX.out).mono ?_); rintro e w8 ⟨rfl, gg⟩; have X8 := Lib.hid (bel_trans XX.out gg); have cx := cell_bel cx gg; have cy := cell_bel cy gg; clear gg))
          all_goals
            have e1 : thK l (k + 1) = thK l k ++ [(gX l (k + 1), gR l (k + 1))] := by rw [PK.out]; simp
            have SN : Hid (RG.MkI w (.slice (some ⟨g, og, none⟩) q cv) (thU l (k + 1) (k + 2)) w8) := Lib.hid (by
              have e3 : thU l (k + 1) (k + 2) = thU l k (k + 1) := by
                rw [← thU_keep (show k + 1 < l.length by have := k2.out; omega)]; unfold thU; rw [e1]
              rw [e3]
              refine ⟨bel_trans X7.out X8.out, ?_⟩
              exact RG.row_belM hS.out.2 (bel_trans gC.out X8.out))
            have e2 : (thK l (k + 1)).length = z := by rw [e1, List.length_append, hp]; exact hz
            replace e2 := Lib.hid e2
            clear e1 PK
            go_wp2
            go_roundw
            case rel => exact ⟨k + 1, by omega, by rw [e2.out], SN⟩
            case measure => simp [intOf]; omega
    · obtain rfl : m = k := by omega
      have l0 : ¬ (p : Int) < (q : Int) - 1 := by omega
      have R := Lib.hid (RG.pts hS.out.2)
      go_wp2
      go_returns
      refine ⟨_, rfl, ?_, hS.out.1⟩
      have e : thU l m (m + 1) = thK l m ++ [(gX l (m + 1), gR l (m + 1))] := by
        unfold thU
        rw [drop_last hl]
      rw [← e]; exact R.out
theorem rfTh_any (v : Value) (l : List (Int × Int)) (w : World) (hv : Pts w v l) :
    Calls Try.prog 24 #[v] w fun e w' => ∃ u, e = .returned (.tuple #[u, .int .i64 (thE l)]) ∧ Pts w' u (thL l) ∧ Below w.heap.size w w' := by
  have HR := Lib.hid (rnRt_any v l w hv)
  by_cases he : dnE l = 0
  · have hD := dnE_zero.1 he
    rw [show (dnE l == 0) = true by simpa using he] at HR
    have n0 := hD.n0
    have n1 := hD.n1
    rw [show thE l = 0 by unfold thE; rw [if_pos he], show thL l = thK l (l.length - 2) ++ [(gX l (l.length - 1), gR l (l.length - 1))] by unfold thL; rw [if_pos he]]
    have hv2 := Lib.hid hv
    obtain ⟨a, cap, rfl, hl, hh⟩ := hv
    rcases hh with hh | ⟨b, off, rfl, hb, hc⟩
    · omega
    obtain ⟨m, hm⟩ : ∃ m, l.length = m + 2 := ⟨l.length - 2, by omega⟩
    rw [hm] at hc HR hv2 ⊢
    rw [show m + 2 - 2 = m by omega, show m + 2 - 1 = m + 1 by omega]
    exact rfTh_ok b off m cap l w hm (Lib.hid hD) (by omega) hb hv2 (Lib.hid hc) HR
  · rw [show thE l = 1 by unfold thE; rw [if_neg he], show thL l = [] by unfold thL; rw [if_neg he]]
    rw [show (dnE l == 0) = false by simpa using he] at HR
    go_enter Try.func24, Try.ntmps24
    go_wp2_with fail
    refine HR.out.mono ?_
    rintro e w1 ⟨rfl, gg⟩
    have X := Lib.hid gg; clear gg
    go_wp2
    go_returns
    exact ⟨_, rfl, pts_nil _, X.out⟩
end Go.Proofs.Ytadkhhkoankhnaa

namespace Go.Proofs.Ytadkhhkoankhnaa.interpolateThins
open Go.ChangeShapes Go.WideShapes Go.ChangeAt Go.RowKit
open Go.ChangeMaps (open_string shut_string)
set_option linter.unusedVariables false

set_option maxHeartbeats 8000000 in
set_option maxRecDepth 100000 in
theorem long (a : Option Addr) (n cap : Nat) (d : Int) (l : List (Int × Int)) (w : World) (NV : Hid (Pts w (.slice a n cap) l)) (hf : fwB l.length = false) :
    Calls Try.prog 4 #[.slice a n cap, .int .i64 d] w fun e w' => e = .returned (.bool true) ∧ Below w.heap.size w w' := by
  have HA := Lib.hid (fun W => awakeI_any W)
  have FW := Lib.hid (fun v W h => few_any v l W h)
  rw [hf] at FW
  have HB := Lib.hid (Below.refl w.heap.size w)
  go_enter Try.func4, Try.ntmps4
  go_wp2_with fail
  refine (HA.out _).mono ?_
  rintro e w3 ⟨rfl, h1⟩
  replace NV := Lib.hid (NV.out.below h1)
  replace HB := Lib.hid (bel_trans HB.out h1); clear h1
  go_wp2_with fail
  refine (FW.out _ _ NV.out).mono ?_
  rintro e w90 ⟨rfl, hw⟩
  subst hw
  go_wp2
  go_returns
  exact ⟨rfl, HB.out⟩
set_option maxHeartbeats 16000000 in
set_option maxRecDepth 100000 in
theorem core (a : Option Addr) (n cap : Nat) (d E X : Int) (LT LD : List (Int × Int)) (l : List (Int × Int)) (w : World) (NV : Hid (Pts w (.slice a n cap) l)) (hf : fwB l.length = true) (z1 : LT.length ≤ 1000) (z2 : LD.length ≤ 1000)
    (C1 : Hid (∀ W, Pts W (.slice a n cap) l → Calls Try.prog 23 #[.slice a n cap] W fun e w' => ∃ u, e = .returned (.tuple #[u, .int .i64 E]) ∧ Pts w' u LT ∧ Below W.heap.size W w'))
    (C2 : Hid (∀ W, Pts W (.slice a n cap) l → Calls Try.prog 24 #[.slice a n cap] W fun e w' => ∃ u, e = .returned (.tuple #[u, .int .i64 E]) ∧ Pts w' u LT ∧ Below W.heap.size W w'))
    (C3 : Hid (∀ W, Pts W (.slice a n cap) l → Calls Try.prog 25 #[.slice a n cap, .int .i64 d] W fun e w' => ∃ u, e = .returned (.tuple #[u, .int .i64 X]) ∧ Pts w' u LD ∧ Below W.heap.size W w'))
    (C4 : Hid (∀ W, Pts W (.slice a n cap) l → Calls Try.prog 26 #[.slice a n cap, .int .i64 d] W fun e w' => ∃ u, e = .returned (.tuple #[u, .int .i64 X]) ∧ Pts w' u LD ∧ Below W.heap.size W w')) :
    Calls Try.prog 4 #[.slice a n cap, .int .i64 d] w fun e w' => e = .returned (.bool true) ∧ Below w.heap.size w w' := by
  have ES := Lib.hid (fun v u W h1 h2 => same_any v u LT LT W h1 h2 z1)
  rw [show (LT == LT) = true by simp] at ES
  have ET := Lib.hid (fun v u W h1 h2 => same_any v u LD LD W h1 h2 z2)
  rw [show (LD == LD) = true by simp] at ET
  have HA := Lib.hid (fun W => awakeI_any W)
  have FW := Lib.hid (fun v W h => few_any v l W h)
  rw [hf] at FW
  have HB := Lib.hid (Below.refl w.heap.size w)
  go_enter Try.func4, Try.ntmps4
  go_wp2_with fail
  refine (HA.out _).mono ?_
  rintro e w6 ⟨rfl, h1⟩
  replace NV := Lib.hid (NV.out.below h1)
  replace HB := Lib.hid (bel_trans HB.out h1); clear h1
  go_wp2_with fail
  refine (FW.out _ _ NV.out).mono ?_
  rintro e w90 ⟨rfl, hw⟩
  subst hw
  go_wp2_with fail
  refine (C1.out _ NV.out).mono ?_
  rintro e w7 ⟨V1, rfl, hx, h1⟩
  replace NV := Lib.hid (NV.out.below h1)
  replace HB := Lib.hid (bel_trans HB.out h1); clear h1
  have N1 := Lib.hid hx; clear hx
  go_wp2_with fail
  refine (C2.out _ NV.out).mono ?_
  rintro e w8 ⟨V2, rfl, hx, h1⟩
  replace NV := Lib.hid (NV.out.below h1)
  replace N1 := Lib.hid (N1.out.below h1)
  replace HB := Lib.hid (bel_trans HB.out h1); clear h1
  have N2 := Lib.hid hx; clear hx
  go_wp2_with fail
  refine (C3.out _ NV.out).mono ?_
  rintro e w9 ⟨V3, rfl, hx, h1⟩
  replace NV := Lib.hid (NV.out.below h1)
  replace N1 := Lib.hid (N1.out.below h1)
  replace N2 := Lib.hid (N2.out.below h1)
  replace HB := Lib.hid (bel_trans HB.out h1); clear h1
  have N3 := Lib.hid hx; clear hx
  go_wp2_with fail
  refine (C4.out _ NV.out).mono ?_
  rintro e w10 ⟨V4, rfl, hx, h1⟩
  replace NV := Lib.hid (NV.out.below h1)
  replace N1 := Lib.hid (N1.out.below h1)
  replace N2 := Lib.hid (N2.out.below h1)
  replace N3 := Lib.hid (N3.out.below h1)
  replace HB := Lib.hid (bel_trans HB.out h1); clear h1
  have N4 := Lib.hid hx; clear hx
  go_wp2_with fail
  refine (ES.out _ _ _ N1.out N2.out).mono ?_
  rintro e w11 ⟨rfl, h1⟩
  replace NV := Lib.hid (NV.out.below h1)
  replace N1 := Lib.hid (N1.out.below h1)
  replace N2 := Lib.hid (N2.out.below h1)
  replace N3 := Lib.hid (N3.out.below h1)
  replace N4 := Lib.hid (N4.out.below h1)
  replace HB := Lib.hid (bel_trans HB.out h1); clear h1
  go_wp2_with fail
  refine (ET.out _ _ _ N3.out N4.out).mono ?_
  rintro e w12 ⟨rfl, h1⟩
  replace NV := Lib.hid (NV.out.below h1)
  replace N1 := Lib.hid (N1.out.below h1)
  replace N2 := Lib.hid (N2.out.below h1)
  replace N3 := Lib.hid (N3.out.below h1)
  replace N4 := Lib.hid (N4.out.below h1)
  replace HB := Lib.hid (bel_trans HB.out h1); clear h1
  go_wp2
  go_returns
  exact ⟨rfl, HB.out⟩
theorem walk (v : Value) (l : List (Int × Int)) (d : Int) (w : World) (hv : Pts w v l) (hd : -9223372036854775808 ≤ d ∧ d ≤ 9223372036854775807) :
    Calls Try.prog 4 #[v, .int .i64 d] w fun e w' => e = .returned (.bool true) ∧ Below w.heap.size w w' := by
  have hv2 := Lib.hid hv
  obtain ⟨a, cap, rfl, _, _⟩ := hv.shape
  cases h : fwB l.length with
  | false => exact long a l.length cap d l w hv2 h
  | true =>
    have z1 : (thL l).length ≤ 1000 := by
      unfold thL
      split
      · have := (thK_last l (l.length - 2)).1.2
        simp [fwB] at h
        rw [List.length_append, List.length_singleton]
        omega
      · simp
    have z2 : (dnsL l d).length ≤ 1000 := by
      unfold dnsL
      split
      · rename_i e
        have : dnsK d + 1 ≤ 128 := by
          unfold dnsE at e
          split at e
          · cases e
          · split at e
            · split at e
              · cases e
              · omega
            · cases e
        rw [List.length_append, List.length_singleton, dnsR_len]
        omega
      · simp
    exact core a l.length cap d _ _ (thL l) (dnsL l d) l w hv2 h z1 z2 (Lib.hid fun W h => itTh_any _ l W h) (Lib.hid fun W h => rfTh_any _ l W h) (Lib.hid fun W h => itDn_any _ l d W h hd) (Lib.hid fun W h => rfDn_any _ l d W h hd)

set_option maxRecDepth 100000 in
theorem lifted (os : Os) (started : os.Started) (H : Type) (enc : TypeId × Value → H) :
    ReturnsInHanded {} Try.checked os 4 .any (Rows.interpolateThinsSpec.pre6 enc Try.prog Try.f4 Rows.interpolateThinsRow.domain false) (Rows.interpolateThinsSpec.post enc Try.prog Try.f4 false true false false) := by
  refine returnsInHanded_of_change (C := Try.checked) own started (by kernel_rfl) Try.func4
    (ChangeSpec.witness6 (enc := enc) (C := Try.checked) false ⟨#[], #[.slice none 0 0, .int .i64 0], []⟩ 8 (by kernel_rfl) (by kernel_rfl) (by kernel_rfl) (by kernel_rfl)) ?_
  intro W base args ds gs before hval0 hW hcnd _
  have hval : ∀ (j : Nat) t v, Try.f4.params[j]? = some t → args[j]? = some v → Value.okWide Try.prog W .any base t v := hval0
  clear hval0
  have hW' := hW
  obtain ⟨p, q, hA0, hV, rfl, hfz, hnd⟩ := hW
  have hA : DataW.TrodAll enc Try.prog W 0 (fun _ => true) true Try.f4.params.toList args.toList ds p := hA0
  rw [Try.params4] at hA hval
  obtain ⟨v0, vs0, d0, ds0, p0, q0, hargs, rfl, rfl, h0, r0⟩ := trodAll_cons hA
  obtain ⟨v1, vs1, d1, ds1, p1, q1, rfl, rfl, rfl, h1, r1⟩ := trodAll_cons r0
  obtain ⟨rfl, rfl, rfl⟩ := trodAll_nil r1
  obtain rfl : args = #[v0, v1] := by cases args; simp_all
  obtain ⟨rfl, rfl⟩ := trodVars_none hV
  have k0 := h0
  have lt0 : ∀ x ∈ p0, x.block < W.heap.size := by obtain ⟨m, hm⟩ := k0; exact DataW.trod_lt m _ _ _ hm
  have k1 := h1
  have lt1 : ∀ x ∈ p1, x.block < W.heap.size := by obtain ⟨m, hm⟩ := k1; exact DataW.trod_lt m _ _ _ hm
  obtain ⟨z0, w0⟩ := open_pts (hval 0 22 v0 rfl rfl) h0
  obtain ⟨a1, rfl, rfl, rfl, w1⟩ := open_int Try.underlying3 (hval 1 3 v1 rfl rfl) h1
  clear hA0
  refine (walk v0 z0 a1 W w0 (wf_bd w1)).mono fun e W' ⟨he, bel⟩ => ?_
  subst he
  exact ⟨_, rfl, _, _, _, [], _, [], hW', trodAll_mk1 (shut_bool Try.underlying4 _), (trodAll_cons_mk (Below.trod laidOut (by kernel_rfl) (of_decide_eq_true (by kernel_rfl)) k0 bel lt0) (trodAll_cons_mk (Below.trod laidOut (by kernel_rfl) (of_decide_eq_true (by kernel_rfl)) k1 bel lt1) trodAll_mk0)), rfl, bel.frame _, fun h => by cases h⟩

theorem over : Rows.interpolateThinsRow.holds Try.pinned (OpenSpec.ofChange Rows.interpolateThinsSpec) :=
  OpenClaim.holds_of_wide 4 Try.f4 rfl rfl rfl rfl rfl rfl rfl ⟨rfl, rfl, rfl, rfl, rfl⟩ rfl rfl rfl rfl rfl (by kernel_rfl) Try.func4 (by kernel_rfl)
    (of_decide_eq_true (by kernel_rfl)) (by unfold Func.isWrapper; first | (rw [if_pos (by decide +kernel)]; kernel_rfl) | (rw [if_neg (by decide +kernel)]; exact ⟨rfl, rfl⟩))
    (fun os started H enc _ => lifted os started H enc)

theorem proved : Rows.InterpolateThinsSaid := over
#print axioms proved
end Go.Proofs.Ytadkhhkoankhnaa.interpolateThins
