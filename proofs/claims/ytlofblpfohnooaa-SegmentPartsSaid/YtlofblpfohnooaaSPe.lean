/- Package segment: heights are checked. -/
import Derived.Test.YtlofblpfohnooaaSPa
import Derived.Test.YtlofblpfohnooaaSRefC
namespace Go.Proofs.Ytlofblpfohnooaa
open Go.RowKit

theorem nan_any (a : Int) (w : World) : Calls Try.prog 37 #[.int .i64 a] w fun e w' => e = .returned (.bool false) ∧ w = w' := by
  have h : (a != a) = false := by simp
  go_enter Try.func37, Try.ntmps37
  go_wp2
  go_returns
  exact ⟨rfl, rfl⟩
theorem less_any (a b : Int) (w : World) : Calls Try.prog 34 #[.int .i64 a, .int .i64 b] w fun e w' => e = .returned (.bool (decide (a < b))) ∧ w = w' := by
  have H := Lib.hid (fun W => nan_any a W)
  go_enter Try.func34, Try.ntmps34
  go_wp2_with fail
  refine (H.out _).mono ?_
  rintro e w1 ⟨rfl, hw⟩
  subst hw
  go_wp2
  go_returns
  exact ⟨rfl, rfl⟩

theorem less_same (a b : Int) (w : World) : Calls Try.prog 34 #[.int .i64 a, .int .i64 b] w fun e w' => e = .returned (.bool (decide (a < b))) ∧ w' = w :=
  (less_any a b w).mono fun _ _ h => ⟨h.1, h.2.symm⟩

set_option maxHeartbeats 4000000 in
theorem sorted_any (b off n cap : Nat) (l : List Int) (B : Bool) (w : World) (n0 : 1 ≤ n) (n1 : n ≤ 1000) (hb : b < w.heap.size)
    (hc : Hid (∀ j, j < n → w.cell? ⟨b, off + j, none⟩ = some (.int .i64 (l.getD j 0))))
    (h2 : Hid ((∃ i, i + 1 < n ∧ l.getD (i + 1) 0 < l.getD i 0) → B = false)) (h3 : Hid ((∀ i, i + 1 < n → l.getD i 0 ≤ l.getD (i + 1) 0) → B = true)) :
    Calls Try.prog 26 #[.slice (some ⟨b, off, none⟩) n cap] w fun e w' => e = .returned (.bool B) ∧ Below w.heap.size w w' := by
  go_enter Try.func26, Try.ntmps26
  go_wp2_with fail
  go_loopw [3] (fun ii wr => ∃ (k : Nat), k + 1 ≤ n ∧ ii = .int .i64 k ∧ Hid (Below w.heap.size w wr) ∧ Hid (∀ i, k ≤ i → i + 1 < n → l.getD i 0 ≤ l.getD (i + 1) 0)) (fun ii _ => (intOf ii).toNat)
  case atStart => exact ⟨n - 1, by omega, by go_num, Below.refl _ _, fun i h1 h2 => by omega⟩
  case round =>
    obtain ⟨k, hk, rfl, hB, hs⟩ := hrel
    by_cases hlt : 0 < k
    · obtain ⟨j, rfl⟩ : ∃ j, k = j + 1 := ⟨k - 1, by omega⟩
      have c0 : wr.cell? ⟨b, off + j, none⟩ = some (.int .i64 (l.getD j 0)) := by rw [(bcell hB.out).1 _ _ hb]; exact hc.out j (by omega)
      have c1 : wr.cell? ⟨b, off + (j + 1), none⟩ = some (.int .i64 (l.getD (j + 1) 0)) := by rw [(bcell hB.out).1 _ _ hb]; exact hc.out (j + 1) (by omega)
      have HG : Hid (l.getD j 0 ≤ l.getD (j + 1) 0 → ∀ i, j ≤ i → i + 1 < n → l.getD i 0 ≤ l.getD (i + 1) 0) := fun h i h1 h2 => by
        by_cases e : i = j
        · rw [e]; exact h
        · exact hs.out i (by omega) h2
      have HN : Hid (l.getD (j + 1) 0 < l.getD j 0 → B = false) := fun h => h2.out ⟨j, by omega, h⟩
      have HL := Lib.hid (fun W => less_same (l.getD (j + 1) 0) (l.getD j 0) W)
      generalize l.getD j 0 = x at *
      generalize l.getD (j + 1) 0 = y at *
      have wk : IntKind.i64.wrap (j : Int) = (j : Int) := wrap_in _ ⟨by omega, by omega⟩
      have wj : IntKind.i64.wrap ((j : Int) + 1 - 1) = (j : Int) := by rw [wrap_in _ ⟨by omega, by omega⟩]; omega
      have wj2 : IntKind.i64.wrap (((j + 1 : Nat) : Int) - 1) = (j : Int) := by rw [wrap_in _ ⟨by omega, by omega⟩]; omega
      have l0 : (j : Int) < (n : Int) := by omega
      have l1 : (j : Int) + 1 < (n : Int) := by omega
      have l2 : j < n := by omega
      have l3 : 0 ≤ (j : Int) + 1 := by omega
      have l4 : ((j : Int) + 1).toNat = j + 1 := by omega
      by_cases hxy : y < x
      · obtain rfl := HN.out hxy
        have hd : decide (y < x) = true := decide_eq_true hxy
        rw [hd] at HL
        clear HN HG hd
        go_wp2
        go_quiet (first | (go_at_call 34; refine Calls.quiet_of_same (HL.out _)))
        go_wp2
        go_returns
        exact ⟨rfl, bel_trans hB.out (bel_drewN _ _)⟩
      · have hd : decide (y < x) = false := decide_eq_false hxy
        replace HG := Lib.hid (HG.out (by omega))
        rw [hd] at HL
        clear HN hd
        go_wp2
        go_quiet (first | (go_at_call 34; refine Calls.quiet_of_same (HL.out _)))
        go_wp2
        go_roundw
        case rel => exact ⟨j, by omega, by first | rfl | go_num, bel_trans hB.out (bel_drewN _ _), HG.out⟩
        case measure => first | omega | (simp [intOf]; done) | (simp [intOf]; omega)
    · obtain rfl : k = 0 := by omega
      obtain rfl := h3.out (fun i hi => hs.out i (by omega) hi)
      go_wp2
      go_returns
      exact ⟨rfl, hB.out⟩
theorem chk_few (a : Option Addr) (n cap : Nat) (w : World) (h : n < 2) :
    Calls Try.prog 16 #[.slice a n cap] w fun e w' => e = .returned (.int .i64 9) ∧ Below w.heap.size w w' := by
  go_enter Try.func16, Try.ntmps16
  go_wp2
  go_returns
  exact ⟨rfl, Below.refl _ _⟩
theorem chk_many (a : Option Addr) (n cap : Nat) (w : World) (h : 65 < n) (h2 : n ≤ 9223372036854775807) :
    Calls Try.prog 16 #[.slice a n cap] w fun e w' => e = .returned (.int .i64 8) ∧ Below w.heap.size w w' := by
  go_enter Try.func16, Try.ntmps16
  go_wp2
  go_returns
  exact ⟨rfl, Below.refl _ _⟩
set_option maxHeartbeats 4000000 in
theorem chk_some (b off n cap : Nat) (l : List Int) (E : Int) (w : World) (n0 : 2 ≤ n) (n1 : n ≤ 65) (hl : n = l.length) (hb : b < w.heap.size)
    (hc : Hid (∀ j, j < n → w.cell? ⟨b, off + j, none⟩ = some (.int .i64 (l.getD j 0))))
    (h1 : Hid (l.all hB = false → E = 2)) (h2 : Hid (l.all hB = true → (∃ i, i + 1 < n ∧ l.getD (i + 1) 0 < l.getD i 0) → E = 5)) (h3 : Hid (l.all hB = true → (∀ i, i + 1 < n → l.getD i 0 ≤ l.getD (i + 1) 0) → E = 0)) :
    Calls Try.prog 16 #[.slice (some ⟨b, off, none⟩) n cap] w fun e w' => e = .returned (.int .i64 E) ∧ Below w.heap.size w w' := by
  have HL := Lib.hid hl
  clear hl
  go_enter Try.func16, Try.ntmps16
  go_wp2_with fail
  go_loopw [4, 15] (fun _ ii wr => ∃ (k : Nat), k ≤ n ∧ ii = .int .i64 k ∧ w = wr ∧ Hid ((l.take k).all hB = true)) (fun _ ii _ => n - (intOf ii).toNat)
  case atStart => exact ⟨0, by omega, rfl, rfl, by show _ = _; simp⟩
  case round =>
    obtain ⟨k, hk, rfl, rfl, ha⟩ := hrel
    by_cases hlt : k < n
    · have c0 := hc.out k hlt
      have hkl : k < l.length := by rw [← HL.out]; exact hlt
      have HA := Lib.hid (all_next hB l k hkl)
      have HN : Hid (hB (l.getD k 0) = false → E = 2) := fun h => h1.out (all_not hB l k hkl h)
      have HT := Lib.hid (fun W => isHt_any (l.getD k 0) W)
      clear hkl
      generalize l.getD k 0 = x at *
      cases hx : hB x with
      | true =>
        have HA2 : Hid ((l.take (k + 1)).all hB = true) := by show _ = _; rw [HA.out, ha.out, hx]; rfl
        rw [hx] at HT
        clear HN HA hx
        go_wp2_with fail
        refine (HT.out _).mono ?_
        rintro e w1 ⟨rfl, hw⟩
        subst hw
        go_wp2
        go_roundw
        case rel => exact ⟨k + 1, by omega, by go_num, by first | rfl | trivial, HA2⟩
        case measure => simp [intOf]; omega
      | false =>
        obtain rfl := HN.out hx
        rw [hx] at HT
        clear HN HA hx
        go_wp2_with fail
        refine (HT.out _).mono ?_
        rintro e w1 ⟨rfl, hw⟩
        subst hw
        go_wp2
        go_returns
        exact ⟨rfl, Below.refl _ _⟩
    · obtain rfl : k = n := by omega
      have hall := take_all (by rw [← HL.out]; exact Nat.le_refl _) ha.out
      have H2 := Lib.hid (h2.out hall)
      have H3 := Lib.hid (h3.out hall)
      clear hall h1 h2 h3 ha
      by_cases hs : ∀ i, i + 1 < k → l.getD i 0 ≤ l.getD (i + 1) 0
      · obtain rfl := H3.out hs
        have HS := Lib.hid (sorted_any b off k cap l true w (by omega) (by omega) hb hc (fun ⟨i, hi, h⟩ => by have := hs i hi; omega) (fun _ => rfl))
        clear hs H2 H3
        go_wp2_with fail
        refine HS.out.mono ?_
        rintro e w1 ⟨rfl, gg⟩
        have X1 := Lib.hid gg; clear gg
        go_wp2
        go_returns
        exact ⟨rfl, X1.out⟩
      · obtain ⟨i, hi, hlt2⟩ : ∃ i, i + 1 < k ∧ l.getD (i + 1) 0 < l.getD i 0 := by
          refine Classical.byContradiction fun h => hs fun i hi => ?_
          by_cases h' : l.getD (i + 1) 0 < l.getD i 0
          · exact absurd ⟨i, hi, h'⟩ h
          · omega
        obtain rfl := H2.out ⟨i, hi, hlt2⟩
        have HS := Lib.hid (sorted_any b off k cap l false w (by omega) (by omega) hb hc (fun _ => rfl) (fun h => by have := h i hi; omega))
        clear hs hi hlt2 H2 H3
        go_wp2_with fail
        refine HS.out.mono ?_
        rintro e w1 ⟨rfl, gg⟩
        have X1 := Lib.hid gg; clear gg
        go_wp2
        go_returns
        exact ⟨rfl, X1.out⟩
theorem chk_any (v : Value) (l : List Int) (w : World) (hv : Nums w v l) :
    Calls Try.prog 16 #[v] w fun e w' => e = .returned (.int .i64 (hcE l)) ∧ Below w.heap.size w w' := by
  obtain ⟨a, cap, rfl, hl, h⟩ := hv
  unfold hcE
  by_cases g1 : l.length < 2
  · rw [if_pos g1]
    exact chk_few a _ cap w g1
  · by_cases g2 : 65 < l.length
    · rw [if_neg g1, if_pos g2]
      exact chk_many a _ cap w g2 (by omega)
    · rcases h with h | ⟨b, off, rfl, hb, hc⟩
      · omega
      · rw [if_neg g1, if_neg g2]
        refine chk_some b off l.length cap l _ w (by omega) (by omega) rfl hb hc (fun h => ?_) (fun h h2 => ?_) (fun h h2 => ?_)
        · rw [if_pos h]
        · rw [if_neg (by rw [h]; simp), if_pos]
          obtain ⟨i, hi, hlt⟩ := h2
          rw [Bool.eq_false_iff]
          intro hc
          have := (ascB_iff l).1 hc i hi
          omega
        · rw [if_neg (by rw [h]; simp), if_neg]
          rw [(ascB_iff l).2 h2]; simp
end Go.Proofs.Ytlofblpfohnooaa
