/- The reference of layer 7: heights are checked. -/
import Derived.Test.YtlofblpfohnooaaSM
import Derived.Test.YtlofblpfohnooaaNums
import Derived.BigQuiet
namespace Go.Proofs.Ytlofblpfohnooaa
open Go.RowKit

theorem refChk_few (a : Option Addr) (n cap : Nat) (w : World) (h : n < 2) :
    Calls Try.prog 17 #[.slice a n cap] w fun e w' => e = .returned (.int .i64 9) ∧ Below w.heap.size w w' := by
  go_enter Try.func17, Try.ntmps17
  go_wp2
  go_returns
  exact ⟨rfl, Below.refl _ _⟩
theorem refChk_many (a : Option Addr) (n cap : Nat) (w : World) (h : 65 < n) (h2 : n ≤ 9223372036854775807) :
    Calls Try.prog 17 #[.slice a n cap] w fun e w' => e = .returned (.int .i64 8) ∧ Below w.heap.size w w' := by
  go_enter Try.func17, Try.ntmps17
  go_wp2
  go_returns
  exact ⟨rfl, Below.refl _ _⟩
theorem take_all {p : Int → Bool} {l : List Int} {k : Nat} (hk : l.length ≤ k) (h : (l.take k).all p = true) : l.all p = true := by
  rwa [List.take_of_length_le hk] at h
set_option maxHeartbeats 4000000 in
theorem refChk_some (b off n cap : Nat) (l : List Int) (E : Int) (w : World) (n0 : 2 ≤ n) (n1 : n ≤ 65) (hl : n = l.length) (hb : b < w.heap.size)
    (hc : Hid (∀ j, j < n → w.cell? ⟨b, off + j, none⟩ = some (.int .i64 (l.getD j 0))))
    (h1 : Hid (l.all hB = false → E = 2)) (h2 : Hid (l.all hB = true → (∃ i, i + 1 < n ∧ l.getD (i + 1) 0 < l.getD i 0) → E = 5)) (h3 : Hid (l.all hB = true → (∀ i, i + 1 < n → l.getD i 0 ≤ l.getD (i + 1) 0) → E = 0)) :
    Calls Try.prog 17 #[.slice (some ⟨b, off, none⟩) n cap] w fun e w' => e = .returned (.int .i64 E) ∧ Below w.heap.size w w' := by
  have HL := Lib.hid hl
  clear hl
  go_enter Try.func17, Try.ntmps17
  go_wp2_with fail
  go_loopw [3] (fun ii wr => ∃ (k : Nat), k ≤ n ∧ ii = .int .i64 k ∧ w = wr ∧ Hid ((l.take k).all hB = true)) (fun ii _ => n - (intOf ii).toNat)
  case atStart => exact ⟨0, by omega, rfl, rfl, by show _ = _; simp⟩
  case round =>
    obtain ⟨k, hk, rfl, rfl, ha⟩ := hrel
    by_cases hlt : k < n
    · have c0 := hc.out k hlt
      have hkl : k < l.length := by rw [← HL.out]; exact hlt
      have HA := Lib.hid (all_next hB l k hkl)
      have HN : Hid (hB (l.getD k 0) = false → E = 2) := fun h => h1.out (all_not hB l k hkl h)
      clear hkl
      generalize l.getD k 0 = x at *
      by_cases hx : 0 ≤ x ∧ x ≤ 200000
      · obtain ⟨x0, x1⟩ := hx
        have HA2 : Hid ((l.take (k + 1)).all hB = true) := by show _ = _; rw [HA.out, ha.out]; simp [hB, x0, x1]
        clear HN HA
        go_wp2
        go_roundw
        case rel => exact ⟨k + 1, by omega, by go_num, by first | rfl | trivial, HA2⟩
        case measure => simp [intOf]; omega
      · obtain rfl := HN.out (by rw [Bool.eq_false_iff]; intro h; simp [hB] at h; exact hx h)
        have hx2 : x < 0 ∨ (0 ≤ x ∧ 200000 < x) := by omega
        clear HN HA hx
        rcases hx2 with hx | ⟨hx, hx2⟩
        · go_wp2
          go_returns
          exact ⟨rfl, Below.refl _ _⟩
        · go_wp2
          go_returns
          exact ⟨rfl, Below.refl _ _⟩
    · obtain rfl : k = n := by omega
      have hall := take_all (by rw [← HL.out]; exact Nat.le_refl _) ha.out
      have H2 := Lib.hid (h2.out hall)
      have H3 := Lib.hid (h3.out hall)
      clear hall h1 h2 h3 ha
      go_wp2_with fail
      go_loopw [4] (fun ii wr => ∃ (j : Nat), j + 1 ≤ k ∧ ii = .int .i64 ((j : Int) + 1) ∧ Hid (Below w.heap.size w wr) ∧ Hid (∀ i, i + 1 < j + 1 → l.getD i 0 ≤ l.getD (i + 1) 0)) (fun ii _ => k - (intOf ii).toNat)
      case atStart => exact ⟨0, by omega, rfl, Below.refl _ _, fun i hi => by omega⟩
      case round =>
        obtain ⟨j, hj, rfl, hB, hs⟩ := hrel
        by_cases hlt : j + 1 < k
        · have c0 : wr.cell? ⟨b, off + j, none⟩ = some (.int .i64 (l.getD j 0)) := by rw [(bcell hB.out).1 _ _ hb]; exact hc.out j (by omega)
          have c1 : wr.cell? ⟨b, off + (j + 1), none⟩ = some (.int .i64 (l.getD (j + 1) 0)) := by rw [(bcell hB.out).1 _ _ hb]; exact hc.out (j + 1) hlt
          have HG : Hid (l.getD j 0 ≤ l.getD (j + 1) 0 → ∀ i, i + 1 < j + 1 + 1 → l.getD i 0 ≤ l.getD (i + 1) 0) := fun h i hi => by
            by_cases e : i = j
            · rw [e]; exact h
            · exact hs.out i (by omega)
          have HN : Hid (l.getD (j + 1) 0 < l.getD j 0 → E = 5) := fun h => H2.out ⟨j, hlt, h⟩
          generalize l.getD j 0 = x at *
          generalize l.getD (j + 1) 0 = y at *
          by_cases hxy : y < x
          · obtain rfl := HN.out hxy
            have hd : decide (y < x) = true := decide_eq_true hxy
            clear HN HG
            go_wp2
            go_quiet (fail)
            go_wp2
            go_returns
            exact ⟨rfl, bel_trans hB.out (bel_drewN _ _)⟩
          · have hd : decide (y < x) = false := decide_eq_false hxy
            replace HG := Lib.hid (HG.out (by omega))
            clear HN
            go_wp2
            go_quiet (fail)
            go_wp2
            go_roundw
            case rel => exact ⟨j + 1, by omega, by go_num, bel_trans hB.out (bel_drewN _ _), HG.out⟩
            case measure => simp [intOf]; omega
        · obtain rfl : k = j + 1 := by omega
          obtain rfl := H3.out (fun i hi => hs.out i hi)
          go_wp2
          go_returns
          exact ⟨rfl, hB.out⟩
theorem refChk_any (v : Value) (l : List Int) (w : World) (hv : Nums w v l) :
    Calls Try.prog 17 #[v] w fun e w' => e = .returned (.int .i64 (hcE l)) ∧ Below w.heap.size w w' := by
  obtain ⟨a, cap, rfl, hl, h⟩ := hv
  unfold hcE
  by_cases g1 : l.length < 2
  · rw [if_pos g1]
    exact refChk_few a _ cap w g1
  · by_cases g2 : 65 < l.length
    · rw [if_neg g1, if_pos g2]
      exact refChk_many a _ cap w g2 (by omega)
    · rcases h with h | ⟨b, off, rfl, hb, hc⟩
      · omega
      · rw [if_neg g1, if_neg g2]
        refine refChk_some b off l.length cap l _ w (by omega) (by omega) rfl hb hc (fun h => ?_) (fun h h2 => ?_) (fun h h2 => ?_)
        · rw [if_pos h]
        · rw [if_neg (by rw [h]; simp), if_pos]
          obtain ⟨i, hi, hlt⟩ := h2
          rw [Bool.eq_false_iff]
          intro hc
          have := (ascB_iff l).1 hc i hi
          omega
        · rw [if_neg (by rw [h]; simp), if_neg]
          rw [(ascB_iff l).2 h2]; simp
end Go.Proofs.Ytlofblpfohnooaa
