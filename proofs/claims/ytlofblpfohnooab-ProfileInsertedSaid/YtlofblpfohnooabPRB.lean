/- The reference of layer 8: Check. -/
import Derived.Test.YtlofblpfohnooabPRA
namespace Go.Proofs.Ytlofblpfohnooab
open Go.RowKit

theorem refCk_few (a : Option Addr) (n cap : Nat) (w : World) (h : n < 2) :
    Calls Try.prog 17 #[.slice a n cap] w fun e w' => e = .returned (.int .i64 9) ∧ Below w.heap.size w w' := by
  go_enter Try.func17, Try.ntmps17
  go_wp2
  go_returns
  exact ⟨rfl, Below.refl _ _⟩
theorem refCk_many (a : Option Addr) (n cap : Nat) (w : World) (h : 32 < n) (h2 : n ≤ 9223372036854775807) :
    Calls Try.prog 17 #[.slice a n cap] w fun e w' => e = .returned (.int .i64 8) ∧ Below w.heap.size w w' := by
  go_enter Try.func17, Try.ntmps17
  go_wp2
  go_returns
  exact ⟨rfl, Below.refl _ _⟩
set_option maxRecDepth 100000 in
set_option maxHeartbeats 16000000 in
theorem refCk_some (b off n cap : Nat) (l : List (Int × Int)) (E : Int) (w : World) (n0 : 2 ≤ n) (n1 : n ≤ 32) (hb : b < w.heap.size)
    (hc : Hid (∀ j, j < n → w.cell? ⟨b, off + j * 2, none⟩ = some (.int .i64 (gX l j)) ∧ w.cell? ⟨b, off + j * 2 + 1, none⟩ = some (.int .i64 (gR l j))))
    (h1 : Hid ((∃ j, j < n ∧ (lenB (gX l j) && lenB (gR l j)) = false) → E = 2))
    (h2 : Hid ((∀ j, j < n → (lenB (gX l j) && lenB (gR l j)) = true) → (gX l 0 ≠ 0 ∨ ∃ j, j + 1 < n ∧ gX l (j + 1) ≤ gX l j) → E = 5))
    (h3 : Hid ((∀ j, j < n → (lenB (gX l j) && lenB (gR l j)) = true) → gX l 0 = 0 → (∀ j, j + 1 < n → gX l j < gX l (j + 1)) → (∃ j, j < n ∧ gR l j = 0) → E = 16))
    (h4 : Hid ((∀ j, j < n → (lenB (gX l j) && lenB (gR l j)) = true) → gX l 0 = 0 → (∀ j, j + 1 < n → gX l j < gX l (j + 1)) → (∀ j, j < n → gR l j ≠ 0) → E = (if swl l (n - 1) = true then 10 else 0))) :
    Calls Try.prog 17 #[.slice (some ⟨b, off, none⟩) n cap] w fun e w' => e = .returned (.int .i64 E) ∧ Below w.heap.size w w' := by
  go_enter Try.func17, Try.ntmps17
  go_wp2_with fail
  go_loopw [3] (fun ii wr => ∃ (k : Nat), k ≤ n ∧ ii = .int .i64 k ∧ Hid (Below w.heap.size w wr) ∧ Hid (∀ j, j < k → (lenB (gX l j) && lenB (gR l j)) = true)) (fun ii _ => n - (intOf ii).toNat)
  case atStart => exact ⟨0, by omega, rfl, Below.refl _ _, fun j hj => by omega⟩
  case round =>
    obtain ⟨k, hk, rfl, hB, ha⟩ := hrel
    by_cases hlt : k < n
    · have c0 : wr.cell? ⟨b, off + k * 2, none⟩ = some (.int .i64 (gX l k)) := by rw [(bcell hB.out).1 _ _ hb]; exact (hc.out k hlt).1
      have c1 : wr.cell? ⟨b, off + k * 2 + 1, none⟩ = some (.int .i64 (gR l k)) := by rw [(bcell hB.out).1 _ _ hb]; exact (hc.out k hlt).2
      have HF : Hid ((lenB (gX l k) && lenB (gR l k)) = false → E = 2) := fun h => h1.out ⟨k, hlt, h⟩
      have HT : Hid ((lenB (gX l k) && lenB (gR l k)) = true → ∀ j, j < k + 1 → (lenB (gX l j) && lenB (gR l j)) = true) := fun h j hj => by
        by_cases e : j = k
        · rw [e]; exact h
        · exact ha.out j (by omega)
      have L1 := Lib.hid (fun W => refLen_any (gX l k) W)
      have L2 := Lib.hid (fun W => refLen_any (gR l k) W)
      have l1 : (k : Int) < (n : Int) := by omega
      generalize gX l k = x at *
      generalize gR l k = r at *
      cases hx : lenB x with
      | false =>
        obtain rfl := HF.out (by rw [hx]; rfl)
        rw [hx] at L1
        clear HF HT hx
        go_wp2_with fail
        refine (L1.out _).mono ?_
        rintro e w1 ⟨rfl, hw⟩
        subst hw
        go_wp2
        go_returns
        exact ⟨rfl, hB.out⟩
      | true =>
        rw [hx] at L1
        cases hr : lenB r with
        | false =>
          obtain rfl := HF.out (by rw [hx, hr]; rfl)
          rw [hr] at L2
          clear HF HT hx hr
          go_wp2_with fail
          refine (L1.out _).mono ?_
          rintro e w1 ⟨rfl, hw⟩
          subst hw
          go_wp2_with fail
          refine (L2.out _).mono ?_
          rintro e w1 ⟨rfl, hw⟩
          subst hw
          go_wp2
          go_returns
          exact ⟨rfl, hB.out⟩
        | true =>
          have ha2 := Lib.hid (HT.out (by rw [hx, hr]; rfl))
          rw [hr] at L2
          clear HF HT hx hr
          go_wp2_with fail
          refine (L1.out _).mono ?_
          rintro e w1 ⟨rfl, hw⟩
          subst hw
          go_wp2_with fail
          refine (L2.out _).mono ?_
          rintro e w1 ⟨rfl, hw⟩
          subst hw
          go_wp2
          go_roundw
          case rel => exact ⟨k + 1, by omega, by go_num, hB, ha2⟩
          case measure => simp [intOf]; omega
    · obtain rfl : k = n := by omega
      have H2 := Lib.hid (h2.out ha.out)
      have H3 := Lib.hid (h3.out ha.out)
      have H4 := Lib.hid (h4.out ha.out)
      have hB0 := hB
      clear h1 h2 h3 h4 ha
      go_wp2_with fail
      clear hB
      go_loopw [4] (fun ii wz => ∃ (j : Nat), j ≤ k ∧ ii = .int .i64 j ∧ Hid (Below w.heap.size w wz) ∧ Hid (0 < j → gX l 0 = 0) ∧ Hid (∀ i, i + 1 < j → gX l i < gX l (i + 1))) (fun ii _ => k - (intOf ii).toNat)
      case atStart => exact ⟨0, by omega, rfl, hB0, fun h => by omega, fun i hi => by omega⟩
      case round =>
        obtain ⟨j, hj, rfl, hB, hz, ha⟩ := hrel
        by_cases hlt : j < k
        · have l1 : (j : Int) < (k : Int) := by omega
          by_cases hj0 : j = 0
          · subst hj0
            have c0 : wr.cell? ⟨b, off, none⟩ = some (.int .i64 (gX l 0)) := by rw [(bcell hB.out).1 _ _ hb]; simpa using (hc.out 0 (by omega)).1
            have HF : Hid (gX l 0 ≠ 0 → E = 5) := fun h => H2.out (.inl h)
            have HT : Hid (gX l 0 = 0 → gX l 0 = 0) := id
            generalize hx0 : gX l 0 = x at c0 HF
            by_cases hx : x = 0
            · subst hx
              have ex : Hid (gX l 0 = 0) := hx0
              clear HF HT hx0
              go_wp2_with fail
              go_quiet (fail)
              go_wp2
              go_roundw
              case rel => exact ⟨1, by omega, by go_num, bel_trans hB.out (bel_drewN _ _), fun _ => (by first | trivial | exact ex.out), fun i hi => by omega⟩
              case measure => simp [intOf]; omega
            · obtain rfl := HF.out hx
              have q1 : (x != 0) = true := by simpa using hx
              clear HF HT hx0
              go_wp2_with fail
              go_quiet (fail)
              go_wp2
              go_returns
              exact ⟨rfl, bel_trans hB.out (bel_drewN _ _)⟩
          · obtain ⟨m, rfl⟩ : ∃ m, j = m + 1 := ⟨j - 1, by omega⟩
            have c0 : wr.cell? ⟨b, off + m * 2, none⟩ = some (.int .i64 (gX l m)) := by rw [(bcell hB.out).1 _ _ hb]; exact (hc.out m (by omega)).1
            have c1 : wr.cell? ⟨b, off + (m + 1) * 2, none⟩ = some (.int .i64 (gX l (m + 1))) := by rw [(bcell hB.out).1 _ _ hb]; exact (hc.out (m + 1) (by omega)).1
            have HF : Hid (gX l (m + 1) ≤ gX l m → E = 5) := fun h => H2.out (.inr ⟨m, hlt, h⟩)
            have HT : Hid (gX l m < gX l (m + 1) → ∀ i, i + 1 < m + 1 + 1 → gX l i < gX l (i + 1)) := fun h i hi => by
              by_cases e : i = m
              · rw [e]; exact h
              · exact ha.out i (by omega)
            have hz2 : Hid (gX l 0 = 0) := hz.out (by omega)
            have l2 : m < k := by omega
            have l3 : (m : Int) < (k : Int) := by omega
            have l4 : m + 1 < k := by omega
            have l5 : (m : Int) + 1 < (k : Int) := by omega
            have g0 : ((m : Int) + 1 == 0) = false := by rw [beq_eq_false_iff_ne]; omega
            have g1 : decide ((0 : Int) < (m : Int) + 1) = true := decide_eq_true (by omega)
            have wj : IntKind.i64.wrap ((m : Int) + 1 - 1) = (m : Int) := by simp only [IntKind.wrap_i64]; omega
            have wk : IntKind.i64.wrap (m : Int) = (m : Int) := by simp only [IntKind.wrap_i64]; omega
            have l6 : 0 ≤ (m : Int) + 1 := by omega
            have l7 : ((m : Int) + 1).toNat = m + 1 := by omega
            generalize gX l m = x at *
            generalize gX l (m + 1) = y at *
            clear hz hj0
            by_cases hxy : y ≤ x
            · obtain rfl := HF.out hxy
              have hd : decide (y ≤ x) = true := decide_eq_true hxy
              clear HF HT
              go_wp2_with fail
              go_quiet (fail)
              go_wp2
              go_returns
              exact ⟨rfl, bel_trans hB.out (bel_drewN _ _)⟩
            · have ha2 := Lib.hid (HT.out (by omega))
              have hd : decide (y ≤ x) = false := decide_eq_false hxy
              clear HF HT
              go_wp2_with fail
              go_quiet (fail)
              go_wp2
              go_roundw
              case rel => exact ⟨m + 1 + 1, by omega, by go_num, bel_trans hB.out (bel_drewN _ _), fun _ => hz2.out, ha2.out⟩
              case measure => simp [intOf]; omega
        · obtain rfl : j = k := by omega
          have H3' := Lib.hid (H3.out (hz.out (by omega)) (fun i hi => ha.out i hi))
          have H4' := Lib.hid (H4.out (hz.out (by omega)) (fun i hi => ha.out i hi))
          have hB1 := hB
          clear H2 H3 H4 ha hz hB0
          go_wp2_with fail
          clear hB
          go_loopw [5] (fun ii wy => ∃ (i : Nat), i ≤ j ∧ ii = .int .i64 i ∧ Hid (Below w.heap.size w wy) ∧ Hid (∀ m, m < i → gR l m ≠ 0)) (fun ii _ => j - (intOf ii).toNat)
          case atStart => exact ⟨0, by omega, rfl, hB1, fun m hm => by omega⟩
          case round =>
            obtain ⟨i, hi, rfl, hB, ha⟩ := hrel
            by_cases hlt : i < j
            · have c1 : wr.cell? ⟨b, off + i * 2 + 1, none⟩ = some (.int .i64 (gR l i)) := by rw [(bcell hB.out).1 _ _ hb]; exact (hc.out i hlt).2
              have HF : Hid (gR l i = 0 → E = 16) := fun h => H3'.out ⟨i, hlt, h⟩
              have HT : Hid (gR l i ≠ 0 → ∀ m, m < i + 1 → gR l m ≠ 0) := fun h m hm => by
                by_cases e : m = i
                · rw [e]; exact h
                · exact ha.out m (by omega)
              have l1 : (i : Int) < (j : Int) := by omega
              generalize gR l i = r at *
              by_cases hr : r = 0
              · obtain rfl := HF.out hr
                have q1 : (r == 0) = true := by simpa using hr
                clear HF HT
                go_wp2
                go_returns
                exact ⟨rfl, hB.out⟩
              · have ha2 := Lib.hid (HT.out hr)
                have q1 : (r == 0) = false := by simpa using hr
                clear HF HT
                go_wp2
                go_roundw
                case rel => exact ⟨i + 1, by omega, by go_num, hB, ha2⟩
                case measure => simp [intOf]; omega
            · obtain rfl : i = j := by omega
              have H5 := Lib.hid (H4'.out ha.out)
              have hB2 := hB
              clear H3' H4' ha hB1
              go_wp2_with fail
              clear hB
              go_loopw [6, 7] (fun ff ii wx => ∃ (m : Nat), m + 1 ≤ i ∧ ii = .int .i64 ((m : Int) + 1) ∧ ff = .bool (fal l m) ∧ Hid (Below w.heap.size w wx) ∧ Hid (swl l m = false)) (fun _ ii _ => i - (intOf ii).toNat)
              case atStart => exact ⟨0, by omega, rfl, rfl, hB2, rfl⟩
              case round =>
                obtain ⟨m, hm, rfl, rfl, hB, hs⟩ := hrel
                by_cases hlt : m + 1 < i
                · have c0 : wr.cell? ⟨b, off + m * 2 + 1, none⟩ = some (.int .i64 (gR l m)) := by rw [(bcell hB.out).1 _ _ hb]; exact (hc.out m (by omega)).2
                  have c1 : wr.cell? ⟨b, off + (m + 1) * 2 + 1, none⟩ = some (.int .i64 (gR l (m + 1))) := by rw [(bcell hB.out).1 _ _ hb]; exact (hc.out (m + 1) (by omega)).2
                  have EF : Hid (fal l (m + 1) = (fal l m || decide (gR l (m + 1) < gR l m))) := rfl
                  have ES : Hid (swl l (m + 1) = (swl l m || (fal l m && decide (gR l m < gR l (m + 1))))) := rfl
                  have HF : Hid (swl l (m + 1) = true → E = 10) := fun h => by
                    have : swl l (i - 1) = true := by
                      obtain ⟨p, q, a1, a2, a3⟩ := (swl_iff _ _).1 h
                      exact (swl_iff _ _).2 ⟨p, q, a1, by omega, a3⟩
                    rw [H5.out, if_pos this]
                  rw [hs.out] at ES
                  have l2 : m < i := by omega
                  have l3 : (m : Int) < (i : Int) := by omega
                  have l5 : (m : Int) + 1 < (i : Int) := by omega
                  have wj : IntKind.i64.wrap ((m : Int) + 1 - 1) = (m : Int) := by simp only [IntKind.wrap_i64]; omega
                  have wk : IntKind.i64.wrap (m : Int) = (m : Int) := by simp only [IntKind.wrap_i64]; omega
                  have l6 : 0 ≤ (m : Int) + 1 := by omega
                  have l7 : ((m : Int) + 1).toNat = m + 1 := by omega
                  generalize fal l m = s at *
                  generalize gR l m = p at *
                  generalize gR l (m + 1) = q at *
                  clear hs
                  by_cases g1 : p < q
                  · have g2 : ¬ q < p := by omega
                    have d1 : decide (p < q) = true := decide_eq_true g1
                    have d2 : decide (q < p) = false := decide_eq_false g2
                    rw [d1] at ES
                    rw [d2] at EF
                    cases s with
                    | true =>
                      obtain rfl := HF.out (by rw [ES.out]; rfl)
                      clear EF ES HF H5
                      go_wp2_with fail
                      go_quiet (fail)
                      go_wp2
                      go_returns
                      exact ⟨rfl, bel_trans hB.out (bel_drewN _ _)⟩
                    | false =>
                      clear HF
                      go_wp2_with fail
                      go_quiet (fail)
                      go_wp2_with fail
                      go_quiet (fail)
                      go_wp2
                      go_roundw
                      case rel => exact ⟨m + 1, by omega, by go_num, by rw [EF.out]; rfl, bel_trans hB.out (bel_drewN _ _), by show _ = _; rw [ES.out]; rfl⟩
                      case measure => simp [intOf]; omega
                  · have d1 : decide (p < q) = false := decide_eq_false g1
                    rw [d1] at ES
                    cases s with
                    | true =>
                      clear HF
                      go_wp2_with fail
                      go_quiet (fail)
                      go_wp2_with fail
                      go_quiet (fail)
                      go_wp2
                      go_roundw
                      case rel => exact ⟨m + 1, by omega, by go_num, by rw [EF.out]; rfl, bel_trans hB.out (bel_drewN _ _), by show _ = _; rw [ES.out]; rfl⟩
                      case measure => simp [intOf]; omega
                    | false =>
                      clear HF
                      by_cases g2 : q < p
                      · have d2 : decide (q < p) = true := decide_eq_true g2
                        rw [d2] at EF
                        go_wp2_with fail
                        go_quiet (fail)
                        go_wp2_with fail
                        go_quiet (fail)
                        go_wp2
                        go_roundw
                        case rel => exact ⟨m + 1, by omega, by go_num, by rw [EF.out]; rfl, bel_trans hB.out (bel_drewN _ _), by show _ = _; rw [ES.out]; rfl⟩
                        case measure => simp [intOf]; omega
                      · have d2 : decide (q < p) = false := decide_eq_false g2
                        rw [d2] at EF
                        go_wp2_with fail
                        go_quiet (fail)
                        go_wp2_with fail
                        go_quiet (fail)
                        go_wp2
                        go_roundw
                        case rel => exact ⟨m + 1, by omega, by go_num, by rw [EF.out]; rfl, bel_trans hB.out (bel_drewN _ _), by show _ = _; rw [ES.out]; rfl⟩
                        case measure => simp [intOf]; omega
                · obtain rfl : i = m + 1 := by omega
                  have e : E = 0 := by rw [H5.out, show m + 1 - 1 = m by omega, if_neg (by rw [hs.out]; simp)]
                  subst e
                  go_wp2
                  go_returns
                  exact ⟨rfl, hB.out⟩
theorem refCk_any (v : Value) (l : List (Int × Int)) (w : World) (hv : Pts w v l) :
    Calls Try.prog 17 #[v] w fun e w' => e = .returned (.int .i64 (ckE l)) ∧ Below w.heap.size w w' := by
  obtain ⟨a, cap, rfl, hl, hh⟩ := hv
  by_cases h0 : l.length < 2
  · rw [show ckE l = 9 by unfold ckE; rw [if_pos h0]]
    exact refCk_few a l.length cap w h0
  · by_cases h1 : 32 < l.length
    · rw [show ckE l = 8 by unfold ckE; rw [if_neg h0, if_pos h1]]
      exact refCk_many a l.length cap w h1 (by omega)
    · rcases hh with hh | ⟨b, off, rfl, hb, hc⟩
      · omega
      · have e : ckE l = (if l.any ptOut = true then 2 else if (adv l (l.length - 1) && (gX l 0 == 0)) = false then 5 else if l.any ptCl = true then 16 else if swl l (l.length - 1) = true then 10 else 0) := by unfold ckE; rw [if_neg h0, if_neg h1]
        have o1 : (∀ j, j < l.length → (lenB (gX l j) && lenB (gR l j)) = true) → ¬ l.any ptOut = true := fun h => by
          rw [any_not fun i hi => ?_]
          · simp
          · show (!(lenB (gX l i) && lenB (gR l i))) = false
            rw [h i hi]; rfl
        have o2 : gX l 0 = 0 → (∀ j, j + 1 < l.length → gX l j < gX l (j + 1)) → ¬ (adv l (l.length - 1) && (gX l 0 == 0)) = false := fun h1 h2 => by
          rw [(adv_iff l _).2 fun i hi => h2 i (by omega), h1]; simp
        refine refCk_some b off l.length cap l _ w (by omega) (by omega) hb hc (fun ⟨j, hj, h⟩ => ?_) (fun h g => ?_) (fun h g1 g2 ⟨j, hj, h3⟩ => ?_) (fun h g1 g2 g3 => ?_)
        · rw [e, if_pos]
          refine any_of hj ?_
          show (!(lenB (gX l j) && lenB (gR l j))) = true
          rw [h]; rfl
        · rw [e, if_neg (o1 h), if_pos]
          rcases g with g | ⟨j, hj, g⟩
          · rw [show (gX l 0 == 0) = false by simpa using g, Bool.and_false]
          · have : adv l (l.length - 1) = false := by
              rw [Bool.eq_false_iff]
              intro ha
              have := (adv_iff l _).1 ha j (by omega)
              omega
            rw [this, Bool.false_and]
        · rw [e, if_neg (o1 h), if_neg (o2 g1 g2), if_pos]
          refine any_of hj ?_
          show (gR l j == 0) = true
          rw [h3]; rfl
        · rw [e, if_neg (o1 h), if_neg (o2 g1 g2), if_neg]
          rw [any_not fun i hi => ?_]
          · simp
          · show (gR l i == 0) = false
            simpa using g3 i hi
end Go.Proofs.Ytlofblpfohnooab
