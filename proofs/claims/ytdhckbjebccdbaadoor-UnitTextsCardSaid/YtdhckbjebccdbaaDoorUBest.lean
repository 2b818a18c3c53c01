/- Package unit: better, Best. -/
import Derived.Test.YtdhckbjebccdbaaDoorURng
namespace Go.Proofs.YtdhckbjebccdbaaDoor
open Go.RowKit Go.MapKept

theorem better_any (a b s : Int) (w : World) : Calls Tryd.prog 31 #[.int .i64 a, .int .i64 b, .int .i64 s] w fun e w' => e = .returned (.bool (betB a b s)) ∧ w = w' := by
  have H : Hid ((a ≤ s ∧ b ≤ s ∧ betB a b s = decide (b < a)) ∨ ((¬ (a ≤ s ∧ b ≤ s)) ∧ betB a b s = decide (a < b))) := by
    by_cases h : a ≤ s ∧ b ≤ s
    · exact .inl ⟨h.1, h.2, by unfold betB; rw [if_pos h]⟩
    · exact .inr ⟨h, by unfold betB; rw [if_neg h]⟩
  generalize betB a b s = V at *
  rcases H.out with ⟨h1, h2, rfl⟩ | ⟨h, rfl⟩
  · clear H
    by_cases h3 : b < a
    · rw [decide_eq_true h3]
      go_enter Tryd.func31, Tryd.ntmps31
      go_wp2
      go_returns
      exact ⟨rfl, rfl⟩
    · rw [decide_eq_false h3]
      go_enter Tryd.func31, Tryd.ntmps31
      go_wp2
      go_returns
      exact ⟨rfl, rfl⟩
  · clear H
    by_cases h1 : a ≤ s
    · have h2 : s < b := by omega
      have h3 : a < b := by omega
      rw [decide_eq_true h3]
      clear h
      go_enter Tryd.func31, Tryd.ntmps31
      go_wp2
      go_returns
      exact ⟨rfl, rfl⟩
    · clear h
      by_cases h3 : a < b
      · rw [decide_eq_true h3]
        go_enter Tryd.func31, Tryd.ntmps31
        go_wp2
        go_returns
        exact ⟨rfl, rfl⟩
      · rw [decide_eq_false h3]
        go_enter Tryd.func31, Tryd.ntmps31
        go_wp2
        go_returns
        exact ⟨rfl, rfl⟩

theorem best_bad (k a Q : Int) (w : World) (hQ : (Q == 0) = false)
    (H1 : Hid (∀ W, Below w.heap.size w W → Calls Tryd.prog 15 #[.agg #[.int .i64 k, .int .i64 a]] W fun e w' => e = .returned (.int .i64 Q) ∧ Below W.heap.size W w')) :
    Calls Tryd.prog 13 #[.agg #[.int .i64 k, .int .i64 a]] w fun e w' => e = .returned (.tuple #[.string ⟨#[]⟩, .int .i64 1]) ∧ Below w.heap.size w w' := by
  have hQ2 : (Q != 0) = true := by simp only [bne, hQ]; rfl
  go_enter Tryd.func13, Tryd.ntmps13
  go_wp2_with fail
  refine (H1.out _ (bel_alloc (Below.refl _ _))).mono ?_
  rintro e w1 ⟨rfl, g⟩
  have X1 := Lib.hid (bel_alloc g); clear g
  go_wp2
  go_returns
  exact ⟨rfl, X1.out⟩

set_option maxRecDepth 100000 in
set_option maxHeartbeats 4000000 in
theorem best_ok (k a : Int) (w : World) (k1 : 1 ≤ k) (k2 : k ≤ 7) (a1 : -400 ≤ a) (a2 : a ≤ 1125899906842624)
    (H1 : Hid (∀ W, Below w.heap.size w W → Calls Tryd.prog 15 #[.agg #[.int .i64 k, .int .i64 a]] W fun e w' => e = .returned (.int .i64 0) ∧ Below W.heap.size W w')) :
    Calls Tryd.prog 13 #[.agg #[.int .i64 k, .int .i64 a]] w fun e w' => (∃ x, IsBest k (max a (-a)) x ∧ e = .returned (.tuple #[.string ⟨x.1.toArray⟩, .int .i64 0])) ∧ Below w.heap.size w w' := by
  go_enter Tryd.func13, Tryd.ntmps13
  go_wp2_with fail
  have T0 := Lib.hid (Two.new w (.int .i64 k) (.int .i64 a) 23)
  refine (H1.out _ (bel_alloc (Below.refl _ _))).mono ?_
  rintro e w1 ⟨rfl, g⟩
  have X1 := Lib.hid (bel_alloc g)
  replace T0 := Lib.hid (T0.out.below g); clear g
  obtain ⟨q0, q1, _, _, _⟩ := T0.out
  go_wp2_with fail
  refine (units_map _).mono ?_
  rintro e w2 ⟨b, rfl, g, hb⟩
  clear q0 q1
  replace X1 := Lib.hid (bel_trans X1.out g)
  replace T0 := Lib.hid (T0.out.below g); clear g
  go_wp2_with (first
    | (at_range; refine wpList_range_units _ rfl _ 51 rfl 9 49 Tryd.underlying51 b rfl hb ?_; intro w3 hrg hb3)
    | fail)
  go_frame
  generalize hS : max a (-a) = S at *
  have hSe := Lib.hid hS
  clear hS
  have hz3 : w2.heap.size < w3.heap.size := hrg.lt.2
  have hbz : b < w2.heap.size := (Array.getElem?_eq_some_iff.1 hb).1
  go_loopw [5, 6] (fun B F wr => ∃ (seen : Array Nat) (s : ByteArray) (f : Int), B = .string s ∧ F = .int .i64 f ∧ Rg b w2.heap.size seen wr ∧ Below w2.heap.size w2 wr ∧ Hid (Seen k S seen s.data.toList f)) (fun _ _ wr => wr.rangeLeft b w2.heap.size)
  case atStart => exact ⟨#[], ⟨#[]⟩, 0, rfl, rfl, hrg, hb3, seen_start k S⟩
  case round =>
    obtain ⟨seen, s, f, rfl, rfl, hr, hB, hI⟩ := hrel
    go_wp2_with (first
      | (at_next; refine wpList_next_units _ rfl _ rfl b w2.heap.size seen rfl hr ?_ ?_)
      | fail)
    · intro hall
      go_wp2
      go_returns
      obtain ⟨x, hx, e⟩ := seen_end hI.out k1 k2 (fun i x hx => hall i x.1 x.2.1 x.2.2 hx)
      refine ⟨⟨x, by rw [hSe.out]; exact hx, ?_⟩, bel_trans X1.out hB⟩
      rw [← e]
      rfl
    · intro i N K F w4 hi hn hr4 hlt hg hen
      have hB4 := below_grown hB hg (Nat.le_refl _)
      have hr5 := fun o => hr4.keeps (bel_alloc (Below.refl (w4.alloc o).heap.size (w4.alloc o)))
      have hM : ∀ o, (w4.alloc o).rangeLeft b w2.heap.size < wr.rangeLeft b w2.heap.size := fun o => by rw [(hr5 o).left, ← hr4.left]; exact hlt
      have hB5 : ∀ o, Below w2.heap.size w2 (w4.alloc o) := fun o => hB4.alloc hB4.size o
      have T4 : ∀ o, (w4.alloc o).cell? ⟨w.heap.size, 0, none⟩ = some (.int .i64 k) := fun o => ((T0.out.below hB4).alloc o).1
      have HI := Lib.hid (And.intro hi hn)
      have HM := Lib.hid (And.intro hM (And.intro hr5 hB5))
      clear hi hn hr4 hlt hg hM hr5 hB5 hB4 hr hB
      obtain ⟨hi, hn⟩ := HI.out
      clear hn
      have e0 : (K = k) ∨ ((K == k) = false) := by
        by_cases h : K = k
        · exact .inl h
        · exact .inr (by simpa using h)
      rcases e0 with rfl | hq
      · have HS0 := Lib.hid (fun hb => seen_turn (N := N.data.toList) hI.out hi hb)
        have HS1 := Lib.hid (fun h1 h2 => seen_keep (N := N.data.toList) hI.out hi h1 h2)
        clear hi hI
        have HT : (s.toList == []) = (s.data.toList == []) := by rw [ByteArray.toList_eq]
        cases hE : (s.toList == []) with
        | true =>
          replace HS0 := Lib.hid (HS0.out (.inl (HT.symm.trans hE)))
          clear HS1 HT
          go_wp2_with (fail)
          go_quiet (fail)
          go_wp2
          go_roundw
          case rel => exact ⟨seen.push i, N, F, rfl, rfl, (HM.out.2.1 _).keeps (bel_drewN _ _), bel_trans (HM.out.2.2 _) (bel_drewN _ _), HS0⟩
          case measure => exact HM.out.1 _
        | false =>
          cases hv : betB F f S with
          | true =>
            replace HS0 := Lib.hid (HS0.out (.inr hv))
            clear HS1 HT
            have HC := Lib.hid (fun W => better_any F f S W)
            rw [hv] at HC
            go_wp2_with (go_at_call 31; refine (HC.out _).mono ?_; rintro e w' ⟨rfl, hw⟩; subst hw)
            go_quiet (fail)
            go_wp2
            go_roundw
            case rel => exact ⟨seen.push i, N, F, rfl, rfl, (HM.out.2.1 _).keeps (bel_drewN _ _), bel_trans (HM.out.2.2 _) (bel_drewN _ _), HS0⟩
            case measure => exact HM.out.1 _
          | false =>
            replace HS1 := Lib.hid (HS1.out (HT.symm.trans hE) hv)
            clear HS0 HT
            have HC := Lib.hid (fun W => better_any F f S W)
            rw [hv] at HC
            go_wp2_with (go_at_call 31; refine (HC.out _).mono ?_; rintro e w' ⟨rfl, hw⟩; subst hw)
            go_roundw
            case rel => exact ⟨seen.push i, s, f, rfl, rfl, HM.out.2.1 _, HM.out.2.2 _, HS1⟩
            case measure => exact HM.out.1 _
      · have HS := Lib.hid (seen_other (N := N.data.toList) (f := F) hI.out hi (by simpa using hq))
        clear hi hI
        go_wp2
        go_roundw
        case rel => exact ⟨seen.push i, s, f, rfl, rfl, HM.out.2.1 _, HM.out.2.2 _, HS⟩
        case measure => exact HM.out.1 _
end Go.Proofs.YtdhckbjebccdbaaDoor
