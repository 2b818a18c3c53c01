/- The reference of layer 3: Unit. -/
import Derived.Test.YtdhckbjebccdbaaDoorURefN
import Derived.Test.YtdhckbjebccdbaaDoorURefC
import Derived.Deep.DrawnRows
import Derived.Deep.RegionHeld3
namespace Go.Proofs.YtdhckbjebccdbaaDoor
open Go.RowKit
attribute [local go_sem ↓] Go.wp_at_zero Go.wp_at_succ

/-- a block holds the names of a kind -/
def NamesAt (w : World) (b : Nat) (k : Int) : Prop := b < w.heap.size ∧ ∀ i, i < (kN k).length → w.cell? ⟨b, i, none⟩ = some (str ((kN k).getD i []))
theorem NamesAt.below {w w' : World} {b : Nat} {k : Int} (h : NamesAt w b k) (hb : Below w.heap.size w w') : NamesAt w' b k :=
  ⟨Nat.lt_of_lt_of_le h.1 hb.size, fun i hi => by rw [(bcell hb).1 _ _ h.1]; exact h.2 i hi⟩
def FacsAt (w : World) (b : Nat) (k : Int) : Prop := b < w.heap.size ∧ ∀ i, i < (kF k).length → w.cell? ⟨b, i, none⟩ = some (.int .i64 ((kF k).getD i 0))
theorem FacsAt.below {w w' : World} {b : Nat} {k : Int} (h : FacsAt w b k) (hb : Below w.heap.size w w') : FacsAt w' b k :=
  ⟨Nat.lt_of_lt_of_le h.1 hb.size, fun i hi => by rw [(bcell hb).1 _ _ h.1]; exact h.2 i hi⟩

theorem uFind (l : List UInt8) (k : Int) (i : Nat) (h1 : 1 ≤ k) (h2 : k ≤ 7) (hi : i < (kN k).length) (he : (kN k).getD i [] = l) : uK l = k ∧ uF l = (kF k).getD i 0 ∧ uE l = 0 := by
  have := tab_unit _ (kN_mem k h1 h2 i hi)
  rw [he] at this
  exact this
theorem uNone (l : List UInt8) (h : ∀ k, 1 ≤ k → k ≤ 7 → ∀ i, i < (kN k).length → (kN k).getD i [] ≠ l) : uK l = 0 ∧ uF l = 0 ∧ uE l = 4 := by
  have hn : isU l = false := by
    rw [Bool.eq_false_iff]
    intro hu
    have hm := unit_mem l hu
    have hk := unit_bd l hu
    obtain ⟨i, hi, he, _⟩ := kN_all _ hm
    exact h _ hk.1 hk.2.1 i hi he
  have := u_not l hn
  exact ⟨this.1, this.2, by unfold uE; rw [if_neg (by rw [hn]; simp)]⟩

set_option maxRecDepth 100000 in
set_option maxHeartbeats 4000000 in
theorem refUnit_core (s : ByteArray) (K F E : Int) (w : World) (hs : s.size ≤ 9223372036854775807)
    (H1 : Hid (∀ k W, 1 ≤ k → k ≤ 7 → Calls Tryd.prog 29 #[.int .i64 k] W fun e w' => ∃ b, e = .returned (.slice (some ⟨b, 0, none⟩) (kN k).length (kN k).length) ∧ Below W.heap.size W w' ∧ NamesAt w' b k))
    (H2 : Hid (∀ k W, 1 ≤ k → k ≤ 7 → Calls Tryd.prog 30 #[.int .i64 k] W fun e w' => ∃ b, e = .returned (.slice (some ⟨b, 0, none⟩) (kN k).length (kN k).length) ∧ Below W.heap.size W w' ∧ FacsAt w' b k))
    (h1 : Hid (∀ k i, 1 ≤ k → k ≤ 7 → i < (kN k).length → (kN k).getD i [] = s.data.toList → K = k ∧ F = (kF k).getD i 0 ∧ E = 0))
    (h2 : Hid ((∀ k, 1 ≤ k → k ≤ 7 → ∀ i, i < (kN k).length → (kN k).getD i [] ≠ s.data.toList) → K = 0 ∧ F = 0 ∧ E = 4)) :
    Calls Tryd.prog 12 #[.string s] w fun e w' => e = .returned (.tuple #[.int .i64 K, .int .i64 F, .int .i64 E]) ∧ Below w.heap.size w w' := by
  go_enter Tryd.func12, Tryd.ntmps12
  go_wp2_with fail
  go_loopw [5] (fun kk wr => ∃ k : Int, 1 ≤ k ∧ k ≤ 8 ∧ kk = .int .i64 k ∧ Hid (∀ k', 1 ≤ k' → k' < k → ∀ i, i < (kN k').length → (kN k').getD i [] ≠ s.data.toList) ∧ Hid (Below w.heap.size w wr)) (fun kk _ => 8 - (intOf kk).toNat)
  case atStart => exact ⟨1, by omega, by omega, rfl, fun k' a b => by omega, Below.refl _ _⟩
  case round =>
    obtain ⟨k, k1, k2, rfl, ha, hB⟩ := hrel
    by_cases hk : k ≤ 7
    · go_wp2_with fail
      refine (H1.out k _ k1 hk).mono ?_
      rintro e w1 ⟨b, rfl, gg, hn⟩
      have HN := Lib.hid hn
      replace hB := Lib.hid (bel_trans hB.out gg)
      clear gg hn
      have hlen := kN_len k k1 hk
      have HF := Lib.hid (fun W => H2.out k W k1 hk)
      have hb5 := Lib.hid (kN_bd k k1 hk)
      have hm1 := Lib.hid (fun i => h1.out k i k1 hk)
      have ha2 : Hid ((∀ i, i < (kN k).length → (kN k).getD i [] ≠ s.data.toList) → ∀ k', 1 ≤ k' → k' < k + 1 → ∀ i, i < (kN k').length → (kN k').getD i [] ≠ s.data.toList) := fun h k' a b i hi => by
        by_cases e : k' = k
        · subst e; exact h i hi
        · exact ha.out k' a (by omega) i hi
      have hFl := Lib.hid hlen.1
      replace hlen := hlen.2
      generalize hnn : (kN k).length = n at *
      clear ha
      go_wp2_with fail
      have HB1 := hB
      clear hB
      go_loopw [7] (fun ii wr => ∃ i : Nat, i ≤ n ∧ ii = .int .i64 i ∧ Hid (∀ j, j < i → (kN k).getD j [] ≠ s.data.toList) ∧ Hid (Below w.heap.size w wr) ∧ Hid (NamesAt wr b k)) (fun ii _ => n - (intOf ii).toNat)
      case atStart => exact ⟨0, by omega, rfl, fun j hj => by omega, HB1, HN⟩
      case round =>
        obtain ⟨i, hi, rfl, ha, hB, hN⟩ := hrel
        by_cases hlt : i < n
        · have c0 := hN.out.2 i (by omega)
          unfold str at c0
          have HY : Hid ((kN k).getD i [] = s.data.toList → K = k ∧ F = (kF k).getD i 0 ∧ E = 0) := fun h => hm1.out i hlt h
          have HZ : Hid ((kN k).getD i [] ≠ s.data.toList → ∀ j, j < i + 1 → (kN k).getD j [] ≠ s.data.toList) := fun h j hj => by
            by_cases e : j = i
            · subst e; exact h
            · exact ha.out j (by omega)
          have hFc : Hid (∀ W b', FacsAt W b' k → W.cell? ⟨b', i, none⟩ = some (.int .i64 ((kF k).getD i 0))) := fun W b' h => h.2 i (by rw [← hFl.out]; exact hlt)
          generalize (kN k).getD i [] = L at *
          generalize (kF k).getD i 0 = G at *
          clear hm1 hb5
          by_cases hq : L = s.data.toList
          · have hq1 : (L == s.toList) = true := by rw [ByteArray.toList_eq]; simpa using hq
            obtain ⟨rfl, rfl, rfl⟩ := HY.out hq
            clear HY HZ hq hFl
            go_wp2_with fail
            first | (go_region_with (first | (go_at_call 30; refine (HF.out _).mono ?_; rintro e w2 ⟨b', rfl, gg, hf⟩; have c2 := hFc.out _ _ hf; have X2 := Lib.hid gg; clear gg hf))) | fail
            go_wp2
            go_returns
            exact ⟨rfl, bel_trans hB.out (bel_trans (bel_drew _) X2.out)⟩
          · have hq1 : (L == s.toList) = false := by rw [ByteArray.toList_eq]; simpa using hq
            replace HZ := Lib.hid (HZ.out hq)
            clear HY hq
            go_wp2
            go_roundw
            case rel => exact ⟨i + 1, by omega, by go_num, HZ, hB, hN⟩
            case measure => simp [intOf]; omega
        · obtain rfl : i = n := by omega
          replace ha2 := Lib.hid (ha2.out ha.out)
          clear hFl hnn
          go_wp2
          go_roundw
          case rel => exact ⟨k + 1, by omega, by omega, by go_num, ha2, hB⟩
          case measure => simp [intOf]; omega
    · obtain rfl : k = 8 := by omega
      obtain ⟨rfl, rfl, rfl⟩ := h2.out (fun k a b => ha.out k a (by omega))
      go_wp2
      go_returns
      exact ⟨rfl, hB.out⟩
theorem refUnit_any (s : ByteArray) (w : World) (hs : s.size ≤ 9223372036854775807) :
    Calls Tryd.prog 12 #[.string s] w fun e w' => e = .returned (.tuple #[.int .i64 (uK s.data.toList), .int .i64 (uF s.data.toList), .int .i64 (uE s.data.toList)]) ∧ Below w.heap.size w w' := by
  refine refUnit_core s _ _ _ w hs (fun k W k1 k2 => (refNames_any k W k1 k2).mono fun e w' ⟨b, g1, g2, g3, g4⟩ => ⟨b, g1, g2, g3, g4⟩) (fun k W k1 k2 => (refFacs_any k W k1 k2).mono fun e w' ⟨b, g1, g2, g3, g4⟩ => ⟨b, by rw [(kN_len k k1 k2).1]; exact g1, g2, g3, g4⟩) (fun k i k1 k2 hi he => uFind _ k i k1 k2 hi he) (uNone _)

/-! ### Best -/
set_option maxRecDepth 100000 in
set_option maxHeartbeats 4000000 in
theorem refBest_bad (k a Q : Int) (w : World) (hQ : (Q == 0) = false)
    (H1 : Hid (∀ W, Calls Tryd.prog 16 #[.agg #[.int .i64 k, .int .i64 a]] W fun e w' => e = .returned (.int .i64 Q) ∧ Below W.heap.size W w')) :
    Calls Tryd.prog 14 #[.agg #[.int .i64 k, .int .i64 a]] w fun e w' => e = .returned (.tuple #[.string ⟨#[]⟩, .int .i64 1]) ∧ Below w.heap.size w w' := by
  have hQ2 : (Q != 0) = true := by simp only [bne, hQ]; rfl
  go_enter Tryd.func14, Tryd.ntmps14
  go_wp2_with fail
  refine (H1.out _).mono ?_
  rintro e w1 ⟨rfl, g⟩
  have X1 := Lib.hid (bel_alloc g); clear g
  go_wp2
  go_returns
  exact ⟨rfl, X1.out⟩

/-- whether the m-th is the best of the first i -/
def BestTo (k S : Int) (i m : Nat) : Prop := m < max i 1 ∧ ((kF k).getD m 0 ≤ S ∨ m = 0) ∧ ∀ j, m < j → j < i → S < (kF k).getD j 0
theorem bestTo_end (k S : Int) (m : Nat) (h1 : 1 ≤ k) (h2 : k ≤ 7) (h : BestTo k S (kN k).length m) : IsBest k S ((kN k).getD m [], k, (kF k).getD m 0) := by
  have hl := kN_len k h1 h2
  obtain ⟨g1, g2, g3⟩ := h
  have hm : m < (kN k).length := by omega
  refine ⟨kN_mem k h1 h2 m hm, rfl, fun y hy hyk => ?_⟩
  obtain ⟨j, hj, e1, e2⟩ := kN_all y hy
  rw [hyk] at hj e1 e2
  by_cases e : j = m
  · left
    rw [← e, e1, e2, ← hyk]
  · right
    rw [betB_iff]
    simp only
    rw [← e2]
    by_cases hlt : j < m
    · have := kF_up k h1 h2 m (by omega) j hlt
      omega
    · have := kF_up k h1 h2 j (by omega) m (by omega)
      have := g3 j (by omega) hj
      omega
theorem bestTo_turn (k S : Int) (i m : Nat) (_ : BestTo k S i m) (hf : (kF k).getD i 0 ≤ S) : BestTo k S (i + 1) i :=
  ⟨by omega, .inl hf, fun j h1 h2 => by omega⟩
theorem bestTo_keep (k S : Int) (i m : Nat) (h : BestTo k S i m) (hf : S < (kF k).getD i 0) : BestTo k S (i + 1) m := by
  obtain ⟨g1, g2, g3⟩ := h
  refine ⟨by omega, g2, fun j h1 h2 => ?_⟩
  by_cases e : j = i
  · rw [e]; exact hf
  · exact g3 j h1 (by omega)

set_option maxRecDepth 100000 in
set_option maxHeartbeats 4000000 in
theorem refBest_core (k a S : Int) (w : World) (k1 : 1 ≤ k) (k2 : k ≤ 7) (hS : max a (-a) = S) (a0 : -400 ≤ a) (a1 : a ≤ 1125899906842624)
    (H1 : Hid (∀ W, Calls Tryd.prog 16 #[.agg #[.int .i64 k, .int .i64 a]] W fun e w' => e = .returned (.int .i64 0) ∧ Below W.heap.size W w'))
    (H2 : Hid (∀ W, Calls Tryd.prog 29 #[.int .i64 k] W fun e w' => ∃ b, e = .returned (.slice (some ⟨b, 0, none⟩) (kN k).length (kN k).length) ∧ Below W.heap.size W w' ∧ NamesAt w' b k))
    (H3 : Hid (∀ W, Calls Tryd.prog 30 #[.int .i64 k] W fun e w' => ∃ b, e = .returned (.slice (some ⟨b, 0, none⟩) (kN k).length (kN k).length) ∧ Below W.heap.size W w' ∧ FacsAt w' b k)) :
    Calls Tryd.prog 14 #[.agg #[.int .i64 k, .int .i64 a]] w fun e w' => (∃ m, e = .returned (.tuple #[str ((kN k).getD m []), .int .i64 0]) ∧ BestTo k S (kN k).length m) ∧ Below w.heap.size w w' := by
  go_enter Tryd.func14, Tryd.ntmps14
  go_wp2_with fail
  have T0 := Lib.hid (Two.new w (.int .i64 k) (.int .i64 a) 23)
  refine (H1.out _).mono ?_
  rintro e w1 ⟨rfl, g⟩
  have X1 := Lib.hid (bel_alloc g)
  replace T0 := Lib.hid (T0.out.below g)
  clear g
  obtain ⟨p0, p1, _, _, _⟩ := T0.out
  go_wp2_with fail
  have HN : Hid (∀ W, Two w.heap.size W (.int .i64 k) (.int .i64 a) → Calls Tryd.prog 29 #[.int .i64 k] W fun e w' => ∃ b, e = .returned (.slice (some ⟨b, 0, none⟩) (kN k).length (kN k).length) ∧ Below W.heap.size W w' ∧ NamesAt w' b k ∧ Two w.heap.size w' (.int .i64 k) (.int .i64 a)) :=
    fun W h => (H2.out W).mono fun e w' ⟨b, g1, g2, g3⟩ => ⟨b, g1, g2, g3, h.below g2⟩
  have HF : Hid (∀ W, Two w.heap.size W (.int .i64 k) (.int .i64 a) → Calls Tryd.prog 30 #[.int .i64 k] W fun e w' => ∃ b, e = .returned (.slice (some ⟨b, 0, none⟩) (kN k).length (kN k).length) ∧ Below W.heap.size W w' ∧ FacsAt w' b k ∧ Two w.heap.size w' (.int .i64 k) (.int .i64 a)) :=
    fun W h => (H3.out W).mono fun e w' ⟨b, g1, g2, g3⟩ => ⟨b, g1, g2, g3, h.below g2⟩
  have T1 := Lib.hid (T0.out.below (bel_drew w1))
  clear H2 H3
  go_region_held3 (fun w' => w'.cell? ⟨w.heap.size, 0, none⟩ = some (.int .i64 k)) (go_keep)
    (first | (go_at_call 29; (with_reducible refine (HN.out _ T1.out).mono ?_); rintro e wn ⟨bn, rfl, gn, hn, TN⟩; have cn := TN.1) | (go_at_call 30; (with_reducible refine (HF.out _ TN).mono ?_); rintro e wf ⟨bf, rfl, gf, hf, TF⟩; have cf := TF.1))
  have X2 := Lib.hid (bel_trans X1.out (bel_trans (bel_drew _) (bel_trans gn gf)))
  have NA := Lib.hid (hn.below gf)
  have FA := Lib.hid hf
  have TA := Lib.hid TF
  clear X1 T0 T1 HN HF H1 gn gf hn hf TN TF cn cf p0 p1
  have hlen := kN_len k k1 k2
  have hlF := Lib.hid hlen.1
  replace hlen := hlen.2
  have hFb : Hid (∀ i, i < (kN k).length → 1 ≤ (kF k).getD i 0 ∧ (kF k).getD i 0 ≤ 100000000) := fun i hi => (kN_bd k k1 k2 i hi).2
  generalize hnn : (kN k).length = n at *
  have c0 := NA.out.2 0 (by omega)
  unfold str at c0
  have hw1 : IntKind.i64.wrap (-a) = -a := wrap_in _ (by omega)
  go_wp2_with fail
  clear c0
  go_loopw [6, 7] (fun bb ii wr => ∃ i m : Nat, i ≤ n ∧ bb = .string ⟨((kN k).getD m []).toArray⟩ ∧ ii = .int .i64 i ∧ Hid (BestTo k S i m) ∧ Hid (Below w.heap.size w wr) ∧ Hid (NamesAt wr bn k) ∧ Hid (FacsAt wr bf k) ∧ Hid (Two w.heap.size wr (.int .i64 k) (.int .i64 a))) (fun _ ii _ => n - (intOf ii).toNat)
  case atStart => exact ⟨0, 0, by omega, rfl, rfl, ⟨by omega, .inr rfl, fun j h1 h2 => by omega⟩, X2, NA, FA, TA⟩
  case round =>
    obtain ⟨i, m, hi, rfl, rfl, hbt, hB, hN, hF, hT⟩ := hrel
    by_cases hlt : i < n
    · have c0 := hN.out.2 i (by omega)
      have c1 := hF.out.2 i (by rw [← hlF.out]; exact hlt)
      have c2 := hT.out.2.1
      have hfb := hFb.out i hlt
      unfold str at c0
      have HT := Lib.hid (bestTo_turn k S i m hbt.out)
      have HK := Lib.hid (bestTo_keep k S i m hbt.out)
      generalize hG : (kF k).getD i 0 = G at *
      generalize hL : (kN k).getD m [] = L0 at *
      by_cases hq : G ≤ S
      · have hq1 : decide (G ≤ S) = true := decide_eq_true hq
        go_wp2_with fail
        go_quiet (fail)
        go_wp2
        go_roundw
        case rel => exact ⟨i + 1, i, by omega, by first | rfl | (rw [List.getD_eq_getElem?_getD, List.getElem?_eq_getElem (by omega), Option.getD_some]), by go_num, HT.out hq, bel_trans hB.out (bel_drewN _ _), hN.out.below (bel_drewN _ _), hF.out.below (bel_drewN _ _), hT.out.below (bel_drewN _ _)⟩
        case measure => simp [intOf]; omega
      · have hq1 : decide (G ≤ S) = false := decide_eq_false hq
        have hq2 : S < G := by omega
        go_wp2_with fail
        go_quiet (fail)
        go_wp2
        go_roundw
        case rel => exact ⟨i + 1, m, by omega, by rw [hL], by go_num, HK.out hq2, bel_trans hB.out (bel_drewN _ _), hN.out.below (bel_drewN _ _), hF.out.below (bel_drewN _ _), hT.out.below (bel_drewN _ _)⟩
        case measure => simp [intOf]; omega
    · obtain rfl : i = n := by omega
      have HB := hbt
      clear hbt
      go_wp2
      go_returns
      exact ⟨⟨m, rfl, by rw [hnn]; exact HB.out⟩, hB.out⟩

theorem refBest_any (k a : Int) (w : World) :
    Calls Tryd.prog 14 #[.agg #[.int .i64 k, .int .i64 a]] w fun e w' => e = .returned (.tuple #[str (beL k a), .int .i64 (beE k a)]) ∧ Below w.heap.size w w' := by
  by_cases h : qE k a = 0
  · have hk := qE_ok k a h
    have hb := qE_bd k a h
    refine (refBest_core k a _ w hk.1 hk.2.1 rfl hb.1 hb.2 (fun W => ?_) (fun W => (refNames_any k W hk.1 hk.2.1).mono fun e w' ⟨b, g1, g2, g3, g4⟩ => ⟨b, g1, g2, g3, g4⟩) (fun W => (refFacs_any k W hk.1 hk.2.1).mono fun e w' ⟨b, g1, g2, g3, g4⟩ => ⟨b, by rw [(kN_len k hk.1 hk.2.1).1]; exact g1, g2, g3, g4⟩)).mono ?_
    · have := refCheck_any k a W
      rw [h] at this; exact this
    · rintro e w' ⟨⟨m, rfl, hm⟩, hB⟩
      refine ⟨?_, hB⟩
      have hi := bestTo_end k _ m hk.1 hk.2.1 hm
      unfold beL beE
      rw [if_pos h, if_pos h, beU_of hi]
  · have e1 : beL k a = [] := by unfold beL; rw [if_neg h]
    have e2 : beE k a = 1 := by unfold beE; rw [if_neg h]
    rw [e1, e2]
    exact refBest_bad k a (qE k a) w (by simpa using h) (fun W => refCheck_any k a W)
end Go.Proofs.YtdhckbjebccdbaaDoor
