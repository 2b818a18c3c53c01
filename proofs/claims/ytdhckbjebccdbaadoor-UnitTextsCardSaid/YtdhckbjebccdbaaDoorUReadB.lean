/- Package unit: readDecimal, when the places are wrong. -/
import Derived.Test.YtdhckbjebccdbaaDoorURead
namespace Go.Proofs.YtdhckbjebccdbaaDoor
open Go.RowKit

set_option maxHeartbeats 4000000 in
theorem read_bad (s U W P : ByteArray) (neg : Bool) (n1 n2 : Int) (b1 b2 sfx : Bool) (w : World) (H : ReadIs w s U W P neg true n1 n2 b1 b2 sfx) (zW : W.size ≤ 100) (zP : P.size ≤ 100) (b : b1 = true) (hz : W.size + P.size ≤ 20) (h0 : 0 < W.size) (c : Nat) (hc : W[0].toNat = c)
    (hW : ((c : Int) == 48) = false ∨ (c = 48 ∧ (W.toList == [48]) = true))
    (hN : b2 = false ∨ (b2 = true ∧ sfx = true)) :
    Calls Tryd.prog 35 #[.string s] w fun e w' => e = .returned (.tuple #[.agg #[.bool false, .int .i64 0, .int .i64 0], .bool false]) ∧ Below w.heap.size w w' := by
  have h1 := Lib.hid H.pre
  have h2 := Lib.hid H.cut
  have h3 := Lib.hid H.dig
  have h4 := Lib.hid (H.pla b)
  have h5 := Lib.hid H.suf
  subst b
  clear H
  have X1 := Lib.hid (Below.refl (w.alloc (.cells #[.bool false, .int .i64 0, .int .i64 0] 62)).heap.size (w.alloc (.cells #[.bool false, .int .i64 0, .int .i64 0] 62)))
  have hW2 : ((c : Int) == 48) = false ∨ (c = 48 ∧ (W.toList == [48]) = true ∧ (W.toList != [48]) = false) := by
    rcases hW with h | ⟨h, g⟩
    · exact .inl h
    · exact .inr ⟨h, g, by simp only [bne, g]; rfl⟩
  clear hW
  rcases hW2 with hW | ⟨rfl, hW, hW3⟩
  all_goals
    rcases hN with rfl | ⟨rfl, rfl⟩
    · go_enter Tryd.func35, Tryd.ntmps35
      go_wp2_with fail
      refine (h1.out _).mono ?_
      rintro e w1 ⟨rfl, g⟩
      replace X1 := Lib.hid (bel_trans X1.out g); clear g
      go_wp2_with fail
      refine (h2.out _ (bel_alloc X1.out)).mono ?_
      rintro e w2 ⟨rfl, g⟩
      replace X1 := Lib.hid (bel_trans X1.out g); clear g
      go_wp2_with fail
      refine (h3.out _).mono ?_
      rintro e w3 ⟨rfl, g⟩
      replace X1 := Lib.hid (bel_trans X1.out g); clear g
      go_wp2_with fail
      refine (h4.out _).mono ?_
      rintro e w4 ⟨rfl, g⟩
      replace X1 := Lib.hid (bel_trans X1.out g); clear g
      obtain ⟨c0, c1, c2, f0, f1, f2, hz⟩ := res_cells X1.out
      go_wp2
      obtain ⟨t0, t1, t2⟩ := three_read _ w.heap.size (.bool false) (.int .i64 0) (.int .i64 0) c0 c1 c2
      refine bodyPost_ret (v := .tuple #[.agg #[.bool false, .int .i64 0, .int .i64 0], .bool false]) (by simp [results, Tryd.results35, go_sem, t0, t1, t2]) rfl ?_
      exact ⟨rfl, (((bel_alloc X1.out).setCell (Nat.le_refl _) _).setCell (Nat.le_refl _) _).setCell (Nat.le_refl _) _⟩
    · go_enter Tryd.func35, Tryd.ntmps35
      go_wp2_with fail
      refine (h1.out _).mono ?_
      rintro e w1 ⟨rfl, g⟩
      replace X1 := Lib.hid (bel_trans X1.out g); clear g
      go_wp2_with fail
      refine (h2.out _ (bel_alloc X1.out)).mono ?_
      rintro e w2 ⟨rfl, g⟩
      replace X1 := Lib.hid (bel_trans X1.out g); clear g
      go_wp2_with fail
      refine (h3.out _).mono ?_
      rintro e w3 ⟨rfl, g⟩
      replace X1 := Lib.hid (bel_trans X1.out g); clear g
      go_wp2_with fail
      refine (h4.out _).mono ?_
      rintro e w4 ⟨rfl, g⟩
      replace X1 := Lib.hid (bel_trans X1.out g); clear g
      go_wp2_with fail
      refine (h5.out _).mono ?_
      rintro e w5 ⟨rfl, hw⟩
      subst hw
      obtain ⟨c0, c1, c2, f0, f1, f2, hz⟩ := res_cells X1.out
      go_wp2
      obtain ⟨t0, t1, t2⟩ := three_read _ w.heap.size (.bool false) (.int .i64 0) (.int .i64 0) c0 c1 c2
      refine bodyPost_ret (v := .tuple #[.agg #[.bool false, .int .i64 0, .int .i64 0], .bool false]) (by simp [results, Tryd.results35, go_sem, t0, t1, t2]) rfl ?_
      exact ⟨rfl, (((bel_alloc X1.out).setCell (Nat.le_refl _) _).setCell (Nat.le_refl _) _).setCell (Nat.le_refl _) _⟩
end Go.Proofs.YtdhckbjebccdbaaDoor
