/- Package unit: readDecimal. -/
import Derived.Test.YtdhckbjebccdbaaDoorUTimes
namespace Go.Proofs.YtdhckbjebccdbaaDoor
open Go.RowKit

theorem three_read (w : World) (b : Nat) (u v x : Value) {a c d : Value} (h0 : w.cell? ⟨b, 0, none⟩ = some a) (h1 : w.cell? ⟨b, 1, none⟩ = some c) (h2 : w.cell? ⟨b, 2, none⟩ = some d) :
    (((w.setCell ⟨b, 0, none⟩ u).setCell ⟨b, 1, none⟩ v).setCell ⟨b, 2, none⟩ x).cell? ⟨b, 0, none⟩ = some u ∧
    (((w.setCell ⟨b, 0, none⟩ u).setCell ⟨b, 1, none⟩ v).setCell ⟨b, 2, none⟩ x).cell? ⟨b, 1, none⟩ = some v ∧
    (((w.setCell ⟨b, 0, none⟩ u).setCell ⟨b, 1, none⟩ v).setCell ⟨b, 2, none⟩ x).cell? ⟨b, 2, none⟩ = some x := by
  refine ⟨?_, ?_, ?_⟩
  · rw [World.cell?_setCell_other _ _ _ _ (by simp), World.cell?_setCell_other _ _ _ _ (by simp), World.cell?_setCell_same _ _ _ h0]
  · rw [World.cell?_setCell_other _ _ _ _ (by simp), World.cell?_setCell_same (u := c)]
    rw [World.cell?_setCell_other _ _ _ _ (by simp), h1]
  · rw [World.cell?_setCell_same (u := d)]
    rw [World.cell?_setCell_other _ _ _ _ (by simp), World.cell?_setCell_other _ _ _ _ (by simp), h2]
theorem res_cells {w W : World} {a b c : Value} {T : TypeId} (h : Below (w.alloc (.cells #[a, b, c] T)).heap.size (w.alloc (.cells #[a, b, c] T)) W) :
    W.cell? ⟨w.heap.size, 0, none⟩ = some a ∧ W.cell? ⟨w.heap.size, 1, none⟩ = some b ∧ W.cell? ⟨w.heap.size, 2, none⟩ = some c ∧
    W.frozen? ⟨w.heap.size, 0, none⟩ = false ∧ W.frozen? ⟨w.heap.size, 1, none⟩ = false ∧ W.frozen? ⟨w.heap.size, 2, none⟩ = false ∧ w.heap.size < W.heap.size := by
  have hz := h.size
  simp at hz
  refine ⟨?_, ?_, ?_, ?_, ?_, ?_, by omega⟩
  · rw [(bcell h).1 _ _ (by simp)]; simp [go_sem]
  · rw [(bcell h).1 _ _ (by simp)]; simp [go_sem]
  · rw [(bcell h).1 _ _ (by simp)]; simp [go_sem]
  · rw [(bcell h).2 _ _ (by simp)]; simp [go_sem]
  · rw [(bcell h).2 _ _ (by simp)]; simp [go_sem]
  · rw [(bcell h).2 _ _ (by simp)]; simp [go_sem]

/-- what the calls of readDecimal answer -/
structure ReadIs (w : World) (s U W P : ByteArray) (neg pt : Bool) (n1 n2 : Int) (b1 b2 sfx : Bool) : Prop where
  pre : ∀ V, Calls Tryd.prog 45 #[.string s, .string ⟨#[45]⟩] V fun e w' => e = .returned (.tuple #[.string U, .bool neg]) ∧ Below V.heap.size V w'
  cut : ∀ V, Below w.heap.size w V → Calls Tryd.prog 26 #[.string U, .string ⟨#[46]⟩] V fun e w' => e = .returned (.tuple #[.string W, .string P, .bool pt]) ∧ Below V.heap.size V w'
  dig : ∀ V, Calls Tryd.prog 46 #[.int .i64 0, .string W] V fun e w' => e = .returned (.tuple #[.int .i64 n1, .bool b1]) ∧ Below V.heap.size V w'
  pla : b1 = true → ∀ V, Calls Tryd.prog 46 #[.int .i64 n1, .string P] V fun e w' => e = .returned (.tuple #[.int .i64 n2, .bool b2]) ∧ Below V.heap.size V w'
  suf : ∀ V, Calls Tryd.prog 25 #[.string P, .string ⟨#[48]⟩] V fun e w' => e = .returned (.bool sfx) ∧ w' = V

set_option maxHeartbeats 2000000 in
theorem read_whole (s U W P : ByteArray) (neg pt : Bool) (n1 n2 : Int) (b1 b2 sfx : Bool) (w : World) (H : ReadIs w s U W P neg pt n1 n2 b1 b2 sfx) (zW : W.size ≤ 100) (zP : P.size ≤ 100)
    (h : b1 = false ∨ (b1 = true ∧ 20 < W.size + P.size) ∨ (b1 = true ∧ W.size + P.size ≤ 20 ∧ ∃ h0 : 0 < W.size, W[0].toNat = 48 ∧ (W.toList == [48]) = false)) :
    Calls Tryd.prog 35 #[.string s] w fun e w' => e = .returned (.tuple #[.agg #[.bool false, .int .i64 0, .int .i64 0], .bool false]) ∧ Below w.heap.size w w' := by
  have h1 := Lib.hid H.pre
  have h2 := Lib.hid H.cut
  have h3 := Lib.hid H.dig
  clear H
  have X1 := Lib.hid (Below.refl (w.alloc (.cells #[.bool false, .int .i64 0, .int .i64 0] 62)).heap.size (w.alloc (.cells #[.bool false, .int .i64 0, .int .i64 0] 62)))
  rcases h with rfl | ⟨rfl, h⟩ | ⟨rfl, h, h0, hc, hq⟩
  · go_enter Tryd.func35, Tryd.ntmps35
    go_wp2_with fail
    refine (h1.out _).mono ?_
    rintro e w1 ⟨rfl, g⟩
    replace X1 := Lib.hid (bel_trans X1.out g); clear g
    go_wp2_with fail
    refine (h2.out _ (bel_alloc X1.out)).mono ?_
    rintro e w2 ⟨rfl, g⟩
    replace X1 := Lib.hid (bel_trans X1.out g); clear g
    go_wp2_with fail
    refine (h3.out _).mono ?_
    rintro e w3 ⟨rfl, g⟩
    replace X1 := Lib.hid (bel_trans X1.out g); clear g
    obtain ⟨c0, c1, c2, f0, f1, f2, hz⟩ := res_cells X1.out
    go_wp2
    obtain ⟨t0, t1, t2⟩ := three_read _ w.heap.size (.bool false) (.int .i64 0) (.int .i64 0) c0 c1 c2
    refine bodyPost_ret (v := .tuple #[.agg #[.bool false, .int .i64 0, .int .i64 0], .bool false]) (by simp [results, Tryd.results35, go_sem, t0, t1, t2]) rfl ?_
    exact ⟨rfl, (((bel_alloc X1.out).setCell (Nat.le_refl _) _).setCell (Nat.le_refl _) _).setCell (Nat.le_refl _) _⟩
  · go_enter Tryd.func35, Tryd.ntmps35
    go_wp2_with fail
    refine (h1.out _).mono ?_
    rintro e w1 ⟨rfl, g⟩
    replace X1 := Lib.hid (bel_trans X1.out g); clear g
    go_wp2_with fail
    refine (h2.out _ (bel_alloc X1.out)).mono ?_
    rintro e w2 ⟨rfl, g⟩
    replace X1 := Lib.hid (bel_trans X1.out g); clear g
    go_wp2_with fail
    refine (h3.out _).mono ?_
    rintro e w3 ⟨rfl, g⟩
    replace X1 := Lib.hid (bel_trans X1.out g); clear g
    obtain ⟨c0, c1, c2, f0, f1, f2, hz⟩ := res_cells X1.out
    go_wp2
    obtain ⟨t0, t1, t2⟩ := three_read _ w.heap.size (.bool false) (.int .i64 0) (.int .i64 0) c0 c1 c2
    refine bodyPost_ret (v := .tuple #[.agg #[.bool false, .int .i64 0, .int .i64 0], .bool false]) (by simp [results, Tryd.results35, go_sem, t0, t1, t2]) rfl ?_
    exact ⟨rfl, (((bel_alloc X1.out).setCell (Nat.le_refl _) _).setCell (Nat.le_refl _) _).setCell (Nat.le_refl _) _⟩
  · have hq2 : (W.toList != [48]) = true := by simp only [bne, hq]; rfl
    go_enter Tryd.func35, Tryd.ntmps35
    go_wp2_with fail
    refine (h1.out _).mono ?_
    rintro e w1 ⟨rfl, g⟩
    replace X1 := Lib.hid (bel_trans X1.out g); clear g
    go_wp2_with fail
    refine (h2.out _ (bel_alloc X1.out)).mono ?_
    rintro e w2 ⟨rfl, g⟩
    replace X1 := Lib.hid (bel_trans X1.out g); clear g
    go_wp2_with fail
    refine (h3.out _).mono ?_
    rintro e w3 ⟨rfl, g⟩
    replace X1 := Lib.hid (bel_trans X1.out g); clear g
    obtain ⟨c0, c1, c2, f0, f1, f2, hz⟩ := res_cells X1.out
    go_wp2
    obtain ⟨t0, t1, t2⟩ := three_read _ w.heap.size (.bool false) (.int .i64 0) (.int .i64 0) c0 c1 c2
    refine bodyPost_ret (v := .tuple #[.agg #[.bool false, .int .i64 0, .int .i64 0], .bool false]) (by simp [results, Tryd.results35, go_sem, t0, t1, t2]) rfl ?_
    exact ⟨rfl, (((bel_alloc X1.out).setCell (Nat.le_refl _) _).setCell (Nat.le_refl _) _).setCell (Nat.le_refl _) _⟩

set_option maxHeartbeats 4000000 in
theorem read_rest (s U W P : ByteArray) (neg pt : Bool) (n1 n2 N C : Int) (b1 b2 sfx : Bool) (w : World) (H : ReadIs w s U W P neg pt n1 n2 b1 b2 sfx) (zW : W.size ≤ 100) (zP : P.size ≤ 100) (b : b1 = true) (hz : W.size + P.size ≤ 20) (h0 : 0 < W.size) (c : Nat) (hc : W[0].toNat = c)
    (hW : ((c : Int) == 48) = false ∨ (c = 48 ∧ (W.toList == [48]) = true)) (hC : (P.size : Int) = C)
    (hN : (pt = false ∧ N = n1) ∨ (pt = true ∧ b2 = true ∧ sfx = false ∧ N = n2)) :
    Calls Tryd.prog 35 #[.string s] w fun e w' => e = .returned (if (neg && (N == 0)) = true then .tuple #[.agg #[.bool false, .int .i64 0, .int .i64 0], .bool false] else .tuple #[.agg #[.bool neg, .int .i64 N, .int .i64 C], .bool true]) ∧ Below w.heap.size w w' := by
  have h1 := Lib.hid H.pre
  have h2 := Lib.hid H.cut
  have h3 := Lib.hid H.dig
  have h4 := Lib.hid (H.pla b)
  have h5 := Lib.hid H.suf
  subst b
  clear H
  have X1 := Lib.hid (Below.refl (w.alloc (.cells #[.bool false, .int .i64 0, .int .i64 0] 62)).heap.size (w.alloc (.cells #[.bool false, .int .i64 0, .int .i64 0] 62)))
  have hW2 : ((c : Int) == 48) = false ∨ (c = 48 ∧ (W.toList == [48]) = true ∧ (W.toList != [48]) = false) := by
    rcases hW with h | ⟨h, g⟩
    · exact .inl h
    · exact .inr ⟨h, g, by simp only [bne, g]; rfl⟩
  clear hW
  have hq : (N = 0) ∨ ((N == 0) = false) := by
    by_cases h : N = 0
    · exact .inl h
    · exact .inr (by simpa using h)
  rcases hW2 with hW | ⟨rfl, hW, hW3⟩
  all_goals
    rcases hN with ⟨rfl, rfl⟩ | ⟨rfl, rfl, rfl, rfl⟩
    · cases neg with
      | false =>
        go_enter Tryd.func35, Tryd.ntmps35
        go_wp2_with fail
        refine (h1.out _).mono ?_
        rintro e w1 ⟨rfl, g⟩
        replace X1 := Lib.hid (bel_trans X1.out g); clear g
        go_wp2_with fail
        refine (h2.out _ (bel_alloc X1.out)).mono ?_
        rintro e w2 ⟨rfl, g⟩
        replace X1 := Lib.hid (bel_trans X1.out g); clear g
        go_wp2_with fail
        refine (h3.out _).mono ?_
        rintro e w3 ⟨rfl, g⟩
        replace X1 := Lib.hid (bel_trans X1.out g); clear g
        obtain ⟨c0, c1, c2, f0, f1, f2, hz⟩ := res_cells X1.out
        go_wp2
        obtain ⟨t0, t1, t2⟩ := three_read _ w.heap.size (.bool false) (.int .i64 N) (.int .i64 C) c0 c1 c2
        refine bodyPost_ret (v := .tuple #[.agg #[.bool false, .int .i64 N, .int .i64 C], .bool true]) (by simp [results, Tryd.results35, go_sem, t0, t1, t2]) rfl ?_
        exact ⟨rfl, (((bel_alloc X1.out).setCell (Nat.le_refl _) _).setCell (Nat.le_refl _) _).setCell (Nat.le_refl _) _⟩
      | true =>
        rcases hq with rfl | hq
        · go_enter Tryd.func35, Tryd.ntmps35
          go_wp2_with fail
          refine (h1.out _).mono ?_
          rintro e w1 ⟨rfl, g⟩
          replace X1 := Lib.hid (bel_trans X1.out g); clear g
          go_wp2_with fail
          refine (h2.out _ (bel_alloc X1.out)).mono ?_
          rintro e w2 ⟨rfl, g⟩
          replace X1 := Lib.hid (bel_trans X1.out g); clear g
          go_wp2_with fail
          refine (h3.out _).mono ?_
          rintro e w3 ⟨rfl, g⟩
          replace X1 := Lib.hid (bel_trans X1.out g); clear g
          obtain ⟨c0, c1, c2, f0, f1, f2, hz⟩ := res_cells X1.out
          go_wp2
          obtain ⟨t0, t1, t2⟩ := three_read _ w.heap.size (.bool false) (.int .i64 0) (.int .i64 0) c0 c1 c2
          refine bodyPost_ret (v := .tuple #[.agg #[.bool false, .int .i64 0, .int .i64 0], .bool false]) (by simp [results, Tryd.results35, go_sem, t0, t1, t2]) rfl ?_
          exact ⟨rfl, (((bel_alloc X1.out).setCell (Nat.le_refl _) _).setCell (Nat.le_refl _) _).setCell (Nat.le_refl _) _⟩
        · have hq3 : (if (true && (N == 0)) = true then Value.tuple #[.agg #[.bool false, .int .i64 0, .int .i64 0], .bool false] else Value.tuple #[.agg #[.bool true, .int .i64 N, .int .i64 C], .bool true]) = Value.tuple #[.agg #[.bool true, .int .i64 N, .int .i64 C], .bool true] := by rw [hq]; rfl
          rw [hq3]
          go_enter Tryd.func35, Tryd.ntmps35
          go_wp2_with fail
          refine (h1.out _).mono ?_
          rintro e w1 ⟨rfl, g⟩
          replace X1 := Lib.hid (bel_trans X1.out g); clear g
          go_wp2_with fail
          refine (h2.out _ (bel_alloc X1.out)).mono ?_
          rintro e w2 ⟨rfl, g⟩
          replace X1 := Lib.hid (bel_trans X1.out g); clear g
          go_wp2_with fail
          refine (h3.out _).mono ?_
          rintro e w3 ⟨rfl, g⟩
          replace X1 := Lib.hid (bel_trans X1.out g); clear g
          obtain ⟨c0, c1, c2, f0, f1, f2, hz⟩ := res_cells X1.out
          go_wp2
          obtain ⟨t0, t1, t2⟩ := three_read _ w.heap.size (.bool true) (.int .i64 N) (.int .i64 C) c0 c1 c2
          refine bodyPost_ret (v := .tuple #[.agg #[.bool true, .int .i64 N, .int .i64 C], .bool true]) (by simp [results, Tryd.results35, go_sem, t0, t1, t2]) rfl ?_
          exact ⟨rfl, (((bel_alloc X1.out).setCell (Nat.le_refl _) _).setCell (Nat.le_refl _) _).setCell (Nat.le_refl _) _⟩
    · cases neg with
      | false =>
        go_enter Tryd.func35, Tryd.ntmps35
        go_wp2_with fail
        refine (h1.out _).mono ?_
        rintro e w1 ⟨rfl, g⟩
        replace X1 := Lib.hid (bel_trans X1.out g); clear g
        go_wp2_with fail
        refine (h2.out _ (bel_alloc X1.out)).mono ?_
        rintro e w2 ⟨rfl, g⟩
        replace X1 := Lib.hid (bel_trans X1.out g); clear g
        go_wp2_with fail
        refine (h3.out _).mono ?_
        rintro e w3 ⟨rfl, g⟩
        replace X1 := Lib.hid (bel_trans X1.out g); clear g
        go_wp2_with fail
        refine (h4.out _).mono ?_
        rintro e w4 ⟨rfl, g⟩
        replace X1 := Lib.hid (bel_trans X1.out g); clear g
        go_wp2_with fail
        refine (h5.out _).mono ?_
        rintro e w5 ⟨rfl, hw⟩
        subst hw
        obtain ⟨c0, c1, c2, f0, f1, f2, hz⟩ := res_cells X1.out
        go_wp2
        obtain ⟨t0, t1, t2⟩ := three_read _ w.heap.size (.bool false) (.int .i64 N) (.int .i64 C) c0 c1 c2
        refine bodyPost_ret (v := .tuple #[.agg #[.bool false, .int .i64 N, .int .i64 C], .bool true]) (by simp [results, Tryd.results35, go_sem, t0, t1, t2]) rfl ?_
        exact ⟨rfl, (((bel_alloc X1.out).setCell (Nat.le_refl _) _).setCell (Nat.le_refl _) _).setCell (Nat.le_refl _) _⟩
      | true =>
        rcases hq with rfl | hq
        · go_enter Tryd.func35, Tryd.ntmps35
          go_wp2_with fail
          refine (h1.out _).mono ?_
          rintro e w1 ⟨rfl, g⟩
          replace X1 := Lib.hid (bel_trans X1.out g); clear g
          go_wp2_with fail
          refine (h2.out _ (bel_alloc X1.out)).mono ?_
          rintro e w2 ⟨rfl, g⟩
          replace X1 := Lib.hid (bel_trans X1.out g); clear g
          go_wp2_with fail
          refine (h3.out _).mono ?_
          rintro e w3 ⟨rfl, g⟩
          replace X1 := Lib.hid (bel_trans X1.out g); clear g
          go_wp2_with fail
          refine (h4.out _).mono ?_
          rintro e w4 ⟨rfl, g⟩
          replace X1 := Lib.hid (bel_trans X1.out g); clear g
          go_wp2_with fail
          refine (h5.out _).mono ?_
          rintro e w5 ⟨rfl, hw⟩
          subst hw
          obtain ⟨c0, c1, c2, f0, f1, f2, hz⟩ := res_cells X1.out
          go_wp2
          obtain ⟨t0, t1, t2⟩ := three_read _ w.heap.size (.bool false) (.int .i64 0) (.int .i64 0) c0 c1 c2
          refine bodyPost_ret (v := .tuple #[.agg #[.bool false, .int .i64 0, .int .i64 0], .bool false]) (by simp [results, Tryd.results35, go_sem, t0, t1, t2]) rfl ?_
          exact ⟨rfl, (((bel_alloc X1.out).setCell (Nat.le_refl _) _).setCell (Nat.le_refl _) _).setCell (Nat.le_refl _) _⟩
        · have hq3 : (if (true && (N == 0)) = true then Value.tuple #[.agg #[.bool false, .int .i64 0, .int .i64 0], .bool false] else Value.tuple #[.agg #[.bool true, .int .i64 N, .int .i64 C], .bool true]) = Value.tuple #[.agg #[.bool true, .int .i64 N, .int .i64 C], .bool true] := by rw [hq]; rfl
          rw [hq3]
          go_enter Tryd.func35, Tryd.ntmps35
          go_wp2_with fail
          refine (h1.out _).mono ?_
          rintro e w1 ⟨rfl, g⟩
          replace X1 := Lib.hid (bel_trans X1.out g); clear g
          go_wp2_with fail
          refine (h2.out _ (bel_alloc X1.out)).mono ?_
          rintro e w2 ⟨rfl, g⟩
          replace X1 := Lib.hid (bel_trans X1.out g); clear g
          go_wp2_with fail
          refine (h3.out _).mono ?_
          rintro e w3 ⟨rfl, g⟩
          replace X1 := Lib.hid (bel_trans X1.out g); clear g
          go_wp2_with fail
          refine (h4.out _).mono ?_
          rintro e w4 ⟨rfl, g⟩
          replace X1 := Lib.hid (bel_trans X1.out g); clear g
          go_wp2_with fail
          refine (h5.out _).mono ?_
          rintro e w5 ⟨rfl, hw⟩
          subst hw
          obtain ⟨c0, c1, c2, f0, f1, f2, hz⟩ := res_cells X1.out
          go_wp2
          obtain ⟨t0, t1, t2⟩ := three_read _ w.heap.size (.bool true) (.int .i64 N) (.int .i64 C) c0 c1 c2
          refine bodyPost_ret (v := .tuple #[.agg #[.bool true, .int .i64 N, .int .i64 C], .bool true]) (by simp [results, Tryd.results35, go_sem, t0, t1, t2]) rfl ?_
          exact ⟨rfl, (((bel_alloc X1.out).setCell (Nat.le_refl _) _).setCell (Nat.le_refl _) _).setCell (Nat.le_refl _) _⟩
end Go.Proofs.YtdhckbjebccdbaaDoor
