/- The reference of layer 22: Copy. -/
import Derived.Test.YtfpdanjhlepckaaDoorLTK
import Derived.Test.YtfpdanjhlepckaaDoorLRI2
namespace Go.Proofs.YtfpdanjhlepckaaDoor
open Go.RowKit

theorem quad_set3 (w : World) (b : Nat) (u : Value) {x y z v : Value} (h : Quad b w x y z v) : Quad b (w.setCell ⟨b, 3, none⟩ u) x y z u := by
  obtain ⟨h0, h1, h2, h3, h4, h5⟩ := h
  have o : ∀ i, i ≠ 3 → (w.setCell ⟨b, 3, none⟩ u).cell? ⟨b, i, none⟩ = w.cell? ⟨b, i, none⟩ := fun i h => World.cell?_setCell_other _ _ _ _ (by intro e; simp only [Addr.mk.injEq] at e; exact h e.2.1.symm)
  exact ⟨by rw [o 0 (by decide)]; exact h0, by rw [o 1 (by decide)]; exact h1, by rw [o 2 (by decide)]; exact h2, World.cell?_setCell_same _ _ _ h3, fun k hk => by rw [World.frozen?_setCell]; exact h4 k hk, by rw [World.size_setCell]; exact h5⟩
theorem quad_setOther (w : World) (b c : Nat) (k : Nat) (u : Value) {x y z v : Value} (hn : b ≠ c) (h : Quad b w x y z v) : Quad b (w.setCell ⟨c, k, none⟩ u) x y z v := by
  obtain ⟨h0, h1, h2, h3, h4, h5⟩ := h
  have o : ∀ i, (w.setCell ⟨c, k, none⟩ u).cell? ⟨b, i, none⟩ = w.cell? ⟨b, i, none⟩ := fun i => World.cell?_setCell_other _ _ _ _ (by intro e; simp only [Addr.mk.injEq] at e; exact hn e.1.symm)
  exact ⟨by rw [o]; exact h0, by rw [o]; exact h1, by rw [o]; exact h2, by rw [o]; exact h3, fun k hk => by rw [World.frozen?_setCell]; exact h4 k hk, by rw [World.size_setCell]; exact h5⟩
theorem sh_not {W : World} {B : Nat} {v : Value} {l : List (Int × Int)} (h : RH.Sh W B v l) {c : Nat} (hc : c < B) : ∀ b, v.ownBlock = some b → b ≠ c := by
  intro b hb
  obtain ⟨_, h2⟩ := h
  rcases h2 with ⟨h2, _⟩ | ⟨b', cap', cur, h2, hg, _⟩
  · rw [h2] at hb; cases hb
  · rw [h2] at hb
    simp [Value.ownBlock] at hb
    omega
/-- behind the append of Copy -/
theorem rlCp_end {w w1 : World} {cd cA cM : Int} {v' v0 : Value} {l : List (Int × Int)} (X : Below w.heap.size w w1) (T0 : Quad w.heap.size w1 (.int .i64 cd) (.int .i64 cA) (.int .i64 cM) v0) (T1 : Quad (w.heap.size + 1) w1 (.int .i64 0) (.int .i64 0) (.int .i64 0) (.slice none 0 0)) (U : RH.Sh w1 (w.heap.size + 2) v' l) :
    (Quad w.heap.size (w1.setCell ⟨w.heap.size, 3, none⟩ v') (.int .i64 cd) (.int .i64 cA) (.int .i64 cM) v' ∧ Quad (w.heap.size + 1) (w1.setCell ⟨w.heap.size, 3, none⟩ v') (.int .i64 0) (.int .i64 0) (.int .i64 0) (.slice none 0 0)) ∧
    RH.Sh (((((w1.setCell ⟨w.heap.size, 3, none⟩ v').setCell ⟨w.heap.size + 1, 0, none⟩ (.int .i64 cd)).setCell ⟨w.heap.size + 1, 1, none⟩ (.int .i64 cA)).setCell ⟨w.heap.size + 1, 2, none⟩ (.int .i64 cM)).setCell ⟨w.heap.size + 1, 3, none⟩ v') w.heap.size v' l ∧
    Below w.heap.size w (((((w1.setCell ⟨w.heap.size, 3, none⟩ v').setCell ⟨w.heap.size + 1, 0, none⟩ (.int .i64 cd)).setCell ⟨w.heap.size + 1, 1, none⟩ (.int .i64 cA)).setCell ⟨w.heap.size + 1, 2, none⟩ (.int .i64 cM)).setCell ⟨w.heap.size + 1, 3, none⟩ v') := by
  have N0 := sh_not U (c := w.heap.size) (by omega)
  have N1 := sh_not U (c := w.heap.size + 1) (by omega)
  have l1 : w.heap.size ≤ w.heap.size + 1 := by omega
  refine ⟨⟨quad_set3 _ _ _ T0, quad_setOther _ _ _ _ _ (by omega) T1⟩, ?_, ?_⟩
  · exact sh_setOther (sh_setOther (sh_setOther (sh_setOther (sh_setOther (U.base (by omega)) _ N0 _) _ N1 _) _ N1 _) _ N1 _) _ N1 _
  · exact ((((X.setCell (p := ⟨w.heap.size, 3, none⟩) (Nat.le_refl _) _).setCell (p := ⟨w.heap.size + 1, 0, none⟩) l1 _).setCell (p := ⟨w.heap.size + 1, 1, none⟩) l1 _).setCell (p := ⟨w.heap.size + 1, 2, none⟩) l1 _).setCell (p := ⟨w.heap.size + 1, 3, none⟩) l1 _
set_option maxHeartbeats 8000000 in
set_option maxRecDepth 100000 in
theorem rlCp_some (cd cA cM : Int) (ad : Addr) (n c : Nat) (l : List (Int × Int)) (w : World) (hl : l.length = n) (hn : n ≤ 1000) (hv : Hid (Pts w (.slice (some ad) n c) l)) :
    Calls Tryd.prog 33 #[.agg #[.int .i64 cd, .int .i64 cA, .int .i64 cM, .slice (some ad) n c]] w fun e w' => ∃ u, e = .returned (.agg #[.int .i64 cd, .int .i64 cA, .int .i64 cM, u]) ∧ RH.Sh w' w.heap.size u l ∧ Below w.heap.size w w' := by
  obtain ⟨i0, hi0, hz0, hz1, hz2⟩ := RH.info_parts RH.sh_info
  have T0 := Lib.hid (((Quad.new w (.int .i64 cd) (.int .i64 cA) (.int .i64 cM) (.slice (some ad) n c) 32).alloc (.cells #[.int .i64 0, .int .i64 0, .int .i64 0, .slice none 0 0] 32)).alloc (.cells #[] 52))
  have T1 := Lib.hid ((Quad.new (w.alloc (.cells #[.int .i64 cd, .int .i64 cA, .int .i64 cM, .slice (some ad) n c] 32)) (.int .i64 0) (.int .i64 0) (.int .i64 0) (.slice none 0 0) 32).alloc (.cells #[] 52))
  simp only [World.size_alloc] at T1
  have X : Hid (Below w.heap.size w (((w.alloc (.cells #[.int .i64 cd, .int .i64 cA, .int .i64 cM, .slice (some ad) n c] 32)).alloc (.cells #[.int .i64 0, .int .i64 0, .int .i64 0, .slice none 0 0] 32)).alloc (.cells #[] 52))) := Lib.hid (bel_alloc (bel_alloc (bel_alloc (Below.refl _ _))))
  have OA := RH.no_row ((w.alloc (.cells #[.int .i64 cd, .int .i64 cA, .int .i64 cM, .slice (some ad) n c] 32)).alloc (.cells #[.int .i64 0, .int .i64 0, .int .i64 0, .slice none 0 0] 32)) (w.heap.size + 2) 2 52 (by simp)
  simp only [World.size_alloc] at OA
  have CN : Hid (∀ j u, (flat l)[j]? = some u → (((w.alloc (.cells #[.int .i64 cd, .int .i64 cA, .int .i64 cM, .slice (some ad) n c] 32)).alloc (.cells #[.int .i64 0, .int .i64 0, .int .i64 0, .slice none 0 0] 32)).alloc (.cells #[] 52)).cell? (ad.add j) = some u) := Lib.hid (by
    intro j u hj
    obtain ⟨a, c', e, _, h⟩ := hv.out.below X.out
    simp only [Value.slice.injEq] at e
    obtain ⟨rfl, _, rfl⟩ := e
    rcases h with h | ⟨b, off, hx, hb, hc⟩
    · obtain rfl := List.length_eq_zero_iff.1 h
      simp [flat] at hj
    · obtain rfl := Option.some.inj hx
      obtain ⟨i, hi, ⟨rfl, rfl⟩ | ⟨rfl, rfl⟩⟩ := flat_inv l j u hj
      · rw [Go.WideShapes.add_plain]; exact (hc i hi).1
      · rw [Go.WideShapes.add_plain, ← Nat.add_assoc]; exact (hc i hi).2)
  obtain ⟨b0, b1, b2, b3, _, _⟩ := T0.out
  go_enter Tryd.func33, Tryd.ntmps33
  go_wp2_with (at_builtin; refine wpList_append_own_at _ rfl _ _ 30 rfl (w.heap.size + 2) 52 i0 (.agg #[.int .i64 0, .int .i64 0]) 2 16 Tryd.underlying30 hi0 hz0 hz1 hz2 rfl (by omega) _ _ _ rfl OA ad n c (flat l) rfl ?qc1 ?qc2 ?qc3 ?qc4 ?qc5 ?qc6 ?_)
  case qc1 => rw [flat_len, hl]
  case qc2 => exact CN.out
  case qc3 => exact flat_one _
  case qc4 => rw [Nat.zero_add]; unfold maxLen; omega
  case qc5 => rw [Nat.zero_add]; omega
  case qc6 => simp
  intro v' w1 hown hgrow _ _
  have HB : Below (w.heap.size + 2) ((w.alloc (.cells #[.int .i64 cd, .int .i64 cA, .int .i64 cM, .slice (some ad) n c] 32)).alloc (.cells #[.int .i64 0, .int .i64 0, .int .i64 0, .slice none 0 0] 32)) w1 := ((Below.refl _ _).alloc (by simp) _).grown hgrow (by simp) (by intro k hk; simp [Value.ownBlock] at hk; omega)
  have U : RH.Sh w1 (w.heap.size + 2) v' l := by
    unfold RH.Sh
    rw [hl]
    simpa using hown
  have Q0 := (((Quad.new w (.int .i64 cd) (.int .i64 cA) (.int .i64 cM) (.slice (some ad) n c) 32).alloc (.cells #[.int .i64 0, .int .i64 0, .int .i64 0, .slice none 0 0] 32))).below (by simpa using HB)
  have Q1 := (Quad.new (w.alloc (.cells #[.int .i64 cd, .int .i64 cA, .int .i64 cM, .slice (some ad) n c] 32)) (.int .i64 0) (.int .i64 0) (.int .i64 0) (.slice none 0 0) 32).below (by simpa using HB)
  simp only [World.size_alloc] at Q1
  have X1 : Below w.heap.size w w1 := bel_trans (bel_alloc (bel_alloc (Below.refl _ _))) (by simpa using HB)
  obtain ⟨u, uc, hue⟩ := U.shape
  rw [hl] at hue
  subst hue
  obtain ⟨⟨E0, E1⟩, E2, E3⟩ := rlCp_end X1 Q0 Q1 U
  have R2 := Lib.hid E2
  have R3 := Lib.hid E3
  clear E2 E3 hgrow hown HB X CN OA T0 T1 U X1 b0 b1 b2 b3 hv Q1 hi0 hz0 hz1 hz2
  obtain ⟨b0, b1, b2, b3, z, _⟩ := Q0
  have z3 := z 3 (by omega)
  clear z
  obtain ⟨e0, e1, e2, e3, _, _⟩ := E0
  obtain ⟨d0, d1, d2, d3, z, _⟩ := E1
  have y0 := z 0 (by omega)
  have y1 := z 1 (by omega)
  have y2 := z 2 (by omega)
  have y3 := z 3 (by omega)
  obtain ⟨t0, t1, t2, t3⟩ := quad_read _ (w.heap.size + 1) (.int .i64 cd) (.int .i64 cA) (.int .i64 cM) (.slice u n uc) d0 d1 d2 d3
  clear z
  go_wp2
  refine bodyPost_ret (v := .agg #[.int .i64 cd, .int .i64 cA, .int .i64 cM, .slice u n uc]) (by simp [results, Tryd.results33, go_sem, t0, t1, t2, t3]) rfl ?_
  exact ⟨_, rfl, R2.out, R3.out⟩
set_option maxHeartbeats 8000000 in
set_option maxRecDepth 100000 in
theorem rlCp_none (cd cA cM : Int) (c : Nat) (w : World) :
    Calls Tryd.prog 33 #[.agg #[.int .i64 cd, .int .i64 cA, .int .i64 cM, .slice none 0 c]] w fun e w' => ∃ u, e = .returned (.agg #[.int .i64 cd, .int .i64 cA, .int .i64 cM, u]) ∧ RH.Sh w' w.heap.size u [] ∧ Below w.heap.size w w' := by
  obtain ⟨i0, hi0, hz0, hz1, hz2⟩ := RH.info_parts RH.sh_info
  have T0 := Lib.hid (((Quad.new w (.int .i64 cd) (.int .i64 cA) (.int .i64 cM) (.slice none 0 c) 32).alloc (.cells #[.int .i64 0, .int .i64 0, .int .i64 0, .slice none 0 0] 32)).alloc (.cells #[] 52))
  have T1 := Lib.hid ((Quad.new (w.alloc (.cells #[.int .i64 cd, .int .i64 cA, .int .i64 cM, .slice none 0 c] 32)) (.int .i64 0) (.int .i64 0) (.int .i64 0) (.slice none 0 0) 32).alloc (.cells #[] 52))
  simp only [World.size_alloc] at T1
  have X : Hid (Below w.heap.size w (((w.alloc (.cells #[.int .i64 cd, .int .i64 cA, .int .i64 cM, .slice none 0 c] 32)).alloc (.cells #[.int .i64 0, .int .i64 0, .int .i64 0, .slice none 0 0] 32)).alloc (.cells #[] 52))) := Lib.hid (bel_alloc (bel_alloc (bel_alloc (Below.refl _ _))))
  have OA := RH.no_row ((w.alloc (.cells #[.int .i64 cd, .int .i64 cA, .int .i64 cM, .slice none 0 c] 32)).alloc (.cells #[.int .i64 0, .int .i64 0, .int .i64 0, .slice none 0 0] 32)) (w.heap.size + 2) 2 52 (by simp)
  simp only [World.size_alloc] at OA
  have OB := Lib.hid OA
  obtain ⟨b0, b1, b2, b3, _, _⟩ := T0.out
  go_enter Tryd.func33, Tryd.ntmps33
  go_wp2_with (at_builtin; refine RH.wpList_append_nothing rfl _ _ 30 rfl 52 i0 Tryd.underlying30 hi0 ⟨w.heap.size + 1 + 1, 0, none⟩ 0 c rfl rfl ?_)
  clear T0 T1 X OA OB b0 b1 b2 b3 hi0 hz0 hz1 hz2
  go_wp2
  go_returns
  refine ⟨_, rfl, ?_, bel_alloc (bel_alloc (bel_alloc (Below.refl _ _)))⟩
  have := RH.no_row ((w.alloc (.cells #[.int .i64 cd, .int .i64 cA, .int .i64 cM, .slice (some ⟨w.heap.size + 1 + 1, 0, none⟩) 0 0] 32)).alloc (.cells #[.int .i64 cd, .int .i64 cA, .int .i64 cM, .slice (some ⟨w.heap.size + 1 + 1, 0, none⟩) 0 0] 32)) w.heap.size 2 52 (by simp only [World.size_alloc]; omega)
  simp only [World.size_alloc] at this
  exact this
theorem rlCp_any (c : Lt) (a : Option Addr) (cap : Nat) (w : World) (hv : Pts w (.slice a c.sh.length cap) c.sh) (hn : c.sh.length ≤ 1000) :
    Calls Tryd.prog 33 #[ltV c a cap] w fun e w' => ∃ u, e = .returned (.agg #[.int .i64 c.id, .int .i64 c.al, .int .i64 c.ms, u]) ∧ RH.Sh w' w.heap.size u c.sh ∧ Below w.heap.size w w' := by
  unfold ltV
  cases a with
  | none =>
    obtain ⟨a', c', e, _, h⟩ := hv
    simp only [Value.slice.injEq] at e
    obtain ⟨rfl, _, rfl⟩ := e
    rcases h with h | ⟨b, off, hx, _⟩
    · rw [List.length_eq_zero_iff.1 h]
      exact rlCp_none _ _ _ cap w
    · cases hx
  | some ad => exact rlCp_some _ _ _ ad _ cap c.sh w rfl hn (Lib.hid hv)
end Go.Proofs.YtfpdanjhlepckaaDoor

