/- Plain facts: a polygon around a circle, and one in it. No program stands in this text. (Written by m/sg.py.) -/
import Derived.Test.YtlofblpfohnooaaSW
namespace Go.Proofs.Ytlofblpfohnooaa

theorem Conc.lin (C B : Int) (h : 0 ≤ B) : Conc (fun k => C - B * k) := by
  refine ⟨fun k => ?_, fun k => ?_⟩
  · show C - B * (k + 1) ≤ C - B * k
    rw [Int.mul_add]; omega
  · show C - B * k - (C - B * (k + 1)) ≤ C - B * (k + 1) - (C - B * (k + 1 + 1))
    rw [Int.mul_add, Int.mul_add, Int.mul_add]; omega
theorem Conc.min {F G : Int → Int} (h : Conc F) (g : Conc G) : Conc (fun k => Min.min (F k) (G k)) := by
  refine ⟨fun k => ?_, fun k => ?_⟩
  · show Min.min (F (k + 1)) (G (k + 1)) ≤ Min.min (F k) (G k)
    have := h.dec k; have := g.dec k; omega
  · show Min.min (F k) (G k) - Min.min (F (k + 1)) (G (k + 1)) ≤ Min.min (F (k + 1)) (G (k + 1)) - Min.min (F (k + 1 + 1)) (G (k + 1 + 1))
    have := h.conc k; have := g.conc k; omega

def gU (r k : Int) : Int := min (100000 * r - 0 * k) (min (102000 * r - 20000 * k) (min (111900 * r - 50000 * k) (min (134700 * r - 90000 * k) (min (189300 * r - 160000 * k) (364100 * r - 350000 * k)))))
theorem gU_conc (r : Int) : Conc (gU r) := ((Conc.lin (100000 * r) 0 (by omega)).min ((Conc.lin (102000 * r) 20000 (by omega)).min ((Conc.lin (111900 * r) 50000 (by omega)).min ((Conc.lin (134700 * r) 90000 (by omega)).min ((Conc.lin (189300 * r) 160000 (by omega)).min (Conc.lin (364100 * r) 350000 (by omega)))))))
theorem gU_le (r k : Int) : gU r k ≤ 100000 * r - 0 * k ∧ gU r k ≤ 102000 * r - 20000 * k ∧ gU r k ≤ 111900 * r - 50000 * k ∧ gU r k ≤ 134700 * r - 90000 * k ∧ gU r k ≤ 189300 * r - 160000 * k ∧ gU r k ≤ 364100 * r - 350000 * k := by
  unfold gU
  refine ⟨?_, ?_, ?_, ?_, ?_, ?_⟩ <;> omega
theorem gU_ge (r k X : Int) (h : X ≤ 100000 * r - 0 * k ∧ X ≤ 102000 * r - 20000 * k ∧ X ≤ 111900 * r - 50000 * k ∧ X ≤ 134700 * r - 90000 * k ∧ X ≤ 189300 * r - 160000 * k ∧ X ≤ 364100 * r - 350000 * k) : X ≤ gU r k := by
  unfold gU
  omega
def gL (r k : Int) : Int := min (100000 * r - 0 * k) (min (100000 * r - 11200 * k) (min (105016 * r - 34000 * k) (min (115810 * r - 59700 * k) (min (135430 * r - 92400 * k) (min (171355 * r - 140300 * k) (min (245827 * r - 225900 * k) (min (437727 * r - 427900 * k) (1410600 * r - 1410600 * k))))))))
theorem gL_conc (r : Int) : Conc (gL r) := ((Conc.lin (100000 * r) 0 (by omega)).min ((Conc.lin (100000 * r) 11200 (by omega)).min ((Conc.lin (105016 * r) 34000 (by omega)).min ((Conc.lin (115810 * r) 59700 (by omega)).min ((Conc.lin (135430 * r) 92400 (by omega)).min ((Conc.lin (171355 * r) 140300 (by omega)).min ((Conc.lin (245827 * r) 225900 (by omega)).min ((Conc.lin (437727 * r) 427900 (by omega)).min (Conc.lin (1410600 * r) 1410600 (by omega))))))))))
theorem gL_le (r k : Int) : gL r k ≤ 100000 * r - 0 * k ∧ gL r k ≤ 100000 * r - 11200 * k ∧ gL r k ≤ 105016 * r - 34000 * k ∧ gL r k ≤ 115810 * r - 59700 * k ∧ gL r k ≤ 135430 * r - 92400 * k ∧ gL r k ≤ 171355 * r - 140300 * k ∧ gL r k ≤ 245827 * r - 225900 * k ∧ gL r k ≤ 437727 * r - 427900 * k ∧ gL r k ≤ 1410600 * r - 1410600 * k := by
  unfold gL
  refine ⟨?_, ?_, ?_, ?_, ?_, ?_, ?_, ?_, ?_⟩ <;> omega
theorem gL_ge (r k X : Int) (h : X ≤ 100000 * r - 0 * k ∧ X ≤ 100000 * r - 11200 * k ∧ X ≤ 105016 * r - 34000 * k ∧ X ≤ 115810 * r - 59700 * k ∧ X ≤ 135430 * r - 92400 * k ∧ X ≤ 171355 * r - 140300 * k ∧ X ≤ 245827 * r - 225900 * k ∧ X ≤ 437727 * r - 427900 * k ∧ X ≤ 1410600 * r - 1410600 * k) : X ≤ gL r k := by
  unfold gL
  omega

/-- a tangent -/
theorem tangent (A B V x y r : Int) (h : V * V + B * B ≤ A * A) (hA : 0 ≤ A) (hr : 0 ≤ r) (hc : x * x + y * y ≤ r * r) : V * x ≤ A * r - B * y := by
  have h0 : 0 ≤ x * x + y * y := by
    have q : ∀ z : Int, 0 ≤ z * z := fun z => by
      by_cases hz : 0 ≤ z
      · exact Int.mul_nonneg hz hz
      · rw [← Int.neg_mul_neg]; exact Int.mul_nonneg (by omega) (by omega)
    have := q x; have := q y; omega
  have h2 : (V * V + B * B) * (x * x + y * y) ≤ (A * A) * (r * r) := Int.mul_le_mul h hc h0 (Int.mul_nonneg hA hA)
  have e1 : (V * x + B * y) * (V * x + B * y) + (V * y - B * x) * (V * y - B * x) = (V * V + B * B) * (x * x + y * y) := by grind
  have e2 : (A * A) * (r * r) = (A * r) * (A * r) := by grind
  have h3 : 0 ≤ (V * y - B * x) * (V * y - B * x) := by
    by_cases hz : 0 ≤ V * y - B * x
    · exact Int.mul_nonneg hz hz
    · rw [← Int.neg_mul_neg]; exact Int.mul_nonneg (by omega) (by omega)
  have := sq_le (a := V * x + B * y) (b := A * r) (Int.mul_nonneg hA hr) (by omega)
  omega
/-- a chord: between its ends it lies within the circle -/
theorem chord_sq (V Z1 Z2 c1 c2 u v : Int) (hu : 0 ≤ u) (hv : 0 ≤ v) (h1 : Z1 * Z1 + V * V * (c1 * c1) ≤ 10000 * (V * V)) (h2 : Z2 * Z2 + V * V * (c2 * c2) ≤ 10000 * (V * V)) (h12 : Z1 * Z2 + V * V * (c1 * c2) ≤ 10000 * (V * V)) :
    (Z1 * v + Z2 * u) * (Z1 * v + Z2 * u) + V * V * ((c1 * v + c2 * u) * (c1 * v + c2 * u)) ≤ V * V * ((100 * (u + v)) * (100 * (u + v))) := by
  have a1 := Int.mul_le_mul_of_nonneg_right h1 (Int.mul_nonneg hv hv)
  have a2 := Int.mul_le_mul_of_nonneg_right h2 (Int.mul_nonneg hu hu)
  have a3 := Int.mul_le_mul_of_nonneg_right h12 (Int.mul_nonneg hu hv)
  have e1 : (Z1 * v + Z2 * u) * (Z1 * v + Z2 * u) + V * V * ((c1 * v + c2 * u) * (c1 * v + c2 * u)) = (Z1 * Z1 + V * V * (c1 * c1)) * (v * v) + (Z2 * Z2 + V * V * (c2 * c2)) * (u * u) + 2 * ((Z1 * Z2 + V * V * (c1 * c2)) * (u * v)) := by grind
  have e2 : V * V * ((100 * (u + v)) * (100 * (u + v))) = 10000 * (V * V) * (v * v) + 10000 * (V * V) * (u * u) + 2 * (10000 * (V * V) * (u * v)) := by grind
  omega
theorem chord_in (V A B c1 c2 r y X : Int) (hV : 0 ≤ V) (hX : 0 ≤ X) (hc : c1 < c2) (hr : 0 ≤ r) (h1 : c1 * r ≤ 100 * y) (h2 : 100 * y ≤ c2 * r)
    (k1 : (100 * A - B * c1) * (100 * A - B * c1) + V * V * (c1 * c1) ≤ 10000 * (V * V)) (k2 : (100 * A - B * c2) * (100 * A - B * c2) + V * V * (c2 * c2) ≤ 10000 * (V * V)) (k12 : (100 * A - B * c1) * (100 * A - B * c2) + V * V * (c1 * c2) ≤ 10000 * (V * V))
    (hx : r * r ≤ X * X + y * y) : A * r - B * y ≤ V * X := by
  have q := chord_sq V _ _ c1 c2 (100 * y - c1 * r) (c2 * r - 100 * y) (by omega) (by omega) k1 k2 k12
  have e1 : (100 * A - B * c1) * (c2 * r - 100 * y) + (100 * A - B * c2) * (100 * y - c1 * r) = (100 * (c2 - c1)) * (A * r - B * y) := by grind
  have e2 : c1 * (c2 * r - 100 * y) + c2 * (100 * y - c1 * r) = (100 * (c2 - c1)) * y := by grind
  have e3 : 100 * (100 * y - c1 * r + (c2 * r - 100 * y)) = (100 * (c2 - c1)) * r := by grind
  rw [e1, e2, e3] at q
  generalize hD : 100 * (c2 - c1) = D at q
  have hD0 : 0 < D := by omega
  have q2 : (D * D) * ((A * r - B * y) * (A * r - B * y) + V * V * (y * y)) ≤ (D * D) * (V * V * (r * r)) := by
    have f1 : (D * D) * ((A * r - B * y) * (A * r - B * y) + V * V * (y * y)) = D * (A * r - B * y) * (D * (A * r - B * y)) + V * V * (D * y * (D * y)) := by grind
    have f2 : (D * D) * (V * V * (r * r)) = V * V * (D * r * (D * r)) := by grind
    rw [f1, f2]; exact q
  have q3 := Int.le_of_mul_le_mul_left q2 (Int.mul_pos hD0 hD0)
  have q4 : V * V * (r * r) ≤ V * V * (X * X + y * y) := Int.mul_le_mul_of_nonneg_left hx (Int.mul_nonneg hV hV)
  have f3 : V * V * (X * X + y * y) = (V * X) * (V * X) + V * V * (y * y) := by grind
  exact sq_le (Int.mul_nonneg hV hX) (by omega)

theorem hcL_up (r y : Int) (hr : 0 ≤ r) (h0 : 0 ≤ y) (h1 : y ≤ r) : 100000 * hcL r y ≤ gU r y := by
  have hc := (hc_circle r y (by omega)).1
  refine gU_ge r y _ ⟨tangent 100000 0 100000 _ y r (by omega) (by omega) hr hc, tangent 102000 20000 100000 _ y r (by omega) (by omega) hr hc, tangent 111900 50000 100000 _ y r (by omega) (by omega) hr hc, tangent 134700 90000 100000 _ y r (by omega) (by omega) hr hc, tangent 189300 160000 100000 _ y r (by omega) (by omega) hr hc, tangent 364100 350000 100000 _ y r (by omega) (by omega) hr hc⟩
theorem hcH_low (r y : Int) (hr : 0 ≤ r) (h0 : 0 ≤ y) (h1 : y ≤ r) : gL r y ≤ 100000 * hcH r y := by
  have hc := (hc_circle r y (by omega)).2
  have hX := (hc_le r y hr)
  obtain ⟨g0, g1, g2, g3, g4, g5, g6, g7, g8⟩ := gL_le r y
  by_cases b0 : 100 * y ≤ 22 * r
  · have := chord_in 100000 100000 11200 0 22 r y (hcH r y) (by omega) (by omega) (by omega) hr (by omega) b0 (by omega) (by omega) (by omega) hc; omega
  by_cases b1 : 100 * y ≤ 42 * r
  · have := chord_in 100000 105016 34000 22 42 r y (hcH r y) (by omega) (by omega) (by omega) hr (by omega) b1 (by omega) (by omega) (by omega) hc; omega
  by_cases b2 : 100 * y ≤ 60 * r
  · have := chord_in 100000 115810 59700 42 60 r y (hcH r y) (by omega) (by omega) (by omega) hr (by omega) b2 (by omega) (by omega) (by omega) hc; omega
  by_cases b3 : 100 * y ≤ 75 * r
  · have := chord_in 100000 135430 92400 60 75 r y (hcH r y) (by omega) (by omega) (by omega) hr (by omega) b3 (by omega) (by omega) (by omega) hc; omega
  by_cases b4 : 100 * y ≤ 87 * r
  · have := chord_in 100000 171355 140300 75 87 r y (hcH r y) (by omega) (by omega) (by omega) hr (by omega) b4 (by omega) (by omega) (by omega) hc; omega
  by_cases b5 : 100 * y ≤ 95 * r
  · have := chord_in 100000 245827 225900 87 95 r y (hcH r y) (by omega) (by omega) (by omega) hr (by omega) b5 (by omega) (by omega) (by omega) hc; omega
  by_cases b6 : 100 * y ≤ 99 * r
  · have := chord_in 100000 437727 427900 95 99 r y (hcH r y) (by omega) (by omega) (by omega) hr (by omega) b6 (by omega) (by omega) (by omega) hc; omega
  by_cases b7 : 100 * y ≤ 100 * r
  · have := chord_in 100000 1410600 1410600 99 100 r y (hcH r y) (by omega) (by omega) (by omega) hr (by omega) b7 (by omega) (by omega) (by omega) hc; omega
  omega
end Go.Proofs.Ytlofblpfohnooaa
