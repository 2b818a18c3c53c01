/- Plain facts on corrections by heat. -/
import Derived.Test.YtdpkochkpcjioabDoorRq
namespace Go.Proofs.YtdpkochkpcjioabDoor

/-- the factor of a rise at a heat -/
def fac (rise heat : Int) : Int := 10000000 + rise * (heat - 200)
def facB (rise heat : Int) : Bool := decide (0 ≤ rise) && decide (rise ≤ 10000) && decide (-400 ≤ heat) && decide (heat ≤ 600)
theorem facB_iff (rise heat : Int) : facB rise heat = true ↔ (0 ≤ rise ∧ rise ≤ 10000) ∧ -400 ≤ heat ∧ heat ≤ 600 := by
  simp [facB, and_assoc]
theorem fac_bd (rise heat : Int) (h : facB rise heat = true) : 4000000 ≤ fac rise heat ∧ fac rise heat ≤ 14000000 := by
  obtain ⟨⟨h0, h1⟩, h2, h3⟩ := (facB_iff _ _).1 h
  have a1 := Int.mul_le_mul_of_nonneg_left (show heat - 200 ≤ 400 by omega) h0
  have a2 := Int.mul_le_mul_of_nonneg_left (show -600 ≤ heat - 200 by omega) h0
  unfold fac
  omega
theorem fac_mono (rise s t : Int) (h0 : 0 ≤ rise) (h : s ≤ t) : fac rise s ≤ fac rise t := by
  have := Int.mul_le_mul_of_nonneg_left (show s - 200 ≤ t - 200 by omega) h0
  unfold fac; omega
theorem fac_whole (rise heat : Int) (h : heat = 200 ∨ rise = 0) : fac rise heat = 10000000 := by
  unfold fac
  rcases h with rfl | rfl <;> simp

/-- to a heat and back -/
theorem back_at (rule v F : Int) (f0 : 4000000 ≤ F) (f1 : F ≤ 14000000) :
    -4 ≤ rq rule (rq rule (v * F) 10000000 * 10000000) F - v ∧ rq rule (rq rule (v * F) 10000000 * 10000000) F - v ≤ 4 := by
  obtain ⟨a1, a2⟩ := rq_near rule (v * F) 10000000 (by omega)
  obtain ⟨b1, b2⟩ := rq_near rule (rq rule (v * F) 10000000 * 10000000) F (by omega)
  generalize rq rule (rq rule (v * F) 10000000 * 10000000) F = c at *
  generalize rq rule (v * F) 10000000 * 10000000 = m at *
  have e : (c - v) * F = c * F - v * F := Int.sub_mul c v F
  constructor
  · apply Classical.byContradiction
    intro h
    have := Int.mul_le_mul_of_nonneg_right (show c - v ≤ -5 by omega) (show 0 ≤ F by omega)
    omega
  · apply Classical.byContradiction
    intro h
    have := Int.mul_le_mul_of_nonneg_right (show 5 ≤ c - v by omega) (show 0 ≤ F by omega)
    omega
theorem back_to (rule v F : Int) (f0 : 4000000 ≤ F) (f1 : F ≤ 14000000) :
    -3 ≤ rq rule (rq rule (v * 10000000) F * F) 10000000 - v ∧ rq rule (rq rule (v * 10000000) F * F) 10000000 - v ≤ 3 := by
  obtain ⟨a1, a2⟩ := rq_near rule (v * 10000000) F (by omega)
  obtain ⟨b1, b2⟩ := rq_near rule (rq rule (v * 10000000) F * F) 10000000 (by omega)
  generalize rq rule (rq rule (v * 10000000) F * F) 10000000 = c at *
  generalize rq rule (v * 10000000) F * F = m at *
  omega
/-- the order of corrected measures -/
theorem to_order (rule v u F G : Int) (hr : 1 ≤ rule ∧ rule ≤ 4) (hv : 0 ≤ v) (h : v ≤ u) (hF : 0 < F) (hFG : F ≤ G) : rq rule (v * 10000000) G ≤ rq rule (u * 10000000) F := by
  refine rq_mono rule _ _ _ _ hr (by omega) hF ?_
  exact Int.mul_le_mul (by omega) hFG (by omega) (by omega)
theorem at_order (rule v u F G : Int) (hr : 1 ≤ rule ∧ rule ≤ 4) (hv : 0 ≤ v) (h : v ≤ u) (hF : 0 < F) (hFG : F ≤ G) : rq rule (v * F) 10000000 ≤ rq rule (u * G) 10000000 :=
  rq_mono1 rule _ _ _ hr (by omega) (Int.mul_le_mul h hFG (by omega) (by omega))
/-- what lies within bounds lies, corrected, within the corrected bounds -/
theorem to_within (rule v lo hi F Fl Fh : Int) (hr : 1 ≤ rule ∧ rule ≤ 4) (h0 : 0 ≤ lo) (h1 : lo ≤ v) (h2 : v ≤ hi) (hF : 0 < Fl) (hl : Fl ≤ F) (hh : F ≤ Fh) :
    rq 1 (lo * 10000000) Fh ≤ rq rule (v * 10000000) F ∧ rq rule (v * 10000000) F ≤ rq 2 (hi * 10000000) Fl := by
  have a := to_order rule lo v F Fh hr h0 h1 (by omega) hh
  have b := to_order rule v hi Fl F hr (by omega) h2 hF hl
  have c := (rq_rules rule (lo * 10000000) Fh (by omega)).1
  have d := (rq_rules rule (hi * 10000000) Fl hF).2
  omega
theorem rq_between (rule s n lo hi : Int) (hr : 1 ≤ rule ∧ rule ≤ 4) (hn : 0 < n) (h1 : lo * n ≤ s) (h2 : s ≤ hi * n) : lo ≤ rq rule s n ∧ rq rule s n ≤ hi := by
  have a := rq_mono1 rule _ _ n hr hn h1
  have b := rq_mono1 rule _ _ n hr hn h2
  rw [rq_exact rule lo n hn] at a
  rw [rq_exact rule hi n hn] at b
  exact ⟨a, b⟩
end Go.Proofs.YtdpkochkpcjioabDoor

