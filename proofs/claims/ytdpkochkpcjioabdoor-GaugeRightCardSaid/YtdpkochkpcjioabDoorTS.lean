/- What thermal's functions return, and what follows from it. -/
import Derived.Test.YtdpkochkpcjioabDoorTM
namespace Go.Proofs.YtdpkochkpcjioabDoor

/-- the error of a measure -/
def rdyE (v rise heat rule : Int) : Int := if isRuleB rule = true then (if facB rise heat = true ∧ isAm v = true then 0 else 2) else 1
def faE (rise heat : Int) : Int := if facB rise heat = true then 0 else 2
def faQ (rise heat : Int) : Int := if facB rise heat = true then fac rise heat else 0
def atE (v rise heat rule : Int) : Int := if rdyE v rise heat rule = 0 then prodE v (fac rise heat) 10000000 rule else rdyE v rise heat rule
def atQ (v rise heat rule : Int) : Int := if rdyE v rise heat rule = 0 then prodQ v (fac rise heat) 10000000 rule else 0
def toE (v rise heat rule : Int) : Int := if rdyE v rise heat rule = 0 then prodE v 10000000 (fac rise heat) rule else rdyE v rise heat rule
def toQ (v rise heat rule : Int) : Int := if rdyE v rise heat rule = 0 then prodQ v 10000000 (fac rise heat) rule else 0

theorem rdy_ok {v rise heat rule : Int} (h : rdyE v rise heat rule = 0) : (1 ≤ rule ∧ rule ≤ 4) ∧ facB rise heat = true ∧ (0 ≤ v ∧ v ≤ 128849018880000) := by
  unfold rdyE at h
  split at h
  · rename_i h1
    split at h
    · rename_i h2
      exact ⟨(isRuleB_iff rule).1 h1, h2.1, (isAm_iff v).1 h2.2⟩
    · omega
  · omega
theorem rdy_of {v rise heat rule : Int} (hr : 1 ≤ rule ∧ rule ≤ 4) (hf : facB rise heat = true) (hv : 0 ≤ v ∧ v ≤ 128849018880000) : rdyE v rise heat rule = 0 := by
  unfold rdyE
  rw [if_pos ((isRuleB_iff rule).2 hr), if_pos ⟨hf, (isAm_iff v).2 hv⟩]
theorem rdy_cases (v rise heat rule : Int) : rdyE v rise heat rule = 0 ∨ rdyE v rise heat rule = 1 ∨ rdyE v rise heat rule = 2 := by
  unfold rdyE
  split
  · split
    · exact .inl rfl
    · exact .inr (.inr rfl)
  · exact .inr (.inl rfl)
theorem at_is {v rise heat rule : Int} (h : rdyE v rise heat rule = 0) :
    atE v rise heat rule = (if rq rule (v * fac rise heat) 10000000 ≤ 128849018880000 then 0 else 15) ∧ atQ v rise heat rule = (if rq rule (v * fac rise heat) 10000000 ≤ 128849018880000 then rq rule (v * fac rise heat) 10000000 else 0) := by
  obtain ⟨hr, hf, hv⟩ := rdy_ok h
  have hb := fac_bd _ _ hf
  unfold atE atQ
  rw [if_pos h, if_pos h]
  exact prod_is v (fac rise heat) 10000000 rule hr ((isAm_iff v).2 hv) ((isAm_iff _).2 ⟨by omega, by omega⟩) (by omega) (by omega)
theorem to_is {v rise heat rule : Int} (h : rdyE v rise heat rule = 0) :
    toE v rise heat rule = (if rq rule (v * 10000000) (fac rise heat) ≤ 128849018880000 then 0 else 15) ∧ toQ v rise heat rule = (if rq rule (v * 10000000) (fac rise heat) ≤ 128849018880000 then rq rule (v * 10000000) (fac rise heat) else 0) := by
  obtain ⟨hr, hf, hv⟩ := rdy_ok h
  have hb := fac_bd _ _ hf
  unfold toE toQ
  rw [if_pos h, if_pos h]
  exact prod_is v 10000000 (fac rise heat) rule hr ((isAm_iff v).2 hv) ((isAm_iff _).2 ⟨by omega, by omega⟩) (by omega) (by omega)
theorem at_zero {v rise heat rule : Int} (h : atE v rise heat rule = 0) : rdyE v rise heat rule = 0 ∧ atQ v rise heat rule = rq rule (v * fac rise heat) 10000000 ∧ rq rule (v * fac rise heat) 10000000 ≤ 128849018880000 ∧ 0 ≤ atQ v rise heat rule := by
  have hz : rdyE v rise heat rule = 0 := by
    rcases rdy_cases v rise heat rule with g | g | g
    · exact g
    · unfold atE at h; rw [g, if_neg (by omega)] at h; omega
    · unfold atE at h; rw [g, if_neg (by omega)] at h; omega
  obtain ⟨hr, hf, hv⟩ := rdy_ok hz
  have hb := fac_bd _ _ hf
  obtain ⟨g1, g2⟩ := at_is hz
  rw [h] at g1
  split at g1
  · rename_i hle
    rw [if_pos hle] at g2
    exact ⟨hz, g2, hle, by rw [g2]; exact rq_nonneg rule _ _ hr (by omega) (Int.mul_nonneg hv.1 (by omega))⟩
  · omega
theorem to_zero {v rise heat rule : Int} (h : toE v rise heat rule = 0) : rdyE v rise heat rule = 0 ∧ toQ v rise heat rule = rq rule (v * 10000000) (fac rise heat) ∧ rq rule (v * 10000000) (fac rise heat) ≤ 128849018880000 ∧ 0 ≤ toQ v rise heat rule := by
  have hz : rdyE v rise heat rule = 0 := by
    rcases rdy_cases v rise heat rule with g | g | g
    · exact g
    · unfold toE at h; rw [g, if_neg (by omega)] at h; omega
    · unfold toE at h; rw [g, if_neg (by omega)] at h; omega
  obtain ⟨hr, hf, hv⟩ := rdy_ok hz
  have hb := fac_bd _ _ hf
  obtain ⟨g1, g2⟩ := to_is hz
  rw [h] at g1
  split at g1
  · rename_i hle
    rw [if_pos hle] at g2
    exact ⟨hz, g2, hle, by rw [g2]; exact rq_nonneg rule _ _ hr (by omega) (Int.mul_nonneg hv.1 (by omega))⟩
  · omega
theorem at_none {v rise heat rule : Int} (h : atE v rise heat rule ≠ 0) : atQ v rise heat rule = 0 := by
  by_cases hz : rdyE v rise heat rule = 0
  · obtain ⟨g1, g2⟩ := at_is hz
    by_cases hle : rq rule (v * fac rise heat) 10000000 ≤ 128849018880000
    · rw [if_pos hle] at g1; exact absurd g1 h
    · rw [if_neg hle] at g2; exact g2
  · unfold atQ; rw [if_neg hz]
theorem to_none {v rise heat rule : Int} (h : toE v rise heat rule ≠ 0) : toQ v rise heat rule = 0 := by
  by_cases hz : rdyE v rise heat rule = 0
  · obtain ⟨g1, g2⟩ := to_is hz
    by_cases hle : rq rule (v * 10000000) (fac rise heat) ≤ 128849018880000
    · rw [if_pos hle] at g1; exact absurd g1 h
    · rw [if_neg hle] at g2; exact g2
  · unfold toQ; rw [if_neg hz]

/-- ThermalBack: to a heat, and back -/
theorem th_back1 (v rise heat rule : Int) (h : atE v rise heat rule = 0) :
    (toE (atQ v rise heat rule) rise heat rule = 0 ∧ -4 ≤ toQ (atQ v rise heat rule) rise heat rule - v ∧ toQ (atQ v rise heat rule) rise heat rule - v ≤ 4) ∨ toE (atQ v rise heat rule) rise heat rule = 15 := by
  obtain ⟨hz, e, hle, h0⟩ := at_zero h
  obtain ⟨hr, hf, hv⟩ := rdy_ok hz
  have hb := fac_bd _ _ hf
  have hz2 : rdyE (atQ v rise heat rule) rise heat rule = 0 := rdy_of hr hf ⟨h0, by rw [e]; exact hle⟩
  obtain ⟨g1, g2⟩ := to_is hz2
  rw [g1, g2]
  split
  · left
    have := back_at rule v (fac rise heat) hb.1 hb.2
    rw [e]
    exact ⟨rfl, this.1, this.2⟩
  · exact .inr rfl
theorem th_back2 (v rise heat rule : Int) (h : toE v rise heat rule = 0) :
    (atE (toQ v rise heat rule) rise heat rule = 0 ∧ -3 ≤ atQ (toQ v rise heat rule) rise heat rule - v ∧ atQ (toQ v rise heat rule) rise heat rule - v ≤ 3) ∨ atE (toQ v rise heat rule) rise heat rule = 15 := by
  obtain ⟨hz, e, hle, h0⟩ := to_zero h
  obtain ⟨hr, hf, hv⟩ := rdy_ok hz
  have hb := fac_bd _ _ hf
  have hz2 : rdyE (toQ v rise heat rule) rise heat rule = 0 := rdy_of hr hf ⟨h0, by rw [e]; exact hle⟩
  obtain ⟨g1, g2⟩ := at_is hz2
  rw [g1, g2]
  split
  · left
    have := back_to rule v (fac rise heat) hb.1 hb.2
    rw [e]
    exact ⟨rfl, this.1, this.2⟩
  · exact .inr rfl
theorem th_same (v rise heat rule : Int) (hh : heat = 200 ∨ rise = 0) (h : rdyE v rise heat rule = 0) :
    atE v rise heat rule = 0 ∧ toE v rise heat rule = 0 ∧ atQ v rise heat rule = v ∧ toQ v rise heat rule = v := by
  obtain ⟨hr, hf, hv⟩ := rdy_ok h
  obtain ⟨g1, g2⟩ := at_is h
  obtain ⟨k1, k2⟩ := to_is h
  rw [fac_whole _ _ hh, rq_exact rule v 10000000 (by omega), if_pos hv.2] at g1 g2 k1 k2
  exact ⟨g1, k1, g2, k2⟩

/-- ThermalOrder -/
theorem th_to_heat (v rise s t rule : Int) (hst : s ≤ t) (h1 : toE v rise s rule = 0) (h2 : toE v rise t rule = 0) : toQ v rise t rule ≤ toQ v rise s rule := by
  obtain ⟨hz, e, _⟩ := to_zero h1
  obtain ⟨hz2, e2, _⟩ := to_zero h2
  obtain ⟨hr, hf, hv⟩ := rdy_ok hz
  have hb := fac_bd _ _ hf
  rw [e, e2]
  exact to_order rule v v _ _ hr hv.1 (by omega) (by omega) (fac_mono rise s t ((facB_iff _ _).1 hf).1.1 hst)
theorem th_to_more (v u rise s rule : Int) (hvu : v ≤ u) (h1 : toE v rise s rule = 0) (h2 : toE u rise s rule = 0) : toQ v rise s rule ≤ toQ u rise s rule := by
  obtain ⟨hz, e, _⟩ := to_zero h1
  obtain ⟨hz2, e2, _⟩ := to_zero h2
  obtain ⟨hr, hf, hv⟩ := rdy_ok hz
  have hb := fac_bd _ _ hf
  rw [e, e2]
  exact to_order rule v u _ _ hr hv.1 hvu (by omega) (Int.le_refl _)
theorem th_at_heat (v rise s t rule : Int) (hst : s ≤ t) (h1 : atE v rise s rule = 0) (h2 : atE v rise t rule = 0) : atQ v rise s rule ≤ atQ v rise t rule := by
  obtain ⟨hz, e, _⟩ := at_zero h1
  obtain ⟨hz2, e2, _⟩ := at_zero h2
  obtain ⟨hr, hf, hv⟩ := rdy_ok hz
  have hb := fac_bd _ _ hf
  rw [e, e2]
  exact at_order rule v v _ _ hr hv.1 (by omega) (by omega) (fac_mono rise s t ((facB_iff _ _).1 hf).1.1 hst)
theorem th_at_more (v u rise s rule : Int) (hvu : v ≤ u) (h1 : atE v rise s rule = 0) (h2 : atE u rise s rule = 0) : atQ v rise s rule ≤ atQ u rise s rule := by
  obtain ⟨hz, e, _⟩ := at_zero h1
  obtain ⟨hz2, e2, _⟩ := at_zero h2
  obtain ⟨hr, hf, hv⟩ := rdy_ok hz
  have hb := fac_bd _ _ hf
  rw [e, e2]
  exact at_order rule v u _ _ hr hv.1 hvu (by omega) (Int.le_refl _)

/-! ### bounds -/
/-- the error of Between: v from vl to vh, the heat from hl to hh -/
def btE (vl vh hl hh rise : Int) : Int := if vh < vl ∨ hh < hl then 1 else if rdyE vl rise hl 2 ≠ 0 ∨ rdyE vh rise hh 2 ≠ 0 then 2 else if toE vl rise hh 1 ≠ 0 ∨ toE vh rise hl 2 ≠ 0 then 15 else 0
def btL (vl vh hl hh rise : Int) : Int := if btE vl vh hl hh rise = 0 then toQ vl rise hh 1 else 0
def btH (vl vh hl hh rise : Int) : Int := if btE vl vh hl hh rise = 0 then toQ vh rise hl 2 else 0
theorem bt_zero {vl vh hl hh rise : Int} (h : btE vl vh hl hh rise = 0) : vl ≤ vh ∧ hl ≤ hh ∧ toE vl rise hh 1 = 0 ∧ toE vh rise hl 2 = 0 ∧ btL vl vh hl hh rise = toQ vl rise hh 1 ∧ btH vl vh hl hh rise = toQ vh rise hl 2 := by
  unfold btL btH
  rw [if_pos h, if_pos h]
  unfold btE at h
  split at h
  · omega
  · split at h
    · omega
    · split at h
      · omega
      · rename_i g1 g2 g3
        exact ⟨by omega, by omega, Classical.byContradiction fun hc => g3 (.inl hc), Classical.byContradiction fun hc => g3 (.inr hc), rfl, rfl⟩
/-- ThermalContains -/
theorem th_within (vl vh hl hh rise v t rule : Int) (h : btE vl vh hl hh rise = 0) (hr : 1 ≤ rule ∧ rule ≤ 4) (h1 : vl ≤ v) (h2 : v ≤ vh) (h3 : hl ≤ t) (h4 : t ≤ hh) :
    toE v rise t rule = 0 ∧ btL vl vh hl hh rise ≤ toQ v rise t rule ∧ toQ v rise t rule ≤ btH vl vh hl hh rise := by
  obtain ⟨_, _, z1, z2, e1, e2⟩ := bt_zero h
  obtain ⟨a1, a2, a3, _⟩ := to_zero z1
  obtain ⟨b1, b2, b3, _⟩ := to_zero z2
  obtain ⟨_, hf1, hv1⟩ := rdy_ok a1
  obtain ⟨_, hf2, hv2⟩ := rdy_ok b1
  have f1 := (facB_iff _ _).1 hf1
  have f2 := (facB_iff _ _).1 hf2
  have hf : facB rise t = true := (facB_iff _ _).2 ⟨f1.1, by omega, by omega⟩
  have hz : rdyE v rise t rule = 0 := rdy_of hr hf ⟨by omega, by omega⟩
  have hb := fac_bd _ _ hf2
  obtain ⟨w1, w2⟩ := to_within rule v vl vh (fac rise t) (fac rise hl) (fac rise hh) hr hv1.1 h1 h2 (by omega) (fac_mono rise _ _ f1.1.1 h3) (fac_mono rise _ _ f1.1.1 h4)
  obtain ⟨g1, g2⟩ := to_is hz
  rw [if_pos (by omega)] at g1 g2
  rw [e1, e2, a2, b2, g2]
  exact ⟨g1, w1, w2⟩

/-! ### means -/
def heatB (t : Int) : Bool := decide (-400 ≤ t) && decide (t ≤ 600)
def meE (l : List Int) (rule : Int) : Int := if isRuleB rule = true then (if l.length = 0 then 9 else if 64 < l.length then 8 else if l.all heatB = true then 0 else 2) else 1
def meQ (l : List Int) (rule : Int) : Int := if meE l rule = 0 then quoQ l.sum l.length rule else 0
theorem me_zero {l : List Int} {rule : Int} (h : meE l rule = 0) : (1 ≤ rule ∧ rule ≤ 4) ∧ 1 ≤ l.length ∧ l.length ≤ 64 ∧ (∀ x ∈ l, -400 ≤ x ∧ x ≤ 600) := by
  unfold meE at h
  split at h
  · rename_i hr
    split at h
    · omega
    · split at h
      · omega
      · split at h
        · rename_i g
          rw [List.all_eq_true] at g
          refine ⟨(isRuleB_iff rule).1 hr, by omega, by omega, fun x hx => ?_⟩
          have := g x hx
          simpa [heatB] using this
        · omega
  · omega
theorem sum_between (l : List Int) (lo hi : Int) (h : ∀ x ∈ l, lo ≤ x ∧ x ≤ hi) : lo * l.length ≤ l.sum ∧ l.sum ≤ hi * l.length := by
  induction l with
  | nil => simp
  | cons a l ih =>
    have h1 := h a (.head _)
    have h2 := ih (fun x hx => h x (.tail _ hx))
    rw [List.sum_cons, List.length_cons, Int.natCast_add, Int.mul_add, Int.mul_add]
    simp only [Int.natCast_one, Int.mul_one]
    omega
theorem me_is {l : List Int} {rule : Int} (h : meE l rule = 0) : quoE l.sum l.length rule = 0 ∧ meQ l rule = rq rule l.sum l.length := by
  obtain ⟨hr, n1, n2, hx⟩ := me_zero h
  have hs := sum_between l (-400) 600 hx
  have hq : quoE l.sum l.length rule = 0 := by
    unfold quoE
    rw [if_pos ((isRuleB_iff rule).2 hr), if_pos ⟨by omega, by omega, (isDivB_iff _).2 ⟨by omega, by omega⟩⟩]
  refine ⟨hq, ?_⟩
  unfold meQ
  rw [if_pos h]
  unfold quoQ
  rw [if_pos hq]; rfl
theorem me_between {l : List Int} {rule lo hi : Int} (h : meE l rule = 0) (hx : ∀ x ∈ l, lo ≤ x ∧ x ≤ hi) : lo ≤ meQ l rule ∧ meQ l rule ≤ hi := by
  obtain ⟨hr, n1, n2, _⟩ := me_zero h
  have hs := sum_between l lo hi hx
  rw [(me_is h).2]
  exact rq_between rule _ _ lo hi hr (by omega) hs.1 hs.2
theorem me_reverse (l : List Int) (rule : Int) : meE l.reverse rule = meE l rule ∧ meQ l.reverse rule = meQ l rule := by
  have e : meE l.reverse rule = meE l rule := by unfold meE; rw [List.length_reverse, List.all_reverse]
  refine ⟨e, ?_⟩
  unfold meQ
  rw [e, List.length_reverse, List.sum_reverse]
end Go.Proofs.YtdpkochkpcjioabDoor

