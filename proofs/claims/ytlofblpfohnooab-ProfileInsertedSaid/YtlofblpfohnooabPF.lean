/- Plain facts of the statements of layer 8. -/
import Derived.Test.YtlofblpfohnooabPPO
namespace Go.Proofs.Ytlofblpfohnooab

theorem gX_lt {l : List (Int × Int)} (h : RP l) {i j : Nat} (hij : i < j) (hj : j < l.length) : gX l i < gX l j := by
  induction j with
  | zero => omega
  | succ j ih =>
    have a := h.asc j hj
    by_cases e : i = j
    · rw [e]; exact a
    · have := ih (by omega) (by omega); omega
theorem gX_le {l : List (Int × Int)} (h : RP l) {i j : Nat} (hij : i ≤ j) (hj : j < l.length) : gX l i ≤ gX l j := by
  by_cases e : i = j
  · rw [e]; exact Int.le_refl _
  · have := gX_lt h (i := i) (j := j) (by omega) hj; omega
/-- the radius at a point -/
theorem rd_at {l : List (Int × Int)} (h : RP l) {j : Nat} (hj : j < l.length) : rdL l (gX l j) = gR l j ∧ rdH l (gX l j) = gR l j := by
  have n0 := h.n0
  by_cases e : j = 0
  · subst e
    have e1 : pc l (gX l 0) = 1 := pc_of ⟨by omega, by omega, gX_le h (by omega) (by omega), fun k k1 k2 => by omega⟩
    have a : gX l 0 < gX l 1 := h.asc 0 (by omega)
    unfold rdL rdH lnL lnH
    rw [e1]
    show lnN (gX l 0) (gR l 0) (gX l 1) (gR l 1) (gX l 0) / (gX l 1 - gX l 0) = gR l 0 ∧ cdv (lnN (gX l 0) (gR l 0) (gX l 1) (gR l 1) (gX l 0)) (gX l 1 - gX l 0) = gR l 0
    rw [lnN_left]
    exact ⟨fl_int _ _ (by omega), cl_int _ _ (by omega)⟩
  · have e1 : pc l (gX l j) = j := pc_of ⟨by omega, hj, Int.le_refl _, fun k k1 k2 => gX_lt h k2 hj⟩
    have a := gX_lt h (i := j - 1) (j := j) (by omega) hj
    unfold rdL rdH lnL lnH
    rw [e1, lnN_right]
    exact ⟨fl_int _ _ (by omega), cl_int _ _ (by omega)⟩
/-- bounds of the radius by the piece's ends -/
theorem rd_bd {l : List (Int × Int)} {x : Int} (h : RP l) (x0 : 0 ≤ x) (x1 : x ≤ gX l (l.length - 1)) :
    min (gR l (pc l x - 1)) (gR l (pc l x)) ≤ rdL l x ∧ rdL l x ≤ rdH l x ∧ rdH l x ≤ rdL l x + 1 ∧ rdH l x ≤ max (gR l (pc l x - 1)) (gR l (pc l x)) := by
  have hi := pc_is h.n0 x1
  obtain ⟨_, _, ⟨b0, b1, b2⟩, ⟨c0, c1⟩, ⟨d0, d1⟩, g0, g1⟩ := pc_bd h x0 hi
  have bt := ln_between (p := gR l (pc l x - 1)) (q := gR l (pc l x)) b1 g0 g1
  have fc := fl_cl (lnN (gX l (pc l x - 1)) (gR l (pc l x - 1)) (gX l (pc l x)) (gR l (pc l x)) x) (gX l (pc l x) - gX l (pc l x - 1)) (by omega)
  unfold rdL rdH lnL lnH
  omega
theorem pc_mono {l : List (Int × Int)} {u v : Int} (h : RP l) (uv : u ≤ v) (x1 : v ≤ gX l (l.length - 1)) : pc l u ≤ pc l v := by
  have a := pc_is h.n0 (show u ≤ gX l (l.length - 1) by omega)
  have b := pc_is h.n0 x1
  rcases Nat.lt_or_ge (pc l v) (pc l u) with g | g
  · have := a.h4 _ b.h1 g
    have := b.h3
    omega
  · exact g
theorem chain_up {l : List (Int × Int)} {i : Nat} (hup : ∀ j, j < i → gR l j ≤ gR l (j + 1)) {s t : Nat} (hst : s ≤ t) (ht : t ≤ i) : gR l s ≤ gR l t := by
  induction t with
  | zero => obtain rfl : s = 0 := by omega
            exact Int.le_refl _
  | succ t ih =>
    by_cases e : s = t + 1
    · rw [e]; exact Int.le_refl _
    · have := ih (by omega) (by omega)
      have := hup t (by omega)
      omega
theorem chain_dn {l : List (Int × Int)} {i : Nat} (hdn : ∀ j, i ≤ j → j + 1 < l.length → gR l (j + 1) ≤ gR l j) {s t : Nat} (hs : i ≤ s) (hst : s ≤ t) (ht : t < l.length) : gR l t ≤ gR l s := by
  induction t with
  | zero => obtain rfl : s = 0 := by omega
            exact Int.le_refl _
  | succ t ih =>
    by_cases e : s = t + 1
    · rw [e]; exact Int.le_refl _
    · have := ih (by omega) (by omega)
      have := hdn t (by omega) ht
      omega
theorem rd_up {l : List (Int × Int)} {i : Nat} {u v : Int} (h : RP l) (hi : i < l.length) (hup : ∀ j, j < i → gR l j ≤ gR l (j + 1)) (u0 : 0 ≤ u) (uv : u ≤ v) (v1 : v ≤ gX l i) : rdL l u ≤ rdL l v ∧ rdH l u ≤ rdH l v := by
  have n0 := h.n0
  have hm := gX_le h (i := i) (j := l.length - 1) (by omega) (by omega)
  by_cases e0 : i = 0
  · subst e0
    have := h.x0
    obtain rfl : u = v := by omega
    exact ⟨Int.le_refl _, Int.le_refl _⟩
  · have b := pc_is n0 (show v ≤ gX l (l.length - 1) by omega)
    have ti : pc l v ≤ i := by
      rcases Nat.lt_or_ge i (pc l v) with g | g
      · have := b.h4 i (by omega) g; omega
      · exact g
    have st := pc_mono h uv (show v ≤ gX l (l.length - 1) by omega)
    have a := pc_is n0 (show u ≤ gX l (l.length - 1) by omega)
    have s1 := a.h1
    have ru := rd_bd h u0 (show u ≤ gX l (l.length - 1) by omega)
    have rv := rd_bd h (show 0 ≤ v by omega) (show v ≤ gX l (l.length - 1) by omega)
    by_cases e : pc l u = pc l v
    · have q := hup (pc l v - 1) (by omega)
      rw [show pc l v - 1 + 1 = pc l v by omega] at q
      have d := gX_lt h (i := pc l v - 1) (j := pc l v) (by omega) (by omega)
      have L := lnN_up (a := gX l (pc l v - 1)) (b := gX l (pc l v)) q uv
      unfold rdL rdH lnL lnH cdv
      rw [e]
      exact ⟨Int.ediv_le_ediv (by omega) L, Int.ediv_le_ediv (by omega) (by omega)⟩
    · have c1 := chain_up hup (s := pc l u - 1) (t := pc l u) (by omega) (by omega)
      have c2 := chain_up hup (s := pc l u) (t := pc l v - 1) (by omega) (by omega)
      have c3 := chain_up hup (s := pc l v - 1) (t := pc l v) (by omega) (by omega)
      omega
theorem rd_dn {l : List (Int × Int)} {i : Nat} {u v : Int} (h : RP l) (hi : i < l.length) (hdn : ∀ j, i ≤ j → j + 1 < l.length → gR l (j + 1) ≤ gR l j) (hmx : ∀ j, j < l.length → gR l j ≤ gR l i) (u0 : gX l i ≤ u) (uv : u ≤ v) (v1 : v ≤ gX l (l.length - 1)) : rdL l v ≤ rdL l u ∧ rdH l v ≤ rdH l u := by
  have n0 := h.n0
  have i0 := (h.bx i hi).1
  have rv := rd_bd h (show 0 ≤ v by omega) v1
  have b := pc_is n0 v1
  have bl := b.h2
  have m1 := hmx (pc l v) bl
  have m2 := hmx (pc l v - 1) (by omega)
  by_cases e0 : u = gX l i
  · have r := rd_at h hi
    rw [← e0] at r
    omega
  · have a := pc_is n0 (show u ≤ gX l (l.length - 1) by omega)
    have s1 := a.h1
    have al := a.h2
    have si : i < pc l u := by
      rcases Nat.lt_or_ge i (pc l u) with g | g
      · exact g
      · have := gX_le h g hi
        have := a.h3
        omega
    have st := pc_mono h uv v1
    have ru := rd_bd h (show 0 ≤ u by omega) (show u ≤ gX l (l.length - 1) by omega)
    by_cases e : pc l u = pc l v
    · have q := hdn (pc l v - 1) (by omega) (by omega)
      rw [show pc l v - 1 + 1 = pc l v by omega] at q
      have d := gX_lt h (i := pc l v - 1) (j := pc l v) (by omega) (by omega)
      have L := lnN_down (a := gX l (pc l v - 1)) (b := gX l (pc l v)) q uv
      unfold rdL rdH lnL lnH cdv
      rw [e]
      exact ⟨Int.ediv_le_ediv (by omega) L, Int.ediv_le_ediv (by omega) (by omega)⟩
    · have c1 := chain_dn hdn (s := pc l u - 1) (t := pc l u) (by omega) (by omega) (by omega)
      have c2 := chain_dn hdn (s := pc l u) (t := pc l v - 1) (by omega) (by omega) (by omega)
      have c3 := chain_dn hdn (s := pc l v - 1) (t := pc l v) (by omega) (by omega) (by omega)
      omega
/-- up to the bung the radii do not fall, and behind it they do not rise -/
theorem bg_sides {l : List (Int × Int)} (h : RP l) : bg l l.length < l.length ∧ (∀ j, j < l.length → gR l j ≤ gR l (bg l l.length)) ∧ (∀ j, j < bg l l.length → gR l j ≤ gR l (j + 1)) ∧ (∀ j, bg l l.length ≤ j → j + 1 < l.length → gR l (j + 1) ≤ gR l j) := by
  have n0 := h.n0
  have hl : bg l l.length < l.length := by have := bg_lt l l.length; omega
  have hm := bg_max l l.length
  refine ⟨hl, hm, fun j hj => ?_, fun j hj hj2 => ?_⟩
  · by_cases g : gR l (j + 1) < gR l j
    · have : ∀ t, j + 1 ≤ t → t < l.length → gR l t ≤ gR l (j + 1) := fun t h1 h2 => chain_dn (i := j) (fun k k1 k2 => h.ns j k k1 k2 g) (by omega) h1 h2
      have := this _ (by omega) hl
      have := hm j (by omega)
      omega
    · omega
  · by_cases g : gR l j < gR l (j + 1)
    · have hup : ∀ k, k < j → gR l k ≤ gR l (k + 1) := fun k hk => by
        by_cases g2 : gR l (k + 1) < gR l k
        · have := h.ns k j (by omega) hj2 g2; omega
        · omega
      have := chain_up hup (s := bg l l.length) (t := j) hj (Nat.le_refl _)
      have := hm (j + 1) hj2
      omega
    · omega
theorem least_end {l : List (Int × Int)} (h : RP l) {j : Nat} (hj : j < l.length) : min (gR l 0) (gR l (l.length - 1)) ≤ gR l j := by
  obtain ⟨b1, b2, b3, b4⟩ := bg_sides h
  by_cases g : j ≤ bg l l.length
  · have := chain_up b3 (s := 0) (t := j) (by omega) g
    omega
  · have := chain_dn b4 (s := j) (t := l.length - 1) (by omega) (by omega) (by omega)
    omega
theorem bulge_facts {l : List (Int × Int)} {u v : Int} (h : RP l) (u0 : 0 ≤ u) (uv : u ≤ v) (v1 : v ≤ gX l (l.length - 1)) :
    rdL l u ≤ rdH l u ∧ rdH l u - rdL l u ≤ 1 ∧ rdH l u ≤ gR l (bg l l.length) ∧ min (gR l 0) (gR l (l.length - 1)) ≤ rdL l u ∧ (v ≤ gX l (bg l l.length) → rdL l u ≤ rdL l v ∧ rdH l u ≤ rdH l v) ∧ (gX l (bg l l.length) ≤ u → rdL l v ≤ rdL l u ∧ rdH l v ≤ rdH l u) := by
  obtain ⟨b1, b2, b3, b4⟩ := bg_sides h
  have ru := rd_bd h u0 (show u ≤ gX l (l.length - 1) by omega)
  have a := pc_is h.n0 (show u ≤ gX l (l.length - 1) by omega)
  have s1 := a.h1
  have s2 := a.h2
  have m1 := b2 (pc l u) s2
  have m2 := b2 (pc l u - 1) (by omega)
  have e1 := least_end h s2
  have e2 := least_end h (j := pc l u - 1) (by omega)
  refine ⟨ru.2.1, by omega, by omega, by omega, fun g => rd_up h b1 b3 u0 uv g, fun g => rd_dn h b1 b4 b2 g uv v1⟩
theorem at_none {l : List (Int × Int)} {x : Int} (h : plE l x ≠ 0) : atL l x = 0 ∧ atH l x = 0 := by
  unfold atL atH; rw [if_neg h, if_neg h]; exact ⟨rfl, rfl⟩
theorem at_some {l : List (Int × Int)} {x : Int} (h : plE l x = 0) : atL l x = rdL l x ∧ atH l x = rdH l x := by
  unfold atL atH; rw [if_pos h, if_pos h]; exact ⟨rfl, rfl⟩
end Go.Proofs.Ytlofblpfohnooab
