/- Plain facts of inner profiles: they lie below the outer ones. No program stands in this text. -/
import Derived.Test.YtlofblpfohnooabPF
namespace Go.Proofs.Ytlofblpfohnooab

/-- the places of an inner profile, counted outside -/
def zL (l : List (Int × Int)) (h : Int) : List Int := [h] ++ plK l h (inEnd l h) l.length ++ [inEnd l h]
theorem inW_map (l : List (Int × Int)) (s h : Int) : inW l s h = (zL l h).map (inPt l s h) := by
  unfold inW zL; simp
theorem plK_mem (l : List (Int × Int)) (h e : Int) (k : Nat) : ∀ j, j < k → h < gX l j → gX l j < e → gX l j ∈ plK l h e k := by
  induction k with
  | zero => intro j hj; omega
  | succ k ih =>
    intro j hj h1 h2
    unfold plK
    by_cases g : j = k
    · subst g
      rw [if_pos ⟨h1, h2⟩]; simp
    · have := ih j (by omega) h1 h2
      split
      · rw [List.mem_append]; exact .inl this
      · exact this
/-- the place at an index -/
def zA (l : List (Int × Int)) (h : Int) (j : Nat) : Int := (zL l h).getD j 0
theorem in_len (l : List (Int × Int)) (s h : Int) : (inW l s h).length = (zL l h).length := by rw [inW_map, List.length_map]
theorem zL_len (l : List (Int × Int)) (h : Int) : (zL l h).length = (plK l h (inEnd l h) l.length).length + 2 := by unfold zL; simp
theorem in_at (l : List (Int × Int)) (s h : Int) {j : Nat} (hj : j < (zL l h).length) : gX (inW l s h) j = zA l h j - h ∧ gR (inW l s h) j = rdL l (zA l h j) - s := by
  unfold gX gR zA
  rw [inW_map]
  simp only [List.getD_eq_getElem?_getD, List.getElem?_map, List.getElem?_eq_getElem hj, Option.map_some, Option.getD_some]
  exact ⟨rfl, rfl⟩
theorem zA_zero (l : List (Int × Int)) (h : Int) : zA l h 0 = h := by unfold zA zL; simp
theorem zA_last (l : List (Int × Int)) (h : Int) : zA l h ((zL l h).length - 1) = inEnd l h := by
  unfold zA
  have hl := zL_len l h
  rw [List.getD_eq_getElem?_getD]
  unfold zL at *
  rw [List.getElem?_append_right (by simp at *)]
  simp
theorem zA_of {l : List (Int × Int)} {h y : Int} (hy : y ∈ zL l h) : ∃ j, j < (zL l h).length ∧ zA l h j = y := by
  obtain ⟨j, hj, e⟩ := List.getElem_of_mem hy
  refine ⟨j, hj, ?_⟩
  unfold zA
  rw [List.getD_eq_getElem?_getD, List.getElem?_eq_getElem hj, Option.getD_some, e]
theorem inE_zero {l : List (Int × Int)} {s h : Int} (e : inE l s h = 0) : RP l ∧ (0 ≤ s ∧ s ≤ 100000) ∧ (0 ≤ h ∧ h ≤ 100000) ∧ h < inEnd l h ∧ RP (inW l s h) := by
  unfold inE at e
  split at e
  · rename_i g0
    split at e
    · rename_i g1
      split at e
      · omega
      · rename_i g2
        have gs : lenB s = true ∧ lenB h = true := by simpa using g1
        exact ⟨(ckE_iff l).1 g0, (lenB_iff s).1 gs.1, (lenB_iff h).1 gs.2, by omega, (ckE_iff _).1 e⟩
    · omega
  · omega
theorem in_last {l : List (Int × Int)} {s h : Int} (e : inE l s h = 0) : gX (inW l s h) ((inW l s h).length - 1) = gX l (l.length - 1) - 2 * h := by
  have hl := in_len l s h
  have z2 := zL_len l h
  rw [hl, (in_at l s h (j := (zL l h).length - 1) (by omega)).1, zA_last]
  unfold inEnd
  omega
/-- between two places of an inner profile that follow one another there is no point of the outer one -/
theorem z_gap {l : List (Int × Int)} {s h : Int} (e : inE l s h = 0) {i k : Nat} (i1 : 1 ≤ i) (i2 : i < (zL l h).length) (hk : k < l.length) : gX l k ≤ zA l h (i - 1) ∨ zA l h i ≤ gX l k := by
  obtain ⟨R, _, _, hh, Rw⟩ := inE_zero e
  have hl := in_len l s h
  have mono : ∀ a b, a ≤ b → b < (zL l h).length → zA l h a ≤ zA l h b := fun a b hab hb => by
    have := gX_le Rw hab (by omega)
    rw [(in_at l s h (j := a) (by omega)).1, (in_at l s h hb).1] at this
    omega
  have z0 := mono 0 (i - 1) (by omega) (by omega)
  rw [zA_zero] at z0
  have z1 := mono i ((zL l h).length - 1) (by omega) (by omega)
  rw [zA_last] at z1
  by_cases g : h < gX l k ∧ gX l k < inEnd l h
  · have hm : gX l k ∈ zL l h := by
      have := plK_mem l h (inEnd l h) l.length k hk g.1 g.2
      unfold zL
      simp only [List.mem_append]
      exact .inl (.inr this)
    obtain ⟨j, hj, ej⟩ := zA_of hm
    rcases Nat.lt_or_ge j i with q | q
    · left; have := mono j (i - 1) (by omega) (by omega); omega
    · right; have := mono i j q hj; omega
  · by_cases g1 : h < gX l k
    · right; omega
    · left; omega
theorem in_rd {l : List (Int × Int)} {s h x : Int} (e : inE l s h = 0) (x0 : 0 ≤ x) (x1 : x ≤ gX l (l.length - 1) - 2 * h) :
    rdL (inW l s h) x ≤ rdL l (x + h) - s ∧ rdH (inW l s h) x ≤ rdH l (x + h) - s := by
  obtain ⟨R, hs, hh, he, Rw⟩ := inE_zero e
  have hl := in_len l s h
  have z2 := zL_len l h
  have lst := in_last e
  have gap := fun i k a b c => z_gap e (i := i) (k := k) a b c
  by_cases hx : x = 0
  · subst hx
    have r := rd_at Rw (j := 0) (by omega)
    have p := in_at l s h (j := 0) (by omega)
    rw [zA_zero] at p
    rw [p.1, p.2, Int.sub_self] at r
    have b := rd_bd R (x := h) (by omega) (by omega)
    rw [Int.zero_add]
    omega
  · have hi := pc_is Rw.n0 (show x ≤ gX (inW l s h) ((inW l s h).length - 1) by omega)
    obtain ⟨i1, i2, _, _, _, g0, g1⟩ := pc_bd Rw x0 hi
    have g2 : gX (inW l s h) (pc (inW l s h) x - 1) < x := by
      by_cases q : pc (inW l s h) x = 1
      · rw [q]
        have := Rw.x0
        show gX (inW l s h) 0 < x
        omega
      · exact hi.h4 _ (by omega) (by omega)
    generalize hI : pc (inW l s h) x = i at *
    have pa := in_at l s h (j := i - 1) (by omega)
    have pb := in_at l s h (j := i) (by omega)
    have cd := gX_lt Rw (i := i - 1) (j := i) (by omega) i2
    have lz := gX_le Rw (i := i) (j := (inW l s h).length - 1) (by omega) (by omega)
    rw [lst] at lz
    rw [pa.1, pb.1] at cd
    rw [pb.1] at lz g1
    rw [pa.1] at g0 g2
    generalize hc : zA l h (i - 1) = c at *
    generalize hd : zA l h i = d at *
    have c0 : h ≤ c := by
      have := gX_le Rw (i := 0) (j := i - 1) (by omega) (by omega)
      rw [Rw.x0, pa.1] at this
      omega
    -- the outer piece
    have y1 : x + h ≤ gX l (l.length - 1) := by omega
    have hj := pc_is R.n0 y1
    obtain ⟨j1, j2, ⟨a0, ab, b1⟩, _, _, f0, f1⟩ := pc_bd R (show 0 ≤ x + h by omega) hj
    have f2 : gX l (pc l (x + h) - 1) < x + h := by
      by_cases q : pc l (x + h) = 1
      · rw [q]
        have := R.x0
        show gX l 0 < x + h
        omega
      · exact hj.h4 _ (by omega) (by omega)
    have h4 := hj.h4
    generalize hJ : pc l (x + h) = j at *
    have ga := gap i (j - 1) i1 (by omega) (by omega)
    have gb := gap i j i1 (by omega) (by omega)
    rw [hc, hd] at ga gb
    have ac : gX l (j - 1) ≤ c := by omega
    have db : d ≤ gX l j := by omega
    -- the radius of the outer profile at both places
    have kd : rdL l d * (gX l j - gX l (j - 1)) ≤ lnN (gX l (j - 1)) (gR l (j - 1)) (gX l j) (gR l j) d := by
      have e1 : pc l d = j := pc_of ⟨j1, j2, db, fun k k1 k2 => by
        have := gX_le R (i := k) (j := j - 1) (by omega) (by omega)
        omega⟩
      unfold rdL lnL
      rw [e1]
      exact Int.ediv_mul_le _ (by omega)
    have kc : rdL l c * (gX l j - gX l (j - 1)) ≤ lnN (gX l (j - 1)) (gR l (j - 1)) (gX l j) (gR l j) c := by
      by_cases q : gX l (j - 1) = c
      · have r := rd_at R (j := j - 1) (by omega)
        rw [← q, r.1, lnN_left]
        exact Int.le_refl _
      · have e1 : pc l c = j := pc_of ⟨j1, j2, by omega, fun k k1 k2 => by
          have := gX_le R (i := k) (j := j - 1) (by omega) (by omega)
          omega⟩
        unfold rdL lnL
        rw [e1]
        exact Int.ediv_mul_le _ (by omega)
    have B := ln_below (u := rdL l c - s) (v := rdL l d - s) (t := s) ab (show c < d by omega) (show c ≤ x + h by omega) (show x + h ≤ d by omega) (by rw [Int.sub_add_cancel]; exact kc) (by rw [Int.sub_add_cancel]; exact kd)
    have sh : lnN (c - h) (rdL l c - s) (d - h) (rdL l d - s) x = lnN c (rdL l c - s) d (rdL l d - s) (x + h) ∧ (d - h) - (c - h) = d - c := by
      refine ⟨?_, by omega⟩
      unfold lnN; grind
    have eL : rdL (inW l s h) x = lnN c (rdL l c - s) d (rdL l d - s) (x + h) / (d - c) := by
      show lnL (gX (inW l s h) (pc (inW l s h) x - 1)) (gR (inW l s h) (pc (inW l s h) x - 1)) (gX (inW l s h) (pc (inW l s h) x)) (gR (inW l s h) (pc (inW l s h) x)) x = _
      rw [hI, pa.1, pa.2, pb.1, pb.2]
      unfold lnL
      rw [sh.1, sh.2]
    have eH : rdH (inW l s h) x = cdv (lnN c (rdL l c - s) d (rdL l d - s) (x + h)) (d - c) := by
      show lnH (gX (inW l s h) (pc (inW l s h) x - 1)) (gR (inW l s h) (pc (inW l s h) x - 1)) (gX (inW l s h) (pc (inW l s h) x)) (gR (inW l s h) (pc (inW l s h) x)) x = _
      rw [hI, pa.1, pa.2, pb.1, pb.2]
      unfold lnH
      rw [sh.1, sh.2]
    have oL : rdL l (x + h) = lnN (gX l (j - 1)) (gR l (j - 1)) (gX l j) (gR l j) (x + h) / (gX l j - gX l (j - 1)) := by
      show lnL (gX l (pc l (x + h) - 1)) (gR l (pc l (x + h) - 1)) (gX l (pc l (x + h))) (gR l (pc l (x + h))) (x + h) = _
      rw [hJ]; rfl
    have oH : rdH l (x + h) = cdv (lnN (gX l (j - 1)) (gR l (j - 1)) (gX l j) (gR l j) (x + h)) (gX l j - gX l (j - 1)) := by
      show lnH (gX l (pc l (x + h) - 1)) (gR l (pc l (x + h) - 1)) (gX l (pc l (x + h))) (gR l (pc l (x + h))) (x + h) = _
      rw [hJ]; rfl
    rw [eL, eH, oL, oH]
    exact B
end Go.Proofs.Ytlofblpfohnooab
