/- Plain facts: profiles that are turned. -/
import Derived.Test.YtlofblpfohnooabPF
import Derived.Test.YtlofblpfohnooabPRA
namespace Go.Proofs.Ytlofblpfohnooab

theorem tu_at {l : List (Int × Int)} {j : Nat} (h : j < l.length) : gX (tuL l) j = gX l (l.length - 1) - gX l (l.length - 1 - j) ∧ gR (tuL l) j = gR l (l.length - 1 - j) := by
  have a := tu_get h
  have b := rev_get h
  rw [a.1, a.2, b.1, b.2]
  exact ⟨rfl, rfl⟩
theorem tu_right {l : List (Int × Int)} (h : RP l) : RP (tuL l) := by
  have hl := tuL_len l
  have n0 := h.n0
  have n1 := h.n1
  have bl := h.bx (l.length - 1) (by omega)
  refine ⟨by omega, by omega, fun i hi => ?_, fun i hi => ?_, ?_, fun i hi => ?_, fun i j hij hj hf => ?_⟩
  · rw [hl] at hi
    rw [(tu_at hi).1]
    have a := h.bx (l.length - 1 - i) (by omega)
    have b := gX_le h (i := l.length - 1 - i) (j := l.length - 1) (by omega) (by omega)
    omega
  · rw [hl] at hi
    rw [(tu_at hi).2]
    exact h.br _ (by omega)
  · rw [(tu_at (l := l) (j := 0) (by omega)).1]
    rw [show l.length - 1 - 0 = l.length - 1 by omega]
    omega
  · rw [hl] at hi
    rw [(tu_at (l := l) (j := i) (by omega)).1, (tu_at hi).1]
    have := gX_lt h (i := l.length - 1 - (i + 1)) (j := l.length - 1 - i) (by omega) (by omega)
    omega
  · rw [hl] at hj
    rw [(tu_at (l := l) (j := i) (by omega)).2, (tu_at (l := l) (j := i + 1) (by omega)).2] at hf
    rw [(tu_at (l := l) (j := j) (by omega)).2, (tu_at hj).2]
    by_cases g : gR l (l.length - 1 - j) < gR l (l.length - 1 - (j + 1))
    · have e1 : l.length - 1 - j = l.length - 1 - (j + 1) + 1 := by omega
      have e2 : l.length - 1 - i = l.length - 1 - (i + 1) + 1 := by omega
      rw [e1] at g
      have := h.ns (l.length - 1 - (j + 1)) (l.length - 1 - (i + 1)) (by omega) (by omega) g
      rw [e2] at hf
      omega
    · omega
theorem tu_last {l : List (Int × Int)} (h : RP l) : gX (tuL l) ((tuL l).length - 1) = gX l (l.length - 1) := by
  have hl := tuL_len l
  have n0 := h.n0
  rw [hl, (tu_at (l := l) (j := l.length - 1) (by omega)).1, show l.length - 1 - (l.length - 1) = 0 by omega, h.x0]
  omega
theorem tu_tu {l : List (Int × Int)} (h : RP l) : tuL (tuL l) = l := by
  have hl := tuL_len l
  have hl2 := tuL_len (tuL l)
  have n0 := h.n0
  refine sam_eq (by omega) fun j hj => ?_
  rw [hl2, hl] at hj
  have a := tu_at (l := tuL l) (j := j) (by omega)
  rw [tu_last h, hl] at a
  have b := tu_at (l := l) (j := l.length - 1 - j) (by omega)
  rw [show l.length - 1 - (l.length - 1 - j) = j by omega] at b
  rw [a.1, a.2, b.1, b.2, show gX l (l.length - 1) - (gX l (l.length - 1) - gX l j) = gX l j by omega]
  simp [samP]
theorem tu_rd {l : List (Int × Int)} (h : RP l) {x : Int} (x0 : 0 ≤ x) (x1 : x ≤ gX l (l.length - 1)) : rdL (tuL l) (gX l (l.length - 1) - x) = rdL l x ∧ rdH (tuL l) (gX l (l.length - 1) - x) = rdH l x := by
  have hl := tuL_len l
  have n0 := h.n0
  have ht := tu_right h
  have hi := pc_is n0 x1
  obtain ⟨i1, i2, _, _, _, g0, g1⟩ := pc_bd h x0 hi
  by_cases e : x = gX l (pc l x)
  · have r := rd_at h i2
    rw [← e] at r
    have t := tu_at (l := l) (j := l.length - 1 - pc l x) (by omega)
    rw [show l.length - 1 - (l.length - 1 - pc l x) = pc l x by omega, ← e] at t
    have rt := rd_at ht (j := l.length - 1 - pc l x) (by omega)
    rw [t.1, t.2] at rt
    omega
  · have a := tu_at (l := l) (j := l.length - pc l x - 1) (by omega)
    rw [show l.length - 1 - (l.length - pc l x - 1) = pc l x by omega] at a
    have b := tu_at (l := l) (j := l.length - pc l x) (by omega)
    rw [show l.length - 1 - (l.length - pc l x) = pc l x - 1 by omega] at b
    have e1 : pc (tuL l) (gX l (l.length - 1) - x) = l.length - pc l x := by
      refine pc_of ⟨by omega, by omega, by rw [b.1]; omega, fun j j1 j2 => ?_⟩
      have m := gX_le ht (i := j) (j := l.length - pc l x - 1) (by omega) (by omega)
      rw [a.1] at m
      omega
    have lt := ln_turn (gX l (pc l x - 1)) (gR l (pc l x - 1)) (gX l (pc l x)) (gR l (pc l x)) x (gX l (l.length - 1))
    unfold rdL rdH lnL lnH
    rw [e1, a.1, a.2, b.1, b.2, lt.1, lt.2]
    exact ⟨rfl, rfl⟩
theorem tu_none {l : List (Int × Int)} (h : ckE l ≠ 0) : tuR l = [] := by unfold tuR; rw [if_neg h]
theorem tu_some {l : List (Int × Int)} (h : ckE l = 0) : tuR l = tuL l ∧ ckE (tuL l) = 0 ∧ tuR (tuL l) = l ∧ lgQ (tuL l) = gX l (l.length - 1) := by
  have hR := (ckE_iff l).1 h
  have c := (ckE_iff (tuL l)).2 (tu_right hR)
  refine ⟨by unfold tuR; rw [if_pos h], c, by unfold tuR; rw [if_pos c, tu_tu hR], ?_⟩
  unfold lgQ
  rw [if_pos c, tu_last hR]
theorem tu_pl {l : List (Int × Int)} (h : ckE l = 0) {x : Int} (x0 : 0 ≤ x) (x1 : x ≤ gX l (l.length - 1)) : plE l x = 0 ∧ plE (tuL l) (gX l (l.length - 1) - x) = 0 := by
  have hR := (ckE_iff l).1 h
  refine ⟨plE_zero.2 ⟨hR, x0, x1⟩, plE_zero.2 ⟨tu_right hR, by omega, ?_⟩⟩
  rw [tu_last hR]; omega
end Go.Proofs.Ytlofblpfohnooab
