/- Package profile: what Inside returns. -/
import Derived.Test.YtlofblpfohnooabPPN
import Derived.Test.YtlofblpfohnooabPPK
namespace Go.Proofs.Ytlofblpfohnooab
open Go.RowKit

theorem rdL_bd {l : List (Int × Int)} {x : Int} (h : RP l) (x0 : 0 ≤ x) (x1 : x ≤ gX l (l.length - 1)) : 1 ≤ rdL l x ∧ rdL l x ≤ rdH l x ∧ rdH l x ≤ 100000 := by
  have hi := pc_is h.n0 x1
  obtain ⟨_, _, ⟨b0, b1, b2⟩, ⟨c0, c1⟩, ⟨d0, d1⟩, g0, g1⟩ := pc_bd h x0 hi
  have bt := ln_between (p := gR l (pc l x - 1)) (q := gR l (pc l x)) b1 g0 g1
  have fc := fl_cl (lnN (gX l (pc l x - 1)) (gR l (pc l x - 1)) (gX l (pc l x)) (gR l (pc l x)) x) (gX l (pc l x) - gX l (pc l x - 1)) (by omega)
  unfold rdL rdH lnL lnH
  omega
theorem in_any (v : Value) (l : List (Int × Int)) (s h : Int) (w : World) (hv : Pts w v l) (hs : -9223372036854775808 ≤ s ∧ s ≤ 9223372036854775807) (hh : -9223372036854775808 ≤ h ∧ h ≤ 9223372036854775807) :
    Calls Try.prog 26 #[v, .int .i64 s, .int .i64 h] w fun e w' => ∃ u, e = .returned (.tuple #[u, .int .i64 (inE l s h)]) ∧ Pts w' u (inR l s h) ∧ Below w.heap.size w w' := by
  have HC : Hid (∀ W, Below w.heap.size w W → _) := fun W hW => ck_any v l W (hv.below hW)
  have hvs := hv
  obtain ⟨ad, cap, rfl, hl, hq⟩ := hvs
  by_cases g0 : ckE l = 0
  · have hR := (ckE_iff l).1 g0
    have n0 := hR.n0
    have n1 := hR.n1
    rw [g0] at HC
    have L1 : Hid (∀ W, _) := fun W => isLen_any s W
    have L2 : Hid (∀ W, _) := fun W => isLen_any h W
    by_cases g1 : (lenB s && lenB h) = true
    · have gs : lenB s = true ∧ lenB h = true := by simpa using g1
      obtain ⟨s0, s1⟩ := (lenB_iff s).1 gs.1
      obtain ⟨h0, h1⟩ := (lenB_iff h).1 gs.2
      rw [gs.1] at L1
      rw [gs.2] at L2
      have e1 : inE l s h = (if inEnd l h ≤ h then 5 else ckE (inW l s h)) := by unfold inE; rw [if_pos g0, if_pos g1]
      have hX := hR.bx (l.length - 1) (by omega)
      have er : inR l s h = if inE l s h = 0 then inW l s h else [] := rfl
      rcases hq with hq | ⟨b, off, rfl, hb, hc⟩
      · omega
      · rw [er]
        refine In_go b off l.length cap l s h (gX l (l.length - 1)) (inEnd l h) (inE l s h) w n1 hb hX ⟨h0, h1⟩ rfl ?_ (Lib.hid hc) HC L1 L2 (Lib.hid fun W hW => end_of (hv.below hW) g0) (Lib.hid fun pi x raw W hpi hx hr hI => ?_)
        · by_cases g2 : inEnd l h ≤ h
          · exact .inl ⟨g2, by rw [e1, if_pos g2]⟩
          · exact .inr ⟨g2, by rw [e1, if_neg g2]; rfl⟩
        · have hi := pc_is n0 hx.2
          have hL := rdL_bd hR hx.1 hx.2
          exact put_any w.heap.size pi hpi w _ l s h raw x _ _ _ _ (rdL l x) (rdH l x) (pc l x) W (Lib.hid hI) hr ⟨hx.1, by omega⟩ ⟨h0, h1⟩ ⟨s0, s1⟩ ⟨by omega, by omega⟩ (Lib.hid fun W hW => find_of (hv.below hW) hR x _ hi) (Lib.hid fun W => at_of hR hx.1 hi W)
    · have e1 : inE l s h = 2 := by unfold inE; rw [if_pos g0, if_neg g1]
      have er : inR l s h = [] := by unfold inR; rw [e1]; rfl
      rw [e1, er]
      refine (In_range ad l.length cap s h (lenB s) (lenB h) w ?_ HC L1 L2).mono fun _ w' g => ⟨_, g.1, pts_nil w', g.2⟩
      cases hs : lenB s with
      | false => exact .inl rfl
      | true =>
        right
        refine ⟨rfl, ?_⟩
        cases hh : lenB h with
        | false => rfl
        | true => rw [hs, hh] at g1; exact absurd rfl g1
  · have e1 : inE l s h = 1 := by unfold inE; rw [if_neg g0]
    have er : inR l s h = [] := by unfold inR; rw [e1]; rfl
    rw [e1, er]
    exact (In_arg ad l.length cap s h _ w (by simpa using g0) (by simpa using g0) HC).mono fun _ w' g => ⟨_, g.1, pts_nil w', g.2⟩
end Go.Proofs.Ytlofblpfohnooab
