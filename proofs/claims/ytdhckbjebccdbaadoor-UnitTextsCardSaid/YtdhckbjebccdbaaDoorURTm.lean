/- Plain facts on the reference's texts of layer 3. -/
import Derived.Test.YtdhckbjebccdbaaDoorUBk
namespace Go.Proofs.YtdhckbjebccdbaaDoor

/-- the places of a rest -/
def fr : Nat → Int → List UInt8
  | 0, _ => []
  | e + 1, r => if r = 0 then [] else dg (r / 10 ^ e) :: fr e (r % 10 ^ e)
theorem fr_zero (e : Nat) : fr e 0 = [] := by
  cases e with
  | zero => rfl
  | succ e => unfold fr; rw [if_pos rfl]
theorem ten_pos (e : Nat) : (1 : Int) ≤ 10 ^ e := pow1 e
theorem val_one (n : Int) : val [dg n] = n % 10 := by
  have := dg_val n
  simp only [val, List.foldl_cons, List.foldl_nil]
  omega
theorem fr_facts (e : Nat) : ∀ r : Int, 0 ≤ r → r < 10 ^ e → (fr e r).length ≤ e ∧ dgs (fr e r) = true ∧ (fr e r).getLast? ≠ some 48 ∧ val (fr e r) * 10 ^ (e - (fr e r).length) = r := by
  induction e with
  | zero =>
    intro r h0 h1
    have : r = 0 := by simp at h1; omega
    subst this
    exact ⟨by simp [fr], rfl, by simp [fr], by simp [fr, val]⟩
  | succ e ih =>
    intro r h0 h1
    by_cases hr : r = 0
    · subst hr
      rw [fr_zero]
      exact ⟨by simp, rfl, by simp, by simp [val]⟩
    · have hp := ten_pos e
      have hdiv := Int.mul_ediv_add_emod r (10 ^ e)
      have m0 : 0 ≤ r % 10 ^ e := Int.emod_nonneg _ (by omega)
      have m1 : r % 10 ^ e < 10 ^ e := Int.emod_lt_of_pos _ (by omega)
      have q0 : 0 ≤ r / 10 ^ e := Int.ediv_nonneg h0 (by omega)
      have q9 : r / 10 ^ e < 10 := Int.ediv_lt_of_lt_mul (by omega) (by rw [Int.pow_succ] at h1; rw [Int.mul_comm]; exact h1)
      obtain ⟨g1, g2, g3, g4⟩ := ih (r % 10 ^ e) m0 m1
      have hf : fr (e + 1) r = dg (r / 10 ^ e) :: fr e (r % 10 ^ e) := by rw [fr, if_neg hr]
      rw [hf]
      generalize hP : fr e (r % 10 ^ e) = P at *
      generalize hq : r / 10 ^ e = q at *
      refine ⟨by simp; omega, by rw [dgs, List.all_cons, dg_is]; exact g2, ?_, ?_⟩
      · rw [List.getLast?_cons]
        intro hc
        have hc := Option.some.inj hc
        cases hl : P.getLast? with
        | none =>
          have hP0 : P = [] := List.getLast?_eq_none_iff.1 hl
          subst hP0
          have hz : r % 10 ^ e = 0 := by simpa [val] using g4.symm
          rw [hl] at hc
          have hd := dg_val q
          rw [show dg q = 48 from hc] at hd
          have : (48 : UInt8).toNat = 48 := by decide
          rw [this] at hd
          have hq0 : q = 0 := by omega
          rw [hq0, hz] at hdiv
          apply hr; omega
        | some x =>
          rw [hl] at hc g3
          exact g3 (congrArg some hc)
      · rw [show dg q :: P = [dg q] ++ P from rfl, val_app, val_one, List.length_append, List.length_singleton, show e + 1 - (1 + P.length) = e - P.length by omega, Int.add_mul, g4]
        have hpow : (10 : Int) ^ P.length * 10 ^ (e - P.length) = 10 ^ e := by rw [← Int.pow_add]; congr 1; omega
        rw [Int.mul_assoc, hpow, show q % 10 = q by omega, Int.mul_comm]
        exact hdiv
theorem fr_frac (d : Nat) (r : Int) (h0 : 0 ≤ r) (h1 : r < 10 ^ d) : frac (10 ^ d) r = if r = 0 then [] else 46 :: fr d r := by
  obtain ⟨g1, g2, g3, g4⟩ := fr_facts d r h0 h1
  have := frac_val (fr d r) d g1 g2 g3
  rw [g4] at this
  rw [this]
  by_cases hr : r = 0
  · subst hr; rw [fr_zero]; simp
  · rw [if_neg hr, if_neg]
    intro hn
    rw [hn] at g4
    simp [val] at g4
    exact hr g4.symm
theorem itoa_dg (n : Int) (h0 : 0 ≤ n) (h1 : n ≤ 9) : Lib.itoa n = [dg n] := by
  have := dec_one n h0 h1
  unfold two at this
  have h2 := (List.cons.inj this).2
  unfold Lib.itoa
  rw [if_neg (by omega), h2]

/-! ### where the reference and the program part the number -/
theorem sval_mono (l : List UInt8) (n : Int) (h : dgs l = true) (hn : 1 ≤ n) : 1 ≤ sval n l := by
  induction l generalizing n with
  | nil => exact hn
  | cons c l ih =>
    simp only [dgs, List.all_cons, Bool.and_eq_true] at h
    have hc := (isDg_iff c).1 h.1
    show 1 ≤ sval (ap n _) l
    exact ih _ h.2 (by unfold ap; omega)
theorem sval_head (l : List UInt8) (h : dgs l = true) (hne : l ≠ []) (hh : l.head? ≠ some 48) : 1 ≤ sval 0 l := by
  cases l with
  | nil => exact absurd rfl hne
  | cons c l =>
    simp only [dgs, List.all_cons, Bool.and_eq_true] at h
    have hc := (isDg_iff c).1 h.1
    have hc48 : c.toNat ≠ 48 := fun e => hh (by
      have : c = 48 := UInt8.toNat_inj.1 (by rw [e]; rfl)
      rw [this]; rfl)
    show 1 ≤ sval (ap 0 _) l
    exact sval_mono l _ h.2 (by unfold ap; omega)
theorem sval_last (P : List UInt8) (n : Int) (h0 : 0 ≤ n) (h1 : n ≤ 1125899906842625) (h : dgs P = true) (hne : P ≠ []) (hl : P.getLast? ≠ some 48) : 1 ≤ sval n P := by
  obtain ⟨Q, c, rfl⟩ : ∃ Q c, P = Q ++ [c] := ⟨P.dropLast, P.getLast hne, (List.dropLast_concat_getLast hne).symm⟩
  rw [dgs_snoc, Bool.and_eq_true] at h
  have hc := (isDg_iff c).1 h.2
  have hc48 : c.toNat ≠ 48 := fun e => hl (by
    have : c = 48 := UInt8.toNat_inj.1 (by rw [e]; rfl)
    rw [this]; simp)
  rw [sval_snoc]
  have := sval_bd n Q h0 h1 h.1
  unfold ap; omega
/-- the form that the reference asks for -/
def spB (G T : Bool) (W P : List UInt8) : Bool := (!T || (rdB P && !(P.getLast? == some 48))) && (rdB W && (W == [48] || !(W.head? == some 48)) && decide (W.length + P.length ≤ 20)) && !(G && W == [48] && P == [])
theorem suffix_last (P : List UInt8) : Lib.hasSuffix P [48] = (P.getLast? == some 48) := by
  by_cases h : P.getLast? = some 48
  · rw [h]
    cases hs : Lib.hasSuffix P [48] with
    | true => rfl
    | false => exact absurd h (suffix_is P hs)
  · rw [suffix_no P h]
    simpa using h
theorem dcB_sp (l : List UInt8) (hP : dgT l = false → dgP l = []) : dcB l = spB (dgG l) (dgT l) (dgW l) (dgP l) := by
  unfold dcB spB
  rw [suffix_last]
  cases hw : rdB (dgW l) with
  | false => simp
  | true =>
    have hw' := hw
    simp only [rdB, Bool.and_eq_true, Bool.not_eq_true', beq_eq_false_iff_ne, ne_eq] at hw'
    by_cases hh : dgW l = [48] ∨ (dgW l).head? ≠ some 48
    · have e1 : (!((dgW l).head? == some 48) || dgW l == [48]) = true := by
        rcases hh with h | h
        · rw [h]; rfl
        · simp [h]
      have e2 : (dgW l == [48] || !((dgW l).head? == some 48)) = true := by rw [Bool.or_comm]; exact e1
      rw [e1, e2]
      by_cases hz : (dgW l).length + (dgP l).length ≤ 20
      · rw [decide_eq_true hz]
        cases ht : dgT l with
        | false =>
          have hp := hP ht
          have hn : dgN l = sval 0 (dgW l) := by
            unfold dgN dg1 rdV
            rw [ht]; simp [hw'.1]
          have hz2 : (dgN l == 0) = (dgW l == [48]) := by
            rw [hn]
            by_cases h48 : dgW l = [48]
            · rw [h48]; decide
            · have hhd : (dgW l).head? ≠ some 48 := by rcases hh with h | h; exact absurd h h48; exact h
              have := sval_head _ hw'.1 hw'.2 hhd
              have n1 : (sval 0 (dgW l) == 0) = false := by rw [beq_eq_false_iff_ne]; omega
              have n2 : (dgW l == [48]) = false := by simpa using h48
              rw [n1, n2]
          rw [hp, hz2]; simp
        | true =>
          cases hp : rdB (dgP l) with
          | false => simp
          | true =>
            have hp' := hp
            simp only [rdB, Bool.and_eq_true, Bool.not_eq_true', beq_eq_false_iff_ne, ne_eq] at hp'
            by_cases hl : (dgP l).getLast? = some 48
            · rw [hl]; simp
            · have hn : dgN l = sval (dg1 l) (dgP l) := by
                unfold dgN dg2 rdV
                rw [ht]; simp [hp'.1]
              have b1 : 0 ≤ dg1 l ∧ dg1 l ≤ 1125899906842625 := rdV_bd 0 _ (by omega) (by omega)
              have := sval_last _ (dg1 l) b1.1 b1.2 hp'.1 hp'.2 hl
              have n1 : (dgN l == 0) = false := by rw [hn, beq_eq_false_iff_ne]; omega
              have n2 : (dgP l == []) = false := by simpa using hp'.2
              rw [n1, n2]; simp
      · rw [decide_eq_false hz]; simp
    · have hh1 : dgW l ≠ [48] := fun h => hh (.inl h)
      have hh2 : (dgW l).head? = some 48 := Classical.byContradiction fun h => hh (.inr h)
      rw [hh2]
      have : (dgW l == [48]) = false := by simpa using hh1
      rw [this]; simp

/-- what the reference's scaled returns -/
def scV (W P : List UInt8) (d : Nat) : Int := if d < P.length then -1 else (if 1125899906842624 < val (W ++ P ++ List.replicate (d - P.length) 48) then -1 else val (W ++ P ++ List.replicate (d - P.length) 48))
theorem val_zeros (l : List UInt8) (k : Nat) : val (l ++ List.replicate k 48) = val l * 10 ^ k := by
  rw [val_app, (zeros_val k).1, List.length_replicate]; omega
/-- the program's value and the reference's -/
theorem sc_same (W P : List UInt8) (d : Nat) (hd : d ≤ 8) (hW : dgs W = true) (hP : dgs P = true) :
    (tiB P.length (10 ^ d) = false ∧ scV W P d = -1) ∨
    (tiB P.length (10 ^ d) = true ∧ (∀ neg, tiV neg (sval (sval 0 W) P) P.length (10 ^ d) = if neg then -(up 9 (sval (sval 0 W) P) (10 ^ (d - P.length))) else up 9 (sval (sval 0 W) P) (10 ^ (d - P.length))) ∧
      ((scV W P d = -1 ∧ 1125899906842624 < up 9 (sval (sval 0 W) P) (10 ^ (d - P.length))) ∨ (0 ≤ scV W P d ∧ scV W P d ≤ 1125899906842624 ∧ up 9 (sval (sval 0 W) P) (10 ^ (d - P.length)) = scV W P d))) := by
  by_cases hlt : d < P.length
  · left
    refine ⟨?_, by unfold scV; rw [if_pos hlt]⟩
    unfold tiB
    rw [Int.toNat_natCast, shr_big _ _ hlt]; decide
  · right
    have hs : shr P.length (10 ^ d) = 10 ^ (d - P.length) := by rw [shr_pow, if_pos (by omega)]
    have hp := ten_pos (d - P.length)
    have ht : tiB P.length (10 ^ d) = true := by
      unfold tiB
      rw [Int.toNat_natCast, hs]; exact decide_eq_true hp
    refine ⟨ht, fun neg => ?_, ?_⟩
    · unfold tiV
      rw [if_pos ht, Int.toNat_natCast, hs]
    · have hv : val (W ++ P ++ List.replicate (d - P.length) 48) = val (W ++ P) * 10 ^ (d - P.length) := val_zeros _ _
      have hWP : dgs (W ++ P) = true := by rw [dgs_app, hW, hP]; rfl
      have hb := val_bd (W ++ P) hWP
      unfold scV
      rw [if_neg hlt, hv]
      have b1 := sval_bd 0 W (by omega) (by omega) hW
      have b2 := sval_bd _ P b1.1 b1.2 hP
      by_cases hbig : 1125899906842624 < val (W ++ P) * 10 ^ (d - P.length)
      · left
        rw [if_pos hbig]
        refine ⟨rfl, ?_⟩
        apply Classical.byContradiction
        intro hn
        have hn : up 9 (sval (sval 0 W) P) (10 ^ (d - P.length)) ≤ 1125899906842624 := by omega
        have e1 := up_val 9 (d - P.length) (by omega) _ hn
        rw [e1] at hn
        have hs1 : sval (sval 0 W) P ≤ 1125899906842624 := by
          have := Int.mul_le_mul_of_nonneg_left hp b2.1
          omega
        have e2 := sval2_val W P hW hP hs1
        rw [e2] at hn
        omega
      · right
        rw [if_neg hbig]
        have h0 : 0 ≤ val (W ++ P) * 10 ^ (d - P.length) := Int.mul_nonneg hb.1 (by omega)
        refine ⟨h0, by omega, ?_⟩
        have hvle : val (W ++ P) ≤ 1125899906842624 := by
          have := Int.mul_le_mul_of_nonneg_left hp hb.1
          omega
        have hsv : sval (sval 0 W) P = val (W ++ P) := by
          rw [← valF_app]
          have hw0 := val_bd W hW
          have e1 : valF (val W) P = val (W ++ P) := valF_app W P
          have hge := valF_ge P (val W) hP hw0.1
          have e2 : sval 0 W = val W := sval_of W 0 hW (by omega) (by show val W ≤ _; omega)
          rw [e2]
          exact sval_of P (val W) hP hw0.1 (by omega)
        rw [hsv]
        exact up_of 9 (d - P.length) (by omega) _ hb.1 (by omega)
end Go.Proofs.YtdhckbjebccdbaaDoor
