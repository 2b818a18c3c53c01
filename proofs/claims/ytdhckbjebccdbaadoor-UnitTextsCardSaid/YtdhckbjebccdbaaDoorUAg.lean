/- Plain facts: what is read as a quantity is printed as it was. No program stands in this text. -/
import Derived.Test.YtdhckbjebccdbaaDoorUParse
import Derived.Lib.TrimByte
import Derived.Lib.IndexMore
namespace Go.Proofs.YtdhckbjebccdbaaDoor

/-! ### numbers and their digits -/
theorem pow1 (k : Nat) : (1 : Int) ≤ 10 ^ k := by
  induction k with
  | zero => decide
  | succ k ih => rw [Int.pow_succ]; omega
theorem snoc_ind {P : List UInt8 → Prop} (h0 : P []) (h1 : ∀ l c, P l → P (l ++ [c])) (l : List UInt8) : P l := by
  have key : ∀ n (l : List UInt8), l.length = n → P l := by
    intro n
    induction n with
    | zero => intro l hl; rw [List.length_eq_zero_iff.1 hl]; exact h0
    | succ n ih =>
      intro l hl
      have hne : l ≠ [] := fun e => by subst e; simp at hl
      rw [← List.dropLast_concat_getLast hne]
      exact h1 _ _ (ih _ (by simp; omega))
  exact key _ l rfl
theorem val_app (m l : List UInt8) : val (m ++ l) = val m * 10 ^ l.length + val l := by
  refine snoc_ind (P := fun l => val (m ++ l) = val m * 10 ^ l.length + val l) (by simp [val]) (fun l c ih => ?_) l
  show val (m ++ (l ++ [c])) = val m * 10 ^ (l ++ [c]).length + val (l ++ [c])
  rw [← List.append_assoc, val_snoc, val_snoc, ih, List.length_append, List.length_singleton, Int.pow_succ, ← Int.mul_assoc]
  generalize val m * 10 ^ l.length = x
  omega
theorem dgs_app (m l : List UInt8) : dgs (m ++ l) = (dgs m && dgs l) := by simp [dgs]
theorem val_pos (l : List UInt8) (h : dgs l = true) (hne : l ≠ []) (hh : l.head? ≠ some 48) : 1 ≤ val l := by
  cases l with
  | nil => exact absurd rfl hne
  | cons c l =>
    have h' : dgs ([c] ++ l) = true := h
    rw [dgs_app, Bool.and_eq_true] at h'
    have hc := h'.1
    have hc2 : 48 ≤ c.toNat ∧ c.toNat ≤ 57 := by rw [← isDg_iff]; simpa [dgs] using hc
    have hb := val_bd l h'.2
    have hn : c.toNat ≠ 48 := fun e => hh (by rw [List.head?_cons]; congr 1; exact UInt8.toNat.inj e)
    have e : val (c :: l) = val [c] * 10 ^ l.length + val l := val_app [c] l
    have e1 : val [c] = (c.toNat : Int) - 48 := by simp [val]
    have hp := pow1 l.length
    have hm : 1 * (1 : Int) ≤ ((c.toNat : Int) - 48) * 10 ^ l.length := Int.mul_le_mul (by omega) hp (by omega) (by omega)
    rw [e, e1]
    omega
theorem digits_val (l : List UInt8) : dgs l = true → l ≠ [] → (l.head? ≠ some 48 ∨ l = [48]) → Lib.decDigits (val l).toNat = l := by
  refine snoc_ind (P := fun l => dgs l = true → l ≠ [] → (l.head? ≠ some 48 ∨ l = [48]) → Lib.decDigits (val l).toNat = l) (fun _ h => absurd rfl h) (fun m c ih => ?_) l
  intro hd hne hh
  rw [dgs_snoc, Bool.and_eq_true, isDg_iff] at hd
  obtain ⟨hm, c0, c1⟩ := hd
  have hb := val_bd m hm
  have hc : UInt8.ofNat (48 + (c.toNat - 48)) = c := by
    rw [show 48 + (c.toNat - 48) = c.toNat by omega]; simp
  rw [val_snoc]
  cases m with
  | nil =>
    have e : (10 * val [] + ((c.toNat : Int) - 48)).toNat = c.toNat - 48 := by simp [val]; omega
    rw [e, Lib.decDigits_one (by omega), hc]; rfl
  | cons x m =>
    have hx : (x :: m).head? ≠ some 48 := by
      rcases hh with h | h
      · simpa using h
      · simp at h
    have hv := val_pos _ hm (by simp) hx
    have i := ih hm (by simp) (.inl hx)
    generalize val (x :: m) = v at *
    rw [Lib.decDigits, dif_neg (by omega)]
    rw [show (10 * v + ((c.toNat : Int) - 48)).toNat / 10 = v.toNat by omega, show (10 * v + ((c.toNat : Int) - 48)).toNat % 10 = c.toNat - 48 by omega, hc, i]
theorem itoa_val (l : List UInt8) (h : dgs l = true) (hne : l ≠ []) (hh : l.head? ≠ some 48 ∨ l = [48]) : Lib.itoa (val l) = l := by
  have hb := val_bd l h
  unfold Lib.itoa
  rw [if_neg (by omega)]
  exact digits_val l h hne hh

/-! ### what does not saturate -/
def valF (n : Int) (l : List UInt8) : Int := l.foldl (fun a c => 10 * a + ((c.toNat : Int) - 48)) n
theorem sval_sat (l : List UInt8) (h : dgs l = true) : sval 1125899906842625 l = 1125899906842625 := by
  induction l with
  | nil => rfl
  | cons c l ih =>
    have h' : (isDg c && dgs l) = true := h
    rw [Bool.and_eq_true, isDg_iff] at h'
    show sval (ap 1125899906842625 ((c.toNat : Int) - 48)) l = _
    rw [show ap 1125899906842625 ((c.toNat : Int) - 48) = 1125899906842625 by unfold ap; omega]
    exact ih h'.2
theorem sval_val (l : List UInt8) (n : Int) (h : dgs l = true) (hs : sval n l ≤ 1125899906842624) : sval n l = valF n l := by
  induction l generalizing n with
  | nil => rfl
  | cons c l ih =>
    have h' : (isDg c && dgs l) = true := h
    rw [Bool.and_eq_true] at h'
    have hs' : sval (ap n ((c.toNat : Int) - 48)) l ≤ 1125899906842624 := hs
    show sval (ap n ((c.toNat : Int) - 48)) l = valF (10 * n + ((c.toNat : Int) - 48)) l
    by_cases e : 10 * n + ((c.toNat : Int) - 48) ≤ 1125899906842624
    · have e2 : ap n ((c.toNat : Int) - 48) = 10 * n + ((c.toNat : Int) - 48) := by unfold ap; omega
      rw [e2] at hs' ⊢
      exact ih _ h'.2 hs'
    · have e2 : ap n ((c.toNat : Int) - 48) = 1125899906842625 := by unfold ap; omega
      rw [e2, sval_sat l h'.2] at hs'
      omega
theorem valF_app (m l : List UInt8) : valF (val m) l = val (m ++ l) := by simp [valF, val]
theorem up_sat (k j : Nat) (hj : j ≤ k) : up k 1125899906842625 (10 ^ j) = 1125899906842625 := by
  induction k generalizing j with
  | zero => rfl
  | succ k ih =>
    unfold up
    cases j with
    | zero => rfl
    | succ j =>
      have hp := pow1 j
      rw [Int.pow_succ, if_pos (by omega), show ap 1125899906842625 0 = 1125899906842625 by decide, Int.mul_ediv_cancel _ (by decide)]
      exact ih j (by omega)
theorem up_val (k j : Nat) (hj : j ≤ k) (n : Int) (h : up k n (10 ^ j) ≤ 1125899906842624) : up k n (10 ^ j) = n * 10 ^ j := by
  induction k generalizing j n with
  | zero =>
    obtain rfl : j = 0 := by omega
    simp [up]
  | succ k ih =>
    unfold up at h ⊢
    cases j with
    | zero => simp
    | succ j =>
      have hp := pow1 j
      rw [Int.pow_succ, if_pos (by omega), Int.mul_ediv_cancel _ (by decide)] at h ⊢
      by_cases e : 10 * n ≤ 1125899906842624
      · have e2 : ap n 0 = 10 * n := by unfold ap; omega
        rw [e2] at h ⊢
        rw [ih j (by omega) _ h, Int.mul_comm 10 n, Int.mul_assoc, Int.mul_comm 10]
      · have e2 : ap n 0 = 1125899906842625 := by unfold ap; omega
        rw [e2, up_sat k j (by omega)] at h
        omega
theorem shr_pow (p d : Nat) : shr p (10 ^ d) = if p ≤ d then 10 ^ (d - p) else shr p (10 ^ d) := by
  induction p generalizing d with
  | zero => simp [shr]
  | succ p ih =>
    split
    · obtain ⟨e, rfl⟩ : ∃ e, d = e + 1 := ⟨d - 1, by omega⟩
      unfold shr
      rw [Int.pow_succ, if_pos (by simp), Int.mul_ediv_cancel _ (by decide), ih e, if_pos (by omega)]
      congr 1
      omega
    · rfl
theorem shr_big (p d : Nat) (h : d < p) : shr p (10 ^ d) = 0 := by
  induction p generalizing d with
  | zero => omega
  | succ p ih =>
    unfold shr
    cases d with
    | zero => rfl
    | succ d => rw [Int.pow_succ, if_pos (by simp), Int.mul_ediv_cancel _ (by decide)]; exact ih d (by omega)

/-! ### a decimal number is printed as it was -/
theorem zeros_val (k : Nat) : val (List.replicate k 48) = 0 ∧ dgs (List.replicate k 48) = true := by
  induction k with
  | zero => exact ⟨rfl, rfl⟩
  | succ k ih =>
    rw [List.replicate_succ']
    exact ⟨by rw [val_snoc, ih.1]; decide, by rw [dgs_snoc, ih.2]; decide⟩
theorem trim_zeros (P : List UInt8) (k : Nat) (_ : P ≠ []) (hl : P.getLast? ≠ some 48) : Lib.trimRightB (P ++ List.replicate k 48) 48 = P := by
  have h := Lib.trimRightB_take (P ++ List.replicate k 48) 48 P.length (by simp) (fun j b hj hb => ?_) (fun b h0 hb hc => ?_)
  · rw [h]; simp
  · rw [List.getElem?_append_right hj] at hb
    exact (List.eq_of_mem_replicate (List.mem_of_getElem? hb))
  · subst hc
    rw [List.getElem?_append_left (by omega)] at hb
    apply hl
    rw [List.getLast?_eq_getElem?, hb]
theorem frac_val (P : List UInt8) (d : Nat) (hP : P.length ≤ d) (hd : dgs P = true) (hl : P.getLast? ≠ some 48) : frac (10 ^ d) (val P * 10 ^ (d - P.length)) = if P = [] then [] else 46 :: P := by
  have hpow := pow1 (d - P.length)
  by_cases hne : P = []
  · subst hne
    rw [if_pos rfl]
    unfold frac
    rw [if_pos (by simp [val])]
  · rw [if_neg hne]
    -- the last digit is not 0, so the number isn't
    have hv : 1 ≤ val P := by
      have hb := (val_bd P hd).1
      have e := List.dropLast_concat_getLast hne
      have hg : P.getLast? = some (P.getLast hne) := List.getLast?_eq_some_getLast hne
      have hd' := hd
      rw [← e, dgs_snoc, Bool.and_eq_true, isDg_iff] at hd'
      have hb2 := (val_bd P.dropLast hd'.1).1
      have hn : (P.getLast hne).toNat ≠ 48 := fun h => hl (by rw [hg]; congr 1; exact UInt8.toNat.inj h)
      rw [← e, val_snoc]
      omega
    have hr : val P * 10 ^ (d - P.length) ≠ 0 := by
      have := Int.mul_le_mul hv hpow (by omega) (by omega)
      omega
    unfold frac
    rw [if_neg hr]
    have hz := zeros_val (d - P.length)
    have e : 10 ^ d + val P * 10 ^ (d - P.length) = val (49 :: (P ++ List.replicate (d - P.length) 48)) := by
      have e1 : val (49 :: (P ++ List.replicate (d - P.length) 48)) = val [49] * 10 ^ (P ++ List.replicate (d - P.length) 48).length + val (P ++ List.replicate (d - P.length) 48) := val_app [49] _
      rw [e1, val_app, hz.1, show val [49] = 1 by decide]
      rw [List.length_append, List.length_replicate, show P.length + (d - P.length) = d by omega]
      omega
    rw [e, itoa_val _ (by show (isDg 49 && dgs (P ++ List.replicate (d - P.length) 48)) = true; rw [dgs_app, hd, hz.2]; decide) (by simp) (.inl (by simp))]
    show 46 :: Lib.trimRightB (P ++ List.replicate (d - P.length) 48) 48 = _
    rw [trim_zeros P _ hne hl]
theorem dec_val (W P : List UInt8) (d : Nat) (hP : P.length ≤ d) (hW : dgs W = true) (hWn : W ≠ []) (hWh : W.head? ≠ some 48 ∨ W = [48]) (hd : dgs P = true) (hl : P.getLast? ≠ some 48) (neg : Bool) (hn : neg = true → val (W ++ P) ≠ 0) :
    dec (if neg then -(val (W ++ P) * 10 ^ (d - P.length)) else val (W ++ P) * 10 ^ (d - P.length)) (10 ^ d) = (if neg then [45] else []) ++ W ++ (if P = [] then [] else 46 :: P) := by
  have hpow := pow1 (d - P.length)
  have hpowd := pow1 d
  have hbW := val_bd W hW
  have hbP := val_bd P hd
  have e : val (W ++ P) = val W * 10 ^ P.length + val P := val_app W P
  have ed : (10 : Int) ^ d = 10 ^ P.length * 10 ^ (d - P.length) := by rw [← Int.pow_add, show P.length + (d - P.length) = d by omega]
  have e2 : val (W ++ P) * 10 ^ (d - P.length) = val W * 10 ^ d + val P * 10 ^ (d - P.length) := by rw [e, Int.add_mul, Int.mul_assoc, ← ed]
  have r0 : 0 ≤ val P * 10 ^ (d - P.length) := Int.mul_nonneg hbP.1 (by omega)
  have r1 : val P * 10 ^ (d - P.length) < 10 ^ d := by
    rw [ed]
    exact Int.mul_lt_mul_of_pos_right hbP.2 (by omega)
  have q : (val (W ++ P) * 10 ^ (d - P.length)) / 10 ^ d = val W := by
    rw [e2, Int.add_comm, Int.add_mul_ediv_right _ _ (by omega), Int.ediv_eq_zero_of_lt r0 r1]; omega
  have m : (val (W ++ P) * 10 ^ (d - P.length)) % 10 ^ d = val P * 10 ^ (d - P.length) := by
    rw [e2, Int.add_comm, Int.add_mul_emod_self_right, Int.emod_eq_of_lt r0 r1]
  have v0 : 0 ≤ val (W ++ P) := by rw [e]; have := Int.mul_nonneg hbW.1 (show (0 : Int) ≤ 10 ^ P.length by have := pow1 P.length; omega); omega
  have hall : Lib.itoa (val W) ++ frac (10 ^ d) (val P * 10 ^ (d - P.length)) = W ++ (if P = [] then [] else 46 :: P) := by
    rw [itoa_val W hW hWn hWh, frac_val P d hP hd hl]
  unfold dec
  cases neg with
  | true =>
    have hv : 1 ≤ val (W ++ P) := by have := hn rfl; omega
    have hvp := Int.mul_le_mul hv hpow (by omega) (by omega)
    simp only [if_true]
    rw [if_pos (by omega), Int.neg_neg, q, m, hall]
    rfl
  | false =>
    have hvp := Int.mul_nonneg v0 (show (0 : Int) ≤ 10 ^ (d - P.length) by omega)
    simp only [Bool.false_eq_true, if_false]
    rw [if_neg (by omega), q, m, hall]
    rfl

/-! ### the parts of a text -/
theorem index_cut (l : List UInt8) (c : UInt8) : (Lib.index l [c] = -1) ∨ (0 ≤ Lib.index l [c] ∧ l = l.take (Lib.index l [c]).toNat ++ c :: l.drop ((Lib.index l [c]).toNat + 1)) := by
  induction l with
  | nil => left; rfl
  | cons b l ih =>
    by_cases hb : c = b
    · subst hb
      right
      have e : Lib.index (c :: l) [c] = 0 := by unfold Lib.index; rw [if_pos (by simp [List.isPrefixOf])]
      rw [e]
      exact ⟨by omega, by simp⟩
    · have hp : ([c].isPrefixOf (b :: l)) = false := by simp [List.isPrefixOf, hb]
      rcases ih with h | ⟨h0, h⟩
      · left
        unfold Lib.index
        rw [if_neg (by rw [hp]; simp), h]; rfl
      · right
        have e : Lib.index (b :: l) [c] = Lib.index l [c] + 1 := by
          rw [Lib.index, if_neg (by rw [hp]; simp), if_neg (by simp; omega)]
        rw [e]
        refine ⟨by omega, ?_⟩
        rw [show (Lib.index l [c] + 1).toNat = (Lib.index l [c]).toNat + 1 by omega]
        show b :: l = b :: (l.take _ ++ c :: l.drop _)
        rw [← h]
theorem cut_is (l : List UInt8) (c : UInt8) : (Lib.cut l [c] = (l, [], false)) ∨ ((Lib.cut l [c]).2.2 = true ∧ l = (Lib.cut l [c]).1 ++ c :: (Lib.cut l [c]).2.1) := by
  unfold Lib.cut
  rcases index_cut l c with h | ⟨h0, h⟩
  · left; rw [if_neg (by omega)]
  · right; rw [if_pos h0]; exact ⟨rfl, h⟩
theorem sign_is (l : List UInt8) : l = (if Lib.hasPrefix l [45] = true then [45] else []) ++ Lib.trimPrefix l [45] := by
  unfold Lib.trimPrefix
  split
  · rename_i h
    cases l with
    | nil => simp [Lib.hasPrefix, List.isPrefixOf] at h
    | cons b l =>
      have : 45 = b := by simpa [Lib.hasPrefix, List.isPrefixOf] using h
      subst this; rfl
  · rfl
theorem suffix_is (P : List UInt8) (h : Lib.hasSuffix P [48] = false) : P.getLast? ≠ some 48 := by
  intro hc
  rw [Lib.hasSuffix] at h
  have : ([48] : List UInt8).isSuffixOf P = true := by
    rw [List.isSuffixOf_iff_suffix]
    have hne : P ≠ [] := fun e => by rw [e] at hc; simp at hc
    rw [List.getLast?_eq_some_getLast hne] at hc
    refine ⟨P.dropLast, ?_⟩
    have := List.dropLast_concat_getLast hne
    rw [Option.some.inj hc] at this
    exact this
  rw [this] at h
  cases h

theorem unit_pow (l : List UInt8) (h : isU l = true) : ∃ d : Nat, d ≤ 8 ∧ uF l = 10 ^ d := by
  have key : ∀ x ∈ unitTab, x.2.2 = 10 ^ 0 ∨ x.2.2 = 10 ^ 1 ∨ x.2.2 = 10 ^ 2 ∨ x.2.2 = 10 ^ 3 ∨ x.2.2 = 10 ^ 4 ∨ x.2.2 = 10 ^ 5 ∨ x.2.2 = 10 ^ 6 ∨ x.2.2 = 10 ^ 7 ∨ x.2.2 = 10 ^ 8 := by decide
  rcases key _ (unit_mem l h) with e | e | e | e | e | e | e | e | e
  · exact ⟨0, by omega, e⟩
  · exact ⟨1, by omega, e⟩
  · exact ⟨2, by omega, e⟩
  · exact ⟨3, by omega, e⟩
  · exact ⟨4, by omega, e⟩
  · exact ⟨5, by omega, e⟩
  · exact ⟨6, by omega, e⟩
  · exact ⟨7, by omega, e⟩
  · exact ⟨8, by omega, e⟩

theorem sval2_val (W P : List UInt8) (hW : dgs W = true) (hP : dgs P = true) (h : sval (sval 0 W) P ≤ 1125899906842624) : sval (sval 0 W) P = val (W ++ P) := by
  have hb := sval_bd 0 W (by omega) (by omega) hW
  have h1 : sval 0 W ≤ 1125899906842624 := by
    apply Classical.byContradiction
    intro hn
    rw [show sval 0 W = 1125899906842625 by omega, sval_sat P hP] at h
    omega
  rw [sval_val P _ hP h, sval_val W 0 hW h1]
  exact valF_app W P

/-- a decimal number that was read, times a factor, is printed as it was -/
theorem dec_again (l : List UInt8) (d : Nat) (hd : d ≤ 8) (hB : dcB l = true) (hT : tiB (dcC l) (10 ^ d) = true) (h0 : -1125899906842624 ≤ tiV (dcG l) (dcN l) (dcC l) (10 ^ d)) (h1 : tiV (dcG l) (dcN l) (dcC l) (10 ^ d) ≤ 1125899906842624) :
    dec (tiV (dcG l) (dcN l) (dcC l) (10 ^ d)) (10 ^ d) = l := by
  have eG : dcG l = dgG l := by simp [dcG, hB]
  have eN : dcN l = dgN l := by simp [dcN, hB]
  have eC : dcC l = (dgP l).length := by simp [dcC, hB]
  rw [eG, eN, eC] at h0 h1 ⊢
  rw [eC] at hT
  have hTV := hT
  unfold tiB at hT
  have hs := of_decide_eq_true hT
  rw [show ((dgP l).length : Int).toNat = (dgP l).length from rfl] at hs
  have hPd : (dgP l).length ≤ d := by
    apply Classical.byContradiction
    intro hn
    rw [shr_big _ _ (by omega)] at hs
    omega
  have hF : shr ((dgP l).length : Int).toNat (10 ^ d) = 10 ^ (d - (dgP l).length) := by
    rw [show ((dgP l).length : Int).toNat = (dgP l).length from rfl, shr_pow, if_pos hPd]
  unfold tiV at h0 h1 ⊢
  rw [if_pos hTV, hF] at h0 h1 ⊢
  -- the parts
  unfold dcB at hB
  simp only [Bool.and_eq_true] at hB
  obtain ⟨⟨⟨⟨b1, _⟩, b3⟩, b4⟩, b5⟩ := hB
  have hW : dgs (dgW l) = true ∧ dgW l ≠ [] := by
    unfold rdB at b1
    rw [Bool.and_eq_true] at b1
    exact ⟨b1.1, by simpa using b1.2⟩
  have hWh : (dgW l).head? ≠ some 48 ∨ dgW l = [48] := by
    rw [Bool.or_eq_true] at b3
    rcases b3 with g | g
    · left; simpa using g
    · right; simpa using g
  have hsg := sign_is l
  have hP : dgs (dgP l) = true ∧ (dgP l).getLast? ≠ some 48 ∧ dgU l = dgW l ++ (if dgP l = [] then [] else 46 :: dgP l) ∧ dgN l = rdV (rdV 0 (dgW l)) (dgP l) := by
    rcases cut_is (dgU l) 46 with g | ⟨g1, g2⟩
    · have e1 : dgW l = dgU l := by unfold dgW; rw [g]
      have e2 : dgP l = [] := by unfold dgP; rw [g]
      have e3 : dgT l = false := by unfold dgT; rw [g]
      refine ⟨by rw [e2]; rfl, by rw [e2]; simp, by rw [e2, e1]; simp, ?_⟩
      unfold dgN
      rw [e3, e2]
      rfl
    · have e3 : dgT l = true := g1
      rw [e3] at b4
      simp only [Bool.not_true, Bool.false_or, Bool.and_eq_true] at b4
      have b6 := b4.1
      unfold rdB at b6
      rw [Bool.and_eq_true] at b6
      have hne : dgP l ≠ [] := by simpa using b6.2
      refine ⟨b6.1, suffix_is _ (by simpa using b4.2), ?_, ?_⟩
      · rw [if_neg hne]; exact g2
      · unfold dgN; rw [e3, if_pos rfl]; rfl
  obtain ⟨hPd2, hPl, hU, hN⟩ := hP
  have hN2 : dgN l = sval (sval 0 (dgW l)) (dgP l) := by
    rw [hN]; unfold rdV; rw [if_pos hW.1, if_pos hPd2]
  have hnb := sval_bd 0 (dgW l) (by omega) (by omega) hW.1
  have hnb2 := sval_bd _ (dgP l) hnb.1 hnb.2 hPd2
  rw [← hN2] at hnb2
  have hub := up_bd 9 (dgN l) (10 ^ (d - (dgP l).length)) hnb2.1 hnb2.2
  have hup : up 9 (dgN l) (10 ^ (d - (dgP l).length)) ≤ 1125899906842624 := by
    cases hg : dgG l with
    | true => rw [hg] at h0; simp only [if_true] at h0; omega
    | false => rw [hg] at h1; simpa using h1
  have hv := up_val 9 _ (by omega) _ hup
  have hnM : dgN l ≤ 1125899906842624 := by
    have hpow := pow1 (d - (dgP l).length)
    rw [hv] at hup
    have := Int.mul_le_mul_of_nonneg_left hpow hnb2.1
    omega
  have hval : dgN l = val (dgW l ++ dgP l) := by
    rw [hN2]
    exact sval2_val _ _ hW.1 hPd2 (by rw [← hN2]; exact hnM)
  rw [hv, hval, dec_val (dgW l) (dgP l) d hPd hW.1 hW.2 hWh hPd2 hPl (dgG l) (fun hg h => by rw [hval, h, hg] at b5; simp at b5)]
  conv => rhs; rw [hsg]
  show _ = (if dgG l = true then [45] else []) ++ dgU l
  rw [hU, List.append_assoc]

/-- what is read as a quantity is printed as it was -/
theorem again (l : List UInt8) (h : psE l = 0) : (Lib.cut l [32]).2.2 = true ∧ prL (psK l) (psA l) (psU l) = l ∧ prE (psK l) (psA l) (psU l) = 0 ∧ qE (psK l) (psA l) = 0 := by
  have hK : psK l = uK (psU l) := by unfold psK; rw [if_pos h]
  have hA : psA l = psV l := by unfold psA; rw [if_pos h]
  unfold psE at h
  split at h
  · omega
  · split at h
    · omega
    · split at h
      · omega
      · split at h
        · omega
        · split at h
          · rename_i g1 g2 g3 g4 g5
            have hu : isU (psU l) = true := by simpa using g2
            have hB : dcB (psN l) = true := by simpa using g3
            have hT : tiB (dcC (psN l)) (uF (psU l)) = true := by simpa using g4
            have hb := qE_bd _ _ g5
            obtain ⟨d, hd, hf⟩ := unit_pow _ hu
            have hdec : dec (psV l) (uF (psU l)) = psN l := by
              unfold psV at hb ⊢
              rw [hf] at hT hb ⊢
              exact dec_again (psN l) d hd hB hT (by omega) (by omega)
            have hpe : prE (psK l) (psA l) (psU l) = 0 := by unfold prE; rw [hK, hA, if_pos g5, if_pos hu, if_pos rfl]
            have hcut : (Lib.cut l [32]).2.2 = true ∧ l = psN l ++ 32 :: psU l := by
              rcases cut_is l 32 with g | g
              · have e : psU l = [] := by unfold psU; rw [g]
                rw [e] at hu
                exact absurd hu (by decide)
              · exact g
            refine ⟨hcut.1, ?_, hpe, by rw [hK, hA]; exact g5⟩
            unfold prL
            rw [if_pos hpe, hA, hdec, List.append_assoc]
            exact hcut.2.symm
          · omega
end Go.Proofs.YtdhckbjebccdbaaDoor
