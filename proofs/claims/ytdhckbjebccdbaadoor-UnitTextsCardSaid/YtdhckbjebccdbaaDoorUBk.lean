/- Plain facts: what is printed as a quantity is read as it was. No program stands in this text. -/
import Derived.Test.YtdhckbjebccdbaaDoorUAg
namespace Go.Proofs.YtdhckbjebccdbaaDoor

/-! ### digits of a number -/
theorem dd_facts (u : Nat) : dgs (Lib.decDigits u) = true ∧ Lib.decDigits u ≠ [] ∧ val (Lib.decDigits u) = u ∧ ((Lib.decDigits u).head? ≠ some 48 ∨ Lib.decDigits u = [48]) ∧ (1 ≤ u → (Lib.decDigits u).head? ≠ some 48) := by
  induction u using Nat.strongRecOn with
  | _ u ih =>
    have hc : ∀ k, k < 10 → (UInt8.ofNat (48 + k)).toNat = 48 + k := fun k hk => by rw [UInt8.toNat_ofNat']; omega
    have hdg : ∀ k, k < 10 → isDg (UInt8.ofNat (48 + k)) = true := fun k hk => by rw [isDg_iff, hc k hk]; omega
    by_cases h : u < 10
    · rw [Lib.decDigits_one h]
      have hh : 1 ≤ u → ([UInt8.ofNat (48 + u)] : List UInt8).head? ≠ some 48 := fun h1 e => by
        have := congrArg UInt8.toNat (Option.some.inj e)
        rw [hc u h] at this
        simp at this
        omega
      refine ⟨by show (isDg _ && true) = true; rw [hdg u h]; rfl, by simp, ?_, ?_, hh⟩
      · simp only [val, List.foldl_cons, List.foldl_nil]; rw [hc u h]; omega
      · by_cases h0 : u = 0
        · right; subst h0; rfl
        · left; exact hh (by omega)
    · rw [Lib.decDigits, dif_neg h]
      obtain ⟨a, b, c, _, e⟩ := ih (u / 10) (by omega)
      have e' := e (by omega)
      have hh : (Lib.decDigits (u / 10) ++ [UInt8.ofNat (48 + u % 10)]).head? ≠ some 48 := by
        cases hd : Lib.decDigits (u / 10) with
        | nil => exact absurd hd b
        | cons x l => rw [hd] at e'; simpa using e'
      refine ⟨by rw [dgs_snoc, a, hdg _ (by omega)]; rfl, by simp, ?_, .inl hh, fun _ => hh⟩
      rw [val_snoc, c, hc _ (by omega)]
      omega
theorem itoa_facts (n : Int) (h : 0 ≤ n) : dgs (Lib.itoa n) = true ∧ Lib.itoa n ≠ [] ∧ val (Lib.itoa n) = n ∧ ((Lib.itoa n).head? ≠ some 48 ∨ Lib.itoa n = [48]) := by
  have e : Lib.itoa n = Lib.decDigits n.toNat := by unfold Lib.itoa; rw [if_neg (by omega)]
  obtain ⟨a, b, c, d, _⟩ := dd_facts n.toNat
  rw [e]
  exact ⟨a, b, by rw [c]; omega, d⟩
/-- the digits of a number, with zeros in front -/
def padD : Nat → Nat → List UInt8
  | 0, _ => []
  | d + 1, r => padD d (r / 10) ++ [UInt8.ofNat (48 + r % 10)]
theorem pad_facts (d r : Nat) (h : r < 10 ^ d) : dgs (padD d r) = true ∧ (padD d r).length = d ∧ val (padD d r) = r := by
  induction d generalizing r with
  | zero => simp at h; subst h; exact ⟨rfl, rfl, rfl⟩
  | succ d ih =>
    rw [Nat.pow_succ] at h
    obtain ⟨a, b, c⟩ := ih (r / 10) (by omega)
    have hc : (UInt8.ofNat (48 + r % 10)).toNat = 48 + r % 10 := by rw [UInt8.toNat_ofNat']; omega
    unfold padD
    refine ⟨?_, by simp [b], ?_⟩
    · rw [dgs_snoc, a, Bool.true_and, isDg_iff, hc]; omega
    · rw [val_snoc, c, hc]; omega
theorem trim_is (Q : List UInt8) : ∃ k, Q = Lib.trimRightB Q 48 ++ List.replicate k 48 ∧ (Lib.trimRightB Q 48).getLast? ≠ some 48 := by
  refine snoc_ind (P := fun Q => ∃ k, Q = Lib.trimRightB Q 48 ++ List.replicate k 48 ∧ (Lib.trimRightB Q 48).getLast? ≠ some 48) ⟨0, rfl, by simp [Lib.trimRightB]⟩ (fun m c ih => ?_) Q
  by_cases h : c = 48
  · subst h
    have e : Lib.trimRightB (m ++ [48]) 48 = Lib.trimRightB m 48 := by simp [Lib.trimRightB]
    obtain ⟨k, h1, h2⟩ := ih
    rw [e]
    refine ⟨k + 1, ?_, h2⟩
    rw [List.replicate_succ', ← List.append_assoc, ← h1]
  · have e : Lib.trimRightB (m ++ [c]) 48 = m ++ [c] := by simp [Lib.trimRightB, h]
    rw [e]
    exact ⟨0, by simp, by simpa using h⟩
theorem frac_is (d : Nat) (r : Nat) (h : r < 10 ^ d) (hr : r ≠ 0) : ∃ P : List UInt8, frac (10 ^ d) r = 46 :: P ∧ dgs P = true ∧ P ≠ [] ∧ P.getLast? ≠ some 48 ∧ P.length ≤ d ∧ val P * 10 ^ (d - P.length) = r := by
  obtain ⟨a, b, c⟩ := pad_facts d r h
  have e : (10 : Int) ^ d + r = val (49 :: padD d r) := by
    have := val_app [49] (padD d r)
    rw [show val [49] = 1 by decide, b, c] at this
    show _ = val ([49] ++ padD d r)
    rw [this]; omega
  obtain ⟨k, h1, h2⟩ := trim_is (padD d r)
  refine ⟨Lib.trimRightB (padD d r) 48, ?_, ?_, ?_, h2, ?_, ?_⟩
  · unfold frac
    rw [if_neg (by omega), e, itoa_val _ (by show (isDg 49 && dgs (padD d r)) = true; rw [a]; decide) (by simp) (.inl (by simp))]
    rfl
  · have a' := a
    rw [h1, dgs_app, Bool.and_eq_true] at a'
    exact a'.1
  · intro e0
    rw [e0, List.nil_append] at h1
    rw [h1, (zeros_val k).1] at c
    omega
  · have := congrArg List.length h1
    rw [b] at this
    simp at this
    omega
  · have hl := congrArg List.length h1
    rw [b] at hl
    simp only [List.length_append, List.length_replicate] at hl
    have hv := congrArg val h1
    rw [c, val_app, (zeros_val k).1, List.length_replicate] at hv
    rw [show d - (Lib.trimRightB (padD d r) 48).length = k by omega]
    omega

/-! ### a text is parted at a byte -/
theorem index_none (l : List UInt8) (c : UInt8) (h : c ∉ l) : Lib.index l [c] = -1 := by
  induction l with
  | nil => rfl
  | cons b l ih =>
    have hb : ¬ c = b := fun e => h (by rw [e]; exact .head _)
    unfold Lib.index
    rw [if_neg (by simp [List.isPrefixOf, hb]), ih (fun e => h (.tail _ e))]; rfl
theorem index_app (m l : List UInt8) (c : UInt8) (h : c ∉ m) : Lib.index (m ++ c :: l) [c] = m.length := by
  induction m with
  | nil => unfold Lib.index; simp [List.isPrefixOf]
  | cons b m ih =>
    have hb : ¬ c = b := fun e => h (by rw [e]; exact .head _)
    have i := ih (fun e => h (.tail _ e))
    show Lib.index (b :: (m ++ c :: l)) [c] = _
    unfold Lib.index
    rw [if_neg (by simp [List.isPrefixOf, hb]), i, if_neg (by simp)]
    simp
theorem cut_none (l : List UInt8) (c : UInt8) (h : c ∉ l) : Lib.cut l [c] = (l, [], false) := by
  unfold Lib.cut
  rw [index_none l c h, if_neg (by omega)]
theorem cut_app (m l : List UInt8) (c : UInt8) (h : c ∉ m) : Lib.cut (m ++ c :: l) [c] = (m, l, true) := by
  unfold Lib.cut
  rw [index_app m l c h, if_pos (by omega)]
  simp
theorem dgs_not (l : List UInt8) (h : dgs l = true) (c : UInt8) (hc : isDg c = false) : c ∉ l := by
  intro hm
  unfold dgs at h
  rw [List.all_eq_true] at h
  rw [h c hm] at hc
  cases hc
theorem suffix_no (P : List UInt8) (h : P.getLast? ≠ some 48) : Lib.hasSuffix P [48] = false := by
  rw [Bool.eq_false_iff]
  intro hs
  unfold Lib.hasSuffix at hs
  rw [List.isSuffixOf_iff_suffix] at hs
  obtain ⟨t, rfl⟩ := hs
  exact h (by simp)

/-! ### what does not saturate -/
theorem valF_ge (l : List UInt8) (n : Int) (h : dgs l = true) (h0 : 0 ≤ n) : n ≤ valF n l := by
  induction l generalizing n with
  | nil => exact Int.le_refl _
  | cons c l ih =>
    have h' : (isDg c && dgs l) = true := h
    rw [Bool.and_eq_true, isDg_iff] at h'
    have := ih (10 * n + ((c.toNat : Int) - 48)) h'.2 (by omega)
    show n ≤ valF (10 * n + ((c.toNat : Int) - 48)) l
    omega
theorem sval_of (l : List UInt8) (n : Int) (h : dgs l = true) (h0 : 0 ≤ n) (hv : valF n l ≤ 1125899906842624) : sval n l = valF n l := by
  induction l generalizing n with
  | nil => rfl
  | cons c l ih =>
    have h' : (isDg c && dgs l) = true := h
    rw [Bool.and_eq_true, isDg_iff] at h'
    have hv' : valF (10 * n + ((c.toNat : Int) - 48)) l ≤ 1125899906842624 := hv
    have hg := valF_ge l (10 * n + ((c.toNat : Int) - 48)) h'.2 (by omega)
    show sval (ap n ((c.toNat : Int) - 48)) l = valF (10 * n + ((c.toNat : Int) - 48)) l
    rw [show ap n ((c.toNat : Int) - 48) = 10 * n + ((c.toNat : Int) - 48) by unfold ap; omega]
    exact ih _ h'.2 (by omega) hv'
theorem up_of (k j : Nat) (hj : j ≤ k) (n : Int) (h0 : 0 ≤ n) (h : n * 10 ^ j ≤ 1125899906842624) : up k n (10 ^ j) = n * 10 ^ j := by
  induction k generalizing j n with
  | zero =>
    obtain rfl : j = 0 := by omega
    simp [up]
  | succ k ih =>
    unfold up
    cases j with
    | zero => simp
    | succ j =>
      have hp := pow1 j
      have e : n * 10 ^ (j + 1) = (10 * n) * 10 ^ j := by rw [Int.pow_succ, Int.mul_comm 10 n, Int.mul_assoc, Int.mul_comm 10]
      rw [e] at h ⊢
      have hm := Int.mul_le_mul_of_nonneg_left hp (show 0 ≤ 10 * n by omega)
      rw [Int.pow_succ, if_pos (by omega), Int.mul_ediv_cancel _ (by decide), show ap n 0 = 10 * n by unfold ap; omega]
      exact ih j (by omega) _ (by omega) h

/-! ### what is printed is read as it was -/
theorem parts_of (G : Bool) (W P : List UInt8) (hW : dgs W = true) (hWn : W ≠ []) (hP : dgs P = true) :
    dgG ((if G then [45] else []) ++ W ++ (if P = [] then [] else 46 :: P)) = G ∧ dgW ((if G then [45] else []) ++ W ++ (if P = [] then [] else 46 :: P)) = W ∧
    dgP ((if G then [45] else []) ++ W ++ (if P = [] then [] else 46 :: P)) = P ∧ dgT ((if G then [45] else []) ++ W ++ (if P = [] then [] else 46 :: P)) = !(P == []) := by
  have h46 := dgs_not W hW 46 (by decide)
  have hu : dgG ((if G then [45] else []) ++ W ++ (if P = [] then [] else 46 :: P)) = G ∧ dgU ((if G then [45] else []) ++ W ++ (if P = [] then [] else 46 :: P)) = W ++ (if P = [] then [] else 46 :: P) := by
    cases G with
    | true =>
      simp only [if_true]
      have e : Lib.hasPrefix ([45] ++ W ++ (if P = [] then [] else 46 :: P)) [45] = true := by simp [Lib.hasPrefix, List.isPrefixOf]
      exact ⟨e, by unfold dgU Lib.trimPrefix; rw [if_pos e]; rfl⟩
    | false =>
      simp only [Bool.false_eq_true, if_false, List.nil_append]
      have e : Lib.hasPrefix (W ++ (if P = [] then [] else 46 :: P)) [45] = false := by
        cases W with
        | nil => exact absurd rfl hWn
        | cons x W =>
          have h45 := dgs_not (x :: W) hW 45 (by decide)
          have hx : ¬ 45 = x := fun e => h45 (by rw [e]; exact .head _)
          simp [Lib.hasPrefix, List.isPrefixOf, hx]
      exact ⟨e, by unfold dgU Lib.trimPrefix; rw [if_neg (by rw [e]; simp)]⟩
  obtain ⟨u1, u2⟩ := hu
  unfold dgW dgP dgT
  rw [u2]
  by_cases hp : P = []
  · subst hp
    simp only [↓reduceIte, List.append_nil] at u1 ⊢
    rw [cut_none W 46 h46]
    exact ⟨u1, rfl, rfl, rfl⟩
  · simp only [hp, ↓reduceIte] at u1 ⊢
    rw [cut_app W P 46 h46]
    exact ⟨u1, rfl, rfl, by simp [hp]⟩

theorem dec_shape (a : Int) (d : Nat) (hd : d ≤ 8) (a0 : -1125899906842624 ≤ a) (a1 : a ≤ 1125899906842624) :
    ∃ (G : Bool) (W P : List UInt8) (n : Int), dec a (10 ^ d) = (if G then [45] else []) ++ W ++ (if P = [] then [] else 46 :: P) ∧ dgs W = true ∧ W ≠ [] ∧ (W.head? ≠ some 48 ∨ W = [48]) ∧ dgs P = true ∧ P.getLast? ≠ some 48 ∧ P.length ≤ d ∧ W.length ≤ 16 - d ∧
      val (W ++ P) * 10 ^ (d - P.length) = n ∧ ((G = true ∧ a = -n ∧ 1 ≤ n) ∨ (G = false ∧ a = n ∧ 0 ≤ n)) := by
  have key : ∀ n : Int, 0 ≤ n → n ≤ 1125899906842624 → ∃ W P : List UInt8, Lib.itoa (n / 10 ^ d) ++ frac (10 ^ d) (n % 10 ^ d) = W ++ (if P = [] then [] else 46 :: P) ∧ dgs W = true ∧ W ≠ [] ∧ (W.head? ≠ some 48 ∨ W = [48]) ∧ dgs P = true ∧ P.getLast? ≠ some 48 ∧ P.length ≤ d ∧ W.length ≤ 16 - d ∧ val (W ++ P) * 10 ^ (d - P.length) = n := by
    intro n n0 n1
    have hp := pow1 d
    have q0 : 0 ≤ n / 10 ^ d := Int.ediv_nonneg n0 (by omega)
    have r0 : 0 ≤ n % 10 ^ d := Int.emod_nonneg _ (by omega)
    have r1 : n % 10 ^ d < 10 ^ d := Int.emod_lt_of_pos _ (by omega)
    have hm : n / 10 ^ d * 10 ^ d + n % 10 ^ d = n := by rw [Int.mul_comm]; exact Int.mul_ediv_add_emod n (10 ^ d)
    obtain ⟨i1, i2, i3, i4⟩ := itoa_facts (n / 10 ^ d) q0
    have hlen : (Lib.itoa (n / 10 ^ d)).length ≤ 16 - d := by
      have hq : n / 10 ^ d < 10 ^ (16 - d) := by
        have e : (10 : Int) ^ (16 - d) * 10 ^ d = 10000000000000000 := by rw [← Int.pow_add, show 16 - d + d = 16 by omega]; decide
        refine Int.lt_of_mul_lt_mul_right (a := 10 ^ d) ?_ (by omega)
        rw [e]; omega
      have e : Lib.itoa (n / 10 ^ d) = Lib.decDigits (n / 10 ^ d).toNat := by unfold Lib.itoa; rw [if_neg (by omega)]
      rw [e]
      have := (dec_len (n / 10 ^ d).toNat (15 - d) (by
        rw [show 15 - d + 1 = 16 - d by omega]
        have h2 : ((n / 10 ^ d).toNat : Int) < ((10 ^ (16 - d) : Nat) : Int) := by
          rw [Int.toNat_of_nonneg q0]; exact_mod_cast hq
        exact_mod_cast h2)).2
      omega
    by_cases hr : n % 10 ^ d = 0
    · refine ⟨Lib.itoa (n / 10 ^ d), [], ?_, i1, i2, i4, rfl, by simp, by simp, hlen, ?_⟩
      · unfold frac; rw [if_pos hr]; rfl
      · rw [List.append_nil, i3]
        show n / 10 ^ d * 10 ^ (d - 0) = n
        rw [Nat.sub_zero]; omega
    · obtain ⟨P, p1, p2, p3, p4, p5, p6⟩ := frac_is d (n % 10 ^ d).toNat (by
        have h2 : ((n % 10 ^ d).toNat : Int) < ((10 ^ d : Nat) : Int) := by
          rw [Int.toNat_of_nonneg r0]; exact_mod_cast r1
        exact_mod_cast h2) (by omega)
      rw [Int.toNat_of_nonneg r0] at p1 p6
      refine ⟨Lib.itoa (n / 10 ^ d), P, ?_, i1, i2, i4, p2, p4, p5, hlen, ?_⟩
      · rw [p1, if_neg p3]
      · rw [val_app, i3, Int.add_mul, p6, Int.mul_assoc, ← Int.pow_add, show P.length + (d - P.length) = d by omega]
        exact hm
  by_cases h : a < 0
  · obtain ⟨W, P, h1, h2, h3, h4, h5, h6, h7, h8, h9⟩ := key (-a) (by omega) (by omega)
    refine ⟨true, W, P, -a, ?_, h2, h3, h4, h5, h6, h7, h8, h9, .inl ⟨rfl, by omega, by omega⟩⟩
    unfold dec
    rw [if_pos h, h1]
    rfl
  · obtain ⟨W, P, h1, h2, h3, h4, h5, h6, h7, h8, h9⟩ := key a (by omega) a1
    refine ⟨false, W, P, a, ?_, h2, h3, h4, h5, h6, h7, h8, h9, .inr ⟨rfl, rfl, by omega⟩⟩
    unfold dec
    rw [if_neg h, h1]
    rfl

theorem read_dec (a : Int) (d : Nat) (hd : d ≤ 8) (a0 : -1125899906842624 ≤ a) (a1 : a ≤ 1125899906842624) :
    dcB (dec a (10 ^ d)) = true ∧ tiB (dcC (dec a (10 ^ d))) (10 ^ d) = true ∧ tiV (dcG (dec a (10 ^ d))) (dcN (dec a (10 ^ d))) (dcC (dec a (10 ^ d))) (10 ^ d) = a ∧ (32 : UInt8) ∉ dec a (10 ^ d) := by
  obtain ⟨G, W, P, n, e, h2, h3, h4, h5, h6, h7, h8, h9, h10⟩ := dec_shape a d hd a0 a1
  obtain ⟨g1, g2, g3, g4⟩ := parts_of G W P h2 h3 h5
  rw [← e] at g1 g2 g3 g4
  generalize dec a (10 ^ d) = l at *
  have hpow := pow1 (d - P.length)
  have hn : n ≤ 1125899906842624 := by omega
  have hn0 : 0 ≤ n := by omega
  have hvb := val_bd (W ++ P) (by rw [dgs_app, h2, h5]; rfl)
  have hv : val (W ++ P) ≤ 1125899906842624 := by
    have := Int.mul_le_mul_of_nonneg_left hpow hvb.1
    omega
  have hvW : val W ≤ val (W ++ P) := by rw [← valF_app]; exact valF_ge P _ h5 (val_bd W h2).1
  have s1 : sval 0 W = val W := sval_of W 0 h2 (by omega) (by show val W ≤ _; omega)
  have s2 : sval (val W) P = val (W ++ P) := by rw [← valF_app]; exact sval_of P _ h5 (val_bd W h2).1 (by rw [valF_app]; exact hv)
  have hN : dgN l = val (W ++ P) := by
    unfold dgN dg2 dg1
    rw [g4, g2, g3]
    unfold rdV
    rw [if_pos h2, if_pos h5, s1]
    by_cases hp : P = []
    · subst hp; simp
    · rw [if_pos (by simp [hp]), s2]
  have hB : dcB l = true := by
    unfold dcB
    rw [g1, g2, g3, g4, hN]
    have b1 : rdB W = true := by unfold rdB; rw [h2]; simp [h3]
    have b2 : (!(W.head? == some 48) || W == [48]) = true := by
      rcases h4 with h | h
      · simp [h]
      · simp [h]
    have b3 : (!(!(P == [])) || (rdB P && !Lib.hasSuffix P [48])) = true := by
      by_cases hp : P = []
      · simp [hp]
      · have : rdB P = true := by unfold rdB; rw [h5]; simp [hp]
        rw [this, suffix_no P h6]; simp
    have b4 : (!(G && (val (W ++ P) == 0))) = true := by
      rcases h10 with ⟨rfl, _, h⟩ | ⟨rfl, _⟩
      · have : val (W ++ P) ≠ 0 := fun h0 => by rw [h0] at h9; omega
        simp [this]
      · rfl
    rw [b1, b2, b3, b4, decide_eq_true (show W.length + P.length ≤ 20 by omega)]
    rfl
  have eG : dcG l = G := by simp [dcG, hB, g1]
  have eN : dcN l = val (W ++ P) := by simp [dcN, hB, hN]
  have eC : dcC l = P.length := by simp [dcC, hB, g3]
  have hs : shr ((P.length : Int)).toNat (10 ^ d) = 10 ^ (d - P.length) := by
    rw [show ((P.length : Int)).toNat = P.length from rfl, shr_pow, if_pos h7]
  have hT : tiB (dcC l) (10 ^ d) = true := by
    rw [eC]; unfold tiB; rw [hs]; exact decide_eq_true hpow
  refine ⟨hB, hT, ?_, ?_⟩
  · unfold tiV
    rw [if_pos hT, eC, eN, eG, hs, up_of 9 _ (by omega) _ hvb.1 (by rw [h9]; exact hn), h9]
    rcases h10 with ⟨rfl, h, _⟩ | ⟨rfl, h, _⟩
    · rw [h]; rfl
    · rw [h]; rfl
  · rw [e]
    have w1 := dgs_not W h2 32 (by decide)
    have w2 := dgs_not P h5 32 (by decide)
    intro hm
    rcases List.mem_append.1 hm with hm | hm
    · rcases List.mem_append.1 hm with hm | hm
      · cases G <;> simp at hm
      · exact w1 hm
    · split at hm
      · cases hm
      · rcases List.mem_cons.1 hm with h | h
        · exact absurd h (by decide)
        · exact w2 h

/-- what is printed as a quantity is read as it was -/
theorem back (k a : Int) (u : List UInt8) (hq : qE k a = 0) (hu : isU u = true) (hk : uK u = k) :
    prE k a u = 0 ∧ psE (prL k a u) = 0 ∧ psK (prL k a u) = k ∧ psA (prL k a u) = a ∧ Lib.hasSuffix (prL k a u) (32 :: u) = true := by
  have hb := qE_bd k a hq
  have he : prE k a u = 0 := by unfold prE; rw [if_pos hq, if_pos hu, if_pos hk]
  obtain ⟨d, hd, hf⟩ := unit_pow u hu
  obtain ⟨c1, c2, c3, c4⟩ := read_dec a d hd (by omega) (by omega)
  have e : prL k a u = dec a (10 ^ d) ++ 32 :: u := by unfold prL; rw [if_pos he, hf, List.append_assoc]; rfl
  have hl := dec_bd a (10 ^ d) (by omega) (by omega) (by have := pow1 d; omega) (by rw [← hf]; exact (unit_bd u hu).2.2.2)
  have hul := unit_len u hu
  have hc : Lib.cut (prL k a u) [32] = (dec a (10 ^ d), u, true) := by rw [e]; exact cut_app _ _ _ c4
  have hN : psN (prL k a u) = dec a (10 ^ d) := by unfold psN; rw [hc]
  have hU : psU (prL k a u) = u := by unfold psU; rw [hc]
  have hV : psV (prL k a u) = a := by unfold psV; rw [hN, hU, hf]; exact c3
  have hE : psE (prL k a u) = 0 := by
    unfold psE
    rw [hV, hN, hU, hf, hk, hu, c1, c2, hq, if_neg (by rw [e]; simp; omega)]
    rfl
  refine ⟨he, hE, by unfold psK; rw [if_pos hE, hU, hk], by unfold psA; rw [if_pos hE, hV], ?_⟩
  rw [e]
  unfold Lib.hasSuffix
  rw [List.isSuffixOf_iff_suffix]
  exact List.suffix_append _ _
end Go.Proofs.YtdhckbjebccdbaaDoor
