/- Plain facts of the statements of layer 7: refined heights, heights that go on, parts. And slices that read as lists. -/
import Derived.Test.YtlofblpfohnooaaSRefI
import Derived.Test.YtlofblpfohnooaaSRefF
namespace Go.Proofs.Ytlofblpfohnooaa
open Go.RowKit

theorem Nums.shape {W : World} {v : Value} {zs : List Int} (h : Nums W v zs) : ∃ a cap, v = .slice a zs.length cap ∧ zs.length ≤ cap ∧ cap ≤ 9223372036854775807 := by
  obtain ⟨a, cap, e, ⟨h1, h2⟩, _⟩ := h
  exact ⟨a, cap, e, h1, h2⟩
theorem Nums.len {W : World} {a : Option Addr} {n cap : Nat} {zs : List Int} (h : Nums W (.slice a n cap) zs) : n = zs.length := by
  obtain ⟨a', c', e, _⟩ := h
  simp only [Value.slice.injEq] at e
  exact e.2.1
theorem Nums.at {W : World} {a : Option Addr} {n cap : Nat} {zs : List Int} (h : Nums W (.slice a n cap) zs) (h0 : 0 < n) :
    ∃ b off, a = some ⟨b, off, none⟩ ∧ b < W.heap.size ∧ ∀ j, j < n → W.cell? ⟨b, off + j, none⟩ = some (.int .i64 (zs.getD j 0)) := by
  have hl := h.len
  obtain ⟨a', c', e, _, hh⟩ := h
  simp only [Value.slice.injEq] at e
  obtain ⟨rfl, rfl, rfl⟩ := e
  rcases hh with hh | hh
  · omega
  · exact hh

theorem getD_app_l {l m : List Int} {i : Nat} (h : i < l.length) : (l ++ m).getD i 0 = l.getD i 0 := by
  rw [List.getD_eq_getElem?_getD, List.getD_eq_getElem?_getD, List.getElem?_append_left h]
theorem getD_app_r {l m : List Int} {i : Nat} (h : l.length ≤ i) : (l ++ m).getD i 0 = m.getD (i - l.length) 0 := by
  rw [List.getD_eq_getElem?_getD, List.getD_eq_getElem?_getD, List.getElem?_append_right h]
theorem rfk_even (l : List Int) (k i : Nat) (h : i ≤ k) : (rfk l k).getD (2 * i) 0 = l.getD i 0 := by
  induction k with
  | zero => obtain rfl : i = 0 := by omega
            rfl
  | succ k ih =>
    have hl := rfk_len l k
    show (rfk l k ++ _).getD (2 * i) 0 = _
    by_cases hi : i ≤ k
    · rw [getD_app_l (by omega)]; exact ih hi
    · obtain rfl : i = k + 1 := by omega
      rw [getD_app_r (by omega), hl, show 2 * (k + 1) - (2 * k + 1) = 1 by omega]; rfl
theorem rfk_odd (l : List Int) (k i : Nat) (h : i < k) : (rfk l k).getD (2 * i + 1) 0 = (l.getD i 0 + l.getD (i + 1) 0) / 2 := by
  induction k with
  | zero => omega
  | succ k ih =>
    have hl := rfk_len l k
    show (rfk l k ++ _).getD (2 * i + 1) 0 = _
    by_cases hi : i < k
    · rw [getD_app_l (by omega)]; exact ih hi
    · obtain rfl : i = k := by omega
      rw [getD_app_r (by omega), hl, show 2 * i + 1 - (2 * i + 1) = 0 by omega]; rfl
theorem rfk_right {l : List Int} (h : HR l) (h1 : l.length ≤ 33) : HR (rfk l (l.length - 1)) := by
  have hl := rfk_len l (l.length - 1)
  have n0 := h.n0
  refine ⟨by omega, by omega, fun i hi => ?_, fun i hi => ?_⟩
  · rcases Nat.mod_two_eq_zero_or_one i with e | e
    · rw [show i = 2 * (i / 2) by omega, rfk_even _ _ _ (by omega)]
      exact h.bd _ (by omega)
    · rw [show i = 2 * (i / 2) + 1 by omega, rfk_odd _ _ _ (by omega)]
      have a := h.bd (i / 2) (by omega)
      have b := h.bd (i / 2 + 1) (by omega)
      omega
  · rcases Nat.mod_two_eq_zero_or_one i with e | e
    · have a := h.asc (i / 2) (by omega)
      have e0 := rfk_even l (l.length - 1) (i / 2) (by omega)
      have e1 := rfk_odd l (l.length - 1) (i / 2) (by omega)
      rw [show 2 * (i / 2) = i by omega] at e0 e1
      omega
    · have a := h.asc (i / 2) (by omega)
      have e0 := rfk_odd l (l.length - 1) (i / 2) (by omega)
      have e1 := rfk_even l (l.length - 1) (i / 2 + 1) (by omega)
      rw [show 2 * (i / 2) + 1 = i by omega] at e0
      rw [show 2 * (i / 2 + 1) = i + 1 by omega] at e1
      omega
theorem arE_zero {r c : Int} {l : List Int} : arE r c l = 0 ↔ ((0 ≤ r ∧ r ≤ 100000) ∧ 0 ≤ c ∧ c ≤ 100000) ∧ HR l := by
  unfold arE
  have i1 := lenB_iff r
  have i2 := lenB_iff c
  by_cases h : lenB r = true ∧ lenB c = true
  · rw [if_pos h, hcE_iff]; exact ⟨fun g => ⟨⟨i1.1 h.1, i2.1 h.2⟩, g⟩, fun g => g.2⟩
  · rw [if_neg h]; exact ⟨fun g => by omega, fun g => absurd ⟨i1.2 g.1.1, i2.2 g.1.2⟩ h⟩
theorem ar_none {r c : Int} {l : List Int} (h : arE r c l ≠ 0) : arL r c l = 0 ∧ arH r c l = 0 := by
  unfold arL arH; rw [if_neg h, if_neg h]; exact ⟨rfl, rfl⟩
theorem ar_some {r c : Int} {l : List Int} (h : arE r c l = 0) : arL r c l = prL r c l (l.length - 1) ∧ arH r c l = prH r c l (l.length - 1) := by
  unfold arL arH; rw [if_pos h, if_pos h]; exact ⟨rfl, rfl⟩
theorem ar_bd {r c : Int} {l : List Int} (h : arE r c l = 0) : 0 ≤ arL r c l ∧ arL r c l ≤ arH r c l ∧ arH r c l ≤ 40000000000 := by
  obtain ⟨⟨⟨r0, r1⟩, _⟩, hR⟩ := arE_zero.1 h
  rw [(ar_some h).1, (ar_some h).2]
  exact pr_le r0 r1 hR _ (by have := hR.n0; omega)
theorem fin_facts {r c : Int} {l : List Int} (e : arE r c l = 0) (f : rfE l = 0) :
    2 ≤ l.length ∧ (rfL l).length = 2 * l.length - 1 ∧ l.length ≤ 33 ∧ hcE (rfL l) = 0 ∧ arE r c (rfL l) = 0 ∧ (arL r c l ≤ arL r c (rfL l) ∧ arL r c (rfL l) ≤ arH r c (rfL l) ∧ arH r c (rfL l) ≤ arH r c l) ∧ ∀ i, i < l.length → (rfL l).getD (2 * i) 0 = l.getD i 0 := by
  obtain ⟨hrc, hR⟩ := arE_zero.1 e
  have n0 := hR.n0
  have n1 : l.length ≤ 33 := by
    unfold rfE at f
    rw [if_pos ((hcE_iff l).2 hR)] at f
    by_cases h : 65 < 2 * l.length - 1
    · rw [if_pos h] at f; omega
    · omega
  have em : rfL l = rfk l (l.length - 1) := by unfold rfL; rw [if_pos f]
  rw [em]
  have hl := rfk_len l (l.length - 1)
  have hM := rfk_right hR n1
  have e2 : arE r c (rfk l (l.length - 1)) = 0 := arE_zero.2 ⟨hrc, hM⟩
  have hf := pr_finer (r := r) (c := c) (m := rfk l (l.length - 1)) hrc.1.1 hR (fun i hi => rfk_even _ _ _ (by omega)) (fun i hi => by
    rw [rfk_odd _ _ _ (by omega)]
    have := hR.asc i hi
    omega) (l.length - 1) (by omega)
  have b := ar_bd e2
  refine ⟨n0, by omega, n1, (hcE_iff _).2 hM, e2, ?_, fun i hi => rfk_even _ _ _ (by omega)⟩
  rw [(ar_some e).1, (ar_some e).2]
  rw [(ar_some e2).1, (ar_some e2).2] at b ⊢
  rw [hl, show 2 * (l.length - 1) + 1 - 1 = 2 * (l.length - 1) by omega] at b ⊢
  exact ⟨hf.1, b.2.1, hf.2⟩
theorem rf_none {l : List Int} (h : rfE l ≠ 0) : rfL l = [] := by unfold rfL; rw [if_neg h]

/-! ### heights that go on, greater radii -/
theorem grow_next {r c x : Int} {l : List Int} (e : arE r c l = 0) (f : arE r c (l ++ [x]) = 0) : arL r c l ≤ arL r c (l ++ [x]) ∧ arH r c l ≤ arH r c (l ++ [x]) := by
  obtain ⟨hrc, hR⟩ := arE_zero.1 e
  obtain ⟨_, hM⟩ := arE_zero.1 f
  have n0 := hR.n0
  rw [(ar_some e).1, (ar_some e).2, (ar_some f).1, (ar_some f).2]
  have hl : (l ++ [x]).length - 1 = (l.length - 1) + 1 := by simp; omega
  have s := pr_same (r := r) (c := c) (l := l) (m := l ++ [x]) (l.length - 1) (fun i hi => (getD_app_l (by omega)).symm)
  rw [hl, s.1, s.2]
  have b := of_bd r c _ _ hrc.1.1 (hM.asc (l.length - 1) (by simp; omega))
  show _ ≤ prL r c (l ++ [x]) (l.length - 1) + _ ∧ _ ≤ prH r c (l ++ [x]) (l.length - 1) + _
  omega
theorem grow_more {r s c : Int} {l : List Int} (h : r ≤ s) (e : arE r c l = 0) (f : arE s c l = 0) : arL r c l ≤ arL s c l ∧ arH r c l ≤ arH s c l := by
  obtain ⟨hrc, hR⟩ := arE_zero.1 e
  have n0 := hR.n0
  rw [(ar_some e).1, (ar_some e).2, (ar_some f).1, (ar_some f).2]
  exact pr_wider hrc.1.1 h hR _ (by omega)
/-! ### whole areas -/
theorem wh_none {r : Int} (h : whE r ≠ 0) : whL r = 0 ∧ whH r = 0 := by
  have : ¬ lenB r = true := fun g => h (by unfold whE; rw [if_pos g])
  unfold whL whH; rw [if_neg this, if_neg this]; exact ⟨rfl, rfl⟩
theorem he_none {t n : Int} (h : heE t n ≠ 0) : heL t n = [] := by
  have : ¬ heB t n = true := fun g => h (by unfold heE; rw [if_pos g])
  unfold heL; rw [if_neg this]
theorem whole_facts {r c n : Int} (e : whE r = 0) (h1 : r ≤ c) (h2 : c ≤ 100000) (f : heE (c + r) n = 0) :
    arE r c (heL (c + r) n) = 0 ∧ whL r ≤ whH r ∧ arL r c (heL (c + r) n) ≤ arH r c (heL (c + r) n) ∧ arL r c (heL (c + r) n) ≤ whH r ∧ whL r ≤ arH r c (heL (c + r) n) := by
  have hb : lenB r = true := by
    cases h : lenB r with
    | true => rfl
    | false => unfold whE at e; rw [h] at e; simp at e
  obtain ⟨r0, r1⟩ := (lenB_iff r).1 hb
  have hh : heB (c + r) n = true := by
    cases h : heB (c + r) n with
    | true => rfl
    | false => unfold heE at f; rw [h] at f; simp at f
  obtain ⟨⟨t0, t1⟩, n0, n1⟩ := (heB_iff _ _).1 hh
  obtain ⟨R, rfl⟩ : ∃ R : Nat, r = R := ⟨r.toNat, by omega⟩
  have eh : heL (c + R) n = hs (c + R) n.toNat := by unfold heL; rw [if_pos hh]
  have hR := hs_right (c + R) n.toNat (by omega) (by omega) t0 t1
  have hl := hs_len (c + R) n.toNat
  rw [eh]
  have ea : arE R c (hs (c + R) n.toNat) = 0 := arE_zero.2 ⟨⟨⟨r0, r1⟩, by omega, h2⟩, hR⟩
  have b := ar_bd ea
  have wh := whole R c n.toNat (by omega) h1 h2 (by omega) (by omega)
  have s0 : 0 ≤ (R : Int) * R := Int.mul_nonneg r0 r0
  refine ⟨ea, ?_⟩
  unfold whL whH
  rw [if_pos hb, if_pos hb]
  rw [(ar_some ea).1, (ar_some ea).2, hl, show n.toNat + 1 - 1 = n.toNat by omega] at b ⊢
  generalize (R : Int) * R = S at *
  omega
end Go.Proofs.Ytlofblpfohnooaa
