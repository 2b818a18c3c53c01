/- The reference of layer 3: index, isDigits, decimal. -/
import Derived.Test.YtdhckbjebccdbaaDoorURTm
import Derived.Test.YtdhckbjebccdbaaDoorUParse
namespace Go.Proofs.YtdhckbjebccdbaaDoor
open Go.RowKit

set_option maxHeartbeats 1000000 in
theorem refIndex_core (s : ByteArray) (c : UInt8) (k V : Int) (w : World) (hk : k = c.toNat) (hs : s.size ≤ 9223372036854775807)
    (h1 : Hid (∀ i (h : i < s.size), c ∉ s.data.toList.take i → s[i] = c → V = i)) (h2 : Hid (c ∉ s.data.toList → V = -1)) :
    Calls Tryd.prog 37 #[.string s, .int .u8 k] w fun e w' => e = .returned (.int .i64 V) ∧ w = w' := by
  go_enter Tryd.func37, Tryd.ntmps37
  go_wp2_with fail
  go_loopw [5] (fun ii wr => ∃ i : Nat, i ≤ s.size ∧ ii = .int .i64 i ∧ w = wr ∧ Hid (c ∉ s.data.toList.take i)) (fun ii _ => s.size - (intOf ii).toNat)
  case atStart => exact ⟨0, by omega, rfl, rfl, by show _ ∉ _; simp⟩
  case round =>
    obtain ⟨i, hi, rfl, rfl, ha⟩ := hrel
    by_cases hlt : i < s.size
    · have HS : Hid (s[i] ≠ c → c ∉ s.data.toList.take (i + 1)) := fun h => by
        rw [take_snoc s i hlt, List.mem_append, List.mem_singleton]
        intro hc
        rcases hc with hc | hc
        · exact ha.out hc
        · exact h hc.symm
      have HY : Hid (s[i] = c → V = i) := h1.out i hlt ha.out
      have HE : Hid (s[i] = c ↔ (s[i].toNat : Int) = k) := by
        show _ ↔ _
        rw [hk]
        constructor
        · intro h; rw [h]
        · intro h; exact UInt8.toNat_inj.1 (by omega)
      by_cases hq : (s[i].toNat : Int) = k
      · have hq1 : ((s[i].toNat : Int) == k) = true := by simpa using hq
        have hv := HY.out (HE.out.2 hq)
        go_wp2
        go_returns
        exact ⟨by rw [hv]; rfl, rfl⟩
      · have hq1 : ((s[i].toNat : Int) == k) = false := by simpa using hq
        have hx := Lib.hid (HS.out (fun h => hq (HE.out.1 h)))
        clear hq HS HY HE
        go_wp2
        go_roundw
        case rel => exact ⟨i + 1, by omega, by go_num, by first | rfl | trivial, hx⟩
        case measure => simp [intOf]; omega
    · obtain rfl : i = s.size := by omega
      rw [take_all s s.size (Nat.le_refl _)] at ha
      obtain rfl := h2.out ha.out
      go_wp2
      go_returns
      exact ⟨rfl, rfl⟩
theorem refIndex_any (s : ByteArray) (c : UInt8) (k : Int) (w : World) (hk : k = c.toNat) (hs : s.size ≤ 9223372036854775807) :
    Calls Tryd.prog 37 #[.string s, .int .u8 k] w fun e w' => e = .returned (.int .i64 (Lib.index s.data.toList [c])) ∧ w = w' := by
  refine refIndex_core s c k _ w hk hs (fun i h hn hc => ?_) (fun h => index_none _ _ h)
  have hl : s.data.toList = s.data.toList.take i ++ c :: s.data.toList.drop (i + 1) := by
    have hd : i < s.data.toList.length := by simpa using h
    conv => lhs; rw [← List.take_append_drop i s.data.toList, List.drop_eq_getElem_cons hd]
    congr 2
  have hlen : (s.data.toList.take i).length = i := by
    have : i < s.data.toList.length := by simpa using h
    rw [List.length_take]; omega
  have hx := index_app (s.data.toList.take i) (s.data.toList.drop (i + 1)) c hn
  rw [← hl, hlen] at hx
  exact hx

set_option maxHeartbeats 1000000 in
theorem refDigs_core (s : ByteArray) (b : Bool) (w : World) (hs : s.size ≤ 9223372036854775807) (hb : Hid ((s.toList == []) = !b ∨ dgs s.data.toList = false)) (h1 : Hid (dgs s.data.toList = false → b = false)) :
    Calls Tryd.prog 48 #[.string s] w fun e w' => e = .returned (.bool b) ∧ w = w' := by
  go_enter Tryd.func48, Tryd.ntmps48
  go_wp2_with fail
  go_loopw [3] (fun ii wr => ∃ i : Nat, i ≤ s.size ∧ ii = .int .i64 i ∧ w = wr ∧ Hid (dgs (s.data.toList.take i) = true)) (fun ii _ => s.size - (intOf ii).toNat)
  case atStart => exact ⟨0, by omega, rfl, rfl, rfl⟩
  case round =>
    obtain ⟨i, hi, rfl, rfl, ha⟩ := hrel
    by_cases hlt : i < s.size
    · cases hc : isDg s[i] with
      | true =>
        have HA : Hid (dgs (s.data.toList.take (i + 1)) = true) := by show _ = _; rw [take_snoc s i hlt, dgs_snoc, ha.out, hc]; rfl
        obtain ⟨c0, c1⟩ := (isDg_iff _).1 hc
        clear hc
        have d0 : decide ((s[i].toNat : Int) < 48) = false := decide_eq_false (by omega)
        have d1 : decide ((57 : Int) < s[i].toNat) = false := decide_eq_false (by omega)
        go_wp2
        go_roundw
        case rel => exact ⟨i + 1, by omega, by go_num, by first | rfl | trivial, HA⟩
        case measure => simp [intOf]; omega
      | false =>
        obtain rfl := h1.out (dgs_take s i hlt hc)
        have hq := (isDg_not _).1 hc
        clear hc
        by_cases h48 : s[i].toNat < 48
        · have d0 : decide ((s[i].toNat : Int) < 48) = true := decide_eq_true (by omega)
          clear hq
          go_wp2
          go_returns
          exact ⟨rfl, rfl⟩
        · have d0 : decide ((s[i].toNat : Int) < 48) = false := decide_eq_false (by omega)
          have d1 : decide ((57 : Int) < s[i].toNat) = true := decide_eq_true (by omega)
          clear hq
          go_wp2
          go_returns
          exact ⟨rfl, rfl⟩
    · obtain rfl : i = s.size := by omega
      have ha' := ha.out
      rw [take_all s s.size (Nat.le_refl _)] at ha'
      have he : (s.toList == []) = !b := by
        rcases hb.out with h | h
        · exact h
        · rw [ha'] at h; cases h
      clear ha'
      cases b with
      | true =>
        have he2 : (s.toList != []) = true := by simp only [bne, he]; rfl
        go_wp2
        go_returns
        exact ⟨rfl, rfl⟩
      | false =>
        have he2 : (s.toList != []) = false := by simp only [bne, he]; rfl
        go_wp2
        go_returns
        exact ⟨rfl, rfl⟩
theorem refDigs_any (s : ByteArray) (w : World) (hs : s.size ≤ 9223372036854775807) :
    Calls Tryd.prog 48 #[.string s] w fun e w' => e = .returned (.bool (rdB s.data.toList)) ∧ w = w' := by
  refine refDigs_core s _ w hs ?_ (fun h => by unfold rdB; rw [h]; rfl)
  show _ ∨ _
  cases h : dgs s.data.toList with
  | false => exact .inr rfl
  | true => left; unfold rdB; rw [h, ByteArray.toList_eq]; simp

/-! ### decimal -/
set_option maxRecDepth 100000 in
set_option maxHeartbeats 4000000 in
theorem refDec_core (a n f : Int) (d : Nat) (neg : Bool) (X : List UInt8) (w : World) (hn : (neg = true ∧ 0 < n ∧ a = -n) ∨ (neg = false ∧ 0 ≤ a ∧ a = n)) (n0 : 0 ≤ n) (n1 : n ≤ 1125899906842624) (f0 : 1 ≤ f) (f1 : f ≤ 100000000) (hd : d ≤ 8)
    (HI : Hid (∀ m W, 0 ≤ m → m ≤ 1125899906842624 → Below w.heap.size w W → Calls Tryd.prog 43 #[.int .i64 m] W fun e w' => ∃ T : ByteArray, e = .returned (.string T) ∧ T.size ≤ 16 ∧ Hid (T = ⟨(Lib.itoa m).toArray⟩) ∧ Below W.heap.size W w'))
    (hf : Hid (f = 10 ^ d)) (hX : Hid (X = (if neg then [45] else []) ++ Lib.itoa (n / f) ++ (if n % f = 0 then [] else 46 :: fr d (n % f)))) :
    Calls Tryd.prog 34 #[.int .i64 a, .int .i64 f] w fun e w' => e = .returned (.string ⟨X.toArray⟩) ∧ Below w.heap.size w w' := by
  have r0 : 0 ≤ n % f := Int.emod_nonneg _ (by omega)
  have r1 : n % f < f := Int.emod_lt_of_pos _ (by omega)
  have q0 : 0 ≤ n / f := Int.ediv_nonneg (by omega) (by omega)
  have q1 : n / f ≤ n := Int.ediv_le_self _ n0
  have X0 := Lib.hid (Below.refl w.heap.size w)
  have z45 : (⟨#[45]⟩ : ByteArray).size = 1 := rfl
  have z46 : (⟨#[46]⟩ : ByteArray).size = 1 := rfl
  have z00 : (⟨#[]⟩ : ByteArray).size = 0 := rfl
  have hX1 : Hid (neg = true → n % f = 0 → ∀ T : ByteArray, T = ⟨(Lib.itoa (n / f)).toArray⟩ → ∃ L : List UInt8, (⟨#[45]⟩ : ByteArray) ++ T = ⟨L.toArray⟩ ∧ L ++ fr d (n % f) = X) := fun h1 h2 T hT =>
    ⟨[45] ++ Lib.itoa (n / f), by rw [hT, show (⟨#[45]⟩ : ByteArray) = ⟨[45].toArray⟩ from rfl, app_mk], by rw [h2, fr_zero, hX.out, if_pos h1, if_pos h2]⟩
  have hX2 : Hid (neg = true → ¬ n % f = 0 → ∀ T : ByteArray, T = ⟨(Lib.itoa (n / f)).toArray⟩ → ∃ L : List UInt8, (⟨#[45]⟩ : ByteArray) ++ T ++ ⟨#[46]⟩ = ⟨L.toArray⟩ ∧ L ++ fr d (n % f) = X) := fun h1 h2 T hT =>
    ⟨[45] ++ Lib.itoa (n / f) ++ [46], by rw [hT, show (⟨#[45]⟩ : ByteArray) = ⟨[45].toArray⟩ from rfl, show (⟨#[46]⟩ : ByteArray) = ⟨[46].toArray⟩ from rfl, app_mk, app_mk], by rw [hX.out, if_pos h1, if_neg h2]; simp⟩
  have hX3 : Hid (neg = false → n % f = 0 → ∀ T : ByteArray, T = ⟨(Lib.itoa (n / f)).toArray⟩ → ∃ L : List UInt8, (⟨#[]⟩ : ByteArray) ++ T = ⟨L.toArray⟩ ∧ L ++ fr d (n % f) = X) := fun h1 h2 T hT =>
    ⟨[] ++ Lib.itoa (n / f), by rw [hT, show (⟨#[]⟩ : ByteArray) = ⟨[].toArray⟩ from rfl, app_mk], by rw [h2, fr_zero, hX.out, h1, if_pos h2]; rfl⟩
  have hX4 : Hid (neg = false → ¬ n % f = 0 → ∀ T : ByteArray, T = ⟨(Lib.itoa (n / f)).toArray⟩ → ∃ L : List UInt8, (⟨#[]⟩ : ByteArray) ++ T ++ ⟨#[46]⟩ = ⟨L.toArray⟩ ∧ L ++ fr d (n % f) = X) := fun h1 h2 T hT =>
    ⟨[] ++ Lib.itoa (n / f) ++ [46], by rw [hT, show (⟨#[]⟩ : ByteArray) = ⟨[].toArray⟩ from rfl, show (⟨#[46]⟩ : ByteArray) = ⟨[46].toArray⟩ from rfl, app_mk, app_mk], by rw [hX.out, h1, if_neg h2]; simp⟩
  clear hX
  rcases hn with ⟨rfl, hn, rfl⟩ | ⟨rfl, hn, rfl⟩
  · replace hX1 := Lib.hid (hX1.out rfl)
    replace hX2 := Lib.hid (hX2.out rfl)
    clear hX3 hX4
    go_enter Tryd.func34, Tryd.ntmps34
    go_wp2_with fail
    refine (HI.out (n / f) _ q0 (by omega) X0.out).mono ?_
    rintro e w1 ⟨T, rfl, zT, hT, h1⟩
    replace X0 := Lib.hid (bel_trans X0.out h1); clear h1
    by_cases hr : n % f = 0
    · obtain ⟨L, hL1, hL2⟩ := hX1.out hr T hT.out
      have HL := Lib.hid hL2
      have HL1 := Lib.hid hL1
      clear hX1 hX2 hL1 hL2 hT
      go_wp2_with fail
      rw [hr, fr_zero, List.append_nil] at HL
      go_loopw [1, 5, 6] (fun ff ss rr wr => ff = .int .i64 f ∧ ss = .string ((⟨#[45]⟩ : ByteArray) ++ T) ∧ rr = .int .i64 (n % f) ∧ Hid (Below w.heap.size w wr)) (fun ff _ _ _ => 0)
      case atStart => exact ⟨rfl, rfl, rfl, X0⟩
      case round =>
        obtain ⟨rfl, rfl, rfl, hB⟩ := hrel
        go_wp2
        go_returns
        exact ⟨by rw [← HL.out, ← HL1.out]; rfl, hB.out⟩
    · obtain ⟨L, hL1, hL2⟩ := hX2.out hr T hT.out
      have HL := Lib.hid hL2
      have HL1 := Lib.hid hL1
      have hr0 : 0 < n % f := by omega
      clear hX1 hX2 hL1 hL2 hT
      go_wp2_with fail
      go_loopw [1, 5, 6] (fun ff ss rr wr => ∃ (e : Nat) (F R : Int) (S : ByteArray), ff = .int .i64 F ∧ ss = .string S ∧ rr = .int .i64 R ∧ 1 ≤ F ∧ F ≤ 100000000 ∧ 0 ≤ R ∧ R < F ∧ e ≤ 8 ∧ S.size + 16 * e ≤ 200 ∧ Hid (F = 10 ^ e) ∧ Hid (∃ L : List UInt8, S = ⟨L.toArray⟩ ∧ L ++ fr e R = X) ∧ Hid (Below w.heap.size w wr)) (fun ff _ _ _ => (intOf ff).toNat)
      case atStart => exact ⟨d, f, _, _, rfl, rfl, rfl, f0, f1, by omega, by omega, hd, by simp [z45, z46, z00]; omega, hf, ⟨L, HL1.out, HL.out⟩, X0⟩
      case round =>
        obtain ⟨e, F, R, S, rfl, rfl, rfl, F0, F1, R0, R1, he, zS, hF, hL, hB⟩ := hrel
        by_cases hR : R = 0
        · subst hR
          go_wp2
          go_returns
          obtain ⟨L', h1, h2⟩ := hL.out
          rw [fr_zero, List.append_nil] at h2
          exact ⟨by rw [← h2, ← h1]; rfl, hB.out⟩
        · have hR2 : 0 < R := by omega
          obtain ⟨e', rfl⟩ : ∃ e', e = e' + 1 := ⟨e - 1, by
            have : e ≠ 0 := fun h => by
              have h3 := hF.out
              rw [h] at h3
              simp at h3
              omega
            omega⟩
          have hG : Hid (F / 10 = 10 ^ e') := by
            show _ = _
            rw [hF.out, Int.pow_succ, Int.mul_ediv_cancel _ (by omega)]
          have hG1 : 1 ≤ F / 10 := by rw [hG.out]; exact ten_pos e'
          have hG2 : Hid (F = 10 * (F / 10)) := by
            show _ = _
            rw [hG.out, hF.out, Int.pow_succ]; omega
          have g0 : 0 ≤ R / (F / 10) := Int.ediv_nonneg R0 (by omega)
          have g9 : R / (F / 10) ≤ 9 := by
            have := Int.ediv_lt_of_lt_mul (a := R) (b := 10) (c := F / 10) (by omega) (by have := hG2.out; omega)
            omega
          have s0 : 0 ≤ R % (F / 10) := Int.emod_nonneg _ (by omega)
          have s1 : R % (F / 10) < F / 10 := Int.emod_lt_of_pos _ (by omega)
          go_wp2_with fail
          refine (HI.out (R / (F / 10)) _ g0 (by omega) hB.out).mono ?_
          rintro e w2 ⟨T2, rfl, zT2, hT2, h1⟩
          replace hB := Lib.hid (bel_trans hB.out h1); clear h1
          go_wp2
          go_roundw
          case rel =>
            refine ⟨e', F / 10, R % (F / 10), _, rfl, rfl, rfl, hG1, by omega, s0, s1, by omega, by simp; omega, hG, ?_, hB⟩
            obtain ⟨L', h1, h2⟩ := hL.out
            refine ⟨L' ++ [dg (R / (F / 10))], ?_, ?_⟩
            · rw [h1, hT2.out, app_mk, itoa_dg _ g0 g9]
            · rw [← h2, fr, if_neg hR, List.append_assoc, hG.out]; rfl
          case measure => simp [intOf]; omega
  · replace hX3 := Lib.hid (hX3.out rfl)
    replace hX4 := Lib.hid (hX4.out rfl)
    clear hX1 hX2
    have hn' : ¬ a < 0 := by omega
    go_enter Tryd.func34, Tryd.ntmps34
    go_wp2_with fail
    refine (HI.out (a / f) _ q0 (by omega) X0.out).mono ?_
    rintro e w1 ⟨T, rfl, zT, hT, h1⟩
    replace X0 := Lib.hid (bel_trans X0.out h1); clear h1
    by_cases hr : a % f = 0
    · obtain ⟨L, hL1, hL2⟩ := hX3.out hr T hT.out
      have HL := Lib.hid hL2
      have HL1 := Lib.hid hL1
      clear hX3 hX4 hL1 hL2 hT
      go_wp2_with fail
      rw [hr, fr_zero, List.append_nil] at HL
      go_loopw [1, 5, 6] (fun ff ss rr wr => ff = .int .i64 f ∧ ss = .string ((⟨#[]⟩ : ByteArray) ++ T) ∧ rr = .int .i64 (a % f) ∧ Hid (Below w.heap.size w wr)) (fun ff _ _ _ => 0)
      case atStart => exact ⟨rfl, rfl, rfl, X0⟩
      case round =>
        obtain ⟨rfl, rfl, rfl, hB⟩ := hrel
        go_wp2
        go_returns
        exact ⟨by rw [← HL.out, ← HL1.out]; rfl, hB.out⟩
    · obtain ⟨L, hL1, hL2⟩ := hX4.out hr T hT.out
      have HL := Lib.hid hL2
      have HL1 := Lib.hid hL1
      have hr0 : 0 < a % f := by omega
      clear hX3 hX4 hL1 hL2 hT
      go_wp2_with fail
      go_loopw [1, 5, 6] (fun ff ss rr wr => ∃ (e : Nat) (F R : Int) (S : ByteArray), ff = .int .i64 F ∧ ss = .string S ∧ rr = .int .i64 R ∧ 1 ≤ F ∧ F ≤ 100000000 ∧ 0 ≤ R ∧ R < F ∧ e ≤ 8 ∧ S.size + 16 * e ≤ 200 ∧ Hid (F = 10 ^ e) ∧ Hid (∃ L : List UInt8, S = ⟨L.toArray⟩ ∧ L ++ fr e R = X) ∧ Hid (Below w.heap.size w wr)) (fun ff _ _ _ => (intOf ff).toNat)
      case atStart => exact ⟨d, f, _, _, rfl, rfl, rfl, f0, f1, by omega, by omega, hd, by simp [z45, z46, z00]; omega, hf, ⟨L, HL1.out, HL.out⟩, X0⟩
      case round =>
        obtain ⟨e, F, R, S, rfl, rfl, rfl, F0, F1, R0, R1, he, zS, hF, hL, hB⟩ := hrel
        by_cases hR : R = 0
        · subst hR
          go_wp2
          go_returns
          obtain ⟨L', h1, h2⟩ := hL.out
          rw [fr_zero, List.append_nil] at h2
          exact ⟨by rw [← h2, ← h1]; rfl, hB.out⟩
        · have hR2 : 0 < R := by omega
          obtain ⟨e', rfl⟩ : ∃ e', e = e' + 1 := ⟨e - 1, by
            have : e ≠ 0 := fun h => by
              have h3 := hF.out
              rw [h] at h3
              simp at h3
              omega
            omega⟩
          have hG : Hid (F / 10 = 10 ^ e') := by
            show _ = _
            rw [hF.out, Int.pow_succ, Int.mul_ediv_cancel _ (by omega)]
          have hG1 : 1 ≤ F / 10 := by rw [hG.out]; exact ten_pos e'
          have hG2 : Hid (F = 10 * (F / 10)) := by
            show _ = _
            rw [hG.out, hF.out, Int.pow_succ]; omega
          have g0 : 0 ≤ R / (F / 10) := Int.ediv_nonneg R0 (by omega)
          have g9 : R / (F / 10) ≤ 9 := by
            have := Int.ediv_lt_of_lt_mul (a := R) (b := 10) (c := F / 10) (by omega) (by have := hG2.out; omega)
            omega
          have s0 : 0 ≤ R % (F / 10) := Int.emod_nonneg _ (by omega)
          have s1 : R % (F / 10) < F / 10 := Int.emod_lt_of_pos _ (by omega)
          go_wp2_with fail
          refine (HI.out (R / (F / 10)) _ g0 (by omega) hB.out).mono ?_
          rintro e w2 ⟨T2, rfl, zT2, hT2, h1⟩
          replace hB := Lib.hid (bel_trans hB.out h1); clear h1
          go_wp2
          go_roundw
          case rel =>
            refine ⟨e', F / 10, R % (F / 10), _, rfl, rfl, rfl, hG1, by omega, s0, s1, by omega, by simp; omega, hG, ?_, hB⟩
            obtain ⟨L', h1, h2⟩ := hL.out
            refine ⟨L' ++ [dg (R / (F / 10))], ?_, ?_⟩
            · rw [h1, hT2.out, app_mk, itoa_dg _ g0 g9]
            · rw [← h2, fr, if_neg hR, List.append_assoc, hG.out]; rfl
          case measure => simp [intOf]; omega
theorem refDec_any (a : Int) (d : Nat) (w : World) (hw : LaidU w) (a0 : -1125899906842624 ≤ a) (a1 : a ≤ 1125899906842624) (hd : d ≤ 8) :
    Calls Tryd.prog 34 #[.int .i64 a, .int .i64 (10 ^ d)] w fun e w' => e = .returned (str (dec a (10 ^ d))) ∧ Below w.heap.size w w' := by
  have f0 := ten_pos d
  have f1 : (10 : Int) ^ d ≤ 100000000 := by
    have h : d = 0 ∨ d = 1 ∨ d = 2 ∨ d = 3 ∨ d = 4 ∨ d = 5 ∨ d = 6 ∨ d = 7 ∨ d = 8 := by omega
    rcases h with rfl | rfl | rfl | rfl | rfl | rfl | rfl | rfl | rfl <;> decide
  have HI : Hid (∀ m W, 0 ≤ m → m ≤ 1125899906842624 → Below w.heap.size w W → Calls Tryd.prog 43 #[.int .i64 m] W fun e w' => ∃ T : ByteArray, e = .returned (.string T) ∧ T.size ≤ 16 ∧ Hid (T = ⟨(Lib.itoa m).toArray⟩) ∧ Below W.heap.size W w') :=
    fun m W h0 h1 h => (itoa_calls m W (hw.below h) h0 (by omega)).mono fun e w' g => ⟨_, g.1, by rw [str_size]; exact (itoa_len m h0 (by omega)).2, rfl, g.2⟩
  have key : ∀ n : Int, 0 ≤ n → frac (10 ^ d) (n % 10 ^ d) = if n % 10 ^ d = 0 then [] else 46 :: fr d (n % 10 ^ d) := fun n _ => fr_frac d _ (Int.emod_nonneg _ (by omega)) (Int.emod_lt_of_pos _ (by omega))
  by_cases h : a < 0
  · refine refDec_core a (-a) _ d true _ w (.inl ⟨rfl, by omega, by omega⟩) (by omega) (by omega) f0 f1 hd HI rfl ?_
    show _ = _
    unfold dec
    rw [if_pos h, key _ (by omega)]; rfl
  · refine refDec_core a a _ d false _ w (.inr ⟨rfl, by omega, rfl⟩) (by omega) a1 f0 f1 hd HI rfl ?_
    show _ = _
    unfold dec
    rw [if_neg h, key _ (by omega)]; rfl
end Go.Proofs.YtdhckbjebccdbaaDoor
