/- Package proportion: what Of, Up and Compare return, for every input. -/
import Derived.Test.YtdpkochkpcjioabDoorProg
import Derived.Test.YtdpkochkpcjioabDoorNum
import Derived.Test.YtdpkochkpcjioabDoorShelf
import Derived.Test.YtdpkochkpcjioabDoorDiv
import Derived.WalkKit
import Derived.Handy
import Derived.Lib.Hide
import Derived.Outline
import Derived.Deep.QuietTactic
import Derived.BigQuiet
namespace Go.Proofs.YtdpkochkpcjioabDoor
open Go.RowKit

theorem bel_alloc {w w' : World} {o : Obj} (h : Below (w.alloc o).heap.size (w.alloc o) w') : Below w.heap.size w w' :=
  ((Below.refl w.heap.size w).alloc (Nat.le_refl _) o).trans (h.mono (by simp))
theorem bel_trans {w w1 w2 : World} (h : Below w.heap.size w w1) (h2 : Below w1.heap.size w1 w2) : Below w.heap.size w w2 := h.trans (h2.mono h.size)
theorem bel_drewN (w : World) (n : Nat) : Below w.heap.size w (w.drewN n) := by
  induction n with
  | zero => exact Below.refl _ _
  | succ n ih => exact (show Below w.heap.size w ((w.drewN n).drew) from ih.drew)

theorem amounts_any (b off len cap : Nat) (zs : List Int) (w : World) (hz : len = zs.length) (hbig : len ≤ 9223372036854775807) (hc : ∀ j, j < zs.length → w.cell? ⟨b, off + j, none⟩ = some (.int .i64 (zs.getD j 0))) :
    Calls Tryd.prog 109 #[.slice (some ⟨b, off, none⟩) len cap] w fun e w' => e = .returned (.bool (zs.all isAm)) ∧ w' = w := by
  have HC := Lib.hid hc; clear hc
  have HZ := Lib.hid hz; clear hz
  go_enter Tryd.func109, Tryd.ntmps109
  go_wp2
  go_loop [7] (fun i => ∃ k : Nat, k ≤ len ∧ i = .int .i64 k ∧ (zs.take k).all isAm = true) (fun i => len - (intOf i).toNat)
  case atStart => exact ⟨0, Nat.zero_le _, rfl, by simp⟩
  case round =>
    obtain ⟨k, hk, rfl, hall⟩ := hrel
    have HA := Lib.hid hall; clear hall
    by_cases hlt : k < len
    · have hkz : k < zs.length := by rw [← HZ.out]; exact hlt
      have hcell : w.cell? ⟨b, off + k, none⟩ = some (.int .i64 (zs.getD k 0)) := HC.out k hkz
      have HS := Lib.hid (all_take_succ zs k hkz)
      have HF := Lib.hid (all_false_at zs k hkz)
      generalize zs.getD k 0 = z at *
      by_cases hb : 0 ≤ z ∧ z ≤ 128849018880000
      · have HB := Lib.hid ((isAm_iff z).2 hb)
        obtain ⟨hb1, hb2⟩ := hb
        clear hkz
        go_wp2
        go_round
        case rel => exact ⟨k + 1, by omega, by go_num, by rw [HS.out, HA.out, HB.out]; rfl⟩
        case measure => simp [intOf]; omega
      · have HB := Lib.hid (HF.out (by rw [isAm_not]; omega))
        by_cases hz0 : z < 0
        · clear hb hkz
          go_wp2
          go_ret
          rw [HB.out]; exact ⟨rfl, rfl⟩
        · have hz1 : 128849018880000 < z := by omega
          clear hb hkz
          go_wp2
          go_ret
          rw [HB.out]; exact ⟨rfl, rfl⟩
    · have HT : RowKit.Hid (zs.take k = zs) := by
        show zs.take k = zs
        exact List.take_of_length_le (by have := HZ.out; omega)
      go_wp2
      go_ret
      rw [← HA.out, HT.out]; exact ⟨rfl, rfl⟩

theorem mul64_int (x y : Int) (w : World) (hx0 : 0 ≤ x) (hx : x ≤ 9223372036854775807) (hy0 : 0 ≤ y) (hy : y ≤ 9223372036854775807) :
    Calls Tryd.prog 119 #[.int .u64 x, .int .u64 y] w fun e w' => e = .returned (.tuple #[.int .u64 (hiW (x * y)), .int .u64 (loW (x * y))]) ∧ w = w' := by
  obtain ⟨A, rfl⟩ := Int.eq_ofNat_of_zero_le hx0
  obtain ⟨B, rfl⟩ := Int.eq_ofNat_of_zero_le hy0
  refine (Tryd.bits_Mul64 A B (by omega) (by omega) w).mono fun e w' h => ⟨?_, h.2.symm⟩
  rw [h.1, hiW, loW]; simp

theorem multiply_any (a b : Int) (w : World) (ha0 : 0 ≤ a) (ha : a ≤ 9223372036854775807) (hb0 : 0 ≤ b) (hb : b ≤ 9223372036854775807) :
    Calls Tryd.prog 110 #[.int .i64 a, .int .i64 b] w fun e w' => e = .returned (.agg #[.int .u64 (hiW (a * b)), .int .u64 (loW (a * b))]) ∧ Below w.heap.size w w' := by
  go_enter Tryd.func110, Tryd.ntmps110
  go_wp2_with (go_at_call 119; refine (mul64_int a b _ ha0 ha hb0 hb).mono ?_; rintro e w' ⟨rfl, rfl⟩)
  go_returns
  exact ⟨rfl, by go_grown⟩

theorem amounts_row (zs : List Int) (vs : List Value) (w : World) (hv : vs = zs.map (Value.int .i64)) (hl : zs.length ≤ 1000) (r : Bool) (h : zs.all isAm = r) :
    Calls Tryd.prog 109 #[.slice (some ⟨w.heap.size, 0, none⟩) zs.length zs.length] (w.alloc (.cells vs.toArray 3)) fun e w' => e = .returned (.bool r) ∧ (w.alloc (.cells vs.toArray 3)) = w' := by
  refine (amounts_any _ 0 zs.length zs.length zs _ rfl (by omega) ?_).mono fun e w' g => ⟨by rw [g.1, h], g.2.symm⟩
  intro j hj
  subst hv
  rw [World.cell?_alloc_new]
  simp [List.getD, List.getElem?_eq_getElem hj]

theorem amounts1 (a : Int) (w : World) (r : Bool) (h : isAm a = r) :
    Calls Tryd.prog 109 #[.slice (some ⟨w.heap.size, 0, none⟩) 1 1] (w.alloc (.cells #[.int .i64 a] 3)) fun e w' => e = .returned (.bool r) ∧ (w.alloc (.cells #[.int .i64 a] 3)) = w' :=
  amounts_row [a] [.int .i64 a] w rfl (by simp) r (by simpa using h)
theorem amounts2 (a b : Int) (w : World) (r : Bool) (h : (isAm a && isAm b) = r) :
    Calls Tryd.prog 109 #[.slice (some ⟨w.heap.size, 0, none⟩) 2 2] (w.alloc (.cells #[.int .i64 a, .int .i64 b] 3)) fun e w' => e = .returned (.bool r) ∧ (w.alloc (.cells #[.int .i64 a, .int .i64 b] 3)) = w' :=
  amounts_row [a, b] [.int .i64 a, .int .i64 b] w rfl (by simp) r (by simpa using h)
theorem amounts3 (a b c : Int) (w : World) (r : Bool) (h : (isAm a && isAm b && isAm c) = r) :
    Calls Tryd.prog 109 #[.slice (some ⟨w.heap.size, 0, none⟩) 3 3] (w.alloc (.cells #[.int .i64 a, .int .i64 b, .int .i64 c] 3)) fun e w' => e = .returned (.bool r) ∧ (w.alloc (.cells #[.int .i64 a, .int .i64 b, .int .i64 c] 3)) = w' :=
  amounts_row [a, b, c] [.int .i64 a, .int .i64 b, .int .i64 c] w rfl (by simp) r (by simpa [Bool.and_assoc] using h)
theorem amounts4 (a b c d : Int) (w : World) (r : Bool) (h : (isAm a && isAm b && isAm c && isAm d) = r) :
    Calls Tryd.prog 109 #[.slice (some ⟨w.heap.size, 0, none⟩) 4 4] (w.alloc (.cells #[.int .i64 a, .int .i64 b, .int .i64 c, .int .i64 d] 3)) fun e w' => e = .returned (.bool r) ∧ (w.alloc (.cells #[.int .i64 a, .int .i64 b, .int .i64 c, .int .i64 d] 3)) = w' :=
  amounts_row [a, b, c, d] [.int .i64 a, .int .i64 b, .int .i64 c, .int .i64 d] w rfl (by simp) r (by simpa [Bool.and_assoc] using h)

theorem of_bad (a b c : Int) (w : World) (h : (isAm a && isAm b && isAm c) = false) :
    Calls Tryd.prog 100 #[.int .i64 a, .int .i64 b, .int .i64 c] w fun e w' => e = .returned (.tuple #[.int .i64 0, .int .i64 0, .int .i64 2]) ∧ Below w.heap.size w w' := by
  have H := Lib.hid h; clear h
  go_enter Tryd.func100, Tryd.ntmps100
  go_wp2_with (go_at_call 109; refine (amounts3 _ _ _ _ _ H.out).mono ?_; rintro e w' ⟨rfl, rfl⟩)
  go_returns
  exact ⟨rfl, by go_grown⟩

theorem of_zero (a b : Int) (w : World) (h : (isAm a && isAm b && isAm 0) = true) :
    Calls Tryd.prog 100 #[.int .i64 a, .int .i64 b, .int .i64 0] w fun e w' => e = .returned (.tuple #[.int .i64 0, .int .i64 0, .int .i64 16]) ∧ Below w.heap.size w w' := by
  have H := Lib.hid h; clear h
  go_enter Tryd.func100, Tryd.ntmps100
  go_wp2_with (go_at_call 109; refine (amounts3 _ _ _ _ _ H.out).mono ?_; rintro e w' ⟨rfl, rfl⟩)
  go_returns
  exact ⟨rfl, by go_grown⟩

theorem of_ok (a b c Q R : Int) (w : World) (h : (isAm a && isAm b && isAm c) = true) (hc : 1 ≤ c) (hQ : Hid (a * b / c = Q)) (hR : Hid (a * b % c = R)) (hq : Q ≤ 128849018880000) :
    Calls Tryd.prog 100 #[.int .i64 a, .int .i64 b, .int .i64 c] w fun e w' => e = .returned (.tuple #[.int .i64 Q, .int .i64 R, .int .i64 0]) ∧ Below w.heap.size w w' := by
  have h' := h
  simp only [Bool.and_eq_true, isAm_iff] at h'
  obtain ⟨⟨⟨a0, a1⟩, b0, b1⟩, c0, c1⟩ := h'
  have H := Lib.hid h; clear h
  have p0 : 0 ≤ a * b := Int.mul_nonneg a0 b0
  have q0 : 0 ≤ Q := by rw [← hQ.out]; exact Int.ediv_nonneg p0 c0
  have r0 : 0 ≤ R := by rw [← hR.out]; exact Int.emod_nonneg _ (by omega)
  have r1 : R < c := by rw [← hR.out]; exact Int.emod_lt_of_pos _ (by omega)
  have k : hiW (a * b) < c := by
    rcases Int.lt_or_le (hiW (a * b)) c with k | k
    · exact k
    · have := hiW_ge _ _ k (by omega); rw [hQ.out] at this; omega
  have k0 := hiW_nonneg _ p0
  clear p0
  go_enter Tryd.func100, Tryd.ntmps100
  go_wp2_with (go_at_call 109; refine (amounts3 _ _ _ _ _ H.out).mono ?_; rintro e w' ⟨rfl, rfl⟩)
  refine (multiply_any a b _ a0 (by omega) b0 (by omega)).mono ?_
  rintro e w1 ⟨rfl, hb1⟩
  go_wp2_with fail
  refine (div64_any (hiW (a * b)) (loW (a * b)) c _ k0 k (loW_nonneg _) (loW_le _) (by omega)).mono ?_
  rw [twoW_split, hQ.out, hR.out]
  rintro e w2 ⟨rfl, n, rfl⟩
  go_wp2
  go_returns
  exact ⟨rfl, bel_trans (bel_alloc hb1) (bel_alloc (bel_drewN _ _))⟩

theorem of_big (a b c Q R : Int) (w : World) (h : (isAm a && isAm b && isAm c) = true) (hc : 1 ≤ c) (hQ : Hid (a * b / c = Q)) (hR : Hid (a * b % c = R)) (hq : 128849018880000 < Q) :
    Calls Tryd.prog 100 #[.int .i64 a, .int .i64 b, .int .i64 c] w fun e w' => e = .returned (.tuple #[.int .i64 0, .int .i64 0, .int .i64 15]) ∧ Below w.heap.size w w' := by
  have h' := h
  simp only [Bool.and_eq_true, isAm_iff] at h'
  obtain ⟨⟨⟨a0, a1⟩, b0, b1⟩, c0, c1⟩ := h'
  have H := Lib.hid h; clear h
  have p0 : 0 ≤ a * b := Int.mul_nonneg a0 b0
  have k0 := hiW_nonneg _ p0
  by_cases k : hiW (a * b) < c
  · have q1 : Q ≤ 18446744073709551615 := by
      rw [← hQ.out]
      have : a * b / c < 18446744073709551616 := by
        apply Int.ediv_lt_of_lt_mul (by omega)
        unfold hiW at k; omega
      omega
    have r0 : 0 ≤ R := by rw [← hR.out]; exact Int.emod_nonneg _ (by omega)
    have r1 : R < c := by rw [← hR.out]; exact Int.emod_lt_of_pos _ (by omega)
    clear p0
    go_enter Tryd.func100, Tryd.ntmps100
    go_wp2_with (go_at_call 109; refine (amounts3 _ _ _ _ _ H.out).mono ?_; rintro e w' ⟨rfl, rfl⟩)
    refine (multiply_any a b _ a0 (by omega) b0 (by omega)).mono ?_
    rintro e w1 ⟨rfl, hb1⟩
    go_wp2_with fail
    refine (div64_any (hiW (a * b)) (loW (a * b)) c _ k0 k (loW_nonneg _) (loW_le _) (by omega)).mono ?_
    rw [twoW_split, hQ.out, hR.out]
    rintro e w2 ⟨rfl, n, rfl⟩
    go_wp2
    go_returns
    exact ⟨rfl, bel_trans (bel_alloc hb1) (bel_alloc (bel_drewN _ _))⟩
  · clear p0
    go_enter Tryd.func100, Tryd.ntmps100
    go_wp2_with (go_at_call 109; refine (amounts3 _ _ _ _ _ H.out).mono ?_; rintro e w' ⟨rfl, rfl⟩)
    refine (multiply_any a b _ a0 (by omega) b0 (by omega)).mono ?_
    rintro e w1 ⟨rfl, hb1⟩
    go_wp2
    go_returns
    exact ⟨rfl, bel_trans (bel_alloc hb1) (bel_alloc (Below.refl _ _))⟩

/-- 'Of', whatever it is handed -/
theorem of_any (a b c : Int) (w : World) :
    Calls Tryd.prog 100 #[.int .i64 a, .int .i64 b, .int .i64 c] w fun e w' => e = .returned (.tuple #[.int .i64 (ofQ a b c), .int .i64 (ofR a b c), .int .i64 (ofE a b c)]) ∧ Below w.heap.size w w' := by
  unfold ofQ ofR
  cases h : (isAm a && isAm b && isAm c) with
  | false =>
    have e : ofE a b c = 2 := by unfold ofE; rw [h]; rfl
    rw [e]; exact of_bad a b c w h
  | true =>
    by_cases hc : c = 0
    · subst hc
      have e : ofE a b 0 = 16 := by unfold ofE; rw [h]; rfl
      rw [e]; exact of_zero a b w h
    · have h' := h
      simp only [Bool.and_eq_true, isAm_iff] at h'
      by_cases hq : a * b / c ≤ 128849018880000
      · have e : ofE a b c = 0 := by unfold ofE; rw [h, if_pos rfl, if_neg hc, if_pos hq]
        rw [e]; exact of_ok a b c _ _ w h (by omega) rfl rfl hq
      · have e : ofE a b c = 15 := by unfold ofE; rw [h, if_pos rfl, if_neg hc, if_neg hq]
        rw [e]; exact of_big a b c _ _ w h (by omega) rfl rfl (by omega)

end Go.Proofs.YtdpkochkpcjioabDoor

