/- math/bits.Div64: what it returns where the upper word is less than the divisor. -/
import Derived.Test.YtdpkochkpcjioabDoorProg
import Derived.Test.YtdpkochkpcjioabDoorNum
import Derived.Test.YtdpkochkpcjioabDoorShelf
import Derived.WalkKit
import Derived.Handy
import Derived.Lib.Hide
import Derived.Outline
import Derived.Deep.DeepCutAuto
import Derived.Deep.CutBlock
import Derived.Deep.QuietTactic
import Derived.BigQuiet
namespace Go.Proofs.YtdpkochkpcjioabDoor
open Go.RowKit

/-- what the guess's loop has to be told of a digit: 'D' is the digit -/
structure Dig (a c U u D : Int) : Prop where
  next : ∀ q r : Int, D ≤ q → q * a + r = U → (4294967296 ≤ q ∨ 4294967296 * r + u < q * c) → D ≤ q - 1
  done : ∀ q r : Int, D ≤ q → q * a + r = U → q * c ≤ 4294967296 * r + u → q = D
  stop : ∀ q r : Int, D ≤ q → q * a + r = U → 4294967296 ≤ r → q = D
  prod : ∀ q : Int, 0 ≤ q → q < 4294967296 → 0 ≤ q * c ∧ q * c ≤ 18446744073709551615
  pos : 0 ≤ D

theorem Dig.mk' (U u Y a c : Int) (hY : Y = a * 4294967296 + c) (c0 : 0 ≤ c) (c1 : c < 4294967296) (ha : 1 ≤ a) (hU0 : 0 ≤ U) (hU : U < Y) (u0 : 0 ≤ u) (u1 : u < 4294967296) :
    Dig a c U u ((U * 4294967296 + u) / Y) where
  next q r _ hr ht := dig_next U u Y a c q r hY (by omega) hU u1 hr ht
  done q r hq hr ht := dig_done U u Y a c q r hY (by omega) hr hq ht
  stop q r hq hr ht := dig_stop U u Y a c q r hY c0 c1 ha hU hr (by have := (dig_lt U u Y hU0 hU u0 u1).1; omega) u0 ht hq
  prod q h0 h1 := by
    have a1 := Int.mul_nonneg h0 c0
    have a2 : q * c ≤ 4294967295 * 4294967295 := Int.mul_le_mul (by omega) (by omega) c0 (by omega)
    omega
  pos := (dig_lt U u Y hU0 hU u0 u1).1

theorem ret_two {k l : IntKind} {a b c d : Int} (h : a = b) (g : c = d) : Ending.returned (.tuple #[.int k a, .int l c]) = .returned (.tuple #[.int k b, .int l d]) := by rw [h, g]

theorem mul_pred (q a r U : Int) (h : q * a + r = U) : (q - 1) * a + (r + a) = U := by
  rw [Int.sub_mul]; omega

set_option maxHeartbeats 1000000 in
set_option maxRecDepth 100000 in
theorem div64_core (hi lo y : Int) (s : Nat) (Y a c H G U L u1 u0 g r g2 r2 Q1 R1 Q0 Q R : Int) (w : World) (h0 : 1 ≤ hi) (h1 : hi < y) (h2 : 0 ≤ lo) (h3 : lo ≤ 18446744073709551615) (h4 : y ≤ 140737488355327)
   (hs0 : 17 ≤ s) (hs1 : s ≤ 63)
   (lz : Hid (Calls Tryd.prog 120 #[.int .u64 y] w fun e w' => e = .returned (.int .i64 s) ∧ w = w'))
   (yb0 : 0 ≤ y * 2 ^ s) (yb1 : y * 2 ^ s ≤ 18446744073709551615) (hb0 : 0 ≤ hi * 2 ^ s) (hb1 : hi * 2 ^ s ≤ 18446744073709551615)
   (eY : y * 2 ^ s = Y) (ea : Y / 4294967296 = a) (ec : bits .and .u64 Y 4294967295 = c) (eH : hi * 2 ^ s = H) (eG : lo / 2 ^ (64 - s) = G) (eU : bits .or .u64 H G = U)
   (eL : IntKind.u64.wrap (lo * 2 ^ s) = L) (e1 : L / 4294967296 = u1) (e0 : bits .and .u64 L 4294967295 = u0) (eg : U / a = g) (er : U - g * a = r) 
   (b1 : 2147483648 ≤ a) (b2 : 0 ≤ U) (b3 : U ≤ 18446744073709551615) (b4 : a ≤ 4294967295) (b5 : 0 ≤ c) (b6 : c ≤ 4294967295) (b7 : 0 ≤ u1) (b8 : u1 ≤ 4294967295) (b9 : 0 ≤ u0) (b10 : u0 ≤ 4294967295) (b11 : 9223372036854775808 ≤ Y) (b12 : Y ≤ 18446744073709551615) (b13 : 0 ≤ g * a) (b14 : g * a ≤ U)
   (hR1 : Hid (IntKind.u64.wrap (IntKind.u64.wrap (IntKind.u64.wrap (U * 4294967296) + u1) - IntKind.u64.wrap (Q1 * Y)) = R1)) (c1 : 0 ≤ R1) (c2 : R1 ≤ 18446744073709551615) (eg2 : Hid (R1 / a = g2)) (er2 : Hid (R1 - R1 / a * a = r2)) (b15 : 0 ≤ R1 / a * a) (b16 : R1 / a * a ≤ R1)
   (dg2 : Dig a c R1 u0 Q0) (st2 : Q0 ≤ g2 ∧ 0 ≤ g2 ∧ g2 ≤ 18446744073709551615 ∧ 0 ≤ r2 ∧ r2 < 4294967296 ∧ Hid (g2 * a + r2 = R1))
   (dg1 : Dig a c U u1 Q1) (st1 : Q1 ≤ g ∧ 0 ≤ g ∧ g ≤ 18446744073709551615 ∧ 0 ≤ r ∧ r < 4294967296 ∧ Hid (g * a + r = U))
   (hQ : Hid (IntKind.u64.wrap (IntKind.u64.wrap (Q1 * 4294967296) + Q0) = Q)) (hR : Hid (IntKind.u64.wrap (IntKind.u64.wrap (IntKind.u64.wrap (R1 * 4294967296) + u0) - IntKind.u64.wrap (Q0 * Y)) / 2 ^ s = R)) :
    Calls Tryd.prog 111 #[.int .u64 hi, .int .u64 lo, .int .u64 y] w fun e w' => e = .returned (.tuple #[.int .u64 Q, .int .u64 R]) ∧ w' = w := by
  go_enter Tryd.func111, Tryd.ntmps111
  go_upto_region 16 with (go_at_call 120; refine (lz.out).mono ?_; rintro e w' ⟨rfl, rfl⟩)
  go_cut [2, 8, 9, 10, 11, 13, 14, 15, 16] (fun s2 s8 s9 s10 s11 s13 s14 s15 s16 wx => s2 = .int .u64 Y ∧ s8 = .int .u64 s ∧ s9 = .int .u64 a ∧ s10 = .int .u64 c ∧ s11 = .int .u64 U ∧ s13 = .int .u64 u1 ∧ s14 = .int .u64 u0 ∧ s15 = .int .u64 g ∧ s16 = .int .u64 r ∧ w = wx)
  case first =>
    go_wp2
    go_meet
    case rel => exact ⟨rfl, rfl, rfl, rfl, rfl, rfl, rfl, by rw [eg], rfl, rfl⟩
  case rest =>
  obtain ⟨rfl, rfl, rfl, rfl, rfl, rfl, rfl, rfl, rfl, rfl⟩ := hcut
  clear eY ea ec eH eG eU eL e1 e0 eg er
  go_upto_block 0 with fail
  go_cut [15] (fun s15 wx => s15 = .int .u64 Q1 ∧ w = wx)
  case first =>
    go_wp2_with fail
    go_loop [15, 16] (fun q r => ∃ q1 r1 : Int, q = .int .u64 q1 ∧ r = .int .u64 r1 ∧ Q1 ≤ q1 ∧ 0 ≤ q1 ∧ q1 ≤ 18446744073709551615 ∧ 0 ≤ r1 ∧ r1 < 4294967296 ∧ Hid (q1 * a + r1 = U)) (fun q _ => (intOf q).toNat)
    case atStart => exact ⟨g, r, rfl, rfl, st1.1, st1.2.1, st1.2.2.1, st1.2.2.2.1, st1.2.2.2.2.1, st1.2.2.2.2.2⟩
    case round =>
      obtain ⟨q1, r1, rfl, rfl, p1, p2, p2', p3, p4, p5⟩ := hrel
      by_cases t1 : 4294967296 ≤ q1
      · have HN := Lib.hid (dg1.next q1 r1 p1 p5.out (Or.inl t1))
        have HS := Lib.hid (dg1.stop (q1 - 1) (r1 + a) HN.out (mul_pred _ _ _ _ p5.out))
        have HR := Lib.hid (mul_pred _ _ _ _ p5.out)
        go_wp2
        · have ht : 4294967296 ≤ r1 + a := by assumption
          go_meet
          case rel => exact ⟨by rw [HS.out ht], rfl⟩
        · have ht : r1 + a < 4294967296 := by assumption
          go_round
          case rel => exact ⟨q1 - 1, r1 + a, rfl, rfl, HN.out, by omega, by omega, by omega, ht, HR.out⟩
          case measure => simp [intOf]; omega
      · obtain ⟨m1, m2⟩ := dg1.prod q1 p2 (by omega)
        by_cases t2 : 4294967296 * r1 + u1 < q1 * c
        · have HN := Lib.hid (dg1.next q1 r1 p1 p5.out (Or.inr t2))
          have HS := Lib.hid (dg1.stop (q1 - 1) (r1 + a) HN.out (mul_pred _ _ _ _ p5.out))
          have HR := Lib.hid (mul_pred _ _ _ _ p5.out)
          have q1p : 1 ≤ q1 := by have := dg1.pos; have := HN.out; omega
          go_wp2
          · have ht : 4294967296 ≤ r1 + a := by assumption
            go_meet
            case rel => exact ⟨by rw [HS.out ht], rfl⟩
          · have ht : r1 + a < 4294967296 := by assumption
            go_round
            case rel => exact ⟨q1 - 1, r1 + a, rfl, rfl, HN.out, by omega, by omega, by omega, ht, HR.out⟩
            case measure => simp [intOf]; omega
        · have HD := Lib.hid (dg1.done q1 r1 p1 p5.out (by omega))
          go_wp2
          go_meet
          case rel => exact ⟨by rw [HD.out], rfl⟩
  case rest =>
  obtain ⟨rfl, rfl⟩ := hcut
  clear st1 b13 b14
  go_upto_region 21 with fail
  go_cut [17] (fun s17 wx => s17 = .int .u64 R1 ∧ w = wx)
  case first =>
    go_wp2
    go_meet
    case rel => exact ⟨by rw [← hR1.out], rfl⟩
  case rest =>
  obtain ⟨rfl, rfl⟩ := hcut
  go_upto_region 23 with fail
  go_cut [18, 16] (fun s18 s16 wx => s18 = .int .u64 g2 ∧ s16 = .int .u64 r2 ∧ w = wx)
  case first =>
    go_wp2
    go_meet
    case rel => exact ⟨by rw [← eg2.out], by rw [← er2.out], rfl⟩
  case rest =>
  obtain ⟨rfl, rfl, rfl⟩ := hcut
  clear b15 b16
  go_upto_block 2 with fail
  go_cut [18] (fun s18 wx => s18 = .int .u64 Q0 ∧ w = wx)
  case first =>
    go_wp2_with fail
    go_loop [18, 16] (fun q r => ∃ q1 r1 : Int, q = .int .u64 q1 ∧ r = .int .u64 r1 ∧ Q0 ≤ q1 ∧ 0 ≤ q1 ∧ q1 ≤ 18446744073709551615 ∧ 0 ≤ r1 ∧ r1 < 4294967296 ∧ Hid (q1 * a + r1 = R1)) (fun q _ => (intOf q).toNat)
    case atStart => exact ⟨g2, r2, rfl, rfl, st2.1, st2.2.1, st2.2.2.1, st2.2.2.2.1, st2.2.2.2.2.1, st2.2.2.2.2.2⟩
    case round =>
      obtain ⟨q1, r1, rfl, rfl, p1, p2, p2', p3, p4, p5⟩ := hrel
      by_cases t1 : 4294967296 ≤ q1
      · have HN := Lib.hid (dg2.next q1 r1 p1 p5.out (Or.inl t1))
        have HS := Lib.hid (dg2.stop (q1 - 1) (r1 + a) HN.out (mul_pred _ _ _ _ p5.out))
        have HR := Lib.hid (mul_pred _ _ _ _ p5.out)
        go_wp2
        · have ht : 4294967296 ≤ r1 + a := by assumption
          go_meet
          case rel => exact ⟨by rw [HS.out ht], rfl⟩
        · have ht : r1 + a < 4294967296 := by assumption
          go_round
          case rel => exact ⟨q1 - 1, r1 + a, rfl, rfl, HN.out, by omega, by omega, by omega, ht, HR.out⟩
          case measure => simp [intOf]; omega
      · obtain ⟨m1, m2⟩ := dg2.prod q1 p2 (by omega)
        by_cases t2 : 4294967296 * r1 + u0 < q1 * c
        · have HN := Lib.hid (dg2.next q1 r1 p1 p5.out (Or.inr t2))
          have HS := Lib.hid (dg2.stop (q1 - 1) (r1 + a) HN.out (mul_pred _ _ _ _ p5.out))
          have HR := Lib.hid (mul_pred _ _ _ _ p5.out)
          have q1p : 1 ≤ q1 := by have := dg2.pos; have := HN.out; omega
          go_wp2
          · have ht : 4294967296 ≤ r1 + a := by assumption
            go_meet
            case rel => exact ⟨by rw [HS.out ht], rfl⟩
          · have ht : r1 + a < 4294967296 := by assumption
            go_round
            case rel => exact ⟨q1 - 1, r1 + a, rfl, rfl, HN.out, by omega, by omega, by omega, ht, HR.out⟩
            case measure => simp [intOf]; omega
        · have HD := Lib.hid (dg2.done q1 r1 p1 p5.out (by omega))
          go_wp2
          go_meet
          case rel => exact ⟨by rw [HD.out], rfl⟩
  case rest =>
  obtain ⟨rfl, rfl⟩ := hcut
  clear st2
  go_wp2
  go_ret2
  exact ⟨ret_two hQ.out hR.out, rfl⟩

theorem div64_pos (hi lo y : Int) (w : World) (h0 : 1 ≤ hi) (h1 : hi < y) (h2 : 0 ≤ lo) (h3 : lo ≤ 18446744073709551615) (h4 : y ≤ 140737488355327) :
    Calls Tryd.prog 111 #[.int .u64 hi, .int .u64 lo, .int .u64 y] w fun e w' => e = .returned (.tuple #[.int .u64 (twoW hi lo / y), .int .u64 (twoW hi lo % y)]) ∧ w' = w := by
  obtain ⟨s, e1, s0, s1, hL, n0, n1⟩ := norm_shift y.toNat (by omega) (by omega)
  have lz := Tryd.bits_LeadingZeros64 y w (by omega) (by omega)
  rw [show (64 - (Lib.bitLen y.toNat : Int)) = (s : Int) by omega] at lz
  have lz' : Calls Tryd.prog 120 #[.int .u64 y] w fun e w' => e = .returned (.int .i64 s) ∧ w = w' := lz.mono fun _ _ h => ⟨h.1, h.2.symm⟩
  have hy : ((y.toNat * 2 ^ s : Nat) : Int) = y * 2 ^ s := by rw [Int.natCast_mul, Int.toNat_of_nonneg (by omega)]; simp
  have m0 : 9223372036854775808 ≤ y * 2 ^ s := by rw [← hy]; have : 2 ^ 63 = 9223372036854775808 := rfl; omega
  have m1 : y * 2 ^ s ≤ 18446744073709551615 := by rw [← hy]; have : 2 ^ 64 = 18446744073709551616 := rfl; omega
  have sh := Shifted.mk' hi lo y s (by omega) h1 h2 h3 (by omega)
  have or := or_add hi (lo / 2 ^ (64 - s)) s (by omega) sh.G0 sh.Gs (by have := sh.lt; omega)
  have g0 := sh.G0
  have H0 := sh.H0
  have L0 := sh.L0
  have L1 := sh.L1
  have tot := sh.tot
  have lt := sh.lt
  clear sh e1 hL n0 n1 hy lz
  generalize hY : y * 2 ^ s = Y at *
  generalize hG : lo / 2 ^ (64 - s) = G at *
  generalize hLL : lo * 2 ^ s % 18446744073709551616 = L at *
  generalize hH : hi * 2 ^ s = H at *
  generalize hU : H + G = U at *
  have lt0 := and_low Y (by omega) (by omega)
  have lt1 := and_low L (by omega) (by omega)
  have u0 : 0 ≤ U := by omega
  have a0 : 2147483648 ≤ Y / 4294967296 := by omega
  have p0 : 0 ≤ U / (Y / 4294967296) * (Y / 4294967296) := Int.mul_nonneg (Int.ediv_nonneg u0 (by omega)) (by omega)
  have p1 : U / (Y / 4294967296) * (Y / 4294967296) ≤ U := Int.ediv_mul_le _ (by omega)
  have p2 : U % (Y / 4294967296) = U - U / (Y / 4294967296) * (Y / 4294967296) := by
    have := Int.emod_add_mul_ediv U (Y / 4294967296); rw [Int.mul_comm] at this; omega
  have p3 := Int.emod_nonneg U (show Y / 4294967296 ≠ 0 by omega)
  have p4 := Int.emod_lt_of_pos U (show 0 < Y / 4294967296 by omega)
  have p5 : U / (Y / 4294967296) ≤ U := Int.ediv_le_self _ u0
  have hYs : Y = Y / 4294967296 * 4294967296 + Y % 4294967296 := by omega
  have r0 := Int.emod_nonneg (U * 4294967296 + L / 4294967296) (show Y ≠ 0 by omega)
  have r1 := Int.emod_lt_of_pos (U * 4294967296 + L / 4294967296) (show 0 < Y by omega)
  have dg1 := Dig.mk' U (L / 4294967296) Y (Y / 4294967296) (Y % 4294967296) hYs (by omega) (by omega) (by omega) u0 lt (by omega) (by omega)
  have st1 := dig_start U (L / 4294967296) Y (Y / 4294967296) (Y % 4294967296) hYs (by omega) (by omega) u0 (by omega) (by omega)
  have rest := dig_rest U (L / 4294967296) Y _ (by omega) (by omega) rfl
  have fq := fin_quot U L Y (twoW hi lo) y s hY.symm (by omega) u0 lt (by omega) L0 (by omega) tot
  have fr := fin_rest U L Y (twoW hi lo) y s hY.symm (by omega) (by omega) tot
  generalize hR1 : (U * 4294967296 + L / 4294967296) % Y = R1 at *
  have dg2 := Dig.mk' R1 (L % 4294967296) Y (Y / 4294967296) (Y % 4294967296) hYs (by omega) (by omega) (by omega) r0 r1 (by omega) (by omega)
  have st2 := dig_start R1 (L % 4294967296) Y (Y / 4294967296) (Y % 4294967296) hYs (by omega) (by omega) r0 (by omega) (by omega)
  have q0 : 0 ≤ R1 / (Y / 4294967296) * (Y / 4294967296) := Int.mul_nonneg (Int.ediv_nonneg r0 (by omega)) (by omega)
  have q1 : R1 / (Y / 4294967296) * (Y / 4294967296) ≤ R1 := Int.ediv_mul_le _ (by omega)
  have q2 : R1 % (Y / 4294967296) = R1 - R1 / (Y / 4294967296) * (Y / 4294967296) := by
    have := Int.emod_add_mul_ediv R1 (Y / 4294967296); rw [Int.mul_comm] at this; omega
  have q3 := Int.emod_nonneg R1 (show Y / 4294967296 ≠ 0 by omega)
  have q4 := Int.emod_lt_of_pos R1 (show 0 < Y / 4294967296 by omega)
  have q5 : R1 / (Y / 4294967296) ≤ R1 := Int.ediv_le_self _ r0
  exact div64_core hi lo y s Y (Y / 4294967296) (Y % 4294967296) H G U L (L / 4294967296) (L % 4294967296) (U / (Y / 4294967296)) (U - U / (Y / 4294967296) * (Y / 4294967296)) (R1 / (Y / 4294967296)) (R1 - R1 / (Y / 4294967296) * (Y / 4294967296))
    ((U * 4294967296 + L / 4294967296) / Y) R1 ((R1 * 4294967296 + L % 4294967296) / Y) _ _ w h0 h1 h2 h3 h4 s0 s1 lz' (by rw [hY]; omega) (by rw [hY]; omega) (by rw [hH]; omega) (by rw [hH]; omega)
    hY rfl lt0 hH hG (by rw [or]) (by rw [IntKind.wrap_u64]; exact hLL) rfl lt1 rfl rfl a0 u0 (by omega) (by omega) (by omega) (by omega) (by omega) (by omega) (by omega) (by omega) (by omega) (by omega) p0 p1
    rest r0 (by omega) rfl rfl q0 q1 dg2 ⟨st2, Int.ediv_nonneg r0 (by omega), by omega, by omega, by omega, by show _ = _; omega⟩
    dg1 ⟨st1, Int.ediv_nonneg u0 (by omega), by omega, by omega, by omega, by show _ = _; omega⟩ fq fr

set_option maxHeartbeats 1000000 in
set_option maxRecDepth 100000 in
theorem div64_zero (lo y : Int) (w : World) (h1 : 0 < y) (h2 : 0 ≤ lo) (h3 : lo ≤ 18446744073709551615) (h4 : y ≤ 140737488355327) :
    Calls Tryd.prog 111 #[.int .u64 0, .int .u64 lo, .int .u64 y] w fun e w' => e = .returned (.tuple #[.int .u64 (lo / y), .int .u64 (lo % y)]) ∧ ∃ n, w' = w.drewN n := by
  go_enter Tryd.func111, Tryd.ntmps111
  go_wp2_with fail
  go_quiet (fail)
  go_wp2
  go_ret2
  exact ⟨rfl, _, rfl⟩

theorem div64_any (hi lo y : Int) (w : World) (h0 : 0 ≤ hi) (h1 : hi < y) (h2 : 0 ≤ lo) (h3 : lo ≤ 18446744073709551615) (h4 : y ≤ 140737488355327) :
    Calls Tryd.prog 111 #[.int .u64 hi, .int .u64 lo, .int .u64 y] w fun e w' => e = .returned (.tuple #[.int .u64 (twoW hi lo / y), .int .u64 (twoW hi lo % y)]) ∧ ∃ n, w' = w.drewN n := by
  by_cases hz : hi = 0
  · subst hz
    rw [show twoW 0 lo = lo by unfold twoW; omega]
    exact div64_zero lo y w (by omega) h2 h3 h4
  · exact (div64_pos hi lo y w (by omega) h1 h2 h3 h4).mono fun _ _ h => ⟨h.1, 0, h.2⟩

end Go.Proofs.YtdpkochkpcjioabDoor

