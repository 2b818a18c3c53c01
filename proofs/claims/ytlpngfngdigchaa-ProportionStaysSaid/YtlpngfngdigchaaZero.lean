/- A row of zeros contains no other number. -/
import Derived.Test.YtlpngfngdigchaaMix
namespace Go.Proofs.Ytlpngfngdigchaa
open Go.RowKit

theorem isNot_any (n : Int) (w : World) :
    Calls Try.prog 22 #[.int .i64 n] w fun e w' => e = .returned (.bool (n != 0)) ∧ w = w' := by
  go_enter Try.func22, Try.ntmps22
  go_wp2
  all_goals go_ret
  all_goals exact ⟨by first | rfl | (congr 2; simp_all), rfl⟩

theorem isNot_zero (w : World) :
    Calls Try.prog 22 #[.int .i64 0] w fun e w' => e = .returned (.bool false) ∧ w = w' := isNot_any 0 w

theorem zeros_index (a : Option Addr) (n cap : Nat) (zs : List Int) (w : World) (hn : n = zs.length) (hv : Ins w (.slice a n cap) zs) (hz : ∀ j, zs.getD j 0 = 0) (h : n ≤ 1000) :
    Calls Try.prog 35 #[.slice a n cap, .func (.func 22) #[] #[]] w fun e w' => e = .returned (.int .i64 (-1)) ∧ Below w.heap.size w w' := by
  have HV := Lib.hid hv
  have HN := Lib.hid hn
  have HZ := Lib.hid hz
  clear hv hn hz
  go_enter Try.func35, Try.ntmps35
  go_wp2_with fail
  go_loopw [8] (fun i wr => ∃ k : Nat, k ≤ n ∧ i = .int .i64 k ∧ Hid (Below w.heap.size w wr)) (fun i _ => n - (intOf i).toNat)
  case atStart => exact ⟨0, Nat.zero_le _, rfl, Below.refl _ _⟩
  case round =>
    obtain ⟨k, hk, rfl, hb⟩ := hrel
    by_cases hlt : k < n
    · have hkz : k < zs.length := by rw [← HN.out]; exact hlt
      obtain ⟨ad', cap', hveq, _, hin⟩ := HV.out.below hb.out
      have hcell : ∃ b off, a = some ⟨b, off, none⟩ ∧ wr.cell? ⟨b, off + k, none⟩ = some (.int .i64 0) := by
        simp only [Value.slice.injEq] at hveq
        rcases hin with hin | ⟨b, off, e, _, hc⟩
        · omega
        · exact ⟨b, off, by rw [hveq.1, e], by rw [hc k hkz, HZ.out k]⟩
      clear hveq hin ad' cap'
      obtain ⟨g, off, rfl, hcell⟩ := hcell
      clear hkz
      go_wp2_with fail
      refine (isNot_zero _).mono ?_
      rintro e w2 ⟨rfl, hw⟩
      subst hw
      go_wp2
      go_roundw
      case rel => exact ⟨k + 1, by omega, by go_num, hb⟩
      case measure => simp [intOf]; omega
    · obtain rfl : k = n := by omega
      go_wp2
      go_returns
      exact ⟨rfl, hb.out⟩

theorem zeros_any (v : Value) (zs : List Int) (w : World) (hv : Ins w v zs) (hz : ∀ j, zs.getD j 0 = 0) (h : zs.length ≤ 1000) :
    Calls Try.prog 21 #[v, .func (.func 22) #[] #[]] w fun e w' => e = .returned (.bool false) ∧ Below w.heap.size w w' := by
  have hv0 := hv
  obtain ⟨a, cap, rfl, _, _⟩ := hv0
  have HI := Lib.hid (zeros_index a zs.length cap zs w rfl hv hz h)
  clear hv hz
  go_enter Try.func21, Try.ntmps21
  go_wp2_with fail
  refine HI.out.mono ?_
  rintro e w1 ⟨rfl, hb⟩
  have HB := Lib.hid hb; clear hb
  go_wp2
  go_ret
  exact ⟨rfl, HB.out⟩

end Go.Proofs.Ytlpngfngdigchaa
