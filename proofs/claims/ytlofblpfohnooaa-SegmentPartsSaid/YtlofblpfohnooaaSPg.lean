/- Package segment: Heights. -/
import Derived.Test.YtlofblpfohnooaaSPa
import Derived.Test.YtlofblpfohnooaaSRefG
import Derived.Test.YtlofblpfohnooaaOwnR
namespace Go.Proofs.Ytlofblpfohnooaa
open Go.RowKit

set_option maxHeartbeats 2000000 in
set_option maxRecDepth 1000000 in
theorem hts_ok (top : Int) (n : Nat) (w : World) (t0 : 0 ≤ top) (t1 : top ≤ 200000) (n0 : 1 ≤ n) (n1 : n ≤ 64) :
    Calls Try.prog 10 #[.int .i64 top, .int .i64 n] w fun e w' => ∃ v, e = .returned (.tuple #[v, .int .i64 0]) ∧ Nums w' v (hs top n) ∧ Below w.heap.size w w' := by
  obtain ⟨i0, hi, hz0, hz1, hz2⟩ := info_parts info_int
  have H1 := Lib.hid (fun W => isHt_any top W)
  have hh : hB top = true := by simp [hB, t0, t1]
  rw [hh] at H1
  clear hh
  go_enter Try.func10, Try.ntmps10
  go_wp2_with fail
  refine (H1.out _).mono ?_
  rintro e w1 ⟨rfl, hw⟩
  subst hw
  go_wp2_with (at_make; refine wpList_make_full _ rfl _ _ 22 rfl w.heap.size 3 i0 (.int .i64 0) 1 Try.underlying22 hi hz0 hz1 .i64 .i64 _ _ (n + 1) rfl rfl (by omega) (by omega) (by rw [hz2]; omega) (by unfold maxLen; omega) (Nat.le_refl _) ?_; intro w2 ho2 hg2)
  rw [madeInts] at ho2
  have X2 := Lib.hid ((Below.refl w.heap.size w).grown hg2 (Nat.le_refl _) (by simp))
  have O2 : Hid (Own w2 w.heap.size w.heap.size (n + 1) (n + 1) (List.replicate (n + 1) 0)) := ho2
  clear ho2 hg2
  go_loopw [7, 24] (fun _ ii wr => ∃ k : Nat, k ≤ n + 1 ∧ ii = .int .i64 k ∧ Hid (Own wr w.heap.size w.heap.size (n + 1) (n + 1) ((List.range k).map (fun i : Nat => (i : Int) * top / n) ++ List.replicate (n + 1 - k) 0)) ∧ Hid (Below w.heap.size w wr)) (fun _ ii _ => n + 1 - (intOf ii).toNat)
  case atStart => exact ⟨0, by omega, rfl, O2, X2⟩
  case round =>
    obtain ⟨k, hk, rfl, hO, hB⟩ := hrel
    by_cases hlt : k < n + 1
    · have m0 : 0 ≤ (k : Int) * top := Int.mul_nonneg (by omega) t0
      have m1 : (k : Int) * top ≤ 65 * 200000 := Int.mul_le_mul (by omega) t1 t0 (by omega)
      have q0 : 0 ≤ (k : Int) * top / n := Int.ediv_nonneg m0 (by omega)
      have q1 : (k : Int) * top / n ≤ (k : Int) * top := Int.ediv_le_self _ m0
      have c1 := hO.out.cell k hlt
      have f1 := World.ownsRow.frozenAt hO.out k
      have S1 := Lib.hid (hO.out.set k ((k : Int) * top / n))
      have S2 := Lib.hid (hB.out.setCell (p := ⟨w.heap.size, k, none⟩) (Nat.le_refl _) (.int .i64 ((k : Int) * top / n)))
      have S3 := Lib.hid (set_next (f := fun i : Nat => (i : Int) * top / n) k (n + 1) hlt)
      rw [S3.out] at S1
      clear hO hB S3
      have hl1 : (k : Int) < ((n + 1 : Nat) : Int) := by omega
      go_wp2
      go_roundw
      case rel => exact ⟨k + 1, by omega, by go_num, S1, S2⟩
      case measure => simp [intOf]; omega
    · obtain rfl : k = n + 1 := by omega
      go_wp2
      go_returns
      refine ⟨_, rfl, ?_, hB.out⟩
      have hN := nums_of_own hO.out
      simpa [hs, hk] using hN
theorem hts_any (top n : Int) (w : World) :
    Calls Try.prog 10 #[.int .i64 top, .int .i64 n] w fun e w' => ∃ v, e = .returned (.tuple #[v, .int .i64 (heE top n)]) ∧ Nums w' v (heL top n) ∧ Below w.heap.size w w' := by
  unfold heE heL
  cases h : heB top n with
  | true =>
    obtain ⟨⟨t0, t1⟩, n0, n1⟩ := (heB_iff top n).1 h
    rw [if_pos rfl, if_pos rfl]
    have := hts_ok top n.toNat w t0 t1 (by omega) (by omega)
    rwa [show ((n.toNat : Nat) : Int) = n by omega] at this
  | false =>
    have HB := Lib.hid (fun W => isHt_any top W)
    have hn : hB top = false ∨ (hB top = true ∧ n < 1) ∨ (hB top = true ∧ 1 ≤ n ∧ 64 < n) := by
      have : ¬ ((0 ≤ top ∧ top ≤ 200000) ∧ 1 ≤ n ∧ n ≤ 64) := fun hc => by rw [(heB_iff top n).2 hc] at h; cases h
      cases hh : hB top with
      | false => exact .inl rfl
      | true =>
        right
        simp [hB] at hh
        by_cases h1 : n < 1
        · exact .inl ⟨rfl, h1⟩
        · exact .inr ⟨rfl, by omega, by omega⟩
    rw [if_neg (by simp), if_neg (by simp)]
    clear h
    rcases hn with hn | ⟨hn, hn2⟩ | ⟨hn, hn2, hn3⟩
    all_goals
      rw [hn] at HB
      clear hn
      go_enter Try.func10, Try.ntmps10
      go_wp2_with fail
      refine (HB.out _).mono ?_
      rintro e w1 ⟨rfl, hw⟩
      subst hw
      go_wp2
      go_returns
      exact ⟨_, rfl, ⟨none, 0, rfl, by simp, .inl rfl⟩, Below.refl _ _⟩
end Go.Proofs.Ytlofblpfohnooaa
