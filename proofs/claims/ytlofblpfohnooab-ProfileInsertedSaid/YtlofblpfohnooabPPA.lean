/- Package profile: lengths; points that are out, or closed; whether a list contains one. -/
import Derived.Test.YtlofblpfohnooabPPM
import Derived.FnLit
namespace Go.Proofs.Ytlofblpfohnooab
open Go.RowKit

theorem isLen_any (n : Int) (w : World) : Calls Try.prog 41 #[.int .i64 n] w fun e w' => e = .returned (.bool (lenB n)) ∧ w = w' := by
  by_cases h0 : 0 ≤ n <;> by_cases h1 : n ≤ 100000
  all_goals
    go_enter Try.func41, Try.ntmps41
    go_wp2
    go_ret
    exact ⟨by simp [lenB, h0, h1], rfl⟩
theorem isOut_any (x r : Int) (w : World) : Calls Try.prog 29 #[.agg #[.int .i64 x, .int .i64 r]] w fun e w' => e = .returned (.bool (ptOut (x, r))) ∧ Below w.heap.size w w' := by
  have H1 := Lib.hid (fun W => isLen_any x W)
  have H2 := Lib.hid (fun W => isLen_any r W)
  cases h : lenB x with
  | false =>
    rw [h] at H1
    have e : ptOut (x, r) = true := by simp [ptOut, h]
    rw [e]
    go_enter Try.func29, Try.ntmps29
    go_wp2_with fail
    refine (H1.out _).mono ?_
    rintro e w1 ⟨rfl, hw⟩
    subst hw
    go_wp2
    go_ret
    exact ⟨rfl, bel_alloc (Below.refl _ _)⟩
  | true =>
    rw [h] at H1
    cases h2 : lenB r with
    | false =>
      rw [h2] at H2
      have e : ptOut (x, r) = true := by simp [ptOut, h2]
      rw [e]
      go_enter Try.func29, Try.ntmps29
      go_wp2_with fail
      refine (H1.out _).mono ?_
      rintro e w1 ⟨rfl, hw⟩
      subst hw
      go_wp2_with fail
      refine (H2.out _).mono ?_
      rintro e w1 ⟨rfl, hw⟩
      subst hw
      go_wp2
      go_ret
      exact ⟨rfl, bel_alloc (Below.refl _ _)⟩
    | true =>
      rw [h2] at H2
      have e : ptOut (x, r) = false := by simp [ptOut, h, h2]
      rw [e]
      go_enter Try.func29, Try.ntmps29
      go_wp2_with fail
      refine (H1.out _).mono ?_
      rintro e w1 ⟨rfl, hw⟩
      subst hw
      go_wp2_with fail
      refine (H2.out _).mono ?_
      rintro e w1 ⟨rfl, hw⟩
      subst hw
      go_wp2
      go_ret
      exact ⟨rfl, bel_alloc (Below.refl _ _)⟩
theorem isCl_any (x r : Int) (w : World) : Calls Try.prog 31 #[.agg #[.int .i64 x, .int .i64 r]] w fun e w' => e = .returned (.bool (ptCl (x, r))) ∧ Below w.heap.size w w' := by
  cases h : (r == 0) with
  | false =>
    have e : ptCl (x, r) = false := by simp only [ptCl, h]
    rw [e]
    go_enter Try.func31, Try.ntmps31
    go_wp2
    go_ret
    exact ⟨rfl, bel_alloc (Below.refl _ _)⟩
  | true =>
    have e : ptCl (x, r) = true := by simp only [ptCl, h]
    rw [e]
    go_enter Try.func31, Try.ntmps31
    go_wp2
    go_ret
    exact ⟨rfl, bel_alloc (Below.refl _ _)⟩

/-- the index of the first point of a kind -/
theorem index_some (f : Nat) (p : Int × Int → Bool) (hp : Hid (∀ x r W, Calls Try.prog f #[.agg #[.int .i64 x, .int .i64 r]] W fun e w' => e = .returned (.bool (p (x, r))) ∧ Below W.heap.size W w'))
    (eg : ∀ args w, (callFunc f args).run Try.prog w = .ok (.enter f args) w)
    (b off n cap : Nat) (l : List (Int × Int)) (B : Bool) (w : World) (n1 : n ≤ 1000) (hb : b < w.heap.size)
    (hc : Hid (∀ j, j < n → w.cell? ⟨b, off + j * 2, none⟩ = some (.int .i64 (gX l j)) ∧ w.cell? ⟨b, off + j * 2 + 1, none⟩ = some (.int .i64 (gR l j))))
    (h1 : Hid ((∃ j, j < n ∧ p (gX l j, gR l j) = true) → B = true)) (h2 : Hid ((∀ j, j < n → p (gX l j, gR l j) = false) → B = false)) :
    Calls Try.prog 39 #[.slice (some ⟨b, off, none⟩) n cap, .func (.func f) #[] #[]] w fun e w' => ∃ k : Int, e = .returned (.int .i64 k) ∧ decide (0 ≤ k) = B ∧ Below w.heap.size w w' := by
  go_enter Try.func39, Try.ntmps39
  go_wp2_with fail
  go_loopw [5, 8] (fun _ i wr => ∃ k : Nat, k ≤ n ∧ i = .int .i64 k ∧ Hid (Below w.heap.size w wr) ∧ Hid (∀ j, j < k → p (gX l j, gR l j) = false)) (fun _ i _ => n - (intOf i).toNat)
  case atStart => exact ⟨0, Nat.zero_le _, rfl, Below.refl _ _, fun j hj => by omega⟩
  case round =>
    obtain ⟨k, hk, rfl, hB, ha⟩ := hrel
    by_cases hlt : k < n
    · have c0 : wr.cell? ⟨b, off + k * 2, none⟩ = some (.int .i64 (gX l k)) := by rw [(bcell hB.out).1 _ _ hb]; exact (hc.out k hlt).1
      have c1 : wr.cell? ⟨b, off + k * 2 + 1, none⟩ = some (.int .i64 (gR l k)) := by rw [(bcell hB.out).1 _ _ hb]; exact (hc.out k hlt).2
      have HP := Lib.hid (fun W => hp.out (gX l k) (gR l k) W)
      cases hq : p (gX l k, gR l k) with
      | true =>
        have hBt := h1.out ⟨k, hlt, hq⟩
        rw [hq] at HP
        generalize gX l k = x at *
        generalize gR l k = r at *
        go_wp2_with fail
        refine (HP.out _).mono ?_
        rintro e w2 ⟨rfl, gg⟩
        have X := Lib.hid (bel_trans hB.out gg); clear gg
        go_wp2
        go_returns
        exact ⟨k, rfl, by rw [hBt]; simp, X.out⟩
      | false =>
        have ha2 : Hid (∀ j, j < k + 1 → p (gX l j, gR l j) = false) := fun j hj => by
          by_cases e : j = k
          · rw [e]; exact hq
          · exact ha.out j (by omega)
        rw [hq] at HP
        clear hq ha
        generalize gX l k = x at c0 HP
        generalize gR l k = r at c1 HP
        go_wp2_with fail
        refine (HP.out _).mono ?_
        rintro e w2 ⟨rfl, gg⟩
        have X := Lib.hid (bel_trans hB.out gg); clear gg
        go_wp2
        go_roundw
        case rel => exact ⟨k + 1, by omega, by go_num, X, ha2⟩
        case measure => simp [intOf]; omega
    · obtain rfl : k = n := by omega
      have hBf := h2.out ha.out
      go_wp2
      go_returns
      exact ⟨-1, rfl, by rw [hBf]; simp, hB.out⟩
theorem contains_some (f : Nat) (p : Int × Int → Bool) (hp : Hid (∀ x r W, Calls Try.prog f #[.agg #[.int .i64 x, .int .i64 r]] W fun e w' => e = .returned (.bool (p (x, r))) ∧ Below W.heap.size W w'))
    (eg : ∀ args w, (callFunc f args).run Try.prog w = .ok (.enter f args) w)
    (b off n cap : Nat) (l : List (Int × Int)) (w : World) (hl : n = l.length) (n1 : n ≤ 1000) (hb : b < w.heap.size)
    (hc : Hid (∀ j, j < n → w.cell? ⟨b, off + j * 2, none⟩ = some (.int .i64 (gX l j)) ∧ w.cell? ⟨b, off + j * 2 + 1, none⟩ = some (.int .i64 (gR l j)))) :
    Calls Try.prog 23 #[.slice (some ⟨b, off, none⟩) n cap, .func (.func f) #[] #[]] w fun e w' => e = .returned (.bool (l.any p)) ∧ Below w.heap.size w w' := by
  have HI := Lib.hid (index_some f p hp eg b off n cap l (l.any p) w n1 hb hc (fun ⟨j, hj, h⟩ => any_of (by omega) h) (fun h => any_not fun i hi => h i (by omega)))
  generalize l.any p = B at *
  clear eg hp hc hl
  go_enter Try.func23, Try.ntmps23
  go_wp2_with fail
  refine HI.out.mono ?_
  rintro e w1 ⟨k, rfl, hk, hb⟩
  have HB := Lib.hid hb; clear hb
  subst hk
  go_wp2
  all_goals
    go_ret
    exact ⟨by simp_all, HB.out⟩
end Go.Proofs.Ytlofblpfohnooab
