/- The reference of layer 7: Area, Strip, Whole. -/
import Derived.Test.YtlofblpfohnooaaSRefE
namespace Go.Proofs.Ytlofblpfohnooaa
open Go.RowKit

/-- what Area returns -/
def arE (r c : Int) (l : List Int) : Int := if lenB r = true ∧ lenB c = true then hcE l else 2
noncomputable def arL (r c : Int) (l : List Int) : Int := if arE r c l = 0 then prL r c l (l.length - 1) else 0
noncomputable def arH (r c : Int) (l : List Int) : Int := if arE r c l = 0 then prH r c l (l.length - 1) else 0
theorem refArea_any (r c : Int) (v : Value) (l : List Int) (w : World) (hv : Nums w v l) :
    Calls Try.prog 21 #[.int .i64 r, .int .i64 c, v] w fun e w' => e = .returned (.tuple #[.agg #[.int .i64 (arL r c l), .int .i64 (arH r c l)], .int .i64 (arE r c l)]) ∧ Below w.heap.size w w' := by
  unfold arL arH
  by_cases h : lenB r = true ∧ lenB c = true
  · have e : arE r c l = hcE l := by unfold arE; rw [if_pos h]
    rw [e]
    have HC := fun W (hb : Below w.heap.size w W) => refChk_any v l W (hv.below hb)
    by_cases h0 : hcE l = 0
    · rw [if_pos h0, if_pos h0, h0]
      rw [h0] at HC
      have hR := (hcE_iff l).1 h0
      obtain ⟨a, cap, rfl, hl, hh⟩ := hv
      rcases hh with hh | ⟨b, off, rfl, hb, hc⟩
      · have := hR.n0; omega
      · exact refArea_ok b off l.length cap l r c w rfl hR h.1 h.2 hb hc HC
    · rw [if_neg h0, if_neg h0]
      exact refArea_bad r c _ v w h.1 h.2 (by simpa using h0) (by simpa using h0) HC
  · have e : arE r c l = 2 := by unfold arE; rw [if_neg h]
    rw [e, if_neg (by omega), if_neg (by omega)]
    refine refArea_range r c v w ?_
    cases h1 : lenB r with
    | false => exact .inl rfl
    | true =>
      cases h2 : lenB c with
      | false => exact .inr ⟨rfl, rfl⟩
      | true => exact absurd ⟨h1, h2⟩ h

set_option maxHeartbeats 2000000 in
theorem refStrip_any (r c a b : Int) (w : World) :
    Calls Try.prog 19 #[.int .i64 r, .int .i64 c, .agg #[.int .i64 a, .int .i64 b]] w fun e w' => e = .returned (.tuple #[.agg #[.int .i64 (arL r c [a, b]), .int .i64 (arH r c [a, b])], .int .i64 (arE r c [a, b])]) ∧ Below w.heap.size w w' := by
  have HA : Hid (∀ v W, Nums W v [a, b] → _) := fun v W hv => refArea_any r c v [a, b] W hv
  generalize arL r c [a, b] = L at *
  generalize arH r c [a, b] = H at *
  generalize arE r c [a, b] = E at *
  have TZ := Lib.hid ((Two.new (w.alloc (.cells #[.int .i64 a, .int .i64 b] 33)) (.int .i64 0) (.int .i64 0) 33).alloc (.cells #[.int .i64 a, .int .i64 b] 3))
  simp only [World.size_alloc] at TZ
  go_enter Try.func19, Try.ntmps19
  go_wp2_with fail
  refine (HA.out _ _ ?_).mono ?_
  · exact ⟨_, _, rfl, ⟨by simp, by simp⟩, .inr ⟨_, 0, rfl, by simp, fun j hj => by
      have h2 : j = 0 ∨ j = 1 := by have : j < 2 := hj; omega
      rcases h2 with rfl | rfl <;> simp [go_sem]⟩⟩
  rintro e w1 ⟨rfl, gg⟩
  replace TZ := Lib.hid (TZ.out.below gg)
  have X1 := Lib.hid (bel_alloc (bel_alloc (bel_alloc gg))); clear gg
  obtain ⟨z0, z1, f0, f1, hlt⟩ := TZ.out
  go_wp2
  obtain ⟨t0, t1⟩ := two_read w1 (w.heap.size + 1) (.int .i64 L) (.int .i64 H) z0 z1
  refine bodyPost_ret (v := .tuple #[.agg #[.int .i64 L, .int .i64 H], .int .i64 E]) (by simp [results, Try.results19, go_sem, t0, t1]) rfl ?_
  exact ⟨rfl, (X1.out.setCell (p := ⟨w.heap.size + 1, 0, none⟩) (Nat.le_succ _) _).setCell (p := ⟨w.heap.size + 1, 1, none⟩) (Nat.le_succ _) _⟩

/-- what Whole returns -/
def whE (r : Int) : Int := if lenB r = true then 0 else 2
def whL (r : Int) : Int := if lenB r = true then r * r * 333 / 106 else 0
def whH (r : Int) : Int := if lenB r = true then (r * r * 355 + 112) / 113 else 0
theorem refWhole_any (r : Int) (w : World) :
    Calls Try.prog 23 #[.int .i64 r] w fun e w' => e = .returned (.tuple #[.agg #[.int .i64 (whL r), .int .i64 (whH r)], .int .i64 (whE r)]) ∧ Below w.heap.size w w' := by
  have HL := Lib.hid (fun W => refLen_any r W)
  unfold whE whL whH
  cases h : lenB r with
  | false =>
    rw [h] at HL
    rw [if_neg (by simp), if_neg (by simp), if_neg (by simp)]
    clear h
    go_enter Try.func23, Try.ntmps23
    go_wp2_with fail
    refine (HL.out _).mono ?_
    rintro e w1 ⟨rfl, hw⟩
    subst hw
    go_wp2
    refine bodyPost_ret (v := .tuple #[.agg #[.int .i64 0, .int .i64 0], .int .i64 2]) (by simp [results, Try.results23, go_sem]) rfl ?_
    exact ⟨rfl, bel_alloc (Below.refl _ _)⟩
  | true =>
    rw [h] at HL
    rw [if_pos rfl, if_pos rfl, if_pos rfl]
    obtain ⟨r0, r1⟩ := (lenB_iff r).1 h
    have s0 : 0 ≤ r * r := Int.mul_nonneg r0 r0
    have s1 : r * r ≤ 10000000000 := by have := sq_mono r0 r1; omega
    clear h
    go_enter Try.func23, Try.ntmps23
    go_wp2_with fail
    refine (HL.out _).mono ?_
    rintro e w1 ⟨rfl, hw⟩
    subst hw
    go_wp2
    refine bodyPost_ret (v := .tuple #[.agg #[.int .i64 (r * r * 333 / 106), .int .i64 ((r * r * 355 + 112) / 113)], .int .i64 0]) (by simp [results, Try.results23, go_sem]) rfl ?_
    exact ⟨rfl, bel_alloc (Below.refl _ _)⟩
end Go.Proofs.Ytlofblpfohnooaa
