/- Texts that the proofs of this seat share, one behind the other: QEg, IT4, QS0, QS, IO. -/
import Derived.Test.YtadkhhkoankhnaaM1
import Derived.BigQuiet
import Derived.Below
import Derived.Deep.QuietTactic

set_option linter.unusedVariables false
set_option linter.unusedSimpArgs false

/- slices.Equal at rows. -/
namespace Go.Proofs.Ytadkhhkoankhnaa
open Go.RowKit

set_option maxHeartbeats 8000000 in
theorem eqG_some (b o n c b2 o2 d : Nat) (xs ys : List (Int × Int)) (B : Bool) (w : World) (hn : n ≤ 9223372036854775807) (hb : b < w.heap.size) (hb2 : b2 < w.heap.size)
    (h1 : Hid (∀ j, j < n → w.cell? ⟨b, o + j * 2, none⟩ = some (.int .i64 (gX xs j)) ∧ w.cell? ⟨b, o + j * 2 + 1, none⟩ = some (.int .i64 (gR xs j))))
    (h2 : Hid (∀ j, j < n → w.cell? ⟨b2, o2 + j * 2, none⟩ = some (.int .i64 (gX ys j)) ∧ w.cell? ⟨b2, o2 + j * 2 + 1, none⟩ = some (.int .i64 (gR ys j))))
    (k1 : Hid ((∃ j, j < n ∧ samP (gX xs j) (gR xs j) (gX ys j) (gR ys j) = false) → B = false)) (k2 : Hid ((∀ j, j < n → samP (gX xs j) (gR xs j) (gX ys j) (gR ys j) = true) → B = true)) :
    Calls Try.prog 48 #[.slice (some ⟨b, o, none⟩) n c, .slice (some ⟨b2, o2, none⟩) n d] w fun e w' => e = .returned (.bool B) ∧ Below w.heap.size w w' := by
  go_enter Try.func48, Try.ntmps48
  go_wp2_with fail
  go_loopw [13] (fun i wr => ∃ k : Nat, k ≤ n ∧ i = .int .i64 k ∧ Hid (Below w.heap.size w wr) ∧ Hid (∀ j, j < k → samP (gX xs j) (gR xs j) (gX ys j) (gR ys j) = true)) (fun i _ => n - (intOf i).toNat)
  case atStart => exact ⟨0, Nat.zero_le _, rfl, Below.refl _ _, fun j hj => by omega⟩
  case round =>
    obtain ⟨k, hk, rfl, hB, ha⟩ := hrel
    by_cases hlt : k < n
    · have c0 : wr.cell? ⟨b, o + k * 2, none⟩ = some (.int .i64 (gX xs k)) := by rw [(bcell hB.out).1 _ _ hb]; exact (h1.out k hlt).1
      have c1 : wr.cell? ⟨b, o + k * 2 + 1, none⟩ = some (.int .i64 (gR xs k)) := by rw [(bcell hB.out).1 _ _ hb]; exact (h1.out k hlt).2
      have c2 : wr.cell? ⟨b2, o2 + k * 2, none⟩ = some (.int .i64 (gX ys k)) := by rw [(bcell hB.out).1 _ _ hb2]; exact (h2.out k hlt).1
      have c3 : wr.cell? ⟨b2, o2 + k * 2 + 1, none⟩ = some (.int .i64 (gR ys k)) := by rw [(bcell hB.out).1 _ _ hb2]; exact (h2.out k hlt).2
      have l1 : (k : Int) < (n : Int) := by omega
      cases hq : samP (gX xs k) (gR xs k) (gX ys k) (gR ys k) with
      | false =>
        have hBf := k1.out ⟨k, hlt, hq⟩
        generalize gX xs k = p at *
        generalize gR xs k = q at *
        generalize gX ys k = x at *
        generalize gR ys k = y at *
        have Q : ∀ W, (binOp .neq 42 (.agg #[.int .i64 p, .int .i64 q]) (.agg #[.int .i64 x, .int .i64 y])).run Try.prog W = .ok (.bool true) W := fun W => by rw [run_neq_point, hq]; rfl
        clear hq
        subst hBf
        go_wp2_with fail
        go_quiet (fail)
        go_wp2
        go_returns
        exact ⟨rfl, bel_trans hB.out (bel_drewN _ _)⟩
      | true =>
        have ha2 : Hid (∀ j, j < k + 1 → samP (gX xs j) (gR xs j) (gX ys j) (gR ys j) = true) := fun j hj => by
          by_cases e : j = k
          · rw [e]; exact hq
          · exact ha.out j (by omega)
        clear ha
        generalize gX xs k = p at c0 hq
        generalize gR xs k = q at c1 hq
        generalize gX ys k = x at c2 hq
        generalize gR ys k = y at c3 hq
        have Q : ∀ W, (binOp .neq 42 (.agg #[.int .i64 p, .int .i64 q]) (.agg #[.int .i64 x, .int .i64 y])).run Try.prog W = .ok (.bool false) W := fun W => by rw [run_neq_point, hq]; rfl
        clear hq
        go_wp2_with fail
        go_quiet (fail)
        go_wp2
        go_roundw
        case rel => exact ⟨k + 1, by omega, by go_num, bel_trans hB.out (bel_drewN _ _), ha2⟩
        case measure => simp [intOf]; omega
    · obtain rfl : k = n := by omega
      obtain rfl := k2.out ha.out
      go_wp2
      go_returns
      exact ⟨rfl, hB.out⟩
theorem eqG_zero (a : Option Addr) (c : Nat) (a2 : Option Addr) (d : Nat) (w : World) :
    Calls Try.prog 48 #[.slice a 0 c, .slice a2 0 d] w fun e w' => e = .returned (.bool true) ∧ Below w.heap.size w w' := by
  go_enter Try.func48, Try.ntmps48
  go_wp2_with fail
  go_loopw [13] (fun i wr => i = .int .i64 0 ∧ w = wr) (fun _ _ => 0)
  case atStart => exact ⟨rfl, rfl⟩
  case round =>
    obtain ⟨rfl, rfl⟩ := hrel
    go_wp2
    go_returns
    exact ⟨rfl, Below.refl _ _⟩
theorem eqG_lens (a : Option Addr) (n c : Nat) (a2 : Option Addr) (m d : Nat) (w : World) (h : n ≠ m) (hn : n ≤ 9223372036854775807) (hm : m ≤ 9223372036854775807) :
    Calls Try.prog 48 #[.slice a n c, .slice a2 m d] w fun e w' => e = .returned (.bool false) ∧ Below w.heap.size w w' := by
  have g : ((n : Int) != (m : Int)) = true := by rw [bne_iff_ne]; omega
  go_enter Try.func48, Try.ntmps48
  go_wp2
  go_returns
  exact ⟨rfl, Below.refl _ _⟩
theorem eqG_any (v u : Value) (xs ys : List (Int × Int)) (w : World) (hv : Pts w v xs) (hu : Pts w u ys) :
    Calls Try.prog 48 #[v, u] w fun e w' => e = .returned (.bool (decide (xs = ys))) ∧ Below w.heap.size w w' := by
  obtain ⟨a, c, rfl, hl, hh⟩ := hv
  obtain ⟨a2, d, rfl, hl2, hh2⟩ := hu
  have ext : ∀ j, (xs.getD j (0, 0) = ys.getD j (0, 0)) ↔ samP (gX xs j) (gR xs j) (gX ys j) (gR ys j) = true := fun j => by
    unfold samP gX gR
    rw [Bool.and_eq_true, beq_iff_eq, beq_iff_eq]
    exact ⟨fun h => by rw [h]; exact ⟨rfl, rfl⟩, fun h => Prod.ext h.1 h.2⟩
  by_cases hn : xs.length = ys.length
  · rcases hh with h0 | ⟨b, o, rfl, hb, hc⟩
    · have e1 := List.length_eq_zero_iff.1 h0
      have e2 : ys = [] := List.length_eq_zero_iff.1 (by omega)
      subst e1 e2
      exact eqG_zero a c a2 d w
    · rcases hh2 with h0 | ⟨b2, o2, rfl, hb2, hc2⟩
      · have e1 := List.length_eq_zero_iff.1 h0
        have e2 : xs = [] := List.length_eq_zero_iff.1 (by omega)
        subst e1 e2
        exact eqG_zero _ c a2 d w
      · rw [← hn]
        refine eqG_some b o _ c b2 o2 d xs ys _ w (by omega) hb hb2 (Lib.hid hc) (Lib.hid fun j hj => hc2 j (by omega)) (Lib.hid ?_) (Lib.hid ?_)
        · rintro ⟨j, hj, h⟩
          rw [decide_eq_false_iff_not]
          intro e
          have := (ext j).1 (by rw [e])
          rw [h] at this
          cases this
        · intro h
          rw [decide_eq_true_iff]
          apply List.ext_getElem hn
          intro j h1 h2
          have := (ext j).2 (h j h1)
          rw [List.getD_eq_getElem?_getD, List.getD_eq_getElem?_getD, List.getElem?_eq_getElem h1, List.getElem?_eq_getElem h2] at this
          exact this
  · rw [decide_eq_false (fun e => hn (by rw [e]))]
    exact eqG_lens a _ c a2 _ d w hn (by omega) (by omega)
end Go.Proofs.Ytadkhhkoankhnaa

/- Package interpolate: the example. -/
namespace Go.Proofs.Ytadkhhkoankhnaa
open Go.RowKit

def itX : List (Int × Int) := [(0, 99820), (5000, 93016), (10000, 78924)]
def itM : List (Int × Int) := [(0, 99820), (5000, 93016), (7500, 85970), (10000, 78924)]
theorem itX_dr : DR itX := dnE_zero.1 (by decide)
theorem itX_d : denV itX 6000 = 90198 ∧ denE itX 6000 = 0 ∧ denV itX 7500 = 85970 ∧ denE itX 7500 = 0 := by decide +kernel
theorem itX_s : itsV itX 90198 = 6000 ∧ itsE itX 90198 = 0 := by
  have e0 : itsE itX 90198 = 0 := itsE_zero.2 ⟨itX_dr, by decide, by decide +kernel⟩
  obtain ⟨b1, b2, b3⟩ := blN_spec itX_dr 90198
  have c1 : ¬ (6000 : Int) ≥ (blN itX 90198 : Int) := fun h => by
    have := b3 6000 (by omega) (by decide)
    have e : atD itX 6000 = 90198 := by decide +kernel
    omega
  have c2 : ¬ (6001 : Int) < (blN itX 90198 : Int) := fun h => by
    have := b2 6001 (by decide) h
    have e : atD itX 6001 < 90198 := by decide +kernel
    omega
  refine ⟨?_, e0⟩
  unfold itsV
  rw [if_pos e0]
  omega
theorem nl1 : nlB 0 99820 5000 93016 7500 85970 = false := nlB_no (s := 1) (by decide) (by decide) (by decide +kernel)
theorem at3 {x0 r0 x1 r1 x2 r2 s : Int} (h : WR [(x0, r0), (x1, r1), (x2, r2)]) : (x0 ≤ s → s ≤ x1 → atD [(x0, r0), (x1, r1), (x2, r2)] s = btD x0 r0 x1 r1 s) ∧ (x1 ≤ s → s ≤ x2 → atD [(x0, r0), (x1, r1), (x2, r2)] s = btD x1 r1 x2 r2 s) :=
  ⟨fun h0 h1 => atD_eqW h (k := 0) (by simp) (by simpa [gX] using h0) (by simpa [gX] using h1), fun h0 h1 => atD_eqW h (k := 1) (by simp) (by simpa [gX] using h0) (by simpa [gX] using h1)⟩
theorem nl2 : nlB 5000 93016 7500 85970 10000 78924 = true := nlB_yes fun s h0 h1 => by
  have hw : WR [((5000 : Int), (93016 : Int)), (7500, 85970), (10000, 78924)] := wr3 (by decide) (by decide) (by decide) (by decide) (by decide) (by decide) (by decide) (by decide)
  obtain ⟨p, q⟩ := at3 (s := s) hw
  rcases Int.le_total s 7500 with g | g
  · rw [p h0 g]; unfold btD; omega
  · rw [q g h1]; unfold btD; omega
set_option maxRecDepth 100000 in
theorem itM_t : thL itM = itX ∧ thE itM = 0 := by
  have e0 : dnE itM = 0 := by decide
  refine ⟨?_, by unfold thE; rw [if_pos e0]⟩
  unfold thL
  rw [if_pos e0]
  have k1 : thK itM 1 = [(0, 99820), (5000, 93016)] := by
    show (if nlB 0 99820 5000 93016 7500 85970 = true then _ else _) = _
    rw [nl1, if_neg (by decide)]; rfl
  have k2 : thK itM 2 = [(0, 99820), (5000, 93016)] := by
    show (if nlB (gX (thK itM 1) ((thK itM 1).length - 1)) (gR (thK itM 1) ((thK itM 1).length - 1)) 7500 85970 10000 78924 = true then thK itM 1 else _) = _
    rw [k1]
    show (if nlB 5000 93016 7500 85970 10000 78924 = true then _ else _) = _
    rw [nl2, if_pos rfl]
  show thK itM 2 ++ _ = _
  rw [k2]; rfl
theorem cloneP (v : Value) (l : List (Int × Int)) (w : World) (h : Pts w v l) (h0 : 0 < l.length) (hn : l.length ≤ 1000) :
    Calls Try.prog 47 #[v] w fun e w' => ∃ u, e = .returned u ∧ OwnP w' w.heap.size u l ∧ Below w.heap.size w w' := by
  obtain ⟨a, c, rfl, hl, h | ⟨b, off, rfl, hb, hc⟩⟩ := h
  · omega
  · refine (clone_some ⟨b, off, none⟩ l.length c (flat l) w (flat_len l) hn ?_ (flat_one l)).mono fun _ w' ⟨u, g1, g2, _, g4⟩ => ⟨u, g1, g2, g4⟩
    intro j u hj
    obtain ⟨i, hi, ⟨rfl, rfl⟩ | ⟨rfl, rfl⟩⟩ := flat_inv l j u hj
    · rw [Go.WideShapes.add_plain, World.cell?_alloc_lt w _ _ hb]
      exact (hc i hi).1
    · rw [Go.WideShapes.add_plain, World.cell?_alloc_lt w _ _ hb, ← Nat.add_assoc]
      exact (hc i hi).2
set_option maxHeartbeats 16000000 in
set_option maxRecDepth 100000 in
theorem awakeI_any (w : World) : Calls Try.prog 15 #[] w fun e w' => e = .returned (.bool true) ∧ Below w.heap.size w w' := by
  have P0 := pts_lit w itX (flat itX) rfl (by decide)
  have X0 : Below w.heap.size w (w.alloc (.cells (flat itX).toArray 42)) := bel_alloc (Below.refl _ _)
  have C1 := Lib.hid (fun v W h => itDen_any v itX 6000 W h)
  have C2 := Lib.hid (fun v W h => itDen_any v itX 7500 W h)
  have C3 := Lib.hid (fun v W h => itSt_any v itX 90198 W h)
  have C4 := Lib.hid (fun v W h => cloneP v itX W h (by decide) (by decide))
  have C5 := Lib.hid (fun v W h => itTh_any v itM W h)
  have C6 := Lib.hid (fun v u W h1 h2 => eqG_any v u itX itX W h1 h2)
  rw [decide_eq_true rfl] at C6
  rw [itX_d.1, itX_d.2.1] at C1
  rw [itX_d.2.2.1, itX_d.2.2.2] at C2
  rw [itX_s.1, itX_s.2] at C3
  rw [itM_t.1, itM_t.2] at C5
  replace P0 := Lib.hid P0
  have HB := Lib.hid X0; clear X0
  go_enter Try.func15, Try.ntmps15
  go_wp2_with fail
  refine (C1.out _ _ P0.out).mono ?_
  rintro e w1 ⟨rfl, h1⟩
  replace P0 := Lib.hid (P0.out.below h1)
  replace HB := Lib.hid (bel_trans HB.out h1); clear h1
  go_wp2_with fail
  refine (C2.out _ _ P0.out).mono ?_
  rintro e w2 ⟨rfl, h1⟩
  replace P0 := Lib.hid (P0.out.below h1)
  replace HB := Lib.hid (bel_trans HB.out h1); clear h1
  go_wp2_with fail
  refine (C3.out _ _ P0.out).mono ?_
  rintro e w3 ⟨rfl, h1⟩
  replace P0 := Lib.hid (P0.out.below h1)
  replace HB := Lib.hid (bel_trans HB.out h1); clear h1
  go_wp2_with fail
  refine (C4.out _ _ P0.out).mono ?_
  rintro e w4 ⟨u, rfl, ho, h1⟩
  have sz4 := h1.size
  have H4 := Lib.hid h1; clear h1
  have CI := Lib.hid (ins2_any u 7500 85970 0 99820 5000 93016 10000 78924 w3.heap.size w4 42 ho sz4)
  clear ho sz4
  go_wp2_with fail
  refine CI.out.mono ?_
  rintro e w5 ⟨z, rfl, hp5, h5⟩
  have P5 := Lib.hid hp5; clear hp5
  have H5 := Lib.hid (H4.out.trans h5)
  replace P0 := Lib.hid (P0.out.below H5.out)
  replace HB := Lib.hid (bel_trans HB.out H5.out); clear h5 H4 H5
  go_wp2_with fail
  refine (C5.out _ _ P5.out).mono ?_
  rintro e w6 ⟨t, rfl, hp6, h1⟩
  have P6 := Lib.hid hp6; clear hp6
  replace P0 := Lib.hid (P0.out.below h1)
  replace HB := Lib.hid (bel_trans HB.out h1); clear h1 P5
  go_wp2_with fail
  refine (C6.out _ _ _ P6.out P0.out).mono ?_
  rintro e w7 ⟨rfl, h1⟩
  replace HB := Lib.hid (bel_trans HB.out h1); clear h1
  go_wp2
  go_returns
  exact ⟨rfl, HB.out⟩
end Go.Proofs.Ytadkhhkoankhnaa

/- Layer 16: Few. -/
namespace Go.Proofs.Ytadkhhkoankhnaa
open Go.RowKit

def fwB (n : Nat) : Bool := decide (n ≤ 20) || (decide (128 < n) && decide (n ≤ 133))
theorem few_any (v : Value) (l : List (Int × Int)) (w : World) (hv : Pts w v l) :
    Calls Try.prog 16 #[v] w fun e w' => e = .returned (.bool (fwB l.length)) ∧ w' = w := by
  obtain ⟨a, cap, rfl, h1, h2⟩ := hv.shape
  by_cases q0 : l.length ≤ 20
  · go_enter Try.func16, Try.ntmps16
    go_wp2
    go_ret
    exact ⟨ret_bool (by simp [fwB, q0]), rfl⟩
  · by_cases q1 : 128 < l.length
    · go_enter Try.func16, Try.ntmps16
      go_wp2
      go_ret
      exact ⟨ret_bool (by rw [Bool.eq_iff_iff]; simp [fwB]; omega), rfl⟩
    · go_enter Try.func16, Try.ntmps16
      go_wp2
      go_ret
      exact ⟨ret_bool (by rw [Bool.eq_iff_iff]; simp [fwB]; omega), rfl⟩
theorem sam_eq {l m : List (Int × Int)} (hl : l.length = m.length) (h : ∀ j, j < l.length → samP (gX l j) (gR l j) (gX m j) (gR m j) = true) : l = m := by
  apply List.ext_getElem hl
  intro i h1 h2
  have := h i h1
  simp only [samP, Bool.and_eq_true, beq_iff_eq, gX, gR, List.getD_eq_getElem?_getD, List.getElem?_eq_getElem h1, List.getElem?_eq_getElem h2, Option.getD_some] at this
  exact Prod.ext this.1 this.2
end Go.Proofs.Ytadkhhkoankhnaa

/- The reference of layer 8: Same. -/
namespace Go.Proofs.Ytadkhhkoankhnaa
open Go.RowKit

theorem same_lens (a c : Option Addr) (n cap m cap2 : Nat) (w : World) (h : ((n : Int) != (m : Int)) = true) :
    Calls Try.prog 27 #[.slice a n cap, .slice c m cap2] w fun e w' => e = .returned (.bool false) ∧ Below w.heap.size w w' := by
  go_enter Try.func27, Try.ntmps27
  go_wp2
  go_returns
  exact ⟨rfl, Below.refl _ _⟩
theorem same_nil (a c : Option Addr) (cap cap2 : Nat) (w : World) :
    Calls Try.prog 27 #[.slice a 0 cap, .slice c 0 cap2] w fun e w' => e = .returned (.bool true) ∧ Below w.heap.size w w' := by
  go_enter Try.func27, Try.ntmps27
  go_wp2_with fail
  go_loopw [5] (fun ii wr => ii = .int .i64 0 ∧ Hid (Below w.heap.size w wr)) (fun _ _ => 0)
  case atStart => exact ⟨rfl, Below.refl _ _⟩
  case round =>
    obtain ⟨rfl, hB⟩ := hrel
    go_wp2
    go_returns
    exact ⟨rfl, hB.out⟩
set_option maxHeartbeats 4000000 in
theorem same_some (b off b2 off2 n cap cap2 : Nat) (f g f2 g2 : Nat → Int) (S : Bool) (w : World) (n1 : n ≤ 1000) (hb : b < w.heap.size) (hb2 : b2 < w.heap.size)
    (hc : Hid (∀ j, j < n → w.cell? ⟨b, off + j * 2, none⟩ = some (.int .i64 (f j)) ∧ w.cell? ⟨b, off + j * 2 + 1, none⟩ = some (.int .i64 (g j))))
    (hc2 : Hid (∀ j, j < n → w.cell? ⟨b2, off2 + j * 2, none⟩ = some (.int .i64 (f2 j)) ∧ w.cell? ⟨b2, off2 + j * 2 + 1, none⟩ = some (.int .i64 (g2 j))))
    (h1 : Hid ((∃ j, j < n ∧ samP (f j) (g j) (f2 j) (g2 j) = false) → S = false)) (h2 : Hid ((∀ j, j < n → samP (f j) (g j) (f2 j) (g2 j) = true) → S = true)) :
    Calls Try.prog 27 #[.slice (some ⟨b, off, none⟩) n cap, .slice (some ⟨b2, off2, none⟩) n cap2] w fun e w' => e = .returned (.bool S) ∧ Below w.heap.size w w' := by
  go_enter Try.func27, Try.ntmps27
  go_wp2_with fail
  go_loopw [5] (fun ii wr => ∃ k : Nat, k ≤ n ∧ ii = .int .i64 k ∧ Hid (Below w.heap.size w wr) ∧ Hid (∀ j, j < k → samP (f j) (g j) (f2 j) (g2 j) = true)) (fun ii _ => n - (intOf ii).toNat)
  case atStart => exact ⟨0, Nat.zero_le _, rfl, Below.refl _ _, fun j hj => by omega⟩
  case round =>
    obtain ⟨k, hk, rfl, hB, ha⟩ := hrel
    by_cases hlt : k < n
    · have c0 : wr.cell? ⟨b, off + k * 2, none⟩ = some (.int .i64 (f k)) := by rw [(bcell hB.out).1 _ _ hb]; exact (hc.out k hlt).1
      have c1 : wr.cell? ⟨b, off + k * 2 + 1, none⟩ = some (.int .i64 (g k)) := by rw [(bcell hB.out).1 _ _ hb]; exact (hc.out k hlt).2
      have d0 : wr.cell? ⟨b2, off2 + k * 2, none⟩ = some (.int .i64 (f2 k)) := by rw [(bcell hB.out).1 _ _ hb2]; exact (hc2.out k hlt).1
      have d1 : wr.cell? ⟨b2, off2 + k * 2 + 1, none⟩ = some (.int .i64 (g2 k)) := by rw [(bcell hB.out).1 _ _ hb2]; exact (hc2.out k hlt).2
      have HF : Hid (samP (f k) (g k) (f2 k) (g2 k) = false → S = false) := fun h => h1.out ⟨k, hlt, h⟩
      have HT : Hid (samP (f k) (g k) (f2 k) (g2 k) = true → ∀ j, j < k + 1 → samP (f j) (g j) (f2 j) (g2 j) = true) := fun h j hj => by
        by_cases e : j = k
        · rw [e]; exact h
        · exact ha.out j (by omega)
      have l1 : (k : Int) < (n : Int) := by omega
      generalize f k = x at *
      generalize g k = y at *
      generalize f2 k = u at *
      generalize g2 k = v at *
      cases hq : samP x y u v with
      | false =>
        obtain rfl := HF.out hq
        have q1 : ∀ W, (binOp .neq 42 (.agg #[.int .i64 x, .int .i64 y]) (.agg #[.int .i64 u, .int .i64 v])).run Try.prog W = .ok (.bool true) W := fun W => by rw [run_neq_point, hq]; rfl
        clear HF HT hq
        go_wp2_with fail
        go_quiet (fail)
        go_wp2
        go_returns
        exact ⟨rfl, bel_trans hB.out (bel_drewN _ _)⟩
      | true =>
        have ha2 := Lib.hid (HT.out hq)
        have q1 : ∀ W, (binOp .neq 42 (.agg #[.int .i64 x, .int .i64 y]) (.agg #[.int .i64 u, .int .i64 v])).run Try.prog W = .ok (.bool false) W := fun W => by rw [run_neq_point, hq]; rfl
        clear HF HT hq
        go_wp2_with fail
        go_quiet (fail)
        go_wp2
        go_roundw
        case rel => exact ⟨k + 1, by omega, by go_num, bel_trans hB.out (bel_drewN _ _), ha2⟩
        case measure => simp [intOf]; omega
    · obtain rfl : k = n := by omega
      have hS := h2.out ha.out
      subst hS
      go_wp2
      go_returns
      exact ⟨rfl, hB.out⟩
/-- Same says whether two lists are equal -/
theorem same_any (v u : Value) (l m : List (Int × Int)) (w : World) (hv : Pts w v l) (hu : Pts w u m) (hn : l.length ≤ 1000) :
    Calls Try.prog 27 #[v, u] w fun e w' => e = .returned (.bool (l == m)) ∧ Below w.heap.size w w' := by
  obtain ⟨a, cap, rfl, hl, hh⟩ := hv
  obtain ⟨c, cap2, rfl, hl2, hh2⟩ := hu
  by_cases hlen : l.length = m.length
  · rcases hh with hh | ⟨b, off, rfl, hb, hc⟩
    · have e1 := List.length_eq_zero_iff.1 hh
      have e2 := List.length_eq_zero_iff.1 (hlen ▸ hh)
      subst e1 e2
      exact same_nil a c cap cap2 w
    · rcases hh2 with hh2 | ⟨b2, off2, rfl, hb2, hc2⟩
      · have e2 := List.length_eq_zero_iff.1 hh2
        have e1 := List.length_eq_zero_iff.1 (hlen.trans hh2)
        subst e1 e2
        exact same_nil _ c cap cap2 w
      · rw [← hlen] at hc2 ⊢
        refine same_some b off b2 off2 l.length cap cap2 (gX l) (gR l) (gX m) (gR m) _ w hn hb hb2 hc hc2 (fun ⟨j, hj, h⟩ => ?_) (fun h => ?_)
        · rw [beq_eq_false_iff_ne]
          intro e
          subst e
          simp [samP] at h
        · rw [beq_iff_eq]; exact sam_eq hlen h
  · have := same_lens a c l.length cap m.length cap2 w (by simpa using fun e : (l.length : Int) = m.length => hlen (by omega))
    refine this.mono fun _ _ g => ⟨?_, g.2⟩
    rw [g.1]
    congr 2
    symm
    rw [beq_eq_false_iff_ne]
    intro e; exact hlen (by rw [e])
end Go.Proofs.Ytadkhhkoankhnaa

/- How the arguments of a statement of layer 18 are opened. -/
