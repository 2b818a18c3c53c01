/- Package unit: Sum. -/
import Derived.Test.YtdhckbjebccdbaaDoorUQs
namespace Go.Proofs.YtdhckbjebccdbaaDoor
open Go.RowKit

theorem Two.set1 {b : Nat} {W : World} {x y : Value} (h : Two b W x y) (z : Value) : Two b (W.setCell ⟨b, 1, none⟩ z) x z := by
  obtain ⟨h0, h1, h2, h3, h4⟩ := h
  refine ⟨?_, ?_, ?_, ?_, ?_⟩
  · rw [World.cell?_setCell_other _ _ _ _ (by simp)]; exact h0
  · exact World.cell?_setCell_same _ _ _ h1
  · rw [World.frozen?_setCell]; exact h2
  · rw [World.frozen?_setCell]; exact h3
  · simpa [World.setCell] using h4
theorem Two.other {b : Nat} {W : World} {x y : Value} (h : Two b W x y) (p : Addr) (hp : p.block ≠ b) (z : Value) : Two b (W.setCell p z) x y := by
  obtain ⟨h0, h1, h2, h3, h4⟩ := h
  refine ⟨?_, ?_, ?_, ?_, ?_⟩
  · rw [World.cell?_setCell_other _ _ _ _ (by intro e; apply hp; rw [e])]; exact h0
  · rw [World.cell?_setCell_other _ _ _ _ (by intro e; apply hp; rw [e])]; exact h1
  · rw [World.frozen?_setCell]; exact h2
  · rw [World.frozen?_setCell]; exact h3
  · simpa [World.setCell] using h4

/-- the sum of the first ones -/
def pre (g : Nat → Int) : Nat → Int
  | 0 => g 0
  | j + 1 => pre g j + g (j + 1)

theorem sum_bad (v : Value) (E : Int) (w : World) (hE : (E == 0) = false)
    (H1 : Hid (∀ W, Below w.heap.size w W → Calls Tryd.prog 40 #[v] W fun e w' => e = .returned (.int .i64 E) ∧ Below W.heap.size W w')) :
    Calls Tryd.prog 21 #[v] w fun e w' => e = .returned (.tuple #[.agg #[.int .i64 0, .int .i64 0], .int .i64 E]) ∧ Below w.heap.size w w' := by
  have hE2 : (E != 0) = true := by simp only [bne, hE]; rfl
  go_enter Tryd.func21, Tryd.ntmps21
  go_wp2_with fail
  have T0 := Lib.hid (Two.new w (.int .i64 0) (.int .i64 0) 23)
  refine (H1.out _ (bel_alloc (Below.refl _ _))).mono ?_
  rintro e w1 ⟨rfl, g⟩
  have X1 := Lib.hid (bel_alloc g)
  replace T0 := Lib.hid (T0.out.below g); clear g
  obtain ⟨r0, r1, f0, f1, _⟩ := T0.out
  go_wp2
  obtain ⟨t0, t1⟩ := two_read _ w.heap.size (.int .i64 0) (.int .i64 0) r0 r1
  refine bodyPost_ret (v := .tuple #[.agg #[.int .i64 0, .int .i64 0], .int .i64 E]) (by simp [results, Tryd.results21, go_sem, t0, t1]) rfl ?_
  exact ⟨rfl, (X1.out.setCell (Nat.le_refl _) _).setCell (Nat.le_refl _) _⟩

set_option maxHeartbeats 4000000 in
theorem sum_core (b off n cap : Nat) (f g : Nat → Int) (K0 K R E : Int) (w : World) (hc1 : ¬ cap = 1) (n0 : 0 < n) (n1 : n ≤ 64) (hcap : n ≤ cap) (hcap2 : cap ≤ 9223372036854775807) (hb : b < w.heap.size)
    (hc : Hid (∀ j, j < n → w.cell? ⟨b, off + j * 2, none⟩ = some (.int .i64 (f j)) ∧ w.cell? ⟨b, off + j * 2 + 1, none⟩ = some (.int .i64 (g j))))
    (hf : Hid (f 0 = K0)) (hg : Hid (∀ j, j < n → -400 ≤ g j ∧ g j ≤ 1125899906842624)) (hg0 : Hid (-400 ≤ g 0 ∧ g 0 ≤ 1125899906842624))
    (H1 : Hid (∀ W, Below w.heap.size w W → Calls Tryd.prog 40 #[.slice (some ⟨b, off, none⟩) n cap] W fun e w' => e = .returned (.int .i64 0) ∧ Below W.heap.size W w'))
    (HC : Hid (∀ a W, Below w.heap.size w W → Calls Tryd.prog 15 #[.agg #[.int .i64 K0, .int .i64 a]] W fun e w' => e = .returned (.int .i64 (qE K0 a)) ∧ Below W.heap.size W w'))
    (h1 : Hid (∀ j, 1 ≤ j → j < n → qE K0 (pre g j) ≠ 0 → K = 0 ∧ R = 0 ∧ E = 15)) (h2 : Hid ((∀ j, 1 ≤ j → j < n → qE K0 (pre g j) = 0) → K = K0 ∧ R = pre g (n - 1) ∧ E = 0)) :
    Calls Tryd.prog 21 #[.slice (some ⟨b, off, none⟩) n cap] w fun e w' => e = .returned (.tuple #[.agg #[.int .i64 K, .int .i64 R], .int .i64 E]) ∧ Below w.heap.size w w' := by
  go_enter Tryd.func21, Tryd.ntmps21
  go_wp2_with fail
  have T0 := Lib.hid (Two.new w (.int .i64 0) (.int .i64 0) 23)
  refine (H1.out _ (bel_alloc (Below.refl _ _))).mono ?_
  rintro e w1 ⟨rfl, gg⟩
  have X1 := Lib.hid (bel_alloc gg)
  replace T0 := Lib.hid (T0.out.below gg); clear gg
  have c0 : w1.cell? ⟨b, off, none⟩ = some (.int .i64 K0) := by rw [(bcell X1.out).1 _ _ hb, ← hf.out]; simpa using (hc.out 0 n0).1
  have c1 : w1.cell? ⟨b, off + 1, none⟩ = some (.int .i64 (g 0)) := by rw [(bcell X1.out).1 _ _ hb]; simpa using (hc.out 0 n0).2
  go_wp2_with fail
  have hz1 : w.heap.size < w1.heap.size := T0.out.2.2.2.2
  have TS := Lib.hid (Two.new w1 (.int .i64 K0) (.int .i64 (g 0)) 23)
  have X2 := Lib.hid (bel_trans X1.out (bel_alloc (Below.refl (w1.alloc (.cells #[.int .i64 K0, .int .i64 (g 0)] 23)).heap.size _)))
  replace T0 := Lib.hid (T0.out.alloc (.cells #[.int .i64 K0, .int .i64 (g 0)] 23))
  clear c0 c1
  go_loopw [20] (fun i wr => ∃ k : Nat, k + 1 ≤ n ∧ i = .int .i64 k ∧ Hid (∀ j, 1 ≤ j → j ≤ k → qE K0 (pre g j) = 0) ∧ Hid (-400 ≤ pre g k ∧ pre g k ≤ 1125899906842624) ∧ Hid (Below w.heap.size w wr) ∧ Hid (Two w.heap.size wr (.int .i64 0) (.int .i64 0)) ∧ Hid (Two w1.heap.size wr (.int .i64 K0) (.int .i64 (pre g k)))) (fun i _ => n - (intOf i).toNat)
  case atStart => exact ⟨0, by omega, rfl, fun j h1 h2 => by omega, hg0, X2, T0, TS⟩
  case round =>
    obtain ⟨k, hk, rfl, ha, hp, hB, hT, hS⟩ := hrel
    by_cases hlt : k + 1 < n
    · have c0 : wr.cell? ⟨b, off + 2 + k * 2, none⟩ = some (.int .i64 (f (k + 1))) := by rw [(bcell hB.out).1 _ _ hb, show off + 2 + k * 2 = off + (k + 1) * 2 by omega]; exact (hc.out (k + 1) hlt).1
      have c1 : wr.cell? ⟨b, off + 2 + k * 2 + 1, none⟩ = some (.int .i64 (g (k + 1))) := by rw [(bcell hB.out).1 _ _ hb, show off + 2 + k * 2 = off + (k + 1) * 2 by omega]; exact (hc.out (k + 1) hlt).2
      have hgk := hg.out (k + 1) hlt
      have HP : Hid (pre g (k + 1) = pre g k + g (k + 1)) := rfl
      generalize f (k + 1) = F at *
      generalize g (k + 1) = A at *
      have hpk := hp.out
      generalize hQ : pre g k = S at *
      have s0 : ∀ o, (wr.alloc o).cell? ⟨w1.heap.size, 0, none⟩ = some (.int .i64 K0) := fun o => (hS.out.alloc o).1
      have s1 : ∀ o, (wr.alloc o).cell? ⟨w1.heap.size, 1, none⟩ = some (.int .i64 S) := fun o => (hS.out.alloc o).2.1
      have sf : ∀ o, (wr.alloc o).frozen? ⟨w1.heap.size, 1, none⟩ = false := fun o => (hS.out.alloc o).2.2.2.1
      have hne : w1.heap.size ≠ wr.heap.size := Nat.ne_of_lt hS.out.2.2.2.2
      have HQ : Hid (qE K0 (S + A) ≠ 0 → K = 0 ∧ R = 0 ∧ E = 15) := fun h => h1.out (k + 1) (by omega) hlt (by rw [HP.out]; exact h)
      have HS : Hid (qE K0 (S + A) = 0 → (∀ j, 1 ≤ j → j ≤ k + 1 → qE K0 (pre g j) = 0) ∧ (-400 ≤ pre g (k + 1) ∧ pre g (k + 1) ≤ 1125899906842624)) := fun h => ⟨fun j h1 h2 => by
        by_cases e : j = k + 1
        · rw [e, HP.out]; exact h
        · exact ha.out j h1 (by omega), by rw [HP.out]; exact qE_bd K0 _ h⟩
      go_wp2_with fail
      refine (HC.out (S + A) _ ((hB.out.alloc hB.out.size _).setCell (Nat.le_of_lt hz1) _)).mono ?_
      rintro e w2 ⟨rfl, gg⟩
      replace hB := Lib.hid (bel_trans ((hB.out.alloc hB.out.size _).setCell (Nat.le_of_lt hz1) _) gg)
      replace hT := Lib.hid (((hT.out.alloc _).other ⟨w1.heap.size, 1, none⟩ (Nat.ne_of_gt hz1) _).below gg)
      replace hS := Lib.hid (((hS.out.alloc _).set1 (.int .i64 (S + A))).below gg)
      clear gg c0 c1 s0 s1 sf hne hQ
      generalize hX : S + A = X at *
      clear hX
      generalize qE K0 X = q at *
      by_cases hq : q = 0
      · subst hq
        replace HS := Lib.hid (HS.out (by first | rfl | trivial))
        clear HQ
        go_wp2
        go_roundw
        case rel => exact ⟨k + 1, by omega, by go_num, HS.out.1, HS.out.2, hB, hT, by rw [HP.out]; exact hS⟩
        case measure => simp [intOf]; omega
      · obtain ⟨rfl, rfl, rfl⟩ := HQ.out hq
        clear HQ HS
        have hq1 : (q == 0) = false := by simpa using hq
        have hq2 : (q != 0) = true := by simpa using hq
        clear hq
        obtain ⟨r0, r1, f0, f1, _⟩ := hT.out
        go_wp2
        obtain ⟨t0, t1⟩ := two_read _ w.heap.size (.int .i64 0) (.int .i64 0) r0 r1
        refine bodyPost_ret (v := .tuple #[.agg #[.int .i64 0, .int .i64 0], .int .i64 15]) (by simp [results, Tryd.results21, go_sem, t0, t1]) rfl ?_
        exact ⟨rfl, (hB.out.setCell (Nat.le_refl _) _).setCell (Nat.le_refl _) _⟩
    · obtain rfl : n = k + 1 := by omega
      obtain ⟨rfl, rfl, rfl⟩ := h2.out (fun j j1 j2 => ha.out j j1 (by omega))
      obtain ⟨r0, r1, f0, f1, _⟩ := hT.out
      obtain ⟨s0, s1, _, _, _⟩ := hS.out
      rw [show k + 1 - 1 = k by omega]
      generalize hSp : pre g k = S at *
      go_wp2
      obtain ⟨t0, t1⟩ := two_read _ w.heap.size (.int .i64 K) (.int .i64 S) r0 r1
      refine bodyPost_ret (v := .tuple #[.agg #[.int .i64 K, .int .i64 S], .int .i64 0]) (by simp [results, Tryd.results21, go_sem, t0, t1]) rfl ?_
      exact ⟨by first | rfl | rw [hSp], (hB.out.setCell (Nat.le_refl _) _).setCell (Nat.le_refl _) _⟩

theorem sum_one (b off : Nat) (K0 A : Int) (w : World) (c0 : w.cell? ⟨b, off, none⟩ = some (.int .i64 K0)) (c1 : w.cell? ⟨b, off + 1, none⟩ = some (.int .i64 A))
    (H1 : Hid (∀ W, Below w.heap.size w W → Calls Tryd.prog 40 #[.slice (some ⟨b, off, none⟩) 1 1] W fun e w' => e = .returned (.int .i64 0) ∧ Below W.heap.size W w')) :
    Calls Tryd.prog 21 #[.slice (some ⟨b, off, none⟩) 1 1] w fun e w' => e = .returned (.tuple #[.agg #[.int .i64 K0, .int .i64 A], .int .i64 0]) ∧ Below w.heap.size w w' := by
  have hb := World.block_lt_of_cell? w _ c0
  simp only at hb
  go_enter Tryd.func21, Tryd.ntmps21
  go_wp2_with fail
  have T0 := Lib.hid (Two.new w (.int .i64 0) (.int .i64 0) 23)
  refine (H1.out _ (bel_alloc (Below.refl _ _))).mono ?_
  rintro e w1 ⟨rfl, gg⟩
  have X1 := Lib.hid (bel_alloc gg)
  replace T0 := Lib.hid (T0.out.below gg); clear gg
  replace c0 : w1.cell? ⟨b, off, none⟩ = some (.int .i64 K0) := by rw [(bcell X1.out).1 _ _ hb]; exact c0
  replace c1 : w1.cell? ⟨b, off + 1, none⟩ = some (.int .i64 A) := by rw [(bcell X1.out).1 _ _ hb]; exact c1
  go_wp2_with fail
  have TS := Lib.hid (Two.new w1 (.int .i64 K0) (.int .i64 A) 23)
  have X2 := Lib.hid (bel_trans X1.out (bel_alloc (Below.refl (w1.alloc (.cells #[.int .i64 K0, .int .i64 A] 23)).heap.size _)))
  replace T0 := Lib.hid (T0.out.alloc (.cells #[.int .i64 K0, .int .i64 A] 23))
  clear c0 c1
  go_loopw [20] (fun i wr => i = .int .i64 0 ∧ Hid (Below w.heap.size w wr) ∧ Hid (Two w.heap.size wr (.int .i64 0) (.int .i64 0)) ∧ Hid (Two w1.heap.size wr (.int .i64 K0) (.int .i64 A))) (fun i _ => 0)
  case atStart => exact ⟨rfl, X2, T0, TS⟩
  case round =>
    obtain ⟨rfl, hB, hT, hS⟩ := hrel
    obtain ⟨r0, r1, f0, f1, _⟩ := hT.out
    obtain ⟨s0, s1, _, _, _⟩ := hS.out
    go_wp2
    obtain ⟨t0, t1⟩ := two_read _ w.heap.size (.int .i64 K0) (.int .i64 A) r0 r1
    refine bodyPost_ret (v := .tuple #[.agg #[.int .i64 K0, .int .i64 A], .int .i64 0]) (by simp [results, Tryd.results21, go_sem, t0, t1]) rfl ?_
    exact ⟨rfl, (hB.out.setCell (Nat.le_refl _) _).setCell (Nat.le_refl _) _⟩

/-! ### what Sum returns -/
def qK (l : List (Int × Int)) (j : Nat) : Int := (l.getD j (0, 0)).1
def qA (l : List (Int × Int)) (j : Nat) : Int := (l.getD j (0, 0)).2
/-- whether all sums of the first ones are in range -/
def inR (l : List (Int × Int)) : Bool := (List.range l.length).all fun j => j == 0 || qE (qK l 0) (pre (qA l) j) == 0
def suE (l : List (Int × Int)) : Int := if caE l = 0 then (if inR l = true then 0 else 15) else caE l
def suK (l : List (Int × Int)) : Int := if suE l = 0 then qK l 0 else 0
def suA (l : List (Int × Int)) : Int := if suE l = 0 then pre (qA l) (l.length - 1) else 0
theorem inR_iff (l : List (Int × Int)) : inR l = true ↔ ∀ j, 1 ≤ j → j < l.length → qE (qK l 0) (pre (qA l) j) = 0 := by
  unfold inR
  rw [List.all_eq_true]
  constructor
  · intro h j j1 j2
    have := h j (by simpa using j2)
    simp only [Bool.or_eq_true, beq_iff_eq] at this
    omega
  · intro h j hj
    have hj' : j < l.length := by simpa using hj
    by_cases e : j = 0
    · simp [e]
    · simp [h j (by omega) hj']
theorem caE_ok (l : List (Int × Int)) (h : caE l = 0) : 0 < l.length ∧ l.length ≤ 64 ∧ (∀ j, j < l.length → qE (qK l j) (qA l j) = 0) ∧ (∀ j, j < l.length → qK l j = qK l 0) := by
  unfold caE at h
  split at h
  · omega
  · split at h
    · omega
    · split at h
      · omega
      · split at h
        · omega
        · rename_i g1 g2 g3 g4
          have a1 : l.all (fun q => qE q.1 q.2 == 0) = true := by simpa using g3
          have a2 : l.all (fun q => q.1 == (l.getD 0 (0, 0)).1) = true := by simpa using g4
          rw [List.all_eq_true] at a1 a2
          refine ⟨by omega, by omega, fun j hj => ?_, fun j hj => ?_⟩
          · have := a1 _ (List.getElem_mem hj)
            unfold qK qA
            rw [List.getD_eq_getElem?_getD, List.getElem?_eq_getElem hj, Option.getD_some]
            simpa using this
          · have := a2 _ (List.getElem_mem hj)
            unfold qK
            rw [List.getD_eq_getElem?_getD (i := j), List.getElem?_eq_getElem hj, Option.getD_some]
            simpa using this

theorem sum_any (v : Value) (l : List (Int × Int)) (w : World) (hw : LaidU w) (hv : Qs w v l) :
    Calls Tryd.prog 21 #[v] w fun e w' => e = .returned (.tuple #[.agg #[.int .i64 (suK l), .int .i64 (suA l)], .int .i64 (suE l)]) ∧ Below w.heap.size w w' := by
  have H1 := fun W (h : Below w.heap.size w W) => checkAll_any v l W (hw.below h) (hv.below h)
  by_cases he : caE l = 0
  · rw [he] at H1
    obtain ⟨n0, n1, hq, hk⟩ := caE_ok l he
    obtain ⟨a, cap, rfl, hl, h⟩ := hv
    rcases h with h | ⟨b, off, rfl, hb, hc⟩
    · omega
    · by_cases h1 : cap = 1
      · subst h1
        have hn : l.length = 1 := by omega
        have hs : suE l = 0 := by
          unfold suE
          rw [if_pos he, if_pos ((inR_iff l).2 (fun j j1 j2 => by omega))]
        have hc0 := hc 0 (by omega)
        simp only [Nat.zero_mul, Nat.add_zero] at hc0
        unfold suK suA
        rw [hs, if_pos rfl, if_pos rfl, hn]
        rw [hn] at H1
        exact sum_one b off _ _ w hc0.1 hc0.2 H1
      · refine sum_core b off l.length cap (qK l) (qA l) (qK l 0) _ _ _ w h1 n0 n1 hl.1 hl.2 hb hc rfl (fun j hj => ?_) ?_ H1 (fun a W hW => check_any _ a W (hw.below hW)) ?_ ?_
        · exact qE_bd _ _ (hq j hj)
        · exact qE_bd _ _ (hq 0 n0)
        · intro j j1 j2 hj
          have hs : suE l = 15 := by
            unfold suE
            rw [if_pos he, if_neg (fun h => hj ((inR_iff l).1 h j j1 j2))]
          unfold suK suA
          rw [hs]
          exact ⟨rfl, rfl, rfl⟩
        · intro h
          have hs : suE l = 0 := by
            unfold suE
            rw [if_pos he, if_pos ((inR_iff l).2 h)]
          unfold suK suA
          rw [hs]
          exact ⟨rfl, rfl, rfl⟩
  · have hs : suE l = caE l := by unfold suE; rw [if_neg he]
    unfold suK suA
    rw [hs, if_neg he, if_neg he]
    exact sum_bad v _ w (by simpa using he) H1
end Go.Proofs.YtdhckbjebccdbaaDoor
