/- The reference of layer 3: Sum. -/
import Derived.Test.YtdhckbjebccdbaaDoorURefC
import Derived.StillTailTactics
namespace Go.Proofs.YtdhckbjebccdbaaDoor
open Go.RowKit

/-- the sum of the first k amounts -/
def psum (g : Nat → Int) : Nat → Int
  | 0 => 0
  | k + 1 => psum g k + g k
theorem pre_psum (g : Nat → Int) (k : Nat) : pre g k = psum g (k + 1) := by
  induction k with
  | zero => simp [pre, psum]
  | succ k ih => rw [pre, ih]; rfl

theorem refSum_long (a : Option Addr) (n cap : Nat) (w : World) (h : 64 < n) (hn : n ≤ 9223372036854775807) :
    Calls Tryd.prog 23 #[.slice a n cap] w fun e w' => e = .returned (.tuple #[.agg #[.int .i64 0, .int .i64 0], .int .i64 8]) ∧ Below w.heap.size w w' := by
  go_enter Tryd.func23, Tryd.ntmps23
  go_wp2
  refine bodyPost_ret (v := .tuple #[.agg #[.int .i64 0, .int .i64 0], .int .i64 8]) (by simp [results, Tryd.results23, go_sem]) rfl ?_
  exact ⟨rfl, bel_alloc (Below.refl _ _)⟩
theorem refSum_none (a : Option Addr) (cap : Nat) (w : World) :
    Calls Tryd.prog 23 #[.slice a 0 cap] w fun e w' => e = .returned (.tuple #[.agg #[.int .i64 0, .int .i64 0], .int .i64 9]) ∧ Below w.heap.size w w' := by
  go_enter Tryd.func23, Tryd.ntmps23
  go_wp2
  refine bodyPost_ret (v := .tuple #[.agg #[.int .i64 0, .int .i64 0], .int .i64 9]) (by simp [results, Tryd.results23, go_sem]) rfl ?_
  exact ⟨rfl, bel_alloc (Below.refl _ _)⟩

set_option maxRecDepth 100000 in
set_option maxHeartbeats 8000000 in
theorem refSum_core (b off n cap : Nat) (f g : Nat → Int) (K R E : Int) (w : World) (n0 : 0 < n) (n1 : n ≤ 64) (hb : b < w.heap.size)
    (hc : Hid (∀ j, j < n → w.cell? ⟨b, off + j * 2, none⟩ = some (.int .i64 (f j)) ∧ w.cell? ⟨b, off + j * 2 + 1, none⟩ = some (.int .i64 (g j))))
    (HC : Hid (∀ k a W, Calls Tryd.prog 16 #[.agg #[.int .i64 k, .int .i64 a]] W fun e w' => e = .returned (.int .i64 (qE k a)) ∧ Below W.heap.size W w'))
    (HI : Hid (∀ a W, qE (f 0) (g 0) = 0 → Calls Tryd.prog 32 #[.agg #[.int .i64 (f 0), .int .i64 a]] W fun e w' => e = .returned (.bool (qE (f 0) a == 0)) ∧ Below W.heap.size W w'))
    (h1 : Hid (∀ j, j < n → qE (f j) (g j) ≠ 0 → K = 0 ∧ R = 0 ∧ E = 1)) (h2 : Hid ((∀ j, j < n → qE (f j) (g j) = 0) → ∀ j, j < n → f j ≠ f 0 → K = 0 ∧ R = 0 ∧ E = 10))
    (h3 : Hid ((∀ j, j < n → qE (f j) (g j) = 0) → (∀ j, j < n → f j = f 0) → ∀ j, j < n → qE (f 0) (psum g (j + 1)) ≠ 0 → K = 0 ∧ R = 0 ∧ E = 15))
    (h4 : Hid ((∀ j, j < n → qE (f j) (g j) = 0) → (∀ j, j < n → f j = f 0) → (∀ j, j < n → qE (f 0) (psum g (j + 1)) = 0) → K = f 0 ∧ R = psum g n ∧ E = 0)) :
    Calls Tryd.prog 23 #[.slice (some ⟨b, off, none⟩) n cap] w fun e w' => e = .returned (.tuple #[.agg #[.int .i64 K, .int .i64 R], .int .i64 E]) ∧ Below w.heap.size w w' := by
  have hn0 : ((n : Int) == 0) = false := by rw [beq_eq_false_iff_ne]; omega
  have T0 := Lib.hid (Two.new w (.int .i64 0) (.int .i64 0) 23)
  have X0 := Lib.hid (bel_alloc (Below.refl (w.alloc (.cells #[.int .i64 0, .int .i64 0] 23)).heap.size (w.alloc (.cells #[.int .i64 0, .int .i64 0] 23))))
  go_enter Tryd.func23, Tryd.ntmps23
  go_wp2_with fail
  go_loopw [4] (fun i wr => ∃ k : Nat, k ≤ n ∧ i = .int .i64 k ∧ Hid (∀ j, j < k → qE (f j) (g j) = 0) ∧ Hid (Below w.heap.size w wr) ∧ Hid (Two w.heap.size wr (.int .i64 0) (.int .i64 0))) (fun i _ => n - (intOf i).toNat)
  case atStart => exact ⟨0, by omega, rfl, fun j hj => by omega, X0, T0⟩
  case round =>
    obtain ⟨k, hk, rfl, ha, hB, hT⟩ := hrel
    by_cases hlt : k < n
    · have c0 : wr.cell? ⟨b, off + k * 2, none⟩ = some (.int .i64 (f k)) := by rw [(bcell hB.out).1 _ _ hb]; exact (hc.out k hlt).1
      have c1 : wr.cell? ⟨b, off + k * 2 + 1, none⟩ = some (.int .i64 (g k)) := by rw [(bcell hB.out).1 _ _ hb]; exact (hc.out k hlt).2
      have HS : Hid (qE (f k) (g k) = 0 → ∀ j, j < k + 1 → qE (f j) (g j) = 0) := fun h j hj => by
        by_cases e : j = k
        · rw [e]; exact h
        · exact ha.out j (by omega)
      have HN : Hid (qE (f k) (g k) ≠ 0 → K = 0 ∧ R = 0 ∧ E = 1) := fun h => h1.out k hlt h
      have HK := Lib.hid (fun W => HC.out (f k) (g k) W)
      generalize f k = FK at *
      generalize g k = GK at *
      generalize qE FK GK = q at *
      go_wp2_with fail
      refine (HK.out _).mono ?_
      rintro e w1 ⟨rfl, gg⟩
      replace hB := Lib.hid (bel_trans hB.out gg)
      replace hT := Lib.hid (hT.out.below gg)
      clear gg c0 c1
      by_cases hq : q = 0
      · subst hq
        replace HS := Lib.hid (HS.out (by first | rfl | trivial))
        clear HN
        go_wp2
        go_roundw
        case rel => exact ⟨k + 1, by omega, by go_num, HS, hB, hT⟩
        case measure => simp [intOf]; omega
      · obtain ⟨rfl, rfl, rfl⟩ := HN.out hq
        clear HN HS
        have hq1 : (q == 0) = false := by simpa using hq
        have hq2 : (q != 0) = true := by simpa using hq
        clear hq
        obtain ⟨r0, r1, f0, f1, _⟩ := hT.out
        go_wp2
        obtain ⟨t0, t1⟩ := two_read _ w.heap.size (.int .i64 0) (.int .i64 0) r0 r1
        refine bodyPost_ret (v := .tuple #[.agg #[.int .i64 0, .int .i64 0], .int .i64 1]) (by simp [results, Tryd.results23, go_sem, t0, t1]) rfl ?_
        exact ⟨rfl, (hB.out.setCell (Nat.le_refl _) _).setCell (Nat.le_refl _) _⟩
    · obtain rfl : k = n := by omega
      have hq0 := ha.out 0 n0
      have hgb : Hid (∀ j, j < k → -400 ≤ g j ∧ g j ≤ 1125899906842624) := fun j hj => qE_bd _ _ (ha.out j hj)
      replace h2 := Lib.hid (h2.out ha.out)
      replace h3 := Lib.hid (h3.out ha.out)
      replace h4 := Lib.hid (h4.out ha.out)
      replace HI := Lib.hid (fun a W => HI.out a W hq0)
      clear h1 ha hq0
      have c0 : wr.cell? ⟨b, off, none⟩ = some (.int .i64 (f 0)) := by rw [(bcell hB.out).1 _ _ hb]; simpa using (hc.out 0 n0).1
      generalize hF0 : f 0 = K0 at *
      go_wp2_with fail
      have hz1 : w.heap.size < wr.heap.size := hT.out.2.2.2.2
      have TS := Lib.hid (Two.new wr (.int .i64 K0) (.int .i64 0) 23)
      have X2 := Lib.hid (bel_trans hB.out (bel_alloc (Below.refl (wr.alloc (.cells #[.int .i64 K0, .int .i64 0] 23)).heap.size _)))
      have T2 := Lib.hid (hT.out.alloc (.cells #[.int .i64 K0, .int .i64 0] 23))
      clear hB hT c0
      generalize hBs : wr.heap.size = bs at *
      go_loopw [6] (fun i wr => ∃ m : Nat, m ≤ k ∧ i = .int .i64 m ∧ Hid (∀ j, j < m → f j = K0) ∧ Hid (Below w.heap.size w wr) ∧ Hid (Two w.heap.size wr (.int .i64 0) (.int .i64 0)) ∧ Hid (Two bs wr (.int .i64 K0) (.int .i64 0))) (fun i _ => k - (intOf i).toNat)
      case atStart => exact ⟨0, by omega, rfl, fun j hj => by omega, X2, T2, TS⟩
      case round =>
        obtain ⟨m, hm, rfl, ha, hB, hT, hS⟩ := hrel
        by_cases hlt2 : m < k
        · have c0 : wr.cell? ⟨b, off + m * 2, none⟩ = some (.int .i64 (f m)) := by rw [(bcell hB.out).1 _ _ hb]; exact (hc.out m hlt2).1
          have s0 : wr.cell? ⟨bs, 0, none⟩ = some (.int .i64 K0) := hS.out.1
          have HS : Hid (f m = K0 → ∀ j, j < m + 1 → f j = K0) := fun h j hj => by
            by_cases e : j = m
            · rw [e]; exact h
            · exact ha.out j (by omega)
          have HN : Hid (f m ≠ K0 → K = 0 ∧ R = 0 ∧ E = 10) := fun h => h2.out m hlt2 h
          generalize f m = FK at *
          by_cases hq : FK = K0
          · subst hq
            replace HS := Lib.hid (HS.out rfl)
            clear HN
            go_wp2_with fail
            go_quiet (fail)
            go_wp2
            go_roundw
            case rel => exact ⟨m + 1, by omega, by go_num, HS, bel_trans hB.out (bel_drewN _ _), hT.out.below (bel_drewN _ _), hS.out.below (bel_drewN _ _)⟩
            case measure => simp [intOf]; omega
          · obtain ⟨rfl, rfl, rfl⟩ := HN.out hq
            clear HN HS
            have hq1 : (FK == K0) = false := by simpa using hq
            have hq2 : (FK != K0) = true := by simpa using hq
            clear hq
            go_wp2_with fail
            go_quiet (fail)
            obtain ⟨r0, r1, f0, f1, _⟩ := hT.out.below (bel_drewN wr nq)
            go_wp2
            obtain ⟨t0, t1⟩ := two_read _ w.heap.size (.int .i64 0) (.int .i64 0) r0 r1
            refine bodyPost_ret (v := .tuple #[.agg #[.int .i64 0, .int .i64 0], .int .i64 10]) (by simp [results, Tryd.results23, go_sem, t0, t1]) rfl ?_
            exact ⟨rfl, ((bel_trans hB.out (bel_drewN _ _)).setCell (Nat.le_refl _) _).setCell (Nat.le_refl _) _⟩
        · obtain rfl : m = k := by omega
          replace h3 := Lib.hid (h3.out ha.out)
          replace h4 := Lib.hid (h4.out ha.out)
          clear h2 ha
          go_wp2_with fail
          have B3 := hB
          have T3 := hT
          have S3 := hS
          clear hB hT hS X2 T2 TS
          go_loopw [7] (fun i wr => ∃ p : Nat, p ≤ m ∧ i = .int .i64 p ∧ Hid (∀ j, j < p → qE K0 (psum g (j + 1)) = 0) ∧ Hid (-400 ≤ psum g p ∧ psum g p ≤ 1125899906842624) ∧ Hid (Below w.heap.size w wr) ∧ Hid (Two w.heap.size wr (.int .i64 0) (.int .i64 0)) ∧ Hid (Two bs wr (.int .i64 K0) (.int .i64 (psum g p)))) (fun i _ => m - (intOf i).toNat)
          case atStart => exact ⟨0, by omega, rfl, fun j hj => by omega, by show _ ∧ _; unfold psum; omega, B3, T3, S3⟩
          case round =>
            obtain ⟨p, hp, rfl, ha, hpb, hB, hT, hS⟩ := hrel
            by_cases hlt3 : p < m
            · have c1 : wr.cell? ⟨b, off + p * 2 + 1, none⟩ = some (.int .i64 (g p)) := by rw [(bcell hB.out).1 _ _ hb]; exact (hc.out p hlt3).2
              have s1 : wr.cell? ⟨bs, 1, none⟩ = some (.int .i64 (psum g p)) := hS.out.2.1
              have sf : wr.frozen? ⟨bs, 1, none⟩ = false := hS.out.2.2.2.1
              have hga := hgb.out p hlt3
              have hsa := hpb.out
              have HP : Hid (psum g (p + 1) = psum g p + g p) := rfl
              have HQ : Hid (qE K0 (psum g p + g p) ≠ 0 → K = 0 ∧ R = 0 ∧ E = 15) := fun h => h3.out p hlt3 (by rw [HP.out]; exact h)
              have HS : Hid (qE K0 (psum g p + g p) = 0 → (∀ j, j < p + 1 → qE K0 (psum g (j + 1)) = 0) ∧ (-400 ≤ psum g (p + 1) ∧ psum g (p + 1) ≤ 1125899906842624)) := fun h => ⟨fun j hj => by
                by_cases e : j = p
                · rw [e, HP.out]; exact h
                · exact ha.out j (by omega), by rw [HP.out]; exact qE_bd K0 _ h⟩
              have hwr : IntKind.i64.wrap (psum g p + g p) = psum g p + g p := wrap_in _ (by omega)
              generalize hQ : psum g p = S at *
              generalize hA : g p = A at *
              have hne : bs ≠ w.heap.size := Nat.ne_of_gt hz1
              clear hQ hA
              go_wp2_with fail
              go_still_tail 9, (by kernel_rfl)
              replace hB := Lib.hid (bel_trans hB.out (bel_drew wr))
              replace hT := Lib.hid (hT.out.below (bel_drew wr))
              replace hS := Lib.hid (hS.out.below (bel_drew wr))
              clear c1 s1 sf
              change wpList _ _ _ _ _ wr.drew
              generalize wr.drew = wq at *
              obtain ⟨s0, s1, _, sf, _⟩ := hS.out
              go_wp2_with fail
              refine (HI.out (S + A) _).mono ?_
              rintro e w2 ⟨rfl, gg⟩
              replace hB := Lib.hid (bel_trans (hB.out.setCell (Nat.le_of_lt hz1) _) gg)
              replace hT := Lib.hid ((hT.out.other ⟨bs, 1, none⟩ hne _).below gg)
              replace hS := Lib.hid ((hS.out.set1 (.int .i64 (S + A))).below gg)
              clear gg s0 s1 sf hwr
              generalize hX : S + A = X at *
              clear hX
              generalize qE K0 X = q at *
              by_cases hq : q = 0
              · subst hq
                replace HS := Lib.hid (HS.out (by first | rfl | trivial))
                clear HQ
                go_wp2
                go_roundw
                case rel => exact ⟨p + 1, by omega, by go_num, HS.out.1, HS.out.2, hB, hT, by rw [HP.out]; exact hS⟩
                case measure => simp [intOf]; omega
              · obtain ⟨rfl, rfl, rfl⟩ := HQ.out hq
                clear HQ HS
                have hq1 : (q == 0) = false := by simpa using hq
                have hq2 : (q != 0) = true := by simpa using hq
                clear hq
                obtain ⟨r0, r1, f0, f1, _⟩ := hT.out
                go_wp2
                obtain ⟨t0, t1⟩ := two_read _ w.heap.size (.int .i64 0) (.int .i64 0) r0 r1
                refine bodyPost_ret (v := .tuple #[.agg #[.int .i64 0, .int .i64 0], .int .i64 15]) (by simp [results, Tryd.results23, go_sem, t0, t1]) rfl ?_
                exact ⟨rfl, (hB.out.setCell (Nat.le_refl _) _).setCell (Nat.le_refl _) _⟩
            · obtain rfl : p = m := by omega
              obtain ⟨rfl, rfl, rfl⟩ := h4.out ha.out
              obtain ⟨r0, r1, f0, f1, _⟩ := hT.out
              obtain ⟨s0, s1, _, _, _⟩ := hS.out
              generalize hSp : psum g p = S at *
              go_wp2
              obtain ⟨t0, t1⟩ := two_read _ w.heap.size (.int .i64 K) (.int .i64 S) r0 r1
              refine bodyPost_ret (v := .tuple #[.agg #[.int .i64 K, .int .i64 S], .int .i64 0]) (by simp [results, Tryd.results23, go_sem, t0, t1]) rfl ?_
              exact ⟨by first | rfl | rw [hSp], (hB.out.setCell (Nat.le_refl _) _).setCell (Nat.le_refl _) _⟩

theorem refSum_any (v : Value) (l : List (Int × Int)) (w : World) (hv : Qs w v l) :
    Calls Tryd.prog 23 #[v] w fun e w' => e = .returned (.tuple #[.agg #[.int .i64 (suK l), .int .i64 (suA l)], .int .i64 (suE l)]) ∧ Below w.heap.size w w' := by
  obtain ⟨a, cap, rfl, hl, h⟩ := hv
  have hno : ∀ E, suE l = E → E ≠ 0 → suK l = 0 ∧ suA l = 0 ∧ suE l = E := by
    intro E h1 h2
    unfold suK suA
    rw [h1, if_neg h2, if_neg h2]
    exact ⟨rfl, rfl, rfl⟩
  have hca : ∀ E, caE l = E → E ≠ 0 → suK l = 0 ∧ suA l = 0 ∧ suE l = E := fun E h1 h2 => hno E (by unfold suE; rw [if_neg (by rw [h1]; exact h2), h1]) h2
  by_cases g1 : 64 < l.length
  · obtain ⟨e1, e2, e3⟩ := hca 8 (by unfold caE; rw [if_pos g1]) (by omega)
    rw [e1, e2, e3]
    exact refSum_long _ _ _ _ g1 (by omega)
  · by_cases g2 : l.length = 0
    · obtain ⟨e1, e2, e3⟩ := hca 9 (by unfold caE; rw [if_neg g1, if_pos g2]) (by omega)
      rw [e1, e2, e3, g2]
      exact refSum_none _ _ _
    · rcases h with h | ⟨b, off, rfl, hb, hc⟩
      · exact absurd h g2
      · refine refSum_core b off l.length cap (qK l) (qA l) _ _ _ w (by omega) (by omega) hb hc (fun k a W => refCheck_any k a W) (fun a W hq => ?_) ?_ ?_ ?_ ?_
        · have := qE_ok _ _ hq
          exact refIn_any _ a W this.1 this.2.1
        · intro j hj h
          refine hca 1 ?_ (by omega)
          unfold caE
          rw [if_neg g1, if_neg g2, if_pos (all_no (d := (0, 0)) hj (by simpa [qK, qA] using h))]
        · intro h j hj hn
          refine hca 10 ?_ (by omega)
          unfold caE
          rw [if_neg g1, if_neg g2, if_neg (by rw [all_yes (d := ((0 : Int), (0 : Int))) (fun j hj => by simpa [qK, qA] using h j hj)]; simp), if_pos (all_no (d := (0, 0)) hj (by simpa [qK] using hn))]
        all_goals
          intro h h'
          have hc0 : caE l = 0 := by
            unfold caE
            rw [if_neg g1, if_neg g2, if_neg (by rw [all_yes (d := ((0 : Int), (0 : Int))) (fun j hj => by simpa [qK, qA] using h j hj)]; simp), if_neg (by rw [all_yes (d := ((0 : Int), (0 : Int))) (fun j hj => by simpa [qK] using h' j hj)]; simp)]
        · intro j hj hq
          refine hno 15 ?_ (by omega)
          unfold suE
          rw [if_pos hc0, if_neg]
          intro hi
          by_cases e : j = 0
          · subst e
            apply hq
            have := h 0 hj
            simpa [psum] using this
          · apply hq
            rw [← pre_psum]
            exact (inR_iff l).1 hi j (by omega) hj
        · intro hq
          have hs : suE l = 0 := by
            unfold suE
            rw [if_pos hc0, if_pos ((inR_iff l).2 (fun j j1 j2 => by rw [pre_psum]; exact hq j j2))]
          unfold suK suA
          rw [hs, if_pos rfl, if_pos rfl, pre_psum, show l.length - 1 + 1 = l.length by omega]
          exact ⟨rfl, rfl, rfl⟩
end Go.Proofs.YtdhckbjebccdbaaDoor
