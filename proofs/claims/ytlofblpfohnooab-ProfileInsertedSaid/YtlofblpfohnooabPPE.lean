/- Package profile: Check, Length, Bung, place. -/
import Derived.Test.YtlofblpfohnooabPPD
import Derived.Test.YtlofblpfohnooabPPA
namespace Go.Proofs.Ytlofblpfohnooab
open Go.RowKit

theorem ck_few (a : Option Addr) (n cap : Nat) (w : World) (h : n < 2) :
    Calls Try.prog 16 #[.slice a n cap] w fun e w' => e = .returned (.int .i64 9) ∧ Below w.heap.size w w' := by
  go_enter Try.func16, Try.ntmps16
  go_wp2
  go_returns
  exact ⟨rfl, Below.refl _ _⟩
theorem ck_many (a : Option Addr) (n cap : Nat) (w : World) (h : 32 < n) (h2 : n ≤ 9223372036854775807) :
    Calls Try.prog 16 #[.slice a n cap] w fun e w' => e = .returned (.int .i64 8) ∧ Below w.heap.size w w' := by
  go_enter Try.func16, Try.ntmps16
  go_wp2
  go_returns
  exact ⟨rfl, Below.refl _ _⟩
set_option maxHeartbeats 4000000 in
theorem ck_some (b off n cap : Nat) (O A C S : Bool) (w : World) (n0 : 2 ≤ n) (n1 : n ≤ 32)
    (H1 : Hid (∀ W, Below w.heap.size w W → Calls Try.prog 23 #[.slice (some ⟨b, off, none⟩) n cap, .func (.func 29) #[] #[]] W fun e w' => e = .returned (.bool O) ∧ Below W.heap.size W w'))
    (H2 : Hid (∀ W, Below w.heap.size w W → Calls Try.prog 30 #[.slice (some ⟨b, off, none⟩) n cap] W fun e w' => e = .returned (.bool A) ∧ Below W.heap.size W w'))
    (H3 : Hid (∀ W, Below w.heap.size w W → Calls Try.prog 23 #[.slice (some ⟨b, off, none⟩) n cap, .func (.func 31) #[] #[]] W fun e w' => e = .returned (.bool C) ∧ Below W.heap.size W w'))
    (H4 : Hid (∀ W, Below w.heap.size w W → Calls Try.prog 32 #[.slice (some ⟨b, off, none⟩) n cap] W fun e w' => e = .returned (.bool S) ∧ Below W.heap.size W w')) :
    Calls Try.prog 16 #[.slice (some ⟨b, off, none⟩) n cap] w fun e w' => e = .returned (.int .i64 (if O = true then 2 else if A = false then 5 else if C = true then 16 else if S = true then 10 else 0)) ∧ Below w.heap.size w w' := by
  cases O with
  | true =>
    go_enter Try.func16, Try.ntmps16
    go_wp2_with fail
    refine (H1.out _ (Below.refl _ _)).mono ?_
    rintro e w1 ⟨rfl, gg⟩
    have X1 := Lib.hid gg; clear gg
    go_wp2
    go_returns
    exact ⟨rfl, X1.out⟩
  | false =>
    cases A with
    | false =>
      go_enter Try.func16, Try.ntmps16
      go_wp2_with fail
      refine (H1.out _ (Below.refl _ _)).mono ?_
      rintro e w1 ⟨rfl, gg⟩
      have X1 := Lib.hid gg; clear gg
      go_wp2_with fail
      refine (H2.out _ X1.out).mono ?_
      rintro e w2 ⟨rfl, gg⟩
      have X2 := Lib.hid (bel_trans X1.out gg); clear gg
      go_wp2
      go_returns
      exact ⟨rfl, X2.out⟩
    | true =>
      cases C with
      | true =>
        go_enter Try.func16, Try.ntmps16
        go_wp2_with fail
        refine (H1.out _ (Below.refl _ _)).mono ?_
        rintro e w1 ⟨rfl, gg⟩
        have X1 := Lib.hid gg; clear gg
        go_wp2_with fail
        refine (H2.out _ X1.out).mono ?_
        rintro e w2 ⟨rfl, gg⟩
        have X2 := Lib.hid (bel_trans X1.out gg); clear gg
        go_wp2_with fail
        refine (H3.out _ X2.out).mono ?_
        rintro e w3 ⟨rfl, gg⟩
        have X3 := Lib.hid (bel_trans X2.out gg); clear gg
        go_wp2
        go_returns
        exact ⟨rfl, X3.out⟩
      | false =>
        cases S with
        | true =>
          go_enter Try.func16, Try.ntmps16
          go_wp2_with fail
          refine (H1.out _ (Below.refl _ _)).mono ?_
          rintro e w1 ⟨rfl, gg⟩
          have X1 := Lib.hid gg; clear gg
          go_wp2_with fail
          refine (H2.out _ X1.out).mono ?_
          rintro e w2 ⟨rfl, gg⟩
          have X2 := Lib.hid (bel_trans X1.out gg); clear gg
          go_wp2_with fail
          refine (H3.out _ X2.out).mono ?_
          rintro e w3 ⟨rfl, gg⟩
          have X3 := Lib.hid (bel_trans X2.out gg); clear gg
          go_wp2_with fail
          refine (H4.out _ X3.out).mono ?_
          rintro e w4 ⟨rfl, gg⟩
          have X4 := Lib.hid (bel_trans X3.out gg); clear gg
          go_wp2
          go_returns
          exact ⟨rfl, X4.out⟩
        | false =>
          go_enter Try.func16, Try.ntmps16
          go_wp2_with fail
          refine (H1.out _ (Below.refl _ _)).mono ?_
          rintro e w1 ⟨rfl, gg⟩
          have X1 := Lib.hid gg; clear gg
          go_wp2_with fail
          refine (H2.out _ X1.out).mono ?_
          rintro e w2 ⟨rfl, gg⟩
          have X2 := Lib.hid (bel_trans X1.out gg); clear gg
          go_wp2_with fail
          refine (H3.out _ X2.out).mono ?_
          rintro e w3 ⟨rfl, gg⟩
          have X3 := Lib.hid (bel_trans X2.out gg); clear gg
          go_wp2_with fail
          refine (H4.out _ X3.out).mono ?_
          rintro e w4 ⟨rfl, gg⟩
          have X4 := Lib.hid (bel_trans X3.out gg); clear gg
          go_wp2
          go_returns
          exact ⟨rfl, X4.out⟩
theorem ck_any (v : Value) (l : List (Int × Int)) (w : World) (hv : Pts w v l) :
    Calls Try.prog 16 #[v] w fun e w' => e = .returned (.int .i64 (ckE l)) ∧ Below w.heap.size w w' := by
  obtain ⟨a, cap, rfl, hl, hh⟩ := hv
  by_cases h0 : l.length < 2
  · rw [show ckE l = 9 by unfold ckE; rw [if_pos h0]]
    exact ck_few a l.length cap w h0
  · by_cases h1 : 32 < l.length
    · rw [show ckE l = 8 by unfold ckE; rw [if_neg h0, if_pos h1]]
      exact ck_many a l.length cap w h1 (by omega)
    · rcases hh with hh | ⟨b, off, rfl, hb, hc⟩
      · omega
      · have hc2 : ∀ W, Below w.heap.size w W → ∀ j, j < l.length → W.cell? ⟨b, off + j * 2, none⟩ = some (.int .i64 (gX l j)) ∧ W.cell? ⟨b, off + j * 2 + 1, none⟩ = some (.int .i64 (gR l j)) := fun W hW j hj => by
          rw [(bcell hW).1 _ _ hb, (bcell hW).1 _ _ hb]; exact hc j hj
        have e : ckE l = (if l.any ptOut = true then 2 else if (adv l (l.length - 1) && (gX l 0 == 0)) = false then 5 else if l.any ptCl = true then 16 else if swl l (l.length - 1) = true then 10 else 0) := by unfold ckE; rw [if_neg h0, if_neg h1]
        rw [e]
        refine ck_some b off l.length cap _ _ _ _ w (by omega) (by omega) (fun W hW => ?_) (fun W hW => ?_) (fun W hW => ?_) (fun W hW => ?_)
        · exact contains_some 29 ptOut (Lib.hid fun x r W => isOut_any x r W) (enters_of Try.func29 (by kernel_rfl) rfl) b off l.length cap l W rfl (by omega) (Nat.lt_of_lt_of_le hb hW.size) (Lib.hid (hc2 W hW))
        · refine advances_some b off l.length cap l _ W (by omega) (by omega) (Nat.lt_of_lt_of_le hb hW.size) (Lib.hid (hc2 W hW)) (Lib.hid fun h => ?_) (Lib.hid fun ⟨j, hj, h⟩ => ?_)
          · rw [(adv_iff l _).2 (fun i hi => h i (by omega)), Bool.true_and]
          · have : adv l (l.length - 1) = false := by
              rw [Bool.eq_false_iff]
              intro ha
              exact h ((adv_iff l _).1 ha j (by omega))
            rw [this, Bool.false_and]
        · exact contains_some 31 ptCl (Lib.hid fun x r W => isCl_any x r W) (enters_of Try.func31 (by kernel_rfl) rfl) b off l.length cap l W rfl (by omega) (Nat.lt_of_lt_of_le hb hW.size) (Lib.hid (hc2 W hW))
        · exact swells_some b off l.length cap l _ W (by omega) (by omega) (Nat.lt_of_lt_of_le hb hW.size) (Lib.hid (hc2 W hW)) (Lib.hid rfl)

theorem end_any (b off n cap : Nat) (l : List (Int × Int)) (w : World) (n0 : 1 ≤ n) (n1 : n ≤ 1000)
    (hc : Hid (∀ j, j < n → w.cell? ⟨b, off + j * 2, none⟩ = some (.int .i64 (gX l j)) ∧ w.cell? ⟨b, off + j * 2 + 1, none⟩ = some (.int .i64 (gR l j)))) :
    Calls Try.prog 28 #[.slice (some ⟨b, off, none⟩) n cap] w fun e w' => e = .returned (.int .i64 (gX l (n - 1))) ∧ w' = w := by
  obtain ⟨m, rfl⟩ : ∃ m, n = m + 1 := ⟨n - 1, by omega⟩
  have c0 := (hc.out m (by omega)).1
  rw [show m + 1 - 1 = m by omega]
  generalize gX l m = x at *
  have wk : IntKind.i64.wrap ((m : Int) + 1 - 1) = (m : Int) := by simp only [IntKind.wrap_i64]; omega
  have wk2 : IntKind.i64.wrap (m : Int) = (m : Int) := by simp only [IntKind.wrap_i64]; omega
  go_enter Try.func28, Try.ntmps28
  go_wp2
  go_ret
  exact ⟨rfl, rfl⟩
theorem len_bad (v : Value) (E : Int) (w : World) (e1 : (E == 0) = false) (e2 : (E != 0) = true)
    (H1 : Hid (Calls Try.prog 16 #[v] w fun e w' => e = .returned (.int .i64 E) ∧ Below w.heap.size w w')) :
    Calls Try.prog 11 #[v] w fun e w' => e = .returned (.tuple #[.int .i64 0, .int .i64 E]) ∧ Below w.heap.size w w' := by
  go_enter Try.func11, Try.ntmps11
  go_wp2_with fail
  refine H1.out.mono ?_
  rintro e w1 ⟨rfl, gg⟩
  have X1 := Lib.hid gg; clear gg
  go_wp2
  go_returns
  exact ⟨rfl, X1.out⟩
theorem len_ok (v : Value) (X : Int) (w : World)
    (H1 : Hid (Calls Try.prog 16 #[v] w fun e w' => e = .returned (.int .i64 0) ∧ Below w.heap.size w w'))
    (H2 : Hid (∀ W, Below w.heap.size w W → Calls Try.prog 28 #[v] W fun e w' => e = .returned (.int .i64 X) ∧ w' = W)) :
    Calls Try.prog 11 #[v] w fun e w' => e = .returned (.tuple #[.int .i64 X, .int .i64 0]) ∧ Below w.heap.size w w' := by
  go_enter Try.func11, Try.ntmps11
  go_wp2_with fail
  refine H1.out.mono ?_
  rintro e w1 ⟨rfl, gg⟩
  have X1 := Lib.hid gg; clear gg
  go_wp2_with fail
  refine (H2.out _ X1.out).mono ?_
  rintro e w2 ⟨rfl, hw⟩
  subst hw
  go_wp2
  go_returns
  exact ⟨rfl, X1.out⟩
theorem end_of {v : Value} {l : List (Int × Int)} {w : World} (hv : Pts w v l) (h : ckE l = 0) :
    Calls Try.prog 28 #[v] w fun e w' => e = .returned (.int .i64 (gX l (l.length - 1))) ∧ w' = w := by
  have hR := (ckE_iff l).1 h
  have n0 := hR.n0
  have n1 := hR.n1
  obtain ⟨a, cap, rfl, hl, hh⟩ := hv
  rcases hh with hh | ⟨b, off, rfl, hb, hc⟩
  · omega
  · exact end_any b off l.length cap l w (by omega) (by omega) (Lib.hid hc)
theorem len_any (v : Value) (l : List (Int × Int)) (w : World) (hv : Pts w v l) :
    Calls Try.prog 11 #[v] w fun e w' => e = .returned (.tuple #[.int .i64 (lgQ l), .int .i64 (ckE l)]) ∧ Below w.heap.size w w' := by
  have HC := Lib.hid (ck_any v l w hv)
  unfold lgQ
  by_cases h : ckE l = 0
  · rw [if_pos h, h]
    rw [h] at HC
    exact len_ok v _ w HC (Lib.hid fun W hW => end_of (hv.below hW) h)
  · rw [if_neg h]
    exact len_bad v _ w (by simpa using h) (by simpa using h) HC

set_option maxHeartbeats 4000000 in
set_option maxRecDepth 100000 in
theorem bung_ok (b off n cap : Nat) (l : List (Int × Int)) (w : World) (n0 : 1 ≤ n) (n1 : n ≤ 1000) (hb : b < w.heap.size)
    (hc : Hid (∀ j, j < n → w.cell? ⟨b, off + j * 2, none⟩ = some (.int .i64 (gX l j)) ∧ w.cell? ⟨b, off + j * 2 + 1, none⟩ = some (.int .i64 (gR l j))))
    (H1 : Hid (Calls Try.prog 16 #[.slice (some ⟨b, off, none⟩) n cap] w fun e w' => e = .returned (.int .i64 0) ∧ Below w.heap.size w w')) :
    Calls Try.prog 14 #[.slice (some ⟨b, off, none⟩) n cap] w fun e w' => e = .returned (.tuple #[.int .i64 (bg l n), .int .i64 0]) ∧ Below w.heap.size w w' := by
  go_enter Try.func14, Try.ntmps14
  go_wp2_with fail
  refine H1.out.mono ?_
  rintro e w1 ⟨rfl, gg⟩
  have X1 := Lib.hid gg; clear gg H1
  go_wp2_with fail
  go_loopw [5, 6, 7, 15] (fun bu _ _ ii wr => ∃ k : Nat, k ≤ n ∧ ii = .int .i64 k ∧ bu = .int .i64 (bg l k) ∧ Hid (Below w.heap.size w wr)) (fun _ _ _ ii _ => n - (intOf ii).toNat)
  case atStart => exact ⟨0, Nat.zero_le _, rfl, rfl, X1⟩
  case round =>
    obtain ⟨k, hk, rfl, rfl, hB⟩ := hrel
    by_cases hlt : k < n
    · have c0 : wr.cell? ⟨b, off + k * 2, none⟩ = some (.int .i64 (gX l k)) := by rw [(bcell hB.out).1 _ _ hb]; exact (hc.out k hlt).1
      have c1 : wr.cell? ⟨b, off + k * 2 + 1, none⟩ = some (.int .i64 (gR l k)) := by rw [(bcell hB.out).1 _ _ hb]; exact (hc.out k hlt).2
      have hg := bg_lt l k
      have hgl : bg l k < n := by omega
      have hbr : b < wr.heap.size := Nat.lt_of_lt_of_le hb hB.out.size
      have eb : bg l (k + 1) = if gR l (bg l k) < gR l k then k else bg l k := rfl
      have c2 : wr.cell? ⟨b, off + bg l k * 2 + 1, none⟩ = some (.int .i64 (gR l (bg l k))) := by rw [(bcell hB.out).1 _ _ hb]; exact (hc.out (bg l k) hgl).2
      have EB := Lib.hid eb
      clear eb hg
      generalize hgg : bg l k = g at *
      generalize gR l g = rg at *
      generalize gX l k = x at *
      generalize gR l k = r at *
      clear hgg
      have T := Lib.hid (Two.new wr (.int .i64 x) (.int .i64 r) 30)
      have hne : b ≠ wr.heap.size := Nat.ne_of_lt hbr
      have c3 : (wr.alloc (.cells #[.int .i64 x, .int .i64 r] 30)).cell? ⟨b, off + g * 2 + 1, none⟩ = some (.int .i64 rg) := by rw [World.cell?_alloc_lt wr _ _ hbr]; exact c2
      have hB2 := Lib.hid (bA hB.out (.cells #[.int .i64 x, .int .i64 r] 30))
      obtain ⟨t0, t1, _, _, _⟩ := T.out
      by_cases hq : rg < r
      · have e : bg l (k + 1) = k := by rw [EB.out, if_pos hq]
        clear EB
        go_wp2_with fail
        go_quiet (fail)
        go_wp2
        go_roundw
        case rel => exact ⟨k + 1, by omega, by go_num, by rw [e], bel_trans hB2.out (bel_drewN _ _)⟩
        case measure => simp [intOf]; omega
      · have e : bg l (k + 1) = g := by rw [EB.out, if_neg hq]
        clear EB
        go_wp2_with fail
        go_quiet (fail)
        go_wp2
        go_roundw
        case rel => exact ⟨k + 1, by omega, by go_num, by rw [e], bel_trans hB2.out (bel_drewN _ _)⟩
        case measure => simp [intOf]; omega
    · obtain rfl : k = n := by omega
      go_wp2
      go_returns
      exact ⟨rfl, hB.out⟩
theorem bung_bad (v : Value) (E : Int) (w : World) (e1 : (E == 0) = false) (e2 : (E != 0) = true)
    (H1 : Hid (Calls Try.prog 16 #[v] w fun e w' => e = .returned (.int .i64 E) ∧ Below w.heap.size w w')) :
    Calls Try.prog 14 #[v] w fun e w' => e = .returned (.tuple #[.int .i64 0, .int .i64 E]) ∧ Below w.heap.size w w' := by
  go_enter Try.func14, Try.ntmps14
  go_wp2_with fail
  refine H1.out.mono ?_
  rintro e w1 ⟨rfl, gg⟩
  have X1 := Lib.hid gg; clear gg
  go_wp2
  go_returns
  exact ⟨rfl, X1.out⟩
theorem bung_any (v : Value) (l : List (Int × Int)) (w : World) (hv : Pts w v l) :
    Calls Try.prog 14 #[v] w fun e w' => e = .returned (.tuple #[.int .i64 (buQ l), .int .i64 (ckE l)]) ∧ Below w.heap.size w w' := by
  have HC := Lib.hid (ck_any v l w hv)
  unfold buQ
  by_cases h : ckE l = 0
  · have hR := (ckE_iff l).1 h
    have n0 := hR.n0
    have n1 := hR.n1
    rw [if_pos h, h]
    rw [h] at HC
    obtain ⟨a, cap, rfl, hl, hh⟩ := hv
    rcases hh with hh | ⟨b, off, rfl, hb, hc⟩
    · omega
    · exact bung_ok b off l.length cap l w (by omega) (by omega) hb (Lib.hid hc) HC
  · rw [if_neg h]
    exact bung_bad v _ w (by simpa using h) (by simpa using h) HC

theorem place_bad (v : Value) (x E : Int) (w : World) (e1 : (E == 0) = false) (e2 : (E != 0) = true)
    (H1 : Hid (Calls Try.prog 16 #[v] w fun e w' => e = .returned (.int .i64 E) ∧ Below w.heap.size w w')) :
    Calls Try.prog 34 #[v, .int .i64 x] w fun e w' => e = .returned (.int .i64 1) ∧ Below w.heap.size w w' := by
  go_enter Try.func34, Try.ntmps34
  go_wp2_with fail
  refine H1.out.mono ?_
  rintro e w1 ⟨rfl, gg⟩
  have X1 := Lib.hid gg; clear gg
  go_wp2
  go_returns
  exact ⟨rfl, X1.out⟩
theorem place_ok (v : Value) (x X : Int) (w : World)
    (H1 : Hid (Calls Try.prog 16 #[v] w fun e w' => e = .returned (.int .i64 0) ∧ Below w.heap.size w w'))
    (H2 : Hid (∀ W, Below w.heap.size w W → Calls Try.prog 28 #[v] W fun e w' => e = .returned (.int .i64 X) ∧ w' = W)) :
    Calls Try.prog 34 #[v, .int .i64 x] w fun e w' => e = .returned (.int .i64 (if x < 0 ∨ X < x then 2 else 0)) ∧ Below w.heap.size w w' := by
  by_cases h0 : x < 0
  · rw [if_pos (.inl h0)]
    go_enter Try.func34, Try.ntmps34
    go_wp2_with fail
    refine H1.out.mono ?_
    rintro e w1 ⟨rfl, gg⟩
    have X1 := Lib.hid gg; clear gg
    go_wp2
    go_returns
    exact ⟨rfl, X1.out⟩
  · by_cases h1 : X < x
    · rw [if_pos (.inr h1)]
      go_enter Try.func34, Try.ntmps34
      go_wp2_with fail
      refine H1.out.mono ?_
      rintro e w1 ⟨rfl, gg⟩
      have X1 := Lib.hid gg; clear gg
      go_wp2_with fail
      refine (H2.out _ X1.out).mono ?_
      rintro e w2 ⟨rfl, hw⟩
      subst hw
      go_wp2
      go_returns
      exact ⟨rfl, X1.out⟩
    · rw [if_neg (by omega)]
      go_enter Try.func34, Try.ntmps34
      go_wp2_with fail
      refine H1.out.mono ?_
      rintro e w1 ⟨rfl, gg⟩
      have X1 := Lib.hid gg; clear gg
      go_wp2_with fail
      refine (H2.out _ X1.out).mono ?_
      rintro e w2 ⟨rfl, hw⟩
      subst hw
      go_wp2
      go_returns
      exact ⟨rfl, X1.out⟩
theorem place_any (v : Value) (l : List (Int × Int)) (x : Int) (w : World) (hv : Pts w v l) :
    Calls Try.prog 34 #[v, .int .i64 x] w fun e w' => e = .returned (.int .i64 (plE l x)) ∧ Below w.heap.size w w' := by
  have HC := Lib.hid (ck_any v l w hv)
  unfold plE
  by_cases h : ckE l = 0
  · rw [if_pos h]
    rw [h] at HC
    exact place_ok v x _ w HC (Lib.hid fun W hW => end_of (hv.below hW) h)
  · rw [if_neg h]
    exact place_bad v x _ w (by simpa using h) (by simpa using h) HC
end Go.Proofs.Ytlofblpfohnooab
