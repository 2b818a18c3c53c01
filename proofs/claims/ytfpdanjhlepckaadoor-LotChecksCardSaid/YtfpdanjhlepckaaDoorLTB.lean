/- Package lot: IDs, filled liquids, shares. -/
import Derived.Test.YtfpdanjhlepckaaDoorLTA
namespace Go.Proofs.YtfpdanjhlepckaaDoor
open Go.RowKit

theorem ltId_any (n : Int) (w : World) :
    Calls Tryd.prog 45 #[.int .i64 n] w fun e w' => e = .returned (.bool (idB n)) ∧ w' = w := by
  unfold idB
  by_cases h : 1 ≤ n
  · have d : decide (1 ≤ n) = true := decide_eq_true h
    rw [d, Bool.true_and]
    clear h
    generalize hB : decide (n ≤ 1073741824) = B
    go_enter Tryd.func45, Tryd.ntmps45
    go_wp2
    go_returns
    exact ⟨rfl, rfl⟩
  · have d : decide (1 ≤ n) = false := decide_eq_false h
    rw [d, Bool.false_and]
    clear h
    go_enter Tryd.func45, Tryd.ntmps45
    go_wp2
    go_returns
    exact ⟨rfl, rfl⟩
theorem pts_litT (T : TypeId) (w : World) (l : List (Int × Int)) (cs : List Value) (h : cs = flat l) (hn : l.length ≤ 1000) :
    Pts (w.alloc (.cells cs.toArray T)) (.slice (some ⟨w.heap.size, 0, none⟩) l.length l.length) l := by
  refine ⟨_, _, rfl, by omega, .inr ⟨w.heap.size, 0, rfl, by simp, fun j hj => ?_⟩⟩
  subst h
  have hf := flat_at l j hj
  have hl := flat_len l
  rw [World.cell?_alloc_new, World.cell?_alloc_new]
  simp only [Nat.zero_add]
  exact ⟨by simpa using hf.1, by simpa using hf.2⟩
theorem suE_one (A M : Int) : suE [(A, M)] = if plB A M = true then 0 else 1 := by
  unfold suE
  have e1 : sm fA [(A, M)] = A := by simp [sm, fA]
  have e2 : sm fM [(A, M)] = M := by simp [sm, fM]
  rw [e1, e2]
  cases h : plB A M with
  | true => simp [allP, h]
  | false => simp [allP, h]
set_option maxHeartbeats 8000000 in
set_option maxRecDepth 100000 in
theorem ltFi_any (A M : Int) (w : World) :
    Calls Tryd.prog 61 #[.agg #[.int .i64 A, .int .i64 M]] w fun e w' => e = .returned (.bool (fiB A M)) ∧ Below w.heap.size w w' := by
  have T0 := Lib.hid ((Two.new w (.int .i64 A) (.int .i64 M) 29).alloc (.cells #[.int .i64 A, .int .i64 M] 29))
  have L0 := Lib.hid (pts_litT 29 (w.alloc (.cells #[.int .i64 A, .int .i64 M] 29)) [(A, M)] [.int .i64 A, .int .i64 M] rfl (by simp))
  simp only [World.size_alloc] at L0
  have X : Hid (Below w.heap.size w ((w.alloc (.cells #[.int .i64 A, .int .i64 M] 29)).alloc (.cells #[.int .i64 A, .int .i64 M] 29))) := Lib.hid (bel_alloc (bel_alloc (Below.refl _ _)))
  have HS := Lib.hid (fun v W h => mxSu_any v [(A, M)] W h)
  rw [suE_one] at HS
  generalize suA [(A, M)] = p at *
  generalize suM [(A, M)] = q at *
  unfold fiB
  cases hp : plB A M with
  | true =>
    rw [hp, if_pos rfl] at HS
    rw [Bool.true_and]
    clear hp
    generalize hB : decide (0 < M) = B
    go_enter Tryd.func61, Tryd.ntmps61
    go_wp2_with fail
    refine (HS.out _ _ L0.out).mono ?_
    rintro e w1 ⟨rfl, h1⟩
    replace T0 := Lib.hid ((T0.out.below h1).alloc (.cells #[.int .i64 p, .int .i64 q] 29))
    replace X := Lib.hid (bel_trans (bel_trans X.out h1) (bel_alloc (o := .cells #[.int .i64 p, .int .i64 q] 29) (Below.refl _ _)))
    clear h1 L0
    obtain ⟨t0, t1, _, _, _⟩ := T0.out
    go_wp2
    go_returns
    exact ⟨rfl, X.out⟩
  | false =>
    rw [hp, if_neg (by simp)] at HS
    rw [Bool.false_and]
    clear hp
    go_enter Tryd.func61, Tryd.ntmps61
    go_wp2_with fail
    refine (HS.out _ _ L0.out).mono ?_
    rintro e w1 ⟨rfl, h1⟩
    replace X := Lib.hid (bel_trans (bel_trans X.out h1) (bel_alloc (o := .cells #[.int .i64 p, .int .i64 q] 29) (Below.refl _ _)))
    clear h1 L0
    go_wp2
    go_returns
    exact ⟨rfl, X.out⟩
set_option maxHeartbeats 16000000 in
set_option maxRecDepth 100000 in
theorem ltRi_bad (a : Option Addr) (n cap : Nat) (s : List (Int × Int)) (m : Nat) (w : World) (NV0 : Hid (Pts w (.slice a n cap) s)) (hp : Hid (∀ j, j < m → shB s j = false)) (hm : m < n) (hq : shB s m = true)(hn : n ≤ 1000) :
    Calls Tryd.prog 62 #[.slice a n cap] w fun e w' => e = .returned (.bool false) ∧ Below w.heap.size w w' := by
  have HI := Lib.hid (fun k W => ltId_any k W)
  go_enter Tryd.func62, Tryd.ntmps62
  go_wp2_with fail
  go_loopw [3, 8] (fun bf i wr => ∃ k : Nat, k ≤ m ∧ i = .int .i64 k ∧ bf = .int .i64 (pvF s k) ∧ Hid (Below w.heap.size w wr)) (fun _ i _ => n - (intOf i).toNat)
  case atStart => exact ⟨0, Nat.zero_le _, rfl, rfl, Lib.hid (Below.refl _ _)⟩
  case round =>
    obtain ⟨k, hk, rfl, rfl, X⟩ := hrel
    have NV := Lib.hid (NV0.out.below X.out)
    by_cases hlt : k < m
    · have h0 := shB_false.1 (hp.out k hlt)
      have HIk := Lib.hid (HI.out (gX s k))
      rw [idB_iff.2 h0.1] at HIk
      have hv : pvF s (k + 1) = gX s k := rfl
      have l9 : (k : Int) < (n : Int) := by omega
      obtain ⟨b, off, rfl, hb, hc⟩ := NV.out.at (by omega)
      obtain ⟨c0, c1⟩ := hc k (by omega)
      clear hc
      generalize pvF s k = p at *
      generalize gX s k = x at *
      generalize gR s k = y at *
      have d1 : decide (x ≤ p) = false := decide_eq_false (by omega)
      have d2 : decide (y < 1) = false := decide_eq_false (by omega)
      have d3 : decide (10737418240000 < y) = false := decide_eq_false (by omega)
      have P0 := Two.new wr (.int .i64 x) (.int .i64 y) 52
      have X1 := Lib.hid (bel_trans X.out (bel_alloc (o := .cells #[.int .i64 x, .int .i64 y] 52) (Below.refl _ _)))
      obtain ⟨p0, p1, _, _, _⟩ := P0
      go_wp2_with fail
      refine (HIk.out _).mono ?_
      rintro e w3 ⟨rfl, hw⟩
      subst hw
      go_wp2
      go_roundw
      case rel => exact ⟨k + 1, by omega, by go_num, by rw [hv], X1⟩
      case measure => simp [intOf]; omega
    · obtain rfl : k = m := by omega
      have HIk := Lib.hid (HI.out (gX s k))
      have l9 : (k : Int) < (n : Int) := by omega
      obtain ⟨b, off, rfl, hb, hc⟩ := NV.out.at (by omega)
      obtain ⟨c0, c1⟩ := hc k (by omega)
      clear hc hp
      unfold shB at hq
      generalize pvF s k = p at *
      generalize gX s k = x at *
      generalize gR s k = y at *
      have P0 := Two.new wr (.int .i64 x) (.int .i64 y) 52
      have X1 := Lib.hid (bel_trans X.out (bel_alloc (o := .cells #[.int .i64 x, .int .i64 y] 52) (Below.refl _ _)))
      obtain ⟨p0, p1, _, _, _⟩ := P0
      cases e0 : idB x with
      | false =>
        rw [e0] at HIk
        clear hq
        go_wp2_with fail
        refine (HIk.out _).mono ?_
        rintro e w3 ⟨rfl, hw⟩
        subst hw
        go_wp2
        go_returns
        exact ⟨rfl, X1.out⟩
      | true =>
        rw [e0] at HIk
        rw [e0, Bool.not_true, Bool.false_or] at hq
        cases d1 : decide (x ≤ p) with
        | true =>
          clear hq
          go_wp2_with fail
          refine (HIk.out _).mono ?_
          rintro e w3 ⟨rfl, hw⟩
          subst hw
          go_wp2
          go_returns
          exact ⟨rfl, X1.out⟩
        | false =>
          rw [d1, Bool.false_or] at hq
          cases d2 : decide (y < 1) with
          | true =>
            clear hq
            go_wp2_with fail
            refine (HIk.out _).mono ?_
            rintro e w3 ⟨rfl, hw⟩
            subst hw
            go_wp2
            go_returns
            exact ⟨rfl, X1.out⟩
          | false =>
            rw [d2, Bool.false_or] at hq
            go_wp2_with fail
            refine (HIk.out _).mono ?_
            rintro e w3 ⟨rfl, hw⟩
            subst hw
            go_wp2
            go_returns
            exact ⟨rfl, X1.out⟩
set_option maxHeartbeats 16000000 in
set_option maxRecDepth 100000 in
theorem ltRi_ok (a : Option Addr) (n cap : Nat) (s : List (Int × Int)) (w : World) (NV0 : Hid (Pts w (.slice a n cap) s)) (hp : Hid (∀ j, j < n → shB s j = false)) (hn : n ≤ 1000) :
    Calls Tryd.prog 62 #[.slice a n cap] w fun e w' => e = .returned (.bool true) ∧ Below w.heap.size w w' := by
  have HI := Lib.hid (fun k W => ltId_any k W)
  go_enter Tryd.func62, Tryd.ntmps62
  go_wp2_with fail
  go_loopw [3, 8] (fun bf i wr => ∃ k : Nat, k ≤ n ∧ i = .int .i64 k ∧ bf = .int .i64 (pvF s k) ∧ Hid (Below w.heap.size w wr)) (fun _ i _ => n - (intOf i).toNat)
  case atStart => exact ⟨0, Nat.zero_le _, rfl, rfl, Lib.hid (Below.refl _ _)⟩
  case round =>
    obtain ⟨k, hk, rfl, rfl, X⟩ := hrel
    have NV := Lib.hid (NV0.out.below X.out)
    by_cases hlt : k < n
    · have h0 := shB_false.1 (hp.out k hlt)
      have HIk := Lib.hid (HI.out (gX s k))
      rw [idB_iff.2 h0.1] at HIk
      have hv : pvF s (k + 1) = gX s k := rfl
      have l9 : (k : Int) < (n : Int) := by omega
      obtain ⟨b, off, rfl, hb, hc⟩ := NV.out.at (by omega)
      obtain ⟨c0, c1⟩ := hc k (by omega)
      clear hc
      generalize pvF s k = p at *
      generalize gX s k = x at *
      generalize gR s k = y at *
      have d1 : decide (x ≤ p) = false := decide_eq_false (by omega)
      have d2 : decide (y < 1) = false := decide_eq_false (by omega)
      have d3 : decide (10737418240000 < y) = false := decide_eq_false (by omega)
      have P0 := Two.new wr (.int .i64 x) (.int .i64 y) 52
      have X1 := Lib.hid (bel_trans X.out (bel_alloc (o := .cells #[.int .i64 x, .int .i64 y] 52) (Below.refl _ _)))
      obtain ⟨p0, p1, _, _, _⟩ := P0
      go_wp2_with fail
      refine (HIk.out _).mono ?_
      rintro e w3 ⟨rfl, hw⟩
      subst hw
      go_wp2
      go_roundw
      case rel => exact ⟨k + 1, by omega, by go_num, by rw [hv], X1⟩
      case measure => simp [intOf]; omega
    · obtain rfl : k = n := by omega
      go_wp2
      go_returns
      exact ⟨rfl, X.out⟩
theorem ltRi_any (v : Value) (s : List (Int × Int)) (w : World) (hv : Pts w v s) (hn : s.length ≤ 1000) :
    Calls Tryd.prog 62 #[v] w fun e w' => e = .returned (.bool (shO s)) ∧ Below w.heap.size w w' := by
  obtain ⟨a, cap, rfl, _, _⟩ := id hv
  cases h : shO s with
  | true => exact ltRi_ok a _ cap s w hv (Lib.hid (shO_iff.1 h)) hn
  | false =>
    obtain ⟨k, hk, h1, h2⟩ := shO_false h
    exact ltRi_bad a _ cap s k w hv h2 hk h1 hn
set_option maxHeartbeats 16000000 in
set_option maxRecDepth 100000 in
theorem ltSm_any (v : Value) (s : List (Int × Int)) (w : World) (hv : Pts w v s) (hn : s.length ≤ 32) (h : shO s = true) :
    Calls Tryd.prog 63 #[v] w fun e w' => e = .returned (.int .i64 (sm fM s)) ∧ Below w.heap.size w w' := by
  obtain ⟨a, cap, rfl, hcap, hh⟩ := hv
  have NV0 : Hid (Pts w (.slice a s.length cap) s) := ⟨a, cap, rfl, hcap, hh⟩
  clear hh hcap
  have HS := Lib.hid (sm_step fM s)
  have FS := Lib.hid (sm_full fM s)
  have HY := Lib.hid (shO_bd h)
  have HX := Lib.hid (fun k hk => (shB_false.1 (shO_iff.1 h k hk)).2.2)
  clear h
  generalize sm fM s = T at *
  generalize hN : s.length = n at *
  go_enter Tryd.func63, Tryd.ntmps63
  go_wp2_with fail
  go_loopw [3, 8] (fun t i wr => ∃ k : Nat, k ≤ n ∧ i = .int .i64 k ∧ t = .int .i64 (sm fM (s.take k)) ∧ Hid (Below w.heap.size w wr)) (fun _ i _ => n - (intOf i).toNat)
  case atStart => exact ⟨0, Nat.zero_le _, rfl, rfl, Lib.hid (Below.refl _ _)⟩
  case round =>
    obtain ⟨k, hk, rfl, rfl, X⟩ := hrel
    have NV := Lib.hid (NV0.out.below X.out)
    by_cases hlt : k < n
    · have s1 := Lib.hid (HS.out k hlt)
      change Hid (sm fM (s.take (k + 1)) = sm fM (s.take k) + gR s k) at s1
      have y := HY.out k
      have x := HX.out k hlt
      have l9 : (k : Int) < (n : Int) := by omega
      obtain ⟨b, off, rfl, hb, hc⟩ := NV.out.at (by omega)
      obtain ⟨c0, c1⟩ := hc k (by omega)
      clear hc
      generalize gX s k = p at *
      generalize gR s k = r at *
      generalize sm fM (s.take k) = S at *
      have w1 : IntKind.i64.wrap (S + r) = S + r := wrap_in _ ⟨by omega, by omega⟩
      have P0 := Two.new wr (.int .i64 p) (.int .i64 r) 52
      have X1 := Lib.hid (bel_trans X.out (bel_alloc (o := .cells #[.int .i64 p, .int .i64 r] 52) (Below.refl _ _)))
      obtain ⟨p0, p1, _, _, _⟩ := P0
      go_wp2
      go_roundw
      case rel => exact ⟨k + 1, by omega, by go_num, by rw [s1.out], X1⟩
      case measure => simp [intOf]; omega
    · obtain rfl : k = n := by omega
      rw [FS.out]
      go_wp2
      go_returns
      exact ⟨rfl, X.out⟩
end Go.Proofs.YtfpdanjhlepckaaDoor

