/- The reference of layer 2: Word, Rule, Total. -/
import Derived.Test.YtlpngfngdigchaaDoorRefR
import Derived.Test.YtlpngfngdigchaaDoorTot
namespace Go.Proofs.YtlpngfngdigchaaDoor
open Go.RowKit

theorem refWord_bad (rule : Int) (w : World) (hr : Hid (isRuleB rule = false)) :
    Calls Tryd.prog 21 #[.int .i64 rule] w fun e w' => e = .returned (str []) ∧ Below w.heap.size w w' := by
  go_enter Tryd.func21, Tryd.ntmps21
  go_wp2_with (go_at_call 27; refine (refIs_any _ _).mono ?_; rw [hr.out]; rintro e w' ⟨rfl, hw⟩; subst hw)
  go_ret
  exact ⟨rfl, Below.refl _ _⟩

theorem refWord1 (w : World) :
    Calls Tryd.prog 21 #[.int .i64 1] w fun e w' => e = .returned (str [100, 111, 119, 110]) ∧ Below w.heap.size w w' := by
  have hr : Hid (isRuleB 1 = true) := by show _ = _; decide
  go_enter Tryd.func21, Tryd.ntmps21
  go_wp2_with (go_at_call 27; refine (refIs_any _ _).mono ?_; rw [hr.out]; rintro e w' ⟨rfl, hw⟩; subst hw)
  go_ret
  exact ⟨rfl, bel_alloc (Below.refl _ _)⟩

theorem refWord2 (w : World) :
    Calls Tryd.prog 21 #[.int .i64 2] w fun e w' => e = .returned (str [117, 112]) ∧ Below w.heap.size w w' := by
  have hr : Hid (isRuleB 2 = true) := by show _ = _; decide
  go_enter Tryd.func21, Tryd.ntmps21
  go_wp2_with (go_at_call 27; refine (refIs_any _ _).mono ?_; rw [hr.out]; rintro e w' ⟨rfl, hw⟩; subst hw)
  go_ret
  exact ⟨rfl, bel_alloc (Below.refl _ _)⟩

theorem refWord3 (w : World) :
    Calls Tryd.prog 21 #[.int .i64 3] w fun e w' => e = .returned (str [104, 97, 108, 102, 45, 117, 112]) ∧ Below w.heap.size w w' := by
  have hr : Hid (isRuleB 3 = true) := by show _ = _; decide
  go_enter Tryd.func21, Tryd.ntmps21
  go_wp2_with (go_at_call 27; refine (refIs_any _ _).mono ?_; rw [hr.out]; rintro e w' ⟨rfl, hw⟩; subst hw)
  go_ret
  exact ⟨rfl, bel_alloc (Below.refl _ _)⟩

theorem refWord4 (w : World) :
    Calls Tryd.prog 21 #[.int .i64 4] w fun e w' => e = .returned (str [104, 97, 108, 102, 45, 101, 118, 101, 110]) ∧ Below w.heap.size w w' := by
  have hr : Hid (isRuleB 4 = true) := by show _ = _; decide
  go_enter Tryd.func21, Tryd.ntmps21
  go_wp2_with (go_at_call 27; refine (refIs_any _ _).mono ?_; rw [hr.out]; rintro e w' ⟨rfl, hw⟩; subst hw)
  go_ret
  exact ⟨rfl, bel_alloc (Below.refl _ _)⟩

theorem refWord_any (rule : Int) (w : World) :
    Calls Tryd.prog 21 #[.int .i64 rule] w fun e w' => e = .returned (str (wordOf rule)) ∧ Below w.heap.size w w' := by
  cases hr : isRuleB rule with
  | false => unfold wordOf; rw [hr]; exact refWord_bad rule w hr
  | true =>
    have h := (isRuleB_iff rule).1 hr
    have h4 : rule = 1 ∨ rule = 2 ∨ rule = 3 ∨ rule = 4 := by omega
    rcases h4 with rfl | rfl | rfl | rfl
    · exact refWord1 w
    · exact refWord2 w
    · exact refWord3 w
    · exact refWord4 w

set_option maxHeartbeats 1000000 in
theorem refRule_any (s : ByteArray) (w : World) :
    Calls Tryd.prog 23 #[.string s] w fun e w' => e = .returned (.int .i64 (ruleOf s.toList)) ∧ Below w.heap.size w w' := by
  generalize hl : s.toList = l at *
  have HB : Hid (Below w.heap.size w w) := Below.refl _ _
  by_cases h1 : l = [100, 111, 119, 110]
  · have hv : Hid (ruleOf l = 1) := by show _ = _; rw [h1]; decide
    rw [hv.out]
    have g1 : ([100, 111, 119, 110] == s.toList) = true := by rw [hl, h1]; rfl
    clear hl hv h1
    go_enter Tryd.func23, Tryd.ntmps23
    go_wp2_with fail
    refine wp_loop_rounds 6 ?_
    rw [rounds_succ]
    go_wp2_with (go_at_call 21; refine (refWord1 _).mono ?_; rintro e wn ⟨rfl, h1⟩; replace HB := Lib.hid (bel_trans HB.out h1); clear h1)
    go_ret
    exact ⟨rfl, HB.out⟩
  by_cases h2 : l = [117, 112]
  · have hv : Hid (ruleOf l = 2) := by show _ = _; rw [h2]; decide
    rw [hv.out]
    have g1 : ([100, 111, 119, 110] == s.toList) = false := by rw [hl, h2]; rfl
    have g2 : ([117, 112] == s.toList) = true := by rw [hl, h2]; rfl
    clear hl hv h1 h2
    go_enter Tryd.func23, Tryd.ntmps23
    go_wp2_with fail
    refine wp_loop_rounds 6 ?_
    rw [rounds_succ]
    go_wp2_with (go_at_call 21; refine (refWord1 _).mono ?_; rintro e wn ⟨rfl, h1⟩; replace HB := Lib.hid (bel_trans HB.out h1); clear h1)
    rw [rounds_succ]
    go_wp2_with (go_at_call 21; refine (refWord2 _).mono ?_; rintro e wn ⟨rfl, h1⟩; replace HB := Lib.hid (bel_trans HB.out h1); clear h1)
    go_ret
    exact ⟨rfl, HB.out⟩
  by_cases h3 : l = [104, 97, 108, 102, 45, 117, 112]
  · have hv : Hid (ruleOf l = 3) := by show _ = _; rw [h3]; decide
    rw [hv.out]
    have g1 : ([100, 111, 119, 110] == s.toList) = false := by rw [hl, h3]; rfl
    have g2 : ([117, 112] == s.toList) = false := by rw [hl, h3]; rfl
    have g3 : ([104, 97, 108, 102, 45, 117, 112] == s.toList) = true := by rw [hl, h3]; rfl
    clear hl hv h1 h2 h3
    go_enter Tryd.func23, Tryd.ntmps23
    go_wp2_with fail
    refine wp_loop_rounds 6 ?_
    rw [rounds_succ]
    go_wp2_with (go_at_call 21; refine (refWord1 _).mono ?_; rintro e wn ⟨rfl, h1⟩; replace HB := Lib.hid (bel_trans HB.out h1); clear h1)
    rw [rounds_succ]
    go_wp2_with (go_at_call 21; refine (refWord2 _).mono ?_; rintro e wn ⟨rfl, h1⟩; replace HB := Lib.hid (bel_trans HB.out h1); clear h1)
    rw [rounds_succ]
    go_wp2_with (go_at_call 21; refine (refWord3 _).mono ?_; rintro e wn ⟨rfl, h1⟩; replace HB := Lib.hid (bel_trans HB.out h1); clear h1)
    go_ret
    exact ⟨rfl, HB.out⟩
  by_cases h4 : l = [104, 97, 108, 102, 45, 101, 118, 101, 110]
  · have hv : Hid (ruleOf l = 4) := by show _ = _; rw [h4]; decide
    rw [hv.out]
    have g1 : ([100, 111, 119, 110] == s.toList) = false := by rw [hl, h4]; rfl
    have g2 : ([117, 112] == s.toList) = false := by rw [hl, h4]; rfl
    have g3 : ([104, 97, 108, 102, 45, 117, 112] == s.toList) = false := by rw [hl, h4]; rfl
    have g4 : ([104, 97, 108, 102, 45, 101, 118, 101, 110] == s.toList) = true := by rw [hl, h4]; rfl
    clear hl hv h1 h2 h3 h4
    go_enter Tryd.func23, Tryd.ntmps23
    go_wp2_with fail
    refine wp_loop_rounds 6 ?_
    rw [rounds_succ]
    go_wp2_with (go_at_call 21; refine (refWord1 _).mono ?_; rintro e wn ⟨rfl, h1⟩; replace HB := Lib.hid (bel_trans HB.out h1); clear h1)
    rw [rounds_succ]
    go_wp2_with (go_at_call 21; refine (refWord2 _).mono ?_; rintro e wn ⟨rfl, h1⟩; replace HB := Lib.hid (bel_trans HB.out h1); clear h1)
    rw [rounds_succ]
    go_wp2_with (go_at_call 21; refine (refWord3 _).mono ?_; rintro e wn ⟨rfl, h1⟩; replace HB := Lib.hid (bel_trans HB.out h1); clear h1)
    rw [rounds_succ]
    go_wp2_with (go_at_call 21; refine (refWord4 _).mono ?_; rintro e wn ⟨rfl, h1⟩; replace HB := Lib.hid (bel_trans HB.out h1); clear h1)
    go_ret
    exact ⟨rfl, HB.out⟩
  have hv : Hid (ruleOf l = 0) := by
    show _ = _; unfold ruleOf; simp only [wordsL, List.getD_cons_zero, List.getD_cons_succ]
    by_cases h0 : l = []
    · rw [if_pos h0]
    · rw [if_neg h0, if_neg h1, if_neg h2, if_neg h3, if_neg h4]
  rw [hv.out]
  have g1 : ([100, 111, 119, 110] == s.toList) = false := by rw [hl, beq_eq_false_iff_ne]; exact fun h => h1 h.symm
  have g2 : ([117, 112] == s.toList) = false := by rw [hl, beq_eq_false_iff_ne]; exact fun h => h2 h.symm
  have g3 : ([104, 97, 108, 102, 45, 117, 112] == s.toList) = false := by rw [hl, beq_eq_false_iff_ne]; exact fun h => h3 h.symm
  have g4 : ([104, 97, 108, 102, 45, 101, 118, 101, 110] == s.toList) = false := by rw [hl, beq_eq_false_iff_ne]; exact fun h => h4 h.symm
  clear hl hv h1 h2 h3 h4
  go_enter Tryd.func23, Tryd.ntmps23
  go_wp2_with fail
  refine wp_loop_rounds 6 ?_
  rw [rounds_succ]
  go_wp2_with (go_at_call 21; refine (refWord1 _).mono ?_; rintro e wn ⟨rfl, h1⟩; replace HB := Lib.hid (bel_trans HB.out h1); clear h1)
  rw [rounds_succ]
  go_wp2_with (go_at_call 21; refine (refWord2 _).mono ?_; rintro e wn ⟨rfl, h1⟩; replace HB := Lib.hid (bel_trans HB.out h1); clear h1)
  rw [rounds_succ]
  go_wp2_with (go_at_call 21; refine (refWord3 _).mono ?_; rintro e wn ⟨rfl, h1⟩; replace HB := Lib.hid (bel_trans HB.out h1); clear h1)
  rw [rounds_succ]
  go_wp2_with (go_at_call 21; refine (refWord4 _).mono ?_; rintro e wn ⟨rfl, h1⟩; replace HB := Lib.hid (bel_trans HB.out h1); clear h1)
  rw [rounds_succ]
  go_wp2_with fail
  go_ret
  exact ⟨rfl, HB.out⟩

theorem refTotal_rule (v : Value) (b rule : Int) (w : World) (hr : Hid (isRuleB rule = false)) :
    Calls Tryd.prog 19 #[v, .int .i64 b, .int .i64 rule] w fun e w' => e = .returned (.tuple #[.int .i64 0, .int .i64 0, .int .i64 1]) ∧ Below w.heap.size w w' := by
  go_enter Tryd.func19, Tryd.ntmps19
  go_wp2_with (go_at_call 27; refine (refIs_any _ _).mono ?_; rw [hr.out]; rintro e w' ⟨rfl, rfl⟩)
  go_returns
  exact ⟨rfl, Below.refl _ _⟩
theorem refTotal_many (a : Option Addr) (n cap : Nat) (b rule : Int) (w : World) (hr : Hid (isRuleB rule = true)) (h : 64 < n) (h2 : n ≤ 9223372036854775807) :
    Calls Tryd.prog 19 #[.slice a n cap, .int .i64 b, .int .i64 rule] w fun e w' => e = .returned (.tuple #[.int .i64 0, .int .i64 0, .int .i64 8]) ∧ Below w.heap.size w w' := by
  go_enter Tryd.func19, Tryd.ntmps19
  go_wp2_with (go_at_call 27; refine (refIs_any _ _).mono ?_; rw [hr.out]; rintro e w' ⟨rfl, rfl⟩)
  go_returns
  exact ⟨rfl, Below.refl _ _⟩
theorem refTotal_div (a : Option Addr) (n cap : Nat) (b rule : Int) (w : World) (hr : Hid (isRuleB rule = true)) (hd : b < 1 ∨ 128849018880000 < b) (h : n ≤ 64) :
    Calls Tryd.prog 19 #[.slice a n cap, .int .i64 b, .int .i64 rule] w fun e w' => e = .returned (.tuple #[.int .i64 0, .int .i64 0, .int .i64 2]) ∧ Below w.heap.size w w' := by
  rcases hd with hd | hd
  · go_enter Tryd.func19, Tryd.ntmps19
    go_wp2_with (go_at_call 27; refine (refIs_any _ _).mono ?_; rw [hr.out]; rintro e w' ⟨rfl, hw⟩; subst hw)
    go_returns
    exact ⟨rfl, Below.refl _ _⟩
  · go_enter Tryd.func19, Tryd.ntmps19
    go_wp2_with (go_at_call 27; refine (refIs_any _ _).mono ?_; rw [hr.out]; rintro e w' ⟨rfl, hw⟩; subst hw)
    go_returns
    exact ⟨rfl, Below.refl _ _⟩

/-- the loop of Total: E is 0 and all numbers are right, or E is 2 and one is not -/
theorem refTotal_loop (a : Option Addr) (n cap : Nat) (l : List Int) (b rule S R E : Int) (w : World) (hn : n = l.length) (hv : Ins w (.slice a n cap) l) (hr : isRuleB rule = true) (hd : isDivB b = true) (h : n ≤ 64)
    (hE : (E = 0 ∧ l.all isAm = true ∧ totQ l b rule = S ∧ totR l b rule = R) ∨ (E = 2 ∧ l.all isAm = false ∧ S = 0 ∧ R = 0)) :
    Calls Tryd.prog 19 #[.slice a n cap, .int .i64 b, .int .i64 rule] w fun e w' => e = .returned (.tuple #[.int .i64 S, .int .i64 R, .int .i64 E]) ∧ Below w.heap.size w w' := by
  have HR := Lib.hid hr
  have HD := Lib.hid hd
  have HV := Lib.hid hv
  have HN := Lib.hid hn
  have HE := Lib.hid hE
  obtain ⟨b0, b1⟩ := (isDivB_iff b).1 hd
  clear hr hd hv hn hE
  go_enter Tryd.func19, Tryd.ntmps19
  go_wp2_with (go_at_call 27; refine (refIs_any _ _).mono ?_; rw [HR.out]; rintro e w' ⟨rfl, hw⟩; subst hw)
  go_loopw [9, 10, 11] (fun s t i wr => ∃ k : Nat, k ≤ n ∧ i = .int .i64 k ∧ s = .int .i64 (totQ (l.take k) b rule) ∧ t = .int .i64 (totR (l.take k) b rule) ∧ Hid ((l.take k).all isAm = true) ∧ Hid (Below w.heap.size w wr)) (fun _ _ i _ => n - (intOf i).toNat)
  case atStart => exact ⟨0, Nat.zero_le _, rfl, rfl, rfl, by show _ = _; simp, Below.refl _ _⟩
  case round =>
    obtain ⟨k, hk, rfl, rfl, rfl, ha, hb⟩ := hrel
    have q1 := map_bd (fun x => quoQ x b rule) 128849018880001 (fun x => by have := quo_bd x b rule; omega) (l.take k)
    have q2 := map_bd (fun x => quoR x b rule) 128849018880001 (fun x => by have := quo_bd x b rule; omega) (l.take k)
    have hlen : (l.take k).length ≤ 64 := by have := List.length_take_le k l; omega
    have Q1 : -8246337208320064 ≤ totQ (l.take k) b rule ∧ totQ (l.take k) b rule ≤ 8246337208320064 := by unfold totQ; omega
    have Q2 : -8246337208320064 ≤ totR (l.take k) b rule ∧ totR (l.take k) b rule ≤ 8246337208320064 := by unfold totR; omega
    obtain ⟨x1, x2⟩ := Q1
    obtain ⟨x3, x4⟩ := Q2
    clear q1 q2 hlen
    by_cases hlt : k < n
    · have hkz : k < l.length := by rw [← HN.out]; exact hlt
      obtain ⟨ad', cap', hveq, _, hin⟩ := HV.out.below hb.out
      have hcell : ∃ b off, a = some ⟨b, off, none⟩ ∧ wr.cell? ⟨b, off + k, none⟩ = some (.int .i64 (l.getD k 0)) := by
        simp only [Value.slice.injEq] at hveq
        rcases hin with hin | ⟨b, off, e, _, hc⟩
        · omega
        · exact ⟨b, off, by rw [hveq.1, e], hc k hkz⟩
      clear hveq hin ad' cap'
      obtain ⟨g, off, rfl, hcell⟩ := hcell
      have HS := Lib.hid (show totQ (l.take (k + 1)) b rule = totQ (l.take k) b rule + quoQ (l.getD k 0) b rule from map_take_succ (fun x => quoQ x b rule) l k hkz)
      have HT := Lib.hid (show totR (l.take (k + 1)) b rule = totR (l.take k) b rule + quoR (l.getD k 0) b rule from map_take_succ (fun x => quoR x b rule) l k hkz)
      have HA := Lib.hid (all_take_succ l k hkz)
      have HF := Lib.hid (all_false_at l k hkz)
      have HQ := Lib.hid (refQuotient_any (l.getD k 0) b rule)
      obtain ⟨y1, y2, y3, y4⟩ := quo_bd (l.getD k 0) b rule
      have hz : Hid (isAm (l.getD k 0) = true → quoE (l.getD k 0) b rule = 0) := by
        intro hz
        have := (isAm_iff _).1 hz
        unfold quoE; rw [HR.out, if_pos rfl, if_pos ⟨by omega, by omega, HD.out⟩]
      have hz2 : Hid (128849018880000 < l.getD k 0 → quoE (l.getD k 0) b rule = 2) := by
        intro hz
        unfold quoE; rw [HR.out, if_pos rfl, if_neg (by omega)]
      clear hkz
      generalize l.getD k 0 = z at *
      generalize totQ (l.take k) b rule = s at *
      generalize totR (l.take k) b rule = t at *
      generalize quoQ z b rule = q at *
      generalize quoR z b rule = r at *
      generalize quoE z b rule = x at *
      by_cases hz0 : z < 0
      · have hbad := HF.out (by rw [isAm_not]; omega)
        obtain ⟨rfl, _, rfl, rfl⟩ : E = 2 ∧ l.all isAm = false ∧ S = 0 ∧ R = 0 := by
          rcases HE.out with g | g
          · rw [g.2.1] at hbad; cases hbad
          · exact g
        clear hbad HE
        go_wp2
        go_returns
        exact ⟨rfl, hb.out⟩
      · by_cases hz1 : 128849018880000 < z
        · have hbad := HF.out (by rw [isAm_not]; omega)
          obtain ⟨rfl, _, rfl, rfl⟩ : E = 2 ∧ l.all isAm = false ∧ S = 0 ∧ R = 0 := by
            rcases HE.out with g | g
            · rw [g.2.1] at hbad; cases hbad
            · exact g
          clear hbad HE
          go_wp2
          go_returns
          exact ⟨rfl, hb.out⟩
        · have hg : isAm z = true := by rw [isAm_iff]; omega
          obtain rfl : x = 0 := hz.out hg
          have HG := Lib.hid hg; clear hg
          go_wp2_with fail
          refine (HQ.out _).mono ?_
          rintro e w2 ⟨rfl, h2⟩
          have HB := Lib.hid (bel_trans hb.out h2); clear h2
          go_wp2
          go_roundw
          case rel => exact ⟨k + 1, by omega, by go_num, by rw [HS.out], by rw [HT.out], by show _ = _; rw [HA.out, ha.out, HG.out]; rfl, HB⟩
          case measure => simp [intOf]; omega
    · obtain rfl : k = n := by omega
      have HTk : Hid (l.take k = l) := by show _ = _; exact List.take_of_length_le (by have := HN.out; omega)
      have hall := ha.out
      rw [HTk.out] at hall
      obtain ⟨rfl, _, e1, e2⟩ : E = 0 ∧ l.all isAm = true ∧ totQ l b rule = S ∧ totR l b rule = R := by
        rcases HE.out with g | g
        · exact g
        · rw [g.2.1] at hall; cases hall
      have E1 := Lib.hid e1
      have E2 := Lib.hid e2
      clear e1 e2 hall HE
      go_wp2
      go_returns
      rw [HTk.out, E1.out, E2.out]
      exact ⟨rfl, hb.out⟩

theorem refTotal_any (v : Value) (l : List Int) (b rule : Int) (w : World) (hv : Ins w v l) :
    Calls Tryd.prog 19 #[v, .int .i64 b, .int .i64 rule] w fun e w' => e = .returned (.tuple #[.int .i64 (totS l b rule), .int .i64 (totX l b rule), .int .i64 (totE l b rule)]) ∧ Below w.heap.size w w' := by
  unfold totS totX
  cases hr : isRuleB rule with
  | false =>
    have e : totE l b rule = 1 := by unfold totE; rw [hr]; rfl
    rw [e]; exact refTotal_rule v b rule w hr
  | true =>
    have hv0 := hv
    obtain ⟨ad, cap, rfl, hl, _⟩ := hv0
    by_cases h64 : 64 < l.length
    · have e : totE l b rule = 8 := by unfold totE; rw [hr, if_pos rfl, if_pos h64]
      rw [e]; exact refTotal_many ad _ cap b rule w hr h64 hl
    · cases hd : isDivB b with
      | false =>
        have e : totE l b rule = 2 := by unfold totE; rw [hr, if_pos rfl, if_neg h64, hd]; rfl
        rw [e]; exact refTotal_div ad _ cap b rule w hr (by have := isDivB_iff b; rw [hd] at this; simp at this; omega) (by omega)
      | true =>
        cases ha : l.all isAm with
        | true =>
          have e : totE l b rule = 0 := by unfold totE; rw [hr, if_pos rfl, if_neg h64, hd, ha]; rfl
          rw [e]; exact refTotal_loop ad _ cap l b rule _ _ 0 w rfl hv hr hd (by omega) (.inl ⟨rfl, ha, rfl, rfl⟩)
        | false =>
          have e : totE l b rule = 2 := by unfold totE; rw [hr, if_pos rfl, if_neg h64, hd, ha]; rfl
          rw [e]; exact refTotal_loop ad _ cap l b rule 0 0 2 w rfl hv hr hd (by omega) (.inr ⟨rfl, ha, rfl, rfl⟩)


end Go.Proofs.YtlpngfngdigchaaDoor
