/- Texts that the proofs of this seat share, one behind the other: Quo, TW, Math2, Math3, Rq, TM, TS, TC, TD, GE, GF, GG, GH, GI, GJ, GK, GL, GM, GT, RXC, RXD. -/
import Derived.Test.YtbaiekoedmhhaaaDoorM1
import Derived.RegionTactic
import Derived.ChangeAlike
import Derived.Test.YtbaiekoedmhhaaaDoorRows
import Derived.Lib.LaidTab
import Derived.OneCell
import Derived.Lib.Hide
import Derived.BigQuiet
import Derived.Test.YtbaiekoedmhhaaaDoorShelfR
import Derived.Deep.QuietTactic
import Derived.ProofKit
import Derived.OpenShut
import Derived.Lib.SmallJoins
import Derived.Deep.RegionHeld3
import Derived.Deep.RegionLaw

set_option linter.unusedVariables false
set_option linter.unusedSimpArgs false

/- Package rounding: Quotient, Step, Product. -/
namespace Go.Proofs.YtbaiekoedmhhaaaDoor
open Go.RowKit

def roundQ (rule q r b : Int) : Int := if moreB rule q r b then q + 1 else q
def roundR (rule q r b : Int) : Int := if moreB rule q r b then r - b else r
def isRuleB (rule : Int) : Bool := decide (1 ≤ rule) && decide (rule ≤ 4)
def isDivB (b : Int) : Bool := decide (1 ≤ b) && decide (b ≤ 128849018880000)
theorem isRuleB_iff (n : Int) : isRuleB n = true ↔ 1 ≤ n ∧ n ≤ 4 := by simp [isRuleB]
theorem isDivB_iff (n : Int) : isDivB n = true ↔ 1 ≤ n ∧ n ≤ 128849018880000 := by simp [isDivB]

theorem round_any (rule q r b : Int) (w : World) (h1 : 1 ≤ rule) (h2 : rule ≤ 4) (q0 : -9223372036854775808 ≤ q) (q1 : q < 9223372036854775807) (hr0 : 0 ≤ r) (hb1 : b ≤ 9223372036854775807) (hlt : r < b) :
    Calls Tryd.prog 57 #[dvn q r b, .int .i64 rule] w fun e w' => e = .returned (.tuple #[.int .i64 (roundQ rule q r b), .int .i64 (roundR rule q r b)]) ∧ Below w.heap.size w w' := by
  have h : rule = 1 ∨ rule = 2 ∨ rule = 3 ∨ rule = 4 := by omega
  rcases h with rfl | rfl | rfl | rfl
  · have e : moreB 1 q r b = false := rfl
    unfold roundQ roundR; rw [e]
    exact round1_false q r b w q0 q1 hr0 hb1 hlt rfl
  · have e : moreB 2 q r b = decide (0 < r) := rfl
    unfold roundQ roundR; rw [e]
    cases ht : decide (0 < r) with
    | true => exact round2_true q r b w q0 q1 hr0 hb1 hlt ht
    | false => exact round2_false q r b w q0 q1 hr0 hb1 hlt ht
  · have e : moreB 3 q r b = nearB r b true := rfl
    unfold roundQ roundR; rw [e]
    cases ht : nearB r b true with
    | true => exact round3_true q r b w q0 q1 hr0 hb1 hlt ht
    | false => exact round3_false q r b w q0 q1 hr0 hb1 hlt ht
  · have e : moreB 4 q r b = nearB r b (q.tmod 2 != 0) := rfl
    unfold roundQ roundR; rw [e]
    cases ht : nearB r b (q.tmod 2 != 0) with
    | true => exact round4_true q r b w q0 q1 hr0 hb1 hlt ht
    | false => exact round4_false q r b w q0 q1 hr0 hb1 hlt ht

theorem isRule_any (n : Int) (w : World) :
    Calls Tryd.prog 55 #[.int .i64 n] w fun e w' => e = .returned (.bool (isRuleB n)) ∧ w = w' := by
  go_enter Tryd.func55, Tryd.ntmps55
  go_wp2
  all_goals go_ret
  all_goals (refine ⟨ret_bool ?_, rfl⟩; unfold isRuleB; grind)
/-- Go's division towards 0, turned into the one down -/
theorem tdiv_down (a b : Int) (hb : 0 < b) : -b < a.tmod b ∧ a.tmod b < b ∧
    ((0 ≤ a.tmod b ∧ a.tdiv b = a / b ∧ a.tmod b = a % b) ∨ (a.tmod b < 0 ∧ a.tdiv b - 1 = a / b ∧ a.tmod b + b = a % b)) := by
  have e := Int.tmod_add_mul_tdiv a b
  have lt := Int.tmod_lt_of_pos a hb
  have gt : -b < a.tmod b := by
    have := Int.tmod_lt_of_pos (-a) hb
    rw [Int.neg_tmod] at this; omega
  refine ⟨gt, lt, ?_⟩
  by_cases h : 0 ≤ a.tmod b
  · left
    have u := (Int.ediv_emod_unique (a := a) (b := b) (r := a.tmod b) (q := a.tdiv b) hb).2 ⟨e, h, lt⟩
    exact ⟨h, u.1.symm, u.2.symm⟩
  · right
    have u := (Int.ediv_emod_unique (a := a) (b := b) (r := a.tmod b + b) (q := a.tdiv b - 1) hb).2 ⟨by rw [Int.mul_sub]; omega, by omega, by omega⟩
    exact ⟨by omega, u.1.symm, u.2.symm⟩

theorem div_bd (a b : Int) (hb : 1 ≤ b) (h0 : -128849018880000 ≤ a) (h1 : a ≤ 128849018880000) : -128849018880000 ≤ a / b ∧ a / b ≤ 128849018880000 := by
  constructor
  · apply Int.le_ediv_of_mul_le (by omega)
    omega
  · have : a / b < 128849018880001 := by
      apply Int.ediv_lt_of_lt_mul (by omega)
      omega
    omega

/-- what Quotient returns -/
def quoE (a b rule : Int) : Int := if isRuleB rule then (if -128849018880000 ≤ a ∧ a ≤ 128849018880000 ∧ isDivB b = true then 0 else 2) else 1
def quoQ (a b rule : Int) : Int := if quoE a b rule = 0 then roundQ rule (a / b) (a % b) b else 0
def quoR (a b rule : Int) : Int := if quoE a b rule = 0 then roundR rule (a / b) (a % b) b else 0

theorem quoE_zero {a b rule : Int} (h : quoE a b rule = 0) : (1 ≤ rule ∧ rule ≤ 4) ∧ -128849018880000 ≤ a ∧ a ≤ 128849018880000 ∧ 1 ≤ b ∧ b ≤ 128849018880000 := by
  unfold quoE at h
  split at h
  · rename_i h1
    split at h
    · rename_i h2
      have := (isRuleB_iff rule).1 h1
      have := (isDivB_iff b).1 h2.2.2
      omega
    · omega
  · omega

theorem moreB_bd (rule q r b : Int) (hr0 : 0 ≤ r) (hlt : r < b) (h : moreB rule q r b = true) : 0 < r := by
  unfold moreB nearB at h
  split at h
  · cases h
  · split at h
    · simpa using h
    · split at h
      · simp at h; omega
      · simp at h; omega

theorem quo_bd (a b rule : Int) : -128849018880001 ≤ quoQ a b rule ∧ quoQ a b rule ≤ 128849018880001 ∧ -128849018880000 ≤ quoR a b rule ∧ quoR a b rule ≤ 128849018880000 := by
  unfold quoQ quoR
  by_cases h : quoE a b rule = 0
  · rw [if_pos h, if_pos h]
    obtain ⟨⟨r0, r1⟩, a0, a1, b0, b1⟩ := quoE_zero h
    have bd := div_bd a b b0 a0 a1
    have m0 := Int.emod_nonneg a (show b ≠ 0 by omega)
    have m1 := Int.emod_lt_of_pos a (show 0 < b by omega)
    unfold roundQ roundR
    split <;> omega
  · rw [if_neg h, if_neg h]; omega

/-- a quotient times its divisor is no more than twice an amount -/
theorem quo_mul (a b rule : Int) : -257698037760000 ≤ quoQ a b rule * b ∧ quoQ a b rule * b ≤ 257698037760000 := by
  unfold quoQ
  by_cases h : quoE a b rule = 0
  · rw [if_pos h]
    obtain ⟨⟨r0, r1⟩, a0, a1, b0, b1⟩ := quoE_zero h
    have m0 := Int.emod_nonneg a (show b ≠ 0 by omega)
    have m1 := Int.emod_lt_of_pos a (show 0 < b by omega)
    have e := Int.emod_add_mul_ediv a b
    rw [Int.mul_comm] at e
    unfold roundQ
    split
    · rw [Int.add_mul]; omega
    · omega
  · rw [if_neg h]; omega


/-- what Product returns -/
def prodE (a b c rule : Int) : Int :=
  if isRuleB rule then (if ofE a b c = 0 then (if roundQ rule (ofQ a b c) (ofR a b c) c ≤ 128849018880000 then 0 else 15) else ofE a b c) else 1
def prodQ (a b c rule : Int) : Int := if prodE a b c rule = 0 then roundQ rule (ofQ a b c) (ofR a b c) c else 0

theorem product_rule (a b c rule : Int) (w : World) (hr : Hid (isRuleB rule = false)) :
    Calls Tryd.prog 52 #[.int .i64 a, .int .i64 b, .int .i64 c, .int .i64 rule] w fun e w' => e = .returned (.tuple #[.int .i64 0, .int .i64 1]) ∧ Below w.heap.size w w' := by
  go_enter Tryd.func52, Tryd.ntmps52
  go_wp2_with (go_at_call 55; refine (isRule_any _ _).mono ?_; rw [hr.out]; rintro e w' ⟨rfl, rfl⟩)
  go_returns
  exact ⟨rfl, Below.refl _ _⟩
theorem product_err (a b c rule x : Int) (w : World) (hr : Hid (isRuleB rule = true)) (hx : (x != 0) = true) (q r : Int)
    (HOf : Hid (∀ W, Calls Tryd.prog 56 #[.int .i64 a, .int .i64 b, .int .i64 c] W fun e w' => e = .returned (.tuple #[.int .i64 q, .int .i64 r, .int .i64 x]) ∧ Below W.heap.size W w')) :
    Calls Tryd.prog 52 #[.int .i64 a, .int .i64 b, .int .i64 c, .int .i64 rule] w fun e w' => e = .returned (.tuple #[.int .i64 0, .int .i64 x]) ∧ Below w.heap.size w w' := by
  go_enter Tryd.func52, Tryd.ntmps52
  go_wp2_with (go_at_call 55; refine (isRule_any _ _).mono ?_; rw [hr.out]; rintro e w' ⟨rfl, rfl⟩)
  refine (HOf.out _).mono ?_
  rintro e w1 ⟨rfl, hb⟩
  have HB := Lib.hid hb; clear hb
  go_wp2
  go_returns
  exact ⟨rfl, HB.out⟩
theorem product_ok (a b c rule q r Q R : Int) (w : World) (hr : Hid (isRuleB rule = true)) (hq : Q ≤ 128849018880000)
    (HOf : Hid (∀ W, Calls Tryd.prog 56 #[.int .i64 a, .int .i64 b, .int .i64 c] W fun e w' => e = .returned (.tuple #[.int .i64 q, .int .i64 r, .int .i64 0]) ∧ Below W.heap.size W w'))
    (HR : Hid (∀ W, Calls Tryd.prog 57 #[dvn q r c, .int .i64 rule] W fun e w' => e = .returned (.tuple #[.int .i64 Q, .int .i64 R]) ∧ Below W.heap.size W w')) :
    Calls Tryd.prog 52 #[.int .i64 a, .int .i64 b, .int .i64 c, .int .i64 rule] w fun e w' => e = .returned (.tuple #[.int .i64 Q, .int .i64 0]) ∧ Below w.heap.size w w' := by
  go_enter Tryd.func52, Tryd.ntmps52
  go_wp2_with (go_at_call 55; refine (isRule_any _ _).mono ?_; rw [hr.out]; rintro e w' ⟨rfl, rfl⟩)
  refine (HOf.out _).mono ?_
  rintro e w1 ⟨rfl, hb⟩
  have HB := Lib.hid hb; clear hb
  go_wp2_with fail
  refine (HR.out _).mono ?_
  rintro e w2 ⟨rfl, hb⟩
  replace HB := Lib.hid (bel_trans HB.out hb); clear hb
  go_wp2
  go_returns
  exact ⟨rfl, HB.out⟩
theorem product_limit (a b c rule q r Q R : Int) (w : World) (hr : Hid (isRuleB rule = true)) (hq : 128849018880000 < Q)
    (HOf : Hid (∀ W, Calls Tryd.prog 56 #[.int .i64 a, .int .i64 b, .int .i64 c] W fun e w' => e = .returned (.tuple #[.int .i64 q, .int .i64 r, .int .i64 0]) ∧ Below W.heap.size W w'))
    (HR : Hid (∀ W, Calls Tryd.prog 57 #[dvn q r c, .int .i64 rule] W fun e w' => e = .returned (.tuple #[.int .i64 Q, .int .i64 R]) ∧ Below W.heap.size W w')) :
    Calls Tryd.prog 52 #[.int .i64 a, .int .i64 b, .int .i64 c, .int .i64 rule] w fun e w' => e = .returned (.tuple #[.int .i64 0, .int .i64 15]) ∧ Below w.heap.size w w' := by
  go_enter Tryd.func52, Tryd.ntmps52
  go_wp2_with (go_at_call 55; refine (isRule_any _ _).mono ?_; rw [hr.out]; rintro e w' ⟨rfl, rfl⟩)
  refine (HOf.out _).mono ?_
  rintro e w1 ⟨rfl, hb⟩
  have HB := Lib.hid hb; clear hb
  go_wp2_with fail
  refine (HR.out _).mono ?_
  rintro e w2 ⟨rfl, hb⟩
  replace HB := Lib.hid (bel_trans HB.out hb); clear hb
  go_wp2
  go_returns
  exact ⟨rfl, HB.out⟩

theorem ofE_zero {a b c : Int} (h : ofE a b c = 0) : (0 ≤ a ∧ a ≤ 128849018880000) ∧ (0 ≤ b ∧ b ≤ 128849018880000) ∧ 1 ≤ c ∧ c ≤ 128849018880000 ∧ ofQ a b c = a * b / c ∧ ofR a b c = a * b % c ∧ 0 ≤ a * b / c ∧ a * b / c ≤ 128849018880000 ∧ 0 ≤ a * b % c ∧ a * b % c < c := by
  have e1 : ofQ a b c = a * b / c := by unfold ofQ; rw [if_pos h]
  have e2 : ofR a b c = a * b % c := by unfold ofR; rw [if_pos h]
  unfold ofE at h
  split at h
  · rename_i h1
    simp only [Bool.and_eq_true, isAm_iff] at h1
    split at h
    · omega
    · split at h
      · rename_i hc hq
        exact ⟨h1.1.1, h1.1.2, by omega, by omega, e1, e2, Int.ediv_nonneg (Int.mul_nonneg h1.1.1.1 h1.1.2.1) h1.2.1, hq, Int.emod_nonneg _ hc, Int.emod_lt_of_pos _ (by omega)⟩
      · omega
  · omega

theorem product_any (a b c rule : Int) (w : World) :
    Calls Tryd.prog 52 #[.int .i64 a, .int .i64 b, .int .i64 c, .int .i64 rule] w fun e w' => e = .returned (.tuple #[.int .i64 (prodQ a b c rule), .int .i64 (prodE a b c rule)]) ∧ Below w.heap.size w w' := by
  unfold prodQ
  cases hr : isRuleB rule with
  | false =>
    have e : prodE a b c rule = 1 := by unfold prodE; rw [hr]; rfl
    rw [e]; exact product_rule a b c rule w hr
  | true =>
    by_cases ho : ofE a b c = 0
    · obtain ⟨r0, r1⟩ := (isRuleB_iff rule).1 hr
      obtain ⟨p1, p2, p3, p4, p5, p6, p7, p8, p9, p10⟩ := ofE_zero ho
      have HR : ∀ W, Calls Tryd.prog 57 #[dvn (ofQ a b c) (ofR a b c) c, .int .i64 rule] W fun e w' => e = .returned (.tuple #[.int .i64 (roundQ rule (ofQ a b c) (ofR a b c) c), .int .i64 (roundR rule (ofQ a b c) (ofR a b c) c)]) ∧ Below W.heap.size W w' :=
        fun W => round_any rule _ _ c W r0 r1 (by omega) (by omega) (by omega) (by omega) (by omega)
      have HO : ∀ W, Calls Tryd.prog 56 #[.int .i64 a, .int .i64 b, .int .i64 c] W fun e w' => e = .returned (.tuple #[.int .i64 (ofQ a b c), .int .i64 (ofR a b c), .int .i64 0]) ∧ Below W.heap.size W w' :=
        fun W => by have := of_any a b c W; rwa [ho] at this
      by_cases hq : roundQ rule (ofQ a b c) (ofR a b c) c ≤ 128849018880000
      · have e : prodE a b c rule = 0 := by unfold prodE; rw [hr, if_pos rfl, if_pos ho, if_pos hq]
        rw [e]; exact product_ok a b c rule _ _ _ _ w hr hq HO HR
      · have e : prodE a b c rule = 15 := by unfold prodE; rw [hr, if_pos rfl, if_pos ho, if_neg hq]
        rw [e]; exact product_limit a b c rule _ _ _ _ w hr (by omega) HO HR
    · have e : prodE a b c rule = ofE a b c := by unfold prodE; rw [hr, if_pos rfl, if_neg ho]
      rw [e, if_neg ho]; exact product_err a b c rule _ w hr (bneq ho) _ _ (fun W => of_any a b c W)

end Go.Proofs.YtbaiekoedmhhaaaDoor

/- Package rounding: the table of words, and Word. -/
namespace Go.Proofs.YtbaiekoedmhhaaaDoor
open Go.RowKit

/-! ### the words of the rules: a package-level table -/
abbrev str (l : List UInt8) : Value := .string ⟨l.toArray⟩
def wordsL : List (List UInt8) := [[], [100, 111, 119, 110], [117, 112], [104, 97, 108, 102, 45, 117, 112], [104, 97, 108, 102, 45, 101, 118, 101, 110]]

/-- the table holds the words -/
def WordsIs (w : World) : Prop := 0 < w.heap.size ∧ ∀ i, i < 5 → w.cell? ⟨0, i, none⟩ = some (str (wordsL.getD i []))

theorem WordsIs.below {w w' : World} (h : WordsIs w) (hb : Below w.heap.size w w') : WordsIs w' :=
  ⟨Nat.lt_of_lt_of_le h.1 hb.size, fun i hi => by rw [(bcell hb).1 0 i h.1]; exact h.2 i hi⟩
theorem WordsIs.alloc {w : World} (h : WordsIs w) (o : Obj) : WordsIs (w.alloc o) := h.below (bel_alloc (Below.refl _ _))

theorem strs_of_elems {H : Type} {enc : TypeId × Value → H} {P : Program} {w : World} {base : Nat} {spare : Nat → Bool} {held : Bool} {e : TypeId} (he : P.underlying e = some .string) (hC : P.cellsOf e = 1)
    (m : Nat) : ∀ (cs : List Value) (xs : List (DataW H × List MemPlace)) (ls : List (List UInt8)), cs.length = xs.length → xs.map (·.1) = ls.map (fun l => DataW.lit (.string l)) → (∀ i, i < xs.length → DataW.trod enc P w base spare held m e ((cs.drop (i * P.cellsOf e)).take (P.cellsOf e)) = xs[i]?) →
      cs = ls.map str
  | [], xs, ls, hl, hm, _ => by
    have : xs = [] := List.length_eq_zero_iff.1 (by simpa using hl.symm)
    subst this
    cases ls with
    | nil => rfl
    | cons _ _ => simp at hm
  | c :: cs, [], _, h, _, _ => by simp at h
  | c :: cs, x :: xs, [], _, hm, _ => by simp at hm
  | c :: cs, x :: xs, l :: ls, hl, hm, h => by
    have h0 := h 0 (by simp)
    rw [hC] at h0
    simp only [Nat.zero_mul, List.drop_zero, List.take_succ_cons, List.take_zero, List.getElem?_cons_zero] at h0
    obtain ⟨s, e0, hx, _⟩ := DataW.trod_string he h0
    simp only [List.cons.injEq, and_true] at e0
    subst e0
    simp only [List.map_cons, List.cons.injEq] at hm
    have hs : s.data.toList = l := by
      have := hm.1
      rw [hx] at this
      simpa using this
    have ih := strs_of_elems he hC m cs xs ls (by simpa using hl) hm.2 (fun i hi => by
      have := h (i + 1) (by simp; omega)
      rw [hC] at this ⊢
      simpa using this)
    rw [List.map_cons, ← ih, ← hs]

theorem gWords : Tryd.prog.globalNamed "spile/rounding.words" = some 0 := by kernel_rfl
theorem gWordsType : (Tryd.prog.globals[0]?).map (·.type) = some 100 := by kernel_rfl

theorem words_of {W : World} (h : laidMetH Tryd.prog [("spile/rounding.words", Rows.laid_spile_rounding_words)] W) : WordsIs W := by
  obtain ⟨ps, ⟨g', t', cs, fuel, p, q, hg', ht', hvar, hd, _, _⟩, _⟩ := h
  obtain rfl := Option.some.inj (gWords.symm.trans hg')
  obtain rfl := Option.some.inj (gWordsType.symm.trans ht')
  obtain ⟨xs, m, _, hx, hl, hl2, hel⟩ := DataW.trod_array Tryd.underlying100 hd
  have hcs := strs_of_elems Tryd.underlying9 (by kernel_rfl) m cs.toList xs wordsL (by rw [hl, hl2]; kernel_rfl) (by
    have := congrArg Prod.fst hx
    simp only [Rows.laid_spile_rounding_words] at this
    simpa [wordsL] using this.symm) (fun i hi => hel i (by omega))
  have hcell := World.var?_cell gWords hvar
  have c0 := hcell 0
  have e : cs = (wordsL.map str).toArray := by rw [← hcs]
  refine ⟨World.block_lt_of_cell? W ⟨0, 0, none⟩ (u := str []) (by rw [c0, e]; rfl), fun i hi => ?_⟩
  rw [hcell i, e]
  match i, hi with
  | 0, _ => rfl
  | 1, _ => rfl
  | 2, _ => rfl
  | 3, _ => rfl
  | 4, _ => rfl

/-- the word of a rule -/
def wordOf (rule : Int) : List UInt8 := if isRuleB rule then wordsL.getD rule.toNat [] else []

theorem word_bad (rule : Int) (w : World) (hr : Hid (isRuleB rule = false)) :
    Calls Tryd.prog 58 #[.int .i64 rule] w fun e w' => e = .returned (str []) ∧ Below w.heap.size w w' := by
  go_enter Tryd.func58, Tryd.ntmps58
  go_wp2_with (go_at_call 55; refine (isRule_any _ _).mono ?_; rw [hr.out]; rintro e w' ⟨rfl, rfl⟩)
  go_ret
  exact ⟨rfl, Below.refl _ _⟩
theorem word_good (k : Nat) (v : Value) (w : World) (h1 : 1 ≤ k) (h2 : k ≤ 4) (hr : Hid (isRuleB k = true)) (hc : w.cell? ⟨0, k, none⟩ = some v) :
    Calls Tryd.prog 58 #[.int .i64 k] w fun e w' => e = .returned v ∧ Below w.heap.size w w' := by
  go_enter Tryd.func58, Tryd.ntmps58
  go_wp2_with (go_at_call 55; refine (isRule_any _ _).mono ?_; rw [hr.out]; rintro e w' ⟨rfl, rfl⟩)
  go_ret
  exact ⟨rfl, Below.refl _ _⟩
theorem word_any (rule : Int) (w : World) (hw : WordsIs w) :
    Calls Tryd.prog 58 #[.int .i64 rule] w fun e w' => e = .returned (str (wordOf rule)) ∧ Below w.heap.size w w' := by
  unfold wordOf
  cases hr : isRuleB rule with
  | false => exact word_bad rule w hr
  | true =>
    obtain ⟨r0, r1⟩ := (isRuleB_iff rule).1 hr
    obtain ⟨k, rfl⟩ := Int.eq_ofNat_of_zero_le (show 0 ≤ rule by omega)
    rw [Int.toNat_natCast]
    exact word_good k _ w (by omega) (by omega) hr (hw.2 k (by omega))

end Go.Proofs.YtbaiekoedmhhaaaDoor

/- What follows from the definition of a rounded quotient. -/
namespace Go.Proofs.YtbaiekoedmhhaaaDoor

theorem tmod2_iff (q : Int) : q.tmod 2 = 0 ↔ q % 2 = 0 := by
  constructor
  · intro h
    exact Int.emod_eq_zero_of_dvd (Int.dvd_of_tmod_eq_zero h)
  · intro h
    exact Int.tmod_eq_zero_of_dvd (Int.dvd_of_emod_eq_zero h)
theorem tmod2_ne (q : Int) : (q.tmod 2 != 0) = decide (q % 2 = 1) := by
  rw [Bool.eq_iff_iff, bne_iff_ne, ne_eq, tmod2_iff, decide_eq_true_eq]; omega

/-- a quotient and its rest -/
structure Near (a b rule q r : Int) : Prop where
  sum : q * b + r = a
  lo : -b < r
  hi : r < b
  down : rule = 1 → 0 ≤ r
  up : rule = 2 → r ≤ 0
  half : rule = 3 → 2 * r < b ∧ -b ≤ 2 * r
  even : rule = 4 → 2 * r ≤ b ∧ -b ≤ 2 * r ∧ (2 * r = b ∨ 2 * r = -b → q % 2 = 0)

theorem near_of (a b rule : Int) (h : quoE a b rule = 0) : Near a b rule (quoQ a b rule) (quoR a b rule) := by
  obtain ⟨⟨r0, r1⟩, a0, a1, b0, b1⟩ := quoE_zero h
  have m0 := Int.emod_nonneg a (show b ≠ 0 by omega)
  have m1 := Int.emod_lt_of_pos a (show 0 < b by omega)
  have e := Int.emod_add_mul_ediv a b
  unfold quoQ quoR
  rw [if_pos h, if_pos h, Int.mul_comm] at *
  generalize a / b = q at *
  generalize a % b = r at *
  unfold roundQ roundR
  have hr : rule = 1 ∨ rule = 2 ∨ rule = 3 ∨ rule = 4 := by omega
  rcases hr with rfl | rfl | rfl | rfl
  · have : moreB 1 q r b = false := rfl
    rw [this]
    exact ⟨by first | omega | (simp; done) | (simp; omega), by first | omega | (simp; done) | (simp; omega), by first | omega | (simp; done) | (simp; omega), by first | omega | (simp; done) | (simp; omega), by omega, by omega, by omega⟩
  · have : moreB 2 q r b = decide (0 < r) := rfl
    rw [this]
    by_cases hm : 0 < r
    · rw [decide_eq_true hm]
      simp only [if_true]
      exact ⟨by rw [Int.add_mul]; omega, by omega, by omega, by omega, by omega, by omega, by omega⟩
    · rw [decide_eq_false hm]
      exact ⟨by first | omega | (simp; done) | (simp; omega), by first | omega | (simp; done) | (simp; omega), by first | omega | (simp; done) | (simp; omega), by first | omega | (simp; done) | (simp; omega), by first | omega | (simp; done) | (simp; omega), by omega, by omega⟩
  · have : moreB 3 q r b = nearB r b true := rfl
    rw [this]
    by_cases hm : b ≤ 2 * r
    · rw [show nearB r b true = true by unfold nearB; rw [Bool.and_true, Bool.or_eq_true, decide_eq_true_eq, decide_eq_true_eq]; omega]
      simp only [if_true]
      exact ⟨by rw [Int.add_mul]; omega, by omega, by omega, by omega, by omega, by omega, by omega⟩
    · rw [show nearB r b true = false by unfold nearB; rw [Bool.and_true, Bool.or_eq_false_iff, decide_eq_false_iff_not, decide_eq_false_iff_not]; omega]
      exact ⟨by first | omega | (simp; done) | (simp; omega), by first | omega | (simp; done) | (simp; omega), by first | omega | (simp; done) | (simp; omega), by omega, by omega, by first | omega | (simp; done) | (simp; omega), by omega⟩
  · have : moreB 4 q r b = nearB r b (q.tmod 2 != 0) := rfl
    rw [this, tmod2_ne]
    by_cases hm : b < 2 * r ∨ b = 2 * r ∧ q % 2 = 1
    · rw [show nearB r b (decide (q % 2 = 1)) = true by unfold nearB; rw [Bool.or_eq_true, Bool.and_eq_true, decide_eq_true_eq, decide_eq_true_eq, decide_eq_true_eq]; omega]
      simp only [if_true]
      exact ⟨by rw [Int.add_mul]; omega, by omega, by omega, by omega, by omega, by omega, by omega⟩
    · rw [show nearB r b (decide (q % 2 = 1)) = false by unfold nearB; rw [Bool.or_eq_false_iff, Bool.and_eq_false_iff, decide_eq_false_iff_not, decide_eq_false_iff_not, decide_eq_false_iff_not]; omega]
      simp only [Bool.false_eq_true, if_false]
      exact ⟨by omega, by omega, by omega, by omega, by omega, by omega, by omega⟩

end Go.Proofs.YtbaiekoedmhhaaaDoor

/- The order of rounded quotients. -/
namespace Go.Proofs.YtbaiekoedmhhaaaDoor

theorem mul_small (k b t : Int) (h : k * b + t = 0) (h1 : -b < t) (h2 : t < b) : k = 0 := by
  by_cases h0 : 0 < k
  · have := Int.mul_le_mul_of_nonneg_right (show 1 ≤ k by omega) (show 0 ≤ b by omega)
    omega
  · by_cases h3 : k < 0
    · have := Int.mul_le_mul_of_nonneg_right (show k ≤ -1 by omega) (show 0 ≤ b by omega)
      omega
    · omega

theorem quoE_rule {a b rule : Int} (h : quoE a b rule = 0) (n : Int) (hn : 1 ≤ n ∧ n ≤ 4) : quoE a b n = 0 := by
  obtain ⟨_, a0, a1, b0, b1⟩ := quoE_zero h
  unfold quoE; rw [(isRuleB_iff n).2 hn, if_pos rfl, if_pos ⟨a0, a1, (isDivB_iff b).2 ⟨b0, b1⟩⟩]

theorem roundQ_or (rule q r b : Int) (h : 0 ≤ r ∧ r < b) : roundQ rule q r b = q ∨ (0 < r ∧ roundQ rule q r b = q + 1) := by
  unfold roundQ
  split
  · rename_i hm
    exact .inr ⟨moreB_bd rule q r b h.1 h.2 hm, rfl⟩
  · exact .inl rfl

theorem nearB_mono (r s b : Int) (t : Bool) (h : r ≤ s) (hm : nearB r b t = true) : nearB s b t = true := by
  unfold nearB at *
  rw [Bool.or_eq_true, Bool.and_eq_true, decide_eq_true_eq, decide_eq_true_eq] at *
  by_cases h1 : b - s < s
  · exact .inl h1
  · rcases hm with hm | hm
    · omega
    · exact .inr ⟨by omega, hm.2⟩

theorem moreB_mono (rule q r s b : Int) (h0 : 1 ≤ rule ∧ rule ≤ 4) (h : r ≤ s) (hm : moreB rule q r b = true) : moreB rule q s b = true := by
  have hr : rule = 1 ∨ rule = 2 ∨ rule = 3 ∨ rule = 4 := by omega
  rcases hr with rfl | rfl | rfl | rfl
  · exact hm
  · have e : ∀ x, moreB 2 q x b = decide (0 < x) := fun x => rfl
    rw [e, decide_eq_true_eq] at *; omega
  · have e : ∀ x, moreB 3 q x b = nearB x b true := fun x => rfl
    rw [e] at *; exact nearB_mono r s b _ h hm
  · have e : ∀ x, moreB 4 q x b = nearB x b (q.tmod 2 != 0) := fun x => rfl
    rw [e] at *; exact nearB_mono r s b _ h hm

theorem quoQ_mono (a c b rule : Int) (h : a ≤ c) (h1 : quoE a b rule = 0) (h2 : quoE c b rule = 0) : quoQ a b rule ≤ quoQ c b rule := by
  obtain ⟨hr, a0, a1, b0, b1⟩ := quoE_zero h1
  have e1 := Int.emod_add_mul_ediv a b
  have e2 := Int.emod_add_mul_ediv c b
  have m0 := Int.emod_nonneg a (show b ≠ 0 by omega)
  have m1 := Int.emod_lt_of_pos a (show 0 < b by omega)
  have m2 := Int.emod_nonneg c (show b ≠ 0 by omega)
  have m3 := Int.emod_lt_of_pos c (show 0 < b by omega)
  have hle : a / b ≤ c / b := Int.ediv_le_ediv (by omega) h
  unfold quoQ
  rw [if_pos h1, if_pos h2]
  generalize a / b = q at *
  generalize a % b = r at *
  generalize c / b = q' at *
  generalize c % b = r' at *
  have o1 := roundQ_or rule q r b ⟨m0, m1⟩
  have o2 := roundQ_or rule q' r' b ⟨m2, m3⟩
  by_cases hlt : q < q'
  · omega
  · obtain rfl : q = q' := by omega
    unfold roundQ
    cases hm : moreB rule q r b with
    | false => simp only [Bool.false_eq_true, if_false]; split <;> omega
    | true => rw [moreB_mono rule q r r' b hr (by omega) hm]; exact Int.le_refl _

/-- how the rules compare -/
theorem quoQ_rules (a b rule : Int) (h : quoE a b rule = 0) :
    quoQ a b 1 ≤ quoQ a b rule ∧ quoQ a b rule ≤ quoQ a b 2 ∧ quoQ a b 2 - quoQ a b 1 ≤ 1 ∧ quoQ (-a) b 2 = -quoQ a b 1 ∧ quoE (-a) b 2 = 0 := by
  have g1 := quoE_rule h 1 (by omega)
  have g2 := quoE_rule h 2 (by omega)
  obtain ⟨hr, a0, a1, b0, b1⟩ := quoE_zero h
  have g3 : quoE (-a) b 2 = 0 := by
    unfold quoE; rw [(isRuleB_iff 2).2 (by omega), if_pos rfl, if_pos ⟨by omega, by omega, (isDivB_iff b).2 ⟨b0, b1⟩⟩]
  have n1 := near_of a b 1 g1
  have n3 := near_of (-a) b 2 g3
  have m0 := Int.emod_nonneg a (show b ≠ 0 by omega)
  have m1 := Int.emod_lt_of_pos a (show 0 < b by omega)
  have o := roundQ_or rule (a / b) (a % b) b ⟨m0, m1⟩
  have f1 : quoQ a b 1 = a / b := by unfold quoQ; rw [if_pos g1]; rfl
  have f2 : quoQ a b 2 = if 0 < a % b then a / b + 1 else a / b := by
    unfold quoQ; rw [if_pos g2]
    have e : moreB 2 (a / b) (a % b) b = decide (0 < a % b) := rfl
    unfold roundQ; rw [e]
    simp
  have f3 : quoQ a b rule = roundQ rule (a / b) (a % b) b := by unfold quoQ; rw [if_pos h]
  refine ⟨?_, ?_, ?_, ?_, g3⟩
  · rw [f1, f3]; omega
  · rw [f2, f3]; split <;> omega
  · rw [f1, f2]; split <;> omega
  · have s1 := n1.sum
    have s3 := n3.sum
    have d1 := n1.down rfl
    have d3 := n3.up rfl
    have l1 := n1.hi
    have l3 := n3.lo
    have := mul_small (quoQ (-a) b 2 + quoQ a b 1) b (quoR (-a) b 2 + quoR a b 1) (by rw [Int.add_mul]; omega) (by omega) (by omega)
    omega

/-- a multiple of the step stays -/
theorem quoQ_again (k b rule : Int) (h : quoE (k * b) b rule = 0) : quoQ (k * b) b rule = k := by
  have n := near_of (k * b) b rule h
  have s := n.sum
  have lo := n.lo
  have hi := n.hi
  generalize quoQ (k * b) b rule = q at *
  generalize quoR (k * b) b rule = r at *
  have := mul_small (q - k) b r (by rw [Int.sub_mul]; omega) lo hi
  omega

theorem quoE_cases (a b rule : Int) (hb : 1 ≤ b ∧ b ≤ 128849018880000) :
    quoE a b rule = 0 ∨ (quoE a b rule = 1 ∧ (rule < 1 ∨ 4 < rule)) ∨ (quoE a b rule = 2 ∧ (128849018880000 < a ∨ a < -128849018880000)) := by
  unfold quoE
  cases hr : isRuleB rule with
  | false =>
    right; left
    refine ⟨rfl, ?_⟩
    have : ¬ (1 ≤ rule ∧ rule ≤ 4) := fun h => by rw [(isRuleB_iff rule).2 h] at hr; cases hr
    omega
  | true =>
    rw [if_pos rfl]
    by_cases hg : -128849018880000 ≤ a ∧ a ≤ 128849018880000 ∧ isDivB b = true
    · rw [if_pos hg]; exact .inl rfl
    · rw [if_neg hg]
      rw [isDivB_iff] at hg
      exact .inr (.inr ⟨rfl, by omega⟩)

/-! ### totals -/
theorem near_sums (l : List Int) (b rule : Int) (h : ∀ x ∈ l, quoE x b rule = 0) : (l.map fun x => quoQ x b rule).sum * b + (l.map fun x => quoR x b rule).sum = l.sum := by
  induction l with
  | nil => simp
  | cons x l ih =>
    have := (near_of x b rule (h x (by simp))).sum
    have i := ih (fun y hy => h y (by simp [hy]))
    simp only [List.map_cons, List.sum_cons]
    rw [Int.add_mul]; omega
theorem rests_sign (l : List Int) (b rule : Int) (h : ∀ x ∈ l, quoE x b rule = 0) :
    (rule = 1 → 0 ≤ (l.map fun x => quoR x b rule).sum) ∧ (rule = 2 → (l.map fun x => quoR x b rule).sum ≤ 0) := by
  induction l with
  | nil => simp
  | cons x l ih =>
    have n := near_of x b rule (h x (by simp))
    have i := ih (fun y hy => h y (by simp [hy]))
    have n1 := n.down
    have n2 := n.up
    simp only [List.map_cons, List.sum_cons]
    exact ⟨fun e => by have := n1 e; have := i.1 e; omega, fun e => by have := n2 e; have := i.2 e; omega⟩

end Go.Proofs.YtbaiekoedmhhaaaDoor

/- Rounded quotients of any numbers, as ratios: scaling, order, nearness. -/
namespace Go.Proofs.YtbaiekoedmhhaaaDoor

/-- n divided by b, rounded by a rule -/
def rq (rule n b : Int) : Int := roundQ rule (n / b) (n % b) b

theorem scale_div (n b k : Int) (hb : 0 < b) (hk : 0 < k) : n * k / (b * k) = n / b ∧ n * k % (b * k) = n % b * k := by
  have e1 : n * k / (b * k) = n / b := Int.mul_ediv_mul_of_pos_left n b hk
  refine ⟨e1, ?_⟩
  have h1 := Int.emod_add_mul_ediv (n * k) (b * k)
  have h2 := Int.emod_add_mul_ediv n b
  rw [e1] at h1
  have h3 : (n % b + b * (n / b)) * k = n * k := by rw [h2]
  rw [Int.add_mul] at h3
  have h4 : b * (n / b) * k = b * k * (n / b) := by rw [Int.mul_assoc, Int.mul_comm (n / b) k, ← Int.mul_assoc]
  rw [h4] at h3
  omega
theorem nearB_scale (r b k : Int) (t : Bool) (hk : 0 < k) : nearB (r * k) (b * k) t = nearB r b t := by
  have e : b * k - r * k = (b - r) * k := (Int.sub_mul b r k).symm
  unfold nearB
  rw [e]
  have h1 : decide ((b - r) * k < r * k) = decide (b - r < r) := by
    by_cases h : b - r < r
    · rw [decide_eq_true h, decide_eq_true (Int.mul_lt_mul_of_pos_right h hk)]
    · rw [decide_eq_false h, decide_eq_false (by
        have := Int.mul_le_mul_of_nonneg_right (show r ≤ b - r by omega) (show 0 ≤ k by omega)
        omega)]
  have h2 : decide ((b - r) * k = r * k) = decide (b - r = r) := by
    by_cases h : b - r = r
    · rw [decide_eq_true h, decide_eq_true (by rw [h])]
    · rw [decide_eq_false h, decide_eq_false (fun hc => h (Int.eq_of_mul_eq_mul_right (by omega) hc))]
  rw [h1, h2]
theorem moreB_scale (rule q r b k : Int) (h0 : 1 ≤ rule ∧ rule ≤ 4) (hk : 0 < k) : moreB rule q (r * k) (b * k) = moreB rule q r b := by
  have hr : rule = 1 ∨ rule = 2 ∨ rule = 3 ∨ rule = 4 := by omega
  rcases hr with rfl | rfl | rfl | rfl
  · rfl
  · show decide (0 < r * k) = decide (0 < r)
    by_cases h : 0 < r
    · rw [decide_eq_true h, decide_eq_true (Int.mul_pos h hk)]
    · rw [decide_eq_false h, decide_eq_false (by
        have := Int.mul_le_mul_of_nonneg_right (show r ≤ 0 by omega) (show 0 ≤ k by omega)
        omega)]
  · exact nearB_scale r b k _ hk
  · exact nearB_scale r b k _ hk
theorem rq_scale (rule n b k : Int) (h0 : 1 ≤ rule ∧ rule ≤ 4) (hb : 0 < b) (hk : 0 < k) : rq rule (n * k) (b * k) = rq rule n b := by
  obtain ⟨e1, e2⟩ := scale_div n b k hb hk
  unfold rq roundQ
  rw [e1, e2, moreB_scale rule _ _ b k h0 hk]
theorem rq_mono1 (rule a c b : Int) (hr : 1 ≤ rule ∧ rule ≤ 4) (hb : 0 < b) (h : a ≤ c) : rq rule a b ≤ rq rule c b := by
  have e1 := Int.emod_add_mul_ediv a b
  have e2 := Int.emod_add_mul_ediv c b
  have m0 := Int.emod_nonneg a (show b ≠ 0 by omega)
  have m1 := Int.emod_lt_of_pos a hb
  have m2 := Int.emod_nonneg c (show b ≠ 0 by omega)
  have m3 := Int.emod_lt_of_pos c hb
  have hle : a / b ≤ c / b := Int.ediv_le_ediv hb h
  unfold rq
  generalize a / b = q at *
  generalize a % b = r at *
  generalize c / b = q' at *
  generalize c % b = r' at *
  have o1 := roundQ_or rule q r b ⟨m0, m1⟩
  have o2 := roundQ_or rule q' r' b ⟨m2, m3⟩
  by_cases hlt : q < q'
  · omega
  · obtain rfl : q = q' := by omega
    unfold roundQ
    cases hm : moreB rule q r b with
    | false => simp only [Bool.false_eq_true, if_false]; split <;> omega
    | true => rw [moreB_mono rule q r r' b hr (by omega) hm]; exact Int.le_refl _
/-- m / b ≤ n / c as ratios -/
theorem rq_mono (rule m b n c : Int) (hr : 1 ≤ rule ∧ rule ≤ 4) (hb : 0 < b) (hc : 0 < c) (h : m * c ≤ n * b) : rq rule m b ≤ rq rule n c := by
  rw [← rq_scale rule m b c hr hb hc, ← rq_scale rule n c b hr hc hb, Int.mul_comm c b]
  exact rq_mono1 rule _ _ _ hr (Int.mul_pos hb hc) h
theorem rq_near (rule n b : Int) (hb : 0 < b) : -b < rq rule n b * b - n ∧ rq rule n b * b - n < b := by
  have e := Int.emod_add_mul_ediv n b
  have m0 := Int.emod_nonneg n (show b ≠ 0 by omega)
  have m1 := Int.emod_lt_of_pos n hb
  rw [Int.mul_comm b] at e
  unfold rq
  rcases roundQ_or rule (n / b) (n % b) b ⟨m0, m1⟩ with h | ⟨h1, h⟩
  · rw [h]; omega
  · rw [h, Int.add_mul]; omega
theorem rq_rules (rule n b : Int) (hb : 0 < b) : rq 1 n b ≤ rq rule n b ∧ rq rule n b ≤ rq 2 n b := by
  have m0 := Int.emod_nonneg n (show b ≠ 0 by omega)
  have m1 := Int.emod_lt_of_pos n hb
  have e1 : rq 1 n b = n / b := by unfold rq roundQ; rw [show moreB 1 (n / b) (n % b) b = false from rfl]; rfl
  have e2 : rq 2 n b = if 0 < n % b then n / b + 1 else n / b := by
    unfold rq roundQ
    rw [show moreB 2 (n / b) (n % b) b = decide (0 < n % b) from rfl]
    by_cases h : 0 < n % b
    · rw [decide_eq_true h, if_pos rfl, if_pos h]
    · rw [decide_eq_false h, if_neg (by simp), if_neg h]
  rw [e1, e2]
  unfold rq
  rcases roundQ_or rule (n / b) (n % b) b ⟨m0, m1⟩ with h | ⟨h1, h⟩
  · rw [h]; split <;> omega
  · rw [h, if_pos h1]; omega
theorem rq_exact (rule k b : Int) (hb : 0 < b) : rq rule (k * b) b = k := by
  obtain ⟨h1, h2⟩ := rq_near rule (k * b) b hb
  have h3 := mul_small (rq rule (k * b) b - k) b (-(rq rule (k * b) b * b - k * b)) (by rw [Int.sub_mul]; omega) (by omega) (by omega)
  omega
theorem rq_nonneg (rule n b : Int) (hr : 1 ≤ rule ∧ rule ≤ 4) (hb : 0 < b) (h : 0 ≤ n) : 0 ≤ rq rule n b := by
  have := rq_mono1 rule (0 * b) n b hr hb (by omega)
  rw [rq_exact rule 0 b hb] at this
  exact this
theorem rq_floor (rule n b : Int) (hb : 0 < b) : n / b ≤ rq rule n b := by
  have m0 := Int.emod_nonneg n (show b ≠ 0 by omega)
  have m1 := Int.emod_lt_of_pos n hb
  unfold rq
  rcases roundQ_or rule (n / b) (n % b) b ⟨m0, m1⟩ with h | ⟨_, h⟩ <;> rw [h] <;> omega

/-- Product, as a rounded ratio -/
theorem prod_is (a b c rule : Int) (hr : 1 ≤ rule ∧ rule ≤ 4) (ha : isAm a = true) (hb : isAm b = true) (hc1 : 1 ≤ c) (hc2 : c ≤ 128849018880000) :
    prodE a b c rule = (if rq rule (a * b) c ≤ 128849018880000 then 0 else 15) ∧ prodQ a b c rule = (if rq rule (a * b) c ≤ 128849018880000 then rq rule (a * b) c else 0) := by
  have hc : isAm c = true := (isAm_iff c).2 ⟨by omega, hc2⟩
  have hE : ofE a b c = if a * b / c ≤ 128849018880000 then 0 else 15 := by
    unfold ofE
    rw [ha, hb, hc]
    simp only [Bool.and_self, if_true]
    rw [if_neg (by omega)]
  have hfl := rq_floor rule (a * b) c (by omega)
  have key : prodE a b c rule = (if rq rule (a * b) c ≤ 128849018880000 then 0 else 15) := by
    unfold prodE
    rw [(isRuleB_iff rule).2 hr, if_pos rfl, hE]
    by_cases h : a * b / c ≤ 128849018880000
    · rw [if_pos h, if_pos rfl]
      have h0 : ofE a b c = 0 := by rw [hE, if_pos h]
      obtain ⟨_, _, _, _, e1, e2, _⟩ := ofE_zero h0
      rw [e1, e2]; rfl
    · rw [if_neg h, if_neg (by omega), if_neg (by omega)]
  refine ⟨key, ?_⟩
  unfold prodQ
  rw [key]
  by_cases h : rq rule (a * b) c ≤ 128849018880000
  · rw [if_pos h, if_pos rfl, if_pos h]
    have hq : a * b / c ≤ 128849018880000 := by omega
    have h0 : ofE a b c = 0 := by rw [hE, if_pos hq]
    obtain ⟨_, _, _, _, e1, e2, _⟩ := ofE_zero h0
    rw [e1, e2]; rfl
  · rw [if_neg h, if_neg (by omega), if_neg h]
end Go.Proofs.YtbaiekoedmhhaaaDoor

/- Plain facts on corrections by heat. -/
namespace Go.Proofs.YtbaiekoedmhhaaaDoor

/-- the factor of a rise at a heat -/
def fac (rise heat : Int) : Int := 10000000 + rise * (heat - 200)
def facB (rise heat : Int) : Bool := decide (0 ≤ rise) && decide (rise ≤ 10000) && decide (-400 ≤ heat) && decide (heat ≤ 600)
theorem facB_iff (rise heat : Int) : facB rise heat = true ↔ (0 ≤ rise ∧ rise ≤ 10000) ∧ -400 ≤ heat ∧ heat ≤ 600 := by
  simp [facB, and_assoc]
theorem fac_bd (rise heat : Int) (h : facB rise heat = true) : 4000000 ≤ fac rise heat ∧ fac rise heat ≤ 14000000 := by
  obtain ⟨⟨h0, h1⟩, h2, h3⟩ := (facB_iff _ _).1 h
  have a1 := Int.mul_le_mul_of_nonneg_left (show heat - 200 ≤ 400 by omega) h0
  have a2 := Int.mul_le_mul_of_nonneg_left (show -600 ≤ heat - 200 by omega) h0
  unfold fac
  omega
theorem fac_mono (rise s t : Int) (h0 : 0 ≤ rise) (h : s ≤ t) : fac rise s ≤ fac rise t := by
  have := Int.mul_le_mul_of_nonneg_left (show s - 200 ≤ t - 200 by omega) h0
  unfold fac; omega
theorem fac_whole (rise heat : Int) (h : heat = 200 ∨ rise = 0) : fac rise heat = 10000000 := by
  unfold fac
  rcases h with rfl | rfl <;> simp

/-- to a heat and back -/
theorem back_at (rule v F : Int) (f0 : 4000000 ≤ F) (f1 : F ≤ 14000000) :
    -4 ≤ rq rule (rq rule (v * F) 10000000 * 10000000) F - v ∧ rq rule (rq rule (v * F) 10000000 * 10000000) F - v ≤ 4 := by
  obtain ⟨a1, a2⟩ := rq_near rule (v * F) 10000000 (by omega)
  obtain ⟨b1, b2⟩ := rq_near rule (rq rule (v * F) 10000000 * 10000000) F (by omega)
  generalize rq rule (rq rule (v * F) 10000000 * 10000000) F = c at *
  generalize rq rule (v * F) 10000000 * 10000000 = m at *
  have e : (c - v) * F = c * F - v * F := Int.sub_mul c v F
  constructor
  · apply Classical.byContradiction
    intro h
    have := Int.mul_le_mul_of_nonneg_right (show c - v ≤ -5 by omega) (show 0 ≤ F by omega)
    omega
  · apply Classical.byContradiction
    intro h
    have := Int.mul_le_mul_of_nonneg_right (show 5 ≤ c - v by omega) (show 0 ≤ F by omega)
    omega
theorem back_to (rule v F : Int) (f0 : 4000000 ≤ F) (f1 : F ≤ 14000000) :
    -3 ≤ rq rule (rq rule (v * 10000000) F * F) 10000000 - v ∧ rq rule (rq rule (v * 10000000) F * F) 10000000 - v ≤ 3 := by
  obtain ⟨a1, a2⟩ := rq_near rule (v * 10000000) F (by omega)
  obtain ⟨b1, b2⟩ := rq_near rule (rq rule (v * 10000000) F * F) 10000000 (by omega)
  generalize rq rule (rq rule (v * 10000000) F * F) 10000000 = c at *
  generalize rq rule (v * 10000000) F * F = m at *
  omega
/-- the order of corrected measures -/
theorem to_order (rule v u F G : Int) (hr : 1 ≤ rule ∧ rule ≤ 4) (hv : 0 ≤ v) (h : v ≤ u) (hF : 0 < F) (hFG : F ≤ G) : rq rule (v * 10000000) G ≤ rq rule (u * 10000000) F := by
  refine rq_mono rule _ _ _ _ hr (by omega) hF ?_
  exact Int.mul_le_mul (by omega) hFG (by omega) (by omega)
theorem at_order (rule v u F G : Int) (hr : 1 ≤ rule ∧ rule ≤ 4) (hv : 0 ≤ v) (h : v ≤ u) (hF : 0 < F) (hFG : F ≤ G) : rq rule (v * F) 10000000 ≤ rq rule (u * G) 10000000 :=
  rq_mono1 rule _ _ _ hr (by omega) (Int.mul_le_mul h hFG (by omega) (by omega))
/-- what lies within bounds lies, corrected, within the corrected bounds -/
theorem to_within (rule v lo hi F Fl Fh : Int) (hr : 1 ≤ rule ∧ rule ≤ 4) (h0 : 0 ≤ lo) (h1 : lo ≤ v) (h2 : v ≤ hi) (hF : 0 < Fl) (hl : Fl ≤ F) (hh : F ≤ Fh) :
    rq 1 (lo * 10000000) Fh ≤ rq rule (v * 10000000) F ∧ rq rule (v * 10000000) F ≤ rq 2 (hi * 10000000) Fl := by
  have a := to_order rule lo v F Fh hr h0 h1 (by omega) hh
  have b := to_order rule v hi Fl F hr (by omega) h2 hF hl
  have c := (rq_rules rule (lo * 10000000) Fh (by omega)).1
  have d := (rq_rules rule (hi * 10000000) Fl hF).2
  omega
theorem rq_between (rule s n lo hi : Int) (hr : 1 ≤ rule ∧ rule ≤ 4) (hn : 0 < n) (h1 : lo * n ≤ s) (h2 : s ≤ hi * n) : lo ≤ rq rule s n ∧ rq rule s n ≤ hi := by
  have a := rq_mono1 rule _ _ n hr hn h1
  have b := rq_mono1 rule _ _ n hr hn h2
  rw [rq_exact rule lo n hn] at a
  rw [rq_exact rule hi n hn] at b
  exact ⟨a, b⟩
end Go.Proofs.YtbaiekoedmhhaaaDoor

/- What thermal's functions return, and what follows from it. -/
namespace Go.Proofs.YtbaiekoedmhhaaaDoor

/-- the error of a measure -/
def rdyE (v rise heat rule : Int) : Int := if isRuleB rule = true then (if facB rise heat = true ∧ isAm v = true then 0 else 2) else 1
def faE (rise heat : Int) : Int := if facB rise heat = true then 0 else 2
def faQ (rise heat : Int) : Int := if facB rise heat = true then fac rise heat else 0
def atE (v rise heat rule : Int) : Int := if rdyE v rise heat rule = 0 then prodE v (fac rise heat) 10000000 rule else rdyE v rise heat rule
def atQ (v rise heat rule : Int) : Int := if rdyE v rise heat rule = 0 then prodQ v (fac rise heat) 10000000 rule else 0
def toE (v rise heat rule : Int) : Int := if rdyE v rise heat rule = 0 then prodE v 10000000 (fac rise heat) rule else rdyE v rise heat rule
def toQ (v rise heat rule : Int) : Int := if rdyE v rise heat rule = 0 then prodQ v 10000000 (fac rise heat) rule else 0

theorem rdy_ok {v rise heat rule : Int} (h : rdyE v rise heat rule = 0) : (1 ≤ rule ∧ rule ≤ 4) ∧ facB rise heat = true ∧ (0 ≤ v ∧ v ≤ 128849018880000) := by
  unfold rdyE at h
  split at h
  · rename_i h1
    split at h
    · rename_i h2
      exact ⟨(isRuleB_iff rule).1 h1, h2.1, (isAm_iff v).1 h2.2⟩
    · omega
  · omega
theorem rdy_of {v rise heat rule : Int} (hr : 1 ≤ rule ∧ rule ≤ 4) (hf : facB rise heat = true) (hv : 0 ≤ v ∧ v ≤ 128849018880000) : rdyE v rise heat rule = 0 := by
  unfold rdyE
  rw [if_pos ((isRuleB_iff rule).2 hr), if_pos ⟨hf, (isAm_iff v).2 hv⟩]
theorem rdy_cases (v rise heat rule : Int) : rdyE v rise heat rule = 0 ∨ rdyE v rise heat rule = 1 ∨ rdyE v rise heat rule = 2 := by
  unfold rdyE
  split
  · split
    · exact .inl rfl
    · exact .inr (.inr rfl)
  · exact .inr (.inl rfl)
theorem at_is {v rise heat rule : Int} (h : rdyE v rise heat rule = 0) :
    atE v rise heat rule = (if rq rule (v * fac rise heat) 10000000 ≤ 128849018880000 then 0 else 15) ∧ atQ v rise heat rule = (if rq rule (v * fac rise heat) 10000000 ≤ 128849018880000 then rq rule (v * fac rise heat) 10000000 else 0) := by
  obtain ⟨hr, hf, hv⟩ := rdy_ok h
  have hb := fac_bd _ _ hf
  unfold atE atQ
  rw [if_pos h, if_pos h]
  exact prod_is v (fac rise heat) 10000000 rule hr ((isAm_iff v).2 hv) ((isAm_iff _).2 ⟨by omega, by omega⟩) (by omega) (by omega)
theorem to_is {v rise heat rule : Int} (h : rdyE v rise heat rule = 0) :
    toE v rise heat rule = (if rq rule (v * 10000000) (fac rise heat) ≤ 128849018880000 then 0 else 15) ∧ toQ v rise heat rule = (if rq rule (v * 10000000) (fac rise heat) ≤ 128849018880000 then rq rule (v * 10000000) (fac rise heat) else 0) := by
  obtain ⟨hr, hf, hv⟩ := rdy_ok h
  have hb := fac_bd _ _ hf
  unfold toE toQ
  rw [if_pos h, if_pos h]
  exact prod_is v 10000000 (fac rise heat) rule hr ((isAm_iff v).2 hv) ((isAm_iff _).2 ⟨by omega, by omega⟩) (by omega) (by omega)
theorem at_zero {v rise heat rule : Int} (h : atE v rise heat rule = 0) : rdyE v rise heat rule = 0 ∧ atQ v rise heat rule = rq rule (v * fac rise heat) 10000000 ∧ rq rule (v * fac rise heat) 10000000 ≤ 128849018880000 ∧ 0 ≤ atQ v rise heat rule := by
  have hz : rdyE v rise heat rule = 0 := by
    rcases rdy_cases v rise heat rule with g | g | g
    · exact g
    · unfold atE at h; rw [g, if_neg (by omega)] at h; omega
    · unfold atE at h; rw [g, if_neg (by omega)] at h; omega
  obtain ⟨hr, hf, hv⟩ := rdy_ok hz
  have hb := fac_bd _ _ hf
  obtain ⟨g1, g2⟩ := at_is hz
  rw [h] at g1
  split at g1
  · rename_i hle
    rw [if_pos hle] at g2
    exact ⟨hz, g2, hle, by rw [g2]; exact rq_nonneg rule _ _ hr (by omega) (Int.mul_nonneg hv.1 (by omega))⟩
  · omega
theorem to_zero {v rise heat rule : Int} (h : toE v rise heat rule = 0) : rdyE v rise heat rule = 0 ∧ toQ v rise heat rule = rq rule (v * 10000000) (fac rise heat) ∧ rq rule (v * 10000000) (fac rise heat) ≤ 128849018880000 ∧ 0 ≤ toQ v rise heat rule := by
  have hz : rdyE v rise heat rule = 0 := by
    rcases rdy_cases v rise heat rule with g | g | g
    · exact g
    · unfold toE at h; rw [g, if_neg (by omega)] at h; omega
    · unfold toE at h; rw [g, if_neg (by omega)] at h; omega
  obtain ⟨hr, hf, hv⟩ := rdy_ok hz
  have hb := fac_bd _ _ hf
  obtain ⟨g1, g2⟩ := to_is hz
  rw [h] at g1
  split at g1
  · rename_i hle
    rw [if_pos hle] at g2
    exact ⟨hz, g2, hle, by rw [g2]; exact rq_nonneg rule _ _ hr (by omega) (Int.mul_nonneg hv.1 (by omega))⟩
  · omega
theorem at_none {v rise heat rule : Int} (h : atE v rise heat rule ≠ 0) : atQ v rise heat rule = 0 := by
  by_cases hz : rdyE v rise heat rule = 0
  · obtain ⟨g1, g2⟩ := at_is hz
    by_cases hle : rq rule (v * fac rise heat) 10000000 ≤ 128849018880000
    · rw [if_pos hle] at g1; exact absurd g1 h
    · rw [if_neg hle] at g2; exact g2
  · unfold atQ; rw [if_neg hz]
theorem to_none {v rise heat rule : Int} (h : toE v rise heat rule ≠ 0) : toQ v rise heat rule = 0 := by
  by_cases hz : rdyE v rise heat rule = 0
  · obtain ⟨g1, g2⟩ := to_is hz
    by_cases hle : rq rule (v * 10000000) (fac rise heat) ≤ 128849018880000
    · rw [if_pos hle] at g1; exact absurd g1 h
    · rw [if_neg hle] at g2; exact g2
  · unfold toQ; rw [if_neg hz]

/-- ThermalBack: to a heat, and back -/
theorem th_back1 (v rise heat rule : Int) (h : atE v rise heat rule = 0) :
    (toE (atQ v rise heat rule) rise heat rule = 0 ∧ -4 ≤ toQ (atQ v rise heat rule) rise heat rule - v ∧ toQ (atQ v rise heat rule) rise heat rule - v ≤ 4) ∨ toE (atQ v rise heat rule) rise heat rule = 15 := by
  obtain ⟨hz, e, hle, h0⟩ := at_zero h
  obtain ⟨hr, hf, hv⟩ := rdy_ok hz
  have hb := fac_bd _ _ hf
  have hz2 : rdyE (atQ v rise heat rule) rise heat rule = 0 := rdy_of hr hf ⟨h0, by rw [e]; exact hle⟩
  obtain ⟨g1, g2⟩ := to_is hz2
  rw [g1, g2]
  split
  · left
    have := back_at rule v (fac rise heat) hb.1 hb.2
    rw [e]
    exact ⟨rfl, this.1, this.2⟩
  · exact .inr rfl
theorem th_back2 (v rise heat rule : Int) (h : toE v rise heat rule = 0) :
    (atE (toQ v rise heat rule) rise heat rule = 0 ∧ -3 ≤ atQ (toQ v rise heat rule) rise heat rule - v ∧ atQ (toQ v rise heat rule) rise heat rule - v ≤ 3) ∨ atE (toQ v rise heat rule) rise heat rule = 15 := by
  obtain ⟨hz, e, hle, h0⟩ := to_zero h
  obtain ⟨hr, hf, hv⟩ := rdy_ok hz
  have hb := fac_bd _ _ hf
  have hz2 : rdyE (toQ v rise heat rule) rise heat rule = 0 := rdy_of hr hf ⟨h0, by rw [e]; exact hle⟩
  obtain ⟨g1, g2⟩ := at_is hz2
  rw [g1, g2]
  split
  · left
    have := back_to rule v (fac rise heat) hb.1 hb.2
    rw [e]
    exact ⟨rfl, this.1, this.2⟩
  · exact .inr rfl
theorem th_same (v rise heat rule : Int) (hh : heat = 200 ∨ rise = 0) (h : rdyE v rise heat rule = 0) :
    atE v rise heat rule = 0 ∧ toE v rise heat rule = 0 ∧ atQ v rise heat rule = v ∧ toQ v rise heat rule = v := by
  obtain ⟨hr, hf, hv⟩ := rdy_ok h
  obtain ⟨g1, g2⟩ := at_is h
  obtain ⟨k1, k2⟩ := to_is h
  rw [fac_whole _ _ hh, rq_exact rule v 10000000 (by omega), if_pos hv.2] at g1 g2 k1 k2
  exact ⟨g1, k1, g2, k2⟩

/-- ThermalOrder -/
theorem th_to_heat (v rise s t rule : Int) (hst : s ≤ t) (h1 : toE v rise s rule = 0) (h2 : toE v rise t rule = 0) : toQ v rise t rule ≤ toQ v rise s rule := by
  obtain ⟨hz, e, _⟩ := to_zero h1
  obtain ⟨hz2, e2, _⟩ := to_zero h2
  obtain ⟨hr, hf, hv⟩ := rdy_ok hz
  have hb := fac_bd _ _ hf
  rw [e, e2]
  exact to_order rule v v _ _ hr hv.1 (by omega) (by omega) (fac_mono rise s t ((facB_iff _ _).1 hf).1.1 hst)
theorem th_to_more (v u rise s rule : Int) (hvu : v ≤ u) (h1 : toE v rise s rule = 0) (h2 : toE u rise s rule = 0) : toQ v rise s rule ≤ toQ u rise s rule := by
  obtain ⟨hz, e, _⟩ := to_zero h1
  obtain ⟨hz2, e2, _⟩ := to_zero h2
  obtain ⟨hr, hf, hv⟩ := rdy_ok hz
  have hb := fac_bd _ _ hf
  rw [e, e2]
  exact to_order rule v u _ _ hr hv.1 hvu (by omega) (Int.le_refl _)
theorem th_at_heat (v rise s t rule : Int) (hst : s ≤ t) (h1 : atE v rise s rule = 0) (h2 : atE v rise t rule = 0) : atQ v rise s rule ≤ atQ v rise t rule := by
  obtain ⟨hz, e, _⟩ := at_zero h1
  obtain ⟨hz2, e2, _⟩ := at_zero h2
  obtain ⟨hr, hf, hv⟩ := rdy_ok hz
  have hb := fac_bd _ _ hf
  rw [e, e2]
  exact at_order rule v v _ _ hr hv.1 (by omega) (by omega) (fac_mono rise s t ((facB_iff _ _).1 hf).1.1 hst)
theorem th_at_more (v u rise s rule : Int) (hvu : v ≤ u) (h1 : atE v rise s rule = 0) (h2 : atE u rise s rule = 0) : atQ v rise s rule ≤ atQ u rise s rule := by
  obtain ⟨hz, e, _⟩ := at_zero h1
  obtain ⟨hz2, e2, _⟩ := at_zero h2
  obtain ⟨hr, hf, hv⟩ := rdy_ok hz
  have hb := fac_bd _ _ hf
  rw [e, e2]
  exact at_order rule v u _ _ hr hv.1 hvu (by omega) (Int.le_refl _)

/-! ### bounds -/
/-- the error of Between: v from vl to vh, the heat from hl to hh -/
def btE (vl vh hl hh rise : Int) : Int := if vh < vl ∨ hh < hl then 1 else if rdyE vl rise hl 2 ≠ 0 ∨ rdyE vh rise hh 2 ≠ 0 then 2 else if toE vl rise hh 1 ≠ 0 ∨ toE vh rise hl 2 ≠ 0 then 15 else 0
def btL (vl vh hl hh rise : Int) : Int := if btE vl vh hl hh rise = 0 then toQ vl rise hh 1 else 0
def btH (vl vh hl hh rise : Int) : Int := if btE vl vh hl hh rise = 0 then toQ vh rise hl 2 else 0
theorem bt_zero {vl vh hl hh rise : Int} (h : btE vl vh hl hh rise = 0) : vl ≤ vh ∧ hl ≤ hh ∧ toE vl rise hh 1 = 0 ∧ toE vh rise hl 2 = 0 ∧ btL vl vh hl hh rise = toQ vl rise hh 1 ∧ btH vl vh hl hh rise = toQ vh rise hl 2 := by
  unfold btL btH
  rw [if_pos h, if_pos h]
  unfold btE at h
  split at h
  · omega
  · split at h
    · omega
    · split at h
      · omega
      · rename_i g1 g2 g3
        exact ⟨by omega, by omega, Classical.byContradiction fun hc => g3 (.inl hc), Classical.byContradiction fun hc => g3 (.inr hc), rfl, rfl⟩
/-- ThermalContains -/
theorem th_within (vl vh hl hh rise v t rule : Int) (h : btE vl vh hl hh rise = 0) (hr : 1 ≤ rule ∧ rule ≤ 4) (h1 : vl ≤ v) (h2 : v ≤ vh) (h3 : hl ≤ t) (h4 : t ≤ hh) :
    toE v rise t rule = 0 ∧ btL vl vh hl hh rise ≤ toQ v rise t rule ∧ toQ v rise t rule ≤ btH vl vh hl hh rise := by
  obtain ⟨_, _, z1, z2, e1, e2⟩ := bt_zero h
  obtain ⟨a1, a2, a3, _⟩ := to_zero z1
  obtain ⟨b1, b2, b3, _⟩ := to_zero z2
  obtain ⟨_, hf1, hv1⟩ := rdy_ok a1
  obtain ⟨_, hf2, hv2⟩ := rdy_ok b1
  have f1 := (facB_iff _ _).1 hf1
  have f2 := (facB_iff _ _).1 hf2
  have hf : facB rise t = true := (facB_iff _ _).2 ⟨f1.1, by omega, by omega⟩
  have hz : rdyE v rise t rule = 0 := rdy_of hr hf ⟨by omega, by omega⟩
  have hb := fac_bd _ _ hf2
  obtain ⟨w1, w2⟩ := to_within rule v vl vh (fac rise t) (fac rise hl) (fac rise hh) hr hv1.1 h1 h2 (by omega) (fac_mono rise _ _ f1.1.1 h3) (fac_mono rise _ _ f1.1.1 h4)
  obtain ⟨g1, g2⟩ := to_is hz
  rw [if_pos (by omega)] at g1 g2
  rw [e1, e2, a2, b2, g2]
  exact ⟨g1, w1, w2⟩

/-! ### means -/
def heatB (t : Int) : Bool := decide (-400 ≤ t) && decide (t ≤ 600)
def meE (l : List Int) (rule : Int) : Int := if isRuleB rule = true then (if l.length = 0 then 9 else if 64 < l.length then 8 else if l.all heatB = true then 0 else 2) else 1
def meQ (l : List Int) (rule : Int) : Int := if meE l rule = 0 then quoQ l.sum l.length rule else 0
theorem me_zero {l : List Int} {rule : Int} (h : meE l rule = 0) : (1 ≤ rule ∧ rule ≤ 4) ∧ 1 ≤ l.length ∧ l.length ≤ 64 ∧ (∀ x ∈ l, -400 ≤ x ∧ x ≤ 600) := by
  unfold meE at h
  split at h
  · rename_i hr
    split at h
    · omega
    · split at h
      · omega
      · split at h
        · rename_i g
          rw [List.all_eq_true] at g
          refine ⟨(isRuleB_iff rule).1 hr, by omega, by omega, fun x hx => ?_⟩
          have := g x hx
          simpa [heatB] using this
        · omega
  · omega
theorem sum_between (l : List Int) (lo hi : Int) (h : ∀ x ∈ l, lo ≤ x ∧ x ≤ hi) : lo * l.length ≤ l.sum ∧ l.sum ≤ hi * l.length := by
  induction l with
  | nil => simp
  | cons a l ih =>
    have h1 := h a (.head _)
    have h2 := ih (fun x hx => h x (.tail _ hx))
    rw [List.sum_cons, List.length_cons, Int.natCast_add, Int.mul_add, Int.mul_add]
    simp only [Int.natCast_one, Int.mul_one]
    omega
theorem me_is {l : List Int} {rule : Int} (h : meE l rule = 0) : quoE l.sum l.length rule = 0 ∧ meQ l rule = rq rule l.sum l.length := by
  obtain ⟨hr, n1, n2, hx⟩ := me_zero h
  have hs := sum_between l (-400) 600 hx
  have hq : quoE l.sum l.length rule = 0 := by
    unfold quoE
    rw [if_pos ((isRuleB_iff rule).2 hr), if_pos ⟨by omega, by omega, (isDivB_iff _).2 ⟨by omega, by omega⟩⟩]
  refine ⟨hq, ?_⟩
  unfold meQ
  rw [if_pos h]
  unfold quoQ
  rw [if_pos hq]; rfl
theorem me_between {l : List Int} {rule lo hi : Int} (h : meE l rule = 0) (hx : ∀ x ∈ l, lo ≤ x ∧ x ≤ hi) : lo ≤ meQ l rule ∧ meQ l rule ≤ hi := by
  obtain ⟨hr, n1, n2, _⟩ := me_zero h
  have hs := sum_between l lo hi hx
  rw [(me_is h).2]
  exact rq_between rule _ _ lo hi hr (by omega) hs.1 hs.2
theorem me_reverse (l : List Int) (rule : Int) : meE l.reverse rule = meE l rule ∧ meQ l.reverse rule = meQ l rule := by
  have e : meE l.reverse rule = meE l rule := by unfold meE; rw [List.length_reverse, List.all_reverse]
  refine ⟨e, ?_⟩
  unfold meQ
  rw [e, List.length_reverse, List.sum_reverse]
end Go.Proofs.YtbaiekoedmhhaaaDoor

/- Package thermal: factors and single corrections. -/
namespace Go.Proofs.YtbaiekoedmhhaaaDoor
open Go.RowKit

theorem thWord_core (rule : Int) (l : List UInt8) (B : Bool) (w : World)
    (HW : Hid (∀ W, Below w.heap.size w W → Calls Tryd.prog 58 #[.int .i64 rule] W fun e w' => e = .returned (str l) ∧ Below W.heap.size W w'))
    (h : (l = [] ∧ B = false) ∨ (∃ x r, l = x :: r ∧ B = true)) :
    Calls Tryd.prog 53 #[.int .i64 rule] w fun e w' => e = .returned (.bool B) ∧ Below w.heap.size w w' := by
  rcases h with ⟨rfl, rfl⟩ | ⟨x, r, rfl, rfl⟩
  all_goals
    go_enter Tryd.func53, Tryd.ntmps53
    go_wp2_with fail
    refine (HW.out _ (Below.refl _ _)).mono ?_
    rintro e w1 ⟨rfl, gg⟩
    have X1 := Lib.hid gg; clear gg
    go_wp2
    go_returns
    exact ⟨rfl, X1.out⟩
theorem thRule_any (rule : Int) (w : World) (hw : WordsIs w) :
    Calls Tryd.prog 53 #[.int .i64 rule] w fun e w' => e = .returned (.bool (isRuleB rule)) ∧ Below w.heap.size w w' := by
  refine thWord_core rule (wordOf rule) _ w (fun W h => word_any rule W (hw.below h)) ?_
  unfold wordOf
  cases hr : isRuleB rule with
  | false => exact .inl ⟨rfl, rfl⟩
  | true =>
    right
    have h := (isRuleB_iff rule).1 hr
    have h4 : rule = 1 ∨ rule = 2 ∨ rule = 3 ∨ rule = 4 := by omega
    rcases h4 with rfl | rfl | rfl | rfl
    · exact ⟨_, _, rfl, rfl⟩
    · exact ⟨_, _, rfl, rfl⟩
    · exact ⟨_, _, rfl, rfl⟩
    · exact ⟨_, _, rfl, rfl⟩
theorem thHeat_any (t : Int) (w : World) :
    Calls Tryd.prog 59 #[.int .i64 t] w fun e w' => e = .returned (.bool (heatB t)) ∧ w = w' := by
  go_enter Tryd.func59, Tryd.ntmps59
  go_wp2
  all_goals go_ret
  all_goals (refine ⟨ret_bool ?_, rfl⟩; unfold heatB; grind)
theorem thFactor_any (rise heat : Int) (w : World) :
    Calls Tryd.prog 54 #[.int .i64 rise, .int .i64 heat] w fun e w' => e = .returned (.tuple #[.int .i64 (faQ rise heat), .int .i64 (faE rise heat)]) ∧ w = w' := by
  have HH := Lib.hid (fun W => thHeat_any heat W)
  cases h : facB rise heat with
  | true =>
    have e1 : faQ rise heat = 10000000 + rise * (heat - 200) := by unfold faQ fac; rw [if_pos h]
    have e2 : faE rise heat = 0 := by unfold faE; rw [if_pos h]
    rw [e1, e2]
    obtain ⟨⟨h0, h1⟩, h2, h3⟩ := (facB_iff _ _).1 h
    rw [show heatB heat = true by simp [heatB]; omega] at HH
    have a1 := Int.mul_le_mul_of_nonneg_left (show heat - 200 ≤ 400 by omega) h0
    have a2 := Int.mul_le_mul_of_nonneg_left (show -600 ≤ heat - 200 by omega) h0
    have b1 : rise * (heat - 200) ≤ 4000000 := by omega
    have b2 : -6000000 ≤ rise * (heat - 200) := by omega
    clear e1 e2 h a1 a2
    go_enter Tryd.func54, Tryd.ntmps54
    go_wp2_with fail
    refine (HH.out _).mono ?_
    rintro e w1 ⟨rfl, rfl⟩
    go_wp2
    go_returns
    exact ⟨rfl, rfl⟩
  | false =>
    have e1 : faQ rise heat = 0 := by unfold faQ; rw [if_neg (by rw [h]; simp)]
    have e2 : faE rise heat = 2 := by unfold faE; rw [if_neg (by rw [h]; simp)]
    rw [e1, e2]
    have hn : rise < 0 ∨ (0 ≤ rise ∧ 10000 < rise) ∨ ((0 ≤ rise ∧ rise ≤ 10000) ∧ heatB heat = false) := by
      have h2 : ¬ ((0 ≤ rise ∧ rise ≤ 10000) ∧ -400 ≤ heat ∧ heat ≤ 600) := fun hc => by rw [(facB_iff _ _).2 hc] at h; cases h
      by_cases ha : 0 ≤ rise ∧ rise ≤ 10000
      · right; right
        refine ⟨ha, ?_⟩
        rw [Bool.eq_false_iff]
        intro hc
        simp [heatB] at hc
        omega
      · omega
    clear e1 e2 h
    rcases hn with hn | ⟨hn, hn2⟩ | ⟨⟨hn, hn2⟩, hn3⟩
    · go_enter Tryd.func54, Tryd.ntmps54
      go_wp2
      go_returns
      exact ⟨rfl, rfl⟩
    · go_enter Tryd.func54, Tryd.ntmps54
      go_wp2
      go_returns
      exact ⟨rfl, rfl⟩
    · rw [hn3] at HH
      clear hn3
      go_enter Tryd.func54, Tryd.ntmps54
      go_wp2_with fail
      refine (HH.out _).mono ?_
      rintro e w1 ⟨rfl, rfl⟩
      go_wp2
      go_returns
      exact ⟨rfl, rfl⟩
/-- what ruled returns -/
def ruE (rise heat rule : Int) : Int := if isRuleB rule = true then faE rise heat else 1
def ruQ (rise heat rule : Int) : Int := if isRuleB rule = true then faQ rise heat else 0
theorem thRuled_any (rise heat rule : Int) (w : World) (hw : WordsIs w) :
    Calls Tryd.prog 51 #[.int .i64 rise, .int .i64 heat, .int .i64 rule] w fun e w' => e = .returned (.tuple #[.int .i64 (ruQ rise heat rule), .int .i64 (ruE rise heat rule)]) ∧ Below w.heap.size w w' := by
  have HR := Lib.hid (thRule_any rule w hw)
  have HF := Lib.hid (fun W => thFactor_any rise heat W)
  unfold ruQ ruE
  cases hr : isRuleB rule with
  | false =>
    rw [if_neg (by simp), if_neg (by simp)]
    rw [hr] at HR
    clear hw hr
    go_enter Tryd.func51, Tryd.ntmps51
    go_wp2_with fail
    refine HR.out.mono ?_
    rintro e w1 ⟨rfl, gg⟩
    have X1 := Lib.hid gg; clear gg
    go_wp2
    go_returns
    exact ⟨rfl, X1.out⟩
  | true =>
    rw [if_pos rfl, if_pos rfl]
    rw [hr] at HR
    clear hw hr
    generalize faQ rise heat = Q at *
    generalize faE rise heat = E at *
    go_enter Tryd.func51, Tryd.ntmps51
    go_wp2_with fail
    refine HR.out.mono ?_
    rintro e w1 ⟨rfl, gg⟩
    have X1 := Lib.hid gg; clear gg
    go_wp2_with fail
    refine (HF.out _).mono ?_
    rintro e w2 ⟨rfl, rfl⟩
    go_wp2
    go_returns
    exact ⟨rfl, X1.out⟩

/-- a product whose first factor is no amount -/
theorem prod_am (v b c rule : Int) (hr : isRuleB rule = true) (hv : isAm v = false) : prodE v b c rule = 2 ∧ prodQ v b c rule = 0 ∧ prodE v c b rule = 2 ∧ prodQ v c b rule = 0 := by
  have h1 : ∀ x y, ofE v x y = 2 := fun x y => by unfold ofE; rw [hv]; rfl
  have h2 : ∀ x y, prodE v x y rule = 2 := fun x y => by unfold prodE; rw [hr, if_pos rfl, h1, if_neg (by omega)]
  unfold prodQ
  rw [h2, h2]
  exact ⟨rfl, rfl, rfl, rfl⟩
theorem at_ruled (v rise heat rule : Int) :
    (ruE rise heat rule ≠ 0 ∧ atE v rise heat rule = ruE rise heat rule ∧ atQ v rise heat rule = 0 ∧ toE v rise heat rule = ruE rise heat rule ∧ toQ v rise heat rule = 0) ∨
    (ruE rise heat rule = 0 ∧ ruQ rise heat rule = fac rise heat ∧ atE v rise heat rule = prodE v (fac rise heat) 10000000 rule ∧ atQ v rise heat rule = prodQ v (fac rise heat) 10000000 rule ∧ toE v rise heat rule = prodE v 10000000 (fac rise heat) rule ∧ toQ v rise heat rule = prodQ v 10000000 (fac rise heat) rule) := by
  have hd : rdyE v rise heat rule = if isRuleB rule = true then (if facB rise heat = true ∧ isAm v = true then 0 else 2) else 1 := rfl
  unfold ruE ruQ faE faQ atE atQ toE toQ
  cases hr : isRuleB rule with
  | false =>
    rw [hr, if_neg (by simp)] at hd
    left
    rw [hd]
    exact ⟨by simp, by simp, by simp, by simp, by simp⟩
  | true =>
    rw [hr, if_pos rfl] at hd
    cases hf : facB rise heat with
    | false =>
      rw [hf, if_neg (by simp)] at hd
      left
      rw [hd]
      exact ⟨by simp, by simp, by simp, by simp, by simp⟩
    | true =>
      rw [hf] at hd
      right
      cases hv : isAm v with
      | false =>
        rw [hv, if_neg (by simp)] at hd
        obtain ⟨p1, p2, p3, p4⟩ := prod_am v (fac rise heat) 10000000 rule hr hv
        rw [hd, p1, p2, p3, p4]
        exact ⟨by simp, by simp, by simp, by simp, by simp, by simp⟩
      | true =>
        rw [hv, if_pos (by simp)] at hd
        rw [hd]
        exact ⟨by simp, by simp, by simp, by simp, by simp, by simp⟩

theorem thTo_any (v rise heat rule : Int) (w : World) (hw : WordsIs w) :
    Calls Tryd.prog 49 #[.int .i64 v, .int .i64 rise, .int .i64 heat, .int .i64 rule] w fun e w' => e = .returned (.tuple #[.int .i64 (toQ v rise heat rule), .int .i64 (toE v rise heat rule)]) ∧ Below w.heap.size w w' := by
  have HR := Lib.hid (thRuled_any rise heat rule w hw)
  have HP := Lib.hid (fun W => product_any v 10000000 (fac rise heat) rule W)
  rcases at_ruled v rise heat rule with ⟨h, _, _, e1, e2⟩ | ⟨h, h2, _, _, e1, e2⟩
  · rw [e1, e2]
    have h1 : (ruE rise heat rule == 0) = false := by simpa using h
    have h2 : (ruE rise heat rule != 0) = true := by simpa using h
    generalize ruE rise heat rule = E at *
    clear e1 e2 h hw
    go_enter Tryd.func49, Tryd.ntmps49
    go_wp2_with fail
    refine HR.out.mono ?_
    rintro e w1 ⟨rfl, gg⟩
    have X1 := Lib.hid gg; clear gg
    go_wp2
    go_returns
    exact ⟨rfl, X1.out⟩
  · rw [e1, e2]
    rw [h, h2] at HR
    generalize prodQ v 10000000 (fac rise heat) rule = Q at *
    generalize prodE v 10000000 (fac rise heat) rule = E at *
    generalize fac rise heat = F at *
    clear e1 e2 h h2 hw
    go_enter Tryd.func49, Tryd.ntmps49
    go_wp2_with fail
    refine HR.out.mono ?_
    rintro e w1 ⟨rfl, gg⟩
    have X1 := Lib.hid gg; clear gg
    go_wp2_with fail
    refine (HP.out _).mono ?_
    rintro e w2 ⟨rfl, gg⟩
    replace X1 := Lib.hid (bel_trans X1.out gg); clear gg
    go_wp2
    go_returns
    exact ⟨rfl, X1.out⟩
end Go.Proofs.YtbaiekoedmhhaaaDoor

/- Package thermal: Between. -/
namespace Go.Proofs.YtbaiekoedmhhaaaDoor
open Go.RowKit

/-- a block with one cell -/
def One (b : Nat) (W : World) (x : Value) : Prop := W.cell? ⟨b, 0, none⟩ = some x ∧ W.frozen? ⟨b, 0, none⟩ = false ∧ b < W.heap.size
theorem One.below {b : Nat} {W W' : World} {x : Value} (h : One b W x) (hb : Below W.heap.size W W') : One b W' x := by
  obtain ⟨h0, h1, h2⟩ := h
  exact ⟨by rw [(bcell hb).1 _ _ h2]; exact h0, by rw [(bcell hb).2 _ _ h2]; exact h1, Nat.lt_of_lt_of_le h2 hb.size⟩
theorem One.alloc {b : Nat} {W : World} {x : Value} (h : One b W x) (o : Obj) : One b (W.alloc o) x := h.below (bel_alloc (Below.refl _ _))
theorem One.new (W : World) (x : Value) (T : TypeId) : One W.heap.size (W.alloc (.cells #[x] T)) x := ⟨by simp [go_sem], by simp [go_sem], by simp⟩
theorem One.set {b : Nat} {W : World} {x : Value} (h : One b W x) (z : Value) : One b (W.setCell ⟨b, 0, none⟩ z) z := by
  obtain ⟨h0, h1, h2⟩ := h
  exact ⟨World.cell?_setCell_same _ _ _ h0, by rw [World.frozen?_setCell]; exact h1, by simpa [World.setCell] using h2⟩
theorem One.other {b : Nat} {W : World} {x : Value} (h : One b W x) (p : Addr) (hp : p.block ≠ b) (z : Value) : One b (W.setCell p z) x := by
  obtain ⟨h0, h1, h2⟩ := h
  exact ⟨by rw [World.cell?_setCell_other _ _ _ _ (by intro e; apply hp; rw [e])]; exact h0, by rw [World.frozen?_setCell]; exact h1, by simpa [World.setCell] using h2⟩

/-- what the closure does to the error so far -/
def EndW (bf : Nat) (E : Int) (c : Bool) (w w' : World) : Prop := ∃ w1, Below w.heap.size w w1 ∧ w' = if c = true then w1.setCell ⟨bf, 0, none⟩ (.int .i64 E) else w1
theorem EndW.keep {bf : Nat} {E : Int} {c : Bool} {w w' : World} (h : EndW bf E c w w') {F : Int} (hf : One bf w (.int .i64 F)) :
    One bf w' (.int .i64 (if c = true then E else F)) ∧ (∀ b x y, b ≠ bf → Two b w x y → Two b w' x y) ∧ (∀ b x, b ≠ bf → One b w x → One b w' x) ∧ (∀ n, n ≤ bf → n ≤ w.heap.size → Below n w w') := by
  obtain ⟨u, hb, rfl⟩ := h
  cases c with
  | true =>
    rw [if_pos rfl, if_pos rfl]
    exact ⟨(hf.below hb).set _, fun b x y hn t => (t.below hb).other _ (Ne.symm hn) _, fun b x hn t => (t.below hb).other _ (Ne.symm hn) _, fun n h1 h2 => (hb.mono h2).setCell h1 _⟩
  | false =>
    rw [if_neg (by simp), if_neg (by simp)]
    exact ⟨hf.below hb, fun b x y hn t => t.below hb, fun b x hn t => t.below hb, fun n h1 h2 => hb.mono h2⟩

theorem end_core (v heat rule rise F Q E : Int) (c : Bool) (br bf : Nat) (w : World)
    (HT : Hid (Calls Tryd.prog 49 #[.int .i64 v, .int .i64 rise, .int .i64 heat, .int .i64 rule] w fun e w' => e = .returned (.tuple #[.int .i64 Q, .int .i64 E]) ∧ Below w.heap.size w w'))
    (h1 : w.cell? ⟨br, 0, none⟩ = some (.int .i64 rise)) (h2 : Hid (One bf w (.int .i64 F))) (hc : ((F == 0) = true ∧ c = true) ∨ ((F == 0) = false ∧ (E == 2) = c)) :
    Calls Tryd.prog 48 #[.int .i64 v, .int .i64 heat, .int .i64 rule, .pointer (some ⟨br, 0, none⟩), .pointer (some ⟨bf, 0, none⟩)] w fun e w' => e = .returned (.int .i64 Q) ∧ EndW bf E c w w' := by
  rcases hc with ⟨hc, rfl⟩ | ⟨hc, hd⟩
  · go_enter Tryd.func48, Tryd.ntmps48
    go_wp2_with fail
    refine HT.out.mono ?_
    rintro e w1 ⟨rfl, gg⟩
    obtain ⟨g0, g1, g2⟩ := h2.out.below gg
    have X1 := Lib.hid gg; clear gg
    go_wp2
    go_returns
    exact ⟨rfl, w1, X1.out, by simp⟩
  · cases c with
    | true =>
      go_enter Tryd.func48, Tryd.ntmps48
      go_wp2_with fail
      refine HT.out.mono ?_
      rintro e w1 ⟨rfl, gg⟩
      obtain ⟨g0, g1, g2⟩ := h2.out.below gg
      have X1 := Lib.hid gg; clear gg
      go_wp2
      go_returns
      exact ⟨rfl, w1, X1.out, by simp⟩
    | false =>
      go_enter Tryd.func48, Tryd.ntmps48
      go_wp2_with fail
      refine HT.out.mono ?_
      rintro e w1 ⟨rfl, gg⟩
      obtain ⟨g0, g1, g2⟩ := h2.out.below gg
      have X1 := Lib.hid gg; clear gg
      go_wp2
      go_returns
      exact ⟨rfl, w1, X1.out, by simp⟩
/-- what the closure needs, and does: F is the error so far -/
def EndIs (v heat rule rise Q E : Int) : Prop := ∀ (F : Int) (br bf : Nat) (w : World), WordsIs w → One br w (.int .i64 rise) → One bf w (.int .i64 F) →
    Calls Tryd.prog 48 #[.int .i64 v, .int .i64 heat, .int .i64 rule, .pointer (some ⟨br, 0, none⟩), .pointer (some ⟨bf, 0, none⟩)] w fun e w' => e = .returned (.int .i64 Q) ∧ EndW bf E (F == 0 || E == 2) w w'
theorem end_any (v heat rule rise : Int) : EndIs v heat rule rise (toQ v rise heat rule) (toE v rise heat rule) := by
  intro F br bf w hw h1 h2
  refine end_core v heat rule rise F _ _ _ br bf w (thTo_any v rise heat rule w hw) h1.1 h2 ?_
  cases h : (F == 0) with
  | true => exact .inl ⟨rfl, rfl⟩
  | false => exact .inr ⟨rfl, rfl⟩

set_option maxHeartbeats 4000000 in
theorem between_order (vl vh hl hh rise : Int) (w : World) (h : vh < vl ∨ (vl ≤ vh ∧ hh < hl)) :
    Calls Tryd.prog 41 #[.agg #[.int .i64 vl, .int .i64 vh], .agg #[.int .i64 hl, .int .i64 hh], .int .i64 rise] w fun e w' => e = .returned (.tuple #[.agg #[.int .i64 0, .int .i64 0], .int .i64 1]) ∧ Below w.heap.size w w' := by
  rcases h with h | ⟨h, h2⟩
  all_goals
    go_enter Tryd.func41, Tryd.ntmps41
    go_wp2
    refine bodyPost_ret (v := .tuple #[.agg #[.int .i64 0, .int .i64 0], .int .i64 1]) (by simp [results, Tryd.results41, go_sem]) rfl ?_
    exact ⟨rfl, bel_alloc (bel_alloc (bel_alloc (bel_alloc (Below.refl _ _))))⟩
set_option maxHeartbeats 4000000 in
theorem between_core (vl vh hl hh rise Q1 E1 Q2 E2 X A B : Int) (w : World) (hw : Hid (WordsIs w)) (h : vl ≤ vh) (h2 : hl ≤ hh) (HE1 : Hid (EndIs vl hh 1 rise Q1 E1)) (HE2 : Hid (EndIs vh hl 2 rise Q2 E2))
    (hX : Hid ((if (E1 == 0 || E2 == 2) = true then E2 else E1) = X)) (hR : Hid (((X != 0) = true ∧ A = 0 ∧ B = 0) ∨ ((X != 0) = false ∧ X = 0 ∧ A = Q1 ∧ B = Q2))) :
    Calls Tryd.prog 41 #[.agg #[.int .i64 vl, .int .i64 vh], .agg #[.int .i64 hl, .int .i64 hh], .int .i64 rise] w fun e w' => e = .returned (.tuple #[.agg #[.int .i64 A, .int .i64 B], .int .i64 X]) ∧ Below w.heap.size w w' := by
  have TV := Lib.hid (((((Two.new w (.int .i64 vl) (.int .i64 vh) 25).alloc (.cells #[.int .i64 hl, .int .i64 hh] 25)).alloc (.cells #[.int .i64 rise] 3)).alloc (.cells #[.int .i64 0, .int .i64 0] 25)).alloc (.cells #[.int .i64 0] 26))
  have TH := Lib.hid ((((Two.new (w.alloc (.cells #[.int .i64 vl, .int .i64 vh] 25)) (.int .i64 hl) (.int .i64 hh) 25).alloc (.cells #[.int .i64 rise] 3)).alloc (.cells #[.int .i64 0, .int .i64 0] 25)).alloc (.cells #[.int .i64 0] 26))
  have OR := Lib.hid (((One.new ((w.alloc (.cells #[.int .i64 vl, .int .i64 vh] 25)).alloc (.cells #[.int .i64 hl, .int .i64 hh] 25)) (.int .i64 rise) 3).alloc (.cells #[.int .i64 0, .int .i64 0] 25)).alloc (.cells #[.int .i64 0] 26))
  have TZ := Lib.hid ((Two.new (((w.alloc (.cells #[.int .i64 vl, .int .i64 vh] 25)).alloc (.cells #[.int .i64 hl, .int .i64 hh] 25)).alloc (.cells #[.int .i64 rise] 3)) (.int .i64 0) (.int .i64 0) 25).alloc (.cells #[.int .i64 0] 26))
  have OF := Lib.hid (One.new ((((w.alloc (.cells #[.int .i64 vl, .int .i64 vh] 25)).alloc (.cells #[.int .i64 hl, .int .i64 hh] 25)).alloc (.cells #[.int .i64 rise] 3)).alloc (.cells #[.int .i64 0, .int .i64 0] 25)) (.int .i64 0) 26)
  simp only [World.size_alloc] at TH TZ OR OF
  have B5 := Lib.hid (bel_alloc (bel_alloc (bel_alloc (bel_alloc (bel_alloc (Below.refl (((((w.alloc (.cells #[.int .i64 vl, .int .i64 vh] 25)).alloc (.cells #[.int .i64 hl, .int .i64 hh] 25)).alloc (.cells #[.int .i64 rise] 3)).alloc (.cells #[.int .i64 0, .int .i64 0] 25)).alloc (.cells #[.int .i64 0] 26)).heap.size _))))))
  have hmf : ∀ (fn : Fn) (first cap : Array Value) (w : World), (Instr.makeFunc fn first cap).run Tryd.prog w = .ok (.func fn first cap) w := fun _ _ _ _ => rfl
  go_enter Tryd.func41, Tryd.ntmps41
  go_wp2_with fail
  have K1 := Lib.hid ((HE1.out 0 _ _ _ (((((hw.out.alloc (.cells #[.int .i64 vl, .int .i64 vh] 25)).alloc (.cells #[.int .i64 hl, .int .i64 hh] 25)).alloc (.cells #[.int .i64 rise] 3)).alloc (.cells #[.int .i64 0, .int .i64 0] 25)).alloc (.cells #[.int .i64 0] 26)) OR.out OF.out))
  refine K1.out.mono ?_
  rintro e w1 ⟨rfl, gg⟩
  obtain ⟨o1, o2, o3, o4⟩ := gg.keep OF.out
  rw [if_pos (by rfl)] at o1
  replace OF := Lib.hid o1
  replace OR := Lib.hid (o3 _ _ (by omega) OR.out)
  replace TV := Lib.hid (o2 _ _ _ (by omega) TV.out)
  replace TH := Lib.hid (o2 _ _ _ (by omega) TH.out)
  replace TZ := Lib.hid (o2 _ _ _ (by omega) TZ.out)
  have X1 := Lib.hid (B5.out.trans (o4 w.heap.size (by omega) (by simp only [World.size_alloc]; omega)))
  have Z1 := Lib.hid (show w.heap.size + 1 + 1 + 1 + 1 < w1.heap.size from OF.out.2.2)
  clear o1 o2 o3 o4 gg B5 K1
  replace hw := Lib.hid (hw.out.below X1.out)
  obtain ⟨v0, v1, _, _, _⟩ := TV.out
  obtain ⟨t0, t1, _, _, _⟩ := TH.out
  go_wp2_with fail
  refine (HE2.out E1 _ _ _ hw.out OR.out OF.out).mono ?_
  rintro e w2 ⟨rfl, gg⟩
  obtain ⟨o1, o2, o3, o4⟩ := gg.keep OF.out
  rw [hX.out] at o1
  replace OF := Lib.hid o1
  replace TZ := Lib.hid (o2 _ _ _ (by omega) TZ.out)
  replace X1 := Lib.hid (X1.out.trans (o4 w.heap.size (by omega) (by have := Z1.out; omega)))
  clear o1 o2 o3 o4 gg v0 v1 t0 t1 TV TH OR
  obtain ⟨f0, f1, _⟩ := OF.out
  obtain ⟨z0, z1, _, _, _⟩ := TZ.out
  have B0 : ∀ o, w.heap.size ≤ (⟨w.heap.size + 1 + 1 + 1, o, none⟩ : Addr).block := fun o => by show w.heap.size ≤ w.heap.size + 1 + 1 + 1; omega
  rcases hR.out with ⟨hx, rfl, rfl⟩ | ⟨hx, rfl, rfl, rfl⟩
  · clear hX hR
    go_wp2
    go_region
    all_goals go_wp2
    all_goals
      obtain ⟨t0, t1⟩ := two_read w2 (w.heap.size + 1 + 1 + 1) (.int .i64 0) (.int .i64 0) z0 z1
      refine bodyPost_ret (v := .tuple #[.agg #[.int .i64 0, .int .i64 0], .int .i64 X]) (by simp [results, Tryd.results41, go_sem, t0, t1]) rfl ?_
      exact ⟨rfl, by first | exact ((X1.out.setCell (B0 0) _).setCell (B0 1) _).drew | exact (X1.out.setCell (B0 0) _).setCell (B0 1) _⟩
  · clear hX hR
    go_wp2
    obtain ⟨t0, t1⟩ := two_read w2 (w.heap.size + 1 + 1 + 1) (.int .i64 A) (.int .i64 B) z0 z1
    refine bodyPost_ret (v := .tuple #[.agg #[.int .i64 A, .int .i64 B], .int .i64 0]) (by simp [results, Tryd.results41, go_sem, t0, t1]) rfl ?_
    exact ⟨rfl, (X1.out.setCell (B0 0) _).setCell (B0 1) _⟩

theorem to_cases (v rise heat rule : Int) (h : 1 ≤ rule ∧ rule ≤ 4) : (toE v rise heat rule = 2 ↔ rdyE v rise heat rule ≠ 0) ∧ (toE v rise heat rule = 0 ∨ toE v rise heat rule = 2 ∨ toE v rise heat rule = 15) := by
  by_cases hz : rdyE v rise heat rule = 0
  · obtain ⟨g, _⟩ := to_is hz
    rw [g]
    split
    · exact ⟨⟨fun h => by omega, fun h => absurd hz h⟩, .inl rfl⟩
    · exact ⟨⟨fun h => by omega, fun h => absurd hz h⟩, .inr (.inr rfl)⟩
  · have e : toE v rise heat rule = rdyE v rise heat rule := by unfold toE; rw [if_neg hz]
    have h2 : rdyE v rise heat rule = 2 := by
      have hr := (isRuleB_iff rule).2 h
      unfold rdyE at hz ⊢
      rw [if_pos hr] at hz ⊢
      split at hz
      · exact absurd rfl hz
      · rename_i hn; rw [if_neg hn]
    rw [e, h2]
    exact ⟨⟨fun _ => by omega, fun _ => rfl⟩, .inr (.inl rfl)⟩
/-- the error of Between, as the code finds it -/
theorem bt_err (vl vh hl hh rise : Int) (h : vl ≤ vh) (h2 : hl ≤ hh) :
    (if (toE vl rise hh 1 == 0 || toE vh rise hl 2 == 2) = true then toE vh rise hl 2 else toE vl rise hh 1) = btE vl vh hl hh rise := by
  have c1 := to_cases vl rise hh 1 (by omega)
  have c2 := to_cases vh rise hl 2 (by omega)
  have hd : rdyE vl rise hl 2 ≠ 0 ∨ rdyE vh rise hh 2 ≠ 0 ↔ rdyE vl rise hh 1 ≠ 0 ∨ rdyE vh rise hl 2 ≠ 0 := by
    have r1 : isRuleB 1 = true := by decide
    have r2 : isRuleB 2 = true := by decide
    unfold rdyE
    rw [if_pos r1, if_pos r2, if_pos r2, if_pos r2]
    cases facB rise hl <;> cases facB rise hh <;> cases isAm vl <;> cases isAm vh <;> simp
  have hb : btE vl vh hl hh rise = if rdyE vl rise hl 2 ≠ 0 ∨ rdyE vh rise hh 2 ≠ 0 then 2 else if toE vl rise hh 1 ≠ 0 ∨ toE vh rise hl 2 ≠ 0 then 15 else 0 := by
    unfold btE; rw [if_neg (by omega)]
  rw [hb]
  by_cases g : rdyE vl rise hl 2 ≠ 0 ∨ rdyE vh rise hh 2 ≠ 0
  · rw [if_pos g]
    rw [hd, ← c1.1, ← c2.1] at g
    by_cases g2 : toE vh rise hl 2 = 2
    · rw [if_pos (by simp [g2]), g2]
    · have g1 : toE vl rise hh 1 = 2 := by omega
      rw [if_neg (by simp [g2, g1]), g1]
  · rw [if_neg g]
    rw [hd, ← c1.1, ← c2.1] at g
    generalize toE vl rise hh 1 = E1 at *
    generalize toE vh rise hl 2 = E2 at *
    by_cases g1 : E1 = 0
    · rw [if_pos (by simp [g1])]
      by_cases g2 : E2 = 0
      · rw [if_neg (by omega), g2]
      · rw [if_pos (by omega)]; omega
    · rw [if_neg (by simp [g1]; omega), if_pos (by omega)]; omega
theorem thBetween_any (vl vh hl hh rise : Int) (w : World) (hw : WordsIs w) :
    Calls Tryd.prog 41 #[.agg #[.int .i64 vl, .int .i64 vh], .agg #[.int .i64 hl, .int .i64 hh], .int .i64 rise] w fun e w' => e = .returned (.tuple #[.agg #[.int .i64 (btL vl vh hl hh rise), .int .i64 (btH vl vh hl hh rise)], .int .i64 (btE vl vh hl hh rise)]) ∧ Below w.heap.size w w' := by
  by_cases h : vl ≤ vh ∧ hl ≤ hh
  · refine between_core vl vh hl hh rise _ _ _ _ _ _ _ w hw h.1 h.2 (end_any vl hh 1 rise) (end_any vh hl 2 rise) (bt_err vl vh hl hh rise h.1 h.2) ?_
    show _ ∨ _
    unfold btL btH
    by_cases e : btE vl vh hl hh rise = 0
    · right; rw [e]; exact ⟨by decide, rfl, rfl, rfl⟩
    · left; rw [if_neg e, if_neg e]; exact ⟨by simpa using e, rfl, rfl⟩
  · have e : btE vl vh hl hh rise = 1 := by unfold btE; rw [if_pos (by omega)]
    unfold btL btH
    rw [e]
    exact between_order vl vh hl hh rise w (by omega)
end Go.Proofs.YtbaiekoedmhhaaaDoor

/- Package gauge: Report. -/
namespace Go.Proofs.YtbaiekoedmhhaaaDoor
open Go.RowKit

/-- what stands in Report -/
def ReI (w : World) (z : Nat) (a : Option Addr) (n cap : Nat) (tol d p h s : Int) (W : World) : Prop := Below w.heap.size w W ∧ Two w.heap.size W (.slice a n cap) (.int .i64 tol) ∧ Quad (w.heap.size + 1) W (.int .i64 d) (.int .i64 p) (.int .i64 h) (.int .i64 s) ∧ Eig z W (.int .i64 0) (.int .i64 0) (.int .i64 0) (.int .i64 0) (.int .i64 0) (.int .i64 0) (.int .i64 0) (.int .i64 0)
theorem ReI.below {w : World} {z : Nat} {a : Option Addr} {n cap : Nat} {tol d p h s : Int} {W W' : World} (hh : ReI w z a n cap tol d p h s W) (hb : Below W.heap.size W W') : ReI w z a n cap tol d p h s W' := ⟨bel_trans hh.1 hb, hh.2.1.below hb, hh.2.2.1.below hb, hh.2.2.2.below hb⟩
theorem ReI.init (w : World) (a : Option Addr) (n cap : Nat) (tol d p h s : Int) : ReI w (w.heap.size + 1 + 1) a n cap tol d p h s (((w.alloc (.cells #[.slice a n cap, .int .i64 tol] 41)).alloc (.cells #[.int .i64 d, .int .i64 p, .int .i64 h, .int .i64 s] 31)).alloc (.cells #[.int .i64 0, .int .i64 0, .int .i64 0, .int .i64 0, .int .i64 0, .int .i64 0, .int .i64 0, .int .i64 0] 33)) := by
  have h2 := Quad.new (w.alloc (.cells #[.slice a n cap, .int .i64 tol] 41)) (.int .i64 d) (.int .i64 p) (.int .i64 h) (.int .i64 s) 31
  have h3 := Eig.new ((w.alloc (.cells #[.slice a n cap, .int .i64 tol] 41)).alloc (.cells #[.int .i64 d, .int .i64 p, .int .i64 h, .int .i64 s] 31)) (.int .i64 0) (.int .i64 0) (.int .i64 0) (.int .i64 0) (.int .i64 0) (.int .i64 0) (.int .i64 0) (.int .i64 0) 33
  rw [World.size_alloc] at h2
  rw [World.size_alloc, World.size_alloc] at h3
  exact ⟨bel_alloc (bel_alloc (bel_alloc (Below.refl _ _))), ((Two.new w _ _ _).alloc _).alloc _, h2.alloc _, h3⟩
theorem Eig.fr {b : Nat} {W : World} {x0 x1 x2 x3 x4 x5 x6 x7 : Value} (h : Eig b W x0 x1 x2 x3 x4 x5 x6 x7) : W.frozen? ⟨b, 0, none⟩ = false ∧ W.frozen? ⟨b, 1, none⟩ = false ∧ W.frozen? ⟨b, 2, none⟩ = false ∧ W.frozen? ⟨b, 3, none⟩ = false ∧ W.frozen? ⟨b, 4, none⟩ = false ∧ W.frozen? ⟨b, 5, none⟩ = false ∧ W.frozen? ⟨b, 6, none⟩ = false ∧ W.frozen? ⟨b, 7, none⟩ = false := by
  obtain ⟨_, _, _, _, _, _, _, _, zf, _⟩ := h
  exact ⟨zf 0 (by omega), zf 1 (by omega), zf 2 (by omega), zf 3 (by omega), zf 4 (by omega), zf 5 (by omega), zf 6 (by omega), zf 7 (by omega)⟩
set_option maxHeartbeats 32000000 in
set_option maxRecDepth 100000 in
theorem gRep_core (a : Option Addr) (n cap : Nat) (tol d p h s rise WL WH E1 E2 BL BH E3 E R0 R1 R2 R3 R4 R5 R6 R7 : Int) (w : World)
    (hR0 : Hid (E ≠ 0 → R0 = 0 ∧ R1 = 0 ∧ R2 = 0 ∧ R3 = 0 ∧ R4 = 0 ∧ R5 = 0 ∧ R6 = 0 ∧ R7 = 0)) (hR1 : Hid (E = 0 → R0 = d ∧ R1 = p ∧ R2 = h ∧ R3 = s ∧ R4 = BL ∧ R5 = BH ∧ R6 = BL * s ∧ R7 = BH * s))
    (hE : ((E1 != 0) = true ∧ E = E1) ∨ (E1 = 0 ∧ (E2 != 0) = true ∧ E = E2) ∨ (E1 = 0 ∧ E2 = 0 ∧ (E3 != 0) = true ∧ E = E3) ∨ (E1 = 0 ∧ E2 = 0 ∧ E3 = 0 ∧ E = 0 ∧ (-9223372036854775808 ≤ BL * s ∧ BL * s ≤ 9223372036854775807) ∧ -9223372036854775808 ≤ BH * s ∧ BH * s ≤ 9223372036854775807))
    (H1 : Hid (∀ W, Below w.heap.size w W → Calls Tryd.prog 19 #[.agg #[.slice a n cap, .int .i64 tol], .int .i64 p] W fun e w' => e = .returned (.tuple #[.agg #[.int .i64 WL, .int .i64 WH], .int .i64 E1]) ∧ Below W.heap.size W w'))
    (H2 : Hid (∀ W, Calls Tryd.prog 25 #[.agg #[.int .i64 d, .int .i64 p, .int .i64 h, .int .i64 s]] W fun e w' => e = .returned (.int .i64 E2) ∧ Below W.heap.size W w'))
    (H3 : Hid (∀ W, Below w.heap.size w W → Calls Tryd.prog 41 #[.agg #[.int .i64 WL, .int .i64 WH], .agg #[.int .i64 h, .int .i64 h], .int .i64 rise] W fun e w' => e = .returned (.tuple #[.agg #[.int .i64 BL, .int .i64 BH], .int .i64 E3]) ∧ Below W.heap.size W w')) :
    Calls Tryd.prog 24 #[.agg #[.slice a n cap, .int .i64 tol], .agg #[.int .i64 d, .int .i64 p, .int .i64 h, .int .i64 s], .int .i64 rise] w fun e w' => e = .returned (.tuple #[.agg #[.int .i64 R0, .int .i64 R1, .int .i64 R2, .int .i64 R3, .int .i64 R4, .int .i64 R5, .int .i64 R6, .int .i64 R7], .int .i64 E]) ∧ Below w.heap.size w w' := by
  have S0 := Lib.hid (ReI.init w a n cap tol d p h s)
  obtain ⟨_, ⟨t0, t1, _, _, _⟩, ⟨q0, q1, q2, q3, _, _⟩, _⟩ := S0.out
  go_enter Tryd.func24, Tryd.ntmps24
  go_wp2_with fail
  have hz1 : w.heap.size ≤ w.heap.size + 1 + 1 := by omega
  have hz2 : w.heap.size + 1 < w.heap.size + 1 + 1 := by omega
  generalize w.heap.size + 1 + 1 = z at *
  replace hz1 := Lib.hid hz1
  replace hz2 := Lib.hid hz2
  refine (H1.out _ S0.out.1).mono ?_
  rintro e w1 ⟨rfl, gg⟩
  replace S0 := Lib.hid (S0.out.below gg); clear gg t0 t1 q0 q1 q2 q3
  have T1 := Lib.hid (Two.new w1 (.int .i64 WL) (.int .i64 WH) 25)
  have SZ := S0.out.2.2.2.2.2.2.2.2.2.2.2.2
  have m1 : z ≠ w1.heap.size := by omega
  have m2 : w1.heap.size ≠ z := by omega
  have zz := hz2.out
  have m3 : w.heap.size + 1 ≠ w1.heap.size := by omega
  have m4 : w1.heap.size ≠ w.heap.size + 1 := by omega
  clear zz
  by_cases e1 : E1 = 0
  · subst e1
    have hE' : (E2 != 0) = true ∧ E = E2 ∨ E2 = 0 ∧ (((E3 != 0) = true ∧ E = E3) ∨ (E3 = 0 ∧ E = 0 ∧ (-9223372036854775808 ≤ BL * s ∧ BL * s ≤ 9223372036854775807) ∧ -9223372036854775808 ≤ BH * s ∧ BH * s ≤ 9223372036854775807)) := by
      rcases hE with ⟨q, _⟩ | ⟨_, q, r⟩ | ⟨_, q, r, t⟩ | ⟨_, q, r, t, u⟩
      · simp at q
      · exact .inl ⟨q, r⟩
      · exact .inr ⟨q, .inl ⟨r, t⟩⟩
      · exact .inr ⟨q, .inr ⟨r, t, u⟩⟩
    clear hE
    have S1 := Lib.hid (S0.out.below (bel_alloc (o := .cells #[.int .i64 WL, .int .i64 WH] 25) (Below.refl _ _)))
    obtain ⟨_, _, ⟨q0, q1, q2, q3, _, _⟩, _⟩ := S1.out
    go_wp2_with fail
    refine (H2.out _).mono ?_
    rintro e w2 ⟨rfl, gg⟩
    replace S1 := Lib.hid (S1.out.below gg)
    replace T1 := Lib.hid (T1.out.below gg); clear gg q0 q1 q2 q3 S0
    generalize hq1 : w1.heap.size = u1 at *
    replace hq1 := Lib.hid hq1
    rcases hE' with ⟨q, rfl⟩ | ⟨rfl, hE'⟩
    · obtain ⟨rfl, rfl, rfl, rfl, rfl, rfl, rfl, rfl⟩ := hR0.out (by simpa using q)
      clear hR0 hR1
      obtain ⟨_, _, _, z0, z1, z2, z3, z4, z5, z6, z7, _, _⟩ := S1.out
      obtain ⟨f0, f1, f2, f3, f4, f5, f6, f7⟩ := S1.out.2.2.2.fr
      have P := Lib.hid (S1.out.2.2.2.put (.int .i64 0) (.int .i64 0) (.int .i64 0) (.int .i64 0) (.int .i64 0) (.int .i64 0) (.int .i64 0) (.int .i64 0))
      have BB := Lib.hid (Eig.putB S1.out.1 hz1.out (.int .i64 0) (.int .i64 0) (.int .i64 0) (.int .i64 0) (.int .i64 0) (.int .i64 0) (.int .i64 0) (.int .i64 0))
      go_wp2
      obtain ⟨p0, p1, p2, p3, p4, p5, p6, p7, _, _⟩ := P.out
      have BB2 := BB.out
      refine bodyPost_ret (v := .tuple #[.agg #[.int .i64 0, .int .i64 0, .int .i64 0, .int .i64 0, .int .i64 0, .int .i64 0, .int .i64 0, .int .i64 0], .int .i64 E]) (by simp [results, Tryd.results24, go_sem, p0, p1, p2, p3, p4, p5, p6, p7]) rfl ?_
      exact ⟨rfl, BB2⟩
    · obtain ⟨_, _, ⟨q0, q1, q2, q3, _, _⟩, _⟩ := S1.out
      obtain ⟨t0, t1, _, _, _⟩ := T1.out
      have X := Lib.hid S1.out.1
      go_wp2_with fail
      refine (H3.out _ X.out).mono ?_
      rintro e w3 ⟨rfl, gg⟩
      replace S1 := Lib.hid (S1.out.below gg); clear gg q0 q1 q2 q3 t0 t1 T1
      have SZ := S1.out.2.2.2.2.2.2.2.2.2.2.2.2
      have zz := hz2.out
      have k1 : z ≠ w3.heap.size := by omega
      have k2 : w3.heap.size ≠ z := by omega
      have k3 : w.heap.size + 1 ≠ w3.heap.size := by omega
      have k4 : w3.heap.size ≠ w.heap.size + 1 := by omega
      clear SZ zz
      rcases hE' with ⟨q, rfl⟩ | ⟨rfl, rfl, hb1, hb2⟩
      · obtain ⟨rfl, rfl, rfl, rfl, rfl, rfl, rfl, rfl⟩ := hR0.out (by simpa using q)
        clear hR0 hR1
        replace S1 := Lib.hid (S1.out.below (bel_alloc (o := .cells #[.int .i64 BL, .int .i64 BH] 25) (Below.refl _ _)))
        go_upto_region 9 with fail
        generalize w3.alloc (.cells #[.int .i64 BL, .int .i64 BH] 25) = WW at *
        obtain ⟨_, _, _, z0, z1, z2, z3, z4, z5, z6, z7, _, _⟩ := S1.out
        obtain ⟨f0, f1, f2, f3, f4, f5, f6, f7⟩ := S1.out.2.2.2.fr
        have P := Lib.hid (S1.out.2.2.2.put (.int .i64 0) (.int .i64 0) (.int .i64 0) (.int .i64 0) (.int .i64 0) (.int .i64 0) (.int .i64 0) (.int .i64 0))
        have BB := Lib.hid (Eig.putB S1.out.1 hz1.out (.int .i64 0) (.int .i64 0) (.int .i64 0) (.int .i64 0) (.int .i64 0) (.int .i64 0) (.int .i64 0) (.int .i64 0))
        go_wp2
        obtain ⟨p0, p1, p2, p3, p4, p5, p6, p7, _, _⟩ := P.out
        have BB2 := BB.out
        refine bodyPost_ret (v := .tuple #[.agg #[.int .i64 0, .int .i64 0, .int .i64 0, .int .i64 0, .int .i64 0, .int .i64 0, .int .i64 0, .int .i64 0], .int .i64 E]) (by simp [results, Tryd.results24, go_sem, p0, p1, p2, p3, p4, p5, p6, p7]) rfl ?_
        exact ⟨rfl, BB2⟩
      · have HT := Lib.hid (fun W => gTimes_any BL BH s W hb1 hb2)
        have S2 := Lib.hid ((S1.out.below (bel_alloc (o := .cells #[.int .i64 BL, .int .i64 BH] 25) (Below.refl _ _))).below (bel_drew _))
        have T3 := Lib.hid ((Two.new w3 (.int .i64 BL) (.int .i64 BH) 25).below (bel_drew _))
        obtain ⟨_, _, ⟨q0, q1, q2, q3, _, _⟩, _⟩ := S1.out.below (bel_alloc (o := .cells #[.int .i64 BL, .int .i64 BH] 25) (Below.refl _ _))
        obtain ⟨t0, t1, _, _, _⟩ := Two.new w3 (.int .i64 BL) (.int .i64 BH) 25
        have hR := Lib.hid (hR1.out rfl)
        have zz := hz2.out
        have y1 : w.heap.size + 1 ≠ z := by omega
        have y2 : z ≠ w.heap.size + 1 := by omega
        clear zz
        clear hb1 hb2 hR0 hR1
        go_upto_region 10 with fail
        go_region_held3 (fun w' => w'.cell? ⟨w.heap.size + 1, 0, none⟩ = some (.int .i64 d) ∧ w'.cell? ⟨w.heap.size + 1, 1, none⟩ = some (.int .i64 p) ∧ w'.cell? ⟨w.heap.size + 1, 2, none⟩ = some (.int .i64 h) ∧ w'.cell? ⟨w.heap.size + 1, 3, none⟩ = some (.int .i64 s) ∧ w'.cell? ⟨w3.heap.size, 0, none⟩ = some (.int .i64 BL) ∧ w'.cell? ⟨w3.heap.size, 1, none⟩ = some (.int .i64 BH)) (go_keep) (first
          | (go_at_call 36; (refine (HT.out _).mono ?_); rintro e w4 ⟨rfl, gg⟩; replace S2 := Lib.hid (S2.out.below gg); replace T3 := Lib.hid (T3.out.below gg); obtain ⟨_, _, ⟨q0, q1, q2, q3, _, _⟩, z0, z1, z2, z3, z4, z5, z6, z7, _, _⟩ := S2.out; obtain ⟨f0, f1, f2, f3, f4, f5, f6, f7⟩ := S2.out.2.2.2.fr; obtain ⟨t0, t1, _, _, _⟩ := T3.out; clear gg))
        have P := Lib.hid (S2.out.2.2.2.put (.int .i64 d) (.int .i64 p) (.int .i64 h) (.int .i64 s) (.int .i64 BL) (.int .i64 BH) (.int .i64 (BL * s)) (.int .i64 (BH * s)))
        have BB := Lib.hid (Eig.putB S2.out.1 hz1.out (.int .i64 d) (.int .i64 p) (.int .i64 h) (.int .i64 s) (.int .i64 BL) (.int .i64 BH) (.int .i64 (BL * s)) (.int .i64 (BH * s)))
        go_wp2
        obtain ⟨p0, p1, p2, p3, p4, p5, p6, p7, _, _⟩ := P.out
        refine bodyPost_ret (v := .tuple #[.agg #[.int .i64 d, .int .i64 p, .int .i64 h, .int .i64 s, .int .i64 BL, .int .i64 BH, .int .i64 (BL * s), .int .i64 (BH * s)], .int .i64 0]) (by simp [results, Tryd.results24, go_sem, p0, p1, p2, p3, p4, p5, p6, p7]) rfl ?_
        obtain ⟨r0, r1, r2, r3, r4, r5, r6, r7⟩ := hR.out
        exact ⟨by rw [r0, r1, r2, r3, r4, r5, r6, r7], BB.out⟩
  · have q : (E1 != 0) = true := by simpa using e1
    have eE : E = E1 := by
      rcases hE with ⟨_, r⟩ | ⟨r, _⟩ | ⟨r, _⟩ | ⟨r, _⟩
      · exact r
      · exact absurd r e1
      · exact absurd r e1
      · exact absurd r e1
    subst eE
    clear hE e1
    obtain ⟨rfl, rfl, rfl, rfl, rfl, rfl, rfl, rfl⟩ := hR0.out (by simpa using q)
    clear hR0 hR1
    replace S0 := Lib.hid (S0.out.below (bel_alloc (o := .cells #[.int .i64 WL, .int .i64 WH] 25) (Below.refl _ _)))
    go_upto_region 3 with fail
    generalize w1.alloc (.cells #[.int .i64 WL, .int .i64 WH] 25) = WW at *
    obtain ⟨_, _, _, z0, z1, z2, z3, z4, z5, z6, z7, _, _⟩ := S0.out
    obtain ⟨f0, f1, f2, f3, f4, f5, f6, f7⟩ := S0.out.2.2.2.fr
    have P := Lib.hid (S0.out.2.2.2.put (.int .i64 0) (.int .i64 0) (.int .i64 0) (.int .i64 0) (.int .i64 0) (.int .i64 0) (.int .i64 0) (.int .i64 0))
    have BB := Lib.hid (Eig.putB S0.out.1 hz1.out (.int .i64 0) (.int .i64 0) (.int .i64 0) (.int .i64 0) (.int .i64 0) (.int .i64 0) (.int .i64 0) (.int .i64 0))
    go_wp2
    obtain ⟨p0, p1, p2, p3, p4, p5, p6, p7, _, _⟩ := P.out
    have BB2 := BB.out
    refine bodyPost_ret (v := .tuple #[.agg #[.int .i64 0, .int .i64 0, .int .i64 0, .int .i64 0, .int .i64 0, .int .i64 0, .int .i64 0, .int .i64 0], .int .i64 E]) (by simp [results, Tryd.results24, go_sem, p0, p1, p2, p3, p4, p5, p6, p7]) rfl ?_
    exact ⟨rfl, BB2⟩
end Go.Proofs.YtbaiekoedmhhaaaDoor

/- Package gauge: lists of reports; check. -/
namespace Go.Proofs.YtbaiekoedmhhaaaDoor
open Go.RowKit

instance : Inhabited Rp := ⟨⟨0, 0, 0, 0, 0, 0, 0, 0⟩⟩
def gP (l : List Rp) (j : Nat) : Rp := l.getD j default
/-- the eight cells of a report at a place -/
def RpC (W : World) (b o : Nat) (r : Rp) : Prop := W.cell? ⟨b, o, none⟩ = some (.int .i64 r.dy) ∧ W.cell? ⟨b, o + 1, none⟩ = some (.int .i64 r.dp) ∧ W.cell? ⟨b, o + 2, none⟩ = some (.int .i64 r.ht) ∧ W.cell? ⟨b, o + 3, none⟩ = some (.int .i64 r.st) ∧ W.cell? ⟨b, o + 4, none⟩ = some (.int .i64 r.vl) ∧ W.cell? ⟨b, o + 5, none⟩ = some (.int .i64 r.vh) ∧ W.cell? ⟨b, o + 6, none⟩ = some (.int .i64 r.al) ∧ W.cell? ⟨b, o + 7, none⟩ = some (.int .i64 r.ah)
theorem RpC.below {w W : World} {b o : Nat} {r : Rp} (h : RpC w b o r) (hb : Below w.heap.size w W) : RpC W b o r := by
  obtain ⟨h0, h1, h2, h3, h4, h5, h6, h7⟩ := h
  exact ⟨cell_bel h0 hb, cell_bel h1 hb, cell_bel h2 hb, cell_bel h3 hb, cell_bel h4 hb, cell_bel h5 hb, cell_bel h6 hb, cell_bel h7 hb⟩
/-- a slice that reads as reports -/
def Rps (w : World) (v : Value) (l : List Rp) : Prop :=
  ∃ a cap, v = .slice a l.length cap ∧ (l.length ≤ cap ∧ cap ≤ 9223372036854775807) ∧
    (l.length = 0 ∨ ∃ b off, a = some ⟨b, off, none⟩ ∧ b < w.heap.size ∧ ∀ j, j < l.length → RpC w b (off + j * 8) (gP l j))
theorem Rps.below {w w' : World} {v : Value} {l : List Rp} (h : Rps w v l) (hb : Below w.heap.size w w') : Rps w' v l := by
  obtain ⟨a, cap, rfl, hl, h | ⟨b, off, rfl, hlt, hc⟩⟩ := h
  · exact ⟨a, cap, rfl, hl, .inl h⟩
  · exact ⟨_, cap, rfl, hl, .inr ⟨b, off, rfl, Nat.lt_of_lt_of_le hlt hb.size, fun j hj => (hc j hj).below hb⟩⟩
/-- the closure of check -/
theorem gChk1_any (B : Bool) (r : Rp) (w : World) :
    Calls Tryd.prog 43 #[.bool B, .agg #[.int .i64 r.dy, .int .i64 r.dp, .int .i64 r.ht, .int .i64 r.st, .int .i64 r.vl, .int .i64 r.vh, .int .i64 r.al, .int .i64 r.ah]] w fun e w' => e = .returned (.bool (B && rgtB r)) ∧ Below w.heap.size w w' := by
  have HR := Lib.hid (fun W => gRight_any r W)
  generalize rgtB r = Q at *
  obtain ⟨d, p, h, s, vl, vh, al, ah⟩ := r
  have X0 := Lib.hid (bel_alloc (w := w) (o := .cells #[.int .i64 d, .int .i64 p, .int .i64 h, .int .i64 s, .int .i64 vl, .int .i64 vh, .int .i64 al, .int .i64 ah] 33) (Below.refl _ _))
  obtain ⟨c0, c1, c2, c3, c4, c5, c6, c7, _, _⟩ := Eig.new w (.int .i64 d) (.int .i64 p) (.int .i64 h) (.int .i64 s) (.int .i64 vl) (.int .i64 vh) (.int .i64 al) (.int .i64 ah) 33
  cases B with
  | false =>
    go_enter Tryd.func43, Tryd.ntmps43
    go_wp2
    go_returns
    exact ⟨rfl, X0.out⟩
  | true =>
    go_enter Tryd.func43, Tryd.ntmps43
    go_wp2_with fail
    refine (HR.out _).mono ?_
    rintro e w1 ⟨rfl, gg⟩
    replace X0 := Lib.hid (bel_trans X0.out gg); clear gg
    go_wp2
    go_returns
    exact ⟨by simp, X0.out⟩
def alB (l : List Rp) (k : Nat) : Bool := (List.range k).all fun j => rgtB (gP l j)
theorem alB_succ (l : List Rp) (k : Nat) : alB l (k + 1) = (alB l k && rgtB (gP l k)) := by
  unfold alB; rw [List.range_succ, List.all_append]; simp
theorem alB_iff {l : List Rp} {k : Nat} : alB l k = true ↔ ∀ j, j < k → rgtB (gP l j) = true := by
  unfold alB; rw [List.all_eq_true]; simp
set_option maxHeartbeats 8000000 in
set_option maxRecDepth 100000 in
theorem foldB_some (b off n cap : Nat) (l : List Rp) (w : World) (n1 : n ≤ 1000000) (hb : b < w.heap.size) (hc : Hid (∀ j, j < n → RpC w b (off + j * 8) (gP l j))) :
    Calls Tryd.prog 42 #[.slice (some ⟨b, off, none⟩) n cap, .bool true, .func (.func 43) #[] #[]] w fun e w' => e = .returned (.bool (alB l n)) ∧ Below w.heap.size w w' := by
  have eg := enters_of Tryd.func43 (by kernel_rfl) rfl
  have HK := Lib.hid (fun B r W => gChk1_any B r W)
  go_enter Tryd.func42, Tryd.ntmps42
  go_wp2_with fail
  go_loopw [1, 11] (fun bb ii wr => ∃ k : Nat, k ≤ n ∧ ii = .int .i64 (k : Int) ∧ bb = .bool (alB l k) ∧ Hid (Below w.heap.size w wr)) (fun _ ii _ => n - (intOf ii).toNat)
  case atStart => exact ⟨0, by omega, rfl, rfl, Lib.hid (Below.refl _ _)⟩
  case round =>
    obtain ⟨k, hk, rfl, rfl, hB⟩ := hrel
    by_cases hlt : k < n
    · obtain ⟨c0, c1, c2, c3, c4, c5, c6, c7⟩ := (hc.out k hlt).below hB.out
      have lk : (k : Int) < (n : Int) := by omega
      have HP := Lib.hid (fun W => HK.out (alB l k) (gP l k) W)
      have eN : Hid (alB l (k + 1) = (alB l k && rgtB (gP l k))) := Lib.hid (alB_succ l k)
      rw [← eN.out] at HP
      generalize eA1 : alB l (k + 1) = A1 at *
      replace eA1 := Lib.hid eA1
      generalize alB l k = A0 at *
      generalize gP l k = r at *
      obtain ⟨d, p, h, s, vl, vh, al, ah⟩ := r
      clear eN HK
      have X1 := Lib.hid (bel_trans hB.out (bel_alloc (o := .cells #[.int .i64 d, .int .i64 p, .int .i64 h, .int .i64 s, .int .i64 vl, .int .i64 vh, .int .i64 al, .int .i64 ah] 33) (Below.refl _ _)))
      obtain ⟨d0, d1, d2, d3, d4, d5, d6, d7, _, _⟩ := Eig.new wr (.int .i64 d) (.int .i64 p) (.int .i64 h) (.int .i64 s) (.int .i64 vl) (.int .i64 vh) (.int .i64 al) (.int .i64 ah) 33
      go_wp2_with fail
      refine (HP.out _).mono ?_
      rintro e w1 ⟨rfl, gg⟩
      replace X1 := Lib.hid (bel_trans X1.out gg); clear gg
      go_wp2
      go_roundw
      case rel => exact ⟨k + 1, by omega, by go_num, by rw [eA1.out], X1⟩
      case measure => simp [intOf]; omega
    · obtain rfl : k = n := by omega
      go_wp2
      go_returns
      exact ⟨rfl, hB.out⟩
theorem foldB_nil (a : Option Addr) (cap : Nat) (f : Value) (w : World) :
    Calls Tryd.prog 42 #[.slice a 0 cap, .bool true, f] w fun e w' => e = .returned (.bool true) ∧ Below w.heap.size w w' := by
  go_enter Tryd.func42, Tryd.ntmps42
  go_wp2_with fail
  go_loopw [1, 11] (fun bb ii wr => bb = .bool true ∧ ii = .int .i64 0 ∧ Hid (Below w.heap.size w wr)) (fun _ _ _ => 0)
  case atStart => exact ⟨rfl, rfl, Lib.hid (Below.refl _ _)⟩
  case round =>
    obtain ⟨rfl, rfl, hB⟩ := hrel
    go_wp2
    go_returns
    exact ⟨rfl, hB.out⟩
/-- the first error of a list of reports -/
def glE (l : List Rp) : Int := if 64 < l.length then 8 else if alB l l.length = false then 1 else 0
theorem gchk_core (a : Option Addr) (n cap : Nat) (B : Bool) (E : Int) (w : World) (hE : (64 < n ∧ n ≤ 9223372036854775807 ∧ E = 8) ∨ (¬ 64 < n ∧ B = false ∧ E = 1) ∨ (¬ 64 < n ∧ B = true ∧ E = 0))
    (H1 : Hid (¬ 64 < n → ∀ W, Below w.heap.size w W → Calls Tryd.prog 42 #[.slice a n cap, .bool true, .func (.func 43) #[] #[]] W fun e w' => e = .returned (.bool B) ∧ Below W.heap.size W w')) :
    Calls Tryd.prog 26 #[.slice a n cap] w fun e w' => e = .returned (.int .i64 E) ∧ Below w.heap.size w w' := by
  have X0 := Lib.hid (Below.refl w.heap.size w)
  by_cases g : 64 < n
  · have d : decide (64 < (n : Int)) = true := decide_eq_true (by omega)
    have eE : E = 8 := by
      rcases hE with ⟨_, _, h⟩ | ⟨h, _⟩ | ⟨h, _⟩
      · exact h
      · exact absurd g h
      · exact absurd g h
    subst eE
    go_enter Tryd.func26, Tryd.ntmps26
    go_wp2
    go_returns
    exact ⟨rfl, X0.out⟩
  · have d : decide (64 < (n : Int)) = false := decide_eq_false (by omega)
    replace H1 := Lib.hid (H1.out g)
    go_enter Tryd.func26, Tryd.ntmps26
    go_wp2_with fail
    refine (H1.out _ X0.out).mono ?_
    rintro e w1 ⟨rfl, gg⟩
    replace X0 := Lib.hid gg; clear gg
    rcases hE with ⟨h, _⟩ | ⟨_, rfl, rfl⟩ | ⟨_, rfl, rfl⟩
    · exact absurd h g
    all_goals
      go_wp2
      go_returns
      exact ⟨rfl, X0.out⟩
theorem gchk_any (v : Value) (l : List Rp) (w : World) (hv : Rps w v l) :
    Calls Tryd.prog 26 #[v] w fun e w' => e = .returned (.int .i64 (glE l)) ∧ Below w.heap.size w w' := by
  obtain ⟨a, cap, rfl, ⟨hc1, hc2⟩, hh⟩ := hv
  refine gchk_core a _ cap (alB l l.length) _ w ?_ (Lib.hid fun g W hW => ?_)
  · by_cases g : 64 < l.length
    · left; exact ⟨g, by omega, by unfold glE; rw [if_pos g]⟩
    · right
      cases q : alB l l.length with
      | false => left; exact ⟨g, rfl, by unfold glE; rw [if_neg g, if_pos q]⟩
      | true => right; exact ⟨g, rfl, by unfold glE; rw [if_neg g, if_neg (by rw [q]; simp)]⟩
  · rcases hh with h0 | ⟨b, off, rfl, hb, hc⟩
    · rw [h0]
      exact foldB_nil a cap _ W
    · exact foldB_some b off _ cap l W (by omega) (Nat.lt_of_lt_of_le hb hW.size) (Lib.hid fun j hj => (hc j hj).below hW)
end Go.Proofs.YtbaiekoedmhhaaaDoor

/- Package gauge: common, sum; the closures of Together and Total; folds. -/
namespace Go.Proofs.YtbaiekoedmhhaaaDoor
open Go.RowKit

theorem Quad.put {b : Nat} {W : World} {x y z u : Value} (h : Quad b W x y z u) (x' y' z' u' : Value) : Quad b ((((W.setCell ⟨b, 0, none⟩ x').setCell ⟨b, 1, none⟩ y').setCell ⟨b, 2, none⟩ z').setCell ⟨b, 3, none⟩ u') x' y' z' u' := by
  obtain ⟨h0, h1, h2, h3, hf, hl⟩ := h
  obtain ⟨p0, p1, p2, p3⟩ := quad_read W b x' y' z' u' h0 h1 h2 h3
  exact ⟨p0, p1, p2, p3, fun k hk => by simp only [World.frozen?_setCell]; exact hf k hk, by simpa [World.setCell] using hl⟩
theorem Quad.other {b : Nat} {W : World} {x y z u : Value} (h : Quad b W x y z u) (p : Addr) (hp : p.block ≠ b) (v : Value) : Quad b (W.setCell p v) x y z u := by
  obtain ⟨h0, h1, h2, h3, hf, hl⟩ := h
  have o : ∀ i, (W.setCell p v).cell? ⟨b, i, none⟩ = W.cell? ⟨b, i, none⟩ := fun i => World.cell?_setCell_other _ _ _ _ (by intro e; apply hp; rw [e])
  exact ⟨by rw [o]; exact h0, by rw [o]; exact h1, by rw [o]; exact h2, by rw [o]; exact h3, fun k hk => by rw [World.frozen?_setCell]; exact hf k hk, by simpa [World.setCell] using hl⟩
theorem Quad.putB {b B : Nat} {w W : World} (h : Below B w W) (hb : B ≤ b) (x y z u : Value) : Below B w ((((W.setCell ⟨b, 0, none⟩ x).setCell ⟨b, 1, none⟩ y).setCell ⟨b, 2, none⟩ z).setCell ⟨b, 3, none⟩ u) :=
  (((h.setCell (p := ⟨b, 0, none⟩) hb _).setCell (p := ⟨b, 1, none⟩) hb _).setCell (p := ⟨b, 2, none⟩) hb _).setCell (p := ⟨b, 3, none⟩) hb _
set_option maxHeartbeats 4000000 in
theorem gCom_any (a b c d : Int) (w : World) :
    Calls Tryd.prog 30 #[.agg #[.int .i64 a, .int .i64 b], .agg #[.int .i64 c, .int .i64 d]] w fun e w' => e = .returned (.agg #[.int .i64 (max a c), .int .i64 (min b d)]) ∧ Below w.heap.size w w' := by
  generalize hm : max a c = m
  generalize hn : min b d = n
  go_enter Tryd.func30, Tryd.ntmps30
  go_wp2
  exact bodyPost_ret (v := .agg #[.int .i64 m, .int .i64 n]) (by simp [results, Tryd.results30, go_sem]) rfl ⟨rfl, bel_alloc (bel_alloc (bel_alloc (Below.refl _ _)))⟩
set_option maxHeartbeats 4000000 in
theorem gSum_any (a b c d : Int) (w : World) (h1 : -9223372036854775808 ≤ a + c ∧ a + c ≤ 9223372036854775807) (h2 : -9223372036854775808 ≤ b + d ∧ b + d ≤ 9223372036854775807) :
    Calls Tryd.prog 33 #[.agg #[.int .i64 a, .int .i64 b], .agg #[.int .i64 c, .int .i64 d]] w fun e w' => e = .returned (.agg #[.int .i64 (a + c), .int .i64 (b + d)]) ∧ Below w.heap.size w w' := by
  have w1 : IntKind.i64.wrap (a + c) = a + c := wrap_in _ h1
  have w2 : IntKind.i64.wrap (b + d) = b + d := wrap_in _ h2
  go_enter Tryd.func33, Tryd.ntmps33
  go_wp2
  exact bodyPost_ret (v := .agg #[.int .i64 (a + c), .int .i64 (b + d)]) (by simp [results, Tryd.results33, go_sem, w1, w2]) rfl ⟨rfl, by first | exact bel_alloc (bel_alloc (bel_alloc (Below.refl _ _))) | (rw [w1, w2]; exact bel_alloc (bel_alloc (bel_alloc (Below.refl _ _))))⟩
/-- what stands in a closure of a fold -/
def CbI (w : World) (z : Nat) (a b c d : Int) (x0 x1 x2 x3 x4 x5 x6 x7 : Int) (W : World) : Prop := Below w.heap.size w W ∧ Quad w.heap.size W (.int .i64 a) (.int .i64 b) (.int .i64 c) (.int .i64 d) ∧ Eig (w.heap.size + 1) W (.int .i64 x0) (.int .i64 x1) (.int .i64 x2) (.int .i64 x3) (.int .i64 x4) (.int .i64 x5) (.int .i64 x6) (.int .i64 x7) ∧ Quad z W (.int .i64 0) (.int .i64 0) (.int .i64 0) (.int .i64 0)
theorem CbI.below {w : World} {z : Nat} {a b c d x0 x1 x2 x3 x4 x5 x6 x7 : Int} {W W' : World} (h : CbI w z a b c d x0 x1 x2 x3 x4 x5 x6 x7 W) (hb : Below W.heap.size W W') : CbI w z a b c d x0 x1 x2 x3 x4 x5 x6 x7 W' := ⟨bel_trans h.1 hb, h.2.1.below hb, h.2.2.1.below hb, h.2.2.2.below hb⟩
theorem CbI.init (w : World) (a b c d x0 x1 x2 x3 x4 x5 x6 x7 : Int) : CbI w (w.heap.size + 1 + 1) a b c d x0 x1 x2 x3 x4 x5 x6 x7 (((w.alloc (.cells #[.int .i64 a, .int .i64 b, .int .i64 c, .int .i64 d] 58)).alloc (.cells #[.int .i64 x0, .int .i64 x1, .int .i64 x2, .int .i64 x3, .int .i64 x4, .int .i64 x5, .int .i64 x6, .int .i64 x7] 33)).alloc (.cells #[.int .i64 0, .int .i64 0, .int .i64 0, .int .i64 0] 58)) := by
  have h2 := Eig.new (w.alloc (.cells #[.int .i64 a, .int .i64 b, .int .i64 c, .int .i64 d] 58)) (.int .i64 x0) (.int .i64 x1) (.int .i64 x2) (.int .i64 x3) (.int .i64 x4) (.int .i64 x5) (.int .i64 x6) (.int .i64 x7) 33
  have h3 := Quad.new ((w.alloc (.cells #[.int .i64 a, .int .i64 b, .int .i64 c, .int .i64 d] 58)).alloc (.cells #[.int .i64 x0, .int .i64 x1, .int .i64 x2, .int .i64 x3, .int .i64 x4, .int .i64 x5, .int .i64 x6, .int .i64 x7] 33)) (.int .i64 0) (.int .i64 0) (.int .i64 0) (.int .i64 0) 58
  rw [World.size_alloc] at h2
  rw [World.size_alloc, World.size_alloc] at h3
  exact ⟨bel_alloc (bel_alloc (bel_alloc (Below.refl _ _))), ((Quad.new w _ _ _ _ _).alloc _).alloc _, h2.alloc _, h3⟩
set_option maxHeartbeats 16000000 in
set_option maxRecDepth 100000 in
theorem gTog2_any (a b c d : Int) (r : Rp) (w : World) :
    Calls Tryd.prog 29 #[.agg #[.int .i64 a, .int .i64 b, .int .i64 c, .int .i64 d], .agg #[.int .i64 r.dy, .int .i64 r.dp, .int .i64 r.ht, .int .i64 r.st, .int .i64 r.vl, .int .i64 r.vh, .int .i64 r.al, .int .i64 r.ah]] w fun e w' => e = .returned (.agg #[.int .i64 (max a r.vl), .int .i64 (min b r.vh), .int .i64 (max c r.al), .int .i64 (min d r.ah)]) ∧ Below w.heap.size w w' := by
  have H1 := Lib.hid (fun W => gCom_any a b r.vl r.vh W)
  have H2 := Lib.hid (fun W => gCom_any c d r.al r.ah W)
  obtain ⟨d', p, h, s, vl, vh, al, ah⟩ := r
  show Calls _ _ _ _ fun e w' => e = .returned (.agg #[.int .i64 (max a vl), .int .i64 (min b vh), .int .i64 (max c al), .int .i64 (min d ah)]) ∧ _
  have S0 := Lib.hid (CbI.init w a b c d d' p h s vl vh al ah)
  generalize max a vl = R0 at *
  generalize min b vh = R1 at *
  generalize max c al = R2 at *
  generalize min d ah = R3 at *
  obtain ⟨_, ⟨q0, q1, q2, q3, _, _⟩, ⟨e0, e1, e2, e3, e4, e5, e6, e7, _, _⟩, z0, z1, z2, z3, zf, _⟩ := S0.out
  go_enter Tryd.func29, Tryd.ntmps29
  go_upto_region 1 with fail
  have hz1 : w.heap.size ≤ w.heap.size + 1 + 1 := by omega
  have hz2 : w.heap.size + 1 < w.heap.size + 1 + 1 := by omega
  generalize w.heap.size + 1 + 1 = z at *
  replace S0 := Lib.hid (S0.out.below (bel_drew _))
  have y1 : w.heap.size + 1 ≠ z := by omega
  have y2 : z ≠ w.heap.size + 1 := by omega
  have y3 : w.heap.size ≠ z := by omega
  have y4 : z ≠ w.heap.size := by omega
  have f0 := zf 0 (by omega); have f1 := zf 1 (by omega); have f2 := zf 2 (by omega); have f3 := zf 3 (by omega)
  clear zf
  go_region_held3 (fun w' => w'.cell? ⟨w.heap.size, 0, none⟩ = some (.int .i64 a) ∧ w'.cell? ⟨w.heap.size, 1, none⟩ = some (.int .i64 b) ∧ w'.cell? ⟨w.heap.size, 2, none⟩ = some (.int .i64 c) ∧ w'.cell? ⟨w.heap.size, 3, none⟩ = some (.int .i64 d) ∧ w'.cell? ⟨w.heap.size + 1, 4, none⟩ = some (.int .i64 vl) ∧ w'.cell? ⟨w.heap.size + 1, 5, none⟩ = some (.int .i64 vh) ∧ w'.cell? ⟨w.heap.size + 1, 6, none⟩ = some (.int .i64 al) ∧ w'.cell? ⟨w.heap.size + 1, 7, none⟩ = some (.int .i64 ah)) (go_keep) (first
    | (go_at_call 30; (with_reducible refine (H1.out _).mono ?_); rintro e w4 ⟨rfl, gg⟩; replace S0 := Lib.hid (S0.out.below gg); obtain ⟨_, ⟨q0, q1, q2, q3, _, _⟩, ⟨e0, e1, e2, e3, e4, e5, e6, e7, _, _⟩, z0, z1, z2, z3, zf, _⟩ := S0.out; have f0 := zf 0 (by omega); have f1 := zf 1 (by omega); have f2 := zf 2 (by omega); have f3 := zf 3 (by omega); clear gg zf)
    | (go_at_call 30; (with_reducible refine (H2.out _).mono ?_); rintro e w5 ⟨rfl, gg⟩; replace S0 := Lib.hid (S0.out.below gg); obtain ⟨_, ⟨q0, q1, q2, q3, _, _⟩, ⟨e0, e1, e2, e3, e4, e5, e6, e7, _, _⟩, z0, z1, z2, z3, zf, _⟩ := S0.out; have f0 := zf 0 (by omega); have f1 := zf 1 (by omega); have f2 := zf 2 (by omega); have f3 := zf 3 (by omega); clear gg zf))
  all_goals
    have P := Lib.hid (S0.out.2.2.2.put (.int .i64 R0) (.int .i64 R1) (.int .i64 R2) (.int .i64 R3))
    have BB := Lib.hid (Quad.putB S0.out.1 hz1 (.int .i64 R0) (.int .i64 R1) (.int .i64 R2) (.int .i64 R3))
    go_wp2
    obtain ⟨p0, p1, p2, p3, _, _⟩ := P.out
    refine bodyPost_ret (v := .agg #[.int .i64 R0, .int .i64 R1, .int .i64 R2, .int .i64 R3]) (by simp [results, Tryd.results29, go_sem, p0, p1, p2, p3]) rfl ?_
    exact ⟨rfl, BB.out⟩
/-- what stands in a fold -/
def FbI (w : World) (a b c d : Int) (W : World) : Prop := Below w.heap.size w W ∧ Quad w.heap.size W (.int .i64 a) (.int .i64 b) (.int .i64 c) (.int .i64 d) ∧ Quad (w.heap.size + 1) W (.int .i64 0) (.int .i64 0) (.int .i64 0) (.int .i64 0)
theorem FbI.below {w : World} {a b c d : Int} {W W' : World} (h : FbI w a b c d W) (hb : Below W.heap.size W W') : FbI w a b c d W' := ⟨bel_trans h.1 hb, h.2.1.below hb, h.2.2.below hb⟩
theorem FbI.put {w : World} {a b c d : Int} {W : World} (h : FbI w a b c d W) (a' b' c' d' : Int) : FbI w a' b' c' d' ((((W.setCell ⟨w.heap.size, 0, none⟩ (.int .i64 a')).setCell ⟨w.heap.size, 1, none⟩ (.int .i64 b')).setCell ⟨w.heap.size, 2, none⟩ (.int .i64 c')).setCell ⟨w.heap.size, 3, none⟩ (.int .i64 d')) :=
  ⟨Quad.putB h.1 (Nat.le_refl _) _ _ _ _, h.2.1.put _ _ _ _, (((h.2.2.other _ (by show w.heap.size ≠ w.heap.size + 1; omega) _).other _ (by show w.heap.size ≠ w.heap.size + 1; omega) _).other _ (by show w.heap.size ≠ w.heap.size + 1; omega) _).other _ (by show w.heap.size ≠ w.heap.size + 1; omega) _⟩
theorem FbI.init (w : World) (a b c d : Int) : FbI w a b c d ((w.alloc (.cells #[.int .i64 a, .int .i64 b, .int .i64 c, .int .i64 d] 58)).alloc (.cells #[.int .i64 0, .int .i64 0, .int .i64 0, .int .i64 0] 58)) := by
  have h3 := Quad.new (w.alloc (.cells #[.int .i64 a, .int .i64 b, .int .i64 c, .int .i64 d] 58)) (.int .i64 0) (.int .i64 0) (.int .i64 0) (.int .i64 0) 58
  rw [World.size_alloc] at h3
  exact ⟨bel_alloc (bel_alloc (Below.refl _ _)), (Quad.new w _ _ _ _ _).alloc _, h3⟩
set_option maxHeartbeats 16000000 in
set_option maxRecDepth 100000 in
theorem foldF_some (f : Nat) (eg : ∀ args w, (callFunc f args).run Tryd.prog w = .ok (.enter f args) w) (a0 : Option Addr) (n cap : Nat) (l : List Rp) (A B C D : Nat → Int) (w : World) (n1 : n ≤ 1000000)
    (hc : Hid (0 < n → ∃ b off, a0 = some ⟨b, off, none⟩ ∧ b < w.heap.size ∧ ∀ j, j < n → RpC w b (off + j * 8) (gP l j)))
    (hf : Hid (∀ k W, k < n → Calls Tryd.prog f #[.agg #[.int .i64 (A k), .int .i64 (B k), .int .i64 (C k), .int .i64 (D k)], .agg #[.int .i64 (gP l k).dy, .int .i64 (gP l k).dp, .int .i64 (gP l k).ht, .int .i64 (gP l k).st, .int .i64 (gP l k).vl, .int .i64 (gP l k).vh, .int .i64 (gP l k).al, .int .i64 (gP l k).ah]] W fun e w' => e = .returned (.agg #[.int .i64 (A (k + 1)), .int .i64 (B (k + 1)), .int .i64 (C (k + 1)), .int .i64 (D (k + 1))]) ∧ Below W.heap.size W w')) :
    Calls Tryd.prog 28 #[.slice a0 n cap, .agg #[.int .i64 (A 0), .int .i64 (B 0), .int .i64 (C 0), .int .i64 (D 0)], .func (.func f) #[] #[]] w fun e w' => e = .returned (.agg #[.int .i64 (A n), .int .i64 (B n), .int .i64 (C n), .int .i64 (D n)]) ∧ Below w.heap.size w w' := by
  have S0 := Lib.hid (FbI.init w (A 0) (B 0) (C 0) (D 0))
  go_enter Tryd.func28, Tryd.ntmps28
  go_wp2_with fail
  go_loopw [11] (fun ii wr => ∃ k : Nat, k ≤ n ∧ ii = .int .i64 (k : Int) ∧ Hid (FbI w (A k) (B k) (C k) (D k) wr)) (fun ii _ => n - (intOf ii).toNat)
  case atStart => exact ⟨0, by omega, rfl, S0⟩
  case round =>
    clear S0
    obtain ⟨k, hk, rfl, S0⟩ := hrel
    by_cases hlt : k < n
    · obtain ⟨b, off, rfl, hb, hcc⟩ := hc.out (by omega)
      obtain ⟨c0, c1, c2, c3, c4, c5, c6, c7⟩ := (hcc k hlt).below S0.out.1
      have lk : (k : Int) < (n : Int) := by omega
      have HP := Lib.hid (fun W => hf.out k W hlt)
      have S2 := Lib.hid (fun W (h : FbI w (A k) (B k) (C k) (D k) W) => h.put (A (k + 1)) (B (k + 1)) (C (k + 1)) (D (k + 1)))
      generalize eA1 : A (k + 1) = A1 at *
      replace eA1 := Lib.hid eA1
      generalize eB1 : B (k + 1) = B1 at *
      replace eB1 := Lib.hid eB1
      generalize eC1 : C (k + 1) = C1 at *
      replace eC1 := Lib.hid eC1
      generalize eD1 : D (k + 1) = D1 at *
      replace eD1 := Lib.hid eD1
      generalize A k = A0 at *
      generalize B k = B0 at *
      generalize C k = C0 at *
      generalize D k = D0 at *
      generalize gP l k = r at *
      obtain ⟨d, p, h, s, vl, vh, al, ah⟩ := r
      clear hc hcc hf
      obtain ⟨_, ⟨q0, q1, q2, q3, _, _⟩, _⟩ := S0.out.below (bel_alloc (o := .cells #[.int .i64 d, .int .i64 p, .int .i64 h, .int .i64 s, .int .i64 vl, .int .i64 vh, .int .i64 al, .int .i64 ah] 33) (Below.refl _ _))
      obtain ⟨d0, d1, d2, d3, d4, d5, d6, d7, _, _⟩ := Eig.new wr (.int .i64 d) (.int .i64 p) (.int .i64 h) (.int .i64 s) (.int .i64 vl) (.int .i64 vh) (.int .i64 al) (.int .i64 ah) 33
      go_wp2_with fail
      refine (HP.out _).mono ?_
      rintro e w1 ⟨rfl, gg⟩
      replace S0 := Lib.hid (S0.out.below (bel_alloc gg)); clear gg q0 q1 q2 q3 d0 d1 d2 d3 d4 d5 d6 d7
      replace S2 := Lib.hid (S2.out _ S0.out)
      obtain ⟨_, ⟨q0, q1, q2, q3, qf, _⟩, _⟩ := S0.out
      have f0 := qf 0 (by omega); have f1 := qf 1 (by omega); have f2 := qf 2 (by omega); have f3 := qf 3 (by omega)
      clear qf
      go_wp2
      go_roundw
      case rel => exact ⟨k + 1, by omega, by go_num, by rw [eA1.out, eB1.out, eC1.out, eD1.out]; exact S2⟩
      case measure => simp [intOf]; omega
    · obtain rfl : k = n := by omega
      obtain ⟨_, ⟨q0, q1, q2, q3, _, _⟩, z0, z1, z2, z3, zf, _⟩ := S0.out
      have f0 := zf 0 (by omega); have f1 := zf 1 (by omega); have f2 := zf 2 (by omega); have f3 := zf 3 (by omega)
      have P := Lib.hid (S0.out.2.2.put (.int .i64 (A k)) (.int .i64 (B k)) (.int .i64 (C k)) (.int .i64 (D k)))
      have BB := Lib.hid (Quad.putB S0.out.1 (Nat.le_succ _) (.int .i64 (A k)) (.int .i64 (B k)) (.int .i64 (C k)) (.int .i64 (D k)))
      clear zf hc hf
      generalize eA0 : A k = A0 at *
      replace eA0 := Lib.hid eA0
      generalize eB0 : B k = B0 at *
      replace eB0 := Lib.hid eB0
      generalize eC0 : C k = C0 at *
      replace eC0 := Lib.hid eC0
      generalize eD0 : D k = D0 at *
      replace eD0 := Lib.hid eD0
      go_wp2
      obtain ⟨p0, p1, p2, p3, _, _⟩ := P.out
      refine bodyPost_ret (v := .agg #[.int .i64 A0, .int .i64 B0, .int .i64 C0, .int .i64 D0]) (by simp [results, Tryd.results28, go_sem, p0, p1, p2, p3]) rfl ?_
      exact ⟨by rw [eA0.out, eB0.out, eC0.out, eD0.out], BB.out⟩
end Go.Proofs.YtbaiekoedmhhaaaDoor

/- Package gauge: Together, Total. -/
namespace Go.Proofs.YtbaiekoedmhhaaaDoor
open Go.RowKit

set_option maxHeartbeats 8000000 in
set_option maxRecDepth 100000 in
theorem idxr_some (f : Nat) (cb : Array Value) (p : Nat → Bool) (eg : ∀ args w, (callFunc f args).run Tryd.prog w = .ok (.enter f args) w)
    (b off n cap : Nat) (l : List Rp) (w : World) (n1 : n ≤ 1000) (hb : b < w.heap.size)
    (hc : Hid (∀ j, j < n → RpC w b (off + j * 8) (gP l j)))
    (hp : Hid (∀ j W, j < n → Below w.heap.size w W → Calls Tryd.prog f (#[.agg #[.int .i64 (gP l j).dy, .int .i64 (gP l j).dp, .int .i64 (gP l j).ht, .int .i64 (gP l j).st, .int .i64 (gP l j).vl, .int .i64 (gP l j).vh, .int .i64 (gP l j).al, .int .i64 (gP l j).ah]] ++ cb) W fun e w' => e = .returned (.bool (p j)) ∧ Below W.heap.size W w')) :
    Calls Tryd.prog 34 #[.slice (some ⟨b, off, none⟩) n cap, .func (.func f) #[] cb] w fun e w' => e = .returned (.int .i64 (ixR p n)) ∧ Below w.heap.size w w' := by
  go_enter Tryd.func34, Tryd.ntmps34
  go_wp2_with fail
  go_loopw [5, 8] (fun _ i wr => ∃ k : Nat, k ≤ n ∧ i = .int .i64 k ∧ Hid (Below w.heap.size w wr) ∧ Hid (∀ j, j < k → p j = false)) (fun _ i _ => n - (intOf i).toNat)
  case atStart => exact ⟨0, Nat.zero_le _, rfl, Below.refl _ _, fun j hj => by omega⟩
  case round =>
    obtain ⟨k, hk, rfl, hB, ha⟩ := hrel
    by_cases hlt : k < n
    · obtain ⟨c0, c1, c2, c3, c4, c5, c6, c7⟩ := (hc.out k hlt).below hB.out
      have HP := Lib.hid (fun W (hW : Below wr.heap.size wr W) => hp.out k W hlt (bel_trans hB.out hW))
      cases hq : p k with
      | true =>
        have hBt := Lib.hid (ixR_at hlt ha.out hq)
        rw [hq] at HP
        clear hq
        generalize gP l k = r at *
        obtain ⟨d, p', h, s, vl, vh, al, ah⟩ := r
        go_wp2_with fail
        refine (HP.out _ (by first | exact Below.refl _ _ | exact bel_alloc (Below.refl _ _) | exact bel_drew _ | exact bel_alloc (bel_alloc (Below.refl _ _)))).mono ?_
        rintro e w2 ⟨rfl, gg⟩
        have X := Lib.hid (bel_trans hB.out gg); clear gg
        go_wp2
        go_returns
        exact ⟨by rw [hBt.out]; rfl, X.out⟩
      | false =>
        have ha2 : Hid (∀ j, j < k + 1 → p j = false) := fun j hj => by
          by_cases e : j = k
          · rw [e]; exact hq
          · exact ha.out j (by omega)
        rw [hq] at HP
        clear hq ha
        generalize gP l k = r at *
        obtain ⟨d, p', h, s, vl, vh, al, ah⟩ := r
        go_wp2_with fail
        refine (HP.out _ (by first | exact Below.refl _ _ | exact bel_alloc (Below.refl _ _) | exact bel_drew _ | exact bel_alloc (bel_alloc (Below.refl _ _)))).mono ?_
        rintro e w2 ⟨rfl, gg⟩
        have X := Lib.hid (bel_trans hB.out gg); clear gg
        go_wp2
        go_roundw
        case rel => exact ⟨k + 1, by omega, by go_num, X, ha2⟩
        case measure => simp [intOf]; omega
    · obtain rfl : k = n := by omega
      have hBf := Lib.hid (ixR_no ha.out)
      go_wp2
      go_returns
      exact ⟨by rw [hBf.out]; rfl, hB.out⟩
set_option maxHeartbeats 8000000 in
theorem idxr_nil (f : Value) (a : Option Addr) (cap : Nat) (p : Nat → Bool) (w : World) :
    Calls Tryd.prog 34 #[.slice a 0 cap, f] w fun e w' => e = .returned (.int .i64 (ixR p 0)) ∧ Below w.heap.size w w' := by
  have hBf : Hid (ixR p 0 = -1) := Lib.hid (ixR_no fun j hj => by omega)
  go_enter Tryd.func34, Tryd.ntmps34
  go_wp2_with fail
  go_loopw [5, 8] (fun _ i wr => i = .int .i64 0 ∧ Hid (Below w.heap.size w wr)) (fun _ _ _ => 0)
  case atStart => exact ⟨rfl, Below.refl _ _⟩
  case round =>
    obtain ⟨rfl, hB⟩ := hrel
    go_wp2
    go_returns
    exact ⟨by rw [hBf.out]; rfl, hB.out⟩
theorem conr_of (f : Value) (v : Value) (a : Option Addr) (n cap : Nat) (hv : v = .slice a n cap) (p : Nat → Bool) (B : Bool) (w : World)
    (HI : Hid (Calls Tryd.prog 34 #[v, f] w fun e w' => e = .returned (.int .i64 (ixR p n)) ∧ Below w.heap.size w w'))
    (hB : Hid (B = true ↔ ∃ j, j < n ∧ p j = true)) :
    Calls Tryd.prog 12 #[v, f] w fun e w' => e = .returned (.bool B) ∧ Below w.heap.size w w' := by
  subst hv
  have h : decide (0 ≤ ixR p n) = B := by
    rw [Bool.eq_iff_iff, decide_eq_true_eq, ixR_iff]; exact hB.out.symm
  clear hB
  generalize ixR p n = k at *
  subst h
  go_enter Tryd.func12, Tryd.ntmps12
  go_wp2_with fail
  refine HI.out.mono ?_
  rintro e w1 ⟨rfl, hb⟩
  have HB := Lib.hid hb; clear hb
  go_wp2
  all_goals
    go_ret
    exact ⟨by simp_all, HB.out⟩

end Go.Proofs.YtbaiekoedmhhaaaDoor

/- Package gauge: Together. -/
namespace Go.Proofs.YtbaiekoedmhhaaaDoor
open Go.RowKit

/-- what stands in Together and in Total -/
def TgI (w W : World) : Prop := Below w.heap.size w W ∧ Two w.heap.size W (.int .i64 0) (.int .i64 0) ∧ Two (w.heap.size + 1) W (.int .i64 0) (.int .i64 0)
theorem TgI.below {w W W' : World} (h : TgI w W) (hb : Below W.heap.size W W') : TgI w W' := ⟨bel_trans h.1 hb, h.2.1.below hb, h.2.2.below hb⟩
theorem TgI.init (w : World) : TgI w ((w.alloc (.cells #[.int .i64 0, .int .i64 0] 25)).alloc (.cells #[.int .i64 0, .int .i64 0] 25)) := by
  have h3 := Two.new (w.alloc (.cells #[.int .i64 0, .int .i64 0] 25)) (.int .i64 0) (.int .i64 0) 25
  rw [World.size_alloc] at h3
  exact ⟨bel_alloc (bel_alloc (Below.refl _ _)), (Two.new w _ _ _).alloc _, h3⟩
theorem TgI.put {w W : World} (h : TgI w W) (a b c d : Value) :
    (Two w.heap.size ((((W.setCell ⟨w.heap.size, 0, none⟩ a).setCell ⟨w.heap.size, 1, none⟩ b).setCell ⟨w.heap.size + 1, 0, none⟩ c).setCell ⟨w.heap.size + 1, 1, none⟩ d) a b ∧ Two (w.heap.size + 1) ((((W.setCell ⟨w.heap.size, 0, none⟩ a).setCell ⟨w.heap.size, 1, none⟩ b).setCell ⟨w.heap.size + 1, 0, none⟩ c).setCell ⟨w.heap.size + 1, 1, none⟩ d) c d) ∧
    Below w.heap.size w ((((W.setCell ⟨w.heap.size, 0, none⟩ a).setCell ⟨w.heap.size, 1, none⟩ b).setCell ⟨w.heap.size + 1, 0, none⟩ c).setCell ⟨w.heap.size + 1, 1, none⟩ d) := by
  refine ⟨⟨?_, ?_⟩, ?_⟩
  · exact (((h.2.1.set0 a).set1 b).other ⟨w.heap.size + 1, 0, none⟩ (by show w.heap.size + 1 ≠ w.heap.size; omega) c).other ⟨w.heap.size + 1, 1, none⟩ (by show w.heap.size + 1 ≠ w.heap.size; omega) d
  · exact (((h.2.2.other ⟨w.heap.size, 0, none⟩ (by show w.heap.size ≠ w.heap.size + 1; omega) a).other ⟨w.heap.size, 1, none⟩ (by show w.heap.size ≠ w.heap.size + 1; omega) b).set0 c).set1 d
  · exact (((h.1.setCell (p := ⟨w.heap.size, 0, none⟩) (Nat.le_refl _) _).setCell (p := ⟨w.heap.size, 1, none⟩) (Nat.le_refl _) _).setCell (p := ⟨w.heap.size + 1, 0, none⟩) (Nat.le_succ _) _).setCell (p := ⟨w.heap.size + 1, 1, none⟩) (Nat.le_succ _) _
set_option maxHeartbeats 8000000 in
theorem gTog_nil (a : Option Addr) (cap : Nat) (w : World) :
    Calls Tryd.prog 7 #[.slice a 0 cap] w fun e w' => e = .returned (.tuple #[.agg #[.int .i64 0, .int .i64 0], .agg #[.int .i64 0, .int .i64 0], .int .i64 9]) ∧ Below w.heap.size w w' := by
  have S0 := Lib.hid (TgI.init w)
  go_enter Tryd.func7, Tryd.ntmps7
  go_upto_region 2 with fail
  have BB := Lib.hid (S0.out.put (.int .i64 0) (.int .i64 0) (.int .i64 0) (.int .i64 0))
  obtain ⟨_, ⟨z0, z1, f0, f1, _⟩, y0, y1, g0, g1, _⟩ := S0.out
  generalize (w.alloc (.cells #[.int .i64 0, .int .i64 0] 25)).alloc (.cells #[.int .i64 0, .int .i64 0] 25) = WW at *
  go_wp2
  obtain ⟨⟨⟨p0, p1, _, _, _⟩, r0, r1, _, _, _⟩, B⟩ := BB.out
  refine bodyPost_ret (v := .tuple #[.agg #[.int .i64 0, .int .i64 0], .agg #[.int .i64 0, .int .i64 0], .int .i64 9]) (by simp [results, Tryd.results7, go_sem, p0, p1, r0, r1]) rfl ?_
  exact ⟨rfl, B⟩
set_option maxHeartbeats 32000000 in
set_option maxRecDepth 100000 in
theorem gTog_core (b off m cap : Nat) (d p h s vl vh al ah R0 R1 R2 R3 T0 T1 T2 T3 E V : Int) (B : Bool) (w : World) (hb : b < w.heap.size)
    (hc : Hid (RpC w b off ⟨d, p, h, s, vl, vh, al, ah⟩))
    (hV : ((E != 0) = true ∧ V = E ∧ T0 = 0 ∧ T1 = 0 ∧ T2 = 0 ∧ T3 = 0) ∨ (E = 0 ∧ B = true ∧ V = 10 ∧ T0 = 0 ∧ T1 = 0 ∧ T2 = 0 ∧ T3 = 0) ∨ (E = 0 ∧ B = false ∧ R1 < R0 ∧ V = 18 ∧ T0 = 0 ∧ T1 = 0 ∧ T2 = 0 ∧ T3 = 0) ∨ (E = 0 ∧ B = false ∧ R0 ≤ R1 ∧ V = 0 ∧ T0 = R0 ∧ T1 = R1 ∧ T2 = R2 ∧ T3 = R3))
    (H1 : Hid (∀ W, Below w.heap.size w W → Calls Tryd.prog 26 #[.slice (some ⟨b, off, none⟩) (m + 1) cap] W fun e w' => e = .returned (.int .i64 E) ∧ Below W.heap.size W w'))
    (H2 : Hid (E = 0 → ∀ W q, Below w.heap.size w W → Eig q W (.int .i64 d) (.int .i64 p) (.int .i64 h) (.int .i64 s) (.int .i64 vl) (.int .i64 vh) (.int .i64 al) (.int .i64 ah) → Calls Tryd.prog 12 #[.slice (some ⟨b, off, none⟩) (m + 1) cap, .func (.func 27) #[] #[.pointer (some ⟨q, 0, none⟩)]] W fun e w' => e = .returned (.bool B) ∧ Below W.heap.size W w'))
    (H3 : Hid (E = 0 → ∀ W, Below w.heap.size w W → Calls Tryd.prog 28 #[.slice (some ⟨b, off, none⟩) (m + 1) cap, .agg #[.int .i64 vl, .int .i64 vh, .int .i64 al, .int .i64 ah], .func (.func 29) #[] #[]] W fun e w' => e = .returned (.agg #[.int .i64 R0, .int .i64 R1, .int .i64 R2, .int .i64 R3]) ∧ Below W.heap.size W w')) :
    Calls Tryd.prog 7 #[.slice (some ⟨b, off, none⟩) (m + 1) cap] w fun e w' => e = .returned (.tuple #[.agg #[.int .i64 T0, .int .i64 T1], .agg #[.int .i64 T2, .int .i64 T3], .int .i64 V]) ∧ Below w.heap.size w w' := by
  have hmf : ∀ (fn : Fn) (first cap : Array Value) (w : World), (Instr.makeFunc fn first cap).run Tryd.prog w = .ok (.func fn first cap) w := fun _ _ _ _ => rfl
  have S0 := Lib.hid (TgI.init w)
  have nz : (((m : Int) + 1) == 0) = false := by simp; omega
  have wk4 : (0 : Int) < (m : Int) + 1 := by omega
  have CC := Lib.hid (fun W (hW : Below w.heap.size w W) => hc.out.below hW)
  clear hc
  go_enter Tryd.func7, Tryd.ntmps7
  go_wp2_with fail
  refine (H1.out _ S0.out.1).mono ?_
  rintro e w1 ⟨rfl, gg⟩
  replace S0 := Lib.hid (S0.out.below gg); clear gg
  by_cases e1 : E = 0
  · subst e1
    have hV' : (B = true ∧ V = 10 ∧ T0 = 0 ∧ T1 = 0 ∧ T2 = 0 ∧ T3 = 0) ∨ (B = false ∧ R1 < R0 ∧ V = 18 ∧ T0 = 0 ∧ T1 = 0 ∧ T2 = 0 ∧ T3 = 0) ∨ (B = false ∧ R0 ≤ R1 ∧ V = 0 ∧ T0 = R0 ∧ T1 = R1 ∧ T2 = R2 ∧ T3 = R3) := by
      rcases hV with ⟨q, _⟩ | ⟨_, q⟩ | ⟨_, q⟩ | ⟨_, q⟩
      · simp at q
      · exact .inl q
      · exact .inr (.inl q)
      · exact .inr (.inr q)
    clear hV
    replace H2 := Lib.hid (H2.out rfl)
    replace H3 := Lib.hid (H3.out rfl)
    obtain ⟨c0, c1, c2, c3, c4, c5, c6, c7⟩ := CC.out _ S0.out.1
    have S1 := Lib.hid (S0.out.below (bel_alloc (o := .cells #[.int .i64 d, .int .i64 p, .int .i64 h, .int .i64 s, .int .i64 vl, .int .i64 vh, .int .i64 al, .int .i64 ah] 33) (Below.refl _ _)))
    have P1 := Lib.hid (Eig.new w1 (.int .i64 d) (.int .i64 p) (.int .i64 h) (.int .i64 s) (.int .i64 vl) (.int .i64 vh) (.int .i64 al) (.int .i64 ah) 33)
    have HQ := Lib.hid (H2.out _ _ S1.out.1 P1.out)
    clear S0
    go_wp2_with fail
    refine HQ.out.mono ?_
    rintro e w2 ⟨rfl, gg⟩
    replace S1 := Lib.hid (S1.out.below gg)
    replace P1 := Lib.hid (P1.out.below gg); clear gg c0 c1 c2 c3 c4 c5 c6 c7 HQ
    generalize hq1 : w1.heap.size = u1 at *
    replace hq1 := Lib.hid hq1
    rcases hV' with ⟨rfl, rfl, rfl, rfl, rfl, rfl⟩ | hV'
    · have BB := Lib.hid (S1.out.put (.int .i64 0) (.int .i64 0) (.int .i64 0) (.int .i64 0))
      obtain ⟨_, ⟨z0, z1, f0, f1, _⟩, y0, y1, g0, g1, _⟩ := S1.out
      go_wp2
      obtain ⟨⟨⟨p0, p1, _, _, _⟩, r0, r1, _, _, _⟩, B⟩ := BB.out
      refine bodyPost_ret (v := .tuple #[.agg #[.int .i64 0, .int .i64 0], .agg #[.int .i64 0, .int .i64 0], .int .i64 10]) (by simp [results, Tryd.results7, go_sem, p0, p1, r0, r1]) rfl ?_
      exact ⟨rfl, B⟩
    · obtain rfl : B = false := by
        rcases hV' with ⟨q, _⟩ | ⟨q, _⟩
        · exact q
        · exact q
      have hV2 : (R1 < R0 ∧ V = 18 ∧ T0 = 0 ∧ T1 = 0 ∧ T2 = 0 ∧ T3 = 0) ∨ (R0 ≤ R1 ∧ V = 0 ∧ T0 = R0 ∧ T1 = R1 ∧ T2 = R2 ∧ T3 = R3) := by
        rcases hV' with ⟨_, q⟩ | ⟨_, q⟩
        · exact .inl q
        · exact .inr q
      clear hV'
      have HQ := Lib.hid (H3.out _ S1.out.1)
      obtain ⟨d0, d1, d2, d3, d4, d5, d6, d7, _, _⟩ := P1.out
      go_wp2_with fail
      refine HQ.out.mono ?_
      rintro e w3 ⟨rfl, gg⟩
      have BS := (S1.out.below gg).2.2.2.2.2.2
      replace S1 := Lib.hid ((S1.out.below gg).below (bel_alloc (o := .cells #[.int .i64 R0, .int .i64 R1, .int .i64 R2, .int .i64 R3] 58) (Below.refl _ _))); clear gg d0 d1 d2 d3 d4 d5 d6 d7 HQ
      have Q1 := Lib.hid (Quad.new w3 (.int .i64 R0) (.int .i64 R1) (.int .i64 R2) (.int .i64 R3) 58)
      go_upto_region 11 with fail
      generalize w3.alloc (.cells #[.int .i64 R0, .int .i64 R1, .int .i64 R2, .int .i64 R3] 58) = WW at *
      have n1 : w.heap.size ≠ w3.heap.size := by omega
      have n2 : w3.heap.size ≠ w.heap.size := by omega
      generalize hq3 : w3.heap.size = u3 at *
      replace hq3 := Lib.hid hq3
      rcases hV2 with ⟨g, rfl, rfl, rfl, rfl, rfl⟩ | ⟨g, rfl, rfl, rfl, rfl, rfl⟩
      · have dg : decide (R1 < R0) = true := decide_eq_true (by omega)
        have BB := Lib.hid (S1.out.put (.int .i64 0) (.int .i64 0) (.int .i64 0) (.int .i64 0))
        obtain ⟨_, ⟨z0, z1, f0, f1, _⟩, y0, y1, g0, g1, _⟩ := S1.out
        obtain ⟨q0, q1, q2, q3, _, _⟩ := Q1.out
        go_wp2
        obtain ⟨⟨⟨p0, p1, _, _, _⟩, r0, r1, _, _, _⟩, B⟩ := BB.out
        refine bodyPost_ret (v := .tuple #[.agg #[.int .i64 0, .int .i64 0], .agg #[.int .i64 0, .int .i64 0], .int .i64 18]) (by simp [results, Tryd.results7, go_sem, p0, p1, r0, r1]) rfl ?_
        exact ⟨rfl, B⟩
      · have dg : decide (T1 < T0) = false := decide_eq_false (by omega)
        have BB := Lib.hid (S1.out.put (.int .i64 T0) (.int .i64 T1) (.int .i64 T2) (.int .i64 T3))
        obtain ⟨_, ⟨z0, z1, f0, f1, _⟩, y0, y1, g0, g1, _⟩ := S1.out
        obtain ⟨q0, q1, q2, q3, _, _⟩ := Q1.out
        have n3 : w.heap.size + 1 ≠ u3 := by omega
        have n4 : u3 ≠ w.heap.size + 1 := by omega
        go_upto_region 13 with fail
        go_region
        all_goals go_wp2
        all_goals obtain ⟨⟨⟨p0, p1, _, _, _⟩, r0, r1, _, _, _⟩, B⟩ := BB.out
        all_goals refine bodyPost_ret (v := .tuple #[.agg #[.int .i64 T0, .int .i64 T1], .agg #[.int .i64 T2, .int .i64 T3], .int .i64 0]) (by simp [results, Tryd.results7, go_sem, p0, p1, r0, r1]) rfl ?_
        all_goals exact ⟨rfl, by first | exact B | exact bel_trans B (bel_drew _)⟩
  · have q : (E != 0) = true := by simpa using e1
    obtain ⟨rfl, rfl, rfl, rfl, rfl⟩ : V = E ∧ T0 = 0 ∧ T1 = 0 ∧ T2 = 0 ∧ T3 = 0 := by
      rcases hV with ⟨_, r⟩ | ⟨r, _⟩ | ⟨r, _⟩ | ⟨r, _⟩
      · exact r
      · exact absurd r e1
      · exact absurd r e1
      · exact absurd r e1
    clear hV
    have BB := Lib.hid (S0.out.put (.int .i64 0) (.int .i64 0) (.int .i64 0) (.int .i64 0))
    obtain ⟨_, ⟨z0, z1, f0, f1, _⟩, y0, y1, g0, g1, _⟩ := S0.out
    go_wp2
    obtain ⟨⟨⟨p0, p1, _, _, _⟩, r0, r1, _, _, _⟩, B⟩ := BB.out
    refine bodyPost_ret (v := .tuple #[.agg #[.int .i64 0, .int .i64 0], .agg #[.int .i64 0, .int .i64 0], .int .i64 V]) (by simp [results, Tryd.results7, go_sem, p0, p1, r0, r1]) rfl ?_
    exact ⟨rfl, B⟩
set_option maxHeartbeats 4000000 in
theorem gTog1_any (d p h s vl vh al ah : Int) (r : Rp) (q : Nat) (w : World) (hq : Eig q w (.int .i64 d) (.int .i64 p) (.int .i64 h) (.int .i64 s) (.int .i64 vl) (.int .i64 vh) (.int .i64 al) (.int .i64 ah)) :
    Calls Tryd.prog 27 #[.agg #[.int .i64 r.dy, .int .i64 r.dp, .int .i64 r.ht, .int .i64 r.st, .int .i64 r.vl, .int .i64 r.vh, .int .i64 r.al, .int .i64 r.ah], .pointer (some ⟨q, 0, none⟩)] w fun e w' => e = .returned (.bool (decide (r.dy ≠ d) || decide (r.st ≠ s))) ∧ Below w.heap.size w w' := by
  obtain ⟨d', p', h', s', vl', vh', al', ah'⟩ := r
  have hl := hq.2.2.2.2.2.2.2.2.2
  have X0 := Lib.hid (bel_alloc (w := w) (o := .cells #[.int .i64 d', .int .i64 p', .int .i64 h', .int .i64 s', .int .i64 vl', .int .i64 vh', .int .i64 al', .int .i64 ah'] 33) (Below.refl _ _))
  obtain ⟨c0, c1, c2, c3, c4, c5, c6, c7, _, _⟩ := Eig.new w (.int .i64 d') (.int .i64 p') (.int .i64 h') (.int .i64 s') (.int .i64 vl') (.int .i64 vh') (.int .i64 al') (.int .i64 ah') 33
  obtain ⟨e0, e1, e2, e3, e4, e5, e6, e7, _, _⟩ := hq.alloc (.cells #[.int .i64 d', .int .i64 p', .int .i64 h', .int .i64 s', .int .i64 vl', .int .i64 vh', .int .i64 al', .int .i64 ah'] 33)
  have n1 : q ≠ w.heap.size := by omega
  have n2 : w.heap.size ≠ q := by omega
  clear hq hl
  show Calls _ _ _ _ fun e w' => e = .returned (.bool (decide (d' ≠ d) || decide (s' ≠ s))) ∧ _
  by_cases g : d' = d
  · have g1 : (d' != d) = false := by simpa using g
    have g3 : (decide (d' ≠ d) || decide (s' ≠ s)) = (s' != s) := by rw [decide_eq_false (by simpa using g), Bool.false_or]; rw [Bool.eq_iff_iff]; simp
    rw [g3]
    clear g3 g1
    subst g
    have g1 : (d' != d') = false := by simp
    generalize hB : (s' != s) = B
    go_enter Tryd.func27, Tryd.ntmps27
    go_wp2
    go_returns
    exact ⟨by first | rfl | simp_all, X0.out⟩
  · have g1 : (d' != d) = true := by simpa using g
    have g3 : (decide (d' ≠ d) || decide (s' ≠ s)) = true := by rw [decide_eq_true g, Bool.true_or]
    rw [g3]
    clear g3
    go_enter Tryd.func27, Tryd.ntmps27
    go_wp2
    go_returns
    exact ⟨by first | rfl | simp_all, X0.out⟩
/-- greatest and least values of the first reports -/
def mxS (f : Rp → Int) (l : List Rp) : Nat → Int
  | 0 => f (gP l 0)
  | k + 1 => max (mxS f l k) (f (gP l k))
def mnS (f : Rp → Int) (l : List Rp) : Nat → Int
  | 0 => f (gP l 0)
  | k + 1 => min (mnS f l k) (f (gP l k))
def otB (l : List Rp) : Bool := (List.range l.length).any fun j => decide ((gP l j).dy ≠ (gP l 0).dy) || decide ((gP l j).st ≠ (gP l 0).st)
theorem otB_iff {l : List Rp} : otB l = true ↔ ∃ j, j < l.length ∧ (decide ((gP l j).dy ≠ (gP l 0).dy) || decide ((gP l j).st ≠ (gP l 0).st)) = true := by
  unfold otB; rw [List.any_eq_true]; simp
/-- what Together returns -/
def tgE (l : List Rp) : Int := if l.length = 0 then 9 else if glE l ≠ 0 then glE l else if otB l = true then 10 else if mnS Rp.vh l l.length < mxS Rp.vl l l.length then 18 else 0
def tg (x : Int) (l : List Rp) : Int := if tgE l = 0 then x else 0
theorem gTog_any (v : Value) (l : List Rp) (w : World) (hv : Rps w v l) :
    Calls Tryd.prog 7 #[v] w fun e w' => e = .returned (.tuple #[.agg #[.int .i64 (tg (mxS Rp.vl l l.length) l), .int .i64 (tg (mnS Rp.vh l l.length) l)], .agg #[.int .i64 (tg (mxS Rp.al l l.length) l), .int .i64 (tg (mnS Rp.ah l l.length) l)], .int .i64 (tgE l)]) ∧ Below w.heap.size w w' := by
  have H1 : Hid (∀ W, Below w.heap.size w W → _) := Lib.hid fun W hW => gchk_any v l W (hv.below hW)
  obtain ⟨a, cap, rfl, ⟨hc1, hc2⟩, hh⟩ := hv
  by_cases h0 : l.length = 0
  · have e : tgE l = 9 := by unfold tgE; rw [if_pos h0]
    have e2 : ∀ x, tg x l = 0 := fun x => by unfold tg; rw [e]; rfl
    rw [e, e2, e2, e2, e2, h0]
    exact gTog_nil a cap w
  · rcases hh with h | ⟨b, off, rfl, hb, hc⟩
    · exact absurd h h0
    obtain ⟨m, hm⟩ : ∃ m, l.length = m + 1 := ⟨l.length - 1, by omega⟩
    have eE : tgE l = if glE l ≠ 0 then glE l else if otB l = true then 10 else if mnS Rp.vh l l.length < mxS Rp.vl l l.length then 18 else 0 := by unfold tgE; rw [if_neg h0]
    have small : glE l = 0 → l.length ≤ 64 := fun h => by
      unfold glE at h
      split at h
      · omega
      · omega
    have hz : tgE l ≠ 0 → ∀ x, tg x l = 0 := fun h x => by unfold tg; rw [if_neg h]
    have hz2 : tgE l = 0 → ∀ x, tg x l = x := fun h x => by unfold tg; rw [if_pos h]
    have H2 : Hid (glE l = 0 → ∀ W q, Below w.heap.size w W → Eig q W (.int .i64 (gP l 0).dy) (.int .i64 (gP l 0).dp) (.int .i64 (gP l 0).ht) (.int .i64 (gP l 0).st) (.int .i64 (gP l 0).vl) (.int .i64 (gP l 0).vh) (.int .i64 (gP l 0).al) (.int .i64 (gP l 0).ah) → _) := Lib.hid fun he W q hW hq =>
      conr_of (.func (.func 27) #[] #[.pointer (some ⟨q, 0, none⟩)]) (.slice (some ⟨b, off, none⟩) l.length cap) (some ⟨b, off, none⟩) l.length cap rfl (fun j => decide ((gP l j).dy ≠ (gP l 0).dy) || decide ((gP l j).st ≠ (gP l 0).st)) (otB l) W (Lib.hid (idxr_some 27 #[.pointer (some ⟨q, 0, none⟩)] _ (enters_of Tryd.func27 (by kernel_rfl) rfl) b off _ cap l W (by have := small he; omega) (Nat.lt_of_lt_of_le hb hW.size) (Lib.hid fun j hj => (hc j hj).below hW) (Lib.hid fun j W2 hj hW2 => gTog1_any _ _ _ _ _ _ _ _ (gP l j) q W2 (hq.below hW2)))) (Lib.hid otB_iff)
    have H3 : Hid (glE l = 0 → ∀ W, Below w.heap.size w W → _) := Lib.hid fun he W hW => foldF_some 29 (enters_of Tryd.func29 (by kernel_rfl) rfl) (some ⟨b, off, none⟩) l.length cap l (mxS Rp.vl l) (mnS Rp.vh l) (mxS Rp.al l) (mnS Rp.ah l) W (by have := small he; omega) (Lib.hid fun _ => ⟨b, off, rfl, Nat.lt_of_lt_of_le hb hW.size, fun j hj => (hc j hj).below hW⟩) (Lib.hid fun k W2 hk => gTog2_any _ _ _ _ (gP l k) W2)
    have c0 := hc 0 (by omega)
    rw [show off + 0 * 8 = off by omega] at c0
    rw [hm] at H1 H2 H3
    have e8 : l.length = m + 1 := hm
    generalize hR0 : mxS Rp.vl l (m + 1) = R0 at *
    generalize hR1 : mnS Rp.vh l (m + 1) = R1 at *
    generalize hR2 : mxS Rp.al l (m + 1) = R2 at *
    generalize hR3 : mnS Rp.ah l (m + 1) = R3 at *
    rw [hm, hR0, hR1] at eE
    rw [hm, hR0, hR1, hR2, hR3]
    refine gTog_core b off m cap (gP l 0).dy (gP l 0).dp (gP l 0).ht (gP l 0).st (gP l 0).vl (gP l 0).vh (gP l 0).al (gP l 0).ah R0 R1 R2 R3 _ _ _ _ (glE l) _ (otB l) w hb (Lib.hid c0) ?_ H1 H2 H3
    by_cases g : glE l = 0
    · right
      rw [if_neg (by simpa using g)] at eE
      cases q : otB l with
      | true =>
        left
        rw [if_pos q] at eE
        have h := hz (by omega)
        exact ⟨g, rfl, eE, h _, h _, h _, h _⟩
      | false =>
        right
        rw [if_neg (by rw [q]; simp)] at eE
        by_cases r : R1 < R0
        · left
          rw [if_pos r] at eE
          have h := hz (by omega)
          exact ⟨g, rfl, r, eE, h _, h _, h _, h _⟩
        · right
          rw [if_neg r] at eE
          have h := hz2 eE
          exact ⟨g, rfl, by omega, eE, h _, h _, h _, h _⟩
    · left
      rw [if_pos g] at eE
      have h := hz (by omega)
      exact ⟨by simpa using g, eE, h _, h _, h _, h _⟩
end Go.Proofs.YtbaiekoedmhhaaaDoor

/- Package gauge: Total. -/
namespace Go.Proofs.YtbaiekoedmhhaaaDoor
open Go.RowKit

set_option maxHeartbeats 16000000 in
set_option maxRecDepth 100000 in
theorem gTot1_any (a b c d : Int) (r : Rp) (w : World) (h1 : -9223372036854775808 ≤ a + r.vl ∧ a + r.vl ≤ 9223372036854775807) (h2 : -9223372036854775808 ≤ b + r.vh ∧ b + r.vh ≤ 9223372036854775807) (h3 : -9223372036854775808 ≤ c + r.al ∧ c + r.al ≤ 9223372036854775807) (h4 : -9223372036854775808 ≤ d + r.ah ∧ d + r.ah ≤ 9223372036854775807) :
    Calls Tryd.prog 32 #[.agg #[.int .i64 a, .int .i64 b, .int .i64 c, .int .i64 d], .agg #[.int .i64 r.dy, .int .i64 r.dp, .int .i64 r.ht, .int .i64 r.st, .int .i64 r.vl, .int .i64 r.vh, .int .i64 r.al, .int .i64 r.ah]] w fun e w' => e = .returned (.agg #[.int .i64 (a + r.vl), .int .i64 (b + r.vh), .int .i64 (c + r.al), .int .i64 (d + r.ah)]) ∧ Below w.heap.size w w' := by
  have H1 := Lib.hid (fun W => gSum_any a b r.vl r.vh W h1 h2)
  have H2 := Lib.hid (fun W => gSum_any c d r.al r.ah W h3 h4)
  clear h1 h2 h3 h4
  obtain ⟨d', p, h, s, vl, vh, al, ah⟩ := r
  show Calls _ _ _ _ fun e w' => e = .returned (.agg #[.int .i64 (a + vl), .int .i64 (b + vh), .int .i64 (c + al), .int .i64 (d + ah)]) ∧ _
  have S0 := Lib.hid (CbI.init w a b c d d' p h s vl vh al ah)
  generalize a + vl = R0 at *
  generalize b + vh = R1 at *
  generalize c + al = R2 at *
  generalize d + ah = R3 at *
  obtain ⟨_, ⟨q0, q1, q2, q3, _, _⟩, ⟨e0, e1, e2, e3, e4, e5, e6, e7, _, _⟩, z0, z1, z2, z3, zf, _⟩ := S0.out
  go_enter Tryd.func32, Tryd.ntmps32
  go_upto_region 1 with fail
  have hz1 : w.heap.size ≤ w.heap.size + 1 + 1 := by omega
  have hz2 : w.heap.size + 1 < w.heap.size + 1 + 1 := by omega
  generalize w.heap.size + 1 + 1 = z at *
  replace S0 := Lib.hid (S0.out.below (bel_drew _))
  have y1 : w.heap.size + 1 ≠ z := by omega
  have y2 : z ≠ w.heap.size + 1 := by omega
  have y3 : w.heap.size ≠ z := by omega
  have y4 : z ≠ w.heap.size := by omega
  have f0 := zf 0 (by omega); have f1 := zf 1 (by omega); have f2 := zf 2 (by omega); have f3 := zf 3 (by omega)
  clear zf
  go_region_held3 (fun w' => w'.cell? ⟨w.heap.size, 0, none⟩ = some (.int .i64 a) ∧ w'.cell? ⟨w.heap.size, 1, none⟩ = some (.int .i64 b) ∧ w'.cell? ⟨w.heap.size, 2, none⟩ = some (.int .i64 c) ∧ w'.cell? ⟨w.heap.size, 3, none⟩ = some (.int .i64 d) ∧ w'.cell? ⟨w.heap.size + 1, 4, none⟩ = some (.int .i64 vl) ∧ w'.cell? ⟨w.heap.size + 1, 5, none⟩ = some (.int .i64 vh) ∧ w'.cell? ⟨w.heap.size + 1, 6, none⟩ = some (.int .i64 al) ∧ w'.cell? ⟨w.heap.size + 1, 7, none⟩ = some (.int .i64 ah)) (go_keep) (first
    | (go_at_call 33; (with_reducible refine (H1.out _).mono ?_); rintro e w4 ⟨rfl, gg⟩; replace S0 := Lib.hid (S0.out.below gg); obtain ⟨_, ⟨q0, q1, q2, q3, _, _⟩, ⟨e0, e1, e2, e3, e4, e5, e6, e7, _, _⟩, z0, z1, z2, z3, zf, _⟩ := S0.out; have f0 := zf 0 (by omega); have f1 := zf 1 (by omega); have f2 := zf 2 (by omega); have f3 := zf 3 (by omega); clear gg zf)
    | (go_at_call 33; (with_reducible refine (H2.out _).mono ?_); rintro e w5 ⟨rfl, gg⟩; replace S0 := Lib.hid (S0.out.below gg); obtain ⟨_, ⟨q0, q1, q2, q3, _, _⟩, ⟨e0, e1, e2, e3, e4, e5, e6, e7, _, _⟩, z0, z1, z2, z3, zf, _⟩ := S0.out; have f0 := zf 0 (by omega); have f1 := zf 1 (by omega); have f2 := zf 2 (by omega); have f3 := zf 3 (by omega); clear gg zf))
  all_goals
    have P := Lib.hid (S0.out.2.2.2.put (.int .i64 R0) (.int .i64 R1) (.int .i64 R2) (.int .i64 R3))
    have BB := Lib.hid (Quad.putB S0.out.1 hz1 (.int .i64 R0) (.int .i64 R1) (.int .i64 R2) (.int .i64 R3))
    go_wp2
    obtain ⟨p0, p1, p2, p3, _, _⟩ := P.out
    refine bodyPost_ret (v := .agg #[.int .i64 R0, .int .i64 R1, .int .i64 R2, .int .i64 R3]) (by simp [results, Tryd.results32, go_sem, p0, p1, p2, p3]) rfl ?_
    exact ⟨rfl, BB.out⟩
set_option maxHeartbeats 32000000 in
set_option maxRecDepth 100000 in
theorem gTot_core (a : Option Addr) (n cap : Nat) (R0 R1 R2 R3 T0 T1 T2 T3 E V : Int) (w : World)
    (hV : ((E != 0) = true ∧ V = E ∧ T0 = 0 ∧ T1 = 0 ∧ T2 = 0 ∧ T3 = 0) ∨ (E = 0 ∧ V = 0 ∧ T0 = R0 ∧ T1 = R1 ∧ T2 = R2 ∧ T3 = R3))
    (H1 : Hid (∀ W, Below w.heap.size w W → Calls Tryd.prog 26 #[.slice a n cap] W fun e w' => e = .returned (.int .i64 E) ∧ Below W.heap.size W w'))
    (H3 : Hid (E = 0 → ∀ W, Below w.heap.size w W → Calls Tryd.prog 28 #[.slice a n cap, .agg #[.int .i64 0, .int .i64 0, .int .i64 0, .int .i64 0], .func (.func 32) #[] #[]] W fun e w' => e = .returned (.agg #[.int .i64 R0, .int .i64 R1, .int .i64 R2, .int .i64 R3]) ∧ Below W.heap.size W w')) :
    Calls Tryd.prog 10 #[.slice a n cap] w fun e w' => e = .returned (.tuple #[.agg #[.int .i64 T0, .int .i64 T1], .agg #[.int .i64 T2, .int .i64 T3], .int .i64 V]) ∧ Below w.heap.size w w' := by
  have S0 := Lib.hid (TgI.init w)
  go_enter Tryd.func10, Tryd.ntmps10
  go_wp2_with fail
  refine (H1.out _ S0.out.1).mono ?_
  rintro e w1 ⟨rfl, gg⟩
  replace S0 := Lib.hid (S0.out.below gg); clear gg
  rcases hV with ⟨q, rfl, rfl, rfl, rfl, rfl⟩ | ⟨rfl, rfl, rfl, rfl, rfl, rfl⟩
  · have BB := Lib.hid (S0.out.put (.int .i64 0) (.int .i64 0) (.int .i64 0) (.int .i64 0))
    obtain ⟨_, ⟨z0, z1, f0, f1, _⟩, y0, y1, g0, g1, _⟩ := S0.out
    go_wp2
    obtain ⟨⟨⟨p0, p1, _, _, _⟩, r0, r1, _, _, _⟩, B⟩ := BB.out
    refine bodyPost_ret (v := .tuple #[.agg #[.int .i64 0, .int .i64 0], .agg #[.int .i64 0, .int .i64 0], .int .i64 V]) (by simp [results, Tryd.results10, go_sem, p0, p1, r0, r1]) rfl ?_
    exact ⟨rfl, B⟩
  · replace H3 := Lib.hid (H3.out rfl)
    go_wp2_with fail
    refine (H3.out _ S0.out.1).mono ?_
    rintro e w3 ⟨rfl, gg⟩
    have BS := (S0.out.below gg).2.2.2.2.2.2
    have S1 := Lib.hid ((S0.out.below gg).below (bel_alloc (o := .cells #[.int .i64 T0, .int .i64 T1, .int .i64 T2, .int .i64 T3] 58) (Below.refl _ _))); clear gg S0
    have Q1 := Lib.hid (Quad.new w3 (.int .i64 T0) (.int .i64 T1) (.int .i64 T2) (.int .i64 T3) 58)
    go_upto_region 5 with fail
    generalize w3.alloc (.cells #[.int .i64 T0, .int .i64 T1, .int .i64 T2, .int .i64 T3] 58) = WW at *
    have n1 : w.heap.size ≠ w3.heap.size := by omega
    have n2 : w3.heap.size ≠ w.heap.size := by omega
    have n3 : w.heap.size + 1 ≠ w3.heap.size := by omega
    have n4 : w3.heap.size ≠ w.heap.size + 1 := by omega
    generalize hq3 : w3.heap.size = u3 at *
    replace hq3 := Lib.hid hq3
    have BB := Lib.hid (S1.out.put (.int .i64 T0) (.int .i64 T1) (.int .i64 T2) (.int .i64 T3))
    obtain ⟨_, ⟨z0, z1, f0, f1, _⟩, y0, y1, g0, g1, _⟩ := S1.out
    obtain ⟨q0, q1, q2, q3, _, _⟩ := Q1.out
    go_region
    all_goals go_wp2
    all_goals obtain ⟨⟨⟨p0, p1, _, _, _⟩, r0, r1, _, _, _⟩, B⟩ := BB.out
    all_goals refine bodyPost_ret (v := .tuple #[.agg #[.int .i64 T0, .int .i64 T1], .agg #[.int .i64 T2, .int .i64 T3], .int .i64 0]) (by simp [results, Tryd.results10, go_sem, p0, p1, r0, r1]) rfl ?_
    all_goals exact ⟨rfl, by first | exact B | exact bel_trans B (bel_drew _)⟩
def smS (f : Rp → Int) (l : List Rp) : Nat → Int
  | 0 => 0
  | k + 1 => smS f l k + f (gP l k)
theorem smS_bd {f : Rp → Int} {l : List Rp} {M : Int} {n : Nat} (h : ∀ j, j < n → 0 ≤ f (gP l j) ∧ f (gP l j) ≤ M) (hM : 0 ≤ M) (k : Nat) (hk : k ≤ n) : 0 ≤ smS f l k ∧ smS f l k ≤ k * M := by
  induction k with
  | zero => simp [smS]
  | succ k ih =>
    have := ih (by omega)
    have := h k (by omega)
    have e : ((k + 1 : Nat) : Int) * M = k * M + M := by rw [Int.natCast_add, Int.add_mul]; simp
    show 0 ≤ smS f l k + f (gP l k) ∧ smS f l k + f (gP l k) ≤ _
    omega
/-- what Total returns -/
def tt (x : Int) (l : List Rp) : Int := if glE l = 0 then x else 0
theorem gTot_any (v : Value) (l : List Rp) (w : World) (hv : Rps w v l) :
    Calls Tryd.prog 10 #[v] w fun e w' => e = .returned (.tuple #[.agg #[.int .i64 (tt (smS Rp.vl l l.length) l), .int .i64 (tt (smS Rp.vh l l.length) l)], .agg #[.int .i64 (tt (smS Rp.al l l.length) l), .int .i64 (tt (smS Rp.ah l l.length) l)], .int .i64 (glE l)]) ∧ Below w.heap.size w w' := by
  have H1 : Hid (∀ W, Below w.heap.size w W → _) := Lib.hid fun W hW => gchk_any v l W (hv.below hW)
  obtain ⟨a, cap, rfl, ⟨hc1, hc2⟩, hh⟩ := hv
  have good : glE l = 0 → l.length ≤ 64 ∧ ∀ j, j < l.length → rgtB (gP l j) = true := fun h => by
    unfold glE at h
    split at h
    · omega
    · split at h
      · omega
      · rename_i q; exact ⟨by omega, alB_iff.1 (by simpa using q)⟩
  have H3 : Hid (glE l = 0 → ∀ W, Below w.heap.size w W → _) := Lib.hid fun he W hW => foldF_some 32 (enters_of Tryd.func32 (by kernel_rfl) rfl) a l.length cap l (smS Rp.vl l) (smS Rp.vh l) (smS Rp.al l) (smS Rp.ah l) W (by have := (good he).1; omega) (Lib.hid fun h0 => by
      rcases hh with h | ⟨b, off, ha, hb, hc⟩
      · omega
      · exact ⟨b, off, ha, Nat.lt_of_lt_of_le hb hW.size, fun j hj => (hc j hj).below hW⟩) (Lib.hid fun k W2 hk => by
      obtain ⟨h64, hg⟩ := good he
      have v : ∀ j, j < l.length → (0 ≤ (gP l j).vl ∧ (gP l j).vl ≤ 343597383680000) ∧ (0 ≤ (gP l j).vh ∧ (gP l j).vh ≤ 343597383680000) ∧ (0 ≤ (gP l j).al ∧ (gP l j).al ≤ 343597383680000) ∧ (0 ≤ (gP l j).ah ∧ (gP l j).ah ≤ 343597383680000) := fun j hj => by
        have r := rgtB_iff.1 (hg j hj)
        have q := rgt_bd (hg j hj)
        omega
      have b0 := smS_bd (f := Rp.vl) (n := l.length) (fun j hj => (v j hj).1) (by omega) k (by omega)
      have b1 := smS_bd (f := Rp.vh) (n := l.length) (fun j hj => (v j hj).2.1) (by omega) k (by omega)
      have b2 := smS_bd (f := Rp.al) (n := l.length) (fun j hj => (v j hj).2.2.1) (by omega) k (by omega)
      have b3 := smS_bd (f := Rp.ah) (n := l.length) (fun j hj => (v j hj).2.2.2) (by omega) k (by omega)
      have vk := v k hk
      have hk64 : (k : Int) * 343597383680000 ≤ 64 * 343597383680000 := Int.mul_le_mul_of_nonneg_right (by omega) (by omega)
      exact gTot1_any _ _ _ _ (gP l k) W2 ⟨by omega, by omega⟩ ⟨by omega, by omega⟩ ⟨by omega, by omega⟩ ⟨by omega, by omega⟩)
  refine gTot_core a _ cap _ _ _ _ _ _ _ _ (glE l) _ w ?_ H1 H3
  by_cases g : glE l = 0
  · right
    have h : ∀ x, tt x l = x := fun x => by unfold tt; rw [if_pos g]
    exact ⟨g, g, h _, h _, h _, h _⟩
  · left
    have h : ∀ x, tt x l = 0 := fun x => by unfold tt; rw [if_neg g]
    exact ⟨by simpa using g, rfl, h _, h _, h _, h _⟩
end Go.Proofs.YtbaiekoedmhhaaaDoor

/- Package gauge: Report as a whole; the example. -/

namespace Go.Proofs.YtbaiekoedmhhaaaDoor
open Go.RowKit

/-- what Report returns -/
def rpE (t : List (Int × Int)) (tol d p h s rise : Int) : Int := if rdE t tol p ≠ 0 then rdE t tol p else if rdgE d p h s ≠ 0 then rdgE d p h s else btE (wtL t tol p) (wtH t tol p) h h rise
def rpR (t : List (Int × Int)) (tol d p h s rise : Int) : Rp := if rpE t tol d p h s rise = 0 then ⟨d, p, h, s, btL (wtL t tol p) (wtH t tol p) h h rise, btH (wtL t tol p) (wtH t tol p) h h rise, btL (wtL t tol p) (wtH t tol p) h h rise * s, btH (wtL t tol p) (wtH t tol p) h h rise * s⟩ else ⟨0, 0, 0, 0, 0, 0, 0, 0⟩
theorem gRep_any (v : Value) (t : List (Int × Int)) (tol d p h s rise : Int) (w : World) (hv : TbV w v t tol) (hw : WordsIs w) :
    Calls Tryd.prog 24 #[v, .agg #[.int .i64 d, .int .i64 p, .int .i64 h, .int .i64 s], .int .i64 rise] w fun e w' => e = .returned (.tuple #[.agg #[.int .i64 (rpR t tol d p h s rise).dy, .int .i64 (rpR t tol d p h s rise).dp, .int .i64 (rpR t tol d p h s rise).ht, .int .i64 (rpR t tol d p h s rise).st, .int .i64 (rpR t tol d p h s rise).vl, .int .i64 (rpR t tol d p h s rise).vh, .int .i64 (rpR t tol d p h s rise).al, .int .i64 (rpR t tol d p h s rise).ah], .int .i64 (rpE t tol d p h s rise)]) ∧ Below w.heap.size w w' := by
  have H1 : Hid (∀ W, Below w.heap.size w W → _) := Lib.hid fun W hW => gWet_any v t tol p W (hv.below hW)
  obtain ⟨a, cap, rfl, hp⟩ := hv
  refine gRep_core a _ cap tol d p h s rise (wtL t tol p) (wtH t tol p) (rdE t tol p) (rdgE d p h s) (btL (wtL t tol p) (wtH t tol p) h h rise) (btH (wtL t tol p) (wtH t tol p) h h rise) (btE (wtL t tol p) (wtH t tol p) h h rise) (rpE t tol d p h s rise) _ _ _ _ _ _ _ _ w (Lib.hid fun h0 => ?_) (Lib.hid fun h0 => ?_) ?_ H1 (Lib.hid fun W => gChk_any d p h s W) (Lib.hid fun W hW => thBetween_any _ _ h h rise W (hw.below hW))
  · unfold rpR; rw [if_neg h0]; exact ⟨rfl, rfl, rfl, rfl, rfl, rfl, rfl, rfl⟩
  · unfold rpR; rw [if_pos h0]; exact ⟨rfl, rfl, rfl, rfl, rfl, rfl, rfl, rfl⟩
  · by_cases e1 : rdE t tol p = 0
    · right
      by_cases e2 : rdgE d p h s = 0
      · right
        have eE : rpE t tol d p h s rise = btE (wtL t tol p) (wtH t tol p) h h rise := by unfold rpE; rw [if_neg (by omega), if_neg (by omega)]
        by_cases e3 : btE (wtL t tol p) (wtH t tol p) h h rise = 0
        · right
          obtain ⟨_, _, t1, t2, t3, t4⟩ := bt_zero e3
          obtain ⟨_, q1, q2, q3⟩ := to_zero t1
          obtain ⟨_, r1, r2, r3⟩ := to_zero t2
          have hs := (rdgB_iff.1 (rdgE_zero.1 e2)).2.2.2
          rw [t3, t4]
          have m1 := Int.mul_nonneg q3 hs.1
          have m2 := Int.mul_nonneg r3 hs.1
          have m3 := Int.mul_le_mul (show toQ (wtL t tol p) rise h 1 ≤ 128849018880000 by omega) hs.2 hs.1 (by omega)
          have m4 := Int.mul_le_mul (show toQ (wtH t tol p) rise h 2 ≤ 128849018880000 by omega) hs.2 hs.1 (by omega)
          exact ⟨e1, e2, e3, by rw [eE]; exact e3, ⟨by omega, by omega⟩, by omega, by omega⟩
        · left
          exact ⟨e1, e2, by simpa using e3, eE⟩
      · left
        exact ⟨e1, by simpa using e2, by unfold rpE; rw [if_neg (by omega), if_pos e2]⟩
    · left
      exact ⟨by simpa using e1, by unfold rpE; rw [if_pos e1]⟩
end Go.Proofs.YtbaiekoedmhhaaaDoor

/- Layer 15: the example. -/
namespace Go.Proofs.YtbaiekoedmhhaaaDoor
open Go.RowKit

theorem mksl (w : World) (l : List (Int × Int)) (cs : List Value) (h : cs = flat l) (hn : l.length ≤ 1000) :
    Pts (w.alloc (.cells cs.toArray 48)) (.slice (some ⟨w.heap.size, 0, none⟩) l.length l.length) l := by
  refine ⟨_, _, rfl, by omega, .inr ⟨w.heap.size, 0, rfl, by simp, fun j hj => ?_⟩⟩
  subst h
  have hf := flat_at l j hj
  rw [World.cell?_alloc_new, World.cell?_alloc_new]
  simp only [Nat.zero_add]
  exact ⟨by simpa using hf.1, by simpa using hf.2⟩
def gxT : List (Int × Int) := [(0, 0), (10, 100), (20, 250)]
def gxR : Rp := ⟨0, 10, 200, 4000, 100, 102, 400000, 408000⟩
set_option maxHeartbeats 8000000 in
set_option maxRecDepth 100000 in
theorem gsteps_any (w : World) : Calls Tryd.prog 23 #[] w fun e w' => ∃ v, e = .returned v ∧ TbV w' v gxT 2 ∧ Below w.heap.size w w' := by
  go_enter Tryd.func23, Tryd.ntmps23
  go_wp2
  obtain ⟨z0, z1, _, _, _⟩ := (Two.new w (.slice (some ⟨w.heap.size + 1, 0, none⟩) 3 3) (.int .i64 2) 41).alloc (.cells #[.int .i64 0, .int .i64 0, .int .i64 10, .int .i64 100, .int .i64 20, .int .i64 250] 48)
  have L := mksl (w.alloc (.cells #[.slice (some ⟨w.heap.size + 1, 0, none⟩) 3 3, .int .i64 2] 41)) gxT _ rfl (by decide)
  rw [World.size_alloc] at L
  refine bodyPost_ret (v := .agg #[.slice (some ⟨w.heap.size + 1, 0, none⟩) 3 3, .int .i64 2]) (by simp [results, Tryd.results23, go_sem, z0, z1]) rfl ?_
  exact ⟨_, rfl, ⟨some ⟨w.heap.size + 1, 0, none⟩, 3, rfl, L⟩, bel_alloc (bel_alloc (Below.refl _ _))⟩
theorem gx_wet : wtL gxT 2 15 = 100 ∧ wtH gxT 2 15 = 252 ∧ rdE gxT 2 15 = 0 := by decide +kernel
theorem gx_rep : rpE gxT 2 0 10 200 4000 110 = 0 ∧ rpR gxT 2 0 10 200 4000 110 = gxR := by
  have h1 : rpE gxT 2 0 10 200 4000 110 = 0 := by decide +kernel
  refine ⟨h1, ?_⟩
  unfold rpR
  rw [if_pos h1]
  have e1 : btL (wtL gxT 2 10) (wtH gxT 2 10) 200 200 110 = 100 := by decide +kernel
  have e2 : btH (wtL gxT 2 10) (wtH gxT 2 10) 200 200 110 = 102 := by decide +kernel
  rw [e1, e2]
  rfl
theorem gx_dif : dfL gxR 410000 = 2000 ∧ dfH gxR 410000 = 10000 ∧ dfN gxR 410000 = 2 ∧ dfE gxR 410000 = 0 ∧ rgtB gxR = true := by decide +kernel
theorem gx_tog : tgE [gxR, gxR] = 0 ∧ tg (mxS Rp.vl [gxR, gxR] 2) [gxR, gxR] = 100 ∧ tg (mnS Rp.vh [gxR, gxR] 2) [gxR, gxR] = 102 ∧ tg (mxS Rp.al [gxR, gxR] 2) [gxR, gxR] = 400000 ∧ tg (mnS Rp.ah [gxR, gxR] 2) [gxR, gxR] = 408000 := by decide +kernel
theorem gx_tot : glE [gxR, gxR] = 0 ∧ tt (smS Rp.vl [gxR, gxR] 2) [gxR, gxR] = 200 ∧ tt (smS Rp.vh [gxR, gxR] 2) [gxR, gxR] = 204 ∧ tt (smS Rp.al [gxR, gxR] 2) [gxR, gxR] = 800000 ∧ tt (smS Rp.ah [gxR, gxR] 2) [gxR, gxR] = 816000 := by decide +kernel
theorem gx_chk : rdgE 0 10 200 4000 = 0 := by decide +kernel
end Go.Proofs.YtbaiekoedmhhaaaDoor

/- Layer 15: awake. -/
namespace Go.Proofs.YtbaiekoedmhhaaaDoor
open Go.RowKit

theorem rps2_lit (w : World) (r : Rp) : Rps (w.alloc (.cells #[.int .i64 r.dy, .int .i64 r.dp, .int .i64 r.ht, .int .i64 r.st, .int .i64 r.vl, .int .i64 r.vh, .int .i64 r.al, .int .i64 r.ah, .int .i64 r.dy, .int .i64 r.dp, .int .i64 r.ht, .int .i64 r.st, .int .i64 r.vl, .int .i64 r.vh, .int .i64 r.al, .int .i64 r.ah] 33)) (.slice (some ⟨w.heap.size, 0, none⟩) 2 2) [r, r] := by
  refine ⟨_, 2, rfl, ⟨by simp, by simp⟩, .inr ⟨w.heap.size, 0, rfl, by simp, fun j hj => ?_⟩⟩
  have hj2 : j < 2 := hj
  match j, hj2 with
  | 0, _ => exact ⟨by simp [go_sem, gP], by simp [go_sem, gP], by simp [go_sem, gP], by simp [go_sem, gP], by simp [go_sem, gP], by simp [go_sem, gP], by simp [go_sem, gP], by simp [go_sem, gP]⟩
  | 1, _ => exact ⟨by simp [go_sem, gP], by simp [go_sem, gP], by simp [go_sem, gP], by simp [go_sem, gP], by simp [go_sem, gP], by simp [go_sem, gP], by simp [go_sem, gP], by simp [go_sem, gP]⟩
set_option maxHeartbeats 32000000 in
set_option maxRecDepth 100000 in
theorem gawake_any (w : World) (hw : WordsIs w) : Calls Tryd.prog 6 #[] w fun e w' => e = .returned (.bool true) ∧ Below w.heap.size w w' := by
  have HW := Lib.hid (fun W (h : Below w.heap.size w W) => hw.below h)
  have Q1 : ∀ (p q : Int) W, (binOp .eql 25 (.agg #[.int .i64 p, .int .i64 q]) (.agg #[.int .i64 p, .int .i64 q])).run Tryd.prog W = .ok (.bool true) W := fun p q W => by rw [run_eql_bounds, show samB p q p q = true by simp [samB]]
  have HS := Lib.hid (fun W => gsteps_any W)
  have C1 : Hid (∀ v W, TbV W v gxT 2 → Calls Tryd.prog 19 #[v, .int .i64 15] W fun e w' => e = .returned (.tuple #[.agg #[.int .i64 100, .int .i64 252], .int .i64 0]) ∧ Below W.heap.size W w') := Lib.hid fun v W h => by
    have := gWet_any v gxT 2 15 W h
    rw [gx_wet.1, gx_wet.2.1, gx_wet.2.2] at this; exact this
  have C2 : Hid (∀ v W, TbV W v gxT 2 → WordsIs W → Calls Tryd.prog 24 #[v, .agg #[.int .i64 0, .int .i64 10, .int .i64 200, .int .i64 4000], .int .i64 110] W fun e w' => e = .returned (.tuple #[.agg #[.int .i64 0, .int .i64 10, .int .i64 200, .int .i64 4000, .int .i64 100, .int .i64 102, .int .i64 400000, .int .i64 408000], .int .i64 0]) ∧ Below W.heap.size W w') := Lib.hid fun v W h hW => by
    have := gRep_any v gxT 2 0 10 200 4000 110 W h hW
    rw [gx_rep.1, gx_rep.2] at this; exact this
  have C3 : Hid (∀ W, Calls Tryd.prog 14 #[.agg #[.int .i64 0, .int .i64 10, .int .i64 200, .int .i64 4000, .int .i64 100, .int .i64 102, .int .i64 400000, .int .i64 408000], .int .i64 410000] W fun e w' => e = .returned (.tuple #[.agg #[.int .i64 2000, .int .i64 10000], .int .i64 2, .int .i64 0]) ∧ Below W.heap.size W w') := Lib.hid fun W => by
    have := gDiff_any gxR 410000 W
    obtain ⟨h1, h2, h3, h4, _⟩ := gx_dif
    rw [h1, h2, h3, h4] at this; exact this
  have C4 : Hid (∀ v W, Rps W v [gxR, gxR] → Calls Tryd.prog 7 #[v] W fun e w' => e = .returned (.tuple #[.agg #[.int .i64 100, .int .i64 102], .agg #[.int .i64 400000, .int .i64 408000], .int .i64 0]) ∧ Below W.heap.size W w') := Lib.hid fun v W h => by
    have := gTog_any v [gxR, gxR] W h
    obtain ⟨h0, h1, h2, h3, h4⟩ := gx_tog
    rw [show ([gxR, gxR] : List Rp).length = 2 from rfl, h0, h1, h2, h3, h4] at this; exact this
  have C5 : Hid (∀ v W, Rps W v [gxR, gxR] → Calls Tryd.prog 10 #[v] W fun e w' => e = .returned (.tuple #[.agg #[.int .i64 200, .int .i64 204], .agg #[.int .i64 800000, .int .i64 816000], .int .i64 0]) ∧ Below W.heap.size W w') := Lib.hid fun v W h => by
    have := gTot_any v [gxR, gxR] W h
    obtain ⟨h0, h1, h2, h3, h4⟩ := gx_tot
    rw [show ([gxR, gxR] : List Rp).length = 2 from rfl, h0, h1, h2, h3, h4] at this; exact this
  have C6 : Hid (∀ W, Calls Tryd.prog 16 #[.agg #[.int .i64 0, .int .i64 10, .int .i64 200, .int .i64 4000, .int .i64 100, .int .i64 102, .int .i64 400000, .int .i64 408000]] W fun e w' => e = .returned (.bool true) ∧ Below W.heap.size W w') := Lib.hid fun W => by
    have := gRight_any gxR W
    rw [gx_dif.2.2.2.2] at this; exact this
  have C7 : Hid (∀ W, Calls Tryd.prog 25 #[.agg #[.int .i64 0, .int .i64 10, .int .i64 200, .int .i64 4000]] W fun e w' => e = .returned (.int .i64 0) ∧ Below W.heap.size W w') := Lib.hid fun W => by
    have := gChk_any 0 10 200 4000 W
    rw [gx_chk] at this; exact this
  have LT : Hid (∀ W : World, Rps (W.alloc (.cells #[.int .i64 0, .int .i64 10, .int .i64 200, .int .i64 4000, .int .i64 100, .int .i64 102, .int .i64 400000, .int .i64 408000, .int .i64 0, .int .i64 10, .int .i64 200, .int .i64 4000, .int .i64 100, .int .i64 102, .int .i64 400000, .int .i64 408000] 33)) (.slice (some ⟨W.heap.size, 0, none⟩) 2 2) [gxR, gxR]) := Lib.hid fun W => rps2_lit W gxR
  clear hw
  go_enter Tryd.func6, Tryd.ntmps6
  go_wp2_with fail
  refine (HS.out _).mono ?_
  rintro e w1 ⟨v1, rfl, hv, h1⟩
  have HB := Lib.hid h1; clear h1
  replace hv := Lib.hid hv
  go_wp2_with fail
  refine (C1.out _ _ hv.out).mono ?_
  rintro e w2 ⟨rfl, h1⟩
  have T1 := Lib.hid (Two.new w2 (.int .i64 100) (.int .i64 252) 25)
  replace HB := Lib.hid (bel_trans (bel_trans HB.out h1) (bel_alloc (o := .cells #[.int .i64 100, .int .i64 252] 25) (Below.refl _ _))); clear h1 hv
  go_wp2_with fail
  refine (HS.out _).mono ?_
  rintro e w3 ⟨v3, rfl, hv, h1⟩
  replace T1 := Lib.hid (T1.out.below h1)
  replace HB := Lib.hid (bel_trans HB.out h1); clear h1
  replace hv := Lib.hid hv
  generalize w2.heap.size = p1 at *
  go_wp2_with fail
  refine (C2.out _ _ hv.out (HW.out _ HB.out)).mono ?_
  rintro e w4 ⟨rfl, h1⟩
  replace T1 := Lib.hid ((T1.out.below h1).alloc (.cells #[.int .i64 0, .int .i64 10, .int .i64 200, .int .i64 4000, .int .i64 100, .int .i64 102, .int .i64 400000, .int .i64 408000] 33))
  have E3 := Lib.hid (Eig.new w4 (.int .i64 0) (.int .i64 10) (.int .i64 200) (.int .i64 4000) (.int .i64 100) (.int .i64 102) (.int .i64 400000) (.int .i64 408000) 33)
  replace HB := Lib.hid (bel_trans (bel_trans HB.out h1) (bel_alloc (o := .cells #[.int .i64 0, .int .i64 10, .int .i64 200, .int .i64 4000, .int .i64 100, .int .i64 102, .int .i64 400000, .int .i64 408000] 33) (Below.refl _ _))); clear h1 hv
  obtain ⟨e0, e1, e2, e3, e4, e5, e6, e7, _, _⟩ := E3.out
  go_wp2_with fail
  refine (C3.out _).mono ?_
  rintro e w5 ⟨rfl, h1⟩
  replace T1 := Lib.hid ((T1.out.below h1).alloc (.cells #[.int .i64 2000, .int .i64 10000] 25))
  replace E3 := Lib.hid ((E3.out.below h1).alloc (.cells #[.int .i64 2000, .int .i64 10000] 25))
  have T5 := Lib.hid (Two.new w5 (.int .i64 2000) (.int .i64 10000) 25)
  replace HB := Lib.hid (bel_trans (bel_trans HB.out h1) (bel_alloc (o := .cells #[.int .i64 2000, .int .i64 10000] 25) (Below.refl _ _))); clear h1 e0 e1 e2 e3 e4 e5 e6 e7
  generalize hp3 : w4.heap.size = p3 at *
  replace hp3 := Lib.hid hp3
  obtain ⟨e0, e1, e2, e3, e4, e5, e6, e7, _, _⟩ := E3.out
  have L5 := Lib.hid (LT.out (w5.alloc (.cells #[.int .i64 2000, .int .i64 10000] 25)))
  simp only [World.size_alloc] at L5
  have BL : ∀ W : World, Below W.heap.size W (W.alloc (.cells #[.int .i64 0, .int .i64 10, .int .i64 200, .int .i64 4000, .int .i64 100, .int .i64 102, .int .i64 400000, .int .i64 408000, .int .i64 0, .int .i64 10, .int .i64 200, .int .i64 4000, .int .i64 100, .int .i64 102, .int .i64 400000, .int .i64 408000] 33)) := fun W => bel_alloc (Below.refl _ _)
  go_wp2_with fail
  refine (C4.out _ _ L5.out).mono ?_
  rintro e w6 ⟨rfl, h1⟩
  have BX := Lib.hid (bel_trans (bel_trans (BL _) h1) (bel_alloc (o := .cells #[.int .i64 100, .int .i64 102] 25) (bel_alloc (o := .cells #[.int .i64 400000, .int .i64 408000] 25) (Below.refl _ _))))
  have T8 := Lib.hid ((Two.new w6 (.int .i64 100) (.int .i64 102) 25).alloc (.cells #[.int .i64 400000, .int .i64 408000] 25))
  have T9 := Two.new (w6.alloc (.cells #[.int .i64 100, .int .i64 102] 25)) (.int .i64 400000) (.int .i64 408000) 25
  rw [World.size_alloc] at T9
  replace T9 := Lib.hid T9
  replace T1 := Lib.hid (T1.out.below BX.out)
  replace E3 := Lib.hid (E3.out.below BX.out)
  replace T5 := Lib.hid (T5.out.below BX.out)
  replace HB := Lib.hid (bel_trans HB.out BX.out)
  clear h1 BX e0 e1 e2 e3 e4 e5 e6 e7 L5
  generalize hp5 : w5.heap.size = p5 at *
  replace hp5 := Lib.hid hp5
  obtain ⟨e0, e1, e2, e3, e4, e5, e6, e7, _, _⟩ := E3.out
  have L6 := Lib.hid (LT.out ((w6.alloc (.cells #[.int .i64 100, .int .i64 102] 25)).alloc (.cells #[.int .i64 400000, .int .i64 408000] 25)))
  simp only [World.size_alloc] at L6
  go_wp2_with fail
  refine (C5.out _ _ L6.out).mono ?_
  rintro e w7 ⟨rfl, h1⟩
  have BX := Lib.hid (bel_trans (bel_trans (BL _) h1) (bel_alloc (o := .cells #[.int .i64 200, .int .i64 204] 25) (bel_alloc (o := .cells #[.int .i64 800000, .int .i64 816000] 25) (Below.refl _ _))))
  have TB := Lib.hid ((Two.new w7 (.int .i64 200) (.int .i64 204) 25).alloc (.cells #[.int .i64 800000, .int .i64 816000] 25))
  have TC := Two.new (w7.alloc (.cells #[.int .i64 200, .int .i64 204] 25)) (.int .i64 800000) (.int .i64 816000) 25
  rw [World.size_alloc] at TC
  replace TC := Lib.hid TC
  replace T1 := Lib.hid (T1.out.below BX.out)
  replace E3 := Lib.hid (E3.out.below BX.out)
  replace T5 := Lib.hid (T5.out.below BX.out)
  replace T8 := Lib.hid (T8.out.below BX.out)
  replace T9 := Lib.hid (T9.out.below BX.out)
  replace HB := Lib.hid (bel_trans HB.out BX.out)
  clear h1 BX e0 e1 e2 e3 e4 e5 e6 e7 L6 BL
  generalize hp8 : w6.heap.size = p8 at *
  replace hp8 := Lib.hid hp8
  obtain ⟨e0, e1, e2, e3, e4, e5, e6, e7, _, _⟩ := E3.out
  obtain ⟨a0, a1, _, _, _⟩ := T1.out
  obtain ⟨b0, b1, _, _, _⟩ := T5.out
  obtain ⟨c0, c1, _, _, _⟩ := T8.out
  obtain ⟨d0, d1, _, _, _⟩ := T9.out
  obtain ⟨f0, f1, _, _, _⟩ := TB.out
  obtain ⟨g0, g1, _, _, _⟩ := TC.out
  go_wp2_with fail
  refine (C6.out _).mono ?_
  rintro e w8 ⟨rfl, h1⟩
  replace E3 := Lib.hid (E3.out.below h1)
  replace HB := Lib.hid (bel_trans HB.out h1)
  clear h1 e0 e1 e2 e3 e4 e5 e6 e7 a0 a1 b0 b1 c0 c1 d0 d1 f0 f1 g0 g1
  obtain ⟨e0, e1, e2, e3, e4, e5, e6, e7, _, _⟩ := E3.out
  go_wp2_with fail
  refine (C7.out _).mono ?_
  rintro e w9 ⟨rfl, h1⟩
  replace HB := Lib.hid (bel_trans HB.out h1)
  clear h1
  go_wp2
  go_returns
  exact ⟨rfl, HB.out⟩
end Go.Proofs.YtbaiekoedmhhaaaDoor

/- Slices of reports: copied and turned; what is asked of them does not depend on their order. -/
namespace Go.Proofs.YtbaiekoedmhhaaaDoor
open Go.RowKit Go.Sort

def encR (r : Rp) : List Value := [.int .i64 r.dy, .int .i64 r.dp, .int .i64 r.ht, .int .i64 r.st, .int .i64 r.vl, .int .i64 r.vh, .int .i64 r.al, .int .i64 r.ah]
def flatR : List Rp → List Value
  | [] => []
  | r :: l => encR r ++ flatR l
theorem encR_len (r : Rp) : (encR r).length = 8 := rfl
theorem flatR_len : ∀ l : List Rp, (flatR l).length = l.length * 8
  | [] => rfl
  | r :: l => by rw [flatR, List.length_append, flatR_len l, encR_len, List.length_cons]; omega
theorem encR_one (r : Rp) : ∀ u ∈ encR r, u.oneCell' = true := by
  intro u hu
  simp only [encR, List.mem_cons, List.not_mem_nil, or_false] at hu
  rcases hu with rfl | rfl | rfl | rfl | rfl | rfl | rfl | rfl <;> rfl
theorem flatR_one : ∀ l : List Rp, ∀ u ∈ flatR l, u.oneCell' = true
  | [], u, h => by simp [flatR] at h
  | r :: l, u, h => by
    rw [flatR, List.mem_append] at h
    exact h.elim (encR_one r u) (flatR_one l u)
theorem flatR_at : ∀ (l : List Rp) (i c : Nat), i < l.length → c < 8 → (flatR l)[i * 8 + c]? = (encR (gP l i))[c]?
  | [], i, c, h, _ => by simp at h
  | r :: l, 0, c, _, h => by
    rw [flatR, List.getElem?_append_left (by rw [encR_len]; omega)]
    simp [gP]
  | r :: l, i + 1, c, h, h2 => by
    have ih := flatR_at l i c (by simpa using h) h2
    rw [flatR, List.getElem?_append_right (by rw [encR_len]; omega), encR_len, show (i + 1) * 8 + c - 8 = i * 8 + c by omega, ih]
    simp [gP]
theorem flatR_inv (l : List Rp) (j : Nat) (u : Value) (h : (flatR l)[j]? = some u) : ∃ i c, i < l.length ∧ c < 8 ∧ j = i * 8 + c ∧ (encR (gP l i))[c]? = some u := by
  have hj := (List.getElem?_eq_some_iff.1 h).1
  rw [flatR_len] at hj
  refine ⟨j / 8, j % 8, by omega, by omega, by omega, ?_⟩
  rw [← flatR_at l (j / 8) (j % 8) (by omega) (by omega), show j / 8 * 8 + j % 8 = j by omega]
  exact h
theorem RpC.at {W : World} {b o : Nat} {r : Rp} (h : RpC W b o r) (c : Nat) (u : Value) (hc : (encR r)[c]? = some u) : W.cell? ⟨b, o + c, none⟩ = some u := by
  obtain ⟨h0, h1, h2, h3, h4, h5, h6, h7⟩ := h
  have hl : c < 8 := (List.getElem?_eq_some_iff.1 hc).1
  match c, hl with
  | 0, _ => exact h0.trans hc
  | 1, _ => exact h1.trans hc
  | 2, _ => exact h2.trans hc
  | 3, _ => exact h3.trans hc
  | 4, _ => exact h4.trans hc
  | 5, _ => exact h5.trans hc
  | 6, _ => exact h6.trans hc
  | 7, _ => exact h7.trans hc
theorem RpC.of {W : World} {b o : Nat} {r : Rp} (h : ∀ c u, (encR r)[c]? = some u → W.cell? ⟨b, o + c, none⟩ = some u) : RpC W b o r :=
  ⟨h 0 _ rfl, h 1 _ rfl, h 2 _ rfl, h 3 _ rfl, h 4 _ rfl, h 5 _ rfl, h 6 _ rfl, h 7 _ rfl⟩
def OwnR (w : World) (B : Nat) (v : Value) (l : List Rp) : Prop := w.ownsRow B 33 8 v l.length (flatR l)
theorem OwnR.rps {w : World} {B : Nat} {v : Value} {l : List Rp} (h : OwnR w B v l) : Rps w v l := by
  have h' := h
  obtain ⟨_, h2⟩ := h
  rcases h2 with ⟨rfl, hn⟩ | ⟨g, cap, cur, rfl, hg, hh, hc, hm, hs, ht⟩
  · exact ⟨none, 0, by rw [hn], by omega, .inl hn⟩
  · have hlt : g < w.heap.size := (Array.getElem?_eq_some_iff.1 hh).1
    unfold maxLen at hm
    refine ⟨_, cap, rfl, ⟨hc, by omega⟩, .inr ⟨g, 0, rfl, hlt, fun j hj => RpC.of fun c u hu => ?_⟩⟩
    have hcell := World.ownsRow.cells h' (g := g) rfl
    have hl : c < 8 := (List.getElem?_eq_some_iff.1 hu).1
    have hf := flatR_at l j c hj hl
    rw [hu] at hf
    have c0 := hcell _ _ hf
    rw [Go.WideShapes.add_plain] at c0
    rw [Nat.add_assoc]; exact c0
theorem rp_info : (Tryd.prog.info? 33).map (fun i => (i.zero, i.size, i.bytes)) = some (some (.agg #[.int .i64 0, .int .i64 0, .int .i64 0, .int .i64 0, .int .i64 0, .int .i64 0, .int .i64 0, .int .i64 0]), 8, 64) := by kernel_rfl
set_option maxRecDepth 100000 in
set_option maxHeartbeats 2000000 in
theorem cloneR_some (ad : Addr) (n c : Nat) (news : List Value) (w : World) (hl : news.length = n * 8) (hn : n ≤ 1000)
    (hc : Hid (∀ j u, news[j]? = some u → (w.alloc (.cells #[] 33)).cell? (ad.add j) = some u)) (h1 : Hid (∀ u ∈ news, u.oneCell' = true)) :
    Calls Tryd.prog 8 #[.slice (some ad) n c] w fun e w' => ∃ v', e = .returned v' ∧ w'.ownsRow w.heap.size 33 8 v' n news ∧ v' ≠ .slice none 0 0 ∧ Below w.heap.size w w' := by
  obtain ⟨i0, hi0, hz0, hz1, hz2⟩ := info_parts rp_info
  have q22 : ∀ (w : World) (a : Option Addr) (n c n' c' : Nat), (binOp .eql 22 (.slice a n c) (.slice none n' c')).run Tryd.prog w = .ok (.bool a.isNone) w := fun w a n c n' c' => Lib.run_eql_slice_nil w _ _ a n c n' c' Tryd.underlying22
  go_enter Tryd.func8, Tryd.ntmps8
  go_wp2_with (at_builtin; refine wpList_append_own _ rfl _ _ 22 rfl w.heap.size 33 i0 (.agg #[.int .i64 0, .int .i64 0, .int .i64 0, .int .i64 0, .int .i64 0, .int .i64 0, .int .i64 0, .int .i64 0]) 8 64 Tryd.underlying22 hi0 hz0 hz1 hz2 rfl (by omega) _ _ _ rfl (World.ownsRow_made w #[] 0 (Nat.le_refl _) (Nat.zero_le _) (by simp)) ad n c news rfl ?qc1 ?qc2 ?qc3 ?qc4 ?qc5 ?qc6 ?_)
  case qc1 => exact hl
  case qc2 => exact hc.out
  case qc3 => exact h1.out
  case qc4 => rw [Nat.zero_add]; unfold maxLen; omega
  case qc5 => rw [Nat.zero_add]; omega
  case qc6 => simp
  intro v' w1 hown hgrow hnil
  have HO := Lib.hid hown
  have HG := Lib.hid hgrow
  have HN := Lib.hid hnil
  clear hown hgrow hnil hl
  go_wp2
  go_ret
  refine ⟨v', rfl, by simpa using HO.out, ?_, ?_⟩
  · exact HN.out
  · exact ((Below.refl _ w).alloc (Nat.le_refl _) _).grown HG.out (by simp) (by intro k hk; simp [Value.ownBlock] at hk; omega)
set_option maxRecDepth 100000 in
theorem cloneR_none (n c : Nat) (w : World) :
    Calls Tryd.prog 8 #[.slice none n c] w fun e w' => e = .returned (.slice none 0 0) ∧ w' = w := by
  have q22 : ∀ (w : World) (a : Option Addr) (n c n' c' : Nat), (binOp .eql 22 (.slice a n c) (.slice none n' c')).run Tryd.prog w = .ok (.bool a.isNone) w := fun w a n c n' c' => Lib.run_eql_slice_nil w _ _ a n c n' c' Tryd.underlying22
  go_enter Tryd.func8, Tryd.ntmps8
  go_wp2
  go_ret
  exact ⟨rfl, rfl⟩
/-- a copy reads as what it is copied from, and is the call's own -/
theorem cloneR_any (v : Value) (l : List Rp) (w : World) (h : Rps w v l) (hn : l.length ≤ 1000) :
    Calls Tryd.prog 8 #[v] w fun e w' => ∃ u, e = .returned u ∧ OwnR w' w.heap.size u l ∧ Below w.heap.size w w' := by
  obtain ⟨a, c, rfl, hl, h⟩ := h
  cases a with
  | none =>
    rcases h with h | ⟨b, off, hx, _⟩
    · obtain rfl := List.length_eq_zero_iff.1 h
      refine (cloneR_none _ c w).mono fun _ w' g => ⟨_, g.1, ?_, by rw [g.2]; exact Below.refl _ _⟩
      exact ⟨rfl, .inl ⟨rfl, rfl⟩⟩
    · cases hx
  | some ad =>
    refine (cloneR_some ad l.length c (flatR l) w (flatR_len l) hn ?_ (flatR_one l)).mono fun _ w' ⟨u, g1, g2, _, g4⟩ => ⟨u, g1, g2, g4⟩
    intro j u hj
    rcases h with h | ⟨b, off, hx, hb, hc⟩
    · obtain rfl := List.length_eq_zero_iff.1 h
      simp [flatR] at hj
    · obtain rfl := Option.some.inj hx
      obtain ⟨i, c, hi, hc8, rfl, he⟩ := flatR_inv l j u hj
      rw [Go.WideShapes.add_plain, World.cell?_alloc_lt w _ _ hb, ← Nat.add_assoc]
      exact (hc i hi).at c u he
theorem reverseR_any (u : Value) (l : List Rp) (B : Nat) (w0 w : World) (h : OwnR w B u l) (hb : Below B w0 w) (hn : l.length ≤ 1000) :
    Calls Tryd.prog 22 #[u] w fun e w' => e = .returned (.tuple #[]) ∧ Rps w' u l.reverse ∧ Below B w0 w' := by
  have h' := h
  have hR := h.rps
  obtain ⟨_, h2⟩ := h
  by_cases h0 : l.length = 0
  · obtain ⟨a, cap, rfl, hcap, _⟩ := hR
    obtain rfl := List.length_eq_zero_iff.1 h0
    refine (AnyQ.slices_Reverse_empty Tryd.reverseQ a cap w).mono fun _ w' g => ⟨g.1, ?_, by rw [g.2]; exact hb⟩
    exact ⟨a, cap, rfl, hcap, .inl rfl⟩
  rcases h2 with ⟨rfl, hn0⟩ | ⟨g, cap, cur, rfl, hg, hh, hc, hm, hs, ht⟩
  · exact absurd hn0 h0
  · have hlt : g < w.heap.size := (Array.getElem?_eq_some_iff.1 hh).1
    have hcell := World.ownsRow.cells h' (g := g) rfl
    have hgP : ∀ i, i < l.length → l.toArray[i]! = gP l i := fun i hi => by
      rw [getElem!_pos l.toArray i (by simpa using hi)]
      simp [gP, List.getD_eq_getElem?_getD, List.getElem?_eq_getElem hi]
    have hH : HoldsK encR 8 w g 0 l.toArray := by
      intro j hj
      rw [size_flatK] at hj
      have hj' : j < l.length * 8 := by simpa using hj
      refine ⟨?_, by simp [World.frozen?, hh]⟩
      rw [get_flatK _ _ _ _ hj, ← Go.WideShapes.add_plain]
      refine hcell j _ ?_
      have hf := flatR_at l (j / 8) (j % 8) (by omega) (by omega)
      rw [show j / 8 * 8 + j % 8 = j by omega] at hf
      rw [hf, hgP _ (by omega)]
      have : j % 8 < (encR (gP l (j / 8))).length := by rw [encR_len]; omega
      rw [List.getElem?_eq_getElem this]
      simp [this]
    have hr := AnyQ.slices_Reverse Tryd.reverseQ 8 Tryd.isAgg33 Tryd.sizeOf33 encR encR_len encR_one g 0 cap l.toArray w hH (by simp; omega)
    rw [show l.toArray.size = l.length by simp] at hr
    refine hr.mono ?_
    rintro e w' ⟨rfl, n, rfl⟩
    refine ⟨rfl, ⟨_, cap, by rw [List.length_reverse], ?_, .inr ⟨g, 0, rfl, ?_, fun j hj => RpC.of fun c u hu => ?_⟩⟩, Lib.below_putRow hb hg⟩
    · rw [List.length_reverse]; unfold maxLen at hm; omega
    · show g < (putRow id (Sort.ahead w n) g 0 _).heap.size
      rw [size_putRow]; exact hlt
    · rw [List.length_reverse] at hj
      have hP := holdsK_putRowK encR 8 (Sort.ahead w n) g 0 l.toArray l.toArray.reverse (holdsK_ahead encR 8 w n g 0 _ hH) (by simp)
      have hgd : l.toArray.reverse[j]! = gP l.reverse j := by
        rw [getElem!_pos l.toArray.reverse j (by simp; omega)]
        simp [gP, List.getD_eq_getElem?_getD, hj]
      have hl8 : c < 8 := (List.getElem?_eq_some_iff.1 hu).1
      have p0 := hP.cell (i := j) (c := c) (by simp; omega) (by omega)
      rw [hgd] at p0
      have e : (encR (gP l.reverse j))[c]! = u := by
        rw [getElem!_pos _ c (by rw [encR_len]; exact hl8)]
        rw [List.getElem?_eq_getElem (by rw [encR_len]; exact hl8)] at hu
        exact Option.some.inj hu
      have := p0.1
      simp only [Nat.zero_add] at this ⊢
      first | (rw [e] at this; exact this) | (rw [← e]; exact this)
/-! ### the order of reports -/
theorem gP_rev {l : List Rp} {j : Nat} (hj : j < l.length) : gP l.reverse j = gP l (l.length - 1 - j) := by
  unfold gP
  rw [List.getD_eq_getElem?_getD, List.getD_eq_getElem?_getD, List.getElem?_reverse hj]
theorem all_rev {l : List Rp} {p : Rp → Prop} : (∀ j, j < l.reverse.length → p (gP l.reverse j)) ↔ ∀ j, j < l.length → p (gP l j) := by
  rw [List.length_reverse]
  constructor
  · intro h j hj
    have := h (l.length - 1 - j) (by omega)
    rwa [gP_rev (by omega), show l.length - 1 - (l.length - 1 - j) = j by omega] at this
  · intro h j hj
    rw [gP_rev hj]
    exact h _ (by omega)
theorem mxS_le (f : Rp → Int) (l : List Rp) (M : Int) : ∀ n, mxS f l n ≤ M ↔ f (gP l 0) ≤ M ∧ ∀ j, j < n → f (gP l j) ≤ M
  | 0 => ⟨fun h => ⟨h, fun j hj => by omega⟩, fun h => h.1⟩
  | k + 1 => by
    have ih := mxS_le f l M k
    unfold mxS
    constructor
    · intro h
      obtain ⟨h1, h2⟩ := ih.1 (by omega)
      refine ⟨h1, fun j hj => ?_⟩
      by_cases e : j = k
      · subst e; omega
      · exact h2 j (by omega)
    · rintro ⟨h1, h2⟩
      have a := ih.2 ⟨h1, fun j hj => h2 j (by omega)⟩
      have b := h2 k (by omega)
      omega
theorem mnS_ge (f : Rp → Int) (l : List Rp) (M : Int) : ∀ n, M ≤ mnS f l n ↔ M ≤ f (gP l 0) ∧ ∀ j, j < n → M ≤ f (gP l j)
  | 0 => ⟨fun h => ⟨h, fun j hj => by omega⟩, fun h => h.1⟩
  | k + 1 => by
    have ih := mnS_ge f l M k
    unfold mnS
    constructor
    · intro h
      obtain ⟨h1, h2⟩ := ih.1 (by omega)
      refine ⟨h1, fun j hj => ?_⟩
      by_cases e : j = k
      · subst e; omega
      · exact h2 j (by omega)
    · rintro ⟨h1, h2⟩
      have a := ih.2 ⟨h1, fun j hj => h2 j (by omega)⟩
      have b := h2 k (by omega)
      omega
theorem mxS_iff (f : Rp → Int) {l : List Rp} (h0 : l.length ≠ 0) (M : Int) : mxS f l l.length ≤ M ↔ ∀ j, j < l.length → f (gP l j) ≤ M := by
  rw [mxS_le]
  exact ⟨fun h => h.2, fun h => ⟨h 0 (by omega), h⟩⟩
theorem mnS_iff (f : Rp → Int) {l : List Rp} (h0 : l.length ≠ 0) (M : Int) : M ≤ mnS f l l.length ↔ ∀ j, j < l.length → M ≤ f (gP l j) := by
  rw [mnS_ge]
  exact ⟨fun h => h.2, fun h => ⟨h 0 (by omega), h⟩⟩
theorem rev_ne {l : List Rp} (h0 : l.length ≠ 0) : l.reverse.length ≠ 0 := by rwa [List.length_reverse]
theorem mxS_rev (f : Rp → Int) {l : List Rp} (h0 : l.length ≠ 0) : mxS f l.reverse l.reverse.length = mxS f l l.length := by
  have key : ∀ M, mxS f l.reverse l.reverse.length ≤ M ↔ mxS f l l.length ≤ M := fun M => by
    rw [mxS_iff f (rev_ne h0), mxS_iff f h0]
    exact all_rev (p := fun r => f r ≤ M)
  have a := (key _).1 (Int.le_refl _)
  have b := (key _).2 (Int.le_refl _)
  omega
theorem mnS_rev (f : Rp → Int) {l : List Rp} (h0 : l.length ≠ 0) : mnS f l.reverse l.reverse.length = mnS f l l.length := by
  have key : ∀ M, M ≤ mnS f l.reverse l.reverse.length ↔ M ≤ mnS f l l.length := fun M => by
    rw [mnS_iff f (rev_ne h0), mnS_iff f h0]
    exact all_rev (p := fun r => M ≤ f r)
  have a := (key _).1 (Int.le_refl _)
  have b := (key _).2 (Int.le_refl _)
  omega
theorem alB_rev (l : List Rp) : alB l.reverse l.reverse.length = alB l l.length := by
  rw [Bool.eq_iff_iff, alB_iff, alB_iff]
  exact all_rev (p := fun r => rgtB r = true)
theorem glE_rev (l : List Rp) : glE l.reverse = glE l := by
  unfold glE
  rw [alB_rev, List.length_reverse]
theorem otB_all {l : List Rp} : otB l = false ↔ ∀ j, j < l.length → (gP l j).dy = (gP l 0).dy ∧ (gP l j).st = (gP l 0).st := by
  rw [← Bool.not_eq_true, otB_iff]
  constructor
  · intro h j hj
    have : ¬ ((decide ((gP l j).dy ≠ (gP l 0).dy) || decide ((gP l j).st ≠ (gP l 0).st)) = true) := fun e => h ⟨j, hj, e⟩
    simpa using this
  · rintro h ⟨j, hj, e⟩
    have := h j hj
    simp [this] at e
theorem otB_rev (l : List Rp) : otB l.reverse = otB l := by
  have key : ∀ l : List Rp, otB l = false → otB l.reverse = false := fun l h => by
    have h := otB_all.1 h
    rw [otB_all, List.length_reverse]
    intro j hj
    have h0 := h (l.length - 1 - 0) (by omega)
    have hJ := h (l.length - 1 - j) (by omega)
    rw [gP_rev hj, gP_rev (show 0 < l.length by omega)]
    exact ⟨hJ.1.trans h0.1.symm, hJ.2.trans h0.2.symm⟩
  cases h : otB l with
  | false => exact key l h
  | true =>
    cases h2 : otB l.reverse with
    | true => rfl
    | false =>
      have := key _ h2
      rw [List.reverse_reverse, h] at this
      cases this
theorem tgE_rev (l : List Rp) : tgE l.reverse = tgE l := by
  by_cases h0 : l.length = 0
  · obtain rfl := List.length_eq_zero_iff.1 h0
    rfl
  · unfold tgE
    rw [glE_rev, otB_rev, mxS_rev _ h0, mnS_rev _ h0, List.length_reverse]
theorem tg_rev (x : Int) (l : List Rp) : tg x l.reverse = tg x l := by
  unfold tg; rw [tgE_rev]
theorem tgE_ne {l : List Rp} (h : tgE l = 0) : l.length ≠ 0 := by
  intro e
  unfold tgE at h
  rw [if_pos e] at h
  exact absurd h (by decide)
theorem tgE_lt {l : List Rp} (h : tgE l = 0) : mxS Rp.vl l l.length ≤ mnS Rp.vh l l.length := by
  have h0 := tgE_ne h
  unfold tgE at h
  rw [if_neg h0] at h
  by_cases g : glE l ≠ 0
  · rw [if_pos g] at h; omega
  · rw [if_neg g] at h
    by_cases q : otB l = true
    · rw [if_pos q] at h; exact absurd h (by decide)
    · rw [if_neg q] at h
      by_cases r : mnS Rp.vh l l.length < mxS Rp.vl l l.length
      · rw [if_pos r] at h; exact absurd h (by decide)
      · omega
/-- whether one of the first reports has a number -/
def hitB (f : Rp → Int) (l : List Rp) (X : Int) : Nat → Bool
  | 0 => false
  | k + 1 => hitB f l X k || (X == f (gP l k))
theorem hitB_iff (f : Rp → Int) (l : List Rp) (X : Int) : ∀ n, hitB f l X n = true ↔ ∃ j, j < n ∧ f (gP l j) = X
  | 0 => by simp [hitB]
  | k + 1 => by
    unfold hitB
    rw [Bool.or_eq_true, hitB_iff f l X k, beq_iff_eq]
    constructor
    · rintro (⟨j, hj, e⟩ | e)
      · exact ⟨j, by omega, e⟩
      · exact ⟨k, by omega, e.symm⟩
    · rintro ⟨j, hj, e⟩
      by_cases g : j = k
      · subst g; exact .inr e.symm
      · exact .inl ⟨j, by omega, e⟩
theorem hit_mx (f : Rp → Int) {l : List Rp} (h0 : l.length ≠ 0) : hitB f l (mxS f l l.length) l.length = true := by
  rw [hitB_iff]
  rcases Classical.em (∃ j, j < l.length ∧ f (gP l j) = mxS f l l.length) with g | g
  · exact g
  · have a := (mxS_iff f h0 _).1 (Int.le_refl _)
    have := (mxS_iff f h0 (mxS f l l.length - 1)).2 fun j hj => by
      have h1 := a j hj
      have h2 : f (gP l j) ≠ mxS f l l.length := fun e => g ⟨j, hj, e⟩
      omega
    omega
theorem hit_mn (f : Rp → Int) {l : List Rp} (h0 : l.length ≠ 0) : hitB f l (mnS f l l.length) l.length = true := by
  rw [hitB_iff]
  rcases Classical.em (∃ j, j < l.length ∧ f (gP l j) = mnS f l l.length) with g | g
  · exact g
  · have a := (mnS_iff f h0 _).1 (Int.le_refl _)
    have := (mnS_iff f h0 (mnS f l l.length + 1)).2 fun j hj => by
      have h1 := a j hj
      have h2 : f (gP l j) ≠ mnS f l l.length := fun e => g ⟨j, hj, e⟩
      omega
    omega
end Go.Proofs.YtbaiekoedmhhaaaDoor

/- Copies of marks; few marks. -/
namespace Go.Proofs.YtbaiekoedmhhaaaDoor
open Go.RowKit Go.Sort

set_option maxHeartbeats 4000000 in
theorem few13_any (v : Value) (l : List (Int × Int)) (tol : Int) (w : World) (hv : TbV w v l tol) :
    Calls Tryd.prog 18 #[v] w fun e w' => e = .returned (.bool (decide (l.length ≤ 129))) ∧ Below w.heap.size w w' := by
  obtain ⟨a, cap, rfl, _⟩ := hv
  have X := Lib.hid (bel_alloc (w := w) (o := .cells #[.slice a l.length cap, .int .i64 tol] 41) (Below.refl _ _))
  have e : decide ((l.length : Int) ≤ 129) = decide (l.length ≤ 129) := by simp; omega
  rw [← e]
  clear e
  generalize l.length = n at *
  go_enter Tryd.func18, Tryd.ntmps18
  go_wp2
  go_returns
  exact ⟨rfl, X.out⟩
end Go.Proofs.YtbaiekoedmhhaaaDoor

/- The reference of layer 13: Copy. -/
namespace Go.Proofs.YtbaiekoedmhhaaaDoor
open Go.RowKit Go.Sort

theorem step_append_ownM {P : Program} (w : World) {ops : Array Oper} {o : Oper} {a : Act} {K : Act → World → Prop} {Q : Exit → Act → World → Prop} {E : Prop} (hgd : o.guard = none) (s x : Operand) (t : TypeId)
    (ho : o.op = .call { callee := .builtin .append, args := #[s, x], argTypes := #[t, t] })
    (base : Nat) (e : TypeId) (i : TypeInfo) (z : Value) (size bytes : Nat) (ht : P.underlying t = some (.slice e)) (hi : P.info? e = some i) (hz : i.zero = some z)
    (hsize : i.size = size) (hby : i.bytes = bytes) (hzs : z.cells.size = size) (hsz : 0 < size)
    (v : Value) (n : Nat) (xs : List Value) (hs : a.eval s = v) (hown : w.ownsRow base e size v n xs)
    (ad : Addr) (m c : Nat) (news : List Value) (hx : a.eval x = .slice (some ad) m c) (hl : news.length = m * size) (hnews : ∀ j u, news[j]? = some u → w.cell? (ad.add j) = some u) (h1 : ∀ u ∈ news, u.oneCell' = true)
    (h63 : n + m ≤ maxLen) (hbytes : (n + m) * bytes ≤ 140737488355328) (hbase : base ≤ w.heap.size)
    (h : ∀ v' w', w'.ownsRow base e size v' (n + m) (xs ++ news) → w.grownBy w' v.ownBlock → K (a.put o.dst v') w') :
    if Region.wanted o (yielded ops a.tmps) = true then Oper.wp P o a w K Q else E := by
  rw [if_pos (by simp [Region.wanted, hgd])]
  exact wp_append_own w s x t ho base e i z size bytes ht hi hz hsize hby hzs hsz v n xs hs hown ad m c news hx hl hnews h1 h63 hbytes hbase fun v' w' g1 g2 _ => h v' w' g1 g2

/-- what Copy keeps -/
def CpI (w : World) (x y : Value) (W : World) : Prop :=
  Two w.heap.size W x y ∧ Two (w.heap.size + 1) W (.slice none 0 0) (.int .i64 0) ∧ Below w.heap.size w W
theorem CpI.below {w : World} {x y : Value} {W W' : World} (h : CpI w x y W) (hb : Below W.heap.size W W') : CpI w x y W' := ⟨h.1.below hb, h.2.1.below hb, bel_trans h.2.2 hb⟩
theorem CpI.init (w : World) (x y : Value) (T U : TypeId) : CpI w x y ((w.alloc (.cells #[x, y] T)).alloc (.cells #[.slice none 0 0, .int .i64 0] U)) := by
  have h2 := Two.new (w.alloc (.cells #[x, y] T)) (.slice none 0 0) (.int .i64 0) U
  rw [World.size_alloc] at h2
  exact ⟨(Two.new w x y T).alloc _, h2, bel_alloc (bel_alloc (Below.refl _ _))⟩
theorem CpI.put {w : World} {x y : Value} {W : World} (h : CpI w x y W) (p q : Value) :
    Two (w.heap.size + 1) ((W.setCell ⟨w.heap.size + 1, 0, none⟩ p).setCell ⟨w.heap.size + 1, 1, none⟩ q) p q ∧ Below w.heap.size w ((W.setCell ⟨w.heap.size + 1, 0, none⟩ p).setCell ⟨w.heap.size + 1, 1, none⟩ q) :=
  ⟨(h.2.1.set0 p).set1 q, (h.2.2.setCell (p := ⟨w.heap.size + 1, 0, none⟩) (by show w.heap.size ≤ w.heap.size + 1; omega) _).setCell (p := ⟨w.heap.size + 1, 1, none⟩) (by show w.heap.size ≤ w.heap.size + 1; omega) _⟩
theorem two_grownM {w w' : World} {b : Nat} {o : Option Nat} {x y : Value} (h : Two b w x y) (hg : w.grownBy w' o) (hne : some b ≠ o) : Two b w' x y := by
  obtain ⟨h0, h1, h2, h3, h4⟩ := h
  have hb := hg.block b h4 hne
  exact ⟨(World.cell?_of_block hb).trans h0, (World.cell?_of_block hb).trans h1, (World.frozen?_of_block hb).trans h2, (World.frozen?_of_block hb).trans h3, Nat.lt_of_lt_of_le h4 hg.size⟩
theorem ownM_set {W : World} {B : Nat} {v : Value} {l : List (Int × Int)} (h : RM.OwnM W B v l) (p : Addr) (hp : p.block < B) (z : Value) : RM.OwnM (W.setCell p z) B v l := by
  obtain ⟨h1, h2⟩ := h
  refine ⟨h1, ?_⟩
  rcases h2 with ⟨h2, h3⟩ | ⟨g, cap, cur, h2, hg, hh, r⟩
  · exact .inl ⟨h2, h3⟩
  · refine .inr ⟨g, cap, cur, h2, hg, ?_, r⟩
    rw [Below.heap_setCell _ _ _ _ (by omega)]
    exact hh
set_option maxRecDepth 100000 in
set_option maxHeartbeats 8000000 in
theorem copy_some (ad : Addr) (n cap : Nat) (tol : Int) (l : List (Int × Int)) (w : World) (hn : Hid (n = l.length)) (n1 : n ≤ 1000)
    (hc : Hid (∀ W, Below w.heap.size w W → ∀ j u, (flat l)[j]? = some u → W.cell? (ad.add j) = some u)) :
    Calls Tryd.prog 20 #[.agg #[.slice (some ad) n cap, .int .i64 tol]] w fun e w' => ∃ u, e = .returned u ∧ TbV w' u l tol ∧ Below w.heap.size w w' := by
  obtain ⟨i0, hi, hz0, hz1, hz2⟩ := RM.info_parts RM.mk_info
  replace hi := Lib.hid hi
  replace hz0 := Lib.hid hz0
  replace hz1 := Lib.hid hz1
  replace hz2 := Lib.hid hz2
  have S00 := Lib.hid (CpI.init w (.slice (some ad) n cap) (.int .i64 tol) 41 41)
  have hl : (flat l).length = n * 2 := by rw [flat_len, hn.out]
  have M1 : Hid (0 + n ≤ maxLen) := Lib.hid (by unfold maxLen; omega)
  have M2 : Hid ((0 + n) * 16 ≤ 140737488355328) := Lib.hid (by omega)
  go_enter Tryd.func20, Tryd.ntmps20
  go_wp2_with fail
  obtain ⟨WA, hWA⟩ : ∃ WA, ((w.alloc (.cells #[.slice (some ad) n cap, .int .i64 tol] 41)).alloc (.cells #[.slice none 0 0, .int .i64 0] 41)) = WA := ⟨_, rfl⟩
  rw [hWA] at S00 ⊢
  have S0 := Lib.hid (S00.out.below (bel_drew _))
  have hsz : WA.heap.size = w.heap.size + 2 := by rw [← hWA]; simp
  clear hWA
  have SE : Hid (CpI w (.slice (some ad) n cap) (.int .i64 tol) (WA.alloc (.cells #[] 48)).drew) := Lib.hid (S00.out.below (bel_alloc (bel_drew _)))
  have OM : Hid ((WA.alloc (.cells #[] 48)).drew.ownsRow WA.heap.size 48 2 (.slice (some ⟨WA.heap.size, 0, none⟩) 0 0) 0 []) := Lib.hid (show (WA.alloc (.cells #[] 48)).ownsRow _ _ _ _ _ _ from World.ownsRow_made WA #[] 0 (Nat.le_refl _) (Nat.zero_le _) (by simp))
  have HB : Hid (WA.heap.size ≤ (WA.alloc (.cells #[] 48)).drew.heap.size) := Lib.hid (show WA.heap.size ≤ (WA.alloc (.cells #[] 48)).heap.size by simp)
  obtain ⟨⟨a0, a1, _, _, _⟩, ⟨z0, z1, zf0, zf1, _⟩, _⟩ := S0.out
  obtain ⟨⟨c0, c1, _, _, _⟩, ⟨y0, y1, yf0, yf1, _⟩, _⟩ := SE.out
  have nb0 : w.heap.size ≠ WA.heap.size := by omega
  have nb1 : w.heap.size + 1 ≠ WA.heap.size := by omega
  have nb2 : WA.heap.size ≠ w.heap.size := by omega
  have nb3 : WA.heap.size ≠ w.heap.size + 1 := by omega
  have nb5 : w.heap.size < WA.heap.size := by omega
  have nb6 : w.heap.size + 1 < WA.heap.size := by omega
  replace hsz := Lib.hid hsz
  go_region_held3 (fun w' => w'.cell? ⟨w.heap.size, 0, none⟩ = some (.slice (some ad) n cap) ∧ w'.cell? ⟨w.heap.size, 1, none⟩ = some (.int .i64 tol)) (go_keep) (first
    | (refine step_append_ownM _ rfl (.tmp 3) (.tmp 5) 39 rfl WA.heap.size 48 i0 (.agg #[.int .i64 0, .int .i64 0]) 2 16 Tryd.underlying39 hi.out hz0.out hz1.out hz2.out rfl (by omega) (.slice (some ⟨WA.heap.size, 0, none⟩) 0 0) 0 [] (by rfl) OM.out ad n cap (flat l) (by rfl) hl (hc.out _ SE.out.2.2) (flat_one l) M1.out M2.out HB.out ?_; intro v2 w4 hown hgrow; have HG : Hid (RM.OwnM w4 WA.heap.size v2 l) := Lib.hid (by unfold RM.OwnM; rw [← hn.out]; rw [Nat.zero_add] at hown; exact hown); have T4 := Lib.hid (two_grownM SE.out.1 hgrow (fun e => by simp [Value.ownBlock] at e; omega)); have T5 := Lib.hid (two_grownM SE.out.2.1 hgrow (fun e => by simp [Value.ownBlock] at e; omega)); have X4 := Lib.hid (SE.out.2.2.grown hgrow SE.out.2.2.size (fun r e => by simp [Value.ownBlock] at e; omega)); obtain ⟨d0, d1, _, _, _⟩ := T4.out; obtain ⟨x0, x1, xf0, xf1, _⟩ := T5.out; obtain ⟨av, cv, hv2⟩ := RM.shape HG.out; subst hv2; clear hown hgrow))
  all_goals
    go_wp2
    obtain ⟨⟨p0, p1, _, _, _⟩, BB⟩ := (show CpI w (.slice (some ad) n cap) (.int .i64 tol) w4 from ⟨T4.out, T5.out, X4.out⟩).put (.slice av l.length cv) (.int .i64 tol)
    refine bodyPost_ret (v := .agg #[.slice av l.length cv, .int .i64 tol]) (by simp [results, Tryd.results20, go_sem, p0, p1]) rfl ?_
    exact ⟨_, rfl, ⟨av, cv, rfl, RM.pts (ownM_set (ownM_set HG.out ⟨w.heap.size + 1, 0, none⟩ (by show w.heap.size + 1 < WA.heap.size; omega) _) ⟨w.heap.size + 1, 1, none⟩ (by show w.heap.size + 1 < WA.heap.size; omega) _)⟩, BB⟩
set_option maxRecDepth 100000 in
set_option maxHeartbeats 8000000 in
theorem copy_none (cap : Nat) (tol : Int) (w : World) :
    Calls Tryd.prog 20 #[.agg #[.slice none 0 cap, .int .i64 tol]] w fun e w' => ∃ u, e = .returned u ∧ TbV w' u [] tol ∧ Below w.heap.size w w' := by
  obtain ⟨i0, hi, hz0, hz1, hz2⟩ := RM.info_parts RM.mk_info
  have S00 := Lib.hid (CpI.init w (.slice none 0 cap) (.int .i64 tol) 41 41)
  go_enter Tryd.func20, Tryd.ntmps20
  go_wp2_with fail
  obtain ⟨WA, hWA⟩ : ∃ WA, ((w.alloc (.cells #[.slice none 0 cap, .int .i64 tol] 41)).alloc (.cells #[.slice none 0 0, .int .i64 0] 41)) = WA := ⟨_, rfl⟩
  rw [hWA] at S00 ⊢
  have hsz : WA.heap.size = w.heap.size + 2 := by rw [← hWA]; simp
  clear hWA
  have S0 := Lib.hid (S00.out.below (bel_drew _))
  have SE : Hid (CpI w (.slice none 0 cap) (.int .i64 tol) (WA.alloc (.cells #[] 48)).drew) := Lib.hid (S00.out.below (bel_alloc (bel_drew _)))
  obtain ⟨⟨a0, a1, _, _, _⟩, ⟨z0, z1, zf0, zf1, _⟩, _⟩ := S0.out
  obtain ⟨⟨c0, c1, _, _, _⟩, ⟨y0, y1, yf0, yf1, _⟩, _⟩ := SE.out
  have SG : Hid (CpI w (.slice none 0 cap) (.int .i64 tol) (WA.alloc (.cells #[] 48))) := Lib.hid (S00.out.below (bel_alloc (Below.refl _ _)))
  obtain ⟨⟨g0, g1, _, _, _⟩, ⟨h0, h1, hf0, hf1, _⟩, _⟩ := SG.out
  have nb0 : w.heap.size ≠ WA.heap.size := by omega
  have nb1 : w.heap.size + 1 ≠ WA.heap.size := by omega
  have nb2 : WA.heap.size ≠ w.heap.size := by omega
  have nb3 : WA.heap.size ≠ w.heap.size + 1 := by omega
  replace hsz := Lib.hid hsz
  have AP : ∀ (W : World) (ty : TypeId), (Builtin.append_ #[39, 39] ty #[.slice (some ⟨WA.heap.size, 0, none⟩) 0 0, .slice none 0 cap]).run Tryd.prog W = .ok (.slice (some ⟨WA.heap.size, 0, none⟩) 0 0) W := fun W ty => by
    simp [Builtin.append_, run_underlying Tryd.underlying39, sizeOf, typeInfo, hi, Builtin.lenOf, Builtin.firstCells, storeCells]
  go_region
  go_wp2
  obtain ⟨⟨p0, p1, _, _, _⟩, BB⟩ := SG.out.put (.slice (some ⟨WA.heap.size, 0, none⟩) 0 0) (.int .i64 tol)
  have q0 := p0
  have q1 := p1
  refine bodyPost_ret (v := .agg #[.slice (some ⟨WA.heap.size, 0, none⟩) 0 0, .int .i64 tol]) (by simp [results, Tryd.results20, go_sem, p0, p1]) rfl ?_
  exact ⟨_, rfl, ⟨_, 0, rfl, some ⟨WA.heap.size, 0, none⟩, 0, rfl, ⟨by simp, by omega⟩, .inl rfl⟩, bel_trans BB (bel_drew _)⟩
theorem copy_any (v : Value) (l : List (Int × Int)) (tol : Int) (w : World) (hv : TbV w v l tol) (n1 : l.length ≤ 1000) :
    Calls Tryd.prog 20 #[v] w fun e w' => ∃ u, e = .returned u ∧ TbV w' u l tol ∧ Below w.heap.size w w' := by
  obtain ⟨a, cap, rfl, hp⟩ := hv
  cases a with
  | none =>
    have hl : l = [] := by
      obtain ⟨_, _, e, _, h | ⟨b, off, hx, _⟩⟩ := hp
      · exact List.length_eq_zero_iff.1 h
      · simp only [Value.slice.injEq] at e; rw [← e.1] at hx; cases hx
    subst hl
    exact copy_none cap tol w
  | some ad =>
    obtain ⟨a', c', e, hcap, h⟩ := hp
    simp only [Value.slice.injEq, true_and] at e
    obtain ⟨rfl, rfl⟩ := e
    rcases h with h | ⟨b, off, hx, hb, hc⟩
    · refine copy_some ad _ cap tol l w (Lib.hid rfl) n1 (Lib.hid fun W hW j u hj => ?_)
      obtain rfl := List.length_eq_zero_iff.1 h
      simp [flat] at hj
    · obtain rfl := Option.some.inj hx
      refine copy_some ⟨b, off, none⟩ _ cap tol l w (Lib.hid rfl) n1 (Lib.hid fun W hW j u hj => ?_)
      obtain ⟨i, hi, ⟨rfl, rfl⟩ | ⟨rfl, rfl⟩⟩ := flat_inv l j u hj
      · rw [Go.WideShapes.add_plain]; exact cell_bel (hc i hi).1 hW
      · rw [Go.WideShapes.add_plain, ← Nat.add_assoc]; exact cell_bel (hc i hi).2 hW
end Go.Proofs.YtbaiekoedmhhaaaDoor
