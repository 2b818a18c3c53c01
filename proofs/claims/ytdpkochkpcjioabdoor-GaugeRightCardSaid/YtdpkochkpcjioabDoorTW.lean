/- Package rounding: the table of words, and Word. -/
import Derived.Test.YtdpkochkpcjioabDoorQuo
import Derived.Test.YtdpkochkpcjioabDoorRows
import Derived.Lib.LaidTab
import Derived.OneCell
namespace Go.Proofs.YtdpkochkpcjioabDoor
open Go.RowKit

/-! ### the words of the rules: a package-level table -/
abbrev str (l : List UInt8) : Value := .string ⟨l.toArray⟩
def wordsL : List (List UInt8) := [[], [100, 111, 119, 110], [117, 112], [104, 97, 108, 102, 45, 117, 112], [104, 97, 108, 102, 45, 101, 118, 101, 110]]

/-- the table holds the words -/
def WordsIs (w : World) : Prop := 0 < w.heap.size ∧ ∀ i, i < 5 → w.cell? ⟨0, i, none⟩ = some (str (wordsL.getD i []))

theorem WordsIs.below {w w' : World} (h : WordsIs w) (hb : Below w.heap.size w w') : WordsIs w' :=
  ⟨Nat.lt_of_lt_of_le h.1 hb.size, fun i hi => by rw [(bcell hb).1 0 i h.1]; exact h.2 i hi⟩
theorem WordsIs.alloc {w : World} (h : WordsIs w) (o : Obj) : WordsIs (w.alloc o) := h.below (bel_alloc (Below.refl _ _))

theorem strs_of_elems {H : Type} {enc : TypeId × Value → H} {P : Program} {w : World} {base : Nat} {spare : Nat → Bool} {held : Bool} {e : TypeId} (he : P.underlying e = some .string) (hC : P.cellsOf e = 1)
    (m : Nat) : ∀ (cs : List Value) (xs : List (DataW H × List MemPlace)) (ls : List (List UInt8)), cs.length = xs.length → xs.map (·.1) = ls.map (fun l => DataW.lit (.string l)) → (∀ i, i < xs.length → DataW.trod enc P w base spare held m e ((cs.drop (i * P.cellsOf e)).take (P.cellsOf e)) = xs[i]?) →
      cs = ls.map str
  | [], xs, ls, hl, hm, _ => by
    have : xs = [] := List.length_eq_zero_iff.1 (by simpa using hl.symm)
    subst this
    cases ls with
    | nil => rfl
    | cons _ _ => simp at hm
  | c :: cs, [], _, h, _, _ => by simp at h
  | c :: cs, x :: xs, [], _, hm, _ => by simp at hm
  | c :: cs, x :: xs, l :: ls, hl, hm, h => by
    have h0 := h 0 (by simp)
    rw [hC] at h0
    simp only [Nat.zero_mul, List.drop_zero, List.take_succ_cons, List.take_zero, List.getElem?_cons_zero] at h0
    obtain ⟨s, e0, hx, _⟩ := DataW.trod_string he h0
    simp only [List.cons.injEq, and_true] at e0
    subst e0
    simp only [List.map_cons, List.cons.injEq] at hm
    have hs : s.data.toList = l := by
      have := hm.1
      rw [hx] at this
      simpa using this
    have ih := strs_of_elems he hC m cs xs ls (by simpa using hl) hm.2 (fun i hi => by
      have := h (i + 1) (by simp; omega)
      rw [hC] at this ⊢
      simpa using this)
    rw [List.map_cons, ← ih, ← hs]

theorem gWords : Tryd.prog.globalNamed "spile/rounding.words" = some 0 := by kernel_rfl
theorem gWordsType : (Tryd.prog.globals[0]?).map (·.type) = some 147 := by kernel_rfl

theorem words_of {W : World} (h : laidMetH Tryd.prog [("spile/rounding.words", Rows.laid_spile_rounding_words)] W) : WordsIs W := by
  obtain ⟨ps, ⟨g', t', cs, fuel, p, q, hg', ht', hvar, hd, _, _⟩, _⟩ := h
  obtain rfl := Option.some.inj (gWords.symm.trans hg')
  obtain rfl := Option.some.inj (gWordsType.symm.trans ht')
  obtain ⟨xs, m, _, hx, hl, hl2, hel⟩ := DataW.trod_array Tryd.underlying147 hd
  have hcs := strs_of_elems Tryd.underlying9 (by kernel_rfl) m cs.toList xs wordsL (by rw [hl, hl2]; kernel_rfl) (by
    have := congrArg Prod.fst hx
    simp only [Rows.laid_spile_rounding_words] at this
    simpa [wordsL] using this.symm) (fun i hi => hel i (by omega))
  have hcell := World.var?_cell gWords hvar
  have c0 := hcell 0
  have e : cs = (wordsL.map str).toArray := by rw [← hcs]
  refine ⟨World.block_lt_of_cell? W ⟨0, 0, none⟩ (u := str []) (by rw [c0, e]; rfl), fun i hi => ?_⟩
  rw [hcell i, e]
  match i, hi with
  | 0, _ => rfl
  | 1, _ => rfl
  | 2, _ => rfl
  | 3, _ => rfl
  | 4, _ => rfl

/-- the word of a rule -/
def wordOf (rule : Int) : List UInt8 := if isRuleB rule then wordsL.getD rule.toNat [] else []

theorem word_bad (rule : Int) (w : World) (hr : Hid (isRuleB rule = false)) :
    Calls Tryd.prog 107 #[.int .i64 rule] w fun e w' => e = .returned (str []) ∧ Below w.heap.size w w' := by
  go_enter Tryd.func107, Tryd.ntmps107
  go_wp2_with (go_at_call 99; refine (isRule_any _ _).mono ?_; rw [hr.out]; rintro e w' ⟨rfl, rfl⟩)
  go_ret
  exact ⟨rfl, Below.refl _ _⟩
theorem word_good (k : Nat) (v : Value) (w : World) (h1 : 1 ≤ k) (h2 : k ≤ 4) (hr : Hid (isRuleB k = true)) (hc : w.cell? ⟨0, k, none⟩ = some v) :
    Calls Tryd.prog 107 #[.int .i64 k] w fun e w' => e = .returned v ∧ Below w.heap.size w w' := by
  go_enter Tryd.func107, Tryd.ntmps107
  go_wp2_with (go_at_call 99; refine (isRule_any _ _).mono ?_; rw [hr.out]; rintro e w' ⟨rfl, rfl⟩)
  go_ret
  exact ⟨rfl, Below.refl _ _⟩
theorem word_any (rule : Int) (w : World) (hw : WordsIs w) :
    Calls Tryd.prog 107 #[.int .i64 rule] w fun e w' => e = .returned (str (wordOf rule)) ∧ Below w.heap.size w w' := by
  unfold wordOf
  cases hr : isRuleB rule with
  | false => exact word_bad rule w hr
  | true =>
    obtain ⟨r0, r1⟩ := (isRuleB_iff rule).1 hr
    obtain ⟨k, rfl⟩ := Int.eq_ofNat_of_zero_le (show 0 ≤ rule by omega)
    rw [Int.toNat_natCast]
    exact word_good k _ w (by omega) (by omega) hr (hw.2 k (by omega))

end Go.Proofs.YtdpkochkpcjioabDoor

