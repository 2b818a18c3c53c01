/- Package rounding: Total, Word and Rule. -/
import Derived.Test.YtlpngfngdigchaaDoorQuo
import Derived.Test.YtlpngfngdigchaaDoorRows
import Derived.Lib.LaidTab
import Derived.OneCell
namespace Go.Proofs.YtlpngfngdigchaaDoor
open Go.RowKit

/-- a value is a slice that reads as a list of integers -/
def Ins (w : World) (v : Value) (zs : List Int) : Prop :=
  ∃ a cap, v = .slice a zs.length cap ∧ zs.length ≤ 9223372036854775807 ∧
    (zs.length = 0 ∨ ∃ b off, a = some ⟨b, off, none⟩ ∧ b < w.heap.size ∧ ∀ j, j < zs.length → w.cell? ⟨b, off + j, none⟩ = some (.int .i64 (zs.getD j 0)))

theorem Ins.below {w w' : World} {v : Value} {zs : List Int} (h : Ins w v zs) (hb : Below w.heap.size w w') : Ins w' v zs := by
  obtain ⟨a, cap, rfl, hl, h | ⟨b, off, rfl, hlt, hc⟩⟩ := h
  · exact ⟨a, cap, rfl, hl, .inl h⟩
  · exact ⟨_, cap, rfl, hl, .inr ⟨b, off, rfl, Nat.lt_of_lt_of_le hlt hb.size, fun j hj => by rw [(bcell hb).1 _ _ hlt]; exact hc j hj⟩⟩

theorem Ins.alloc {w : World} {v : Value} {zs : List Int} (h : Ins w v zs) (o : Obj) : Ins (w.alloc o) v zs := h.below (bel_alloc (Below.refl _ _))

/-- a row that is written out -/
theorem ins_lit (w : World) (zs : List Int) (vs : List Value) (hv : vs = zs.map (Value.int .i64)) (hl : zs.length ≤ 1000) :
    Ins (w.alloc (.cells vs.toArray 3)) (.slice (some ⟨w.heap.size, 0, none⟩) zs.length zs.length) zs := by
  refine ⟨_, _, rfl, by omega, .inr ⟨w.heap.size, 0, rfl, by simp, fun j hj => ?_⟩⟩
  subst hv
  rw [World.cell?_alloc_new]
  simp [List.getD, List.getElem?_eq_getElem hj]

theorem sum_take_succ (zs : List Int) (k : Nat) (hk : k < zs.length) : (zs.take (k + 1)).sum = (zs.take k).sum + zs.getD k 0 := by
  rw [List.take_add_one, List.sum_append]
  simp [List.getD, List.getElem?_eq_getElem hk]

/-! ### Total -/
/-- the part of a total that some numbers make -/
def totQ (l : List Int) (b rule : Int) : Int := (l.map fun x => quoQ x b rule).sum
def totR (l : List Int) (b rule : Int) : Int := (l.map fun x => quoR x b rule).sum
def totE (l : List Int) (b rule : Int) : Int :=
  if isRuleB rule then (if 64 < l.length then 8 else if isDivB b then (if l.all isAm then 0 else 2) else 2) else 1

theorem map_take_succ (f : Int → Int) (l : List Int) (k : Nat) (hk : k < l.length) : ((l.take (k + 1)).map f).sum = ((l.take k).map f).sum + f (l.getD k 0) := by
  rw [List.take_add_one, List.map_append, List.sum_append]
  simp [List.getD, List.getElem?_eq_getElem hk]
theorem map_bd (f : Int → Int) (M : Int) (h : ∀ x, -M ≤ f x ∧ f x ≤ M) (l : List Int) : -(M * l.length) ≤ (l.map f).sum ∧ (l.map f).sum ≤ M * l.length := by
  induction l with
  | nil => simp
  | cons z l ih =>
    have := h z
    have e : M * ((z :: l).length : Int) = M * l.length + M := by rw [List.length_cons, Int.natCast_add, Int.mul_add]; simp
    rw [e]
    simp only [List.map_cons, List.sum_cons]
    omega

theorem total_rule (v : Value) (b rule : Int) (w : World) (hr : Hid (isRuleB rule = false)) :
    Calls Tryd.prog 17 #[v, .int .i64 b, .int .i64 rule] w fun e w' => e = .returned (.tuple #[.int .i64 0, .int .i64 0, .int .i64 1]) ∧ Below w.heap.size w w' := by
  go_enter Tryd.func17, Tryd.ntmps17
  go_wp2_with (go_at_call 24; refine (isRule_any _ _).mono ?_; rw [hr.out]; rintro e w' ⟨rfl, rfl⟩)
  go_returns
  exact ⟨rfl, Below.refl _ _⟩
theorem total_many (a : Option Addr) (n cap : Nat) (b rule : Int) (w : World) (hr : Hid (isRuleB rule = true)) (h : 64 < n) (h2 : n ≤ 9223372036854775807) :
    Calls Tryd.prog 17 #[.slice a n cap, .int .i64 b, .int .i64 rule] w fun e w' => e = .returned (.tuple #[.int .i64 0, .int .i64 0, .int .i64 8]) ∧ Below w.heap.size w w' := by
  go_enter Tryd.func17, Tryd.ntmps17
  go_wp2_with (go_at_call 24; refine (isRule_any _ _).mono ?_; rw [hr.out]; rintro e w' ⟨rfl, rfl⟩)
  go_returns
  exact ⟨rfl, Below.refl _ _⟩
theorem total_div (a : Option Addr) (n cap : Nat) (b rule : Int) (w : World) (hr : Hid (isRuleB rule = true)) (hd : Hid (isDivB b = false)) (h : n ≤ 64) :
    Calls Tryd.prog 17 #[.slice a n cap, .int .i64 b, .int .i64 rule] w fun e w' => e = .returned (.tuple #[.int .i64 0, .int .i64 0, .int .i64 2]) ∧ Below w.heap.size w w' := by
  go_enter Tryd.func17, Tryd.ntmps17
  go_wp2_with (first
    | (go_at_call 24; refine (isRule_any _ _).mono ?_; rw [hr.out]; rintro e w' ⟨rfl, rfl⟩)
    | (go_at_call 25; refine (isDivisor_any _ _).mono ?_; rw [hd.out]; rintro e w' ⟨rfl, rfl⟩))
  go_returns
  exact ⟨rfl, Below.refl _ _⟩

theorem all_take_not (zs : List Int) (k : Nat) (h : zs.all isAm = true) (hk : k < zs.length) : isAm (zs.getD k 0) = true := by
  rw [List.all_eq_true] at h; apply h; simp [List.getD, List.getElem?_eq_getElem hk]

/-- the loop of Total: E is 0 and all numbers are right, or E is 2 and one is not -/
theorem total_loop (a : Option Addr) (n cap : Nat) (l : List Int) (b rule S R E : Int) (w : World) (hn : n = l.length) (hv : Ins w (.slice a n cap) l) (hr : isRuleB rule = true) (hd : isDivB b = true) (h : n ≤ 64)
    (hE : (E = 0 ∧ l.all isAm = true ∧ totQ l b rule = S ∧ totR l b rule = R) ∨ (E = 2 ∧ l.all isAm = false ∧ S = 0 ∧ R = 0)) :
    Calls Tryd.prog 17 #[.slice a n cap, .int .i64 b, .int .i64 rule] w fun e w' => e = .returned (.tuple #[.int .i64 S, .int .i64 R, .int .i64 E]) ∧ Below w.heap.size w w' := by
  have HR := Lib.hid hr
  have HD := Lib.hid hd
  have HV := Lib.hid hv
  have HN := Lib.hid hn
  have HE := Lib.hid hE
  obtain ⟨b0, b1⟩ := (isDivB_iff b).1 hd
  clear hr hd hv hn hE
  go_enter Tryd.func17, Tryd.ntmps17
  go_wp2_with (first
    | (go_at_call 24; refine (isRule_any _ _).mono ?_; rw [HR.out]; rintro e w' ⟨rfl, hw⟩; subst hw)
    | (go_at_call 25; refine (isDivisor_any _ _).mono ?_; rw [HD.out]; rintro e w' ⟨rfl, hw⟩; subst hw))
  go_loopw [9, 10, 27] (fun s t i wr => ∃ k : Nat, k ≤ n ∧ i = .int .i64 k ∧ s = .int .i64 (totQ (l.take k) b rule) ∧ t = .int .i64 (totR (l.take k) b rule) ∧ Hid ((l.take k).all isAm = true) ∧ Hid (Below w.heap.size w wr)) (fun _ _ i _ => n - (intOf i).toNat)
  case atStart => exact ⟨0, Nat.zero_le _, rfl, rfl, rfl, by show _ = _; simp, Below.refl _ _⟩
  case round =>
    obtain ⟨k, hk, rfl, rfl, rfl, ha, hb⟩ := hrel
    have q1 := map_bd (fun x => quoQ x b rule) 128849018880001 (fun x => by have := quo_bd x b rule; omega) (l.take k)
    have q2 := map_bd (fun x => quoR x b rule) 128849018880001 (fun x => by have := quo_bd x b rule; omega) (l.take k)
    have hlen : (l.take k).length ≤ 64 := by have := List.length_take_le k l; omega
    have Q1 : -8246337208320064 ≤ totQ (l.take k) b rule ∧ totQ (l.take k) b rule ≤ 8246337208320064 := by unfold totQ; omega
    have Q2 : -8246337208320064 ≤ totR (l.take k) b rule ∧ totR (l.take k) b rule ≤ 8246337208320064 := by unfold totR; omega
    obtain ⟨x1, x2⟩ := Q1
    obtain ⟨x3, x4⟩ := Q2
    clear q1 q2 hlen
    by_cases hlt : k < n
    · have hkz : k < l.length := by rw [← HN.out]; exact hlt
      obtain ⟨ad', cap', hveq, _, hin⟩ := HV.out.below hb.out
      have hcell : ∃ b off, a = some ⟨b, off, none⟩ ∧ wr.cell? ⟨b, off + k, none⟩ = some (.int .i64 (l.getD k 0)) := by
        simp only [Value.slice.injEq] at hveq
        rcases hin with hin | ⟨b, off, e, _, hc⟩
        · omega
        · exact ⟨b, off, by rw [hveq.1, e], hc k hkz⟩
      clear hveq hin ad' cap'
      obtain ⟨g, off, rfl, hcell⟩ := hcell
      have HS := Lib.hid (show totQ (l.take (k + 1)) b rule = totQ (l.take k) b rule + quoQ (l.getD k 0) b rule from map_take_succ (fun x => quoQ x b rule) l k hkz)
      have HT := Lib.hid (show totR (l.take (k + 1)) b rule = totR (l.take k) b rule + quoR (l.getD k 0) b rule from map_take_succ (fun x => quoR x b rule) l k hkz)
      have HA := Lib.hid (all_take_succ l k hkz)
      have HF := Lib.hid (all_false_at l k hkz)
      have HQ := Lib.hid (quotient_any (l.getD k 0) b rule)
      obtain ⟨y1, y2, y3, y4⟩ := quo_bd (l.getD k 0) b rule
      have hz : Hid (isAm (l.getD k 0) = true → quoE (l.getD k 0) b rule = 0) := by
        intro hz
        have := (isAm_iff _).1 hz
        unfold quoE; rw [HR.out, if_pos rfl, if_pos ⟨by omega, by omega, HD.out⟩]
      have hz2 : Hid (128849018880000 < l.getD k 0 → quoE (l.getD k 0) b rule = 2) := by
        intro hz
        unfold quoE; rw [HR.out, if_pos rfl, if_neg (by omega)]
      clear hkz
      generalize l.getD k 0 = z at *
      generalize totQ (l.take k) b rule = s at *
      generalize totR (l.take k) b rule = t at *
      generalize quoQ z b rule = q at *
      generalize quoR z b rule = r at *
      generalize quoE z b rule = x at *
      by_cases hz0 : z < 0
      · have hbad := HF.out (by rw [isAm_not]; omega)
        obtain ⟨rfl, _, rfl, rfl⟩ : E = 2 ∧ l.all isAm = false ∧ S = 0 ∧ R = 0 := by
          rcases HE.out with g | g
          · rw [g.2.1] at hbad; cases hbad
          · exact g
        clear hbad HE
        go_wp2
        go_returns
        exact ⟨rfl, hb.out⟩
      · by_cases hz1 : 128849018880000 < z
        · have hbad := HF.out (by rw [isAm_not]; omega)
          obtain ⟨rfl, _, rfl, rfl⟩ : E = 2 ∧ l.all isAm = false ∧ S = 0 ∧ R = 0 := by
            rcases HE.out with g | g
            · rw [g.2.1] at hbad; cases hbad
            · exact g
          obtain rfl : x = 2 := hz2.out hz1
          clear hbad HE
          go_wp2_with fail
          refine (HQ.out _).mono ?_
          rintro e w2 ⟨rfl, h2⟩
          have HB := Lib.hid (bel_trans hb.out h2); clear h2
          go_wp2
          go_returns
          exact ⟨rfl, HB.out⟩
        · have hg : isAm z = true := by rw [isAm_iff]; omega
          obtain rfl : x = 0 := hz.out hg
          have HG := Lib.hid hg; clear hg
          go_wp2_with fail
          refine (HQ.out _).mono ?_
          rintro e w2 ⟨rfl, h2⟩
          have HB := Lib.hid (bel_trans hb.out h2); clear h2
          go_wp2
          go_roundw
          case rel => exact ⟨k + 1, by omega, by go_num, by rw [HS.out], by rw [HT.out], by show _ = _; rw [HA.out, ha.out, HG.out]; rfl, HB⟩
          case measure => simp [intOf]; omega
    · obtain rfl : k = n := by omega
      have HTk : Hid (l.take k = l) := by show _ = _; exact List.take_of_length_le (by have := HN.out; omega)
      have hall := ha.out
      rw [HTk.out] at hall
      obtain ⟨rfl, _, e1, e2⟩ : E = 0 ∧ l.all isAm = true ∧ totQ l b rule = S ∧ totR l b rule = R := by
        rcases HE.out with g | g
        · exact g
        · rw [g.2.1] at hall; cases hall
      have E1 := Lib.hid e1
      have E2 := Lib.hid e2
      clear e1 e2 hall HE
      go_wp2
      go_returns
      rw [HTk.out, E1.out, E2.out]
      exact ⟨rfl, hb.out⟩

/-- what Total returns -/
def totS (l : List Int) (b rule : Int) : Int := if totE l b rule = 0 then totQ l b rule else 0
def totX (l : List Int) (b rule : Int) : Int := if totE l b rule = 0 then totR l b rule else 0

theorem total_any (v : Value) (l : List Int) (b rule : Int) (w : World) (hv : Ins w v l) :
    Calls Tryd.prog 17 #[v, .int .i64 b, .int .i64 rule] w fun e w' => e = .returned (.tuple #[.int .i64 (totS l b rule), .int .i64 (totX l b rule), .int .i64 (totE l b rule)]) ∧ Below w.heap.size w w' := by
  unfold totS totX
  cases hr : isRuleB rule with
  | false =>
    have e : totE l b rule = 1 := by unfold totE; rw [hr]; rfl
    rw [e]; exact total_rule v b rule w hr
  | true =>
    have hv0 := hv
    obtain ⟨ad, cap, rfl, hl, _⟩ := hv0
    by_cases h64 : 64 < l.length
    · have e : totE l b rule = 8 := by unfold totE; rw [hr, if_pos rfl, if_pos h64]
      rw [e]; exact total_many ad _ cap b rule w hr h64 hl
    · cases hd : isDivB b with
      | false =>
        have e : totE l b rule = 2 := by unfold totE; rw [hr, if_pos rfl, if_neg h64, hd]; rfl
        rw [e]; exact total_div ad _ cap b rule w hr hd (by omega)
      | true =>
        cases ha : l.all isAm with
        | true =>
          have e : totE l b rule = 0 := by unfold totE; rw [hr, if_pos rfl, if_neg h64, hd, ha]; rfl
          rw [e]; exact total_loop ad _ cap l b rule _ _ 0 w rfl hv hr hd (by omega) (.inl ⟨rfl, ha, rfl, rfl⟩)
        | false =>
          have e : totE l b rule = 2 := by unfold totE; rw [hr, if_pos rfl, if_neg h64, hd, ha]; rfl
          rw [e]; exact total_loop ad _ cap l b rule 0 0 2 w rfl hv hr hd (by omega) (.inr ⟨rfl, ha, rfl, rfl⟩)

/-! ### the words of the rules: a package-level table -/
abbrev str (l : List UInt8) : Value := .string ⟨l.toArray⟩
def wordsL : List (List UInt8) := [[], [100, 111, 119, 110], [117, 112], [104, 97, 108, 102, 45, 117, 112], [104, 97, 108, 102, 45, 101, 118, 101, 110]]

/-- the table holds the words -/
def WordsIs (w : World) : Prop := 0 < w.heap.size ∧ ∀ i, i < 5 → w.cell? ⟨0, i, none⟩ = some (str (wordsL.getD i []))

theorem WordsIs.below {w w' : World} (h : WordsIs w) (hb : Below w.heap.size w w') : WordsIs w' :=
  ⟨Nat.lt_of_lt_of_le h.1 hb.size, fun i hi => by rw [(bcell hb).1 0 i h.1]; exact h.2 i hi⟩
theorem WordsIs.alloc {w : World} (h : WordsIs w) (o : Obj) : WordsIs (w.alloc o) := h.below (bel_alloc (Below.refl _ _))

theorem strs_of_elems {H : Type} {enc : TypeId × Value → H} {P : Program} {w : World} {base : Nat} {spare : Nat → Bool} {held : Bool} {e : TypeId} (he : P.underlying e = some .string) (hC : P.cellsOf e = 1)
    (m : Nat) : ∀ (cs : List Value) (xs : List (DataW H × List MemPlace)) (ls : List (List UInt8)), cs.length = xs.length → xs.map (·.1) = ls.map (fun l => DataW.lit (.string l)) → (∀ i, i < xs.length → DataW.trod enc P w base spare held m e ((cs.drop (i * P.cellsOf e)).take (P.cellsOf e)) = xs[i]?) →
      cs = ls.map str
  | [], xs, ls, hl, hm, _ => by
    have : xs = [] := List.length_eq_zero_iff.1 (by simpa using hl.symm)
    subst this
    cases ls with
    | nil => rfl
    | cons _ _ => simp at hm
  | c :: cs, [], _, h, _, _ => by simp at h
  | c :: cs, x :: xs, [], _, hm, _ => by simp at hm
  | c :: cs, x :: xs, l :: ls, hl, hm, h => by
    have h0 := h 0 (by simp)
    rw [hC] at h0
    simp only [Nat.zero_mul, List.drop_zero, List.take_succ_cons, List.take_zero, List.getElem?_cons_zero] at h0
    obtain ⟨s, e0, hx, _⟩ := DataW.trod_string he h0
    simp only [List.cons.injEq, and_true] at e0
    subst e0
    simp only [List.map_cons, List.cons.injEq] at hm
    have hs : s.data.toList = l := by
      have := hm.1
      rw [hx] at this
      simpa using this
    have ih := strs_of_elems he hC m cs xs ls (by simpa using hl) hm.2 (fun i hi => by
      have := h (i + 1) (by simp; omega)
      rw [hC] at this ⊢
      simpa using this)
    rw [List.map_cons, ← ih, ← hs]

theorem gWords : Tryd.prog.globalNamed "spile/rounding.words" = some 0 := by kernel_rfl
theorem gWordsType : (Tryd.prog.globals[0]?).map (·.type) = some 48 := by kernel_rfl

theorem words_of {W : World} (h : laidMetH Tryd.prog [("spile/rounding.words", Rows.laid_spile_rounding_words)] W) : WordsIs W := by
  obtain ⟨ps, ⟨g', t', cs, fuel, p, q, hg', ht', hvar, hd, _, _⟩, _⟩ := h
  obtain rfl := Option.some.inj (gWords.symm.trans hg')
  obtain rfl := Option.some.inj (gWordsType.symm.trans ht')
  obtain ⟨xs, m, _, hx, hl, hl2, hel⟩ := DataW.trod_array Tryd.underlying48 hd
  have hcs := strs_of_elems Tryd.underlying9 (by kernel_rfl) m cs.toList xs wordsL (by rw [hl, hl2]; kernel_rfl) (by
    have := congrArg Prod.fst hx
    simp only [Rows.laid_spile_rounding_words] at this
    simpa [wordsL] using this.symm) (fun i hi => hel i (by omega))
  have hcell := World.var?_cell gWords hvar
  have c0 := hcell 0
  have e : cs = (wordsL.map str).toArray := by rw [← hcs]
  refine ⟨World.block_lt_of_cell? W ⟨0, 0, none⟩ (u := str []) (by rw [c0, e]; rfl), fun i hi => ?_⟩
  rw [hcell i, e]
  match i, hi with
  | 0, _ => rfl
  | 1, _ => rfl
  | 2, _ => rfl
  | 3, _ => rfl
  | 4, _ => rfl

/-- the word of a rule -/
def wordOf (rule : Int) : List UInt8 := if isRuleB rule then wordsL.getD rule.toNat [] else []

theorem word_bad (rule : Int) (w : World) (hr : Hid (isRuleB rule = false)) :
    Calls Tryd.prog 20 #[.int .i64 rule] w fun e w' => e = .returned (str []) ∧ Below w.heap.size w w' := by
  go_enter Tryd.func20, Tryd.ntmps20
  go_wp2_with (go_at_call 24; refine (isRule_any _ _).mono ?_; rw [hr.out]; rintro e w' ⟨rfl, rfl⟩)
  go_ret
  exact ⟨rfl, Below.refl _ _⟩
theorem word_good (k : Nat) (v : Value) (w : World) (h1 : 1 ≤ k) (h2 : k ≤ 4) (hr : Hid (isRuleB k = true)) (hc : w.cell? ⟨0, k, none⟩ = some v) :
    Calls Tryd.prog 20 #[.int .i64 k] w fun e w' => e = .returned v ∧ Below w.heap.size w w' := by
  go_enter Tryd.func20, Tryd.ntmps20
  go_wp2_with (go_at_call 24; refine (isRule_any _ _).mono ?_; rw [hr.out]; rintro e w' ⟨rfl, rfl⟩)
  go_ret
  exact ⟨rfl, Below.refl _ _⟩
theorem word_any (rule : Int) (w : World) (hw : WordsIs w) :
    Calls Tryd.prog 20 #[.int .i64 rule] w fun e w' => e = .returned (str (wordOf rule)) ∧ Below w.heap.size w w' := by
  unfold wordOf
  cases hr : isRuleB rule with
  | false => exact word_bad rule w hr
  | true =>
    obtain ⟨r0, r1⟩ := (isRuleB_iff rule).1 hr
    obtain ⟨k, rfl⟩ := Int.eq_ofNat_of_zero_le (show 0 ≤ rule by omega)
    rw [Int.toNat_natCast]
    exact word_good k _ w (by omega) (by omega) hr (hw.2 k (by omega))

theorem sidx0 (a b c d e : Value) (w : World) : (Instr.index 48 (.agg #[a, b, c, d, e]) (.int .i64 0)).run Tryd.prog w = .ok a w := by kernel_rfl
theorem sidx1 (a b c d e : Value) (w : World) : (Instr.index 48 (.agg #[a, b, c, d, e]) (.int .i64 1)).run Tryd.prog w = .ok b w := by kernel_rfl
theorem sidx2 (a b c d e : Value) (w : World) : (Instr.index 48 (.agg #[a, b, c, d, e]) (.int .i64 2)).run Tryd.prog w = .ok c w := by kernel_rfl
theorem sidx3 (a b c d e : Value) (w : World) : (Instr.index 48 (.agg #[a, b, c, d, e]) (.int .i64 3)).run Tryd.prog w = .ok d w := by kernel_rfl
theorem sidx4 (a b c d e : Value) (w : World) : (Instr.index 48 (.agg #[a, b, c, d, e]) (.int .i64 4)).run Tryd.prog w = .ok e w := by kernel_rfl

/-- the rule of a word -/
def ruleOf (l : List UInt8) : Int := if l = [] then 0 else if l = wordsL.getD 1 [] then 1 else if l = wordsL.getD 2 [] then 2 else if l = wordsL.getD 3 [] then 3 else if l = wordsL.getD 4 [] then 4 else 0

set_option maxHeartbeats 1000000 in
theorem rule_any (s : ByteArray) (w : World) (hw : WordsIs w) :
    Calls Tryd.prog 22 #[.string s] w fun e w' => e = .returned (.int .i64 (ruleOf s.toList)) ∧ Below w.heap.size w w' := by
  have c0 := hw.2 0 (by omega)
  have c1 := hw.2 1 (by omega)
  have c2 := hw.2 2 (by omega)
  have c3 := hw.2 3 (by omega)
  have c4 := hw.2 4 (by omega)
  simp only [wordsL, List.getD_cons_zero, List.getD_cons_succ] at c0 c1 c2 c3 c4
  clear hw
  have j0 := sidx0
  have j1 := sidx1
  have j2 := sidx2
  have j3 := sidx3
  have j4 := sidx4
  generalize hl : s.toList = l at *
  by_cases h0 : l = []
  · have hv : Hid (ruleOf l = 0) := by show _ = _; rw [h0]; decide
    rw [hv.out]
    have g0 : s.toList.isEmpty = true := by rw [hl, h0]; rfl
    clear hl hv h0
    go_enter Tryd.func22, Tryd.ntmps22
    go_wp2_with fail
    refine wp_loop_rounds 6 ?_
    rw [rounds_succ]
    go_wp2_with fail
    go_ret
    exact ⟨rfl, Below.refl _ _⟩
  by_cases h1 : l = [100, 111, 119, 110]
  · have hv : Hid (ruleOf l = 1) := by show _ = _; rw [h1]; decide
    rw [hv.out]
    have g1 : ([100, 111, 119, 110] == s.toList) = true := by rw [hl, h1]; rfl
    have g0 : s.toList.isEmpty = false := by rw [hl, h1]; rfl
    clear hl hv h0 h1
    go_enter Tryd.func22, Tryd.ntmps22
    go_wp2_with fail
    refine wp_loop_rounds 6 ?_
    rw [rounds_succ]
    go_wp2_with fail
    rw [rounds_succ]
    go_wp2_with fail
    go_ret
    exact ⟨rfl, Below.refl _ _⟩
  by_cases h2 : l = [117, 112]
  · have hv : Hid (ruleOf l = 2) := by show _ = _; rw [h2]; decide
    rw [hv.out]
    have g2 : ([117, 112] == s.toList) = true := by rw [hl, h2]; rfl
    have g0 : s.toList.isEmpty = false := by rw [hl, h2]; rfl
    have g1 : ([100, 111, 119, 110] == s.toList) = false := by rw [hl, h2]; rfl
    clear hl hv h0 h1 h2
    go_enter Tryd.func22, Tryd.ntmps22
    go_wp2_with fail
    refine wp_loop_rounds 6 ?_
    rw [rounds_succ]
    go_wp2_with fail
    rw [rounds_succ]
    go_wp2_with fail
    rw [rounds_succ]
    go_wp2_with fail
    go_ret
    exact ⟨rfl, Below.refl _ _⟩
  by_cases h3 : l = [104, 97, 108, 102, 45, 117, 112]
  · have hv : Hid (ruleOf l = 3) := by show _ = _; rw [h3]; decide
    rw [hv.out]
    have g3 : ([104, 97, 108, 102, 45, 117, 112] == s.toList) = true := by rw [hl, h3]; rfl
    have g0 : s.toList.isEmpty = false := by rw [hl, h3]; rfl
    have g1 : ([100, 111, 119, 110] == s.toList) = false := by rw [hl, h3]; rfl
    have g2 : ([117, 112] == s.toList) = false := by rw [hl, h3]; rfl
    clear hl hv h0 h1 h2 h3
    go_enter Tryd.func22, Tryd.ntmps22
    go_wp2_with fail
    refine wp_loop_rounds 6 ?_
    rw [rounds_succ]
    go_wp2_with fail
    rw [rounds_succ]
    go_wp2_with fail
    rw [rounds_succ]
    go_wp2_with fail
    rw [rounds_succ]
    go_wp2_with fail
    go_ret
    exact ⟨rfl, Below.refl _ _⟩
  by_cases h4 : l = [104, 97, 108, 102, 45, 101, 118, 101, 110]
  · have hv : Hid (ruleOf l = 4) := by show _ = _; rw [h4]; decide
    rw [hv.out]
    have g4 : ([104, 97, 108, 102, 45, 101, 118, 101, 110] == s.toList) = true := by rw [hl, h4]; rfl
    have g0 : s.toList.isEmpty = false := by rw [hl, h4]; rfl
    have g1 : ([100, 111, 119, 110] == s.toList) = false := by rw [hl, h4]; rfl
    have g2 : ([117, 112] == s.toList) = false := by rw [hl, h4]; rfl
    have g3 : ([104, 97, 108, 102, 45, 117, 112] == s.toList) = false := by rw [hl, h4]; rfl
    clear hl hv h0 h1 h2 h3 h4
    go_enter Tryd.func22, Tryd.ntmps22
    go_wp2_with fail
    refine wp_loop_rounds 6 ?_
    rw [rounds_succ]
    go_wp2_with fail
    rw [rounds_succ]
    go_wp2_with fail
    rw [rounds_succ]
    go_wp2_with fail
    rw [rounds_succ]
    go_wp2_with fail
    rw [rounds_succ]
    go_wp2_with fail
    go_ret
    exact ⟨rfl, Below.refl _ _⟩
  have hv : Hid (ruleOf l = 0) := by show _ = _; unfold ruleOf; simp only [wordsL, List.getD_cons_zero, List.getD_cons_succ]; rw [if_neg h0, if_neg h1, if_neg h2, if_neg h3, if_neg h4]
  rw [hv.out]
  have g0 : s.toList.isEmpty = false := by rw [hl]; cases l with
    | nil => exact absurd rfl h0
    | cons _ _ => rfl
  have g1 : ([100, 111, 119, 110] == s.toList) = false := by rw [hl, beq_eq_false_iff_ne]; exact fun h => h1 h.symm
  have g2 : ([117, 112] == s.toList) = false := by rw [hl, beq_eq_false_iff_ne]; exact fun h => h2 h.symm
  have g3 : ([104, 97, 108, 102, 45, 117, 112] == s.toList) = false := by rw [hl, beq_eq_false_iff_ne]; exact fun h => h3 h.symm
  have g4 : ([104, 97, 108, 102, 45, 101, 118, 101, 110] == s.toList) = false := by rw [hl, beq_eq_false_iff_ne]; exact fun h => h4 h.symm
  clear hl hv h0 h1 h2 h3 h4
  go_enter Tryd.func22, Tryd.ntmps22
  go_wp2_with fail
  refine wp_loop_rounds 6 ?_
  rw [rounds_succ]
  go_wp2_with fail
  rw [rounds_succ]
  go_wp2_with fail
  rw [rounds_succ]
  go_wp2_with fail
  rw [rounds_succ]
  go_wp2_with fail
  rw [rounds_succ]
  go_wp2_with fail
  rw [rounds_succ]
  go_wp2_with fail
  go_ret
  exact ⟨rfl, Below.refl _ _⟩

end Go.Proofs.YtlpngfngdigchaaDoor
