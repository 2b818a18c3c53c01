/- Package unit: quotient, Print. -/
import Derived.Test.YtdhckbjebccdbaaDoorUCheck
import Derived.Laws.Concat
import Derived.Lib.AppendIntMem
namespace Go.Proofs.YtdhckbjebccdbaaDoor
open Go.RowKit

/-- a string, of a list of bytes -/
def str (l : List UInt8) : Value := .string ⟨l.toArray⟩
theorem app_mk (a b : List UInt8) : (⟨a.toArray⟩ : ByteArray) ++ ⟨b.toArray⟩ = ⟨(a ++ b).toArray⟩ := by
  apply ByteArray.ext; simp [ByteArray.data_append]
theorem str_size (l : List UInt8) : (⟨l.toArray⟩ : ByteArray).size = l.length := by show l.toArray.size = _; simp
theorem ret_string {a b : ByteArray} (h : a = b) : Ending.returned (.string a) = .returned (.string b) := by rw [h]
theorem ext_list (s : ByteArray) (a b : Nat) : (s.extract a b).data.toList = (s.data.toList.drop a).take (b - a) := by
  rw [ByteArray.data_extract, Array.toList_extract, List.extract_eq_take_drop]

/-- the decimal places of a rest -/
def frac (f r : Int) : List UInt8 := if r = 0 then [] else 46 :: Lib.trimRightB ((Lib.itoa (f + r)).drop 1) 48
/-- an amount, divided by a factor, as a decimal number -/
def dec (a f : Int) : List UInt8 := if a < 0 then 45 :: (Lib.itoa (-a / f) ++ frac f (-a % f)) else Lib.itoa (a / f) ++ frac f (a % f)

theorem dec_len (u : Nat) (k : Nat) (h : u < 10 ^ (k + 1)) : 1 ≤ (Lib.decDigits u).length ∧ (Lib.decDigits u).length ≤ k + 1 := by
  rw [Lib.decDigits_length]
  refine ⟨Lib.nDigits_pos u, ?_⟩
  induction k generalizing u with
  | zero => rw [Lib.nDigits_small (by simpa using h)]; omega
  | succ k ih =>
    by_cases h10 : u < 10
    · rw [Lib.nDigits_small h10]; omega
    · rw [Lib.nDigits_big h10]
      have := ih (u / 10) (by rw [Nat.pow_succ] at h; omega)
      omega
theorem itoa_len (n : Int) (h0 : 0 ≤ n) (h1 : n ≤ 9999999999999999) : 1 ≤ (Lib.itoa n).length ∧ (Lib.itoa n).length ≤ 16 := by
  unfold Lib.itoa
  rw [if_neg (by omega)]
  exact dec_len n.toNat 15 (by omega)
theorem trim_len (c : UInt8) (l : List UInt8) : (Lib.trimRightB l c).length ≤ l.length := by
  unfold Lib.trimRightB
  rw [List.length_reverse]
  have := (List.dropWhile_sublist (l := l.reverse) (fun x => x == c)).length_le
  rw [List.length_reverse] at this
  exact this

set_option maxHeartbeats 1000000 in
theorem quotient_core (a f n : Int) (neg : Bool) (S1 S2 S3 X : ByteArray) (w : World) (hn : (neg = true ∧ 0 < n ∧ a = -n) ∨ (neg = false ∧ 0 ≤ a ∧ a = n)) (n0 : 0 ≤ n) (n1 : n ≤ 1125899906842624) (f0 : 1 ≤ f) (f1 : f ≤ 100000000)
    (H1 : Hid (∀ W, Below w.heap.size w W → Calls Tryd.prog 43 #[.int .i64 (n / f)] W fun e w' => e = .returned (.string S1) ∧ Below W.heap.size W w'))
    (H2 : Hid (∀ W, Below w.heap.size w W → Calls Tryd.prog 43 #[.int .i64 (f + n % f)] W fun e w' => e = .returned (.string S2) ∧ Below W.heap.size W w'))
    (H3 : Hid (∀ W, Calls Tryd.prog 44 #[.string (S2.extract 1 S2.size), .string ⟨#[48]⟩] W fun e w' => e = .returned (.string S3) ∧ w' = W))
    (z1 : S1.size ≤ 20) (z2 : 1 ≤ S2.size) (z3 : S2.size ≤ 20) (z4 : S3.size ≤ 20)
    (hX : (n % f = 0 ∧ X = (if neg then ⟨#[45]⟩ else ⟨#[]⟩) ++ S1) ∨ (((n % f == 0) = false) ∧ X = (if neg then ⟨#[45]⟩ else ⟨#[]⟩) ++ S1 ++ ⟨#[46]⟩ ++ S3)) :
    Calls Tryd.prog 33 #[.int .i64 a, .int .i64 f] w fun e w' => e = .returned (.string X) ∧ Below w.heap.size w w' := by
  have r0 : 0 ≤ n % f := Int.emod_nonneg _ (by omega)
  have r1 : n % f < f := Int.emod_lt_of_pos _ (by omega)
  have q0 : 0 ≤ n / f := Int.ediv_nonneg (by omega) (by omega)
  have HX := Lib.hid hX; clear hX
  have X0 := Lib.hid (Below.refl w.heap.size w)
  rcases hn with ⟨rfl, hn, rfl⟩ | ⟨rfl, hn, rfl⟩
  · go_enter Tryd.func33, Tryd.ntmps33
    go_wp2_with fail
    refine (H1.out _ X0.out).mono ?_
    rintro e w1 ⟨rfl, h1⟩
    replace X0 := Lib.hid (bel_trans X0.out h1); clear h1
    rcases HX.out with ⟨h, rfl⟩ | ⟨h, rfl⟩
    · clear HX
      go_wp2
      go_returns
      exact ⟨rfl, X0.out⟩
    · clear HX
      go_wp2_with fail
      refine (H2.out _ X0.out).mono ?_
      rintro e w2 ⟨rfl, h1⟩
      replace X0 := Lib.hid (bel_trans X0.out h1); clear h1
      go_wp2_with fail
      refine (H3.out _).mono ?_
      rintro e w3 ⟨rfl, hw⟩
      subst hw
      go_wp2
      go_returns
      exact ⟨rfl, X0.out⟩
  · have hn' : ¬ a < 0 := by omega
    go_enter Tryd.func33, Tryd.ntmps33
    go_wp2_with fail
    refine (H1.out _ X0.out).mono ?_
    rintro e w1 ⟨rfl, h1⟩
    replace X0 := Lib.hid (bel_trans X0.out h1); clear h1
    rcases HX.out with ⟨h, rfl⟩ | ⟨h, rfl⟩
    · clear HX
      go_wp2
      go_returns
      exact ⟨rfl, X0.out⟩
    · clear HX
      go_wp2_with fail
      refine (H2.out _ X0.out).mono ?_
      rintro e w2 ⟨rfl, h1⟩
      replace X0 := Lib.hid (bel_trans X0.out h1); clear h1
      go_wp2_with fail
      refine (H3.out _).mono ?_
      rintro e w3 ⟨rfl, hw⟩
      subst hw
      go_wp2
      go_returns
      exact ⟨rfl, X0.out⟩

theorem itoa_calls (n : Int) (W : World) (hW : LaidU W) (h0 : 0 ≤ n) (h1 : n ≤ 9999999999999999) :
    Calls Tryd.prog 43 #[.int .i64 n] W fun e w' => e = .returned (.string ⟨(Lib.itoa n).toArray⟩) ∧ Below W.heap.size W w' :=
  (Tryd.strconv_Itoa n (by omega) (by omega) W hW.1).mono fun _ _ ⟨h, k, os, hw⟩ => ⟨h, by rw [hw]; exact Lib.below_grow _ _ (Nat.le_refl _) _ _⟩

theorem quotient_any (a f : Int) (w : World) (hw : LaidU w) (a0 : -1125899906842624 ≤ a) (a1 : a ≤ 1125899906842624) (f0 : 1 ≤ f) (f1 : f ≤ 100000000) :
    Calls Tryd.prog 33 #[.int .i64 a, .int .i64 f] w fun e w' => e = .returned (str (dec a f)) ∧ Below w.heap.size w w' := by
  have key : ∀ (n : Int) (neg : Bool), ((neg = true ∧ 0 < n ∧ a = -n) ∨ (neg = false ∧ 0 ≤ a ∧ a = n)) → 0 ≤ n → n ≤ 1125899906842624 →
      dec a f = (if neg then [45] else []) ++ Lib.itoa (n / f) ++ frac f (n % f) →
      Calls Tryd.prog 33 #[.int .i64 a, .int .i64 f] w fun e w' => e = .returned (str (dec a f)) ∧ Below w.heap.size w w' := by
    intro n neg hn n0 n1 hd
    have r0 : 0 ≤ n % f := Int.emod_nonneg _ (by omega)
    have r1 : n % f < f := Int.emod_lt_of_pos _ (by omega)
    have q0 : 0 ≤ n / f := Int.ediv_nonneg (by omega) (by omega)
    have q1 : n / f ≤ n := Int.ediv_le_self _ n0
    have l1 := itoa_len (n / f) q0 (by omega)
    have l2 := itoa_len (f + n % f) (by omega) (by omega)
    have e2 : ((⟨(Lib.itoa (f + n % f)).toArray⟩ : ByteArray).extract 1 (⟨(Lib.itoa (f + n % f)).toArray⟩ : ByteArray).size).data.toList = (Lib.itoa (f + n % f)).drop 1 := by
      rw [ext_list, str_size]
      exact List.take_of_length_le (by simp)
    have l3 := trim_len 48 ((Lib.itoa (f + n % f)).drop 1)
    refine (quotient_core a f n neg _ _ ⟨(Lib.trimRightB ((Lib.itoa (f + n % f)).drop 1) 48).toArray⟩ ⟨(dec a f).toArray⟩ w hn n0 n1 f0 f1 (fun W h => itoa_calls _ W (hw.below h) q0 (by omega)) (fun W h => itoa_calls _ W (hw.below h) (by omega) (by omega)) (fun W => ?_) ?_ ?_ ?_ ?_ ?_)
    · have := Tryd.strings_TrimRight_one ((⟨(Lib.itoa (f + n % f)).toArray⟩ : ByteArray).extract 1 (⟨(Lib.itoa (f + n % f)).toArray⟩ : ByteArray).size) 48 (by decide) W (by rw [ByteArray.size_extract, str_size]; omega)
      rw [e2] at this
      exact this
    · rw [str_size]; omega
    · rw [str_size]; omega
    · rw [str_size]; omega
    · rw [str_size]; rw [List.length_drop] at l3; omega
    · rw [hd]
      by_cases hr : n % f = 0
      · left
        refine ⟨hr, ?_⟩
        unfold frac
        rw [if_pos hr, List.append_nil]
        cases neg
        · rw [show (if false = true then (⟨#[45]⟩ : ByteArray) else ⟨#[]⟩) = ⟨[].toArray⟩ from rfl, app_mk]; rfl
        · rw [show (if true = true then (⟨#[45]⟩ : ByteArray) else ⟨#[]⟩) = ⟨[45].toArray⟩ from rfl, app_mk]; rfl
      · right
        refine ⟨by simpa using hr, ?_⟩
        unfold frac
        rw [if_neg hr]
        cases neg
        · rw [show (if false = true then (⟨#[45]⟩ : ByteArray) else ⟨#[]⟩) = ⟨[].toArray⟩ from rfl, show (⟨#[46]⟩ : ByteArray) = ⟨[46].toArray⟩ from rfl, app_mk, app_mk, app_mk]; simp
        · rw [show (if true = true then (⟨#[45]⟩ : ByteArray) else ⟨#[]⟩) = ⟨[45].toArray⟩ from rfl, show (⟨#[46]⟩ : ByteArray) = ⟨[46].toArray⟩ from rfl, app_mk, app_mk, app_mk]; simp
  by_cases h : a < 0
  · exact key (-a) true (.inl ⟨rfl, by omega, by omega⟩) (by omega) (by omega) (by unfold dec; rw [if_pos h]; rfl)
  · exact key a false (.inr ⟨rfl, by omega, rfl⟩) (by omega) (by omega) (by unfold dec; rw [if_neg h]; rfl)

/-- what Print returns -/
def prE (k a : Int) (l : List UInt8) : Int := if qE k a = 0 then (if isU l = true then (if uK l = k then 0 else 10) else 4) else 1
def prL (k a : Int) (l : List UInt8) : List UInt8 := if prE k a l = 0 then dec a (uF l) ++ [32] ++ l else []

theorem unit_len (l : List UInt8) (h : isU l = true) : l.length ≤ 5 :=
  tab_all (P := fun x => x.1.length ≤ 5) (by decide) _ (unit_mem l h)
theorem dec_bd (a f : Int) (a0 : -1125899906842624 ≤ a) (a1 : a ≤ 1125899906842624) (f0 : 1 ≤ f) (f1 : f ≤ 100000000) : (dec a f).length ≤ 40 := by
  have key : ∀ n : Int, 0 ≤ n → n ≤ 1125899906842624 → (Lib.itoa (n / f) ++ frac f (n % f)).length ≤ 39 := by
    intro n n0 n1
    have r0 : 0 ≤ n % f := Int.emod_nonneg _ (by omega)
    have r1 : n % f < f := Int.emod_lt_of_pos _ (by omega)
    have q0 : 0 ≤ n / f := Int.ediv_nonneg (by omega) (by omega)
    have q1 : n / f ≤ n := Int.ediv_le_self _ n0
    have l1 := itoa_len (n / f) q0 (by omega)
    have l2 := itoa_len (f + n % f) (by omega) (by omega)
    have l3 := trim_len 48 ((Lib.itoa (f + n % f)).drop 1)
    rw [List.length_drop] at l3
    unfold frac
    rw [List.length_append]
    split
    · simp; omega
    · rw [List.length_cons]; omega
  unfold dec
  split
  · have := key (-a) (by omega) (by omega)
    rw [List.length_cons]; omega
  · have := key a (by omega) (by omega); omega

set_option maxHeartbeats 1000000 in
theorem print_core (k a Q K F U E : Int) (s D X : ByteArray) (w : World)
    (H1 : Hid (∀ W, Below w.heap.size w W → Calls Tryd.prog 15 #[.agg #[.int .i64 k, .int .i64 a]] W fun e w' => e = .returned (.int .i64 Q) ∧ Below W.heap.size W w'))
    (H2 : Hid (∀ W, Below w.heap.size w W → Calls Tryd.prog 11 #[.string s] W fun e w' => e = .returned (.tuple #[.int .i64 K, .int .i64 F, .int .i64 U]) ∧ Below W.heap.size W w'))
    (H3 : Hid (∀ W, Below w.heap.size w W → Q = 0 → U = 0 → Calls Tryd.prog 33 #[.int .i64 a, .int .i64 F] W fun e w' => e = .returned (.string D) ∧ Below W.heap.size W w'))
    (h : (((Q == 0) = false ∧ (Q != 0) = true) ∧ E = 1 ∧ X = ⟨#[]⟩) ∨ (Q = 0 ∧ ((U == 0) = false ∧ (U != 0) = true) ∧ E = U ∧ X = ⟨#[]⟩) ∨ (Q = 0 ∧ U = 0 ∧ ((K == k) = false ∧ (K != k) = true) ∧ E = 10 ∧ X = ⟨#[]⟩) ∨ (Q = 0 ∧ U = 0 ∧ K = k ∧ E = 0 ∧ D.size ≤ 40 ∧ s.size ≤ 5 ∧ X = D ++ ⟨#[32]⟩ ++ s)) :
    Calls Tryd.prog 17 #[.agg #[.int .i64 k, .int .i64 a], .string s] w fun e w' => e = .returned (.tuple #[.string X, .int .i64 E]) ∧ Below w.heap.size w w' := by
  have HH := Lib.hid h; clear h
  have X0 : Hid (Below w.heap.size w (w.alloc (.cells #[.int .i64 k, .int .i64 a] 23))) := bel_alloc (Below.refl _ _)
  go_enter Tryd.func17, Tryd.ntmps17
  go_wp2_with fail
  refine (H1.out _ X0.out).mono ?_
  rintro e w1 ⟨rfl, h1⟩
  have c0 := (bcell h1).1 w.heap.size 0 (by simp)
  have c1 := (bcell h1).1 w.heap.size 1 (by simp)
  simp [go_sem] at c0 c1
  replace X0 := Lib.hid (bel_trans X0.out h1)
  have hz : w.heap.size < w1.heap.size := by have := h1.size; simp at this; omega
  clear h1
  rcases HH.out with ⟨⟨q1, q2⟩, rfl, rfl⟩ | ⟨rfl, ⟨q1, q2⟩, rfl, rfl⟩ | ⟨rfl, rfl, ⟨q1, q2⟩, rfl, rfl⟩ | ⟨rfl, rfl, rfl, rfl, z1, z2, rfl⟩
  · clear HH
    go_wp2
    go_returns
    exact ⟨rfl, X0.out⟩
  all_goals
    clear HH
    go_wp2_with fail
    refine (H2.out _ X0.out).mono ?_
    rintro e w2 ⟨rfl, h1⟩
    have d0 := ((bcell h1).1 w.heap.size 0 hz).trans c0
    have d1 := ((bcell h1).1 w.heap.size 1 hz).trans c1
    replace X0 := Lib.hid (bel_trans X0.out h1)
    clear h1
  · go_wp2
    go_returns
    exact ⟨rfl, X0.out⟩
  · go_wp2
    go_returns
    exact ⟨rfl, X0.out⟩
  · go_wp2_with fail
    refine (H3.out _ X0.out trivial trivial).mono ?_
    rintro e w3 ⟨rfl, h1⟩
    replace X0 := Lib.hid (bel_trans X0.out h1)
    clear h1
    go_wp2
    go_returns
    exact ⟨rfl, X0.out⟩

theorem print_any (k a : Int) (s : ByteArray) (w : World) (hw : LaidU w) :
    Calls Tryd.prog 17 #[.agg #[.int .i64 k, .int .i64 a], .string s] w fun e w' => e = .returned (.tuple #[str (prL k a s.data.toList), .int .i64 (prE k a s.data.toList)]) ∧ Below w.heap.size w w' := by
  have hs : s.size = s.data.toList.length := by simp
  have hd := fun (h0 : qE k a = 0) (h1 : uE s.data.toList = 0) => (show isU s.data.toList = true by unfold uE at h1; split at h1; assumption; omega)
  refine print_core k a (qE k a) (uK s.data.toList) (uF s.data.toList) (uE s.data.toList) _ s ⟨(dec a (uF s.data.toList)).toArray⟩ _ w (fun W h => check_any k a W (hw.below h)) (fun W h => unit_any s W) (fun W h h0 h1 => ?_) ?_
  · have b := unit_bd _ (hd h0 h1)
    have q := qE_bd k a h0
    exact quotient_any a _ W (hw.below h) (by omega) (by omega) b.2.2.1 b.2.2.2
  · unfold prL prE uE
    by_cases hq : qE k a = 0
    · right
      rw [if_pos hq]
      cases hu : isU s.data.toList with
      | false => left; exact ⟨hq, by decide, rfl, rfl⟩
      | true =>
        right
        have b := unit_bd _ hu
        have q := qE_bd k a hq
        have l := unit_len _ hu
        by_cases hk : uK s.data.toList = k
        · right
          simp only [hk, if_true]
          refine ⟨hq, trivial, trivial, trivial, ?_, by omega, ?_⟩
          · rw [str_size]; exact dec_bd a _ (by omega) (by omega) b.2.2.1 b.2.2.2
          · rw [show (⟨#[32]⟩ : ByteArray) = ⟨[32].toArray⟩ from rfl, app_mk]
            conv => rhs; rw [show s = ⟨s.data.toList.toArray⟩ by simp]
            rw [app_mk]
        · left
          simp only [hk, if_true, if_false]
          exact ⟨hq, trivial, ⟨by simpa using hk, by simpa using hk⟩, trivial, by rw [if_neg (by omega)]⟩
    · left
      rw [if_neg hq]
      exact ⟨⟨by simpa using hq, by simpa using hq⟩, rfl, by rw [if_neg (by omega)]⟩
end Go.Proofs.YtdhckbjebccdbaaDoor
