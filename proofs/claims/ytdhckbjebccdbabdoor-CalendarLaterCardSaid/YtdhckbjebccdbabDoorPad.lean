/- Package calendar and its reference: padded, digits. -/
import Derived.Test.YtdhckbjebccdbabDoorNumb
import Derived.Laws.Concat
import Derived.Laws.BytesString
import Derived.Laws.IdiomStrings
import Derived.Lib.AppendIntMem
import Derived.LoopN
namespace Go.Proofs.YtdhckbjebccdbabDoor
open Go.RowKit

/-- a string, of a list of bytes -/
def str (l : List UInt8) : Value := .string ⟨l.toArray⟩
theorem app_mk (a b : List UInt8) : (⟨a.toArray⟩ : ByteArray) ++ ⟨b.toArray⟩ = ⟨(a ++ b).toArray⟩ := by
  apply ByteArray.ext; simp [ByteArray.data_append]
theorem str_size (l : List UInt8) : (⟨l.toArray⟩ : ByteArray).size = l.length := by show l.toArray.size = _; simp
theorem ret_string {a b : ByteArray} (h : a = b) : Ending.returned (.string a) = .returned (.string b) := by rw [h]

theorem padded_small (i : Nat) (S : ByteArray) (w : World) (hi : i < 100) (hS : Hid ((⟨(Lib.decDigits i).toArray⟩ : ByteArray) = S)) (hsz : S.size = if i < 10 then 1 else 2) :
    Calls Tryd.prog 35 #[.int .i64 i, .int .i64 2] w fun e w' => e = .returned (.string ((if i < 10 then ⟨#[48]⟩ else ⟨#[]⟩) ++ S)) ∧ w = w' := by
  by_cases h10 : i < 10
  · rw [if_pos h10] at hsz ⊢
    go_enter Tryd.func35, Tryd.ntmps35
    go_wp2_with fail
    refine (Tryd.strconv_Itoa_small i hi _).mono ?_
    rw [hS.out]
    rintro e w' ⟨rfl, rfl⟩
    go_wp2_with fail
    refine (Tryd.strings_Repeat_one _ _).mono ?_
    rintro e w' ⟨rfl, rfl⟩
    go_wp2
    go_ret
    exact ⟨rfl, rfl⟩
  · rw [if_neg h10] at hsz ⊢
    go_enter Tryd.func35, Tryd.ntmps35
    go_wp2_with fail
    refine (Tryd.strconv_Itoa_small i hi _).mono ?_
    rw [hS.out]
    rintro e w' ⟨rfl, rfl⟩
    go_wp2_with fail
    refine (Tryd.strings_Repeat_zero _ _).mono ?_
    rintro e w' ⟨rfl, rfl⟩
    go_wp2
    go_ret
    exact ⟨rfl, rfl⟩

theorem padded_two (n : Int) (w : World) (h0 : 0 ≤ n) (h1 : n ≤ 99) :
    Calls Tryd.prog 35 #[.int .i64 n, .int .i64 2] w fun e w' => e = .returned (str (two n)) ∧ Below w.heap.size w w' := by
  obtain ⟨i, rfl⟩ := Int.eq_ofNat_of_zero_le h0
  refine (padded_small i _ w (by omega) rfl ?_).mono ?_
  · rw [str_size]
    split
    · rw [Lib.decDigits_one ‹_›]; rfl
    · rw [Lib.decDigits_two ‹_› (by omega)]; rfl
  · rintro e w' ⟨rfl, rfl⟩
    refine ⟨ret_string ?_, Below.refl _ _⟩
    have e : i = (i : Int).toNat := by omega
    split
    · rw [e, show (⟨#[48]⟩ : ByteArray) = ⟨[48].toArray⟩ from rfl, app_mk, List.singleton_append, dec_one _ (by omega) (by omega)]; rfl
    · rw [e, show (⟨#[]⟩ : ByteArray) = ⟨[].toArray⟩ from rfl, app_mk, List.nil_append, dec_two _ (by omega) (by omega)]; rfl

theorem padded_year (n : Int) (S : ByteArray) (w : World) (hw : LaidC w) (h0 : 1000 ≤ n) (h1 : n ≤ 9999) (hS : Hid ((⟨(Lib.itoa n).toArray⟩ : ByteArray) = S)) (hsz : S.size = 4) :
    Calls Tryd.prog 35 #[.int .i64 n, .int .i64 4] w fun e w' => e = .returned (.string (⟨#[]⟩ ++ S)) ∧ Below w.heap.size w w' := by
  have HI := Lib.hid (Tryd.strconv_Itoa n (by omega) (by omega) w hw.1)
  rw [hS.out] at HI
  clear hw
  go_enter Tryd.func35, Tryd.ntmps35
  go_wp2_with fail
  refine HI.out.mono ?_
  rintro e w1 ⟨rfl, k, os, hw⟩
  have HB : Hid (Below w.heap.size w w1) := by rw [hw]; exact Lib.below_grow _ _ (Nat.le_refl _) _ _
  clear hw
  go_wp2_with fail
  refine (Tryd.strings_Repeat_zero _ _).mono ?_
  rintro e w' ⟨rfl, hw⟩
  subst hw
  go_wp2
  go_ret
  exact ⟨rfl, HB.out⟩

theorem padded_four (n : Int) (w : World) (hw : LaidC w) (h0 : 1000 ≤ n) (h1 : n ≤ 9999) :
    Calls Tryd.prog 35 #[.int .i64 n, .int .i64 4] w fun e w' => e = .returned (str (four n)) ∧ Below w.heap.size w w' := by
  have e : Lib.itoa n = four n := by unfold Lib.itoa; rw [if_neg (by omega), dec_four n h0 h1]
  refine (padded_year n _ w hw h0 h1 rfl (by rw [str_size, e]; rfl)).mono ?_
  rintro e' w' ⟨rfl, hb⟩
  refine ⟨ret_string ?_, hb⟩
  rw [show (⟨#[]⟩ : ByteArray) = ⟨[].toArray⟩ from rfl, app_mk, List.nil_append, e]

theorem digit_conv (m : Int) (W : World) (g : Nat) (hg : W.heap.size = g) :
    (convert 52 9 (.slice (some ⟨g, 0, none⟩) 1 1)).run Tryd.prog (W.alloc (.cells #[.int .u8 (48 + m % 10)] 5)) = .ok (.string ⟨#[dg m]⟩) (W.alloc (.cells #[.int .u8 (48 + m % 10)] 5)) := by
  subst hg
  refine run_convert_bytes_back (P := Tryd.prog) _ 52 9 5 ⟨W.heap.size, 0, none⟩ 1 [dg m] Tryd.underlying52 Tryd.underlying5 Tryd.underlying9 ?_
  intro j hj
  obtain rfl : j = 0 := by simpa using hj
  rw [show (([dg m][0]'hj).toNat : Int) = 48 + m % 10 by rw [List.getElem_cons_zero]; have := dg_val m; omega]
  show (W.alloc _).cell? ⟨W.heap.size, 0, none⟩ = _
  rw [World.cell?_alloc_new]
  rfl

theorem refDigits_two (n : Int) (w : World) (h0 : 0 ≤ n) (h1 : n ≤ 99) :
    Calls Tryd.prog 36 #[.int .i64 n, .int .i64 2] w fun e w' => e = .returned (str (two n)) ∧ Below w.heap.size w w' := by
  have c1 := digit_conv n
  have c2 := digit_conv (n / 10)
  go_enter Tryd.func36, Tryd.ntmps36
  go_wp2
  refine wp_loop_rounds 3 ?_
  rw [rounds_succ]
  go_wp2
  rw [rounds_succ]
  go_wp2
  rw [rounds_succ]
  go_wp2
  go_returns
  refine ⟨ret_string ?_, bel_alloc (bel_alloc (Below.refl _ _))⟩
  rw [show (⟨#[]⟩ : ByteArray) = ⟨[].toArray⟩ from rfl, show (⟨#[dg n]⟩ : ByteArray) = ⟨[dg n].toArray⟩ from rfl, show (⟨#[dg (n / 10)]⟩ : ByteArray) = ⟨[dg (n / 10)].toArray⟩ from rfl, app_mk, app_mk]
  rfl

set_option maxHeartbeats 1000000 in
theorem refDigits_four (n : Int) (w : World) (h0 : 0 ≤ n) (h1 : n ≤ 9999) :
    Calls Tryd.prog 36 #[.int .i64 n, .int .i64 4] w fun e w' => e = .returned (str (four n)) ∧ Below w.heap.size w w' := by
  have c1 := digit_conv n
  have c2 := digit_conv (n / 10)
  have c3 := digit_conv (n / 10 / 10)
  have c4 := digit_conv (n / 10 / 10 / 10)
  go_enter Tryd.func36, Tryd.ntmps36
  go_wp2
  refine wp_loop_rounds 5 ?_
  rw [rounds_succ]
  go_wp2
  rw [rounds_succ]
  go_wp2
  rw [rounds_succ]
  go_wp2
  rw [rounds_succ]
  go_wp2
  rw [rounds_succ]
  go_wp2
  go_returns
  refine ⟨ret_string ?_, bel_alloc (bel_alloc (bel_alloc (bel_alloc (Below.refl _ _))))⟩
  rw [show (⟨#[]⟩ : ByteArray) = ⟨[].toArray⟩ from rfl, show (⟨#[dg n]⟩ : ByteArray) = ⟨[dg n].toArray⟩ from rfl, show (⟨#[dg (n / 10)]⟩ : ByteArray) = ⟨[dg (n / 10)].toArray⟩ from rfl,
    show (⟨#[dg (n / 10 / 10)]⟩ : ByteArray) = ⟨[dg (n / 10 / 10)].toArray⟩ from rfl, show (⟨#[dg (n / 10 / 10 / 10)]⟩ : ByteArray) = ⟨[dg (n / 10 / 10 / 10)].toArray⟩ from rfl, app_mk, app_mk, app_mk, app_mk]
  rw [show n / 10 / 10 / 10 = n / 1000 by omega, show n / 10 / 10 = n / 100 by omega]
  rfl
end Go.Proofs.YtdhckbjebccdbabDoor
