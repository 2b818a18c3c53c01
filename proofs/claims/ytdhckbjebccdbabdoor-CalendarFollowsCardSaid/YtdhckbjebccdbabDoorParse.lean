/- Package calendar and its reference: Parse. -/
import Derived.Test.YtdhckbjebccdbabDoorPrint
namespace Go.Proofs.YtdhckbjebccdbabDoor
open Go.RowKit

theorem ext_list (s : ByteArray) (a b : Nat) : (s.extract a b).data.toList = (s.data.toList.drop a).take (b - a) := by
  rw [ByteArray.data_extract, Array.toList_extract, List.extract_eq_take_drop]
theorem ext_size (s : ByteArray) (a b : Nat) (h : b ≤ s.size) : (s.extract a b).size = b - a := by
  rw [ByteArray.size_extract]; omega

/-- a text of the form of a date -/
def formB (l : List UInt8) : Bool := decide (l.length = 10) && (l.getD 4 0).toNat == 45 && (l.getD 7 0).toNat == 45 && (dgs (l.take 4) && dgs ((l.drop 5).take 2) && dgs ((l.drop 8).take 2))
def paN (l : List UInt8) : Int := if formB l = true then dayN (val (l.take 4)) (val ((l.drop 5).take 2)) (val ((l.drop 8).take 2)) else 0
def paE (l : List UInt8) : Int := if formB l = true then dayEr (val (l.take 4)) (val ((l.drop 5).take 2)) (val ((l.drop 8).take 2)) else 3

theorem parse_size (s : ByteArray) (w : World) (hs : s.size ≤ 1000) (h : ((s.size : Int) == 10) = false) :
    Calls Tryd.prog 25 #[.string s] w fun e w' => e = .returned (.tuple #[.int .i64 0, .int .i64 3]) ∧ Below w.heap.size w w' := by
  have h2 : ((s.size : Int) != 10) = true := by simp [bne, h]
  go_enter Tryd.func25, Tryd.ntmps25
  go_wp2
  go_returns
  exact ⟨rfl, Below.refl _ _⟩
theorem parse_hyph (s : ByteArray) (a b : Nat) (w : World) (hs : s.size = 10) (h4 : s[4].toNat = a) (h7 : s[7].toNat = b) (h : ¬ (a = 45 ∧ b = 45)) :
    Calls Tryd.prog 25 #[.string s] w fun e w' => e = .returned (.tuple #[.int .i64 0, .int .i64 3]) ∧ Below w.heap.size w w' := by
  have hz : s.size ≤ 1000 := by omega
  by_cases e : a = 45
  · subst e
    have q : ((b : Int) != 45) = true := by simp; omega
    go_enter Tryd.func25, Tryd.ntmps25
    go_wp2
    go_returns
    exact ⟨rfl, Below.refl _ _⟩
  · have q : ((a : Int) != 45) = true := by simp; omega
    go_enter Tryd.func25, Tryd.ntmps25
    go_wp2
    go_returns
    exact ⟨rfl, Below.refl _ _⟩
set_option maxHeartbeats 1000000 in
theorem parse_core (s : ByteArray) (A B C N E : Int) (f g k : Bool) (w : World) (hs : s.size = 10) (h4 : s[4].toNat = 45) (h7 : s[7].toNat = 45)
    (H1 : Hid (∀ W, Calls Tryd.prog 37 #[.string (s.extract 0 4)] W fun e w' => e = .returned (.tuple #[.int .i64 A, .bool f]) ∧ Below W.heap.size W w'))
    (H2 : Hid (∀ W, Calls Tryd.prog 37 #[.string (s.extract 5 7)] W fun e w' => e = .returned (.tuple #[.int .i64 B, .bool g]) ∧ Below W.heap.size W w'))
    (H3 : Hid (∀ W, Calls Tryd.prog 37 #[.string (s.extract 8 10)] W fun e w' => e = .returned (.tuple #[.int .i64 C, .bool k]) ∧ Below W.heap.size W w'))
    (HD : Hid (∀ W, Below w.heap.size w W → Calls Tryd.prog 13 #[.agg #[.int .i64 A, .int .i64 B, .int .i64 C]] W fun e w' => e = .returned (.tuple #[.int .i64 N, .int .i64 E]) ∧ Below W.heap.size W w')) :
    Calls Tryd.prog 25 #[.string s] w fun e w' => e = .returned (.tuple #[.int .i64 (if (f && g && k) = true then N else 0), .int .i64 (if (f && g && k) = true then E else 3)]) ∧ Below w.heap.size w w' := by
  go_enter Tryd.func25, Tryd.ntmps25
  go_wp2_with fail
  refine (H1.out _).mono ?_
  rintro e w1 ⟨rfl, h1⟩
  have HB := Lib.hid h1; clear h1
  go_wp2_with fail
  refine (H2.out _).mono ?_
  rintro e w2 ⟨rfl, h1⟩
  replace HB := Lib.hid (bel_trans HB.out h1); clear h1
  go_wp2_with fail
  refine (H3.out _).mono ?_
  rintro e w3 ⟨rfl, h1⟩
  replace HB := Lib.hid (bel_trans HB.out h1); clear h1
  cases f with
  | false =>
    go_wp2
    go_returns
    exact ⟨rfl, HB.out⟩
  | true =>
    cases g with
    | false =>
      go_wp2
      go_returns
      exact ⟨rfl, HB.out⟩
    | true =>
      cases k with
      | false =>
        go_wp2
        go_returns
        exact ⟨rfl, HB.out⟩
      | true =>
        go_wp2_with fail
        refine (HD.out _ HB.out).mono ?_
        rintro e w4 ⟨rfl, h1⟩
        replace HB := Lib.hid (bel_trans HB.out h1); clear h1
        go_wp2
        go_returns
        exact ⟨rfl, HB.out⟩

theorem refparse_size (s : ByteArray) (w : World) (hs : s.size ≤ 1000) (h : ((s.size : Int) == 10) = false) :
    Calls Tryd.prog 26 #[.string s] w fun e w' => e = .returned (.tuple #[.int .i64 0, .int .i64 3]) ∧ Below w.heap.size w w' := by
  have h2 : ((s.size : Int) != 10) = true := by simp [bne, h]
  go_enter Tryd.func26, Tryd.ntmps26
  go_wp2
  go_returns
  exact ⟨rfl, Below.refl _ _⟩
theorem refparse_hyph (s : ByteArray) (a b : Nat) (w : World) (hs : s.size = 10) (h4 : s[4].toNat = a) (h7 : s[7].toNat = b) (h : ¬ (a = 45 ∧ b = 45)) :
    Calls Tryd.prog 26 #[.string s] w fun e w' => e = .returned (.tuple #[.int .i64 0, .int .i64 3]) ∧ Below w.heap.size w w' := by
  have hz : s.size ≤ 1000 := by omega
  by_cases e : a = 45
  · subst e
    have q : ((b : Int) != 45) = true := by simp; omega
    go_enter Tryd.func26, Tryd.ntmps26
    go_wp2
    go_returns
    exact ⟨rfl, Below.refl _ _⟩
  · have q : ((a : Int) != 45) = true := by simp; omega
    go_enter Tryd.func26, Tryd.ntmps26
    go_wp2
    go_returns
    exact ⟨rfl, Below.refl _ _⟩
set_option maxHeartbeats 1000000 in
theorem refparse_core (s : ByteArray) (A B C N E : Int) (f g k : Bool) (w : World) (hs : s.size = 10) (h4 : s[4].toNat = 45) (h7 : s[7].toNat = 45)
    (H1 : Hid (∀ W, Calls Tryd.prog 38 #[.string (s.extract 0 4)] W fun e w' => e = .returned (.tuple #[.int .i64 A, .bool f]) ∧ Below W.heap.size W w'))
    (H2 : Hid (∀ W, Calls Tryd.prog 38 #[.string (s.extract 5 7)] W fun e w' => e = .returned (.tuple #[.int .i64 B, .bool g]) ∧ Below W.heap.size W w'))
    (H3 : Hid (∀ W, Calls Tryd.prog 38 #[.string (s.extract 8 10)] W fun e w' => e = .returned (.tuple #[.int .i64 C, .bool k]) ∧ Below W.heap.size W w'))
    (HD : Hid (∀ W, Below w.heap.size w W → Calls Tryd.prog 14 #[.agg #[.int .i64 A, .int .i64 B, .int .i64 C]] W fun e w' => e = .returned (.tuple #[.int .i64 N, .int .i64 E]) ∧ Below W.heap.size W w')) :
    Calls Tryd.prog 26 #[.string s] w fun e w' => e = .returned (.tuple #[.int .i64 (if (f && g && k) = true then N else 0), .int .i64 (if (f && g && k) = true then E else 3)]) ∧ Below w.heap.size w w' := by
  go_enter Tryd.func26, Tryd.ntmps26
  go_wp2_with fail
  refine (H1.out _).mono ?_
  rintro e w1 ⟨rfl, h1⟩
  have HB := Lib.hid h1; clear h1
  go_wp2_with fail
  refine (H2.out _).mono ?_
  rintro e w2 ⟨rfl, h1⟩
  replace HB := Lib.hid (bel_trans HB.out h1); clear h1
  go_wp2_with fail
  refine (H3.out _).mono ?_
  rintro e w3 ⟨rfl, h1⟩
  replace HB := Lib.hid (bel_trans HB.out h1); clear h1
  cases f with
  | false =>
    go_wp2
    go_returns
    exact ⟨rfl, HB.out⟩
  | true =>
    cases g with
    | false =>
      go_wp2
      go_returns
      exact ⟨rfl, HB.out⟩
    | true =>
      cases k with
      | false =>
        go_wp2
        go_returns
        exact ⟨rfl, HB.out⟩
      | true =>
        go_wp2_with fail
        refine (HD.out _ HB.out).mono ?_
        rintro e w4 ⟨rfl, h1⟩
        replace HB := Lib.hid (bel_trans HB.out h1); clear h1
        go_wp2
        go_returns
        exact ⟨rfl, HB.out⟩

theorem getD_at (s : ByteArray) (i : Nat) (h : i < s.size) : (s.data.toList.getD i 0).toNat = s[i].toNat := by
  have e : s.data.toList.getD i 0 = s[i] := by
    rw [List.getD_eq_getElem?_getD, List.getElem?_eq_getElem (by simpa using h)]; rfl
  rw [e]
theorem nuV_if (l : List UInt8) : nuV l = if dgs l = true then val l else 0 := rfl

theorem parse_all {f : FuncId} (s : ByteArray) (w : World) (hs : s.size ≤ 1000)
    (c1 : ((s.size : Int) == 10) = false → Calls Tryd.prog f #[.string s] w fun e w' => e = .returned (.tuple #[.int .i64 0, .int .i64 3]) ∧ Below w.heap.size w w')
    (c2 : ∀ (h : s.size = 10), ¬ (s[4].toNat = 45 ∧ s[7].toNat = 45) → Calls Tryd.prog f #[.string s] w fun e w' => e = .returned (.tuple #[.int .i64 0, .int .i64 3]) ∧ Below w.heap.size w w')
    (c3 : ∀ (h : s.size = 10), s[4].toNat = 45 → s[7].toNat = 45 → Calls Tryd.prog f #[.string s] w fun e w' => e = .returned (.tuple #[.int .i64 (if (dgs (s.extract 0 4).data.toList && dgs (s.extract 5 7).data.toList && dgs (s.extract 8 10).data.toList) = true then dayN (nuV (s.extract 0 4).data.toList) (nuV (s.extract 5 7).data.toList) (nuV (s.extract 8 10).data.toList) else 0),
      .int .i64 (if (dgs (s.extract 0 4).data.toList && dgs (s.extract 5 7).data.toList && dgs (s.extract 8 10).data.toList) = true then dayEr (nuV (s.extract 0 4).data.toList) (nuV (s.extract 5 7).data.toList) (nuV (s.extract 8 10).data.toList) else 3)]) ∧ Below w.heap.size w w') :
    Calls Tryd.prog f #[.string s] w fun e w' => e = .returned (.tuple #[.int .i64 (paN s.data.toList), .int .i64 (paE s.data.toList)]) ∧ Below w.heap.size w w' := by
  have hl : s.data.toList.length = s.size := by simp
  by_cases h : s.size = 10
  · by_cases h2 : s[4].toNat = 45 ∧ s[7].toNat = 45
    · have e4 := getD_at s 4 (by omega)
      have e7 := getD_at s 7 (by omega)
      have hf : formB s.data.toList = (dgs (s.extract 0 4).data.toList && dgs (s.extract 5 7).data.toList && dgs (s.extract 8 10).data.toList) := by
        unfold formB
        rw [e4, e7, h2.1, h2.2, hl, h, ext_list, ext_list, ext_list]
        simp
      have := c3 h h2.1 h2.2
      unfold paN paE
      rw [hf]
      cases hb : (dgs (s.extract 0 4).data.toList && dgs (s.extract 5 7).data.toList && dgs (s.extract 8 10).data.toList) with
      | false => rw [hb] at this; simpa using this
      | true =>
        rw [hb] at this
        simp only [Bool.and_eq_true] at hb
        obtain ⟨⟨b1, b2⟩, b3⟩ := hb
        simp only [nuV, b1, b2, b3, if_true] at this
        rw [ext_list, ext_list, ext_list] at this
        simpa using this
    · have e4 := getD_at s 4 (by omega)
      have e7 := getD_at s 7 (by omega)
      have hf : formB s.data.toList = false := by
        unfold formB
        rw [e4, e7]
        rw [Bool.eq_false_iff]; intro hc
        simp only [Bool.and_eq_true, beq_iff_eq] at hc
        exact h2 ⟨hc.1.1.2, hc.1.2⟩
      unfold paN paE
      rw [hf]
      exact c2 h h2
  · have hf : formB s.data.toList = false := by
      unfold formB
      rw [hl, decide_eq_false h]; rfl
    unfold paN paE
    rw [hf]
    exact c1 (by simp; omega)

theorem nu_bd (l : List UInt8) (h : l.length ≤ 15) : 0 ≤ nuV l ∧ nuV l ≤ 999999999999999 := by
  unfold nuV
  split
  · exact val_small l ‹_› h
  · omega

theorem parse_any (s : ByteArray) (w : World) (hw : LaidC w) (hs : s.size ≤ 1000) :
    Calls Tryd.prog 25 #[.string s] w fun e w' => e = .returned (.tuple #[.int .i64 (paN s.data.toList), .int .i64 (paE s.data.toList)]) ∧ Below w.heap.size w w' := by
  refine parse_all s w hs (fun h => parse_size s w hs h) (fun h hn => parse_hyph s _ _ w h rfl rfl hn) (fun h h4 h7 => ?_)
  have b1 := nu_bd (s.extract 0 4).data.toList (by rw [Array.length_toList]; show (s.extract 0 4).size ≤ _; rw [ext_size _ _ _ (by omega)]; omega)
  have b3 := nu_bd (s.extract 8 10).data.toList (by rw [Array.length_toList]; show (s.extract 8 10).size ≤ _; rw [ext_size _ _ _ (by omega)]; omega)
  exact parse_core s _ _ _ _ _ _ _ _ w h h4 h7 (fun W => number_any _ W (by rw [ext_size _ _ _ (by omega)]; omega)) (fun W => number_any _ W (by rw [ext_size _ _ _ (by omega)]; omega)) (fun W => number_any _ W (by rw [ext_size _ _ _ (by omega)]; omega))
    (fun W hb => day_any _ _ _ W (hw.below hb) (by omega) (by omega))
theorem refParse_any (s : ByteArray) (w : World) (hs : s.size ≤ 1000) :
    Calls Tryd.prog 26 #[.string s] w fun e w' => e = .returned (.tuple #[.int .i64 (paN s.data.toList), .int .i64 (paE s.data.toList)]) ∧ Below w.heap.size w w' := by
  refine parse_all s w hs (fun h => refparse_size s w hs h) (fun h hn => refparse_hyph s _ _ w h rfl rfl hn) (fun h h4 h7 => ?_)
  have b3 := nu_bd (s.extract 8 10).data.toList (by rw [Array.length_toList]; show (s.extract 8 10).size ≤ _; rw [ext_size _ _ _ (by omega)]; omega)
  exact refparse_core s _ _ _ _ _ _ _ _ w h h4 h7 (fun W => refValue_any _ W (by rw [ext_size _ _ _ (by omega)]; omega) _ _ rfl rfl) (fun W => refValue_any _ W (by rw [ext_size _ _ _ (by omega)]; omega) _ _ rfl rfl) (fun W => refValue_any _ W (by rw [ext_size _ _ _ (by omega)]; omega) _ _ rfl rfl)
    (fun W _ => refDay_any _ _ _ W (by have := b3.2; unfold nuV at this; omega))
end Go.Proofs.YtdhckbjebccdbabDoor
