/- Package unit: appendDigit, readDigits. -/
import Derived.Test.YtdhckbjebccdbaaDoorUPrint
import Derived.Test.YtdhckbjebccdbaaDoorTxt
import Derived.Laws.RangeString
import Derived.Laws.RangeAny
import Derived.Laws.Runes
namespace Go.Proofs.YtdhckbjebccdbaaDoor
open Go.RowKit

theorem bel_iter (w : World) (s : ByteArray) (k : Nat) : Below w.heap.size w (w.iter s k) := bel_alloc (Below.refl _ _)

/-- a digit more, up to a bound -/
def ap (n d : Int) : Int := min (10 * n + d) 1125899906842625
def sval (n : Int) (l : List UInt8) : Int := l.foldl (fun a c => ap a ((c.toNat : Int) - 48)) n
theorem ap_bd (n d : Int) (h0 : 0 ≤ n) (d0 : 0 ≤ d) : 0 ≤ ap n d ∧ ap n d ≤ 1125899906842625 := by unfold ap; omega
theorem sval_snoc (n : Int) (l : List UInt8) (c : UInt8) : sval n (l ++ [c]) = ap (sval n l) ((c.toNat : Int) - 48) := by simp [sval]
theorem sval_bd (n : Int) (l : List UInt8) (h0 : 0 ≤ n) (h1 : n ≤ 1125899906842625) (h : dgs l = true) : 0 ≤ sval n l ∧ sval n l ≤ 1125899906842625 := by
  induction l generalizing n with
  | nil => exact ⟨h0, h1⟩
  | cons c l ih =>
    simp only [dgs, List.all_cons, Bool.and_eq_true] at h
    have hc := (isDg_iff c).1 h.1
    have := ap_bd n ((c.toNat : Int) - 48) h0 (by omega)
    show 0 ≤ sval (ap n _) l ∧ sval (ap n _) l ≤ _
    exact ih _ this.1 this.2 h.2

theorem append_any (n d : Int) (w : World) (h0 : 0 ≤ n) (h1 : n ≤ 1125899906842625) (d0 : 0 ≤ d) (d1 : d ≤ 9) :
    Calls Tryd.prog 47 #[.int .i64 n, .int .i64 d] w fun e w' => e = .returned (.int .i64 (ap n d)) ∧ w = w' := by
  go_enter Tryd.func47, Tryd.ntmps47
  go_wp2
  go_ret
  exact ⟨rfl, rfl⟩

theorem digits_yes (n V : Int) (b : Bool) (s : ByteArray) (w : World) (h0 : 0 ≤ n) (h1 : n ≤ 1125899906842625) (hs : s.size ≤ 100) (hd : dgs s.data.toList = true) (hV : sval n s.data.toList = V) (hb : (s.toList == []) = !b) :
    Calls Tryd.prog 46 #[.int .i64 n, .string s] w fun e w' => e = .returned (.tuple #[.int .i64 V, .bool b]) ∧ Below w.heap.size w w' := by
  have HD := Lib.hid hd
  have HV := Lib.hid hV
  have HE := Lib.hid hb
  clear hd hV hb
  go_enter Tryd.func46, Tryd.ntmps46
  go_wp2
  go_loopw [0] (fun m wr => ∃ k : Nat, k ≤ s.size ∧ wr = w.iter s k ∧ m = .int .i64 (sval n (s.data.toList.take k)) ∧ Hid (dgs (s.data.toList.take k) = true)) (fun _ wr => s.size - wr.iterPos w.heap.size)
  case atStart => exact ⟨0, by omega, rfl, rfl, rfl⟩
  case round =>
    obtain ⟨k, hk, rfl, rfl, ha⟩ := hrel
    by_cases hlt : k < s.size
    · have hc : isDg s[k] = true := by
        cases hq : isDg s[k] with
        | true => rfl
        | false => have := dgs_take s k hlt hq; rw [HD.out] at this; cases this
      have hts := take_snoc s k hlt
      have HS : Hid (sval n (s.data.toList.take (k + 1)) = ap (sval n (s.data.toList.take k)) ((s[k].toNat : Int) - 48)) := by show _ = _; rw [hts, sval_snoc]
      have HA : Hid (dgs (s.data.toList.take (k + 1)) = true) := by show _ = _; rw [hts, dgs_snoc, ha.out, hc]; rfl
      obtain ⟨v0, v1⟩ := sval_bd n _ h0 h1 ha.out
      obtain ⟨c0, c1⟩ := (isDg_iff _).1 hc
      have hnx : ∀ ty, (Instr.next (.pointer (some ⟨w.heap.size, 0, none⟩)) true ty).run Tryd.prog (w.iter s k) = _ := fun ty => run_next_ascii w s k ty hlt (by omega)
      clear hts hc
      generalize sval n (s.data.toList.take k) = v at *
      generalize s[k].toNat = c at *
      go_wp2_with (go_at_call 47; refine (append_any v ((c : Int) - 48) _ v0 v1 (by omega) (by omega)).mono ?_; rintro e w' ⟨rfl, hw⟩; subst hw)
      go_roundw
      case rel => exact ⟨k + 1, by omega, rfl, by rw [HS.out], HA⟩
      case measure => simp; omega
    · obtain rfl : k = s.size := by omega
      have hnx : ∀ ty, (Instr.next (.pointer (some ⟨w.heap.size, 0, none⟩)) true ty).run Tryd.prog (w.iter s s.size) = _ := fun ty => run_next_end w s s.size ty hlt
      rw [take_all s s.size (Nat.le_refl _), HV.out]
      have he := HE.out
      cases b with
      | true =>
        have he2 : (s.toList != []) = true := by simp only [bne, he]; rfl
        go_wp2
        go_returns
        exact ⟨rfl, bel_iter _ _ _⟩
      | false =>
        have he2 : (s.toList != []) = false := by simp only [bne, he]; rfl
        go_wp2
        go_returns
        exact ⟨rfl, bel_iter _ _ _⟩

theorem digits_no (n : Int) (s : ByteArray) (w : World) (h0 : 0 ≤ n) (h1 : n ≤ 1125899906842625) (hs : s.size ≤ 100) (hd : dgs s.data.toList = false) :
    Calls Tryd.prog 46 #[.int .i64 n, .string s] w fun e w' => e = .returned (.tuple #[.int .i64 0, .bool false]) ∧ Below w.heap.size w w' := by
  have HD := Lib.hid hd
  clear hd
  go_enter Tryd.func46, Tryd.ntmps46
  go_wp2
  go_loopw [0] (fun m wr => ∃ k : Nat, k ≤ s.size ∧ wr = w.iter s k ∧ m = .int .i64 (sval n (s.data.toList.take k)) ∧ Hid (dgs (s.data.toList.take k) = true)) (fun _ wr => s.size - wr.iterPos w.heap.size)
  case atStart => exact ⟨0, by omega, rfl, rfl, rfl⟩
  case round =>
    obtain ⟨k, hk, rfl, rfl, ha⟩ := hrel
    by_cases hlt : k < s.size
    · cases hc : isDg s[k] with
      | true =>
        have hts := take_snoc s k hlt
        have HS : Hid (sval n (s.data.toList.take (k + 1)) = ap (sval n (s.data.toList.take k)) ((s[k].toNat : Int) - 48)) := by show _ = _; rw [hts, sval_snoc]
        have HA : Hid (dgs (s.data.toList.take (k + 1)) = true) := by show _ = _; rw [hts, dgs_snoc, ha.out, hc]; rfl
        obtain ⟨v0, v1⟩ := sval_bd n _ h0 h1 ha.out
        obtain ⟨c0, c1⟩ := (isDg_iff _).1 hc
        have hnx : ∀ ty, (Instr.next (.pointer (some ⟨w.heap.size, 0, none⟩)) true ty).run Tryd.prog (w.iter s k) = _ := fun ty => run_next_ascii w s k ty hlt (by omega)
        clear hts hc
        generalize sval n (s.data.toList.take k) = v at *
        generalize s[k].toNat = c at *
        go_wp2_with (go_at_call 47; refine (append_any v ((c : Int) - 48) _ v0 v1 (by omega) (by omega)).mono ?_; rintro e w' ⟨rfl, hw⟩; subst hw)
        go_roundw
        case rel => exact ⟨k + 1, by omega, rfl, by rw [HS.out], HA⟩
        case measure => simp; omega
      | false =>
        have hq := (isDg_not _).1 hc
        by_cases h128 : s[k].toNat < 128
        · have hnx : ∀ ty, (Instr.next (.pointer (some ⟨w.heap.size, 0, none⟩)) true ty).run Tryd.prog (w.iter s k) = _ := fun ty => run_next_ascii w s k ty hlt h128
          clear hc
          generalize s[k].toNat = c at *
          by_cases h48 : c < 48
          · clear hq
            go_wp2
            go_returns
            exact ⟨rfl, bel_iter _ _ _⟩
          · have h57 : 57 < c := by omega
            clear hq
            go_wp2
            go_returns
            exact ⟨rfl, bel_iter _ _ _⟩
        · have hr := (decode_high s k hlt (by omega)).1
          have hnx : ∀ ty, (Instr.next (.pointer (some ⟨w.heap.size, 0, none⟩)) true ty).run Tryd.prog (w.iter s k) = _ := fun ty => run_next_any w s k ty hlt
          clear hc hq h128
          generalize (Utf8.decode s k).1 = r at *
          generalize (Utf8.decode s k).2 = r2 at *
          go_wp2
          go_returns
          exact ⟨rfl, bel_iter _ _ _⟩
    · exfalso
      have := ha.out
      rw [take_all s k (by omega), HD.out] at this
      cases this

/-- what readDigits returns -/
def rdV (n : Int) (l : List UInt8) : Int := if dgs l = true then sval n l else 0
def rdB (l : List UInt8) : Bool := dgs l && !(l == [])
theorem digits_any (n : Int) (s : ByteArray) (w : World) (h0 : 0 ≤ n) (h1 : n ≤ 1125899906842625) (hs : s.size ≤ 100) :
    Calls Tryd.prog 46 #[.int .i64 n, .string s] w fun e w' => e = .returned (.tuple #[.int .i64 (rdV n s.data.toList), .bool (rdB s.data.toList)]) ∧ Below w.heap.size w w' := by
  unfold rdV rdB
  cases h : dgs s.data.toList with
  | true => rw [if_pos rfl]; exact digits_yes n _ _ s w h0 h1 hs h rfl (by rw [ByteArray.toList_eq]; simp)
  | false => simp only [Bool.false_eq_true, if_false, Bool.false_and]; exact digits_no n s w h0 h1 hs h
theorem rdV_bd (n : Int) (l : List UInt8) (h0 : 0 ≤ n) (h1 : n ≤ 1125899906842625) : 0 ≤ rdV n l ∧ rdV n l ≤ 1125899906842625 := by
  unfold rdV
  split
  · exact sval_bd n l h0 h1 ‹_›
  · omega
end Go.Proofs.YtdhckbjebccdbaaDoor
