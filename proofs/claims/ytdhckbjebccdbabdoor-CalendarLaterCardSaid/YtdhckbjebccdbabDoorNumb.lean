/- Package calendar and its reference: number, value, padded, digits. -/
import Derived.Test.YtdhckbjebccdbabDoorTxt
import Derived.Test.YtdhckbjebccdbabDoorYears
import Derived.Laws.RangeString
import Derived.Laws.RangeAny
import Derived.Laws.Runes
namespace Go.Proofs.YtdhckbjebccdbabDoor
open Go.RowKit

theorem bel_iter (w : World) (s : ByteArray) (k : Nat) : Below w.heap.size w (w.iter s k) := bel_alloc (Below.refl _ _)

theorem number_yes (s : ByteArray) (w : World) (hs : s.size ≤ 15) (V : Int) (hd : dgs s.data.toList = true) (hV : val s.data.toList = V) :
    Calls Tryd.prog 37 #[.string s] w fun e w' => e = .returned (.tuple #[.int .i64 V, .bool true]) ∧ Below w.heap.size w w' := by
  have HD := Lib.hid hd
  have HV := Lib.hid hV
  clear hd hV
  go_enter Tryd.func37, Tryd.ntmps37
  go_wp2
  go_loopw [4] (fun n wr => ∃ k : Nat, k ≤ s.size ∧ wr = w.iter s k ∧ n = .int .i64 (val (s.data.toList.take k)) ∧ Hid (dgs (s.data.toList.take k) = true)) (fun _ wr => s.size - wr.iterPos w.heap.size)
  case atStart => exact ⟨0, by omega, rfl, rfl, rfl⟩
  case round =>
    obtain ⟨k, hk, rfl, rfl, ha⟩ := hrel
    by_cases hlt : k < s.size
    · have hc : isDg s[k] = true := by
        cases hq : isDg s[k] with
        | true => rfl
        | false => have := dgs_take s k hlt hq; rw [HD.out] at this; cases this
      have hts := take_snoc s k hlt
      have HS : Hid (val (s.data.toList.take (k + 1)) = 10 * val (s.data.toList.take k) + ((s[k].toNat : Int) - 48)) := by show _ = _; rw [hts, val_snoc]
      have HA : Hid (dgs (s.data.toList.take (k + 1)) = true) := by show _ = _; rw [hts, dgs_snoc, ha.out, hc]; rfl
      obtain ⟨v0, v1⟩ := val_small _ ha.out (by rw [List.length_take]; omega)
      obtain ⟨c0, c1⟩ := (isDg_iff _).1 hc
      have hnx : ∀ ty, (Instr.next (.pointer (some ⟨w.heap.size, 0, none⟩)) true ty).run Tryd.prog (w.iter s k) = _ := fun ty => run_next_ascii w s k ty hlt (by omega)
      clear hts hc
      generalize val (s.data.toList.take k) = v at *
      generalize s[k].toNat = c at *
      go_wp2
      go_roundw
      case rel => exact ⟨k + 1, by omega, rfl, by rw [HS.out], HA⟩
      case measure => simp; omega
    · obtain rfl : k = s.size := by omega
      have hnx : ∀ ty, (Instr.next (.pointer (some ⟨w.heap.size, 0, none⟩)) true ty).run Tryd.prog (w.iter s s.size) = _ := fun ty => run_next_end w s s.size ty hlt
      rw [take_all s s.size (Nat.le_refl _), HV.out]
      go_wp2
      go_returns
      exact ⟨rfl, bel_iter _ _ _⟩

theorem number_no (s : ByteArray) (w : World) (hs : s.size ≤ 15) (hd : dgs s.data.toList = false) :
    Calls Tryd.prog 37 #[.string s] w fun e w' => e = .returned (.tuple #[.int .i64 0, .bool false]) ∧ Below w.heap.size w w' := by
  have HD := Lib.hid hd
  clear hd
  go_enter Tryd.func37, Tryd.ntmps37
  go_wp2
  go_loopw [4] (fun n wr => ∃ k : Nat, k ≤ s.size ∧ wr = w.iter s k ∧ n = .int .i64 (val (s.data.toList.take k)) ∧ Hid (dgs (s.data.toList.take k) = true)) (fun _ wr => s.size - wr.iterPos w.heap.size)
  case atStart => exact ⟨0, by omega, rfl, rfl, rfl⟩
  case round =>
    obtain ⟨k, hk, rfl, rfl, ha⟩ := hrel
    by_cases hlt : k < s.size
    · cases hc : isDg s[k] with
      | true =>
        have hts := take_snoc s k hlt
        have HS : Hid (val (s.data.toList.take (k + 1)) = 10 * val (s.data.toList.take k) + ((s[k].toNat : Int) - 48)) := by show _ = _; rw [hts, val_snoc]
        have HA : Hid (dgs (s.data.toList.take (k + 1)) = true) := by show _ = _; rw [hts, dgs_snoc, ha.out, hc]; rfl
        obtain ⟨v0, v1⟩ := val_small _ ha.out (by rw [List.length_take]; omega)
        obtain ⟨c0, c1⟩ := (isDg_iff _).1 hc
        have hnx : ∀ ty, (Instr.next (.pointer (some ⟨w.heap.size, 0, none⟩)) true ty).run Tryd.prog (w.iter s k) = _ := fun ty => run_next_ascii w s k ty hlt (by omega)
        clear hts hc
        generalize val (s.data.toList.take k) = v at *
        generalize s[k].toNat = c at *
        go_wp2
        go_roundw
        case rel => exact ⟨k + 1, by omega, rfl, by rw [HS.out], HA⟩
        case measure => simp; omega
      | false =>
        have hq := (isDg_not _).1 hc
        by_cases h128 : s[k].toNat < 128
        · have hnx : ∀ ty, (Instr.next (.pointer (some ⟨w.heap.size, 0, none⟩)) true ty).run Tryd.prog (w.iter s k) = _ := fun ty => run_next_ascii w s k ty hlt h128
          clear hc
          generalize s[k].toNat = c at *
          by_cases h48 : c < 48
          · clear hq
            go_wp2
            go_returns
            exact ⟨rfl, bel_iter _ _ _⟩
          · have h57 : 57 < c := by omega
            clear hq
            go_wp2
            go_returns
            exact ⟨rfl, bel_iter _ _ _⟩
        · have hr := (decode_high s k hlt (by omega)).1
          have hnx : ∀ ty, (Instr.next (.pointer (some ⟨w.heap.size, 0, none⟩)) true ty).run Tryd.prog (w.iter s k) = _ := fun ty => run_next_any w s k ty hlt
          clear hc hq h128
          generalize (Utf8.decode s k).1 = r at *
          generalize (Utf8.decode s k).2 = r2 at *
          go_wp2
          go_returns
          exact ⟨rfl, bel_iter _ _ _⟩
    · exfalso
      have := ha.out
      rw [take_all s k (by omega), HD.out] at this
      cases this

/-- what number returns -/
def nuV (l : List UInt8) : Int := if dgs l = true then val l else 0
theorem number_any (s : ByteArray) (w : World) (hs : s.size ≤ 15) :
    Calls Tryd.prog 37 #[.string s] w fun e w' => e = .returned (.tuple #[.int .i64 (nuV s.data.toList), .bool (dgs s.data.toList)]) ∧ Below w.heap.size w w' := by
  unfold nuV
  cases h : dgs s.data.toList with
  | true => rw [if_pos rfl]; exact number_yes s w hs _ h rfl
  | false => simp only [Bool.false_eq_true, if_false]; exact number_no s w hs h

theorem refValue_any (s : ByteArray) (w : World) (hs : s.size ≤ 15) (b : Bool) (V : Int) (hd : dgs s.data.toList = b) (hV : V = if b = true then val s.data.toList else 0) :
    Calls Tryd.prog 38 #[.string s] w fun e w' => e = .returned (.tuple #[.int .i64 V, .bool b]) ∧ Below w.heap.size w w' := by
  have HD := Lib.hid hd
  have HV := Lib.hid hV
  clear hd hV
  go_enter Tryd.func38, Tryd.ntmps38
  go_wp2
  go_loop [4, 5] (fun n i => ∃ k : Nat, k ≤ s.size ∧ i = .int .i64 k ∧ n = .int .i64 (val (s.data.toList.take k)) ∧ Hid (dgs (s.data.toList.take k) = true)) (fun _ i => s.size - (intOf i).toNat)
  case atStart => exact ⟨0, by omega, rfl, rfl, rfl⟩
  case round =>
    obtain ⟨k, hk, rfl, rfl, ha⟩ := hrel
    by_cases hlt : k < s.size
    · cases hc : isDg s[k] with
      | true =>
        have hts := take_snoc s k hlt
        have HS : Hid (val (s.data.toList.take (k + 1)) = 10 * val (s.data.toList.take k) + ((s[k].toNat : Int) - 48)) := by show _ = _; rw [hts, val_snoc]
        have HA : Hid (dgs (s.data.toList.take (k + 1)) = true) := by show _ = _; rw [hts, dgs_snoc, ha.out, hc]; rfl
        obtain ⟨v0, v1⟩ := val_small _ ha.out (by rw [List.length_take]; omega)
        obtain ⟨c0, c1⟩ := (isDg_iff _).1 hc
        have HC : Hid (s[k].toNat = s[k].toNat) := rfl
        clear hts hc
        generalize val (s.data.toList.take k) = v at *
        go_wp2
        go_round
        case rel => exact ⟨k + 1, by omega, by go_num, by rw [HS.out], HA⟩
        case measure => simp [intOf]; omega
      | false =>
        have hq := (isDg_not _).1 hc
        have hf := dgs_take s k hlt hc
        rw [HD.out] at hf
        subst hf
        obtain rfl : V = 0 := by simpa using HV.out
        clear hc HV HD ha
        by_cases h48 : s[k].toNat < 48
        · clear hq
          go_wp2
          go_returns
          exact ⟨rfl, Below.refl _ _⟩
        · have h57 : 57 < s[k].toNat := by omega
          clear hq
          go_wp2
          go_returns
          exact ⟨rfl, Below.refl _ _⟩
    · obtain rfl : k = s.size := by omega
      have hx := ha.out
      rw [take_all s s.size (Nat.le_refl _)] at hx
      rw [hx] at HD
      have hb := HD.out
      subst hb
      have HV2 : Hid (V = val s.data.toList) := by have := HV.out; rw [if_pos rfl] at this; exact this
      clear HV HD ha hx
      rw [take_all s s.size (Nat.le_refl _), ← HV2.out]
      go_wp2
      go_returns
      exact ⟨rfl, Below.refl _ _⟩
end Go.Proofs.YtdhckbjebccdbabDoor
