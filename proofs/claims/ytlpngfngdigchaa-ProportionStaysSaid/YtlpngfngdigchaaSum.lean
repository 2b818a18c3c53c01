/- Package proportion: slices that are read, and what total returns. -/
import Derived.Test.YtlpngfngdigchaaUp
import Derived.Test.YtlpngfngdigchaaRef1
import Derived.Deep.DeepCutAuto
import Derived.Deep.CutBlock
import Derived.OneCell
namespace Go.Proofs.Ytlpngfngdigchaa
open Go.RowKit

/-! ### slices of integers, as they are read -/

/-- a value is a slice that reads as a list of integers -/
def Ins (w : World) (v : Value) (zs : List Int) : Prop :=
  ∃ a cap, v = .slice a zs.length cap ∧ zs.length ≤ 9223372036854775807 ∧
    (zs.length = 0 ∨ ∃ b off, a = some ⟨b, off, none⟩ ∧ b < w.heap.size ∧ ∀ j, j < zs.length → w.cell? ⟨b, off + j, none⟩ = some (.int .i64 (zs.getD j 0)))

theorem Ins.below {w w' : World} {v : Value} {zs : List Int} (h : Ins w v zs) (hb : Below w.heap.size w w') : Ins w' v zs := by
  obtain ⟨a, cap, rfl, hl, h | ⟨b, off, rfl, hlt, hc⟩⟩ := h
  · exact ⟨a, cap, rfl, hl, .inl h⟩
  · exact ⟨_, cap, rfl, hl, .inr ⟨b, off, rfl, Nat.lt_of_lt_of_le hlt hb.size, fun j hj => by rw [(bcell hb).1 _ _ hlt]; exact hc j hj⟩⟩

theorem Ins.alloc {w : World} {v : Value} {zs : List Int} (h : Ins w v zs) (o : Obj) : Ins (w.alloc o) v zs := h.below (bel_alloc (Below.refl _ _))

/-- a row that the call itself made -/
abbrev Own (w : World) (B g n cap : Nat) (zs : List Int) : Prop := w.ownsRow B 3 1 (.slice (some ⟨g, 0, none⟩) n cap) n (zs.map (Value.int .i64))

theorem Own.len {w : World} {B g n cap : Nat} {zs : List Int} (h : Own w B g n cap zs) : zs.length = n := by
  have := h.1; simpa using this
theorem Own.cell {w : World} {B g n cap : Nat} {zs : List Int} (h : Own w B g n cap zs) (j : Nat) (hj : j < n) : w.cell? ⟨g, j, none⟩ = some (.int .i64 (zs.getD j 0)) := by
  have hl := h.len
  rw [World.ownsRow.cellAt h j (by omega)]
  simp [List.getD, List.getElem?_eq_getElem (show j < zs.length by omega)]
theorem Own.set {w : World} {B g n cap : Nat} {zs : List Int} (h : Own w B g n cap zs) (j : Nat) (x : Int) : Own (w.setCell ⟨g, j, none⟩ (.int .i64 x)) B g n cap (zs.set j x) := by
  have := (World.ownsRow.stored h j (.int .i64 x)).1
  rw [← List.map_set] at this
  exact this
theorem Own.other {w : World} {B g n cap : Nat} {zs : List Int} (h : Own w B g n cap zs) (p : Addr) (hp : p.block ≠ g) (u : Value) : Own (w.setCell p u) B g n cap zs :=
  ownsRow_setCell_other h (by simp [Value.ownBlock]; omega) u
theorem Own.lt {w : World} {B g n cap : Nat} {zs : List Int} (h : Own w B g n cap zs) : B ≤ g ∧ g < w.heap.size := World.ownsRow.lt h g rfl
theorem Own.below {w w' : World} {B g n cap : Nat} {zs : List Int} (h : Own w B g n cap zs) (hb : Below w.heap.size w w') : Own w' B g n cap zs := by
  obtain ⟨h1, h2⟩ := h
  refine ⟨h1, ?_⟩
  rcases h2 with ⟨h2, _⟩ | ⟨g', c', cur, hv, hg, hh, r⟩
  · cases h2
  · refine .inr ⟨g', c', cur, hv, hg, ?_, r⟩
    have hlt : g' < w.heap.size := by
      rcases Nat.lt_or_ge g' w.heap.size with h | h
      · exact h
      · rw [Array.getElem?_eq_none h] at hh; cases hh
    rw [hb.block _ hlt]; exact hh
theorem Own.base {w : World} {B B' g n cap : Nat} {zs : List Int} (h : Own w B g n cap zs) (hb : B' ≤ B) : Own w B' g n cap zs := by
  obtain ⟨h1, h2⟩ := h
  refine ⟨h1, ?_⟩
  rcases h2 with ⟨h2, _⟩ | ⟨g', c', cur, hv, hg, r⟩
  · cases h2
  · exact .inr ⟨g', c', cur, hv, Nat.le_trans hb hg, r⟩
theorem Own.ins {w : World} {B g n cap : Nat} {zs : List Int} (h : Own w B g n cap zs) (hn : n ≤ 9223372036854775807) : Ins w (.slice (some ⟨g, 0, none⟩) n cap) zs := by
  have hl := h.len
  refine ⟨some ⟨g, 0, none⟩, cap, by rw [hl], by omega, .inr ⟨g, 0, rfl, h.lt.2, fun j hj => ?_⟩⟩
  rw [Nat.zero_add]; exact h.cell j (by omega)

/-- a row that is written out -/
theorem ins_lit (w : World) (zs : List Int) (vs : List Value) (hv : vs = zs.map (Value.int .i64)) (hl : zs.length ≤ 1000) :
    Ins (w.alloc (.cells vs.toArray 3)) (.slice (some ⟨w.heap.size, 0, none⟩) zs.length zs.length) zs := by
  refine ⟨_, _, rfl, by omega, .inr ⟨w.heap.size, 0, rfl, by simp, fun j hj => ?_⟩⟩
  subst hv
  rw [World.cell?_alloc_new]
  simp [List.getD, List.getElem?_eq_getElem hj]

/-! ### total -/

/-- what total returns: the error, the sum -/
def totE (zs : List Int) : Int :=
  if zs.length = 0 then 9 else if 64 < zs.length then 8 else if zs.all isAm then (if isAm zs.sum then (if zs.sum = 0 then 16 else 0) else 2) else 2
def totS (zs : List Int) : Int := if totE zs = 0 then zs.sum else 0

theorem sum_take_succ (zs : List Int) (k : Nat) (hk : k < zs.length) : (zs.take (k + 1)).sum = (zs.take k).sum + zs.getD k 0 := by
  rw [List.take_add_one, List.sum_append]
  simp [List.getD, List.getElem?_eq_getElem hk]
theorem sum_bd (zs : List Int) (h : zs.all isAm = true) : 0 ≤ zs.sum ∧ zs.sum ≤ 128849018880000 * zs.length := by
  induction zs with
  | nil => simp
  | cons z zs ih =>
    simp only [List.all_cons, Bool.and_eq_true, isAm_iff] at h
    have := ih h.2
    simp only [List.sum_cons, List.length_cons]
    omega
theorem all_take (zs : List Int) (h : zs.all isAm = true) (k : Nat) : (zs.take k).all isAm = true := by
  rw [List.all_eq_true] at *; intro x hx; exact h x (List.mem_of_mem_take hx)
theorem all_get (zs : List Int) (h : zs.all isAm = true) (k : Nat) (hk : k < zs.length) : isAm (zs.getD k 0) = true := by
  rw [List.all_eq_true] at h; apply h; simp [List.getD, List.getElem?_eq_getElem hk]

theorem total_none (a : Option Addr) (cap : Nat) (w : World) :
    Calls Try.prog 34 #[.slice a 0 cap] w fun e w' => e = .returned (.tuple #[.int .i64 0, .int .i64 9]) ∧ Below w.heap.size w w' := by
  go_enter Try.func34, Try.ntmps34
  go_wp2
  go_returns
  exact ⟨rfl, Below.refl _ _⟩
theorem total_many (a : Option Addr) (n cap : Nat) (w : World) (h : 64 < n) (h2 : n ≤ 9223372036854775807) :
    Calls Try.prog 34 #[.slice a n cap] w fun e w' => e = .returned (.tuple #[.int .i64 0, .int .i64 8]) ∧ Below w.heap.size w w' := by
  have h1 : ((n : Int) == 0) = false := by rw [beq_eq_false_iff_ne]; omega
  go_enter Try.func34, Try.ntmps34
  go_wp2
  go_returns
  exact ⟨rfl, Below.refl _ _⟩

theorem total_bad (b off n cap : Nat) (zs : List Int) (w : World) (hz : n = zs.length) (h0 : 0 < n) (h1 : n ≤ 64) (hc : ∀ j, j < zs.length → w.cell? ⟨b, off + j, none⟩ = some (.int .i64 (zs.getD j 0))) (ha : zs.all isAm = false) :
    Calls Try.prog 34 #[.slice (some ⟨b, off, none⟩) n cap] w fun e w' => e = .returned (.tuple #[.int .i64 0, .int .i64 2]) ∧ Below w.heap.size w w' := by
  have HA := Lib.hid (amounts_any b off n cap zs w hz (by omega) hc); clear hc
  have HF := Lib.hid ha; clear ha hz
  have h2 : ((n : Int) == 0) = false := by rw [beq_eq_false_iff_ne]; omega
  go_enter Try.func34, Try.ntmps34
  go_wp2_with fail
  refine HA.out.mono ?_
  rw [HF.out]
  rintro e w' ⟨rfl, rfl⟩
  go_wp2
  go_returns
  exact ⟨rfl, Below.refl _ _⟩

theorem total_good (b off n cap : Nat) (zs : List Int) (X E : Int) (w : World) (q1 : Hid (isAm zs.sum = false → 0 = X ∧ 2 = E)) (q2 : Hid (isAm zs.sum = true → zs.sum = 0 → 0 = X ∧ 16 = E)) (q3 : Hid (isAm zs.sum = true → zs.sum ≠ 0 → zs.sum = X ∧ 0 = E)) (hz : n = zs.length) (h0 : 0 < n) (h1 : n ≤ 64) (hc : ∀ j, j < zs.length → w.cell? ⟨b, off + j, none⟩ = some (.int .i64 (zs.getD j 0))) (ha : zs.all isAm = true) :
    Calls Try.prog 34 #[.slice (some ⟨b, off, none⟩) n cap] w fun e w' => e = .returned (.tuple #[.int .i64 X, .int .i64 E]) ∧ Below w.heap.size w w' := by
  have HA := Lib.hid (amounts_any b off n cap zs w hz (by omega) hc)
  have HC := Lib.hid hc; clear hc
  have HT := Lib.hid ha; clear ha
  have HZ := Lib.hid hz; clear hz
  have h2 : ((n : Int) == 0) = false := by rw [beq_eq_false_iff_ne]; omega
  have hsb := sum_bd zs HT.out
  have hsl : zs.sum ≤ 8246337208320000 := by have := HZ.out; omega
  generalize hS : zs.sum = S at *
  have HS := Lib.hid hS; clear hS
  replace hsb := hsb.1
  go_enter Try.func34, Try.ntmps34
  go_wp2_with fail
  refine HA.out.mono ?_
  rw [HT.out]
  rintro e w' ⟨rfl, hw⟩
  subst hw
  go_upto_block 0 with fail
  go_cut [4] (fun s4 wx => s4 = .int .i64 S ∧ w' = wx)
  case first =>
    go_wp2_with fail
    go_loop [4, 18] (fun s i => ∃ k : Nat, k ≤ n ∧ i = .int .i64 k ∧ s = .int .i64 (zs.take k).sum) (fun _ i => n - (intOf i).toNat)
    case atStart => exact ⟨0, Nat.zero_le _, rfl, rfl⟩
    case round =>
      obtain ⟨k, hk, rfl, rfl⟩ := hrel
      have hb := sum_bd _ (all_take zs HT.out k)
      have hl : (zs.take k).length ≤ 64 := by have := List.length_take_le k zs; omega
      have hb2 : (zs.take k).sum ≤ 8246337208320000 := by omega
      replace hb := hb.1
      clear hl
      by_cases hlt : k < n
      · have hkz : k < zs.length := by rw [← HZ.out]; exact hlt
        have hcell := HC.out k hkz
        have HS := Lib.hid (sum_take_succ zs k hkz)
        obtain ⟨z0, z1⟩ := (isAm_iff _).1 (all_get zs HT.out k hkz)
        clear hkz
        generalize zs.getD k 0 = z at *
        generalize (zs.take k).sum = t at *
        go_wp2
        go_round
        case rel => exact ⟨k + 1, by omega, by go_num, by rw [HS.out]⟩
        case measure => simp [intOf]; omega
      · have HE : Hid (zs.take k = zs) := by
          show zs.take k = zs
          exact List.take_of_length_le (by have := HZ.out; omega)
        have HE2 : Hid ((zs.take k).sum = S) := by show _ = _; rw [HE.out, HS.out]
        generalize (zs.take k).sum = t at *
        go_wp2
        go_meet
        case rel => exact ⟨by rw [HE2.out], rfl⟩
  case rest =>
  obtain ⟨rfl, rfl⟩ := hcut
  cases hs : isAm S with
  | false =>
    have H := Lib.hid hs; clear hs
    have Q := Lib.hid (q1.out H.out)
    go_wp2_with (go_at_call 25; refine (amounts1 _ _ _ H.out).mono ?_; rintro e w2 ⟨rfl, rfl⟩)
    go_returns
    exact ⟨ret_two Q.out.1 Q.out.2, by go_grown⟩
  | true =>
    have H := Lib.hid hs; clear hs
    by_cases hS0 : S = 0
    · subst hS0
      have Q := Lib.hid (q2.out H.out rfl)
      go_wp2_with (go_at_call 25; refine (amounts1 _ _ _ H.out).mono ?_; rintro e w2 ⟨rfl, rfl⟩)
      go_returns
      exact ⟨ret_two Q.out.1 Q.out.2, by go_grown⟩
    · have hSb : (S == 0) = false := by rw [beq_eq_false_iff_ne]; exact hS0
      have Q := Lib.hid (q3.out H.out hS0)
      clear hS0
      go_wp2_with (go_at_call 25; refine (amounts1 _ _ _ H.out).mono ?_; rintro e w2 ⟨rfl, rfl⟩)
      go_returns
      exact ⟨ret_two Q.out.1 Q.out.2, by go_grown⟩

theorem total_any (v : Value) (zs : List Int) (w : World) (h : Ins w v zs) :
    Calls Try.prog 34 #[v] w fun e w' => e = .returned (.tuple #[.int .i64 (totS zs), .int .i64 (totE zs)]) ∧ Below w.heap.size w w' := by
  obtain ⟨a, cap, rfl, hl, h⟩ := h
  by_cases h0 : zs.length = 0
  · have e : totE zs = 9 := by unfold totE; rw [if_pos h0]
    unfold totS; rw [e, h0]; exact total_none a cap w
  · by_cases h64 : 64 < zs.length
    · have e : totE zs = 8 := by unfold totE; rw [if_neg h0, if_pos h64]
      unfold totS; rw [e]; exact total_many a _ cap w h64 hl
    · rcases h with h | ⟨b, off, rfl, hlt, hc⟩
      · omega
      cases ha : zs.all isAm with
      | false =>
        have e : totE zs = 2 := by unfold totE; rw [if_neg h0, if_neg h64, ha]; rfl
        unfold totS; rw [e]; exact total_bad b off _ cap zs w rfl (by omega) (by omega) hc ha
      | true =>
        have e : totE zs = (if isAm zs.sum then (if zs.sum = 0 then 16 else 0) else 2) := by unfold totE; rw [if_neg h0, if_neg h64, ha]; rfl
        refine total_good b off _ cap zs _ _ w ?_ ?_ ?_ rfl (by omega) (by omega) hc ha
        · intro hs; unfold totS; rw [e, hs]; exact ⟨rfl, rfl⟩
        · intro hs hz; unfold totS; rw [e, hs, hz]; exact ⟨rfl, rfl⟩
        · intro hs hz; unfold totS; rw [e, hs, if_pos rfl, if_neg hz]; exact ⟨rfl, rfl⟩

end Go.Proofs.Ytlpngfngdigchaa
