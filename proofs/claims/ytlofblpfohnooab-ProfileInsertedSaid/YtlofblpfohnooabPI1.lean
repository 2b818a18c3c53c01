/- slices.ContainsFunc over the closure of ProfileInserted. -/
import Derived.Test.YtlofblpfohnooabPI0
import Derived.FnLit
import Derived.StillTailTactics
import Derived.Deep.DeepCutAuto
namespace Go.Proofs.Ytlofblpfohnooab
open Go.RowKit

set_option maxHeartbeats 4000000 in
theorem hasX_any (v r x : Int) (q : Nat) (w : World) (h : w.cell? ⟨q, 0, none⟩ = some (.int .i64 x)) (hq : q < w.heap.size) :
    Calls Try.prog 24 #[.agg #[.int .i64 v, .int .i64 r], .pointer (some ⟨q, 0, none⟩)] w fun e w' => e = .returned (.bool (v == x)) ∧ Below w.heap.size w w' := by
  have c0 : ∀ o, (w.alloc o).cell? ⟨q, 0, none⟩ = some (.int .i64 x) := fun o => by rw [World.cell?_alloc_lt w o _ hq]; exact h
  go_enter Try.func24, Try.ntmps24
  go_wp2
  go_ret
  exact ⟨rfl, bel_alloc (Below.refl _ _)⟩
set_option maxHeartbeats 8000000 in
theorem index_x (x : Int) (q : Nat) (b off n cap : Nat) (l : List (Int × Int)) (w : World) (n1 : n ≤ 1000) (hb : b < w.heap.size)
    (hq : q < w.heap.size) (hx : Hid (w.cell? ⟨q, 0, none⟩ = some (.int .i64 x)))
    (hc : Hid (∀ j, j < n → w.cell? ⟨b, off + j * 2, none⟩ = some (.int .i64 (gX l j)) ∧ w.cell? ⟨b, off + j * 2 + 1, none⟩ = some (.int .i64 (gR l j))))
    (h1 : Hid (∃ j, j < n ∧ gX l j = x)) :
    Calls Try.prog 39 #[.slice (some ⟨b, off, none⟩) n cap, .func (.func 24) #[] #[.pointer (some ⟨q, 0, none⟩)]] w fun e w' => ∃ k : Int, e = .returned (.int .i64 k) ∧ decide (0 ≤ k) = true ∧ Below w.heap.size w w' := by
  go_enter Try.func39, Try.ntmps39
  go_wp2_with fail
  go_loopw [5, 8] (fun _ i wr => ∃ k : Nat, k ≤ n ∧ i = .int .i64 k ∧ Hid (Below w.heap.size w wr) ∧ Hid (∀ j, j < k → gX l j ≠ x)) (fun _ i _ => n - (intOf i).toNat)
  case atStart => exact ⟨0, Nat.zero_le _, rfl, Below.refl _ _, fun j hj => by omega⟩
  case round =>
    obtain ⟨k, hk, rfl, hB, ha⟩ := hrel
    by_cases hlt : k < n
    · have c0 : wr.cell? ⟨b, off + k * 2, none⟩ = some (.int .i64 (gX l k)) := by rw [(bcell hB.out).1 _ _ hb]; exact (hc.out k hlt).1
      have c1 : wr.cell? ⟨b, off + k * 2 + 1, none⟩ = some (.int .i64 (gR l k)) := by rw [(bcell hB.out).1 _ _ hb]; exact (hc.out k hlt).2
      have HP : Hid (∀ W, Below wr.heap.size wr W → Calls Try.prog 24 #[.agg #[.int .i64 (gX l k), .int .i64 (gR l k)], .pointer (some ⟨q, 0, none⟩)] W fun e w' => e = .returned (.bool (gX l k == x)) ∧ Below W.heap.size W w') := fun W hW => by
        have hW2 := bel_trans hB.out hW
        exact hasX_any _ _ x q W (by rw [(bcell hW2).1 _ _ hq]; exact hx.out) (Nat.lt_of_lt_of_le hq hW2.size)
      by_cases hp : gX l k = x
      · rw [show (gX l k == x) = true by simpa using hp] at HP
        clear hp
        generalize gX l k = y at *
        generalize gR l k = r at *
        go_wp2_with fail
        refine (HP.out _ (by first | exact Below.refl _ _ | exact bel_alloc (Below.refl _ _) | exact bel_drew _ | exact bel_alloc (bel_alloc (Below.refl _ _)))).mono ?_
        rintro e w2 ⟨rfl, gg⟩
        have X := Lib.hid (bel_trans hB.out gg); clear gg
        go_wp2
        go_returns
        exact ⟨k, rfl, by simp, X.out⟩
      · have ha2 : Hid (∀ j, j < k + 1 → gX l j ≠ x) := fun j hj => by
          by_cases e : j = k
          · rw [e]; exact hp
          · exact ha.out j (by omega)
        rw [show (gX l k == x) = false by simpa using hp] at HP
        clear hp ha
        generalize gX l k = y at c0 HP
        generalize gR l k = r at c1 HP
        go_wp2_with fail
        refine (HP.out _ (by first | exact Below.refl _ _ | exact bel_alloc (Below.refl _ _) | exact bel_drew _ | exact bel_alloc (bel_alloc (Below.refl _ _)))).mono ?_
        rintro e w2 ⟨rfl, gg⟩
        have X := Lib.hid (bel_trans hB.out gg); clear gg
        go_wp2
        go_roundw
        case rel => exact ⟨k + 1, by omega, by go_num, X, ha2⟩
        case measure => simp [intOf]; omega
    · obtain rfl : k = n := by omega
      obtain ⟨j, hj, e⟩ := h1.out
      exact absurd e (ha.out j hj)
theorem contains_x (x : Int) (q : Nat) (v : Value) (l : List (Int × Int)) (w : World) (hv : Pts w v l) (n1 : l.length ≤ 1000)
    (hq : q < w.heap.size) (hx : w.cell? ⟨q, 0, none⟩ = some (.int .i64 x)) (h1 : ∃ j, j < l.length ∧ gX l j = x) :
    Calls Try.prog 23 #[v, .func (.func 24) #[] #[.pointer (some ⟨q, 0, none⟩)]] w fun e w' => e = .returned (.bool true) ∧ Below w.heap.size w w' := by
  obtain ⟨a, cap, rfl, hl, h0 | ⟨b, off, rfl, hb, hc⟩⟩ := hv
  · obtain ⟨j, hj, _⟩ := h1; omega
  have HI := Lib.hid (index_x x q b off l.length cap l w n1 hb hq hx hc h1)
  generalize l.length = n at *
  clear hc hx h1
  go_enter Try.func23, Try.ntmps23
  go_wp2_with fail
  refine HI.out.mono ?_
  rintro e w1 ⟨k, rfl, hk, hb⟩
  have HB := Lib.hid hb; clear hb
  go_wp2
  all_goals
    go_ret
    exact ⟨by simp_all, HB.out⟩
/-- a cell of the call's own that holds an int -/
def Bx (b : Nat) (w : World) (x : Int) : Prop := w.cell? ⟨b, 0, none⟩ = some (.int .i64 x) ∧ b < w.heap.size
theorem Bx.below {b : Nat} {w w' : World} {x : Int} (h : Bx b w x) (hb : Below w.heap.size w w') : Bx b w' x :=
  ⟨by rw [(bcell hb).1 _ _ h.2]; exact h.1, Nat.lt_of_lt_of_le h.2 hb.size⟩
theorem Bx.alloc {b : Nat} {w : World} {x : Int} (h : Bx b w x) (o : Obj) : Bx b (w.alloc o) x := h.below (bel_alloc (Below.refl _ _))
/-- a list of points that was made since w, and the cells that were there -/
def Sn (w : World) (v : Value) (l : List (Int × Int)) (W : World) : Prop := Pts W v l ∧ Below w.heap.size w W
theorem Sn.drew {w W : World} {v : Value} {l : List (Int × Int)} (h : Sn w v l W) : Sn w v l W.drew := ⟨h.1.below (bel_drew W), bel_trans h.2 (bel_drew W)⟩
end Go.Proofs.Ytlofblpfohnooab
