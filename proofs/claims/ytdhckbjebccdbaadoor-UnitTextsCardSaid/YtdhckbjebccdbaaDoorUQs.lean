/- Package unit: lists of quantities, checkAll. -/
import Derived.Test.YtdhckbjebccdbaaDoorUBest
namespace Go.Proofs.YtdhckbjebccdbaaDoor
open Go.RowKit

/-- a value is a slice that reads as a list of quantities -/
def Qs (w : World) (v : Value) (l : List (Int × Int)) : Prop :=
  ∃ a cap, v = .slice a l.length cap ∧ (l.length ≤ cap ∧ cap ≤ 9223372036854775807) ∧
    (l.length = 0 ∨ ∃ b off, a = some ⟨b, off, none⟩ ∧ b < w.heap.size ∧ ∀ j, j < l.length → w.cell? ⟨b, off + j * 2, none⟩ = some (.int .i64 (l.getD j (0, 0)).1) ∧ w.cell? ⟨b, off + j * 2 + 1, none⟩ = some (.int .i64 (l.getD j (0, 0)).2))
theorem Qs.below {w w' : World} {v : Value} {l : List (Int × Int)} (h : Qs w v l) (hb : Below w.heap.size w w') : Qs w' v l := by
  obtain ⟨a, cap, rfl, hl, h | ⟨b, off, rfl, hlt, hc⟩⟩ := h
  · exact ⟨a, cap, rfl, hl, .inl h⟩
  · exact ⟨_, cap, rfl, hl, .inr ⟨b, off, rfl, Nat.lt_of_lt_of_le hlt hb.size, fun j hj => by rw [(bcell hb).1 _ _ hlt, (bcell hb).1 _ _ hlt]; exact hc j hj⟩⟩

/-- what checkAll returns -/
def caE (l : List (Int × Int)) : Int := if 64 < l.length then 8 else if l.length = 0 then 9 else if l.all (fun q => qE q.1 q.2 == 0) = false then 1 else if l.all (fun q => q.1 == (l.getD 0 (0, 0)).1) = false then 10 else 0

theorem all_no {α : Type} {l : List α} {f : α → Bool} {d : α} {j : Nat} (hj : j < l.length) (h : f (l.getD j d) = false) : l.all f = false := by
  rw [Bool.eq_false_iff]
  intro ha
  rw [List.all_eq_true] at ha
  rw [List.getD_eq_getElem?_getD, List.getElem?_eq_getElem hj, Option.getD_some] at h
  rw [ha _ (List.getElem_mem hj)] at h
  cases h
theorem all_yes {α : Type} {l : List α} {f : α → Bool} {d : α} (h : ∀ j, j < l.length → f (l.getD j d) = true) : l.all f = true := by
  rw [List.all_eq_true]
  intro x hx
  obtain ⟨j, hj, rfl⟩ := List.getElem_of_mem hx
  have := h j hj
  rw [List.getD_eq_getElem?_getD, List.getElem?_eq_getElem hj, Option.getD_some] at this
  exact this

theorem check_long (a : Option Addr) (n cap : Nat) (w : World) (h : 64 < n) (hn : n ≤ 9223372036854775807) :
    Calls Tryd.prog 40 #[.slice a n cap] w fun e w' => e = .returned (.int .i64 8) ∧ Below w.heap.size w w' := by
  go_enter Tryd.func40, Tryd.ntmps40
  go_wp2
  go_returns
  exact ⟨rfl, Below.refl _ _⟩
theorem check_none (a : Option Addr) (cap : Nat) (w : World) :
    Calls Tryd.prog 40 #[.slice a 0 cap] w fun e w' => e = .returned (.int .i64 9) ∧ Below w.heap.size w w' := by
  go_enter Tryd.func40, Tryd.ntmps40
  go_wp2
  go_returns
  exact ⟨rfl, Below.refl _ _⟩

set_option maxHeartbeats 4000000 in
theorem check_some (b off n cap : Nat) (f g : Nat → Int) (E : Int) (w : World) (n0 : 0 < n) (n1 : n ≤ 64) (hb : b < w.heap.size)
    (hc : Hid (∀ j, j < n → w.cell? ⟨b, off + j * 2, none⟩ = some (.int .i64 (f j)) ∧ w.cell? ⟨b, off + j * 2 + 1, none⟩ = some (.int .i64 (g j))))
    (HC : Hid (∀ k a W, Below w.heap.size w W → Calls Tryd.prog 15 #[.agg #[.int .i64 k, .int .i64 a]] W fun e w' => e = .returned (.int .i64 (qE k a)) ∧ Below W.heap.size W w'))
    (h1 : Hid (∀ j, j < n → qE (f j) (g j) ≠ 0 → E = 1)) (h2 : Hid ((∀ j, j < n → qE (f j) (g j) = 0) → ∀ j, j < n → f j ≠ f 0 → E = 10)) (h3 : Hid ((∀ j, j < n → qE (f j) (g j) = 0) → (∀ j, j < n → f j = f 0) → E = 0)) :
    Calls Tryd.prog 40 #[.slice (some ⟨b, off, none⟩) n cap] w fun e w' => e = .returned (.int .i64 E) ∧ Below w.heap.size w w' := by
  have hn0 : ((n : Int) == 0) = false := by rw [beq_eq_false_iff_ne]; omega
  go_enter Tryd.func40, Tryd.ntmps40
  go_wp2_with fail
  go_loopw [15] (fun i wr => ∃ k : Nat, k ≤ n ∧ i = .int .i64 k ∧ Hid (∀ j, j < k → qE (f j) (g j) = 0) ∧ Hid (Below w.heap.size w wr)) (fun i _ => n - (intOf i).toNat)
  case atStart => exact ⟨0, by omega, rfl, fun j hj => by omega, Below.refl _ _⟩
  case round =>
    obtain ⟨k, hk, rfl, ha, hB⟩ := hrel
    by_cases hlt : k < n
    · have c0 : wr.cell? ⟨b, off + k * 2, none⟩ = some (.int .i64 (f k)) := by rw [(bcell hB.out).1 _ _ hb]; exact (hc.out k hlt).1
      have c1 : wr.cell? ⟨b, off + k * 2 + 1, none⟩ = some (.int .i64 (g k)) := by rw [(bcell hB.out).1 _ _ hb]; exact (hc.out k hlt).2
      have HS : Hid (qE (f k) (g k) = 0 → ∀ j, j < k + 1 → qE (f j) (g j) = 0) := fun h j hj => by
        by_cases e : j = k
        · rw [e]; exact h
        · exact ha.out j (by omega)
      have HN : Hid (qE (f k) (g k) ≠ 0 → E = 1) := fun h => h1.out k hlt h
      have HK := Lib.hid (fun W hW => HC.out (f k) (g k) W hW)
      generalize f k = K at *
      generalize g k = A at *
      generalize qE K A = q at *
      go_wp2_with fail
      refine (HK.out _ (bel_trans hB.out (bel_alloc (Below.refl _ _)))).mono ?_
      rintro e w1 ⟨rfl, gg⟩
      replace hB := Lib.hid (bel_trans hB.out (bel_alloc gg)); clear gg c0 c1
      by_cases hq : q = 0
      · subst hq
        replace HS := Lib.hid (HS.out (by first | rfl | trivial))
        clear HN
        go_wp2
        go_roundw
        case rel => exact ⟨k + 1, by omega, by go_num, HS, hB⟩
        case measure => simp [intOf]; omega
      · obtain rfl := HN.out hq
        clear HN HS
        have hq1 : (q == 0) = false := by simpa using hq
        have hq2 : (q != 0) = true := by simpa using hq
        clear hq
        go_wp2
        go_returns
        exact ⟨rfl, hB.out⟩
    · obtain rfl : k = n := by omega
      go_wp2_with fail
      replace h2 := Lib.hid (h2.out ha.out)
      replace h3 := Lib.hid (h3.out ha.out)
      clear h1 ha
      have HB0 := hB
      clear hB
      go_loopw [25] (fun i wr => ∃ m : Nat, m ≤ k ∧ i = .int .i64 m ∧ Hid (∀ j, j < m → f j = f 0) ∧ Hid (Below w.heap.size w wr)) (fun i _ => k - (intOf i).toNat)
      case atStart => exact ⟨0, by omega, rfl, fun j hj => by omega, HB0⟩
      case round =>
        obtain ⟨m, hm, rfl, ha, hB⟩ := hrel
        by_cases hlt2 : m < k
        · have c0 : wr.cell? ⟨b, off + m * 2, none⟩ = some (.int .i64 (f m)) := by rw [(bcell hB.out).1 _ _ hb]; exact (hc.out m hlt2).1
          have c1 : wr.cell? ⟨b, off + m * 2 + 1, none⟩ = some (.int .i64 (g m)) := by rw [(bcell hB.out).1 _ _ hb]; exact (hc.out m hlt2).2
          have d0 : ∀ o, (wr.alloc o).cell? ⟨b, off, none⟩ = some (.int .i64 (f 0)) := fun o => by
            rw [(bcell (bel_trans hB.out (bel_alloc (Below.refl (wr.alloc o).heap.size _)))).1 _ _ hb]
            have := (hc.out 0 n0).1
            simpa using this
          have HS : Hid (f m = f 0 → ∀ j, j < m + 1 → f j = f 0) := fun h j hj => by
            by_cases e : j = m
            · rw [e]; exact h
            · exact ha.out j (by omega)
          have HN : Hid (f m ≠ f 0 → E = 10) := fun h => h2.out m hlt2 h
          generalize f m = K at *
          generalize g m = A at *
          generalize f 0 = K0 at *
          by_cases hq : K = K0
          · subst hq
            replace HS := Lib.hid (HS.out rfl)
            clear HN
            go_wp2_with fail
            go_quiet (fail)
            go_wp2
            go_roundw
            case rel => exact ⟨m + 1, by omega, by go_num, HS, bel_trans hB.out (bel_alloc (bel_drewN _ _))⟩
            case measure => simp [intOf]; omega
          · obtain rfl := HN.out hq
            clear HN HS
            have hq1 : (K == K0) = false := by simpa using hq
            have hq2 : (K != K0) = true := by simpa using hq
            clear hq
            go_wp2_with fail
            go_quiet (fail)
            go_wp2
            go_returns
            exact ⟨rfl, bel_trans hB.out (bel_alloc (bel_drewN _ _))⟩
        · obtain rfl : m = k := by omega
          obtain rfl := h3.out ha.out
          go_wp2
          go_returns
          exact ⟨rfl, hB.out⟩

theorem checkAll_any (v : Value) (l : List (Int × Int)) (w : World) (hw : LaidU w) (hv : Qs w v l) :
    Calls Tryd.prog 40 #[v] w fun e w' => e = .returned (.int .i64 (caE l)) ∧ Below w.heap.size w w' := by
  obtain ⟨a, cap, rfl, hl, h⟩ := hv
  by_cases g1 : 64 < l.length
  · have e : caE l = 8 := by unfold caE; rw [if_pos g1]
    rw [e]
    exact check_long _ _ _ _ g1 (by omega)
  · by_cases g2 : l.length = 0
    · have e : caE l = 9 := by unfold caE; rw [if_neg g1, if_pos g2]
      rw [e, g2]
      exact check_none _ _ _
    · rcases h with h | ⟨b, off, rfl, hb, hc⟩
      · exact absurd h g2
      · refine check_some b off l.length cap (fun j => (l.getD j (0, 0)).1) (fun j => (l.getD j (0, 0)).2) _ w (by omega) (by omega) hb hc (fun k a W hW => check_any k a W (hw.below hW)) ?_ ?_ ?_
        · intro j hj h
          unfold caE
          rw [if_neg g1, if_neg g2, if_pos (all_no (d := (0, 0)) hj (by simpa using h))]
        · intro h j hj hn
          unfold caE
          rw [if_neg g1, if_neg g2, if_neg (by rw [all_yes (d := ((0 : Int), (0 : Int))) (fun j hj => by simpa using h j hj)]; simp), if_pos (all_no (d := (0, 0)) hj (by simpa using hn))]
        · intro h h'
          unfold caE
          rw [if_neg g1, if_neg g2, if_neg (by rw [all_yes (d := ((0 : Int), (0 : Int))) (fun j hj => by simpa using h j hj)]; simp), if_neg (by rw [all_yes (d := ((0 : Int), (0 : Int))) (fun j hj => by simpa using h' j hj)]; simp)]
end Go.Proofs.YtdhckbjebccdbaaDoor
