/- slices.IndexFunc over lots; package lot: Find. -/
import Derived.Test.YtfpdanjhlepckaaDoorLTI
import Derived.FnLit
import Derived.RangeFuncBox
namespace Go.Proofs.YtfpdanjhlepckaaDoor
open Go.RowKit

/-- the index of the first place at which p holds; -1 if there is none -/
def ixR (p : Nat → Bool) (n : Nat) : Int := if fst p n < n then (fst p n : Int) else -1
theorem ixR_at {p : Nat → Bool} {n k : Nat} (hk : k < n) (h1 : ∀ j, j < k → p j = false) (h2 : p k = true) : ixR p n = k := by
  unfold ixR
  rw [fst_is (by omega) h1 (fun _ => h2), if_pos hk]
theorem ixR_no {p : Nat → Bool} {n : Nat} (h1 : ∀ j, j < n → p j = false) : ixR p n = -1 := by
  unfold ixR
  rw [fst_is (Nat.le_refl _) h1 (fun h => by omega), if_neg (by omega)]
theorem ixR_iff (p : Nat → Bool) (n : Nat) : 0 ≤ ixR p n ↔ ∃ j, j < n ∧ p j = true := by
  unfold ixR
  obtain ⟨s1, s2⟩ := fst_spec p n
  by_cases h : fst p n < n
  · rw [if_pos h]
    exact ⟨fun _ => ⟨_, h, s2 h⟩, fun _ => by omega⟩
  · rw [if_neg h]
    refine ⟨fun h => by omega, ?_⟩
    rintro ⟨j, hj, e⟩
    rw [s1 j (by omega)] at e
    cases e
set_option maxHeartbeats 8000000 in
set_option maxRecDepth 100000 in
theorem idxl_some (f : Nat) (cb : Array Value) (p : Nat → Bool) (eg : ∀ args w, (callFunc f args).run Tryd.prog w = .ok (.enter f args) w)
    (a : Option Addr) (n cap : Nat) (l : List Lt) (w : World) (n1 : n ≤ 1000) (NV0 : Hid (Lts w (.slice a n cap) l))
    (hp : Hid (∀ j W a c, j < n → Below w.heap.size w W → Calls Tryd.prog f (#[ltV (gL l j) a c] ++ cb) W fun e w' => e = .returned (.bool (p j)) ∧ Below W.heap.size W w')) :
    Calls Tryd.prog 37 #[.slice a n cap, .func (.func f) #[] cb] w fun e w' => e = .returned (.int .i64 (ixR p n)) ∧ Below w.heap.size w w' := by
  go_enter Tryd.func37, Tryd.ntmps37
  go_wp2_with fail
  go_loopw [5, 8] (fun _ i wr => ∃ k : Nat, k ≤ n ∧ i = .int .i64 k ∧ Hid (Below w.heap.size w wr) ∧ Hid (∀ j, j < k → p j = false)) (fun _ i _ => n - (intOf i).toNat)
  case atStart => exact ⟨0, Nat.zero_le _, rfl, Below.refl _ _, fun j hj => by omega⟩
  case round =>
    obtain ⟨k, hk, rfl, hB, ha⟩ := hrel
    by_cases hlt : k < n
    · have NV := NV0.out.below hB.out
      have l9 : (k : Int) < (n : Int) := by omega
      obtain ⟨b, off, rfl, hb, hnl, hc⟩ := NV.at (by omega)
      clear hnl NV
      obtain ⟨sa, sc, c0, c1, c2, c3, _⟩ := hc k (by omega)
      clear hc
      have HP := Lib.hid (fun W (hW : Below wr.heap.size wr W) => hp.out k W sa sc hlt (bel_trans hB.out hW))
      unfold ltV at HP
      clear hb NV0
      cases hq : p k with
      | true =>
        have hBt := Lib.hid (ixR_at hlt ha.out hq)
        rw [hq] at HP
        clear hq hp
        generalize (gL l k).id = cd at *
        generalize (gL l k).al = cA at *
        generalize (gL l k).ms = cM at *
        generalize (gL l k).sh.length = cn at *
        go_wp2_with fail
        refine (HP.out _ (by first | exact Below.refl _ _ | exact bel_alloc (Below.refl _ _) | exact bel_drew _ | exact bel_alloc (bel_alloc (Below.refl _ _)))).mono ?_
        rintro e w2 ⟨rfl, gg⟩
        have X := Lib.hid (bel_trans hB.out gg); clear gg
        go_wp2
        go_returns
        exact ⟨by rw [hBt.out]; rfl, X.out⟩
      | false =>
        have ha2 : Hid (∀ j, j < k + 1 → p j = false) := fun j hj => by
          by_cases e : j = k
          · rw [e]; exact hq
          · exact ha.out j (by omega)
        rw [hq] at HP
        clear hq ha
        generalize (gL l k).id = cd at c0 HP
        generalize (gL l k).al = cA at c1 HP
        generalize (gL l k).ms = cM at c2 HP
        generalize (gL l k).sh.length = cn at c3 HP
        go_wp2_with fail
        refine (HP.out _ (by first | exact Below.refl _ _ | exact bel_alloc (Below.refl _ _) | exact bel_drew _ | exact bel_alloc (bel_alloc (Below.refl _ _)))).mono ?_
        rintro e w2 ⟨rfl, gg⟩
        have X := Lib.hid (bel_trans hB.out gg); clear gg
        go_wp2
        go_roundw
        case rel => exact ⟨k + 1, by omega, by go_num, X, ha2⟩
        case measure => simp [intOf]; omega
    · obtain rfl : k = n := by omega
      have hBf := Lib.hid (ixR_no ha.out)
      go_wp2
      go_returns
      exact ⟨by rw [hBf.out]; rfl, hB.out⟩
set_option maxHeartbeats 4000000 in
/-- the closure of Find -/
theorem ltFc_any (c : Lt) (a : Option Addr) (cap : Nat) (q : Addr) (id : Int) (w : World) (h : w.cell? q = some (.int .i64 id)) (hs : q.spot = none) :
    Calls Tryd.prog 38 #[ltV c a cap, .pointer (some q)] w fun e w' => e = .returned (.bool (c.id == id)) ∧ Below w.heap.size w w' := by
  unfold ltV
  generalize hB : (c.id == id) = B
  generalize c.id = cd at *
  generalize c.sh.length = cn at *
  have T0 := Lib.hid (Quad.new w (.int .i64 cd) (.int .i64 c.al) (.int .i64 c.ms) (.slice a cn cap) 32)
  obtain ⟨b, off, sp⟩ := q
  obtain rfl : sp = none := hs
  have h' : (w.alloc (.cells #[.int .i64 cd, .int .i64 c.al, .int .i64 c.ms, .slice a cn cap] 32)).cell? ⟨b, off, none⟩ = some (.int .i64 id) := cell_bel h (bel_alloc (Below.refl _ _))
  obtain ⟨b0, b1, b2, b3, _, _⟩ := T0.out
  have X : Hid (Below w.heap.size w (w.alloc (.cells #[.int .i64 cd, .int .i64 c.al, .int .i64 c.ms, .slice a cn cap] 32))) := Lib.hid (bel_alloc (Below.refl _ _))
  go_enter Tryd.func38, Tryd.ntmps38
  go_wp2
  go_returns
  exact ⟨rfl, X.out⟩
end Go.Proofs.YtfpdanjhlepckaaDoor

