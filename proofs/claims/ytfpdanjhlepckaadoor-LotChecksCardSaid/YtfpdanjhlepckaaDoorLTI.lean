/- Package lot: lots of their own. -/
import Derived.Test.YtfpdanjhlepckaaDoorLTH
namespace Go.Proofs.YtfpdanjhlepckaaDoor
open Go.RowKit

/-- what the loop of ownOf keeps -/
def OwI (w : World) (g n : Nat) (l : List Lt) (k : Nat) (f : Nat → Value) (W : World) : Prop :=
  LO W g n l f ∧ g < W.heap.size ∧ w.heap.size ≤ g ∧ (∀ j, j < k → RH.SO W w.heap.size g (f j) (gL l j).sh) ∧ (∀ j, k ≤ j → j < n → PF W g (f j) (gL l j).sh) ∧ Below w.heap.size w W
theorem OwI.below {w W W' : World} {g n k : Nat} {l : List Lt} {f : Nat → Value} (h : OwI w g n l k f W) (hb : Below W.heap.size W W') : OwI w g n l k f W' :=
  ⟨h.1.below h.2.1 hb, Nat.lt_of_lt_of_le h.2.1 hb.size, h.2.2.1, fun j hj => (h.2.2.2.1 j hj).below hb, fun j h1 h2 => (h.2.2.2.2.1 j h1 h2).below hb, bel_trans h.2.2.2.2.2 hb⟩
theorem OwI.next {w W : World} {g n k B : Nat} {l : List Lt} {f : Nat → Value} {u : Value} (h : OwI w g n l k f W) (hu : RH.Sh W B u (gL l k).sh) (hg : g < B) : OwI w g n l (k + 1) (fun j => if j = k then u else f j) (W.setCell ⟨g, k * 4 + 3, none⟩ u) := by
  obtain ⟨h1, h2, h3, h4, h5, h6⟩ := h
  refine ⟨h1.set k u, by rw [World.size_setCell]; exact h2, h3, fun j hj => ?_, fun j hj hn => ?_, h6.setCell (p := ⟨g, k * 4 + 3, none⟩) h3 _⟩
  · by_cases e : j = k
    · subst e
      simp only [if_true]
      exact ((hu.so hg).base (by omega)).set _ _
    · simp only [if_neg e]
      exact (h4 j (by omega)).set _ _
  · simp only [if_neg (show j ≠ k by omega)]
    exact (h5 j (by omega) hn).set _ _
/-- lots of the call's own -/
def LOwn (W : World) (B : Nat) (v : Value) (l : List Lt) : Prop :=
  ∃ g cap f, v = .slice (some ⟨g, 0, none⟩) l.length cap ∧ (l.length ≤ cap ∧ cap ≤ 9223372036854775807) ∧ B ≤ g ∧ g < W.heap.size ∧ LO W g l.length l f ∧ ∀ j, j < l.length → RH.SO W B g (f j) (gL l j).sh
theorem LO.at {W : World} {g n : Nat} {l : List Lt} {f : Nat → Value} (h : LO W g n l f) (hp : ∀ j, j < n → Pts W (f j) (gL l j).sh) (j : Nat) (hj : j < n) : LtAt W g (j * 4) (gL l j) := by
  obtain ⟨a, cap, e, _, _⟩ := (hp j hj).shape
  have c0 := (h j hj 0 (by omega)).1
  have c1 := (h j hj 1 (by omega)).1
  have c2 := (h j hj 2 (by omega)).1
  have c3 := (h j hj 3 (by omega)).1
  rw [e] at c3
  refine ⟨a, cap, by simpa [ltCell] using c0, by simpa [ltCell] using c1, by simpa [ltCell] using c2, by simpa [ltCell] using c3, ?_⟩
  rw [← e]
  exact hp j hj
theorem LOwn.lts {W : World} {B : Nat} {v : Value} {l : List Lt} (h : LOwn W B v l) : Lts W v l := by
  obtain ⟨g, cap, f, rfl, hc, _, hg, hL, hs⟩ := h
  refine ⟨_, cap, rfl, hc, .inr ⟨g, 0, rfl, hg, fun j hj => ?_⟩⟩
  rw [Nat.zero_add]
  exact hL.at (fun j hj => (hs j hj).1.pts) j hj
theorem LOwn.below {W W' : World} {B : Nat} {v : Value} {l : List Lt} (h : LOwn W B v l) (hb : Below W.heap.size W W') : LOwn W' B v l := by
  obtain ⟨g, cap, f, rfl, hc, h0, hg, hL, hs⟩ := h
  exact ⟨g, cap, f, rfl, hc, h0, Nat.lt_of_lt_of_le hg hb.size, hL.below hg hb, fun j hj => (hs j hj).below hb⟩
set_option maxHeartbeats 16000000 in
set_option maxRecDepth 100000 in
theorem ltOw_any (v : Value) (l : List Lt) (w : World) (hv : Lts w v l) (hn : l.length ≤ 1000) (hs : ∀ j, j < l.length → (gL l j).sh.length ≤ 1000) :
    Calls Tryd.prog 39 #[v] w fun e w' => ∃ u, e = .returned u ∧ LOwn w' w.heap.size u l ∧ Below w.heap.size w w' := by
  have HL := Lib.hid (ltCl_any v l w hv hn)
  replace hs := Lib.hid hs
  clear hv
  obtain ⟨n, hln⟩ : ∃ n, l.length = n := ⟨_, rfl⟩
  rw [hln] at HL hs hn
  go_enter Tryd.func39, Tryd.ntmps39
  go_wp2_with fail
  refine HL.out.mono ?_
  rintro e w1 ⟨g, cap, f0, rfl, ⟨hc1, hc2⟩, hg0, hg1, hLO, hPF, gg⟩
  have S0 : Hid (OwI w g n l 0 f0 w1) := Lib.hid ⟨hLO, hg1, hg0, fun j hj => by omega, fun j _ hj => hPF j hj, gg⟩
  clear HL hLO hPF gg hg0 hg1
  replace hc1 := Lib.hid hc1
  replace hc2 := Lib.hid hc2
  go_wp2_with fail
  go_loopw [10] (fun ii wr => ∃ k f, k ≤ n ∧ ii = .int .i64 (k : Nat) ∧ Hid (OwI w g n l k f wr)) (fun ii _ => n - (intOf ii).toNat)
  case atStart => exact ⟨0, f0, Nat.zero_le _, rfl, S0⟩
  case round =>
    clear S0
    obtain ⟨k, f, hk, rfl, hS⟩ := hrel
    by_cases hlt : k < n
    · have l9 : (k : Int) < (n : Int) := by omega
      have HB := Lib.hid (fun W h => ltCs_any (f k) (gL l k).sh W h (hs.out k hlt))
      have NX := Lib.hid (fun W u B (h : OwI w g n l k f W) => OwI.next (u := u) (B := B) h)
      obtain ⟨c0, z0⟩ := hS.out.1 k hlt 0 (by omega)
      obtain ⟨c1, z1⟩ := hS.out.1 k hlt 1 (by omega)
      obtain ⟨c2, z2⟩ := hS.out.1 k hlt 2 (by omega)
      obtain ⟨c3, z3⟩ := hS.out.1 k hlt 3 (by omega)
      simp only [ltCell, Nat.add_zero, if_true, if_false, show ¬ (1 : Nat) = 0 by omega, show ¬ (2 : Nat) = 0 by omega, show ¬ (2 : Nat) = 1 by omega, show ¬ (3 : Nat) = 0 by omega, show ¬ (3 : Nat) = 1 by omega, show ¬ (3 : Nat) = 2 by omega] at c0 c1 c2 c3
      clear z0 z1 z2 z3
      have PK := Lib.hid (hS.out.2.2.2.2.1 k (Nat.le_refl _) hlt).pts
      generalize (gL l k).id = cd at *
      generalize (gL l k).al = cA at *
      generalize (gL l k).ms = cM at *
      generalize hck : f k = ck at *
      generalize hcS : (gL l k).sh = cS at *
      obtain ⟨sa, sc, hsl, _, _⟩ := PK.out.shape
      subst hsl
      generalize cS.length = cn at *
      have T0 := Lib.hid (Quad.new wr (.int .i64 cd) (.int .i64 cA) (.int .i64 cM) (.slice sa cn sc) 32)
      have X1 : Hid (Below wr.heap.size wr (wr.alloc (.cells #[.int .i64 cd, .int .i64 cA, .int .i64 cM, .slice sa cn sc] 32))) := Lib.hid (bel_alloc (Below.refl _ _))
      have PK1 := Lib.hid (PK.out.below X1.out)
      obtain ⟨b0, b1, b2, b3, _, _⟩ := T0.out
      go_wp2_with fail
      refine (HB.out _ PK1.out).mono ?_
      rintro e w3 ⟨u, rfl, hu, h1⟩
      obtain ⟨ua, uc, hue⟩ := hu.shape
      subst hue
      have S1 := Lib.hid (hS.out.below (bel_trans X1.out h1))
      have U := Lib.hid hu
      have GB : Hid (g < (wr.alloc (.cells #[.int .i64 cd, .int .i64 cA, .int .i64 cM, .slice sa cn sc] 32)).heap.size) := Lib.hid (Nat.lt_of_lt_of_le hS.out.2.1 X1.out.size)
      clear hu h1 b0 b1 b2 b3 c0 c1 c2 c3 T0 X1 PK1 PK
      obtain ⟨c3, z3⟩ := S1.out.1 k hlt 3 (by omega)
      replace c3 : w3.cell? ⟨g, k * 4 + 3, none⟩ = some (f k) := c3
      have S2 : Hid (OwI w g n l (k + 1) (fun j => if j = k then .slice ua cS.length uc else f j) (w3.setCell ⟨g, k * 4 + 3, none⟩ (.slice ua cS.length uc))) := Lib.hid (S1.out.next (by rw [hcS]; exact U.out) GB.out)
      clear HB NX hs hS S1
      go_wp2
      go_roundw
      case rel => exact ⟨k + 1, _, by omega, by go_num, S2⟩
      case measure => simp [intOf]; omega
    · obtain rfl : k = n := by omega
      go_wp2
      go_returns
      obtain ⟨h1, h2, h3, h4, _, h6⟩ := hS.out
      exact ⟨.slice (some ⟨g, 0, none⟩) k cap, rfl, ⟨g, cap, f, by rw [hln], by rw [hln]; exact ⟨hc1.out, hc2.out⟩, h3, h2, by rw [hln]; exact h1, by rw [hln]; exact h4⟩, h6⟩
end Go.Proofs.YtfpdanjhlepckaaDoor

