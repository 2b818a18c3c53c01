/- Package profile: Turn. -/
import Derived.Test.YtlofblpfohnooabPPI
import Derived.Test.YtlofblpfohnooabShelfR
import Derived.StillTailTactics
import Derived.StillTactics
import Derived.ArgAppend
namespace Go.Proofs.Ytlofblpfohnooab
open Go.RowKit Go.Sort

/-- a slice of the call's own that reads as a list of points, and can be written -/
def WPts (w : World) (B : Nat) (v : Value) (l : List (Int × Int)) : Prop :=
  ∃ g cap, v = .slice (some ⟨g, 0, none⟩) l.length cap ∧ (l.length ≤ cap ∧ cap ≤ 9223372036854775807) ∧ B ≤ g ∧ g < w.heap.size ∧
    ∀ j, j < l.length → (w.cell? ⟨g, j * 2, none⟩ = some (.int .i64 (gX l j)) ∧ w.cell? ⟨g, j * 2 + 1, none⟩ = some (.int .i64 (gR l j))) ∧ w.frozen? ⟨g, j * 2, none⟩ = false ∧ w.frozen? ⟨g, j * 2 + 1, none⟩ = false
theorem WPts.pts {w : World} {B : Nat} {v : Value} {l : List (Int × Int)} (h : WPts w B v l) : Pts w v l := by
  obtain ⟨g, cap, rfl, h1, h2, h3, h4⟩ := h
  exact ⟨_, cap, rfl, h1, .inr ⟨g, 0, rfl, h3, fun j hj => by rw [Nat.zero_add]; exact (h4 j hj).1⟩⟩
def encQ (q : Int × Int) : List Value := [.int .i64 q.1, .int .i64 q.2]
theorem reverse_p (u : Value) (l : List (Int × Int)) (B : Nat) (w0 w : World) (h : OwnP w B u l) (h0 : l.length ≠ 0) (hb : Below B w0 w) (hn : l.length ≤ 1000) :
    Calls Try.prog 40 #[u] w fun e w' => e = .returned (.tuple #[]) ∧ WPts w' B u l.reverse ∧ Below B w0 w' := by
  have h' := h
  obtain ⟨_, h2⟩ := h
  rcases h2 with ⟨rfl, hn0⟩ | ⟨g, cap, cur, rfl, hg, hh, hc, hm, hs, ht⟩
  · exact absurd hn0 h0
  · have hlt : g < w.heap.size := by
      rcases Nat.lt_or_ge g w.heap.size with h | h
      · exact h
      · rw [Array.getElem?_eq_none h] at hh; cases hh
    have hcell := World.ownsRow.cells h' (g := g) rfl
    have hH : HoldsK encQ 2 w g 0 l.toArray := by
      intro j hj
      rw [size_flatK] at hj
      have hj' : j < l.length * 2 := by simpa using hj
      refine ⟨?_, by simp [World.frozen?, hh]⟩
      rw [get_flatK _ _ _ _ hj, ← Go.WideShapes.add_plain]
      refine hcell j _ ?_
      have hf := flat_at l (j / 2) (by omega)
      have hgd : l.toArray[j / 2]! = l.getD (j / 2) (0, 0) := by
        rw [getElem!_pos l.toArray (j / 2) (by simp; omega), List.getD_eq_getElem?_getD, List.getElem?_eq_getElem (by omega)]; simp
      rw [hgd]
      rcases Nat.mod_two_eq_zero_or_one j with e | e
      · rw [e]
        have hj2 : j = j / 2 * 2 := by omega
        have := hf.1
        rw [← hj2] at this
        rw [this]; rfl
      · rw [e]
        have hj2 : j = j / 2 * 2 + 1 := by omega
        have := hf.2
        rw [← hj2] at this
        rw [this]; rfl
    have hr := AnyQ.slices_Reverse Try.reverseQ 2 Try.isAgg30 Try.sizeOf30 encQ (fun _ => rfl) (fun x v hv => by simp [encQ] at hv; rcases hv with rfl | rfl <;> rfl) g 0 cap l.toArray w hH (by simp; omega)
    rw [show l.toArray.size = l.length by simp] at hr
    refine hr.mono ?_
    rintro e w' ⟨rfl, n, rfl⟩
    refine ⟨rfl, ⟨g, cap, by rw [List.length_reverse], ?_, hg, ?_, fun j hj => ?_⟩, Lib.below_putRow hb hg⟩
    · rw [List.length_reverse]; unfold maxLen at hm; omega
    · show g < (putRow id (Sort.ahead w n) g 0 _).heap.size
      rw [size_putRow]; exact hlt
    · rw [List.length_reverse] at hj
      have hP := holdsK_putRowK encQ 2 (Sort.ahead w n) g 0 l.toArray l.toArray.reverse (holdsK_ahead encQ 2 w n g 0 _ hH) (by simp)
      have hgd : l.toArray.reverse[j]! = l.reverse.getD j (0, 0) := by
        rw [getElem!_pos l.toArray.reverse j (by simp; omega), List.getD_eq_getElem?_getD, List.getElem?_eq_getElem (by simp; omega)]; simp
      have p0 := hP.cell (i := j) (c := 0) (by simp; omega) (by omega)
      have p1 := hP.cell (i := j) (c := 1) (by simp; omega) (by omega)
      rw [hgd] at p0 p1
      rw [Nat.zero_add] at p0 p1
      exact ⟨⟨p0.1, p1.1⟩, p0.2, p1.2⟩

/-- the profile from the other head -/
def tuL (l : List (Int × Int)) : List (Int × Int) := l.reverse.map fun q => (gX l (l.length - 1) - q.1, q.2)
def tuR (l : List (Int × Int)) : List (Int × Int) := if ckE l = 0 then tuL l else []

theorem still_tail {P : Program} {id : Nat} {Q : Exit → Act → World → Prop} {a : Act} {w : World} {l : List Oper} (n : Nat) (hm : P.follows .mixedOrders = true) (hB : Region.lexTailB .any l.toArray n = true)
    (h : wpStill P l.toArray w.drew (fun a' => wpList P l.toArray Q (l.drop n) a' w.drew) (l.take n) a) : (Code.region id l.toArray true).wp P Q a w :=
  wp_region_still_tail n hm hB h
/-- the cells while they are turned -/
def TC (W : World) (g n k : Nat) (X : Int) (f r : Nat → Int) : Prop :=
  ∀ j, j < n → (W.cell? ⟨g, j * 2, none⟩ = some (.int .i64 (if j < k then X - f j else f j)) ∧ W.cell? ⟨g, j * 2 + 1, none⟩ = some (.int .i64 (r j))) ∧ W.frozen? ⟨g, j * 2, none⟩ = false ∧ W.frozen? ⟨g, j * 2 + 1, none⟩ = false
theorem TC.drew {W : World} {g n k : Nat} {X : Int} {f r : Nat → Int} (h : TC W g n k X f r) : TC W.drew g n k X f r := h
theorem TC.step {W : World} {g n k : Nat} {X : Int} {f r : Nat → Int} (h : TC W g n k X f r) (hk : k < n) : TC (W.setCell ⟨g, k * 2, none⟩ (.int .i64 (X - f k))) g n (k + 1) X f r := by
  intro j hj
  obtain ⟨⟨h0, h1⟩, h2, h3⟩ := h j hj
  refine ⟨⟨?_, ?_⟩, by rw [World.frozen?_setCell]; exact h2, by rw [World.frozen?_setCell]; exact h3⟩
  · by_cases e : j = k
    · subst e
      rw [if_pos (by omega)]
      exact World.cell?_setCell_same _ _ _ h0
    · rw [World.cell?_setCell_other _ _ _ _ (by intro e2; simp at e2 <;> omega), h0]
      by_cases e2 : j < k
      · rw [if_pos e2, if_pos (by omega)]
      · rw [if_neg e2, if_neg (by omega)]
  · rw [World.cell?_setCell_other _ _ _ _ (by intro e2; simp at e2 <;> omega)]; exact h1

theorem Tu_bad (v : Value) (E : Int) (w : World) (e1 : (E == 0) = false) (e2 : (E != 0) = true)
    (H1 : Hid (Calls Try.prog 16 #[v] w fun e w' => e = .returned (.int .i64 E) ∧ Below w.heap.size w w')) :
    Calls Try.prog 25 #[v] w fun e w' => e = .returned (.tuple #[.slice none 0 0, .int .i64 E]) ∧ Below w.heap.size w w' := by
  go_enter Try.func25, Try.ntmps25
  go_wp2_with fail
  refine H1.out.mono ?_
  rintro e w1 ⟨rfl, gg⟩
  have X1 := Lib.hid gg; clear gg
  go_wp2
  go_returns
  exact ⟨rfl, X1.out⟩
set_option maxHeartbeats 16000000 in
set_option maxRecDepth 100000 in
theorem Tu_ok (b off n cap : Nat) (l : List (Int × Int)) (X : Int) (w : World) (n0 : 2 ≤ n) (n1 : n ≤ 32) (hcap : n ≤ cap) (hn : Hid (n = l.length)) (hX : Hid (gX l (n - 1) = X)) (bX : 0 ≤ X ∧ X ≤ 100000) (bx : Hid (∀ j, j < n → 0 ≤ gX l.reverse j ∧ gX l.reverse j ≤ 100000)) (hb : b < w.heap.size)
    (hc : Hid (∀ j, j < n → w.cell? ⟨b, off + j * 2, none⟩ = some (.int .i64 (gX l j)) ∧ w.cell? ⟨b, off + j * 2 + 1, none⟩ = some (.int .i64 (gR l j))))
    (H1 : Hid (Calls Try.prog 16 #[.slice (some ⟨b, off, none⟩) n cap] w fun e w' => e = .returned (.int .i64 0) ∧ Below w.heap.size w w')) :
    Calls Try.prog 25 #[.slice (some ⟨b, off, none⟩) n cap] w fun e w' => ∃ g c, e = .returned (.tuple #[.slice (some ⟨g, 0, none⟩) n c, .int .i64 0]) ∧ (n ≤ c ∧ c ≤ 9223372036854775807) ∧ g < w'.heap.size ∧ TC w' g n n X (gX l.reverse) (gR l.reverse) ∧ Below w.heap.size w w' := by
  obtain ⟨ti, hi, hz0, hz1, hz2⟩ := info_parts pt_info
  go_enter Try.func25, Try.ntmps25
  go_wp2_with fail
  refine H1.out.mono ?_
  rintro e w1 ⟨rfl, gg⟩
  have X1 := Lib.hid gg; clear gg
  have fl : Hid ((flat l).length = n * 2) := by show _ = _; rw [flat_len, hn.out]
  have fc : Hid (∀ j u, (flat l)[j]? = some u → w1.cell? ((⟨b, off, none⟩ : Addr).add j) = some u) := fun j u hj => by
    rw [Go.WideShapes.add_plain, (bcell X1.out).1 _ _ hb]
    exact flat_cells hn.out hc.out j u hj
  go_wp2_with (at_builtin; refine wpList_append_grows _ rfl _ _ 22 rfl 30 ti (.agg #[.int .i64 0, .int .i64 0]) 2 16 Try.underlying22 hi hz0 hz1 hz2 rfl (by decide) (some ⟨b, off, none⟩) 0 0 [] rfl (fun h => by cases h) rfl (fun b' hb' j u hj => by cases hj) ⟨b, off, none⟩ n cap (flat l) rfl fl.out fc.out (flat_one l) (by omega) (by unfold maxLen; omega) (by omega) ?_)
  intro v2 w2 hown hgrow
  have R : OwnP w2 w1.heap.size v2 l := by
    unfold OwnP
    rw [← hn.out]
    simpa using hown
  have XB : Hid (Below w.heap.size w w2) := X1.out.grown hgrow X1.out.size (fun k e => by cases e)
  have hg1 : Hid (w.heap.size ≤ w1.heap.size) := X1.out.size
  have HR := Lib.hid (reverse_p v2 l w1.heap.size w2 w2 R (by have := hn.out; omega) (Below.refl _ _) (by have := hn.out; omega))
  clear hown hgrow R fl fc
  go_wp2_with fail
  refine HR.out.mono ?_
  rintro e w3 ⟨rfl, ⟨g, c, rfl, hcc, hBg, hgl, hcell⟩, gg⟩
  rw [List.length_reverse, ← hn.out] at hcc hcell
  have XC := Lib.hid (XB.out.trans (gg.mono hg1.out)); clear gg HR XB
  have C0 : Hid (TC w3 g n 0 X (gX l.reverse) (gR l.reverse)) := fun j hj => by
    obtain ⟨⟨h0, h1⟩, h2, h3⟩ := hcell j hj
    exact ⟨⟨by rw [if_neg (by omega)]; exact h0, h1⟩, h2, h3⟩
  have el : l.reverse.length = n := by rw [List.length_reverse]; exact hn.out.symm
  rw [el]
  clear hcell el
  have hgw : w.heap.size ≤ g := Nat.le_trans hg1.out hBg
  go_wp2_with fail
  go_loopw [6, 20] (fun _ ii wr => ∃ k : Nat, k ≤ n ∧ ii = .int .i64 k ∧ Hid (Below w.heap.size w wr) ∧ Hid (TC wr g n k X (gX l.reverse) (gR l.reverse)) ∧ g < wr.heap.size) (fun _ ii _ => n - (intOf ii).toNat)
  case atStart => exact ⟨0, Nat.zero_le _, rfl, XC, C0, hgl⟩
  case round =>
    obtain ⟨k, hk, rfl, hB, hT, hgr⟩ := hrel
    by_cases hlt : k < n
    · obtain ⟨⟨c0, c1⟩, f0, f1⟩ := hT.out k hlt
      rw [if_neg (by omega)] at c0
      have bk := bx.out k hlt
      have HE : Hid (∀ W, Below w.heap.size w W → Calls Try.prog 28 #[.slice (some ⟨b, off, none⟩) n cap] W fun e w' => e = .returned (.int .i64 X) ∧ w' = W) := fun W hW => by
        have := end_any b off n cap l W (by omega) (by omega) (Lib.hid fun j hj => by rw [(bcell hW).1 _ _ hb, (bcell hW).1 _ _ hb]; exact hc.out j hj)
        rwa [hX.out] at this
      have T2 := Lib.hid (hT.out.drew.step hlt)
      have B2 : Hid (Below w.heap.size w (wr.drew.setCell ⟨g, k * 2, none⟩ (.int .i64 (X - gX l.reverse k)))) := (bel_trans hB.out (bel_drew wr)).setCell (p := ⟨g, k * 2, none⟩) hgw _
      have BD : Hid (Below w.heap.size w wr.drew) := bel_trans hB.out (bel_drew wr)
      have l1 : (k : Int) < (n : Int) := by omega
      have l2 : g < (wr.drew.setCell ⟨g, k * 2, none⟩ (.int .i64 (X - gX l.reverse k))).heap.size := by simpa [World.setCell] using hgr
      obtain ⟨x, hx⟩ : ∃ x, gX l.reverse k = x := ⟨_, rfl⟩
      rw [hx] at c0 bk T2 B2 l2
      have ws : IntKind.i64.wrap (X - x) = X - x := wrap_in _ ⟨by omega, by omega⟩
      go_wp2_with fail
      refine still_tail 12 (by kernel_rfl) (by kernel_rfl) ?_
      simp only [List.take_succ_cons, List.take_zero, List.drop_succ_cons, List.drop_zero]
      repeat still_step
      still_call ((HE.out _ BD.out).mono fun _ _ h => ⟨h.1, h.2⟩)
      repeat still_step
      refine wpStill_nil ?_
      go_wp2
      go_roundw
      case rel => exact ⟨k + 1, by omega, by go_num, B2, T2, l2⟩
      case measure => simp [intOf]; omega
    · obtain rfl : k = n := by omega
      go_wp2
      go_returns
      exact ⟨g, c, rfl, hcc, hgr, hT.out, hB.out⟩
theorem tuL_len (l : List (Int × Int)) : (tuL l).length = l.length := by simp [tuL]
theorem tu_get {l : List (Int × Int)} {j : Nat} (h : j < l.length) : gX (tuL l) j = gX l (l.length - 1) - gX l.reverse j ∧ gR (tuL l) j = gR l.reverse j := by
  have h2 : j < l.reverse.length := by simpa using h
  unfold gX gR tuL
  rw [List.getD_eq_getElem?_getD, List.getD_eq_getElem?_getD, List.getD_eq_getElem?_getD, List.getElem?_map, List.getElem?_eq_getElem h2]
  exact ⟨rfl, rfl⟩
theorem rev_get {l : List (Int × Int)} {j : Nat} (h : j < l.length) : gX l.reverse j = gX l (l.length - 1 - j) ∧ gR l.reverse j = gR l (l.length - 1 - j) := by
  unfold gX gR
  rw [List.getD_eq_getElem?_getD, List.getD_eq_getElem?_getD, List.getElem?_reverse h]
  exact ⟨rfl, rfl⟩
theorem turn_any (v : Value) (l : List (Int × Int)) (w : World) (hv : Pts w v l) :
    Calls Try.prog 25 #[v] w fun e w' => ∃ u, e = .returned (.tuple #[u, .int .i64 (ckE l)]) ∧ Pts w' u (tuR l) ∧ Below w.heap.size w w' := by
  have HC := Lib.hid (ck_any v l w hv)
  unfold tuR
  by_cases h : ckE l = 0
  · have hR := (ckE_iff l).1 h
    have n0 := hR.n0
    have n1 := hR.n1
    rw [if_pos h, h]
    rw [h] at HC
    obtain ⟨a, cap, rfl, hl, hh⟩ := hv
    rcases hh with hh | ⟨b, off, rfl, hb, hc⟩
    · omega
    · refine (Tu_ok b off l.length cap l _ w n0 n1 hl.1 (Lib.hid rfl) (Lib.hid rfl) (hR.bx _ (by omega)) (Lib.hid fun j hj => ?_) hb (Lib.hid hc) HC).mono ?_
      · rw [(rev_get hj).1]; exact hR.bx _ (by omega)
      · rintro e w' ⟨g, c, rfl, hcc, hg, hT, hB⟩
        refine ⟨_, rfl, ⟨_, c, by rw [tuL_len], by rw [tuL_len]; exact hcc, .inr ⟨g, 0, rfl, hg, fun j hj => ?_⟩⟩, hB⟩
        rw [tuL_len] at hj
        obtain ⟨⟨h0, h1⟩, _⟩ := hT j hj
        rw [if_pos hj] at h0
        obtain ⟨e1, e2⟩ := tu_get hj
        rw [e1, e2, Nat.zero_add]
        exact ⟨h0, h1⟩
  · rw [if_neg h]
    exact (Tu_bad v _ w (by simpa using h) (by simpa using h) HC).mono fun _ w' g => ⟨_, g.1, pts_nil w', g.2⟩
end Go.Proofs.Ytlofblpfohnooab
