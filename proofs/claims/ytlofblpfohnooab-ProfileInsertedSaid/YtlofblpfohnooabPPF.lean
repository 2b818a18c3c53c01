/- Package profile: the piece that reaches to x. -/
import Derived.Test.YtlofblpfohnooabPPD
namespace Go.Proofs.Ytlofblpfohnooab
open Go.RowKit Go.Shelf
attribute [local go_sem] Oper.semAt_some

/-- a block with four cells that can be written -/
def FourF (b : Nat) (W : World) (x p y q : Value) : Prop := Four b W x p y q ∧ W.frozen? ⟨b, 0, none⟩ = false ∧ W.frozen? ⟨b, 1, none⟩ = false ∧ W.frozen? ⟨b, 2, none⟩ = false ∧ W.frozen? ⟨b, 3, none⟩ = false
theorem FourF.new (W : World) (x p y q : Value) (T : TypeId) : FourF W.heap.size (W.alloc (.cells #[x, p, y, q] T)) x p y q := ⟨Four.new W x p y q T, by simp [go_sem], by simp [go_sem], by simp [go_sem], by simp [go_sem]⟩
theorem fourF_kept {b : Nat} {A B : World} {x p y q : Value} {row : Option Nat} (h : FourF b A x p y q) (hg : A.grownBy B row) (hr : ∀ r, row = some r → ∃ o : Obj, A.heap[r]? = some o ∧ o.isCells = false) : FourF b B x p y q := by
  obtain ⟨h0, h1, h2, h3, h4⟩ := h
  have k := h0
  obtain ⟨k0, k1, k2, k3⟩ := k
  exact ⟨four_kept h0 hg hr, (frozen_kept k0 hg hr).trans h1, (frozen_kept k1 hg hr).trans h2, (frozen_kept k2 hg hr).trans h3, (frozen_kept k3 hg hr).trans h4⟩
theorem FourF.alloc {b : Nat} {W : World} {x p y q : Value} (h : FourF b W x p y q) (o : Obj) : FourF b (W.alloc o) x p y q := fourF_kept h (World.grownBy_alloc W o none) (fun r e => by cases e)
theorem Four.below {b : Nat} {W W' : World} {x p y q : Value} (h : Four b W x p y q) (hb : Below W.heap.size W W') : Four b W' x p y q := by
  obtain ⟨h0, h1, h2, h3⟩ := h
  have hl := World.block_lt_of_cell? W _ h0
  exact ⟨((bcell hb).1 _ _ hl).trans h0, ((bcell hb).1 _ _ hl).trans h1, ((bcell hb).1 _ _ hl).trans h2, ((bcell hb).1 _ _ hl).trans h3⟩
theorem Four.alloc {b : Nat} {W : World} {x p y q : Value} (h : Four b W x p y q) (o : Obj) : Four b (W.alloc o) x p y q := h.below (bel_alloc (Below.refl _ _))
theorem FourF.below {b : Nat} {W W' : World} {x p y q : Value} (h : FourF b W x p y q) (hb : Below W.heap.size W W') : FourF b W' x p y q := by
  obtain ⟨h0, h1, h2, h3, h4⟩ := h
  have hl := World.block_lt_of_cell? W _ h0.1
  exact ⟨h0.below hb, ((bcell hb).2 _ _ hl).trans h1, ((bcell hb).2 _ _ hl).trans h2, ((bcell hb).2 _ _ hl).trans h3, ((bcell hb).2 _ _ hl).trans h4⟩
/-- four stores -/
def set4 (W : World) (b : Nat) (x p y q : Value) : World := (((W.setCell ⟨b, 0, none⟩ x).setCell ⟨b, 1, none⟩ p).setCell ⟨b, 2, none⟩ y).setCell ⟨b, 3, none⟩ q
theorem four_set {b : Nat} {W : World} {x p y q : Value} (h : Four b W x p y q) (u v w z : Value) : Four b (set4 W b u v w z) u v w z := by
  obtain ⟨h0, h1, h2, h3⟩ := h
  refine ⟨?_, ?_, ?_, ?_⟩
  · unfold set4
    rw [World.cell?_setCell_other _ _ _ _ (by simp), World.cell?_setCell_other _ _ _ _ (by simp), World.cell?_setCell_other _ _ _ _ (by simp), World.cell?_setCell_same _ _ _ h0]
  · unfold set4
    rw [World.cell?_setCell_other _ _ _ _ (by simp), World.cell?_setCell_other _ _ _ _ (by simp), World.cell?_setCell_same (u := p)]
    rw [World.cell?_setCell_other _ _ _ _ (by simp)]; exact h1
  · unfold set4
    rw [World.cell?_setCell_other _ _ _ _ (by simp), World.cell?_setCell_same (u := y)]
    rw [World.cell?_setCell_other _ _ _ _ (by simp), World.cell?_setCell_other _ _ _ _ (by simp)]; exact h2
  · unfold set4
    rw [World.cell?_setCell_same (u := q)]
    rw [World.cell?_setCell_other _ _ _ _ (by simp), World.cell?_setCell_other _ _ _ _ (by simp), World.cell?_setCell_other _ _ _ _ (by simp)]; exact h3
theorem keeps_set4 (W : World) (b : Nat) (x p y q : Value) : KeepsOthers W (set4 W b x p y q) :=
  (((KeepsOthers.setCell W ⟨b, 0, none⟩ x).trans (KeepsOthers.setCell _ ⟨b, 1, none⟩ p)).trans (KeepsOthers.setCell _ ⟨b, 2, none⟩ y)).trans (KeepsOthers.setCell _ ⟨b, 3, none⟩ q)
theorem bel_set4 {n₀ : Nat} {w W : World} (h : Below n₀ w W) (b : Nat) (hb : n₀ ≤ b) (x p y q : Value) : Below n₀ w (set4 W b x p y q) :=
  (((h.setCell (p := ⟨b, 0, none⟩) hb x).setCell (p := ⟨b, 1, none⟩) hb p).setCell (p := ⟨b, 2, none⟩) hb y).setCell (p := ⟨b, 3, none⟩) hb q
theorem four_apart {b g i : Nat} {W : World} {x p y q : Value} (h : Four b W x p y q) (u : Value) (hn : b ≠ g) : Four b (W.setCell ⟨g, i, none⟩ u) x p y q := by
  obtain ⟨h0, h1, h2, h3⟩ := h
  exact ⟨cell_apart _ h0 hn, cell_apart _ h1 hn, cell_apart _ h2 hn, cell_apart _ h3 hn⟩
theorem box_apart {b g i : Nat} {W : World} {t : TypeId} {v : Value} (h : Boxed W b t v) (hn : b ≠ g) (u : Value) : Boxed (W.setCell ⟨g, i, none⟩ u) b t v := by
  show (W.heap.modify g _)[b]? = _
  rw [Array.getElem?_modify, if_neg (fun e => hn e.symm)]
  exact h
theorem box_set4 {b g : Nat} {W : World} {t : TypeId} {v : Value} (h : Boxed W b t v) (hn : b ≠ g) (x p y q : Value) : Boxed (set4 W g x p y q) b t v :=
  box_apart (box_apart (box_apart (box_apart h hn x) hn p) hn y) hn q
theorem froz_set4 {b i g : Nat} {W : World} (h : W.frozen? ⟨b, i, none⟩ = false) (x p y q : Value) : (set4 W g x p y q).frozen? ⟨b, i, none⟩ = false := by
  unfold set4; simp only [World.frozen?_setCell]; exact h

set_option maxRecDepth 100000 in
set_option maxHeartbeats 8000000 in
theorem find_some (b off n cap : Nat) (l : List (Int × Int)) (x : Int) (i : Nat) (w : World) (n0 : 2 ≤ n) (n1 : n ≤ 1000) (hn : n = l.length) (hb : b < w.heap.size)
    (hc : Hid (∀ j, j < n → w.cell? ⟨b, off + j * 2, none⟩ = some (.int .i64 (gX l j)) ∧ w.cell? ⟨b, off + j * 2 + 1, none⟩ = some (.int .i64 (gR l j))))
    (hi : Hid (IsPc l x i)) :
    Calls Try.prog 35 #[.slice (some ⟨b, off, none⟩) n cap, .int .i64 x] w fun e w' => e = .returned (.tuple #[.agg #[.int .i64 (gX l (i - 1)), .int .i64 (gR l (i - 1)), .int .i64 (gX l i), .int .i64 (gR l i)], .int .i64 i]) ∧ Below w.heap.size w w' := by
  have HN := Lib.hid hn
  clear hn
  refine (callsIn_wide (n := 10)).1 ?_
  refine callsIn_of_wp_marks Try.func35 rfl trivial ?_ rfl
  simp only [Try.ntmps35, List.size_toArray, List.length_cons, List.length_nil, Nat.reduceAdd, Nat.reduceSub, Array.replicate_succ, Array.replicate_zero, List.push_toArray, List.append_toArray, List.nil_append, List.cons_append]
  gi_wp2_with fail
  refine ⟨trivial, (callsIn_wide.2 (pieces_any _ _ _ _)).mono ?_⟩
  rintro e w3 ⟨rfl, rfl⟩
  gi_wp2_with fail
  have BA : Hid (Boxed (w.alloc (.cells #[.int .i64 x] 3)) w.heap.size 3 (.int .i64 x)) := Boxed.new w 3 (.int .i64 x)
  have BP : Hid (FourF (w.heap.size + 1) ((w.alloc (.cells #[.int .i64 x] 3)).alloc (.cells #[.int .i64 0, .int .i64 0, .int .i64 0, .int .i64 0] 51)) (.int .i64 0) (.int .i64 0) (.int .i64 0) (.int .i64 0)) := by
    have := FourF.new (w.alloc (.cells #[.int .i64 x] 3)) (.int .i64 0) (.int .i64 0) (.int .i64 0) (.int .i64 0) 51
    rwa [World.size_alloc] at this
  have BI : Hid (Boxed (((w.alloc (.cells #[.int .i64 x] 3)).alloc (.cells #[.int .i64 0, .int .i64 0, .int .i64 0, .int .i64 0] 51)).alloc (.cells #[.int .i64 0] 3)) (w.heap.size + 1 + 1) 3 (.int .i64 0)) := by
    have := Boxed.new ((w.alloc (.cells #[.int .i64 x] 3)).alloc (.cells #[.int .i64 0, .int .i64 0, .int .i64 0, .int .i64 0] 51)) 3 (.int .i64 0)
    rwa [World.size_alloc, World.size_alloc] at this
  have BX : Hid (Boxed ((((w.alloc (.cells #[.int .i64 x] 3)).alloc (.cells #[.int .i64 0, .int .i64 0, .int .i64 0, .int .i64 0] 51)).alloc (.cells #[.int .i64 0] 3)).alloc (.cells #[.slice (some ⟨b, off, none⟩) n cap] 22)) (w.heap.size + 1 + 1 + 1) 22 (.slice (some ⟨b, off, none⟩) n cap)) := by
    have := Boxed.new (((w.alloc (.cells #[.int .i64 x] 3)).alloc (.cells #[.int .i64 0, .int .i64 0, .int .i64 0, .int .i64 0] 51)).alloc (.cells #[.int .i64 0] 3)) 22 (.slice (some ⟨b, off, none⟩) n cap)
    rwa [World.size_alloc, World.size_alloc, World.size_alloc] at this
  replace BA := Lib.hid (((BA.out.alloc (.cells #[.int .i64 0, .int .i64 0, .int .i64 0, .int .i64 0] 51)).alloc (.cells #[.int .i64 0] 3)).alloc (.cells #[.slice (some ⟨b, off, none⟩) n cap] 22))
  replace BP := Lib.hid ((BP.out.alloc (.cells #[.int .i64 0] 3)).alloc (.cells #[.slice (some ⟨b, off, none⟩) n cap] 22))
  replace BI := Lib.hid (BI.out.alloc (.cells #[.slice (some ⟨b, off, none⟩) n cap] 22))
  have X1 : Hid (Below w.heap.size w ((((w.alloc (.cells #[.int .i64 x] 3)).alloc (.cells #[.int .i64 0, .int .i64 0, .int .i64 0, .int .i64 0] 51)).alloc (.cells #[.int .i64 0] 3)).alloc (.cells #[.slice (some ⟨b, off, none⟩) n cap] 22))) := bel_alloc (bel_alloc (bel_alloc (bel_alloc (Below.refl _ _))))
  obtain ⟨W0, hW0⟩ : ∃ W0, ((((w.alloc (.cells #[.int .i64 x] 3)).alloc (.cells #[.int .i64 0, .int .i64 0, .int .i64 0, .int .i64 0] 51)).alloc (.cells #[.int .i64 0] 3)).alloc (.cells #[.slice (some ⟨b, off, none⟩) n cap] 22)) = W0 := ⟨_, rfl⟩
  have hsz : W0.heap.size = w.heap.size + 1 + 1 + 1 + 1 := by rw [← hW0]; simp
  rw [hW0] at BA BP BI BX X1 ⊢
  clear hW0
  have hl1 : ∀ j, j < n → W0.cell? ⟨b, off + j * 2, none⟩ = some (.int .i64 (gX l j)) ∧ W0.cell? ⟨b, off + j * 2 + 1, none⟩ = some (.int .i64 (gR l j)) := fun j hj => by rw [(bcell X1.out).1 _ _ hb, (bcell X1.out).1 _ _ hb]; exact hc.out j hj
  refine wpIn_rangeFunc_ownH rfl (by omega) (gf := 48) (lb := #[.pointer (some ⟨w.heap.size + 1 + 1 + 1, 0, none⟩)]) rfl trivial (enters_of Try.func48 (by kernel_rfl) rfl)
    (pieces_stops 9 (w.heap.size + 1 + 1 + 1) w.heap.size b off n cap l (by omega) (by omega) hb W0 X1.out.size BX.out.cell hl1) kpB_t (kpB_b X1.out.size) (Below.refl _ _) (fun _ => rfl)
    (fun pre W => (∀ j ∈ pre, gX l (j.val + 1) < x) ∧ Boxed W w.heap.size 3 (.int .i64 x) ∧ FourF (w.heap.size + 1) W (.int .i64 0) (.int .i64 0) (.int .i64 0) (.int .i64 0) ∧ Boxed W (w.heap.size + 1 + 1) 3 (.int .i64 0) ∧ Boxed W (w.heap.size + 1 + 1 + 1) 22 (.slice (some ⟨b, off, none⟩) n cap) ∧ Below w.heap.size w W)
    (fun c pre W => c = .ret ∧ (∃ pre' j, pre = pre' ++ [j] ∧ (∀ i ∈ pre', gX l (i.val + 1) < x) ∧ x ≤ gX l (j.val + 1) ∧ Four (w.heap.size + 1) W (.int .i64 (gX l j.val)) (.int .i64 (gR l j.val)) (.int .i64 (gX l (j.val + 1))) (.int .i64 (gR l (j.val + 1))) ∧ W.cell? ⟨w.heap.size + 1 + 1, 0, none⟩ = some (.int .i64 ((j.val : Int) + 1))) ∧ Below w.heap.size w W)
    (fun s A B row ⟨i1, i2, i3, i4, i5, i6⟩ hg hr => ⟨i1, box_kept i2 hg (fun r e => (hr r e).2), fourF_kept i3 hg (fun r e => (hr r e).2), box_kept i4 hg (fun r e => (hr r e).2), box_kept i5 hg (fun r e => (hr r e).2), ownFrom_below (β := Unit) (Nat.le_refl _) X1.out.size () A B row i6 hg hr⟩)
    (fun c s A B row ⟨i1, ⟨pre', j, h1, h2, h3, h4, h5⟩, i6⟩ hg hr => ⟨i1, ⟨pre', j, h1, h2, h3, four_kept h4 hg (fun r e => (hr r e).2), cell_kept h5 hg (fun r e => (hr r e).2)⟩, ownFrom_below (β := Unit) (Nat.le_refl _) X1.out.size () A B row i6 hg hr⟩)
    ⟨(fun j hj => by cases hj), BA.out, BP.out, BI.out, BX.out, X1.out⟩
    (fun y a' W => ∃ Bx : Nat, w.heap.size + 1 + 1 + 1 < Bx ∧ Four Bx W (.int .i64 (gX l y.val)) (.int .i64 (gR l y.val)) (.int .i64 (gX l (y.val + 1))) (.int .i64 (gR l (y.val + 1))) ∧ a' = { tmps := #[.slice (some ⟨b, off, none⟩) n cap, .int .i64 x, undef, .pointer (some ⟨w.heap.size, 0, none⟩), .pointer (some ⟨w.heap.size + 1, 0, none⟩), .pointer (some ⟨w.heap.size + 1 + 1, 0, none⟩), .int .i64 ((y.val : Int) + 1), .pointer (some ⟨Bx, 0, none⟩), .slice (some ⟨b, off, none⟩) n cap, .func (.func 48) #[] #[.pointer (some ⟨w.heap.size + 1 + 1 + 1, 0, none⟩)], .int .i64 ((y.val : Int) + 1), .agg #[.int .i64 (gX l y.val), .int .i64 (gR l y.val), .int .i64 (gX l (y.val + 1)), .int .i64 (gR l (y.val + 1))], undef, undef, undef, undef, undef, undef, undef, undef], defers := [] })
    (fun y a' _ A B row ⟨Bx, h1, h2, h3⟩ hg hr => ⟨Bx, h1, four_kept h2 hg (fun r e => (hr r e).2), h3⟩) ?assign ?body ?done ?stop
  case assign =>
    rintro lp pre y W K ⟨i1, i2, i3, i4, i5, i6⟩ hK
    dsimp only [encP]
    generalize gX l y.val = u at *
    generalize gR l y.val = p at *
    generalize gX l (y.val + 1) = v at *
    generalize gR l (y.val + 1) = q at *
    gi_wp2
    exact hK _ _ ((KeepsOthers.alloc _ _).from _) ⟨(Below.refl _ W).alloc i6.size _, fun v e => (cell_al _ e)⟩ ⟨i1, i2.alloc _, i3.alloc _, i4.alloc _, i5.alloc _, bA i6 _⟩ ⟨W.heap.size, i5.lt, Four.new _ _ _ _ _ _, rfl⟩
  case body =>
    rintro lp pre y aa W hlp ⟨rr, hrr⟩ ⟨i1, i2, i3, i4, i5, i6⟩ ⟨Bx, hBx, iX, rfl⟩ hlen
    have hyl := y.isLt
    have hcx := i2.cell
    have hci := i4.cell
    have hfi := i4.frozen
    have FF := Lib.hid iX
    by_cases hq : x ≤ gX l (y.val + 1)
    · have hq2 : Hid (x ≤ gX l (y.val + 1)) := hq
      have e1 : Hid (∀ (W' : World), Four (w.heap.size + 1) W' (.int .i64 (gX l y.val)) (.int .i64 (gR l y.val)) (.int .i64 (gX l (y.val + 1))) (.int .i64 (gR l (y.val + 1))) → W'.cell? ⟨w.heap.size + 1 + 1, 0, none⟩ = some (.int .i64 ((y.val : Int) + 1)) → ∃ pre' j, pre ++ [y] = pre' ++ [j] ∧ (∀ i ∈ pre', gX l (i.val + 1) < x) ∧ x ≤ gX l (j.val + 1) ∧ Four (w.heap.size + 1) W' (.int .i64 (gX l j.val)) (.int .i64 (gR l j.val)) (.int .i64 (gX l (j.val + 1))) (.int .i64 (gR l (j.val + 1))) ∧ W'.cell? ⟨w.heap.size + 1 + 1, 0, none⟩ = some (.int .i64 ((j.val : Int) + 1))) := fun W' h4 h5 => ⟨pre, y, rfl, i1, hq2.out, h4, h5⟩
      clear hq2
      generalize gX l y.val = u at *
      generalize gR l y.val = p at *
      generalize gX l (y.val + 1) = v at *
      generalize gR l (y.val + 1) = q at *
      obtain ⟨f0, f1, f2, f3⟩ := iX
      obtain ⟨⟨z0, z1, z2, z3⟩, zf0, zf1, zf2, zf3⟩ := i3
      gi_wp2
      refine ⟨((keeps_set4 W (w.heap.size + 1) (.int .i64 u) (.int .i64 p) (.int .i64 v) (.int .i64 q)).trans (KeepsOthers.setCell _ ⟨w.heap.size + 1 + 1, 0, none⟩ (.int .i64 ((y.val : Int) + 1)))).from _, rfl, e1.out _ ?_ ?_, (bel_set4 i6 (w.heap.size + 1) (by omega) _ _ _ _).setCell (p := ⟨w.heap.size + 1 + 1, 0, none⟩) (by show w.heap.size ≤ w.heap.size + 1 + 1; omega) _⟩
      · exact four_apart (four_set ⟨z0, z1, z2, z3⟩ _ _ _ _) _ (by omega)
      · exact World.cell?_setCell_same _ _ _ (box_set4 (g := w.heap.size + 1) i4 (by omega) (.int .i64 u) (.int .i64 p) (.int .i64 v) (.int .i64 q)).cell
    · have e1 : ∀ j ∈ pre ++ [y], gX l (j.val + 1) < x := fun j hj => by
        rcases List.mem_append.1 hj with h | h
        · exact i1 j h
        · rw [List.mem_singleton.1 h]; omega
      generalize gX l y.val = u at *
      generalize gR l y.val = p at *
      generalize gX l (y.val + 1) = v at *
      generalize gR l (y.val + 1) = q at *
      obtain ⟨f0, f1, f2, f3⟩ := iX
      gi_wp2
      exact ⟨(KeepsOthers.refl _).from _, kpB_refl _ _ _, e1, i2, i3, i4, i5, i6⟩
  case done =>
    rintro D ys W hD rfl ⟨i1, _⟩ hK
    exfalso
    have hp := hi.out
    have h2 := hp.h2
    have h1 := hp.h1
    rw [← HN.out] at h2
    have := i1 ⟨i - 1, by omega⟩ (by
      have hv := ups_val (m := n - 1) (Nat.le_refl _)
      have : i - 1 ∈ (ups (n - 1) (n - 1)).map (fun j => j.val) := by rw [hv]; exact List.mem_range.2 (by omega)
      obtain ⟨y, hy, he⟩ := List.mem_map.1 this
      have : y = ⟨i - 1, by omega⟩ := Fin.ext he
      rwa [this] at hy)
    simp only [show i - 1 + 1 = i by omega] at this
    have := hp.h3
    omega
  case stop =>
    rintro D cc pre W hD ⟨k, hk, hpre⟩ ⟨rfl, ⟨pre', j, hpj, h2, h3, h4, h5⟩, i6⟩ hK
    have hji : j.val + 1 = i := by
      have hv := ups_val hk
      rw [← hpre, hpj, List.map_append] at hv
      have hlen := congrArg List.length hv
      simp only [List.length_append, List.length_map, List.length_cons, List.length_nil, List.length_range] at hlen
      obtain ⟨k', rfl⟩ : ∃ k', k = k' + 1 := ⟨k - 1, by omega⟩
      rw [List.range_succ] at hv
      have hinj := List.append_inj hv (by simp; omega)
      have hj : j.val = k' := by have := hinj.2; simpa using this
      have hm : pre'.map (fun j => j.val) = List.range k' := hinj.1
      refine (IsPc.one (x := x) (l := l) ⟨by omega, ?_, h3, fun m m1 m2 => ?_⟩ hi.out)
      · have := j.isLt; have := HN.out; omega
      · have : m - 1 ∈ pre'.map (fun j => j.val) := by rw [hm]; exact List.mem_range.2 (by omega)
        obtain ⟨y, hy, he⟩ := List.mem_map.1 this
        have h := h2 y hy
        have he' : y.val = m - 1 := he
        rwa [show y.val + 1 = m by omega] at h
    have ei : ((j.val : Int) + 1) = (i : Int) := by omega
    obtain ⟨k0, k1, k2, k3⟩ := h4
    gi_wp2
    refine ⟨by simp, .inl ⟨_, _, rfl, run_takeDeferred hK, ?_⟩⟩
    have c0 := cell_kept k0 (grownBy_putObj' _ D (.deferred none)) (fun r e => by cases e; exact ⟨_, hK, rfl⟩)
    have c1 := cell_kept k1 (grownBy_putObj' _ D (.deferred none)) (fun r e => by cases e; exact ⟨_, hK, rfl⟩)
    have c2 := cell_kept k2 (grownBy_putObj' _ D (.deferred none)) (fun r e => by cases e; exact ⟨_, hK, rfl⟩)
    have c3 := cell_kept k3 (grownBy_putObj' _ D (.deferred none)) (fun r e => by cases e; exact ⟨_, hK, rfl⟩)
    have c4 := cell_kept h5 (grownBy_putObj' _ D (.deferred none)) (fun r e => by cases e; exact ⟨_, hK, rfl⟩)
    refine ⟨.tuple #[.agg #[.int .i64 (gX l j.val), .int .i64 (gR l j.val), .int .i64 (gX l (j.val + 1)), .int .i64 (gR l (j.val + 1))], .int .i64 ((j.val : Int) + 1)], ?_, by subst hji; simp, i6.trans (belowK_b (w := w) (Nat.le_refl _) _ D _ _ (by omega) hK rfl rfl)⟩
    simp [results, Try.results35, go_sem, c0, c1, c2, c3, c4]
end Go.Proofs.Ytlofblpfohnooab
