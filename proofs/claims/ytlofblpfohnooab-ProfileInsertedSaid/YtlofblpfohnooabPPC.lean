/- Package profile: advances. -/
import Derived.Test.YtlofblpfohnooabPPB
import Derived.Laws.EntriesVeiled
namespace Go.Proofs.Ytlofblpfohnooab
open Go.RowKit Go.Shelf
attribute [local go_sem] Oper.semAt_some

/-- a block with four cells -/
def Four (b : Nat) (W : World) (x p y q : Value) : Prop := W.cell? ⟨b, 0, none⟩ = some x ∧ W.cell? ⟨b, 1, none⟩ = some p ∧ W.cell? ⟨b, 2, none⟩ = some y ∧ W.cell? ⟨b, 3, none⟩ = some q
theorem Four.new (W : World) (x p y q : Value) (T : TypeId) : Four W.heap.size (W.alloc (.cells #[x, p, y, q] T)) x p y q := ⟨by simp [go_sem], by simp [go_sem], by simp [go_sem], by simp [go_sem]⟩
theorem four_kept {b : Nat} {A B : World} {x p y q : Value} {row : Option Nat} (h : Four b A x p y q) (hg : A.grownBy B row) (hr : ∀ r, row = some r → ∃ o : Obj, A.heap[r]? = some o ∧ o.isCells = false) : Four b B x p y q := by
  obtain ⟨h0, h1, h2, h3⟩ := h
  exact ⟨cell_kept h0 hg hr, cell_kept h1 hg hr, cell_kept h2 hg hr, cell_kept h3 hg hr⟩

set_option maxRecDepth 100000 in
set_option maxHeartbeats 8000000 in
theorem advances_some (b off n cap : Nat) (l : List (Int × Int)) (A : Bool) (w : World) (n0 : 1 ≤ n) (n1 : n ≤ 1000) (hb : b < w.heap.size)
    (hc : Hid (∀ j, j < n → w.cell? ⟨b, off + j * 2, none⟩ = some (.int .i64 (gX l j)) ∧ w.cell? ⟨b, off + j * 2 + 1, none⟩ = some (.int .i64 (gR l j))))
    (h1 : Hid ((∀ j, j + 1 < n → gX l j < gX l (j + 1)) → A = (gX l 0 == 0))) (h2 : Hid ((∃ j, j + 1 < n ∧ ¬ gX l j < gX l (j + 1)) → A = false)) :
    Calls Try.prog 30 #[.slice (some ⟨b, off, none⟩) n cap] w fun e w' => e = .returned (.bool A) ∧ Below w.heap.size w w' := by
  refine (callsIn_wide (n := 10)).1 ?_
  refine callsIn_of_wp_marks Try.func30 rfl trivial ?_ rfl
  simp only [Try.ntmps30, List.size_toArray, List.length_cons, List.length_nil, Nat.reduceAdd, Nat.reduceSub, Array.replicate_succ, Array.replicate_zero, List.push_toArray, List.append_toArray, List.nil_append, List.cons_append]
  gi_wp2_with fail
  refine ⟨trivial, (callsIn_wide.2 (pieces_any _ _ _ _)).mono ?_⟩
  rintro e w3 ⟨rfl, rfl⟩
  gi_wp2_with fail
  have BO : Hid (Boxed (w.alloc (.cells #[.bool false] 4)) w.heap.size 4 (.bool false)) := Boxed.new w 4 (.bool false)
  have BX : Hid (Boxed ((w.alloc (.cells #[.bool false] 4)).alloc (.cells #[.slice (some ⟨b, off, none⟩) n cap] 22)) (w.heap.size + 1) 22 (.slice (some ⟨b, off, none⟩) n cap)) := by
    have := Boxed.new (w.alloc (.cells #[.bool false] 4)) 22 (.slice (some ⟨b, off, none⟩) n cap)
    rwa [World.size_alloc] at this
  replace BO := Lib.hid (BO.out.alloc (.cells #[.slice (some ⟨b, off, none⟩) n cap] 22))
  have X1 : Hid (Below w.heap.size w ((w.alloc (.cells #[.bool false] 4)).alloc (.cells #[.slice (some ⟨b, off, none⟩) n cap] 22))) := bel_alloc (bel_alloc (Below.refl _ _))
  obtain ⟨W0, hW0⟩ : ∃ W0, ((w.alloc (.cells #[.bool false] 4)).alloc (.cells #[.slice (some ⟨b, off, none⟩) n cap] 22)) = W0 := ⟨_, rfl⟩
  have hsz : W0.heap.size = w.heap.size + 1 + 1 := by rw [← hW0]; simp
  rw [hW0] at BO BX X1 ⊢
  clear hW0
  have hl1 : ∀ j, j < n → W0.cell? ⟨b, off + j * 2, none⟩ = some (.int .i64 (gX l j)) ∧ W0.cell? ⟨b, off + j * 2 + 1, none⟩ = some (.int .i64 (gR l j)) := fun j hj => by rw [(bcell X1.out).1 _ _ hb, (bcell X1.out).1 _ _ hb]; exact hc.out j hj
  refine wpIn_rangeFunc_ownH rfl (by omega) (gf := 48) (lb := #[.pointer (some ⟨w.heap.size + 1, 0, none⟩)]) rfl trivial (enters_of Try.func48 (by kernel_rfl) rfl)
    (pieces_stops 9 (w.heap.size + 1) w.heap.size b off n cap l (by omega) (by omega) hb W0 X1.out.size BX.out.cell hl1) kpB_t (kpB_b X1.out.size) (Below.refl _ _) (fun _ => rfl)
    (fun pre W => (∀ j ∈ pre, gX l j.val < gX l (j.val + 1)) ∧ Boxed W w.heap.size 4 (.bool false) ∧ Boxed W (w.heap.size + 1) 22 (.slice (some ⟨b, off, none⟩) n cap) ∧ Below w.heap.size w W)
    (fun c pre W => c = .ret ∧ (∃ j ∈ pre, ¬ gX l j.val < gX l (j.val + 1)) ∧ W.cell? ⟨w.heap.size, 0, none⟩ = some (.bool false) ∧ Below w.heap.size w W)
    (fun s A B row ⟨i1, i2, i3, i4⟩ hg hr => ⟨i1, i2.kept hg (fun e => by obtain ⟨o, h3, h4⟩ := (hr _ e.symm).2; rw [show A.heap[w.heap.size]? = _ from i2] at h3; cases h3; cases h4), i3.kept hg (fun e => by obtain ⟨o, h3, h4⟩ := (hr _ e.symm).2; rw [show A.heap[w.heap.size + 1]? = _ from i3] at h3; cases h3; cases h4), ownFrom_below (β := Unit) (Nat.le_refl _) X1.out.size () A B row i4 hg hr⟩)
    (fun c s A B row ⟨i1, i2, i3, i4⟩ hg hr => ⟨i1, i2, cell_kept i3 hg (fun r e => (hr r e).2), ownFrom_below (β := Unit) (Nat.le_refl _) X1.out.size () A B row i4 hg hr⟩)
    ⟨(fun j hj => by cases hj), BO.out, BX.out, X1.out⟩
    (fun x a' W => ∃ Bx : Nat, w.heap.size + 1 < Bx ∧ Four Bx W (.int .i64 (gX l x.val)) (.int .i64 (gR l x.val)) (.int .i64 (gX l (x.val + 1))) (.int .i64 (gR l (x.val + 1))) ∧ a' = { tmps := #[.slice (some ⟨b, off, none⟩) n cap, undef, .pointer (some ⟨w.heap.size, 0, none⟩), undef, .pointer (some ⟨Bx, 0, none⟩), .slice (some ⟨b, off, none⟩) n cap, .func (.func 48) #[] #[.pointer (some ⟨w.heap.size + 1, 0, none⟩)], .int .i64 ((x.val : Int) + 1), .agg #[.int .i64 (gX l x.val), .int .i64 (gR l x.val), .int .i64 (gX l (x.val + 1)), .int .i64 (gR l (x.val + 1))], undef, undef, undef, undef, undef, undef, undef, undef, undef, undef, undef, undef], defers := [] })
    (fun x a' _ A B row ⟨Bx, h1, h2, h3⟩ hg hr => ⟨Bx, h1, four_kept h2 hg (fun r e => (hr r e).2), h3⟩) ?assign ?body ?done ?stop
  case assign =>
    rintro lp pre x W K ⟨i1, i2, i3, i4⟩ hK
    dsimp only [encP]
    generalize gX l x.val = u at *
    generalize gR l x.val = p at *
    generalize gX l (x.val + 1) = v at *
    generalize gR l (x.val + 1) = q at *
    gi_wp2
    exact hK _ _ ((KeepsOthers.alloc _ _).from _) ⟨(Below.refl _ W).alloc i4.size _, fun v e => (cell_al _ e)⟩ ⟨i1, i2.alloc _, i3.alloc _, bA i4 _⟩ ⟨W.heap.size, i3.lt, Four.new _ _ _ _ _ _, rfl⟩
  case body =>
    rintro lp pre x aa W hlp ⟨rr, hrr⟩ ⟨i1, i2, i3, i4⟩ ⟨Bx, hBx, iX, rfl⟩ hlen
    have hxl := x.isLt
    by_cases hq : gX l x.val < gX l (x.val + 1)
    · have e1 : ∀ j ∈ pre ++ [x], gX l j.val < gX l (j.val + 1) := fun j hj => by
        rcases List.mem_append.1 hj with h | h
        · exact i1 j h
        · rw [List.mem_singleton.1 h]; exact hq
      generalize gX l x.val = u at *
      generalize gR l x.val = p at *
      generalize gX l (x.val + 1) = v at *
      generalize gR l (x.val + 1) = q at *
      obtain ⟨f0, f1, f2, f3⟩ := iX
      gi_wp2
      exact ⟨(KeepsOthers.refl _).from _, kpB_refl _ _ _, e1, i2, i3, i4⟩
    · have e1 : ∃ j ∈ pre ++ [x], ¬ gX l j.val < gX l (j.val + 1) := ⟨x, by simp, hq⟩
      generalize gX l x.val = u at *
      generalize gR l x.val = p at *
      generalize gX l (x.val + 1) = v at *
      generalize gR l (x.val + 1) = q at *
      obtain ⟨f0, f1, f2, f3⟩ := iX
      have hc2 := i2.cell
      have hf2 := i2.frozen
      gi_wp2
      exact ⟨(KeepsOthers.setCell _ _ _).from _, rfl, e1, World.cell?_setCell_same _ _ _ hc2, i4.setCell (p := ⟨w.heap.size, 0, none⟩) (Nat.le_refl _) _⟩
  case done =>
    rintro D ys W hD rfl ⟨i1, i2, i3, i4⟩ hK
    have hA := h1.out (fun j hj => i1 ⟨j, by omega⟩ (by
      have hv := ups_val (m := n - 1) (Nat.le_refl _)
      have : j ∈ (ups (n - 1) (n - 1)).map (fun j => j.val) := by rw [hv]; exact List.mem_range.2 (by omega)
      obtain ⟨y, hy, he⟩ := List.mem_map.1 this
      have : y = ⟨j, by omega⟩ := Fin.ext he
      rwa [this] at hy))
    have c0 : W.cell? ⟨b, off + 0 * 2, none⟩ = some (.int .i64 (gX l 0)) := by rw [(bcell i4).1 _ _ hb]; exact (hc.out 0 (by omega)).1
    rw [Nat.zero_mul, Nat.add_zero] at c0
    have hc2 := i2.cell
    have hf2 := i2.frozen
    subst hA
    obtain ⟨x0, hx0⟩ : ∃ x0, gX l 0 = x0 := ⟨_, rfl⟩
    rw [hx0] at c0
    cases hx : (x0 == 0) with
    | true =>
      gi_wp2
      have hK' := (KeepsOthers.setCell W ⟨w.heap.size, 0, none⟩ (.bool true)).same D _ hK rfl
      refine ⟨by simp, .inl ⟨_, _, rfl, run_takeDeferred hK', ?_⟩⟩
      have hc5 := cell_kept (World.cell?_setCell_same W ⟨w.heap.size, 0, none⟩ (.bool true) hc2) (grownBy_putObj' _ D (.deferred none)) (fun r e => by cases e; exact ⟨_, hK', rfl⟩)
      refine ⟨.bool true, ?_, by first | rfl | rw [hx0, hx], (i4.setCell (p := ⟨w.heap.size, 0, none⟩) (Nat.le_refl _) _).trans (belowK_b (w := w) (Nat.le_refl _) _ D _ _ (by omega) hK' rfl rfl)⟩
      simp [results, Try.results30, go_sem, hc5]
    | false =>
      gi_wp2
      have hK' := (KeepsOthers.setCell W ⟨w.heap.size, 0, none⟩ (.bool false)).same D _ hK rfl
      refine ⟨by simp, .inl ⟨_, _, rfl, run_takeDeferred hK', ?_⟩⟩
      have hc5 := cell_kept (World.cell?_setCell_same W ⟨w.heap.size, 0, none⟩ (.bool false) hc2) (grownBy_putObj' _ D (.deferred none)) (fun r e => by cases e; exact ⟨_, hK', rfl⟩)
      refine ⟨.bool false, ?_, by first | rfl | rw [hx0, hx], (i4.setCell (p := ⟨w.heap.size, 0, none⟩) (Nat.le_refl _) _).trans (belowK_b (w := w) (Nat.le_refl _) _ D _ _ (by omega) hK' rfl rfl)⟩
      simp [results, Try.results30, go_sem, hc5]
  case stop =>
    rintro D cc pre W hD _ ⟨rfl, ⟨j, _, hj⟩, i3, i4⟩ hK
    have hjl := j.isLt
    have hA := h2.out ⟨j.val, by omega, by omega⟩
    subst hA
    gi_wp2
    refine ⟨by simp, .inl ⟨_, _, rfl, run_takeDeferred hK, ?_⟩⟩
    have hc5 := cell_kept i3 (grownBy_putObj' _ D (.deferred none)) (fun r e => by cases e; exact ⟨_, hK, rfl⟩)
    refine ⟨.bool false, ?_, rfl, i4.trans (belowK_b (w := w) (Nat.le_refl _) _ D _ _ (by omega) hK rfl rfl)⟩
    simp [results, Try.results30, go_sem, hc5]
end Go.Proofs.Ytlofblpfohnooab
