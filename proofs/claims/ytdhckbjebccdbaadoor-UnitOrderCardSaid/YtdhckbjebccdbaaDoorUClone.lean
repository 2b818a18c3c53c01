/- Copies of lists of quantities, and reversed ones. -/
import Derived.Test.YtdhckbjebccdbaaDoorUQs
import Derived.Test.YtdhckbjebccdbaaDoorShelfR
import Derived.Lib.OwnBridge
import Derived.OwnWalk
namespace Go.Proofs.YtdhckbjebccdbaaDoor
open Go.RowKit Go.Sort

/-- the cells of a list of quantities -/
def flat : List (Int × Int) → List Value
  | [] => []
  | q :: l => .int .i64 q.1 :: .int .i64 q.2 :: flat l
theorem flat_len (l : List (Int × Int)) : (flat l).length = l.length * 2 := by
  induction l with
  | nil => rfl
  | cons q l ih => simp only [flat, List.length_cons, ih]; omega
theorem flat_at (l : List (Int × Int)) (j : Nat) (h : j < l.length) : (flat l)[j * 2]? = some (.int .i64 (l.getD j (0, 0)).1) ∧ (flat l)[j * 2 + 1]? = some (.int .i64 (l.getD j (0, 0)).2) := by
  induction l generalizing j with
  | nil => simp at h
  | cons q l ih =>
    cases j with
    | zero => simp [flat]
    | succ j =>
      have := ih j (by simpa using h)
      rw [show (j + 1) * 2 = j * 2 + 1 + 1 by omega]
      simp only [flat, List.getElem?_cons_succ, List.getD_cons_succ]
      exact this
theorem flat_one (l : List (Int × Int)) : ∀ u ∈ flat l, u.oneCell' = true := by
  induction l with
  | nil => intro u h; cases h
  | cons q l ih =>
    intro u h
    simp only [flat, List.mem_cons] at h
    rcases h with rfl | rfl | h
    · rfl
    · rfl
    · exact ih u h
theorem flat_inv (l : List (Int × Int)) (j : Nat) (u : Value) (h : (flat l)[j]? = some u) : ∃ i, i < l.length ∧ ((j = i * 2 ∧ u = .int .i64 (l.getD i (0, 0)).1) ∨ (j = i * 2 + 1 ∧ u = .int .i64 (l.getD i (0, 0)).2)) := by
  have hj : j < (flat l).length := (List.getElem?_eq_some_iff.1 h).1
  rw [flat_len] at hj
  refine ⟨j / 2, by omega, ?_⟩
  have := flat_at l (j / 2) (by omega)
  rcases Nat.mod_two_eq_zero_or_one j with e | e
  · left
    have hj2 : j = j / 2 * 2 := by omega
    refine ⟨hj2, ?_⟩
    have h' := h
    rw [hj2, this.1] at h'
    exact (Option.some.inj h').symm
  · right
    have hj2 : j = j / 2 * 2 + 1 := by omega
    refine ⟨hj2, ?_⟩
    have h' := h
    rw [hj2, this.2] at h'
    exact (Option.some.inj h').symm

/-- a slice of the call's own holds the quantities -/
def Own2 (w : World) (B : Nat) (v : Value) (l : List (Int × Int)) : Prop := w.ownsRow B 23 2 v l.length (flat l)
theorem Own2.qs {w : World} {B : Nat} {v : Value} {l : List (Int × Int)} (h : Own2 w B v l) : Qs w v l := by
  have h' := h
  obtain ⟨_, h2⟩ := h
  rcases h2 with ⟨rfl, hn⟩ | ⟨g, cap, cur, rfl, hg, hh, hc, hm, hs, ht⟩
  · exact ⟨none, 0, by rw [hn], by omega, .inl hn⟩
  · have hlt : g < w.heap.size := by
      rcases Nat.lt_or_ge g w.heap.size with h | h
      · exact h
      · rw [Array.getElem?_eq_none h] at hh; cases hh
    unfold maxLen at hm
    refine ⟨_, cap, rfl, ⟨hc, by omega⟩, .inr ⟨g, 0, rfl, hlt, fun j hj => ?_⟩⟩
    have hcell := World.ownsRow.cells h' (g := g) rfl
    have hf := flat_at l j hj
    have c0 := hcell _ _ hf.1
    have c1 := hcell _ _ hf.2
    rw [Go.WideShapes.add_plain] at c0 c1
    exact ⟨c0, by rw [Nat.add_assoc]; exact c1⟩

theorem qty_info : (Tryd.prog.info? 23).map (fun i => (i.zero, i.size, i.bytes)) = some (some (.agg #[.int .i64 0, .int .i64 0]), 2, 16) := by kernel_rfl

set_option maxRecDepth 100000 in
set_option maxHeartbeats 2000000 in
theorem clone_some (ad : Addr) (n c : Nat) (news : List Value) (w : World) (hl : news.length = n * 2) (hn : n ≤ 1000)
    (hc : Hid (∀ j u, news[j]? = some u → (w.alloc (.cells #[] 23)).cell? (ad.add j) = some u)) (h1 : Hid (∀ u ∈ news, u.oneCell' = true)) :
    Calls Tryd.prog 22 #[.slice (some ad) n c] w fun e w' => ∃ v', e = .returned v' ∧ w'.ownsRow w.heap.size 23 2 v' n news ∧ v' ≠ .slice none 0 0 ∧ Below w.heap.size w w' := by
  obtain ⟨i0, hi0, hz0, hz1, hz2⟩ := info_parts qty_info
  have q22 : ∀ (w : World) (a : Option Addr) (n c n' c' : Nat), (binOp .eql 36 (.slice a n c) (.slice none n' c')).run Tryd.prog w = .ok (.bool a.isNone) w := fun w a n c n' c' => Lib.run_eql_slice_nil w _ _ a n c n' c' Tryd.underlying36
  go_enter Tryd.func22, Tryd.ntmps22
  go_wp2_with (at_builtin; refine wpList_append_own _ rfl _ _ 36 rfl w.heap.size 23 i0 (.agg #[.int .i64 0, .int .i64 0]) 2 16 Tryd.underlying36 hi0 hz0 hz1 hz2 rfl (by omega) _ _ _ rfl (World.ownsRow_made w #[] 0 (Nat.le_refl _) (Nat.zero_le _) (by simp)) ad n c news rfl ?qc1 ?qc2 ?qc3 ?qc4 ?qc5 ?qc6 ?_)
  case qc1 => exact hl
  case qc2 => exact hc.out
  case qc3 => exact h1.out
  case qc4 => rw [Nat.zero_add]; unfold maxLen; omega
  case qc5 => rw [Nat.zero_add]; omega
  case qc6 => simp
  intro v' w1 hown hgrow hnil
  have HO := Lib.hid hown
  have HG := Lib.hid hgrow
  have HN := Lib.hid hnil
  clear hown hgrow hnil hl
  go_wp2
  go_ret
  refine ⟨v', rfl, by simpa using HO.out, ?_, ?_⟩
  · exact HN.out
  · exact ((Below.refl _ w).alloc (Nat.le_refl _) _).grown HG.out (by simp) (by intro k hk; simp [Value.ownBlock] at hk; omega)
set_option maxRecDepth 100000 in
theorem clone_none (n c : Nat) (w : World) :
    Calls Tryd.prog 22 #[.slice none n c] w fun e w' => e = .returned (.slice none 0 0) ∧ w' = w := by
  have q22 : ∀ (w : World) (a : Option Addr) (n c n' c' : Nat), (binOp .eql 36 (.slice a n c) (.slice none n' c')).run Tryd.prog w = .ok (.bool a.isNone) w := fun w a n c n' c' => Lib.run_eql_slice_nil w _ _ a n c n' c' Tryd.underlying36
  go_enter Tryd.func22, Tryd.ntmps22
  go_wp2
  go_ret
  exact ⟨rfl, rfl⟩

/-- a copy reads as what it is copied from, and belongs to the call -/
theorem clone_q (v : Value) (l : List (Int × Int)) (w : World) (h : Qs w v l) (hn : l.length ≤ 1000) :
    Calls Tryd.prog 22 #[v] w fun e w' => ∃ u, e = .returned u ∧ Own2 w' w.heap.size u l ∧ Below w.heap.size w w' := by
  obtain ⟨a, c, rfl, hl, h⟩ := h
  cases a with
  | none =>
    rcases h with h | ⟨b, off, hx, _⟩
    · obtain rfl := List.length_eq_zero_iff.1 h
      refine (clone_none _ c w).mono fun _ w' g => ⟨_, g.1, ?_, by rw [g.2]; exact Below.refl _ _⟩
      rw [g.2]; exact World.ownsRow_nil _ _ _ _
    · cases hx
  | some ad =>
    refine (clone_some ad l.length c (flat l) w (flat_len l) hn ?_ (flat_one l)).mono fun _ w' ⟨u, g1, g2, _, g4⟩ => ⟨u, g1, g2, g4⟩
    intro j u hj
    rcases h with h | ⟨b, off, hx, hb, hc⟩
    · obtain rfl := List.length_eq_zero_iff.1 h
      simp [flat] at hj
    · obtain rfl := Option.some.inj hx
      obtain ⟨i, hi, ⟨rfl, rfl⟩ | ⟨rfl, rfl⟩⟩ := flat_inv l j u hj
      · rw [Go.WideShapes.add_plain, World.cell?_alloc_lt w _ _ hb]
        exact (hc i hi).1
      · rw [Go.WideShapes.add_plain, World.cell?_alloc_lt w _ _ hb, ← Nat.add_assoc]
        exact (hc i hi).2

/-! ### Reverse -/
def encQ (q : Int × Int) : List Value := [.int .i64 q.1, .int .i64 q.2]
theorem reverse_q (u : Value) (l : List (Int × Int)) (B : Nat) (w0 w : World) (h : Own2 w B u l) (hb : Below B w0 w) (hn : l.length ≤ 1000) :
    Calls Tryd.prog 27 #[u] w fun e w' => e = .returned (.tuple #[]) ∧ Qs w' u l.reverse ∧ Below B w0 w' := by
  by_cases h0 : l.length = 0
  · obtain rfl := List.length_eq_zero_iff.1 h0
    obtain ⟨a, cap, rfl, hl, _⟩ := h.qs
    refine (AnyQ.slices_Reverse_empty Tryd.reverseQ a cap w).mono fun _ w' g => ⟨g.1, ?_, by rw [g.2]; exact hb⟩
    rw [g.2]
    exact ⟨a, cap, rfl, hl, .inl rfl⟩
  · have h' := h
    obtain ⟨_, h2⟩ := h
    rcases h2 with ⟨rfl, hn0⟩ | ⟨g, cap, cur, rfl, hg, hh, hc, hm, hs, ht⟩
    · exact absurd hn0 h0
    · have hlt : g < w.heap.size := by
        rcases Nat.lt_or_ge g w.heap.size with h | h
        · exact h
        · rw [Array.getElem?_eq_none h] at hh; cases hh
      have hcell := World.ownsRow.cells h' (g := g) rfl
      have hH : HoldsK encQ 2 w g 0 l.toArray := by
        intro j hj
        rw [size_flatK] at hj
        have hj' : j < l.length * 2 := by simpa using hj
        refine ⟨?_, by simp [World.frozen?, hh]⟩
        rw [get_flatK _ _ _ _ hj, ← Go.WideShapes.add_plain]
        refine hcell j _ ?_
        have hf := flat_at l (j / 2) (by omega)
        have hgd : l.toArray[j / 2]! = l.getD (j / 2) (0, 0) := by
          rw [getElem!_pos l.toArray (j / 2) (by simp; omega), List.getD_eq_getElem?_getD, List.getElem?_eq_getElem (by omega)]; simp
        rw [hgd]
        rcases Nat.mod_two_eq_zero_or_one j with e | e
        · rw [e]
          have hj2 : j = j / 2 * 2 := by omega
          have := hf.1
          rw [← hj2] at this
          rw [this]; rfl
        · rw [e]
          have hj2 : j = j / 2 * 2 + 1 := by omega
          have := hf.2
          rw [← hj2] at this
          rw [this]; rfl
      have hr := AnyQ.slices_Reverse Tryd.reverseQ 2 Tryd.isAgg23 Tryd.sizeOf23 encQ (fun _ => rfl) (fun x v hv => by simp [encQ] at hv; rcases hv with rfl | rfl <;> rfl) g 0 cap l.toArray w hH (by simp; omega)
      rw [show l.toArray.size = l.length by simp] at hr
      refine hr.mono ?_
      rintro e w' ⟨rfl, n, rfl⟩
      refine ⟨rfl, ⟨_, cap, by rw [List.length_reverse], ?_, .inr ⟨g, 0, rfl, ?_, fun j hj => ?_⟩⟩, Lib.below_putRow hb hg⟩
      · rw [List.length_reverse]; unfold maxLen at hm; omega
      · show g < (putRow id (Sort.ahead w n) g 0 _).heap.size
        rw [size_putRow]; exact hlt
      · rw [List.length_reverse] at hj
        have hP := holdsK_putRowK encQ 2 (Sort.ahead w n) g 0 l.toArray l.toArray.reverse (holdsK_ahead encQ 2 w n g 0 _ hH) (by simp)
        have hgd : l.toArray.reverse[j]! = l.reverse.getD j (0, 0) := by
          rw [getElem!_pos l.toArray.reverse j (by simp; omega), List.getD_eq_getElem?_getD, List.getElem?_eq_getElem (by simp; omega)]; simp
        have p0 := (hP.cell (i := j) (c := 0) (by simp; omega) (by omega)).1
        have p1 := (hP.cell (i := j) (c := 1) (by simp; omega) (by omega)).1
        rw [hgd] at p0 p1
        exact ⟨p0, p1⟩
end Go.Proofs.YtdhckbjebccdbaaDoor
