/- Package proportion: giving out what is left. -/
import Derived.Test.YtlpngfngdigchaaSum
import Derived.Lib.Slices
import Derived.Deep.LoopGhost
namespace Go.Proofs.Ytlpngfngdigchaa
open Go.RowKit

/-! ### the place of the greatest number -/
theorem foldl_max (l : List Int) : ∀ a : Int, (l.foldl max a = a ∨ l.foldl max a ∈ l) ∧ a ≤ l.foldl max a ∧ ∀ x ∈ l, x ≤ l.foldl max a := by
  induction l with
  | nil => intro a; exact ⟨.inl rfl, Int.le_refl _, by simp⟩
  | cons z l ih =>
    intro a
    simp only [List.foldl_cons]
    obtain ⟨h1, h2, h3⟩ := ih (max a z)
    refine ⟨?_, by omega, ?_⟩
    · rcases h1 with h1 | h1
      · rw [h1]
        by_cases h : z ≤ a
        · exact .inl (by omega)
        · exact .inr (by rw [show max a z = z by omega]; exact List.mem_cons_self)
      · exact .inr (List.mem_cons_of_mem _ h1)
    · intro x hx
      rcases List.mem_cons.1 hx with rfl | hx
      · omega
      · exact h3 x hx
theorem maxOf_spec (zs : List Int) (h : zs ≠ []) : Lib.maxOf zs ∈ zs ∧ ∀ x ∈ zs, x ≤ Lib.maxOf zs := by
  cases zs with
  | nil => exact absurd rfl h
  | cons z l =>
    unfold Lib.maxOf
    simp only [List.headD_cons]
    obtain ⟨h1, h2, h3⟩ := foldl_max (z :: l) z
    refine ⟨?_, h3⟩
    rcases h1 with h1 | h1
    · rw [h1]; exact List.mem_cons_self
    · exact h1
theorem idxFrom_spec (x : Int) : ∀ (zs : List Int) (i : Nat), x ∈ zs → ∃ k : Nat, k < zs.length ∧ zs.getD k 0 = x ∧ Lib.idxFrom zs x i = ((i + k : Nat) : Int) ∧ ∀ j, j < k → zs.getD j 0 ≠ x
  | [], _, h => by cases h
  | z :: zs, i, h => by
    by_cases hz : z = x
    · exact ⟨0, by simp, by simp [hz], by simp [Lib.idxFrom, hz], by omega⟩
    · obtain ⟨k, h1, h2, h3, h4⟩ := idxFrom_spec x zs (i + 1) (by rcases List.mem_cons.1 h with h | h; exact absurd h.symm hz; exact h)
      refine ⟨k + 1, by simp; omega, by simpa using h2, ?_, ?_⟩
      · simp only [Lib.idxFrom, hz, if_false]
        rw [h3]; congr 1; omega
      · intro j hj
        cases j with
        | zero => simpa using hz
        | succ j => simpa using h4 j (by omega)

/-- the place of the greatest one of some numbers, the first one of equal ones -/
def pick (rs : List Int) : Nat := (Lib.idxOf rs (Lib.maxOf rs)).toNat
theorem pick_spec (rs : List Int) (h : rs ≠ []) : Lib.idxOf rs (Lib.maxOf rs) = (pick rs : Int) ∧ pick rs < rs.length ∧ rs.getD (pick rs) 0 = Lib.maxOf rs ∧ ∀ x ∈ rs, x ≤ rs.getD (pick rs) 0 := by
  obtain ⟨h1, h2⟩ := maxOf_spec rs h
  obtain ⟨k, k1, k2, k3, _⟩ := idxFrom_spec _ rs 0 h1
  have : pick rs = k := by unfold pick Lib.idxOf; rw [k3]; omega
  rw [this, k2]
  exact ⟨by unfold Lib.idxOf; rw [k3]; simp, k1, rfl, h2⟩

/-- one more is given out -/
def giveStep (p : List Int × List Int) : List Int × List Int := (p.1.set (pick p.2) (p.1.getD (pick p.2) 0 + 1), p.2.set (pick p.2) 0)
def give : Nat → List Int × List Int → List Int × List Int
  | 0, p => p
  | k + 1, p => giveStep (give k p)
theorem give_len (k : Nat) (p : List Int × List Int) : (give k p).1.length = p.1.length ∧ (give k p).2.length = p.2.length := by
  induction k with
  | zero => exact ⟨rfl, rfl⟩
  | succ k ih => simp [give, giveStep, ih]
theorem give_bd (k : Nat) (ps rs : List Int) (M : Int) (h : ∀ j, 0 ≤ ps.getD j 0 ∧ ps.getD j 0 ≤ M) : ∀ j, 0 ≤ (give k (ps, rs)).1.getD j 0 ∧ (give k (ps, rs)).1.getD j 0 ≤ M + k := by
  induction k with
  | zero => intro j; have := h j; simp only [give]; omega
  | succ k ih =>
    intro j
    simp only [give, giveStep]
    generalize pick (give k (ps, rs)).2 = i
    have hi := ih i
    have hj := ih j
    generalize (give k (ps, rs)).1 = l at *
    rw [List.getD_eq_getElem?_getD, List.getElem?_set]
    split
    · split
      · simp only [Option.getD_some]; omega
      · simp only [Option.getD_none]; omega
    · rw [← List.getD_eq_getElem?_getD]; omega

set_option maxHeartbeats 1000000 in
theorem giveOut_any (B gp gr n cp cr L : Nat) (ps rs : List Int) (w : World) (hne : gp ≠ gr) (hn : 0 < n) (hn2 : n ≤ 1000) (hL : L ≤ 1000) (hp : Own w B gp n cp ps) (hr : Own w B gr n cr rs)
    (hb : ∀ j, 0 ≤ ps.getD j 0 ∧ ps.getD j 0 ≤ 128849018880000) :
    Calls Try.prog 36 #[.int .i64 L, .slice (some ⟨gp, 0, none⟩) n cp, .slice (some ⟨gr, 0, none⟩) n cr] w fun e w' => e = .returned (.tuple #[]) ∧ Own w' B gp n cp (give L (ps, rs)).1 ∧ Below B w w' := by
  have HB := Lib.hid (fun k => give_bd k ps rs _ hb)
  have HP := Lib.hid hp
  have HR := Lib.hid hr
  clear hp hr hb
  go_enter Try.func36, Try.ntmps36
  go_wp2_with fail
  go_loopw [8] (fun i wr => ∃ k : Nat, k ≤ L ∧ i = .int .i64 k ∧ Hid (Own wr B gp n cp (give k (ps, rs)).1) ∧ Hid (Own wr B gr n cr (give k (ps, rs)).2) ∧ Hid (Below B w wr)) (fun i _ => L - (intOf i).toNat)
  case atStart => exact ⟨0, Nat.zero_le _, rfl, HP, HR, Below.refl _ _⟩
  case round =>
    obtain ⟨k, hk, rfl, h1, h2, h3⟩ := hrel
    by_cases hlt : k < L
    · have hl2 := h2.out.len
      obtain ⟨e1, e2, _, _⟩ := pick_spec (give k (ps, rs)).2 (by intro h; rw [h] at hl2; simp at hl2; omega)
      have hc : ∀ j, j < (give k (ps, rs)).2.length → wr.cell? ⟨gr, 0 + j, none⟩ = some (.int .i64 ((give k (ps, rs)).2.getD j 0)) := fun j hj => by rw [Nat.zero_add]; exact h2.out.cell j (by omega)
      have HM := Lib.hid (Try.slices_Max_int gr 0 n cr (give k (ps, rs)).2 wr hn (by omega) (by omega) hc)
      have HI := Lib.hid (Try.slices_Index_int gr 0 n cr (give k (ps, rs)).2 (Lib.maxOf (give k (ps, rs)).2) wr (by omega) (by omega) hc)
      have HT : Hid ((give k (ps, rs)).2.take n = (give k (ps, rs)).2) := by show _ = _; exact List.take_of_length_le (by omega)
      have HG := Lib.hid (show give (k + 1) (ps, rs) = giveStep (give k (ps, rs)) from rfl)
      have hbk := HB.out k (pick (give k (ps, rs)).2)
      obtain ⟨b0, b1⟩ := hbk
      have c1 := h1.out.cell (pick (give k (ps, rs)).2) (by omega)
      have f1 := World.ownsRow.frozenAt h1.out (pick (give k (ps, rs)).2)
      have c2 := h2.out.cell (pick (give k (ps, rs)).2) (by omega)
      have f2 := World.ownsRow.frozenAt h2.out (pick (give k (ps, rs)).2)
      have lp := h1.out.lt.1
      have lr := h2.out.lt.1
      have HG1 : Hid ((give (k + 1) (ps, rs)).1 = (give k (ps, rs)).1.set (pick (give k (ps, rs)).2) ((give k (ps, rs)).1.getD (pick (give k (ps, rs)).2) 0 + 1)) := rfl
      have HG2 : Hid ((give (k + 1) (ps, rs)).2 = (give k (ps, rs)).2.set (pick (give k (ps, rs)).2) 0) := rfl
      have ilt : pick (give k (ps, rs)).2 < n := by omega
      have E1 := Lib.hid e1
      clear e1 hc HG e2 hl2
      generalize pick (give k (ps, rs)).2 = i at *
      generalize (give k (ps, rs)).1.getD i 0 = p at *
      generalize (give k (ps, rs)).2.getD i 0 = q at *
      have S1 := Lib.hid ((h1.out.set i (p + 1)).other ⟨gr, i, none⟩ (by simp; omega) (.int .i64 0))
      have S2 := Lib.hid ((h2.out.other ⟨gp, i, none⟩ hne (.int .i64 (p + 1))).set i 0)
      have S3 := Lib.hid ((h3.out.setCell (p := ⟨gp, i, none⟩) lp (.int .i64 (p + 1))).setCell (p := ⟨gr, i, none⟩) lr (.int .i64 0))
      go_wp2_with fail
      refine HM.out.mono ?_
      rw [HT.out]
      rintro e w1 ⟨rfl, hw⟩
      subst hw
      go_wp2_with fail
      refine HI.out.mono ?_
      rw [HT.out, E1.out]
      rintro e w2 ⟨rfl, hw⟩
      subst hw
      go_wp2
      go_roundw
      case rel => exact ⟨k + 1, by omega, by go_num, by rw [HG1.out]; exact S1, by rw [HG2.out]; exact S2, S3⟩
      case measure => simp [intOf]; omega
    · obtain rfl : k = L := by omega
      go_wp2
      go_end0
      exact ⟨rfl, h1.out, h3.out⟩

end Go.Proofs.Ytlpngfngdigchaa
