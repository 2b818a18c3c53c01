/- Lots: values that read as lots; the first fault of lots. -/
import Derived.Test.YtfpdanjhlepckaaDoorMC
import Derived.Test.YtfpdanjhlepckaaDoorQuad
namespace Go.Proofs.YtfpdanjhlepckaaDoor
open Go.RowKit

structure Lt where
  id : Int
  al : Int
  ms : Int
  sh : List (Int × Int)
def zL : Lt := ⟨0, 0, 0, []⟩
def gL (l : List Lt) (j : Nat) : Lt := l.getD j zL
/-- the cells of a lot -/
def LtAt (w : World) (b off : Nat) (c : Lt) : Prop :=
  ∃ a cap, w.cell? ⟨b, off, none⟩ = some (.int .i64 c.id) ∧ w.cell? ⟨b, off + 1, none⟩ = some (.int .i64 c.al) ∧ w.cell? ⟨b, off + 2, none⟩ = some (.int .i64 c.ms) ∧ w.cell? ⟨b, off + 3, none⟩ = some (.slice a c.sh.length cap) ∧ Pts w (.slice a c.sh.length cap) c.sh
theorem LtAt.below {w w' : World} {b off : Nat} {c : Lt} (h : LtAt w b off c) (hlt : b < w.heap.size) (hb : Below w.heap.size w w') : LtAt w' b off c := by
  obtain ⟨a, cap, g0, g1, g2, g3, hp⟩ := h
  exact ⟨a, cap, by rw [(bcell hb).1 _ _ hlt]; exact g0, by rw [(bcell hb).1 _ _ hlt]; exact g1, by rw [(bcell hb).1 _ _ hlt]; exact g2, by rw [(bcell hb).1 _ _ hlt]; exact g3, hp.below hb⟩
/-- a slice reads as a list of lots -/
def Lts (w : World) (v : Value) (l : List Lt) : Prop :=
  ∃ a cap, v = .slice a l.length cap ∧ (l.length ≤ cap ∧ cap ≤ 9223372036854775807) ∧
    (l.length = 0 ∨ ∃ b off, a = some ⟨b, off, none⟩ ∧ b < w.heap.size ∧ ∀ j, j < l.length → LtAt w b (off + j * 4) (gL l j))
theorem Lts.below {w w' : World} {v : Value} {l : List Lt} (h : Lts w v l) (hb : Below w.heap.size w w') : Lts w' v l := by
  obtain ⟨a, cap, rfl, hl, h | ⟨b, off, rfl, hlt, hc⟩⟩ := h
  · exact ⟨a, cap, rfl, hl, .inl h⟩
  · exact ⟨_, cap, rfl, hl, .inr ⟨b, off, rfl, Nat.lt_of_lt_of_le hlt hb.size, fun j hj => (hc j hj).below hlt hb⟩⟩
theorem Lts.alloc {w : World} {v : Value} {l : List Lt} (h : Lts w v l) (o : Obj) : Lts (w.alloc o) v l := h.below (bel_alloc (Below.refl _ _))
theorem Lts.shape {W : World} {v : Value} {l : List Lt} (h : Lts W v l) : ∃ a cap, v = .slice a l.length cap ∧ l.length ≤ cap ∧ cap ≤ 9223372036854775807 := by
  obtain ⟨a, cap, e, ⟨h1, h2⟩, _⟩ := h
  exact ⟨a, cap, e, h1, h2⟩
theorem Lts.at {W : World} {a : Option Addr} {n cap : Nat} {l : List Lt} (h : Lts W (.slice a n cap) l) (h0 : 0 < n) : ∃ b off, a = some ⟨b, off, none⟩ ∧ b < W.heap.size ∧ n = l.length ∧ ∀ j, j < n → LtAt W b (off + j * 4) (gL l j) := by
  obtain ⟨a', cap', e, hl, hh⟩ := h
  simp only [Value.slice.injEq] at e
  obtain ⟨rfl, rfl, rfl⟩ := e
  rcases hh with hh | ⟨b, off, e, hb, hc⟩
  · omega
  · exact ⟨b, off, e, hb, rfl, hc⟩
theorem lts_nil (w : World) : Lts w (.slice none 0 0) [] := ⟨none, 0, rfl, by simp, .inl rfl⟩
/-! ### faults -/
def idB (n : Int) : Bool := decide (1 ≤ n) && decide (n ≤ 1073741824)
theorem idB_iff {n : Int} : idB n = true ↔ 1 ≤ n ∧ n ≤ 1073741824 := by simp [idB]
/-- the fill before a share -/
def pvF (s : List (Int × Int)) (k : Nat) : Int := if k = 0 then 0 else gX s (k - 1)
/-- a share is wrong -/
def shB (s : List (Int × Int)) (k : Nat) : Bool := !idB (gX s k) || decide (gX s k ≤ pvF s k) || decide (gR s k < 1) || decide (10737418240000 < gR s k)
theorem shB_false {s : List (Int × Int)} {k : Nat} : shB s k = false ↔ (1 ≤ gX s k ∧ gX s k ≤ 1073741824) ∧ pvF s k < gX s k ∧ 1 ≤ gR s k ∧ gR s k ≤ 10737418240000 := by
  simp only [shB, Bool.or_eq_false_iff, Bool.not_eq_false', idB_iff, decide_eq_false_iff_not]
  omega
/-- all shares are right, whatever there are -/
def shO (s : List (Int × Int)) : Bool := decide (fst (shB s) s.length = s.length)
theorem shO_iff {s : List (Int × Int)} : shO s = true ↔ ∀ k, k < s.length → shB s k = false := by
  unfold shO
  rw [decide_eq_true_eq]
  obtain ⟨s1, s2⟩ := fst_spec (shB s) s.length
  have le := fst_le (shB s) s.length
  constructor
  · intro e k hk; exact s1 k (by omega)
  · intro h
    rcases Nat.lt_or_ge (fst (shB s) s.length) s.length with g | g
    · have := s2 g; rw [h _ g] at this; cases this
    · omega
theorem shO_false {s : List (Int × Int)} (h : shO s = false) : ∃ k, k < s.length ∧ shB s k = true ∧ ∀ j, j < k → shB s j = false := by
  obtain ⟨s1, s2⟩ := fst_spec (shB s) s.length
  have le := fst_le (shB s) s.length
  have : fst (shB s) s.length ≠ s.length := by unfold shO at h; exact of_decide_eq_false h
  exact ⟨_, by omega, s2 (by omega), s1⟩
theorem shO_bd {s : List (Int × Int)} (h : shO s = true) (k : Nat) : 0 ≤ sm fM (s.take k) ∧ sm fM (s.take k) ≤ 10737418240000 * k := by
  have := sm_bd (f := fM) (c := 10737418240000) (s.take k) (fun q hq => by
    obtain ⟨i, hi, e⟩ := List.getElem_of_mem (List.mem_of_mem_take hq)
    have := (shB_false.1 (shO_iff.1 h i hi)).2.2
    unfold fM
    simp [gR, List.getD_eq_getElem?_getD, List.getElem?_eq_getElem hi, e] at this
    omega)
  have hl := List.length_take_le k s
  omega
/-- a liquid is plain and has a mass -/
def fiB (A M : Int) : Bool := plB A M && decide (0 < M)
def ltF (x : Lt) (bef : Int) : Int := if idB x.id = false then 2 else if x.id ≤ bef then 5 else if fiB x.al x.ms = false then 1 else if 32 < x.sh.length then 12 else if shO x.sh = false then 10 else if sm fM x.sh ≠ x.al then 14 else 0
/-- the ID before a lot -/
def pvI (l : List Lt) (k : Nat) : Int := if k = 0 then 0 else (gL l (k - 1)).id
def ltK (l : List Lt) : Nat := fst (fun k => ltF (gL l k) (pvI l k) != 0) l.length
def ltE (l : List Lt) : Int := if 32 < l.length then 8 else if ltK l < l.length then ltF (gL l (ltK l)) (pvI l (ltK l)) else 0
def ltI (l : List Lt) : Int := if 32 < l.length then -1 else if ltK l < l.length then (ltK l : Int) else -1
end Go.Proofs.YtfpdanjhlepckaaDoor

