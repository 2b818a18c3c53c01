/- Texts that the proofs of this seat share, one behind the other: Quad, CKL, CTX, CPL, RWD, RWE, CLW, TailIn, CLN, RWF, PKept, RWC, RXA, RXB, RXW, RXO, RXC, RXD, RXF, RBK, RBL. -/
import Derived.Test.YtdjlainhaoaeiaaDoorM1
import Derived.Lib.AppendIntMem
import Derived.Lib.ItoaLen
import Derived.Laws.Concat
import Derived.BigQuiet
import Derived.Test.YtdjlainhaoaeiaaDoorShelf
import Derived.RangeFuncNested
import Derived.RangeFuncCalls
import Derived.RangeFuncBox
import Derived.StillTail
import Derived.StillTactics
import Derived.OrdersIn
import Derived.TacticsIn
import Derived.RangeFuncBound
import Derived.RangeFuncLeaves
import Derived.Shelf.Abstract
import Derived.OwnWalkIn
import Derived.TacticsInMore
import Derived.LoopIn
import Derived.Laws.EntriesVeiled
import Derived.Deep.RegionHeld3
import Derived.Test.YtdjlainhaoaeiaaDoorRows
import Derived.ProofKit
import Derived.OpenShut
import Derived.ShutString
import Derived.ChangeOld
import Derived.Lib.SmallJoins
import Derived.MakeChecks
import Derived.Deep.Slices
import Derived.Deep.Fields
import Derived.ChangeSame
import Derived.Deep.SlicePairs
import Derived.Lib.LaidTab
import Derived.OneCell
import Derived.HandedShaped
import Derived.Deep.RegionLaw

set_option linter.unusedVariables false
set_option linter.unusedSimpArgs false

/- A block with four cells. -/
namespace Go.Proofs.YtdjlainhaoaeiaaDoor
open Go.RowKit

def Quad (b : Nat) (W : World) (x y z u : Value) : Prop := W.cell? ⟨b, 0, none⟩ = some x ∧ W.cell? ⟨b, 1, none⟩ = some y ∧ W.cell? ⟨b, 2, none⟩ = some z ∧ W.cell? ⟨b, 3, none⟩ = some u ∧ (∀ k, k < 4 → W.frozen? ⟨b, k, none⟩ = false) ∧ b < W.heap.size
theorem Quad.below {b : Nat} {W W' : World} {x y z u : Value} (h : Quad b W x y z u) (hb : Below W.heap.size W W') : Quad b W' x y z u := by
  obtain ⟨h0, h1, h2, h3, h4, h5⟩ := h
  exact ⟨by rw [(bcell hb).1 _ _ h5]; exact h0, by rw [(bcell hb).1 _ _ h5]; exact h1, by rw [(bcell hb).1 _ _ h5]; exact h2, by rw [(bcell hb).1 _ _ h5]; exact h3, fun k hk => by rw [(bcell hb).2 _ _ h5]; exact h4 k hk, Nat.lt_of_lt_of_le h5 hb.size⟩
theorem Quad.alloc {b : Nat} {W : World} {x y z u : Value} (h : Quad b W x y z u) (o : Obj) : Quad b (W.alloc o) x y z u := h.below (bel_alloc (Below.refl _ _))
theorem Quad.new (W : World) (x y z u : Value) (T : TypeId) : Quad W.heap.size (W.alloc (.cells #[x, y, z, u] T)) x y z u :=
  ⟨by simp [go_sem], by simp [go_sem], by simp [go_sem], by simp [go_sem], fun k _ => by simp [go_sem], by simp⟩
theorem quad_read (w : World) (b : Nat) (x y z u : Value) {a0 a1 a2 a3 : Value} (h0 : w.cell? ⟨b, 0, none⟩ = some a0) (h1 : w.cell? ⟨b, 1, none⟩ = some a1) (h2 : w.cell? ⟨b, 2, none⟩ = some a2) (h3 : w.cell? ⟨b, 3, none⟩ = some a3) :
    ((((w.setCell ⟨b, 0, none⟩ x).setCell ⟨b, 1, none⟩ y).setCell ⟨b, 2, none⟩ z).setCell ⟨b, 3, none⟩ u).cell? ⟨b, 0, none⟩ = some x ∧ ((((w.setCell ⟨b, 0, none⟩ x).setCell ⟨b, 1, none⟩ y).setCell ⟨b, 2, none⟩ z).setCell ⟨b, 3, none⟩ u).cell? ⟨b, 1, none⟩ = some y ∧ ((((w.setCell ⟨b, 0, none⟩ x).setCell ⟨b, 1, none⟩ y).setCell ⟨b, 2, none⟩ z).setCell ⟨b, 3, none⟩ u).cell? ⟨b, 2, none⟩ = some z ∧ ((((w.setCell ⟨b, 0, none⟩ x).setCell ⟨b, 1, none⟩ y).setCell ⟨b, 2, none⟩ z).setCell ⟨b, 3, none⟩ u).cell? ⟨b, 3, none⟩ = some u := by
  have o : ∀ (W : World) (i j : Nat) (v : Value), i ≠ j → (W.setCell ⟨b, j, none⟩ v).cell? ⟨b, i, none⟩ = W.cell? ⟨b, i, none⟩ := fun W i j v h => World.cell?_setCell_other _ _ _ _ (by simp)
  refine ⟨?_, ?_, ?_, ?_⟩
  · rw [o _ 0 3 _ (by decide), o _ 0 2 _ (by decide), o _ 0 1 _ (by decide)]; exact World.cell?_setCell_same _ _ _ h0
  · rw [o _ 1 3 _ (by decide), o _ 1 2 _ (by decide)]; exact World.cell?_setCell_same (u := a1) _ _ _ (by rw [o _ 1 0 _ (by decide)]; exact h1)
  · rw [o _ 2 3 _ (by decide)]; exact World.cell?_setCell_same (u := a2) _ _ _ (by rw [o _ 2 1 _ (by decide), o _ 2 0 _ (by decide)]; exact h2)
  · exact World.cell?_setCell_same (u := a3) _ _ _ (by rw [o _ 3 2 _ (by decide), o _ 3 1 _ (by decide), o _ 3 0 _ (by decide)]; exact h3)
end Go.Proofs.YtdjlainhaoaeiaaDoor

/- Casks: names, values that read as casks, the first fault of a cask. -/
namespace Go.Proofs.YtdjlainhaoaeiaaDoor
open Go.RowKit

structure Ck where
  nm : ByteArray
  ps : Int
  pf : List (Int × Int)
  dc : Int

/-- a letter of a name -/
def nmC (c : UInt8) : Bool := decide (97 ≤ c.toNat ∧ c.toNat ≤ 122) || decide (65 ≤ c.toNat ∧ c.toNat ≤ 90) || decide (48 ≤ c.toNat ∧ c.toNat ≤ 57) || decide (c.toNat = 45) || decide (c.toNat = 46)
theorem nmC_iff (c : UInt8) : nmC c = true ↔ (97 ≤ c.toNat ∧ c.toNat ≤ 122) ∨ (65 ≤ c.toNat ∧ c.toNat ≤ 90) ∨ (48 ≤ c.toNat ∧ c.toNat ≤ 57) ∨ c.toNat = 45 ∨ c.toNat = 46 := by
  simp [nmC, or_assoc]
/-- a name -/
def isNm (s : ByteArray) : Bool := s.data.toList.all nmC && decide (1 ≤ s.size) && decide (s.size ≤ 64)
theorem all_snoc {p : UInt8 → Bool} (l : List UInt8) (c : UInt8) : (l ++ [c]).all p = (l.all p && p c) := by simp
theorem all_take {p : UInt8 → Bool} (s : ByteArray) (k : Nat) (h : k < s.size) (hd : p s[k] = false) : s.data.toList.all p = false := by
  rw [Bool.eq_false_iff]; intro hall
  rw [List.all_eq_true] at hall
  have hm : s[k] ∈ s.data.toList := by
    show s.data[k] ∈ s.data.toList
    exact List.getElem_mem (l := s.data.toList) (by simpa using h)
  rw [hall _ hm] at hd; cases hd
/-- the first fault of a cask -/
def ccE (c : Ck) : Int :=
  if isNm c.nm = true then (if (c.ps ≠ 1 ∧ c.ps ≠ 2) ∨ c.dc < 0 ∨ 1073741824 < c.dc then 2 else ckE c.pf) else 4
/-- a value reads as a cask -/
def CkV (w : World) (v : Value) (c : Ck) : Prop :=
  ∃ a cap, v = .agg #[.string c.nm, .int .i64 c.ps, .slice a c.pf.length cap, .int .i64 c.dc] ∧ Pts w (.slice a c.pf.length cap) c.pf ∧ c.nm.size ≤ 9223372036854775807 ∧ (-9223372036854775808 ≤ c.ps ∧ c.ps ≤ 9223372036854775807) ∧ (-9223372036854775808 ≤ c.dc ∧ c.dc ≤ 9223372036854775807)
theorem CkV.below {w w' : World} {v : Value} {c : Ck} (h : CkV w v c) (hb : Below w.heap.size w w') : CkV w' v c := by
  obtain ⟨a, cap, e, hp, r⟩ := h
  exact ⟨a, cap, e, hp.below hb, r⟩
theorem CkV.alloc {w : World} {v : Value} {c : Ck} (h : CkV w v c) (o : Obj) : CkV (w.alloc o) v c := h.below (bel_alloc (Below.refl _ _))
/-- a slice reads as a list of casks -/
def Cks (w : World) (v : Value) (l : List Ck) : Prop :=
  ∃ a cap, v = .slice a l.length cap ∧ (l.length ≤ cap ∧ cap ≤ 9223372036854775807) ∧
    (l.length = 0 ∨ ∃ b off, a = some ⟨b, off, none⟩ ∧ b < w.heap.size ∧ ∀ j (hj : j < l.length), ∃ x0 x1 x2 x3, w.cell? ⟨b, off + j * 4, none⟩ = some x0 ∧ w.cell? ⟨b, off + j * 4 + 1, none⟩ = some x1 ∧ w.cell? ⟨b, off + j * 4 + 2, none⟩ = some x2 ∧ w.cell? ⟨b, off + j * 4 + 3, none⟩ = some x3 ∧ CkV w (.agg #[x0, x1, x2, x3]) l[j])
theorem Cks.below {w w' : World} {v : Value} {l : List Ck} (h : Cks w v l) (hb : Below w.heap.size w w') : Cks w' v l := by
  obtain ⟨a, cap, rfl, hl, h | ⟨b, off, rfl, hlt, hc⟩⟩ := h
  · exact ⟨a, cap, rfl, hl, .inl h⟩
  · refine ⟨_, cap, rfl, hl, .inr ⟨b, off, rfl, Nat.lt_of_lt_of_le hlt hb.size, fun j hj => ?_⟩⟩
    obtain ⟨x0, x1, x2, x3, g0, g1, g2, g3, g⟩ := hc j hj
    exact ⟨x0, x1, x2, x3, by rw [(bcell hb).1 _ _ hlt]; exact g0, by rw [(bcell hb).1 _ _ hlt]; exact g1, by rw [(bcell hb).1 _ _ hlt]; exact g2, by rw [(bcell hb).1 _ _ hlt]; exact g3, g.below hb⟩
theorem Cks.alloc {w : World} {v : Value} {l : List Ck} (h : Cks w v l) (o : Obj) : Cks (w.alloc o) v l := h.below (bel_alloc (Below.refl _ _))
theorem Cks.shape {W : World} {v : Value} {l : List Ck} (h : Cks W v l) : ∃ a cap, v = .slice a l.length cap ∧ l.length ≤ cap ∧ cap ≤ 9223372036854775807 := by
  obtain ⟨a, cap, e, ⟨h1, h2⟩, _⟩ := h
  exact ⟨a, cap, e, h1, h2⟩
/-- the casks' cells, written out -/
def CkAt (w : World) (b off j : Nat) (c : Ck) : Prop :=
  ∃ a cap, w.cell? ⟨b, off + j * 4, none⟩ = some (.string c.nm) ∧ w.cell? ⟨b, off + j * 4 + 1, none⟩ = some (.int .i64 c.ps) ∧ w.cell? ⟨b, off + j * 4 + 2, none⟩ = some (.slice a c.pf.length cap) ∧ w.cell? ⟨b, off + j * 4 + 3, none⟩ = some (.int .i64 c.dc) ∧ Pts w (.slice a c.pf.length cap) c.pf ∧ c.nm.size ≤ 9223372036854775807 ∧ (-9223372036854775808 ≤ c.ps ∧ c.ps ≤ 9223372036854775807) ∧ (-9223372036854775808 ≤ c.dc ∧ c.dc ≤ 9223372036854775807)
theorem CkAt.below {w w' : World} {b off j : Nat} {c : Ck} (h : CkAt w b off j c) (hlt : b < w.heap.size) (hb : Below w.heap.size w w') : CkAt w' b off j c := by
  obtain ⟨a, cap, g0, g1, g2, g3, hp, r⟩ := h
  exact ⟨a, cap, by rw [(bcell hb).1 _ _ hlt]; exact g0, by rw [(bcell hb).1 _ _ hlt]; exact g1, by rw [(bcell hb).1 _ _ hlt]; exact g2, by rw [(bcell hb).1 _ _ hlt]; exact g3, hp.below hb, r⟩
theorem Cks.cks {W : World} {v : Value} {l : List Ck} (h : Cks W v l) (h0 : 0 < l.length) : ∃ b off cap, v = .slice (some ⟨b, off, none⟩) l.length cap ∧ b < W.heap.size ∧ (l.length ≤ cap ∧ cap ≤ 9223372036854775807) ∧ ∀ j (hj : j < l.length), CkAt W b off j l[j] := by
  obtain ⟨a, cap, rfl, hl, h | ⟨b, off, rfl, hlt, hc⟩⟩ := h
  · omega
  · refine ⟨b, off, cap, rfl, hlt, hl, fun j hj => ?_⟩
    obtain ⟨x0, x1, x2, x3, g0, g1, g2, g3, a, c, e, r⟩ := hc j hj
    simp only [Value.agg.injEq, Array.mk.injEq, List.cons.injEq, and_true] at e
    obtain ⟨rfl, rfl, rfl, rfl⟩ := e
    exact ⟨a, c, g0, g1, g2, g3, r⟩
theorem cks_nil (w : World) : Cks w (.slice none 0 0) [] := ⟨none, 0, rfl, by simp, .inl rfl⟩
/-- no cask -/
def zCk : Ck := ⟨ByteArray.empty, 0, [], 0⟩
end Go.Proofs.YtdjlainhaoaeiaaDoor

/- Plain facts of the texts of casks: words, numbers, lines. No program stands in this text. -/
namespace Go.Proofs.YtdjlainhaoaeiaaDoor

/-! ### parts of a text -/
def stp (d : UInt8) (st : List (List UInt8) × List UInt8) (x : UInt8) : List (List UInt8) × List UInt8 := if x = d then (st.1 ++ [st.2], []) else (st.1, st.2 ++ [x])
def fl (d : UInt8) (st : List (List UInt8) × List UInt8) (s : List UInt8) : List (List UInt8) × List UInt8 := s.foldl (stp d) st
theorem fl_snoc (d : UInt8) (st : List (List UInt8) × List UInt8) (s : List UInt8) (x : UInt8) : fl d st (s ++ [x]) = stp d (fl d st s) x := by unfold fl; rw [List.foldl_append]; rfl
theorem fl_app (d : UInt8) (st : List (List UInt8) × List UInt8) (s t : List UInt8) : fl d st (s ++ t) = fl d (fl d st s) t := by unfold fl; rw [List.foldl_append]
theorem fl_no {d : UInt8} {w : List UInt8} (h : d ∉ w) (o : List (List UInt8)) (c : List UInt8) : fl d (o, c) w = (o, c ++ w) := by
  induction w generalizing c with
  | nil => simp [fl]
  | cons x w ih =>
    have hx : x ≠ d := fun e => h (by rw [e]; simp)
    have hw : d ∉ w := fun e => h (by simp [e])
    show fl d (stp d (o, c) x) w = _
    unfold stp
    rw [if_neg hx, ih hw]
    simp
theorem fl_sep {d : UInt8} {w : List UInt8} (h : d ∉ w) (o : List (List UInt8)) (c s : List UInt8) : fl d (o, c) (w ++ d :: s) = fl d (o ++ [c ++ w], []) s := by
  rw [fl_app, fl_no h]
  show fl d (stp d (o, c ++ w) d) s = _
  unfold stp
  rw [if_pos rfl]
theorem fl_join (d : UInt8) (s : List UInt8) : ∀ (o : List (List UInt8)) (c : List UInt8), (fl d (o, c) s).1.flatMap (· ++ [d]) ++ (fl d (o, c) s).2 = o.flatMap (· ++ [d]) ++ c ++ s := by
  induction s with
  | nil => intro o c; simp [fl]
  | cons x s ih =>
    intro o c
    show (fl d (stp d (o, c) x) s).1.flatMap (· ++ [d]) ++ (fl d (stp d (o, c) x) s).2 = _
    unfold stp
    by_cases e : x = d
    · rw [if_pos e, ih, e]; simp
    · rw [if_neg e, ih]; simp
theorem fl_clean (d : UInt8) (s : List UInt8) : ∀ (o : List (List UInt8)) (c : List UInt8), (∀ w ∈ o, d ∉ w) → d ∉ c → (∀ w ∈ (fl d (o, c) s).1, d ∉ w) ∧ d ∉ (fl d (o, c) s).2 := by
  induction s with
  | nil => intro o c h1 h2; exact ⟨h1, h2⟩
  | cons x s ih =>
    intro o c h1 h2
    show (∀ w ∈ (fl d (stp d (o, c) x) s).1, d ∉ w) ∧ d ∉ (fl d (stp d (o, c) x) s).2
    unfold stp
    by_cases e : x = d
    · rw [if_pos e]
      refine ih _ _ (fun w hw => ?_) (by simp)
      rcases List.mem_append.1 hw with hw | hw
      · exact h1 w hw
      · rw [List.mem_singleton] at hw; rw [hw]; exact h2
    · rw [if_neg e]
      refine ih _ _ h1 (fun hc => ?_)
      rcases List.mem_append.1 hc with hc | hc
      · exact h2 hc
      · rw [List.mem_singleton] at hc; exact e hc.symm
/-- words with blanks between them -/
def jn : List (List UInt8) → List UInt8
  | [] => []
  | [w] => w
  | w :: v :: ws => w ++ 32 :: jn (v :: ws)
theorem jn_snoc (o : List (List UInt8)) (c : List UInt8) : jn (o ++ [c]) = o.flatMap (· ++ [32]) ++ c := by
  induction o with
  | nil => rfl
  | cons w o ih =>
    cases o with
    | nil => simp [jn]
    | cons v o =>
      show w ++ 32 :: jn (v :: o ++ [c]) = _
      rw [ih]; simp
/-- the words of a line, if none is empty -/
def wdO (line : List UInt8) : Option (List (List UInt8)) :=
  if ((fl 32 ([], []) line).1 ++ [(fl 32 ([], []) line).2]).all (fun w => !w.isEmpty) = true then some ((fl 32 ([], []) line).1 ++ [(fl 32 ([], []) line).2]) else none
theorem wdO_jn {line : List UInt8} {ws : List (List UInt8)} (h : wdO line = some ws) : jn ws = line := by
  unfold wdO at h
  split at h
  · obtain rfl := Option.some.inj h
    rw [jn_snoc, fl_join]; simp
  · cases h
theorem fl_jn {ws : List (List UInt8)} (h : ∀ w ∈ ws, (32 : UInt8) ∉ w) (hn : ws ≠ []) (o : List (List UInt8)) : (fl 32 (o, []) (jn ws)).1 ++ [(fl 32 (o, []) (jn ws)).2] = o ++ ws := by
  induction ws generalizing o with
  | nil => exact absurd rfl hn
  | cons w ws ih =>
    cases ws with
    | nil =>
      show (fl 32 (o, []) w).1 ++ [(fl 32 (o, []) w).2] = _
      rw [fl_no (h w (by simp))]; simp
    | cons v ws =>
      show (fl 32 (o, []) (w ++ 32 :: jn (v :: ws))).1 ++ [(fl 32 (o, []) (w ++ 32 :: jn (v :: ws))).2] = _
      rw [fl_sep (h w (by simp)), ih (fun u hu => h u (by simp [hu])) (by simp)]
      simp
theorem wdO_of {ws : List (List UInt8)} (h : ∀ w ∈ ws, (32 : UInt8) ∉ w ∧ w ≠ []) (hn : ws ≠ []) : wdO (jn ws) = some ws := by
  have e := fl_jn (fun w hw => (h w hw).1) hn []
  rw [List.nil_append] at e
  unfold wdO
  rw [e, if_pos]
  rw [List.all_eq_true]
  intro w hw
  have := (h w hw).2
  cases w with
  | nil => exact absurd rfl this
  | cons => rfl

/-! ### numbers -/
/-- the number of a word -/
def num (w : List UInt8) : Option Int := if dgs w = true ∧ 1 ≤ w.length ∧ w.length ≤ 10 ∧ (w.length = 1 ∨ w.head? ≠ some 48) then some (val w) else none
theorem dgs_iff (w : List UInt8) : dgs w = true ↔ ∀ c ∈ w, isDg c = true := by unfold dgs; rw [List.all_eq_true]
theorem val_pos {w : List UInt8} (hd : dgs w = true) (h1 : w ≠ []) (h2 : w.head? ≠ some 48) : 1 ≤ val w := by
  cases w with
  | nil => exact absurd rfl h1
  | cons c w =>
    have hc := (dgs_iff _).1 hd c (by simp)
    have hc2 : c ≠ 48 := fun e => h2 (by rw [e]; rfl)
    have key : ∀ (w : List UInt8) (a : Int), 1 ≤ a → dgs w = true → 1 ≤ w.foldl (fun a c => 10 * a + ((c.toNat : Int) - 48)) a := by
      intro w
      induction w with
      | nil => intro a ha _; exact ha
      | cons x w ih =>
        intro a ha hd
        have hx := (isDg_iff _).1 ((dgs_iff _).1 hd x (by simp))
        exact ih _ (by show (1 : Int) ≤ 10 * a + ((x.toNat : Int) - 48); omega) ((dgs_iff _).2 fun c hc => (dgs_iff _).1 hd c (by simp [hc]))
    refine key w _ ?_ ((dgs_iff _).2 fun c hc => (dgs_iff _).1 hd c (by simp [hc]))
    have h48 : c.toNat ≠ 48 := fun e => hc2 (UInt8.toNat_inj.1 (by rw [e]; rfl))
    have := (isDg_iff _).1 hc
    show (1 : Int) ≤ 10 * 0 + ((c.toNat : Int) - 48)
    omega
theorem dec_val (w : List UInt8) (hd : dgs w = true) (h1 : w ≠ []) (h2 : w.length = 1 ∨ w.head? ≠ some 48) : Lib.decDigits (val w).toNat = w := by
  have key : ∀ (n : Nat) (w : List UInt8), w.length = n → dgs w = true → w ≠ [] → (w.length = 1 ∨ w.head? ≠ some 48) → Lib.decDigits (val w).toNat = w := by
    intro n
    induction n with
    | zero => intro w hl _ h; exact absurd (List.length_eq_zero_iff.1 hl) h
    | succ n ih =>
      intro w hl hd hne hz
      have e := List.dropLast_concat_getLast hne
      generalize w.getLast hne = c at e
      generalize hv : w.dropLast = v at e
      subst e
      rw [dgs_snoc, Bool.and_eq_true] at hd
      have hc := (isDg_iff _).1 hd.2
      have hb := val_bd v hd.1
      rw [val_snoc]
      by_cases e0 : v = []
      · subst e0
        have : (10 * val [] + ((c.toNat : Int) - 48)).toNat = c.toNat - 48 := by simp [val]; omega
        rw [this, Lib.decDigits_one (by omega)]
        show [_] = [c]
        congr 1
        apply UInt8.toNat_inj.1
        rw [UInt8.toNat_ofNat']
        omega
      · have hz2 : v.head? ≠ some 48 := by
          rcases hz with hz | hz
          · exact absurd (by simpa using hz) e0
          · intro e
            apply hz
            cases v with
            | nil => exact absurd rfl e0
            | cons x v => simpa using e
        have p := val_pos hd.1 e0 hz2
        have i := ih v (by simpa using hl) hd.1 e0 (.inr hz2)
        rw [Lib.decDigits, dif_neg (by omega)]
        have q1 : (10 * val v + ((c.toNat : Int) - 48)).toNat / 10 = (val v).toNat := by omega
        have q2 : (10 * val v + ((c.toNat : Int) - 48)).toNat % 10 = c.toNat - 48 := by omega
        rw [q1, q2, i]
        congr 2
        apply UInt8.toNat_inj.1
        rw [UInt8.toNat_ofNat']
        omega
  exact key _ w rfl hd h1 h2
theorem num_itoa {w : List UInt8} {v : Int} (h : num w = some v) : Lib.itoa v = w ∧ 0 ≤ v := by
  unfold num at h
  split at h
  · rename_i g
    obtain rfl := Option.some.inj h
    have b := val_bd w g.1
    unfold Lib.itoa
    rw [if_neg (by omega)]
    exact ⟨dec_val w g.1 (fun e => by rw [e] at g; simp at g) g.2.2.2, b.1⟩
  · cases h
theorem dec_dgs (u : Nat) : dgs (Lib.decDigits u) = true ∧ val (Lib.decDigits u) = u ∧ Lib.decDigits u ≠ [] ∧ ((Lib.decDigits u).length = 1 ∨ (Lib.decDigits u).head? ≠ some 48) := by
  induction u using Nat.strongRecOn with
  | _ u ih =>
    have dg1 : ∀ k : Nat, k < 10 → isDg (UInt8.ofNat (48 + k)) = true ∧ (UInt8.ofNat (48 + k)).toNat = 48 + k := fun k hk => by
      have : (UInt8.ofNat (48 + k)).toNat = 48 + k := by rw [UInt8.toNat_ofNat']; omega
      exact ⟨(isDg_iff _).2 (by omega), this⟩
    by_cases h : u < 10
    · rw [Lib.decDigits_one h]
      obtain ⟨a, b⟩ := dg1 u h
      refine ⟨(dgs_iff _).2 fun c hc => by rw [List.mem_singleton] at hc; subst hc; exact a, by simp only [val, List.foldl_cons, List.foldl_nil]; omega, by simp, .inl rfl⟩
    · obtain ⟨i1, i2, i3, i4⟩ := ih (u / 10) (by omega)
      rw [Lib.decDigits, dif_neg h]
      obtain ⟨a, b⟩ := dg1 (u % 10) (by omega)
      refine ⟨by rw [dgs_snoc, i1, a]; rfl, by rw [val_snoc, i2, b]; omega, by simp, .inr ?_⟩
      have hp : 1 ≤ u / 10 := by omega
      intro e
      have e2 : (Lib.decDigits (u / 10)).head? = some 48 := by
        cases hx : Lib.decDigits (u / 10) with
        | nil => exact absurd hx i3
        | cons x v => rw [hx] at e; simpa using e
      rcases i4 with i4 | i4
      · obtain ⟨x, hx⟩ : ∃ x, Lib.decDigits (u / 10) = [x] := List.length_eq_one_iff.1 i4
        rw [hx] at e2 i2
        simp only [List.head?_cons, Option.some.injEq] at e2
        subst e2
        simp [val] at i2
        omega
      · exact i4 e2
theorem nd_le (k : Nat) : ∀ u, 1 ≤ k → u < 10 ^ k → Lib.nDigits u ≤ k := by
  induction k with
  | zero => intro u h; omega
  | succ k ih =>
    intro u _ hu
    by_cases h : u < 10
    · rw [Lib.nDigits_small h]; omega
    · rw [Lib.nDigits_big h]
      rw [Nat.pow_succ] at hu
      have hk : 1 ≤ k := by
        rcases Nat.eq_zero_or_pos k with e | e
        · subst e; simp at hu; omega
        · exact e
      have := ih (u / 10) hk (by omega)
      omega
theorem itoa_num {v : Int} (h0 : 0 ≤ v) (h1 : v ≤ 9999999999) : num (Lib.itoa v) = some v ∧ (∀ c ∈ Lib.itoa v, isDg c = true) ∧ Lib.itoa v ≠ [] := by
  obtain ⟨a, b, c, d⟩ := dec_dgs v.toNat
  have e : Lib.itoa v = Lib.decDigits v.toNat := by unfold Lib.itoa; rw [if_neg (by omega)]
  rw [e]
  refine ⟨?_, (dgs_iff _).1 a, c⟩
  have hl : (Lib.decDigits v.toNat).length ≤ 10 := by
    rw [Lib.decDigits_length]
    exact nd_le 10 _ (by omega) (by omega)
  unfold num
  rw [if_pos ⟨a, by cases h : Lib.decDigits v.toNat with | nil => exact absurd h c | cons => simp, hl, d⟩, b]
  congr 1
  omega
end Go.Proofs.YtdjlainhaoaeiaaDoor

/- Package cask: the line of some words; decimal numerals; the variables that the package reads. -/
namespace Go.Proofs.YtdjlainhaoaeiaaDoor
open Go.RowKit

/-- a string, of a list of bytes -/
def str (l : List UInt8) : Value := .string ⟨l.toArray⟩
/-- what the listed variables hold -/
structure CV (w : World) : Prop where
  pow : Lib.TabIs Tryd.prog w "internal/strconv.uint64pow10" .u64 Lib.pow10Tab
  mxl : ∃ m, w.cell? ⟨1, 0, none⟩ = some (.int .i64 m)
theorem CV.below {w w' : World} (h : CV w) (hb : Below w.heap.size w w') : CV w' :=
  ⟨tab_keep (n := "internal/strconv.uint64pow10") 0 (by kernel_rfl) (by decide) h.pow hb, (let ⟨m, a⟩ := h.mxl; ⟨m, cell_bel a hb⟩)⟩
theorem itoa_any (n : Int) (w : World) (hn : -9223372036854775808 ≤ n ∧ n ≤ 9223372036854775807) (hw : CV w) :
    Calls Tryd.prog 45 #[.int .i64 n] w fun e w' => e = .returned (str (Lib.itoa n)) ∧ Below w.heap.size w w' :=
  (Tryd.strconv_Itoa n (by omega) (by omega) w hw.pow).mono fun _ _ ⟨h, k, os, hw⟩ => ⟨h, by rw [hw]; exact Lib.below_grow _ _ (Nat.le_refl _) _ _⟩
theorem app_nl (l : List UInt8) : (⟨l.toArray⟩ : ByteArray) ++ ⟨#[10]⟩ = ⟨(l ++ [10]).toArray⟩ := by
  apply ByteArray.ext; simp [ByteArray.data_append]
theorem str_size (l : List UInt8) : (⟨l.toArray⟩ : ByteArray).size = l.length := by show l.toArray.size = _; simp
end Go.Proofs.YtdjlainhaoaeiaaDoor

/- Package rod: number. -/
namespace Go.Proofs.YtdjlainhaoaeiaaDoor
open Go.RowKit

set_option maxHeartbeats 8000000 in
theorem isDg1_any (s : ByteArray) (i q : Nat) (w : World) (hi : i < s.size) (h : w.cell? ⟨q, 0, none⟩ = some (.string s)) :
    Calls Tryd.prog 72 #[.int .i64 i, .pointer (some ⟨q, 0, none⟩)] w fun e w' => e = .returned (.bool (isDg s[i])) ∧ w' = w := by
  by_cases h48 : s[i].toNat < 48
  · have e : isDg s[i] = false := by
      rw [Bool.eq_false_iff]; intro h; have := (isDg_iff _).1 h; omega
    have d0 : decide (48 ≤ (s[i].toNat : Int)) = false := decide_eq_false (by omega)
    rw [e]
    go_enter Tryd.func72, Tryd.ntmps72
    go_wp2
    go_returns
    exact ⟨rfl, rfl⟩
  · have d0 : decide (48 ≤ (s[i].toNat : Int)) = true := decide_eq_true (by omega)
    by_cases h57 : s[i].toNat ≤ 57
    · have e : isDg s[i] = true := (isDg_iff _).2 ⟨by omega, by omega⟩
      have d1 : decide ((s[i].toNat : Int) ≤ 57) = true := decide_eq_true (by omega)
      rw [e]
      go_enter Tryd.func72, Tryd.ntmps72
      go_wp2
      go_returns
      exact ⟨rfl, rfl⟩
    · have e : isDg s[i] = false := by
        rw [Bool.eq_false_iff]; intro h; have := (isDg_iff _).1 h; omega
      have d1 : decide ((s[i].toNat : Int) ≤ 57) = false := decide_eq_false (by omega)
      rw [e]
      go_enter Tryd.func72, Tryd.ntmps72
      go_wp2
      go_returns
      exact ⟨rfl, rfl⟩
/-- what number returns -/
def nmV (s : ByteArray) : Int := (num s.data.toList).getD 0
def nmB (s : ByteArray) : Bool := (num s.data.toList).isSome
theorem len_sz (s : ByteArray) : s.data.toList.length = s.size := by rw [Array.length_toList]; rfl
theorem head_at (s : ByteArray) (h : 0 < s.size) : s.data.toList.head? = some s[0] := by
  rw [List.head?_eq_getElem?]
  have h' : 0 < s.data.toList.length := by rw [len_sz]; exact h
  rw [List.getElem?_eq_getElem h', Array.getElem_toList]
  rfl
theorem nm_none {s : ByteArray} (h : ¬ (dgs s.data.toList = true ∧ 1 ≤ s.data.toList.length ∧ s.data.toList.length ≤ 10 ∧ (s.data.toList.length = 1 ∨ s.data.toList.head? ≠ some 48))) : nmV s = 0 ∧ nmB s = false := by
  have e : num s.data.toList = none := by unfold num; rw [if_neg h]
  unfold nmV nmB
  rw [e]
  exact ⟨rfl, rfl⟩
theorem nm_some {s : ByteArray} (h : dgs s.data.toList = true ∧ 1 ≤ s.data.toList.length ∧ s.data.toList.length ≤ 10 ∧ (s.data.toList.length = 1 ∨ s.data.toList.head? ≠ some 48)) : nmV s = val s.data.toList ∧ nmB s = true := by
  have e : num s.data.toList = some (val s.data.toList) := by unfold num; rw [if_pos h]
  unfold nmV nmB
  rw [e]
  exact ⟨rfl, rfl⟩
theorem emp_sz (s : ByteArray) : s.data.toList.isEmpty = decide (s.size = 0) := by
  rw [← len_sz]
  cases s.data.toList <;> simp
set_option maxHeartbeats 16000000 in
set_option maxRecDepth 100000 in
theorem rodNum_core (s : ByteArray) (w : World) (hs : s.size ≤ 100000) (V : Int) (B : Bool)
    (h1 : Hid (s.size = 0 → V = 0 ∧ B = false)) (h2 : Hid (10 < s.size → V = 0 ∧ B = false)) (h3 : Hid (∀ h : 0 < s.size, 1 < s.size → s[0].toNat = 48 → V = 0 ∧ B = false))
    (h4 : Hid (dgs s.data.toList = false → V = 0 ∧ B = false)) (h5 : Hid (∀ h : 0 < s.size, s.size ≤ 10 → (s.size = 1 ∨ s[0].toNat ≠ 48) → dgs s.data.toList = true → V = val s.data.toList ∧ B = true)) :
    Calls Tryd.prog 61 #[.string s] w fun e w' => e = .returned (.tuple #[.int .i64 V, .bool B]) ∧ Below w.heap.size w w' := by
  have hmf : ∀ (fn : Fn) (first cap : Array Value) (w : World), (Instr.makeFunc fn first cap).run Tryd.prog w = .ok (.func fn first cap) w := fun _ _ _ _ => rfl
  have X0 : Hid (Below w.heap.size w (w.alloc (.cells #[.string s] 9))) := Lib.hid (bel_alloc (Below.refl _ _))
  have BX := Lib.hid (Boxed.new w 9 (.string s))
  have y0 := BX.out.cell
  have em : s.toList.isEmpty = decide (s.size = 0) := by rw [ByteArray.toList_eq]; exact emp_sz s
  by_cases a : s.size = 0
  · obtain ⟨rfl, rfl⟩ := h1.out a
    have em2 : s.toList.isEmpty = true := by rw [em]; exact decide_eq_true a
    clear em h1 h2 h3 h4 h5
    go_enter Tryd.func61, Tryd.ntmps61
    go_wp2
    go_returns
    exact ⟨rfl, X0.out⟩
  have em2 : s.toList.isEmpty = false := by rw [em]; exact decide_eq_false a
  clear em h1
  by_cases b : 10 < s.size
  · obtain ⟨rfl, rfl⟩ := h2.out b
    have d1 : decide (10 < (s.size : Int)) = true := decide_eq_true (by omega)
    clear h2 h3 h4 h5
    go_enter Tryd.func61, Tryd.ntmps61
    go_wp2
    go_returns
    exact ⟨rfl, X0.out⟩
  have d1 : decide (10 < (s.size : Int)) = false := decide_eq_false (by omega)
  clear h2
  have a0 : 0 < s.size := by omega
  have h3' := Lib.hid (h3.out a0)
  have h5' := Lib.hid (h5.out a0 (by omega))
  clear h3 h5
  have hl : Hid (∀ i, i < s.size → ∀ h : i < s.size, _) := Lib.hid fun i hi h => isDg1_any s i w.heap.size (w.alloc (.cells #[.string s] 9)) h y0
  by_cases c : 1 < s.size ∧ s[0].toNat = 48
  · obtain ⟨rfl, rfl⟩ := h3'.out c.1 c.2
    have d2 : decide (1 < (s.size : Int)) = true := decide_eq_true (by omega)
    have e0 : ((s[0].toNat : Int) == 48) = true := by simp; omega
    have l0 : (0 : Int) < (s.size : Int) := by omega
    clear h3' h4 h5' c
    go_enter Tryd.func61, Tryd.ntmps61
    go_wp2
    go_returns
    exact ⟨rfl, X0.out⟩
  have c' : s.size = 1 ∨ (1 < s.size ∧ s[0].toNat ≠ 48) := by
    rcases Nat.lt_or_ge 1 s.size with q | q
    · right; exact ⟨q, fun e => c ⟨q, e⟩⟩
    · left; omega
  replace h5' := Lib.hid (h5'.out (by rcases c' with q | q; exact .inl q; exact .inr q.2))
  clear h3' c
  have g : (decide (1 < (s.size : Int)) = false) ∨ (decide (1 < (s.size : Int)) = true ∧ ((s[0].toNat : Int) == 48) = false ∧ (0 : Int) < (s.size : Int)) := by
    rcases c' with q | ⟨q, q2⟩
    · left; exact decide_eq_false (by omega)
    · right; exact ⟨decide_eq_true (by omega), by simp; omega, by omega⟩
  clear c'
  rcases g with g | ⟨g, g2, g3⟩
  all_goals
    go_enter Tryd.func61, Tryd.ntmps61
    go_wp2_with fail
    go_loopw [5, 6, 27] (fun nn _ ii wr => ∃ i : Nat, i ≤ s.size ∧ ii = .int .i64 i ∧ nn = .int .i64 (val (s.data.toList.take i)) ∧ wr = w.alloc (.cells #[.string s] 9) ∧ Hid (dgs (s.data.toList.take i) = true)) (fun _ _ ii _ => s.size - (intOf ii).toNat)
    case atStart => exact ⟨0, by omega, rfl, rfl, rfl, rfl⟩
    case round =>
      obtain ⟨i, hi, rfl, rfl, rfl, ha⟩ := hrel
      by_cases hlt : i < s.size
      · have HI := Lib.hid (hl.out i hlt hlt)
        have l1 : (i : Int) < (s.size : Int) := by omega
        cases hc : isDg s[i] with
        | false =>
          obtain ⟨rfl, rfl⟩ := h4.out (dgs_take s i hlt hc)
          rw [hc] at HI
          clear hc ha h4 h5' hl
          generalize val (s.data.toList.take i) = VV at *
          go_wp2_with fail
          refine HI.out.mono ?_
          rintro e w3 ⟨rfl, hw⟩
          rw [hw]
          clear hw
          go_wp2
          go_returns
          exact ⟨rfl, X0.out⟩
        | true =>
          have HA : Hid (dgs (s.data.toList.take (i + 1)) = true) := by show _ = _; rw [take_snoc s i hlt, dgs_snoc, ha.out, hc]; rfl
          obtain ⟨c0, c1⟩ := (isDg_iff _).1 hc
          have w0 : IntKind.u8.wrap ((s[i].toNat : Int) - 48) = (s[i].toNat : Int) - 48 := by
            show ((s[i].toNat : Int) - 48) % 256 = _
            omega
          have ev : Hid (val (s.data.toList.take (i + 1)) = 10 * val (s.data.toList.take i) + ((s[i].toNat : Int) - 48)) := Lib.hid (by rw [take_snoc s i hlt, val_snoc])
          have bd := val_small (s.data.toList.take i) ha.out (by rw [List.length_take]; omega)
          rw [hc] at HI
          clear hc ha
          generalize val (s.data.toList.take i) = VV at *
          have w1' : IntKind.i64.wrap (10 * VV) = 10 * VV := wrap_in _ ⟨by omega, by omega⟩
          have w2' : IntKind.i64.wrap (10 * VV + ((s[i].toNat : Int) - 48)) = 10 * VV + ((s[i].toNat : Int) - 48) := wrap_in _ ⟨by omega, by omega⟩
          have w3' : IntKind.i64.wrap ((s[i].toNat : Int) - 48) = (s[i].toNat : Int) - 48 := wrap_in _ ⟨by omega, by omega⟩
          clear bd
          go_wp2_with fail
          refine HI.out.mono ?_
          rintro e w3 ⟨rfl, hw⟩
          rw [hw]
          clear hw
          go_wp2
          go_roundw
          case rel => exact ⟨i + 1, by omega, by go_num, by rw [ev.out], by first | rfl | trivial, HA⟩
          case measure => simp [intOf]; omega
      · obtain rfl : i = s.size := by omega
        have et : s.data.toList.take s.size = s.data.toList := List.take_of_length_le (by rw [len_sz]; exact Nat.le_refl _)
        rw [et] at ha ⊢
        obtain ⟨hV, rfl⟩ := h5'.out ha.out
        rw [← hV]
        clear hV h4 h5' ha
        go_wp2
        go_returns
        exact ⟨rfl, X0.out⟩
theorem rodNum_any (s : ByteArray) (w : World) (hs : s.size ≤ 100000) :
    Calls Tryd.prog 61 #[.string s] w fun e w' => e = .returned (.tuple #[.int .i64 (nmV s), .bool (nmB s)]) ∧ Below w.heap.size w w' := by
  have ln := len_sz s
  refine rodNum_core s w hs _ _ (Lib.hid fun h => nm_none (by omega)) (Lib.hid fun h => nm_none (by omega)) (Lib.hid fun h h1 h2 => nm_none fun ⟨_, _, _, g⟩ => ?_) (Lib.hid fun h => nm_none fun ⟨g, _⟩ => by rw [h] at g; cases g) (Lib.hid fun h h1 h2 h3 => nm_some ⟨h3, by omega, by omega, ?_⟩)
  · rcases g with g | g
    · omega
    · apply g
      rw [head_at s h]
      congr 1
      exact UInt8.toNat_inj.1 h2
  · rcases h2 with h2 | h2
    · left; omega
    · right
      rw [head_at s h]
      intro e
      apply h2
      rw [Option.some.inj e]
      rfl
end Go.Proofs.YtdjlainhaoaeiaaDoor

/- Package rod: read. -/
namespace Go.Proofs.YtdjlainhaoaeiaaDoor
open Go.RowKit

theorem tsuf_len (a b : List UInt8) : (Lib.trimSuffix a b).length ≤ a.length := by
  unfold Lib.trimSuffix
  split
  · rw [List.length_take]; omega
  · exact Nat.le_refl _
theorem cut_len (a b : List UInt8) : (Lib.cut a b).1.length ≤ a.length ∧ (Lib.cut a b).2.1.length ≤ a.length := by
  unfold Lib.cut
  by_cases h : 0 ≤ Lib.index a b
  · rw [if_pos h]
    exact ⟨by rw [List.length_take]; omega, by rw [List.length_drop]; omega⟩
  · rw [if_neg h]
    exact ⟨Nat.le_refl _, by simp⟩
/-- the words of a line, without its line feed -/
def lnC (t : List UInt8) : List UInt8 × List UInt8 × Bool := Lib.cut (Lib.trimSuffix t [10]) [32]
/-- the mark of a line, and whether it is one -/
def lnM (t : List UInt8) : Int × Int := (nmV ⟨(lnC t).1.toArray⟩, nmV ⟨(lnC t).2.1.toArray⟩)
def lnB (t : List UInt8) : Bool := Lib.hasSuffix t [10] && (nmB ⟨(lnC t).1.toArray⟩ && nmB ⟨(lnC t).2.1.toArray⟩)
set_option maxHeartbeats 8000000 in
theorem rodRead_any (s : ByteArray) (w : World) (hw : CV w) (hs : s.size ≤ 50000) :
    Calls Tryd.prog 48 #[.string s] w fun e w' => e = .returned (.tuple #[.agg #[.int .i64 (lnM s.data.toList).1, .int .i64 (lnM s.data.toList).2], .bool (lnB s.data.toList)]) ∧ Below w.heap.size w w' := by
  have HW := Lib.hid hw
  clear hw
  have ln := len_sz s
  have T1 := tsuf_len s.data.toList [10]
  have C1 := cut_len (Lib.trimSuffix s.data.toList [10]) [32]
  have HS : Hid (∀ W, _) := Lib.hid fun W => Tryd.strings_CutSuffix s ⟨#[10]⟩ W (by omega)
  have e10 : (⟨#[10]⟩ : ByteArray).data.toList = [10] := rfl
  rw [e10] at HS
  have HC : Hid (∀ W, Below w.heap.size w W → Calls Tryd.prog 60 #[.string ⟨(Lib.trimSuffix s.data.toList [10]).toArray⟩, .string ⟨#[32]⟩] W fun e w' => e = .returned (.tuple #[.string ⟨(lnC s.data.toList).1.toArray⟩, .string ⟨(lnC s.data.toList).2.1.toArray⟩, .bool (lnC s.data.toList).2.2]) ∧ Below W.heap.size W w') := Lib.hid fun W hW => by
    obtain ⟨m, hm⟩ := (HW.out.below hW).mxl
    refine (Tryd.strings_Cut ⟨(Lib.trimSuffix s.data.toList [10]).toArray⟩ ⟨#[32]⟩ m W (by rw [str_size]; omega) hm).mono ?_
    rintro e w' ⟨rfl, n, rfl⟩
    exact ⟨rfl, bel_drewN _ _⟩
  have z1 : (⟨(lnC s.data.toList).1.toArray⟩ : ByteArray).size ≤ 100000 := by rw [str_size]; have := C1.1; unfold lnC; omega
  have z2 : (⟨(lnC s.data.toList).2.1.toArray⟩ : ByteArray).size ≤ 100000 := by rw [str_size]; have := C1.2; unfold lnC; omega
  have HA : Hid (∀ W, _) := Lib.hid fun W => rodNum_any ⟨(lnC s.data.toList).1.toArray⟩ W z1
  have HB : Hid (∀ W, _) := Lib.hid fun W => rodNum_any ⟨(lnC s.data.toList).2.1.toArray⟩ W z2
  have T0 := Lib.hid (Two.new w (.int .i64 0) (.int .i64 0) 39)
  unfold lnM lnB
  clear z1 z2 C1 T1 ln e10
  generalize (⟨(lnC s.data.toList).1.toArray⟩ : ByteArray) = S1 at *
  generalize (⟨(lnC s.data.toList).2.1.toArray⟩ : ByteArray) = S2 at *
  generalize (lnC s.data.toList).2.2 = F at *
  generalize (⟨(Lib.trimSuffix s.data.toList [10]).toArray⟩ : ByteArray) = S0 at *
  generalize Lib.hasSuffix s.data.toList [10] = G at *
  generalize nmV S1 = v1 at *
  generalize nmV S2 = v2 at *
  generalize nmB S1 = b1 at *
  generalize nmB S2 = b2 at *
  go_enter Tryd.func48, Tryd.ntmps48
  go_wp2_with fail
  refine (HS.out _).mono ?_
  rintro e w1 ⟨rfl, h1⟩
  rw [h1]; clear h1
  go_wp2_with fail
  refine (HC.out _ (bel_alloc (Below.refl _ _))).mono ?_
  rintro e w2 ⟨rfl, gg⟩
  replace T0 := Lib.hid (T0.out.below gg)
  have X1 := Lib.hid (bel_alloc gg); clear gg
  go_wp2_with fail
  refine (HA.out _).mono ?_
  rintro e w3 ⟨rfl, gg⟩
  replace T0 := Lib.hid (T0.out.below gg)
  replace X1 := Lib.hid (bel_trans X1.out gg); clear gg
  go_wp2_with fail
  refine (HB.out _).mono ?_
  rintro e w4 ⟨rfl, gg⟩
  replace T0 := Lib.hid (T0.out.below gg)
  replace X1 := Lib.hid (bel_trans X1.out gg); clear gg
  obtain ⟨t0, t1, _, _, _⟩ := T0.out
  obtain ⟨p0, p1⟩ := two_read w4 w.heap.size (.int .i64 v1) (.int .i64 v2) t0 t1
  replace p0 := Lib.hid p0
  replace p1 := Lib.hid p1
  cases G <;> cases b1 <;> cases b2
  all_goals
    go_wp2
    have p0 := p0.out
    have p1 := p1.out
    refine bodyPost_ret (v := .tuple #[.agg #[.int .i64 v1, .int .i64 v2], .bool _]) (by simp [results, Tryd.results48, go_sem, p0, p1]; rfl) rfl ?_
    exact ⟨rfl, (X1.out.setCell (Nat.le_refl _) _).setCell (Nat.le_refl _) _⟩
end Go.Proofs.YtdjlainhaoaeiaaDoor

/- A range over an iterator that keeps what is left in a box of its own. -/
namespace Go.Proofs.YtdjlainhaoaeiaaDoor
open Go Go.RowKit

/-- the iterator's word: what J says is kept by whatever turns its box alone; the lines to be yielded are L -/
def SeqBox {α : Type} (F : Fence) (n : Nat) (P : Program) (g : Nat) (lb : Array Value) (encs : α → Array Value) (Bs : Nat) (L : List α) (w : World) : Prop :=
  ∀ (l : Nat) (J : List α → World → Prop) (Jx : World → Prop) (W : World), W.heap[Bs]? = w.heap[Bs]? →
    (∀ s A B row, J s A → A.grownBy B row → (row = none ∨ row = some Bs) → J s B) →
    (∀ pre x rest W1, L = pre ++ x :: rest → J pre W1 → YieldAt F (n - 1) P l (encs x) W1 fun e W' =>
      (e = .returned (.bool true) ∧ J (pre ++ [x]) W' ∧ W'.heap[Bs]? = W1.heap[Bs]?) ∨ (e = .returned (.bool false) ∧ Jx W')) →
    J [] W →
    CallsIn F n P g (#[.func (.yield l) #[] #[]] ++ lb) W fun e W' => (∃ v, e = .returned v) ∧ (J L W' ∨ Jx W')

/-- how a round may be left: B and B + 1 are the loop's own blocks -/
def boxPost {α : Type} (Bs B : Nat) (I : List α → World → Prop) (Ix : Code → World → Prop) (xs : List α) (W : World) : Exit → Act → World → Prop
  | .normal, _, W' => W'.heap[Bs]? = W.heap[Bs]? ∧ W'.heap[B]? = W.heap[B]? ∧ W'.heap[B + 1]? = W.heap[B + 1]? ∧ I xs W'
  | .ret, _, W' => W'.heap[B]? = W.heap[B]? ∧ W'.heap[B + 1]? = W.heap[B + 1]? ∧ Ix .ret W'
  | .exit _, _, _ => False
  | .goto _, _, _ => False
  | .panic _, _, _ => False
  | .outgrown, _, _ => False

theorem wpIn_rangeFunc_box {α : Type} {F : Fence} {n : Nat} {P : Program} {g : Operand} {ps : Array Tmp} {assign body : Code} {Q : Exit → Act → World → Prop} {a : Act} {w : World}
    (hro : F.round = none) (h1 : 1 ≤ n) {gf : Nat} {lb : Array Value} (hg : a.eval g = .func (.func gf) #[] lb) (hFg : F.fn gf) (eg : ∀ args w, (callFunc gf args).run P w = .ok (.enter gf args) w)
    {encs : α → Array Value} {Bs : Nat} {L : List α} (hseq : SeqBox F (n - 1) P gf lb encs Bs L w) (hBs : Bs < w.heap.size) (hps : ∀ x, (encs x).size = ps.size)
    (I : List α → World → Prop) (Ix : Code → World → Prop)
    (hI : ∀ s A B row, I s A → A.grownBy B row → (∀ r, row = some r → r = Bs ∨ r = w.heap.size ∨ r = w.heap.size + 1) → I s B)
    (hIx : ∀ c A B row, Ix c A → A.grownBy B row → (∀ r, row = some r → r = Bs ∨ r = w.heap.size ∨ r = w.heap.size + 1) → Ix c B)
    (h0 : I [] w) (a₁ : α → Act)
    (hassign : ∀ (l : Nat) (x : α) (W : World) (K : Act → World → Prop), K (a₁ x) W →
      assign.wpIn (F.inRound l) (n - 1 - 1) P (Exit.then K (fun _ _ _ => False)) { tmps := (ps.zip (encs x)).foldl (fun t (p, v) => t.setIfInBounds p v) a.tmps, defers := [] } W)
    (hbody : ∀ (l : Nat) (pre : List α) (x : α) (rest : List α) (W : World), L = pre ++ x :: rest → I pre W → w.heap.size + 1 < W.heap.size → body.wpIn (F.inRound l) (n - 1 - 1) P (boxPost Bs w.heap.size I Ix (pre ++ [x]) W) (a₁ x) W)
    (hdone : ∀ (W : World), I L W → W.heap[w.heap.size]? = some (.deferred (some [])) → Q .normal { a with defers := { target := .collected w.heap.size, args := #[] } :: a.defers } W)
    (hstop : ∀ (W : World), Ix .ret W → W.heap[w.heap.size]? = some (.deferred (some [])) → Code.ret.wpIn F n P Q { a with defers := { target := .collected w.heap.size, args := #[] } :: a.defers } W) :
    (Code.rangeFunc g ps assign body).wpIn F n P Q a w := by
  refine wpIn_rangeFunc ?_
  intro fn hfn
  rw [hro]
  obtain ⟨rec, hrec⟩ : ∃ rec : LoopState → Option Code → Loop, rec = fun st pe => { state := st, pending := pe, fn, tmps := a.tmps, params := ps, assign, body, defers := w.heap.size } := ⟨_, rfl⟩
  obtain ⟨W1, hW1⟩ : ∃ W1, (w.alloc (.deferred (some []))).alloc (.loop (rec .ready none)) = W1 := ⟨_, rfl⟩
  have hL1 : W1.heap[w.heap.size + 1]? = some (.loop (rec .ready none)) := by
    rw [← hW1]; have := World.alloc_heap_new (w.alloc (.deferred (some []))) (.loop (rec .ready none)); rwa [World.size_alloc] at this
  have hK1 : W1.heap[w.heap.size]? = some (.deferred (some [])) := by
    rw [← hW1]; exact (Below.heap_alloc _ _ _ (by simp)).trans (World.alloc_heap_new w _)
  have hI1 : I [] W1 := by
    rw [← hW1]
    exact hI _ _ _ none (hI _ _ _ none h0 (World.grownBy_alloc w _ none) (fun r e => by cases e)) (World.grownBy_alloc _ _ none) (fun r e => by cases e)
  have hB1 : W1.heap[Bs]? = w.heap[Bs]? := by
    rw [← hW1]; exact (Below.heap_alloc _ _ _ (by simp; omega)).trans (Below.heap_alloc _ _ _ hBs)
  have rowL : ∀ {A : World} {v : Obj}, A.grownBy (A.putObj (w.heap.size + 1) v) (some (w.heap.size + 1)) := fun {A v} => grownBy_putObj' A _ v
  have okL : ∀ r, some (w.heap.size + 1) = some r → r = Bs ∨ r = w.heap.size ∨ r = w.heap.size + 1 := fun r e => by cases e; exact .inr (.inr rfl)
  refine ⟨w.heap.size + 1, [{ target := .collected w.heap.size, args := #[] }], W1, { target := .fn (.func gf) lb, args := #[.func (.yield (w.heap.size + 1)) #[] #[]] }, W1, gf,
    #[.func (.yield (w.heap.size + 1)) #[] #[]] ++ lb, W1, ?_, ?_, ?_, ?_, fun _ => h1, ?_⟩
  · rw [← hW1, hrec]; exact run_enterLoop_outer _ _ _ _ _
  · simp only [resolve, hg]
    simp [go_sem]
  · intro f' hf'; simp [Target.leads] at hf'; subst hf'; exact hFg
  · simp [invoke, go_sem, eg]
  · refine (hseq (w.heap.size + 1)
      (fun pre W => I pre W ∧ W.heap[w.heap.size + 1]? = some (.loop (rec .ready none)) ∧ W.heap[w.heap.size]? = some (.deferred (some [])))
      (fun W => Ix .ret W ∧ W.heap[w.heap.size + 1]? = some (.loop (rec .done (some .ret))) ∧ W.heap[w.heap.size]? = some (.deferred (some [])))
      W1 hB1
      (fun s A B row hs hg' hr => by
        have q : ∀ k, k ≠ Bs → k < A.heap.size → B.heap[k]? = A.heap[k]? := fun k hk hlt => hg'.block k hlt (fun e => by rcases hr with rfl | rfl <;> simp_all)
        refine ⟨hI s A B row hs.1 hg' (fun r e => ?_), (q _ (by omega) (Array.getElem?_eq_some_iff.1 hs.2.1).1).trans hs.2.1, (q _ (by omega) (Array.getElem?_eq_some_iff.1 hs.2.2).1).trans hs.2.2⟩
        rcases hr with rfl | rfl
        · cases e
        · cases e; exact .inl rfl)
      ?_ ⟨hI1, hL1, hK1⟩).mono ?_
    · -- a round
      rintro pre x rest W hL ⟨hi, hl, hk⟩
      have hlt : w.heap.size + 1 < W.heap.size := (Array.getElem?_eq_some_iff.1 hl).1
      have hy := run_yield (P := P) (args := encs x) hl (by rw [hrec]; exact hps x)
      rw [hrec] at hy
      refine ⟨fn, _, assign, body, hy, roundIn_of_wpIn hfn (hassign _ x W _ ⟨_, run_beginRound hl (by rw [hrec]), ?_⟩)⟩
      have hl2 : (W.putObj (w.heap.size + 1) (.loop { rec .ready none with state := .busy })).heap[w.heap.size + 1]? = some (.loop { rec .ready none with state := .busy }) := World.putObj_heap_same hlt
      have hk2 : (W.putObj (w.heap.size + 1) (.loop { rec .ready none with state := .busy })).heap[w.heap.size]? = some (.deferred (some [])) := (World.putObj_heap_other (by omega)).trans hk
      have hb2 : (W.putObj (w.heap.size + 1) (.loop { rec .ready none with state := .busy })).heap[Bs]? = W.heap[Bs]? := World.putObj_heap_other (by omega)
      have hlt2 : w.heap.size + 1 < (W.putObj (w.heap.size + 1) (.loop { rec .ready none with state := .busy })).heap.size := (Array.getElem?_eq_some_iff.1 hl2).1
      refine wpIn_mono (hbody _ pre x rest _ hL (hI _ _ _ _ hi rowL okL) hlt2) ?_
      have fin : ∀ (jump : Option Code) (W3 : World), W3.heap[w.heap.size]? = (W.putObj (w.heap.size + 1) (.loop { rec .ready none with state := .busy })).heap[w.heap.size]? → W3.heap[w.heap.size + 1]? = (W.putObj (w.heap.size + 1) (.loop { rec .ready none with state := .busy })).heap[w.heap.size + 1]? →
          (Instr.endRound (w.heap.size + 1) jump).run P W3 = .ok (.bool jump.isNone) (W3.putObj (w.heap.size + 1) (.loop (rec (if jump.isNone then .ready else .done) jump))) ∧
          W3.heap[w.heap.size + 1]? = some (.loop { rec .ready none with state := .busy }) ∧
          (W3.putObj (w.heap.size + 1) (.loop (rec (if jump.isNone then .ready else .done) jump))).heap[w.heap.size + 1]? = some (.loop (rec (if jump.isNone then .ready else .done) jump)) ∧
          (W3.putObj (w.heap.size + 1) (.loop (rec (if jump.isNone then .ready else .done) jump))).heap[w.heap.size]? = some (.deferred (some [])) := fun jump W3 hk3 hl3 => by
        have hl3 := hl3.trans hl2
        have := run_endRound (P := P) jump hl3
        rw [hrec] at this ⊢
        exact ⟨this, by rw [hrec] at hl3; exact hl3, World.putObj_heap_same (Array.getElem?_eq_some_iff.1 hl3).1, (World.putObj_heap_other (by omega)).trans (hk3.trans hk2)⟩
      rintro e a3 W3 hp
      cases e with
      | normal =>
        obtain ⟨hb3, hk3, hl3, hi3⟩ := hp
        obtain ⟨hr, hl3, hl4, hk4⟩ := fin none W3 hk3 hl3
        exact ⟨_, _, hr, .inl ⟨rfl, ⟨hI _ _ _ _ hi3 rowL okL, hl4, hk4⟩, (World.putObj_heap_other (by omega)).trans (hb3.trans hb2)⟩⟩
      | ret =>
        obtain ⟨hk3, hl3, hi3⟩ := hp
        obtain ⟨hr, hl3, hl4, hk4⟩ := fin (some .ret) W3 hk3 hl3
        exact ⟨_, _, hr, .inr ⟨rfl, hIx _ _ _ _ hi3 rowL okL, hl4, hk4⟩⟩
      | exit id => exact hp.elim
      | goto t => exact hp.elim
      | panic ch => exact hp.elim
      | outgrown => exact hp.elim
    · rintro e W2 ⟨⟨v, rfl⟩, (⟨hi, hl, hk⟩ | ⟨hi, hl, hk⟩)⟩
      · exact ⟨none, _, by have := run_endLoop (P := P) hl (by rw [hrec]; simp); rw [hrec] at this; exact this, hdone _ (hI _ _ _ _ hi rowL okL) ((World.putObj_heap_other (by omega)).trans hk)⟩
      · exact ⟨some .ret, _, by have := run_endLoop (P := P) hl (by rw [hrec]; simp); rw [hrec] at this; exact this, hstop _ (hIx _ _ _ _ hi rowL okL) ((World.putObj_heap_other (by omega)).trans hk)⟩
end Go.Proofs.YtdjlainhaoaeiaaDoor

/- A region that draws its order, where every frame may be entered: all operations but the last few read; then the rest, in the order of the text. -/
namespace Go.Proofs.YtdjlainhaoaeiaaDoor
section
variable {F : Fence} {n : Nat} {P : Program} {ops : Array Oper} {md : Region.Mode} {w : World}

/-- everything may be entered -/
structure Free (F : Fence) (P : Program) : Prop where
  fn : ∀ f, F.fn f
  depth : F.depth = none
  call : ∀ {m : Nat} {f : FuncId} {args : Array Value} {w : World} {R : Ending → World → Prop}, Calls P f args w R → CallsIn F m P f args w R
theorem free_wide (P : Program) : Free Fence.wide P := ⟨fun _ => trivial, rfl, fun h => callsIn_wide.2 h⟩
theorem free_round (P : Program) (l : Nat) : Free (Fence.wide.inRound l) P := ⟨fun _ => trivial, rfl, fun h => CallsIn.inRound l (callsIn_wide.2 h)⟩

theorem wpIn_of_still (hF : Free F P) {o : Oper} {a : Act} {K : Act → Prop} {K' : Act → World → Prop} {Q' : Exit → Act → World → Prop} (hs : ∀ ρ, Oper.semAt F.round ρ o = execOp ρ o) (h : ∀ a, K a → K' a w) (hh : o.still P a w K) : o.wpIn F n P a w K' Q' := by
  refine ⟨fun f _ => hF.fn f, ?_⟩
  rw [hs]
  unfold Oper.still at hh
  generalize (execOp a.eval o).run P w = r at *
  cases r with
  | ok x w' =>
    cases x <;> simp only [Oper.stillUpon] at hh <;> simp only [Oper.uponIn]
    case enter f args =>
      obtain ⟨rfl, v, hc, hn⟩ := hh
      refine ⟨(fun h0 => by rw [hF.depth] at h0; cases h0), hF.call (hc.mono fun e w'' he => ?_)⟩
      obtain ⟨rfl, rfl⟩ := he
      exact h _ hn
    all_goals (obtain ⟨rfl, h2⟩ := hh; exact h _ h2)
  | halt x w' => simp only [Oper.stillUpon] at hh

theorem wpOpIn_of_stOp (hF : Free F P) {i : Nat} {a : Act} {K : Act → Prop} {K' : Act → World → Prop} {Q' : Exit → Act → World → Prop} (hs : ∀ o ∈ ops, ∀ ρ, Oper.semAt F.round ρ o = execOp ρ o) (h : ∀ a, K a → K' a w) (hh : stOp P ops w i K a) : wpOpIn F n P ops Q' i K' a w := by
  unfold stOp at hh
  unfold wpOpIn
  cases ho : ops[i]? with
  | none => simp only [ho] at hh; exact h _ hh
  | some o =>
    simp only [ho] at hh
    by_cases hw : Region.wanted o (yielded ops a.tmps) = true
    · simp only [hw, if_true] at hh ⊢
      exact wpIn_of_still hF (hs o (Array.mem_of_getElem? ho)) h hh
    · simp only [hw] at hh ⊢
      exact ⟨fun f _ => hF.fn f, h _ hh⟩

theorem wpAnyIn_of_head (hF : Free F P) {k g : Nat} {L : Array Bool → Act → Prop} {Q' : Exit → Act → World → Prop} (hs : ∀ o ∈ ops, ∀ ρ, Oper.semAt F.round ρ o = execOp ρ o) (hL : ∀ listed a, L listed a → wpAnyIn F n P md ops Q' g listed a w) :
    ∀ (f : Nat) (listed : Array Bool) (a : Act), wpAnyL P md ops w k L f listed a → wpAnyIn F n P md ops Q' (f + g) listed a w
  | 0, listed, a, h => by rw [Nat.zero_add]; exact hL _ _ h
  | f + 1, listed, a, h => by
    have e : f + 1 + g = (f + g) + 1 := by omega
    rw [e]
    exact ⟨fun h0 => absurd h0 h.1, fun i hi => wpOpIn_of_stOp hF hs (fun a' h' => wpAnyIn_of_head hF hs hL f _ a' h') (h.2 i hi).2⟩

theorem wpAnyIn_of_seq {Q' : Exit → Act → World → Prop} (l : List Oper) : ∀ (k : Nat) (listed : Array Bool) (a : Act) (w : World), (∀ j, l[j]? = ops[k + j]?) →
    Region.seqB md ops l.length k listed = true → wpListIn F n P ops Q' l a w → wpAnyIn F n P md ops Q' l.length listed a w := by
  induction l with
  | nil => intro k listed a w _ hB h; exact ⟨by simpa [Region.seqB] using hB, h⟩
  | cons o l ih =>
    intro k listed a w hl hB h
    have h0 : ops[k]? = some o := by simpa using (hl 0).symm
    simp only [List.length_cons, Region.seqB, Bool.and_eq_true, decide_eq_true_eq] at hB
    refine ⟨(fun h1 => by rw [hB.1] at h1; cases h1), fun i hi => ?_⟩
    rw [hB.1] at hi
    obtain rfl : i = k := by simpa using hi
    have hw : wpOpIn F n P ops Q' i (wpListIn F n P ops Q' l) a w := by unfold wpOpIn; simp only [h0]; exact h
    exact wpOpIn_mono (fun a' w' h' => ih (i + 1) _ a' w' (fun j => by have := hl (j + 1); rw [List.getElem?_cons_succ] at this; rw [this]; congr 1; omega) hB.2 h') hw

theorem wpIn_region_tail (hF : Free F P) {id : Nat} {Q : Exit → Act → World → Prop} {a : Act} {l : List Oper} (k : Nat) (hm : P.follows .mixedOrders = true) (hB : Region.lexTailB .any l.toArray k = true) (hs : ∀ o ∈ l.toArray, ∀ ρ, Oper.semAt F.round ρ o = execOp ρ o)
    (h : wpStill P l.toArray w.drew (fun a' => wpListIn F n P l.toArray Q (l.drop k) a' w.drew) (l.take k) a) : (Code.region id l.toArray true).wpIn F n P Q a w := by
  simp only [Region.lexTailB, Bool.and_eq_true, decide_eq_true_eq] at hB
  obtain ⟨⟨⟨⟨hsel, hn⟩, hsk⟩, hc⟩, hlex⟩ := hB
  have hn' : k < l.length := by simpa using hn
  have htl : (l.take k).length = k := by simp; omega
  have hdl : (l.drop k).length = l.toArray.size - k := by simp
  have inv0 : HeadInv .any l.toArray k (Array.replicate l.toArray.size false) :=
    ⟨by simp, fun j oj _ hl => (by rw [getD_replicate_false] at hl; cases hl), fun t _ ht => getD_in (by simpa using ht) (getD_replicate_false _ _)⟩
  have H := wpAnyL_lex (md := .any) (g := l.toArray.size - k) (w := w.drew) hsel hsk hc hn (l.take k) 0 _ a (fun j hj => by
    have hj' : j < k := by rw [htl] at hj; exact hj
    simp [hj']) (by simpa using htl) inv0 (by rw [htl]; exact hlex) h
  refine wpIn_region_any hm ?_
  have G := wpAnyIn_of_head (n := n) (Q' := Q) (g := l.toArray.size - k) hF hs (fun listed a' hL => by
    have := wpAnyIn_of_seq (F := F) (n := n) (P := P) (md := .any) (Q' := Q) (l.drop k) k listed a' w.drew (fun j => by simp [List.getElem?_drop]) (by rw [hdl]; exact hL.1) hL.2
    rwa [hdl] at this) _ _ _ H
  rw [htl, show k + (l.toArray.size - k) = l.toArray.size by omega] at G
  exact G
end
/-- no operation that is laid aside for later -/
def plainOps (l : List Oper) : Bool := l.all fun o => match o.op with | .defer _ => false | _ => true
theorem sem_all {ro : Option Nat} {l : List Oper} (h : plainOps l = true) : ∀ o ∈ l.toArray, ∀ ρ, Oper.semAt ro ρ o = execOp ρ o := fun o ho ρ => by
  have := List.all_eq_true.1 h o (by simpa using ho)
  exact Oper.semAt_eq ro ρ o (fun c e => by rw [e] at this; cases this)
end Go.Proofs.YtdjlainhaoaeiaaDoor

/- The lines of a text, and strings.Lines, which yields them. -/
namespace Go.Proofs.YtdjlainhaoaeiaaDoor
open Go.RowKit Go.Shelf
attribute [local go_sem] Oper.semAt_some

theorem fl_acc (d : UInt8) (s : List UInt8) : ∀ (o : List (List UInt8)) (c : List UInt8), fl d (o, c) s = (o ++ (fl d ([], c) s).1, (fl d ([], c) s).2) := by
  induction s with
  | nil => intro o c; simp [fl]
  | cons x s ih =>
    intro o c
    show fl d (stp d (o, c) x) s = (o ++ (fl d (stp d ([], c) x) s).1, (fl d (stp d ([], c) x) s).2)
    unfold stp
    by_cases e : x = d
    · rw [if_pos e, if_pos e, ih (o ++ [c]) [], ih ([] ++ [c]) []]
      simp
    · rw [if_neg e, if_neg e, ih o (c ++ [x])]
/-! ### the lines of a text, each with its line feed, the last one perhaps without -/
def liN (t : List UInt8) : List ByteArray := (fl 10 ([], []) t).1.map (fun l => ⟨(l ++ [10]).toArray⟩) ++ (if (fl 10 ([], []) t).2 = [] then [] else [⟨(fl 10 ([], []) t).2.toArray⟩])
theorem liN_nil : liN [] = [] := rfl
theorem liN_sep {a b : List UInt8} (h : (10 : UInt8) ∉ a) : liN (a ++ 10 :: b) = ⟨(a ++ [10]).toArray⟩ :: liN b := by
  unfold liN
  rw [fl_sep h, fl_acc]
  simp
theorem liN_no {a : List UInt8} (h : (10 : UInt8) ∉ a) (h0 : a ≠ []) : liN a = [⟨a.toArray⟩] := by
  unfold liN
  rw [fl_no h]
  simp [h0]
theorem idxB_no {c : UInt8} : ∀ {l : List UInt8}, c ∉ l → Lib.indexByte l c = -1
  | [], _ => rfl
  | b :: l, h => by
    have h1 : b ≠ c := fun e => h (by rw [e]; simp)
    have h2 : c ∉ l := fun e => h (by simp [e])
    simp [Lib.indexByte, h1, idxB_no h2]
theorem idxB_at {c : UInt8} {b : List UInt8} : ∀ {a : List UInt8}, c ∉ a → Lib.indexByte (a ++ c :: b) c = (a.length : Int)
  | [], _ => by simp [Lib.indexByte]
  | x :: a, h => by
    have h1 : x ≠ c := fun e => h (by rw [e]; simp)
    have h2 : c ∉ a := fun e => h (by simp [e])
    have e : ((a.length : Int) == -1) = false := by simp only [beq_eq_false_iff_ne, ne_eq]; omega
    rw [List.cons_append, Lib.indexByte, idxB_at h2, if_neg (by simpa using h1), e]
    simp
/-- the next line of a text that is not empty -/
theorem liN_step (t : ByteArray) (h0 : 0 < t.size) :
    (Lib.indexByte t.data.toList 10 = -1 ∧ liN t.data.toList = [t]) ∨
    (∃ k : Nat, Lib.indexByte t.data.toList 10 = (k : Int) ∧ k < t.size ∧ liN t.data.toList = t.extract 0 (k + 1) :: liN (t.extract (k + 1) t.size).data.toList) := by
  by_cases hm : (10 : UInt8) ∈ t.data.toList
  · obtain ⟨a, b, e, ha⟩ := List.eq_append_cons_of_mem hm
    have hs : t.size = a.length + 1 + b.length := by
      have : t.data.toList.length = t.size := by rw [Array.length_toList]; rfl
      rw [e] at this; simp at this; omega
    refine .inr ⟨a.length, by rw [e]; exact idxB_at ha, by omega, ?_⟩
    have e1 : t.extract 0 (a.length + 1) = ⟨(a ++ [10]).toArray⟩ := by
      apply ByteArray.ext
      apply Array.toList_inj.1
      rw [ByteArray.data_extract, Array.toList_extract, e]
      have : a ++ 10 :: b = (a ++ [10]) ++ b := by simp
      rw [this]
      show List.take (a.length + 1 - 0) (List.drop 0 _) = _
      rw [List.drop_zero, List.take_append_of_le_length (by simp), List.take_of_length_le (by simp)]
    have e2 : (t.extract (a.length + 1) t.size).data.toList = b := by
      rw [ByteArray.data_extract, Array.toList_extract, e, hs]
      simp [List.extract]
    rw [e1, e2, e, liN_sep ha]
  · refine .inl ⟨idxB_no hm, ?_⟩
    rw [liN_no hm (fun e => by
      have : t.data.toList.length = t.size := by rw [Array.length_toList]; rfl
      rw [e] at this; simp at this; omega)]

def encL (x : ByteArray) : Array Value := #[.string x]
def bxSz (W : World) (Bs : Nat) : Nat := match W.cell? ⟨Bs, 0, none⟩ with | some (.string s) => s.size | _ => 0
theorem bxSz_of {W : World} {Bs : Nat} {s : ByteArray} (h : Boxed W Bs 9 (.string s)) : bxSz W Bs = s.size := by unfold bxSz; rw [h.cell]
theorem sl_to (s : ByteArray) (k : Nat) (h : k ≤ s.size) (w : World) :
    (Instr.slice 9 (.string s) none (some (.int .i64 k)) none).run Tryd.prog w = .ok (.string (s.extract 0 k)) w := by
  have := run_slice_string_to_if (P := Tryd.prog) (w := w) 9 s .i64 (k : Int) Tryd.underlying9
  rw [if_pos (by omega)] at this
  simpa using this
theorem sl_from (s : ByteArray) (k : Nat) (h : k ≤ s.size) (w : World) :
    (Instr.slice 9 (.string s) (some (.int .i64 k)) none none).run Tryd.prog w = .ok (.string (s.extract k s.size)) w := by
  have := run_slice_string_from_if (P := Tryd.prog) (w := w) 9 s .i64 (k : Int) Tryd.underlying9
  rw [if_pos (by omega)] at this
  simpa using this

set_option maxRecDepth 100000 in
set_option maxHeartbeats 4000000 in
theorem lines1_in (n l Bs : Nat) (L : List ByteArray) (s0 : ByteArray) (hs0 : s0.size ≤ 100000) (hL : L = liN s0.data.toList) (J : List ByteArray → World → Prop) (Jx : World → Prop)
    (hJ : ∀ s A B row, J s A → A.grownBy B row → (row = none ∨ row = some Bs) → J s B)
    (hY : ∀ pre x rest W, L = pre ++ x :: rest → J pre W → YieldAt Fence.wide (n - 1) Tryd.prog l (encL x) W fun e W' =>
      (e = .returned (.bool true) ∧ J (pre ++ [x]) W' ∧ W'.heap[Bs]? = W.heap[Bs]?) ∨ (e = .returned (.bool false) ∧ Jx W'))
    (W : World) (hBs : Boxed W Bs 9 (.string s0)) (h0 : J [] W) :
    CallsIn Fence.wide n Tryd.prog 57 #[.func (.yield l) #[] #[], .pointer (some ⟨Bs, 0, none⟩)] W fun e W' => (∃ v, e = .returned v) ∧ (J L W' ∨ Jx W') := by
  refine callsIn_of_wp Tryd.func57 rfl trivial ?_ rfl
  simp only [Tryd.ntmps57, List.size_toArray, List.length_cons, List.length_nil, Nat.reduceAdd, Nat.reduceSub, Array.replicate_succ, Array.replicate_zero, List.push_toArray, List.append_toArray, List.nil_append, List.cons_append]
  gi_wp2
  gi_loopw [3] (fun _ wr => ∃ (pre : List ByteArray) (s : ByteArray), J pre wr ∧ Boxed wr Bs 9 (.string s) ∧ L = pre ++ liN s.data.toList ∧ s.size ≤ 100000)
    (fun _ wr => bxSz wr Bs)
  case atStart => exact ⟨[], s0, h0, hBs, hL, hs0⟩
  case round =>
    obtain ⟨pre, s, hj, hb, hL2, hs⟩ := hrel
    have hc := hb.cell
    have hf := hb.frozen
    by_cases h0s : 0 < s.size
    · have hlt : (0 : Int) < (s.size : Int) := by omega
      have IB : ∀ w : World, Calls Tryd.prog 58 #[.string s, .int .u8 10] w fun e w' => e = .returned (.int .i64 (Lib.indexByte s.data.toList 10)) ∧ w' = w := fun w => Tryd.strings_IndexByte s 10 w
      rcases liN_step s h0s with ⟨hi, he⟩ | ⟨k, hi, hk, he⟩
      · rw [hi] at IB
        rw [he] at hL2
        obtain ⟨fn, tmps, assign, body, hy, hR⟩ := hY pre s [] (wr.setCell ⟨Bs, 0, none⟩ (.string ⟨#[]⟩)) hL2 (hJ _ _ _ _ hj (grownBy_setCell' _ _ _) (.inr rfl))
        dsimp only [encL] at hy
        have hmx : Tryd.prog.follows .mixedOrders = true := by kernel_rfl
        have HB : Hid (Boxed (wr.setCell ⟨Bs, 0, none⟩ (.string ⟨#[]⟩)) Bs 9 (.string ⟨#[]⟩)) := Lib.hid (hb.set _)
        have HR2 : Hid (RoundIn Fence.wide (n - 1) Tryd.prog l fn tmps assign body (wr.setCell ⟨Bs, 0, none⟩ (.string ⟨#[]⟩)) fun e W' => ∃ bb : Bool, e = .returned (.bool bb) ∧ Hid ((bb = true ∧ J L W' ∧ Boxed W' Bs 9 (.string ⟨#[]⟩)) ∨ (bb = false ∧ Jx W'))) := by
          refine hR.mono ?_
          rintro e W3 (⟨rfl, h1, h2⟩ | ⟨rfl, h⟩)
          · exact ⟨true, rfl, .inl ⟨rfl, by rw [hL2]; exact h1, h2.trans HB.out⟩⟩
          · exact ⟨false, rfl, .inr ⟨rfl, h⟩⟩
        clear hR HB
        gi_wp2
        refine ⟨trivial, (fun h => by cases h), (callsIn_wide.2 (IB _)).mono ?_⟩
        rintro e w1 ⟨rfl, hw⟩
        subst hw
        gi_wp2
        refine ⟨(fun h => by cases h), HR2.out.mono ?_⟩
        rintro e W3 ⟨bb, rfl, h3⟩
        rcases h3.out with ⟨rfl, hJ3, hB3⟩ | ⟨rfl, hJx3⟩
        · gi_wp2
          go_roundw
          case rel => exact ⟨_, ⟨#[]⟩, hJ3, hB3, by show L = L ++ liN []; rw [liN_nil, List.append_nil], by show 0 ≤ _; omega⟩
          case measure => rw [bxSz_of hB3, bxSz_of hb]; show 0 < _; omega
        · gi_wp2
          refine bodyPost_ret (results_none rfl _ _ _) rfl ?_
          exact ⟨⟨_, rfl⟩, .inr hJx3⟩
      · rw [hi] at IB
        rw [he] at hL2
        have hJd : J pre ((wr.setCell ⟨Bs, 0, none⟩ (.string (s.extract (k + 1) s.size))).drew) := hJ pre (wr.setCell ⟨Bs, 0, none⟩ (.string (s.extract (k + 1) s.size))) _ none (hJ _ _ _ _ hj (grownBy_setCell' _ _ _) (.inr rfl)) ⟨rfl, rfl, rfl, Nat.le_refl _, fun _ _ _ => rfl⟩ (.inl rfl)
        obtain ⟨fn, tmps, assign, body, hy, hR⟩ := hY pre _ _ ((wr.setCell ⟨Bs, 0, none⟩ (.string (s.extract (k + 1) s.size))).drew) hL2 hJd
        dsimp only [encL] at hy
        have hmx : Tryd.prog.follows .mixedOrders = true := by kernel_rfl
        have HB : Hid (Boxed ((wr.setCell ⟨Bs, 0, none⟩ (.string (s.extract (k + 1) s.size))).drew) Bs 9 (.string (s.extract (k + 1) s.size))) := Lib.hid (Boxed.set (v := .string s) _ hb)
        have HR2 : Hid (RoundIn Fence.wide (n - 1) Tryd.prog l fn tmps assign body ((wr.setCell ⟨Bs, 0, none⟩ (.string (s.extract (k + 1) s.size))).drew) fun e W' => ∃ bb : Bool, e = .returned (.bool bb) ∧ Hid ((bb = true ∧ J (pre ++ [s.extract 0 (k + 1)]) W' ∧ Boxed W' Bs 9 (.string (s.extract (k + 1) s.size))) ∨ (bb = false ∧ Jx W'))) := by
          refine hR.mono ?_
          rintro e W3 (⟨rfl, h1, h2⟩ | ⟨rfl, h⟩)
          · exact ⟨true, rfl, .inl ⟨rfl, h1, h2.trans HB.out⟩⟩
          · exact ⟨false, rfl, .inr ⟨rfl, h⟩⟩
        clear hR HB
        have wk : IntKind.i64.wrap ((k : Int) + 1) = (k : Int) + 1 := by simp only [IntKind.wrap_i64]; omega
        have S1 : ∀ w, (Instr.slice 9 (.string s) none (some (.int .i64 ((k : Int) + 1))) none).run Tryd.prog w = .ok (.string (s.extract 0 (k + 1))) w := sl_to s (k + 1) (by omega)
        have S2 : ∀ w, (Instr.slice 9 (.string s) (some (.int .i64 ((k : Int) + 1))) none none).run Tryd.prog w = .ok (.string (s.extract (k + 1) s.size)) w := sl_from s (k + 1) (by omega)
        have k0 : (0 : Int) ≤ (k : Int) := by omega
        have hsx : (s.extract (k + 1) s.size).size = s.size - (k + 1) := by simp
        generalize s.extract (k + 1) s.size = s2 at *
        generalize s.extract 0 (k + 1) = s1 at *
        gi_wp2
        refine ⟨trivial, (fun h => by cases h), (callsIn_wide.2 (IB _)).mono ?_⟩
        rintro e w1 ⟨rfl, hw⟩
        subst hw
        gi_wp2
        refine wpIn_region_tail (free_wide _) 9 hmx (by kernel_rfl) (fun _ _ _ => rfl) ?_
        simp only [List.take_succ_cons, List.take_zero, List.drop_succ_cons, List.drop_zero]
        repeat still_step
        refine wpStill_nil ?_
        gi_wp2
        refine ⟨(fun h => by cases h), HR2.out.mono ?_⟩
        rintro e W3 ⟨bb, rfl, h3⟩
        rcases h3.out with ⟨rfl, hJ3, hB3⟩ | ⟨rfl, hJx3⟩
        · gi_wp2
          go_roundw
          case rel => exact ⟨_, s2, hJ3, hB3, by rw [hL2]; simp, by omega⟩
          case measure => rw [bxSz_of hB3, bxSz_of hb]; omega
        · gi_wp2
          refine bodyPost_ret (results_none rfl _ _ _) rfl ?_
          exact ⟨⟨_, rfl⟩, .inr hJx3⟩
    · have hz : s.size = 0 := by omega
      have hn : ¬ (0 : Int) < (s.size : Int) := by omega
      have hd : s.data.toList = [] := by
        have : s.data.toList.length = s.size := by rw [Array.length_toList]; rfl
        exact List.eq_nil_of_length_eq_zero (by omega)
      rw [hd, liN_nil, List.append_nil] at hL2
      subst hL2
      gi_wp2
      go_end0
      exact ⟨⟨_, rfl⟩, .inl (by rw [← hL]; exact hj)⟩
theorem lines_seq (n Bs : Nat) (s0 : ByteArray) (hs0 : s0.size ≤ 100000) (w : World) (hB : Boxed w Bs 9 (.string s0)) :
    SeqBox Fence.wide n Tryd.prog 57 #[.pointer (some ⟨Bs, 0, none⟩)] encL Bs (liN s0.data.toList) w := fun l J Jx W hW hJ hY h0 =>
  lines1_in n l Bs (liN s0.data.toList) s0 hs0 rfl J Jx hJ hY W (hW.trans hB) h0
theorem lines_any (s : ByteArray) (w : World) :
    Calls Tryd.prog 47 #[.string s] w fun e w' => e = .returned (.func (.func 57) #[] #[.pointer (some ⟨w.heap.size, 0, none⟩)]) ∧ w' = w.alloc (.cells #[.string s] 9) := by
  have hmf : ∀ (fn : Fn) (first cap : Array Value) (w : World), (Instr.makeFunc fn first cap).run Tryd.prog w = .ok (.func fn first cap) w := fun _ _ _ _ => rfl
  go_enter Tryd.func47, Tryd.ntmps47
  go_wp2
  go_ret
  exact ⟨rfl, rfl⟩
end Go.Proofs.YtdjlainhaoaeiaaDoor

/- Package rod: Parse. -/
namespace Go.Proofs.YtdjlainhaoaeiaaDoor
open Go.RowKit Go.Shelf
attribute [local go_sem] Oper.semAt_some

def lf (l : List UInt8) : ByteArray := ⟨(l ++ [10]).toArray⟩
theorem lf_dt (l : List UInt8) : (lf l).data.toList = l ++ [10] := by simp [lf]
theorem liN_eq (t : List UInt8) : liN t = (fl 10 ([], []) t).1.map lf ++ (if (fl 10 ([], []) t).2 = [] then [] else [⟨(fl 10 ([], []) t).2.toArray⟩]) := rfl
theorem flatB_len {f : ByteArray → List UInt8} : ∀ (L : List ByteArray), (∀ x ∈ L, 1 ≤ (f x).length) → L.length ≤ (L.flatMap f).length ∧ ∀ x ∈ L, (f x).length ≤ (L.flatMap f).length
  | [], _ => ⟨by simp, by simp⟩
  | a :: L, h => by
    obtain ⟨h1, h2⟩ := flatB_len L (fun x hx => h x (by simp [hx]))
    have h3 := h a (by simp)
    rw [List.flatMap_cons, List.length_append, List.length_cons]
    refine ⟨by omega, fun x hx => ?_⟩
    rcases List.mem_cons.1 hx with rfl | hx
    · omega
    · have := h2 x hx; omega
theorem liN_ne (t : List UInt8) : ∀ x ∈ liN t, 1 ≤ x.data.toList.length := by
  intro x hx
  rw [liN_eq] at hx
  rcases List.mem_append.1 hx with h | h
  · obtain ⟨l, _, rfl⟩ := List.mem_map.1 h
    rw [lf_dt]; simp
  · split at h
    · cases h
    · rename_i e
      rw [List.mem_singleton] at h
      subst h
      rcases hl : (fl 10 ([], []) t).2 with _ | ⟨a, b⟩
      · exact absurd hl e
      · simp
theorem liN_flat (t : List UInt8) : (liN t).flatMap (fun x => x.data.toList) = t := by
  have h := fl_join 10 t [] []
  rw [liN_eq, List.flatMap_append, List.flatMap_map]
  have : (fun l => (lf l).data.toList) = fun l : List UInt8 => l ++ [10] := by funext l; exact lf_dt l
  rw [this]
  conv => rhs; rw [show t = ([] : List (List UInt8)).flatMap (· ++ [10]) ++ [] ++ t by simp, ← h]
  congr 1
  split
  · rename_i e; rw [e]; rfl
  · simp
theorem liN_len (s : ByteArray) : (liN s.data.toList).length ≤ s.size ∧ ∀ x ∈ liN s.data.toList, x.size ≤ s.size := by
  have h := flatB_len (f := fun x => x.data.toList) _ (liN_ne s.data.toList)
  rw [liN_flat] at h
  have e : ∀ x : ByteArray, x.data.toList.length = x.size := fun x => by rw [Array.length_toList]; rfl
  simp only [e] at h
  exact h
/-- the number of the first line that is no mark -/
def paG : List ByteArray → Nat → Option Nat
  | [], _ => none
  | x :: xs, k => if lnB x.data.toList then paG xs (k + 1) else some (k + 1)
theorem paG_pre {pre : List ByteArray} {k : Nat} (h : paG pre k = none) (x : ByteArray) (rest : List ByteArray) : paG (pre ++ x :: rest) k = if lnB x.data.toList then paG rest (k + pre.length + 1) else some (k + pre.length + 1) := by
  induction pre generalizing k with
  | nil => simp [paG]
  | cons y ys ih =>
    unfold paG at h
    rw [List.cons_append, paG]
    cases hy : lnB y.data.toList with
    | true =>
      rw [hy] at h
      simp only [if_true] at h ⊢
      rw [ih h, List.length_cons]
      rw [show k + 1 + ys.length + 1 = k + (ys.length + 1) + 1 by omega]
    | false => rw [hy] at h; simp at h
theorem paG_snoc {pre : List ByteArray} {k : Nat} (h : paG pre k = none) {x : ByteArray} (hx : lnB x.data.toList = true) : paG (pre ++ [x]) k = none := by
  rw [paG_pre h, hx]; rfl
def mkP (L : List ByteArray) : List (Int × Int) := L.map fun x => lnM x.data.toList
def pnE (s : ByteArray) : Int := if 4096 < s.size then 8 else if (paG (liN s.data.toList) 0).isSome then 3 else roE (mkP (liN s.data.toList))
def pnN (s : ByteArray) : Int := if 4096 < s.size then 0 else ((paG (liN s.data.toList) 0).getD 0 : Nat)
def pnL (s : ByteArray) : List (Int × Int) := if pnE s = 0 then mkP (liN s.data.toList) else []
theorem pn_bad {s : ByteArray} {n : Nat} (hs : s.size ≤ 4096) (h : paG (liN s.data.toList) 0 = some n) : pnE s = 3 ∧ pnN s = n ∧ pnL s = [] := by
  have e : pnE s = 3 := by unfold pnE; rw [if_neg (by omega), h]; rfl
  refine ⟨e, ?_, by unfold pnL; rw [e]; rfl⟩
  unfold pnN; rw [if_neg (by omega), h]; rfl
theorem pn_good {s : ByteArray} (hs : s.size ≤ 4096) (h : paG (liN s.data.toList) 0 = none) : pnE s = roE (mkP (liN s.data.toList)) ∧ pnN s = 0 ∧ pnL s = if roE (mkP (liN s.data.toList)) = 0 then mkP (liN s.data.toList) else [] := by
  have e : pnE s = roE (mkP (liN s.data.toList)) := by unfold pnE; rw [if_neg (by omega), h]; rfl
  refine ⟨e, ?_, by unfold pnL; rw [e]⟩
  unfold pnN; rw [if_neg (by omega), h]; rfl
namespace RP14
theorem bel_dr' {q : Nat} {w W : World} (h : Below q w W) : Below q w W.drew := ⟨h.os, h.tape, h.output, h.size, h.block⟩
theorem dr_cell {W : World} {a : Addr} {v : Value} (h : W.cell? a = some v) : W.drew.cell? a = some v := h
theorem own_gr {w w' : World} {B n size : Nat} {e : TypeId} {v : Value} {xs : List Value} {row : Option Nat} (h : w.ownsRow B e size v n xs) (hg : w.grownBy w' row) (hr : ∀ r, row = some r → r < B) : w'.ownsRow B e size v n xs :=
  World.ownsRow.kept h hg (by
    cases q : v.ownBlock with
    | none => exact .inl rfl
    | some b => exact .inr (fun e2 => by have := (h.lt b q).1; have := hr b e2.symm; omega))
theorem grownBy_set {W : World} (b i : Nat) (v : Value) : W.grownBy (W.setCell ⟨b, i, none⟩ v) (some b) := by
  refine ⟨rfl, rfl, rfl, by simp [World.setCell], fun k hk hne => ?_⟩
  have : b ≠ k := fun e => hne (by rw [e])
  rw [Below.heap_setCell _ _ _ _ (by show k ≠ b; omega)]
/-- the boxes -/
structure PBx (q : Nat) (w W : World) (k : Nat) : Prop where
  r0 : Boxed W q 22 (.slice none 0 0)
  r1 : Boxed W (q + 1) 3 (.int .i64 0)
  r2 : Boxed W (q + 2) 27 (.int .i64 0)
  cn : Boxed W (q + 4) 3 (.int .i64 k)
  bel : Below q w W
theorem PBx.gr {q k : Nat} {w W W' : World} {row : Option Nat} (h : PBx q w W k) (hg : W.grownBy W' row) (hr : ∀ r, row = some r → q + 5 ≤ r ∨ r = q + 3) : PBx q w W' k :=
  have n : ∀ j, j < 5 → j ≠ 3 → some (q + j) ≠ row := fun j hj h3 e => by have := hr _ e.symm; omega
  ⟨h.r0.kept hg (n 0 (by omega) (by omega)), h.r1.kept hg (n 1 (by omega) (by omega)), h.r2.kept hg (n 2 (by omega) (by omega)), h.cn.kept hg (n 4 (by omega) (by omega)), h.bel.grown hg (by have := h.r0.lt; omega) (fun r e => by have := hr r e; omega)⟩
theorem PBx.count {q k : Nat} {w W : World} (h : PBx q w W k) (j : Nat) : PBx q w (W.setCell ⟨q + 4, 0, none⟩ (.int .i64 j)) j :=
  ⟨h.r0.other (by omega) _, h.r1.other (by omega) _, h.r2.other (by omega) _, h.cn.set _, h.bel.setCell (p := ⟨q + 4, 0, none⟩) (by show q ≤ q + 4; omega) _⟩
theorem PBx.bel' {q k : Nat} {w W W' : World} (h : PBx q w W k) (hb : Below W.heap.size W W') : PBx q w W' k :=
  ⟨(hb.block _ h.r0.lt).trans h.r0, (hb.block _ h.r1.lt).trans h.r1, (hb.block _ h.r2.lt).trans h.r2, (hb.block _ h.cn.lt).trans h.cn, h.bel.trans (hb.mono (by have := h.r0.lt; omega))⟩
theorem PBx.put {q k : Nat} {w W : World} (h : PBx q w W k) (v : Value) (n E : Int) : Boxed (((W.setCell ⟨q, 0, none⟩ v).setCell ⟨q + 1, 0, none⟩ (.int .i64 n)).setCell ⟨q + 2, 0, none⟩ (.int .i64 E)) q 22 v ∧
    Boxed (((W.setCell ⟨q, 0, none⟩ v).setCell ⟨q + 1, 0, none⟩ (.int .i64 n)).setCell ⟨q + 2, 0, none⟩ (.int .i64 E)) (q + 1) 3 (.int .i64 n) ∧
    Boxed (((W.setCell ⟨q, 0, none⟩ v).setCell ⟨q + 1, 0, none⟩ (.int .i64 n)).setCell ⟨q + 2, 0, none⟩ (.int .i64 E)) (q + 2) 27 (.int .i64 E) ∧
    Below q w (((W.setCell ⟨q, 0, none⟩ v).setCell ⟨q + 1, 0, none⟩ (.int .i64 n)).setCell ⟨q + 2, 0, none⟩ (.int .i64 E)) :=
  ⟨((h.r0.set _).other (by omega) _).other (by omega) _, ((h.r1.other (by omega) _).set _).other (by omega) _, ((h.r2.other (by omega) _).other (by omega) _).set _,
    ((h.bel.setCell (p := ⟨q, 0, none⟩) (by show q ≤ q; omega) _).setCell (p := ⟨q + 1, 0, none⟩) (by show q ≤ q + 1; omega) _).setCell (p := ⟨q + 2, 0, none⟩) (by show q ≤ q + 2; omega) _⟩
theorem put_heap {q j : Nat} {W : World} (hj : 3 ≤ j) (v : Value) (n E : Int) : (((W.setCell ⟨q, 0, none⟩ v).setCell ⟨q + 1, 0, none⟩ (.int .i64 n)).setCell ⟨q + 2, 0, none⟩ (.int .i64 E)).heap[q + j]? = W.heap[q + j]? := by
  rw [Below.heap_setCell _ _ _ _ (by show _ ≠ q + 2; omega), Below.heap_setCell _ _ _ _ (by show _ ≠ q + 1; omega), Below.heap_setCell _ _ _ _ (by show _ ≠ q; omega)]
/-- the list so far -/
def PRd (q : Nat) (W : World) (l : List (Int × Int)) : Prop := ∃ v, Boxed W (q + 3) 22 v ∧ RM.OwnM W (q + 8) v l
theorem PRd.gr {q : Nat} {W W' : World} {row : Option Nat} {l : List (Int × Int)} (h : PRd q W l) (hg : W.grownBy W' row) (hr : ∀ r, row = some r → r ≠ q + 3 ∧ r < q + 8) : PRd q W' l := by
  obtain ⟨v, h1, h2⟩ := h
  exact ⟨v, h1.kept hg (fun e => (hr _ e.symm).1 rfl), own_gr h2 hg (fun r e => (hr r e).2)⟩
theorem PRd.bel' {q : Nat} {W W' : World} {l : List (Int × Int)} (h : PRd q W l) (hb : Below W.heap.size W W') : PRd q W' l := by
  obtain ⟨v, h1, h2⟩ := h
  exact ⟨v, (hb.block _ h1.lt).trans h1, RM.below h2 hb⟩
end RP14
open RP14
set_option maxRecDepth 100000 in
set_option maxHeartbeats 8000000 in
theorem rodPar_big (s : ByteArray) (w : World) (hs : 4096 < s.size) :
    Calls Tryd.prog 25 #[.string s] w fun e w' => e = .returned (.tuple #[.slice none 0 0, .int .i64 0, .int .i64 8]) ∧ Below w.heap.size w w' := by
  have h1 : (4096 : Int) < (s.size : Int) := by omega
  go_enter Tryd.func25, Tryd.ntmps25
  go_wp2
  go_returns
  exact ⟨rfl, bel_alloc (bel_alloc (bel_alloc (Below.refl _ _)))⟩
set_option maxRecDepth 100000 in
set_option maxHeartbeats 8000000 in
theorem rodPar_some (s : ByteArray) (w : World) (hs : s.size ≤ 4096) (hw : CV w) :
    Calls Tryd.prog 25 #[.string s] w fun e w' => ∃ v, e = .returned (.tuple #[v, .int .i64 (pnN s), .int .i64 (pnE s)]) ∧ Pts w' v (pnL s) ∧ Below w.heap.size w w' := by
  have h1 : ¬ (4096 : Int) < (s.size : Int) := by omega
  have hmx : Tryd.prog.follows .mixedOrders = true := by kernel_rfl
  obtain ⟨i0, hi, hz0, hz1, hz2⟩ := RM.info_parts RM.mk_info
  refine (callsIn_wide (n := 10)).1 ?_
  refine callsIn_of_wp_marks Tryd.func25 rfl trivial ?_ rfl
  simp only [Tryd.ntmps25, List.size_toArray, List.length_cons, List.length_nil, Nat.reduceAdd, Nat.reduceSub, Array.replicate_succ, Array.replicate_zero, List.push_toArray, List.append_toArray, List.nil_append, List.cons_append]
  gi_wp2_with fail
  refine ⟨trivial, (callsIn_wide.2 (lines_any _ _)).mono ?_⟩
  rintro e w3 ⟨rfl, rfl⟩
  gi_wp2_with fail
  obtain ⟨W0, hW0⟩ : ∃ W0, ((((((w.alloc (.cells #[.slice none 0 0] 22)).alloc (.cells #[.int .i64 0] 3)).alloc (.cells #[.int .i64 0] 27)).alloc (.cells #[.slice none 0 0] 22)).alloc (.cells #[.int .i64 0] 3)).alloc (.cells #[.string s] 9)) = W0 := ⟨_, rfl⟩
  have hsz : W0.heap.size = w.heap.size + 6 := by rw [← hW0]; simp
  have B0 : PBx w.heap.size w W0 0 := by
    rw [← hW0]
    refine ⟨?_, ?_, ?_, ?_, ?_⟩
    · exact ((((Boxed.new w _ _).alloc _).alloc _).alloc _).alloc _ |>.alloc _
    · have := Boxed.new (w.alloc (.cells #[.slice none 0 0] 22)) 3 (.int .i64 0)
      rw [World.size_alloc] at this
      exact (((this.alloc _).alloc _).alloc _).alloc _
    · have := Boxed.new ((w.alloc (.cells #[.slice none 0 0] 22)).alloc (.cells #[.int .i64 0] 3)) 27 (.int .i64 0)
      rw [World.size_alloc, World.size_alloc] at this
      exact ((this.alloc _).alloc _).alloc _
    · have := Boxed.new ((((w.alloc (.cells #[.slice none 0 0] 22)).alloc (.cells #[.int .i64 0] 3)).alloc (.cells #[.int .i64 0] 27)).alloc (.cells #[.slice none 0 0] 22)) 3 (.int .i64 0)
      rw [World.size_alloc, World.size_alloc, World.size_alloc, World.size_alloc] at this
      exact this.alloc _
    · exact bel_alloc (bel_alloc (bel_alloc (bel_alloc (bel_alloc (bel_alloc (Below.refl _ _))))))
  have R0 : PRd w.heap.size W0 [] := by
    refine ⟨.slice none 0 0, ?_, RM.nil _ _⟩
    rw [← hW0]
    have := Boxed.new (((w.alloc (.cells #[.slice none 0 0] 22)).alloc (.cells #[.int .i64 0] 3)).alloc (.cells #[.int .i64 0] 27)) 22 (.slice none 0 0)
    rw [World.size_alloc, World.size_alloc, World.size_alloc] at this
    exact (this.alloc _).alloc _
  have BL : Boxed W0 (w.heap.size + 5) 9 (.string s) := by
    rw [← hW0]
    have := Boxed.new (((((w.alloc (.cells #[.slice none 0 0] 22)).alloc (.cells #[.int .i64 0] 3)).alloc (.cells #[.int .i64 0] 27)).alloc (.cells #[.slice none 0 0] 22)).alloc (.cells #[.int .i64 0] 3)) 9 (.string s)
    rwa [World.size_alloc, World.size_alloc, World.size_alloc, World.size_alloc, World.size_alloc] at this
  rw [hW0]
  clear hW0
  refine wpIn_rangeFunc_box (Bs := w.heap.size + 5) (L := liN s.data.toList) (encs := encL) rfl (by omega) (gf := 57) (lb := #[.pointer (some ⟨w.heap.size + 5, 0, none⟩)]) rfl trivial (enters_of Tryd.func57 (by kernel_rfl) rfl)
    (lines_seq 9 (w.heap.size + 5) s (by omega) W0 BL) (by omega) (fun _ => rfl)
    (fun pre W => PBx w.heap.size w W pre.length ∧ PRd w.heap.size W (mkP pre) ∧ paG pre 0 = none)
    (fun _ W => ∃ n : Nat, paG (liN s.data.toList) 0 = some n ∧ Boxed W w.heap.size 22 (.slice none 0 0) ∧ Boxed W (w.heap.size + 1) 3 (.int .i64 n) ∧ Boxed W (w.heap.size + 2) 27 (.int .i64 3) ∧ Below w.heap.size w W)
    (fun s A B row hs hg hr => ⟨hs.1.gr hg (fun r e => by have := hr r e; omega), hs.2.1.gr hg (fun r e => by have := hr r e; omega), hs.2.2⟩)
    (fun c A B row ⟨n, g1, g2, g3, g4, g5⟩ hg hr => by
      have n : ∀ j, j < 5 → some (w.heap.size + j) ≠ row := fun j hj e => by have := hr _ e.symm; omega
      exact ⟨_, g1, g2.kept hg (n 0 (by omega)), g3.kept hg (n 1 (by omega)), g4.kept hg (n 2 (by omega)), g5.grown hg (by have := g2.lt; omega) (fun r e => by have := hr r e; omega)⟩)
    ⟨B0, R0, rfl⟩
    (fun x => { tmps := #[.string s, undef, .pointer (some ⟨w.heap.size, 0, none⟩), .pointer (some ⟨w.heap.size + 1, 0, none⟩), .pointer (some ⟨w.heap.size + 1 + 1, 0, none⟩), .pointer (some ⟨w.heap.size + 1 + 1 + 1, 0, none⟩), .pointer (some ⟨w.heap.size + 1 + 1 + 1 + 1, 0, none⟩), .string x, undef, undef, undef, .string s, .int .i64 s.size, .bool false, .string s, .func (.func 57) #[] #[.pointer (some ⟨w.heap.size + 1 + 1 + 1 + 1 + 1, 0, none⟩)], .string x, undef, undef, undef, undef, undef, undef, undef, undef, undef, undef, undef, undef, undef, undef, undef, undef, undef, undef, undef, undef], defers := [] }) ?assign ?body ?done ?stop
  case assign =>
    intro l x W K hK
    dsimp only [encL]
    gi_wp2
    exact hK
  case body =>
    intro l pre x rest W hL hI hlt
    obtain ⟨hI1, hI2, hI3⟩ := hI
    have c4 := hI1.cn.cell
    have f4 := hI1.cn.frozen
    obtain ⟨m1, m2⟩ := liN_len s
    have hx : x.size ≤ 50000 := Nat.le_trans (m2 x (by rw [hL]; simp)) (by omega)
    have hpl : pre.length ≤ 4096 := by
      rw [hL] at m1; simp at m1; omega
    have hG := paG_pre hI3 x rest
    rw [← hL] at hG
    have wk : IntKind.i64.wrap ((pre.length : Int) + 1) = (pre.length : Int) + 1 := by simp only [IntKind.wrap_i64]; omega
    rw [hsz] at hlt
    have HB : PBx w.heap.size w (W.setCell ⟨w.heap.size + 4, 0, none⟩ (.int .i64 ((pre.length : Int) + 1))) (pre.length + 1) := hI1.count (pre.length + 1)
    have HR := Lib.hid (rodRead_any x (W.setCell ⟨w.heap.size + 4, 0, none⟩ (.int .i64 ((pre.length : Int) + 1))) (hw.below HB.bel) hx)
    have hR1 : PRd w.heap.size (W.setCell ⟨w.heap.size + 4, 0, none⟩ (.int .i64 ((pre.length : Int) + 1))) (mkP pre) := hI2.gr (grownBy_set _ _ _) (fun r e => by cases e; omega)
    have hlt1 : w.heap.size + 7 < (W.setCell ⟨w.heap.size + 4, 0, none⟩ (.int .i64 ((pre.length : Int) + 1))).heap.size := by simpa [World.setCell] using hlt
    have ek1 : ∀ j, 5 ≤ j → j < 8 → (W.setCell ⟨w.heap.size + 4, 0, none⟩ (.int .i64 ((pre.length : Int) + 1))).heap[w.heap.size + j]? = W.heap[w.heap.size + j]? := fun j h5 h8 => Below.heap_setCell _ _ _ _ (by show w.heap.size + j ≠ w.heap.size + 4; omega)
    have HBh := Lib.hid HB
    clear HB
    gi_wp2_with fail
    refine ⟨trivial, (CallsIn.inRound l (callsIn_wide.2 HR.out)).mono ?_⟩
    rintro e W3 ⟨rfl, gg⟩
    have HB3 := HBh.out.bel' gg
    have R3 := hR1.bel' gg
    have ek : ∀ j, 5 ≤ j → j < 8 → W3.heap[w.heap.size + j]? = W.heap[w.heap.size + j]? := fun j h5 h8 => (gg.block _ (by omega)).trans (ek1 j h5 h8)
    have hlt3 : w.heap.size + 7 < W3.heap.size := Nat.lt_of_lt_of_le hlt1 gg.size
    clear gg HR HBh hR1 c4 f4 ek1 hlt1
    generalize hM : lnM x.data.toList = mk at *
    obtain ⟨mh, mv⟩ := mk
    have B4 := HB3.gr (World.grownBy_alloc W3 (.cells #[.int .i64 mh, .int .i64 mv] 39) none) (fun r e => by cases e)
    have R4 := R3.gr (World.grownBy_alloc W3 (.cells #[.int .i64 mh, .int .i64 mv] 39) none) (fun r e => by cases e)
    have ek4 : ∀ j, 5 ≤ j → j < 8 → (W3.alloc (.cells #[.int .i64 mh, .int .i64 mv] 39)).heap[w.heap.size + j]? = W.heap[w.heap.size + j]? := fun j h5 h8 => (Below.heap_alloc _ _ _ (by omega)).trans (ek j h5 h8)
    obtain ⟨n0, n1, _, _, _⟩ := Two.new W3 (.int .i64 mh) (.int .i64 mv) 39
    cases hb : lnB x.data.toList with
    | false =>
      rw [hb] at hG
      have hp : paG (liN s.data.toList) 0 = some (pre.length + 1) := by rw [hG]; simp
      have c0 := B4.r0.cell
      have f0 := B4.r0.frozen
      have c1 := B4.r1.cell
      have f1 := B4.r1.frozen
      have c2 := B4.r2.cell
      have f2 := B4.r2.frozen
      have c4 : (W3.alloc (.cells #[.int .i64 mh, .int .i64 mv] 39)).cell? ⟨w.heap.size + 4, 0, none⟩ = some (.int .i64 ((pre.length : Int) + 1)) := B4.cn.cell
      have END := B4.put (.slice none 0 0) ((pre.length : Int) + 1) 3
      have e6 : ((((W3.alloc (.cells #[.int .i64 mh, .int .i64 mv] 39)).setCell ⟨w.heap.size, 0, none⟩ (.slice none 0 0)).setCell ⟨w.heap.size + 1, 0, none⟩ (.int .i64 ((pre.length : Int) + 1))).setCell ⟨w.heap.size + 2, 0, none⟩ (.int .i64 3)).heap[W0.heap.size]? = W.heap[W0.heap.size]? := by
        rw [hsz]; exact (put_heap (q := w.heap.size) (j := 6) (by omega) _ _ _).trans (ek4 6 (by omega) (by omega))
      have e7 : ((((W3.alloc (.cells #[.int .i64 mh, .int .i64 mv] 39)).setCell ⟨w.heap.size, 0, none⟩ (.slice none 0 0)).setCell ⟨w.heap.size + 1, 0, none⟩ (.int .i64 ((pre.length : Int) + 1))).setCell ⟨w.heap.size + 2, 0, none⟩ (.int .i64 3)).heap[W0.heap.size + 1]? = W.heap[W0.heap.size + 1]? := by
        rw [hsz]; exact (put_heap (q := w.heap.size) (j := 7) (by omega) _ _ _).trans (ek4 7 (by omega) (by omega))
      gi_wp2_with fail
      gi_region
      all_goals
        gi_wp2
        exact ⟨e6, e7, pre.length + 1, hp, END.1, END.2.1, END.2.2.1, (bel_dr' END.2.2.2)⟩
    | true =>
      obtain ⟨v5, bv5, own5⟩ := R4
      have c3 := bv5.cell
      have hB5 := B4.gr (World.grownBy_alloc (W3.alloc (.cells #[.int .i64 mh, .int .i64 mv] 39)) (.cells #[.int .i64 mh, .int .i64 mv] 39) none) (fun r e => by cases e)
      have bv6 := bv5.alloc (.cells #[.int .i64 mh, .int .i64 mv] 39)
      have hln : (mkP pre).length = pre.length := by unfold mkP; simp
      have OA : ((W3.alloc (.cells #[.int .i64 mh, .int .i64 mv] 39)).alloc (.cells #[.int .i64 mh, .int .i64 mv] 39)).ownsRow (w.heap.size + 8) 39 2 v5 pre.length (flat (mkP pre)) := by
        have := RM.below own5 (bel_alloc (o := .cells #[.int .i64 mh, .int .i64 mv] 39) (Below.refl _ _))
        unfold RM.OwnM at this
        rwa [hln] at this
      have CN := RM.pair_new (W3.alloc (.cells #[.int .i64 mh, .int .i64 mv] 39)) mh mv 39
      rw [World.size_alloc] at CN
      have PK : mkP (pre ++ [x]) = mkP pre ++ [(mh, mv)] := by unfold mkP; rw [List.map_append, List.map_singleton, hM]
      have ek5 : ∀ j, 5 ≤ j → j < 8 → ((W3.alloc (.cells #[.int .i64 mh, .int .i64 mv] 39)).alloc (.cells #[.int .i64 mh, .int .i64 mv] 39)).heap[w.heap.size + j]? = W.heap[w.heap.size + j]? := fun j h5 h8 => (Below.heap_alloc _ _ _ (by rw [World.size_alloc]; omega)).trans (ek4 j h5 h8)
      gi_wp2_with (gi_at_builtin; refine wpListIn_append_own _ rfl _ _ 22 rfl (w.heap.size + 8) 39 i0 (.agg #[.int .i64 0, .int .i64 0]) 2 16 Tryd.underlying22 hi hz0 hz1 hz2 rfl (by decide) _ _ _ rfl OA ⟨W3.heap.size + 1, 0, none⟩ 1 1 [.int .i64 mh, .int .i64 mv] rfl rfl CN (RM.pair_one mh mv) (by unfold maxLen; omega) (by omega) (by simp; omega) ?_; intro v' w1 hown' hgrow _; have lt := fun r hr => (World.ownsRow.lt OA r hr).1; have SN := RM.push PK hln hown'; obtain ⟨a9, c9, rfl⟩ := RM.shape SN; have bv7 := bv6.kept hgrow (fun e => by have := lt _ e.symm; omega); have c7 := bv7.cell; have f7 := bv7.frozen)
      have g7 : ∀ v, w1.grownBy (w1.setCell ⟨w.heap.size + 3, 0, none⟩ v) (some (w.heap.size + 3)) := fun v => grownBy_set _ _ _
      have ek6 : ∀ v j, 5 ≤ j → j < 8 → (w1.setCell ⟨w.heap.size + 3, 0, none⟩ v).heap[w.heap.size + j]? = W.heap[w.heap.size + j]? := fun v j h5 h8 => (Below.heap_setCell _ _ _ _ (by show w.heap.size + j ≠ w.heap.size + 3; omega)).trans ((hgrow.block (w.heap.size + j) (by simp; omega) (fun e => by have := lt _ e.symm; omega)).trans (ek5 j h5 h8))
      have e9 : (mkP (pre ++ [x])).length = pre.length + 1 := by unfold mkP; simp
      have SN2 := SN
      rw [e9] at SN2
      refine ⟨ek6 _ 5 (by omega) (by omega), ?_, ?_, ?_, ⟨_, bv7.set _, own_gr SN2 (g7 _) (fun r e => by cases e; omega)⟩, paG_snoc hI3 hb⟩
      · rw [hsz]; exact ek6 _ 6 (by omega) (by omega)
      · rw [hsz]; exact ek6 _ 7 (by omega) (by omega)
      · rw [List.length_append]
        exact (hB5.gr hgrow (fun r e => .inl (by have := lt r e; omega))).gr (g7 _) (fun r e => by cases e; right; rfl)
  case done =>
    rintro W ⟨I1, ⟨v, bv, own⟩, hI3⟩ hD
    rw [hsz] at hD ⊢
    obtain ⟨p1, p2, p3⟩ := pn_good hs hI3
    have hpt := RM.pts own
    obtain ⟨a, cap, rfl⟩ := RM.shape own
    have c0 := I1.r0.cell
    have f0 := I1.r0.frozen
    have c1 := I1.r1.cell
    have f1 := I1.r1.frozen
    have c2 := I1.r2.cell
    have f2 := I1.r2.frozen
    have c3 := bv.cell
    have HL := Lib.hid (rodChk_any _ (mkP (liN s.data.toList)) W hpt)
    gi_wp2_with fail
    refine ⟨trivial, (callsIn_wide.2 HL.out).mono ?_⟩
    rintro e w4 ⟨rfl, gg⟩
    have I4 : PBx w.heap.size w w4 (liN s.data.toList).length := I1.bel' gg
    have hK4 : w4.heap[w.heap.size + 6]? = some (.deferred (some [])) := (gg.block _ (Array.getElem?_eq_some_iff.1 hD).1).trans hD
    have y1 : w4.cell? ⟨w.heap.size + 3, 0, none⟩ = some (.slice a (mkP (liN s.data.toList)).length cap) := cell_bel c3 gg
    have O4 := RM.below own gg
    clear c0 f0 c1 f1 c2 f2 c3 HL
    have c0 := I4.r0.cell
    have f0 := I4.r0.frozen
    have c1 := I4.r1.cell
    have f1 := I4.r1.frozen
    have c2 := I4.r2.cell
    have f2 := I4.r2.frozen
    by_cases hE : roE (mkP (liN s.data.toList)) = 0
    · have END := I4.put (.slice a (mkP (liN s.data.toList)).length cap) 0 0
      have hK0 := (put_heap (q := w.heap.size) (j := 6) (W := w4) (by omega) (.slice a (mkP (liN s.data.toList)).length cap) 0 0).trans hK4
      rw [hE]
      generalize mkP (liN s.data.toList) = LL at *
      gi_wp2
      obtain ⟨WF, hWF⟩ : ∃ WF : World, WF = (((w4.setCell ⟨w.heap.size, 0, none⟩ (.slice a LL.length cap)).setCell ⟨w.heap.size + 1, 0, none⟩ (.int .i64 0)).setCell ⟨w.heap.size + 1 + 1, 0, none⟩ (.int .i64 0)) := ⟨_, rfl⟩
      rw [← hWF]
      have x0 : WF.cell? ⟨w.heap.size, 0, none⟩ = some (.slice a LL.length cap) := by rw [hWF]; exact END.1.cell
      have x1 : WF.cell? ⟨w.heap.size + 1, 0, none⟩ = some (.int .i64 0) := by rw [hWF]; exact END.2.1.cell
      have x2 : WF.cell? ⟨w.heap.size + 2, 0, none⟩ = some (.int .i64 0) := by rw [hWF]; exact END.2.2.1.cell
      have xb : Below w.heap.size w WF := by rw [hWF]; exact END.2.2.2
      have hK : WF.heap[w.heap.size + 6]? = some (.deferred (some [])) := by rw [hWF]; exact hK0
      have hO5 : RM.OwnM WF (w.heap.size + 8) (.slice a LL.length cap) LL := by rw [hWF]; exact own_gr (own_gr (own_gr O4 (grownBy_set _ _ _) (fun r e => by cases e; omega)) (grownBy_set _ _ _) (fun r e => by cases e; omega)) (grownBy_set _ _ _) (fun r e => by cases e; omega)
      clear hK0 END
      clear hWF
      refine ⟨by simp, .inl ⟨_, _, rfl, run_takeDeferred hK, ?_⟩⟩
      have hc0 := cell_kept x0 (grownBy_putObj' _ (w.heap.size + 6) (.deferred none)) (fun r e => by cases e; exact ⟨_, hK, rfl⟩)
      have hc1 := cell_kept x1 (grownBy_putObj' _ (w.heap.size + 6) (.deferred none)) (fun r e => by cases e; exact ⟨_, hK, rfl⟩)
      have hc2 := cell_kept x2 (grownBy_putObj' _ (w.heap.size + 6) (.deferred none)) (fun r e => by cases e; exact ⟨_, hK, rfl⟩)
      rw [p1, p2, p3, if_pos hE, hE]
      refine ⟨.tuple #[(.slice a LL.length cap), .int .i64 0, .int .i64 0], ?_, (.slice a LL.length cap), rfl, RM.pts (own_gr hO5 (grownBy_putObj' _ _ _) (fun r e => by cases e; omega)), xb.trans (belowK_b (w := w) (Nat.le_refl _) _ (w.heap.size + 6) _ _ (by omega) hK rfl rfl)⟩
      simp [results, Tryd.results25, go_sem, hc0, hc1, hc2]
    · have hne : (roE (mkP (liN s.data.toList)) != 0) = true := by simp [hE]
      generalize mkP (liN s.data.toList) = LL at *
      generalize roE LL = E at *
      have END := I4.put (.slice none 0 0) 0 E
      have hK0 := (put_heap (q := w.heap.size) (j := 6) (W := w4) (by omega) (.slice none 0 0) 0 E).trans hK4
      gi_wp2
      obtain ⟨WF, hWF⟩ : ∃ WF : World, WF = (((w4.setCell ⟨w.heap.size, 0, none⟩ (.slice none 0 0)).setCell ⟨w.heap.size + 1, 0, none⟩ (.int .i64 0)).setCell ⟨w.heap.size + 1 + 1, 0, none⟩ (.int .i64 E)) := ⟨_, rfl⟩
      rw [← hWF]
      have x0 : WF.cell? ⟨w.heap.size, 0, none⟩ = some (.slice none 0 0) := by rw [hWF]; exact END.1.cell
      have x1 : WF.cell? ⟨w.heap.size + 1, 0, none⟩ = some (.int .i64 0) := by rw [hWF]; exact END.2.1.cell
      have x2 : WF.cell? ⟨w.heap.size + 2, 0, none⟩ = some (.int .i64 E) := by rw [hWF]; exact END.2.2.1.cell
      have xb : Below w.heap.size w WF := by rw [hWF]; exact END.2.2.2
      have hK : WF.heap[w.heap.size + 6]? = some (.deferred (some [])) := by rw [hWF]; exact hK0
      clear hK0 END
      clear hWF
      refine ⟨by simp, .inl ⟨_, _, rfl, run_takeDeferred hK, ?_⟩⟩
      have hc0 := cell_kept x0 (grownBy_putObj' _ (w.heap.size + 6) (.deferred none)) (fun r e => by cases e; exact ⟨_, hK, rfl⟩)
      have hc1 := cell_kept x1 (grownBy_putObj' _ (w.heap.size + 6) (.deferred none)) (fun r e => by cases e; exact ⟨_, hK, rfl⟩)
      have hc2 := cell_kept x2 (grownBy_putObj' _ (w.heap.size + 6) (.deferred none)) (fun r e => by cases e; exact ⟨_, hK, rfl⟩)
      rw [p1, p2, p3, if_neg hE]
      refine ⟨.tuple #[(.slice none 0 0), .int .i64 0, .int .i64 E], ?_, (.slice none 0 0), rfl, pts_nil _, xb.trans (belowK_b (w := w) (Nat.le_refl _) _ (w.heap.size + 6) _ _ (by omega) hK rfl rfl)⟩
      simp [results, Tryd.results25, go_sem, hc0, hc1, hc2]
  case stop =>
    rintro W ⟨n, g1, g2, g3, g4, g5⟩ hK
    gi_wp2
    refine ⟨by simp, .inl ⟨_, _, rfl, run_takeDeferred hK, ?_⟩⟩
    have hc0 := cell_kept g2.cell (grownBy_putObj' _ W0.heap.size (.deferred none)) (fun r e => by cases e; exact ⟨_, hK, rfl⟩)
    have hc1 := cell_kept g3.cell (grownBy_putObj' _ W0.heap.size (.deferred none)) (fun r e => by cases e; exact ⟨_, hK, rfl⟩)
    have hc2 := cell_kept g4.cell (grownBy_putObj' _ W0.heap.size (.deferred none)) (fun r e => by cases e; exact ⟨_, hK, rfl⟩)
    obtain ⟨p1, p2, p3⟩ := pn_bad hs g1
    rw [p1, p2, p3]
    refine ⟨.tuple #[(.slice none 0 0), .int .i64 (n : Int), .int .i64 3], ?_, (.slice none 0 0), rfl, pts_nil _, (g5).trans (belowK_b (w := w) (Nat.le_refl _) _ W0.heap.size _ _ (by omega) hK rfl rfl)⟩
    simp [results, Tryd.results25, go_sem, hc0, hc1, hc2]
theorem rodPar_any (s : ByteArray) (w : World) (hw : CV w) :
    Calls Tryd.prog 25 #[.string s] w fun e w' => ∃ v, e = .returned (.tuple #[v, .int .i64 (pnN s), .int .i64 (pnE s)]) ∧ Pts w' v (pnL s) ∧ Below w.heap.size w w' := by
  by_cases h : s.size ≤ 4096
  · exact rodPar_some s w h hw
  · have e : pnE s = 8 := by unfold pnE; rw [if_pos (by omega)]
    have e1 : pnN s = 0 := by unfold pnN; rw [if_pos (by omega)]
    have e2 : pnL s = [] := by unfold pnL; rw [e]; rfl
    rw [e, e1, e2]
    refine (rodPar_big s w (by omega)).mono ?_
    rintro e w' ⟨rfl, hb⟩
    exact ⟨_, rfl, pts_nil _, hb⟩
end Go.Proofs.YtdjlainhaoaeiaaDoor

/- What is kept by blocks that are laid, and by stores elsewhere. -/
namespace Go.Proofs.YtdjlainhaoaeiaaDoor
open Go.RowKit

theorem bA {w Y : World} (h : Below w.heap.size w Y) (o : Obj) : Below w.heap.size w (Y.alloc o) := h.alloc h.size o
theorem bS {w Y : World} (g i : Nat) (v : Value) (h : Below w.heap.size w Y) (hg : w.heap.size ≤ g) : Below w.heap.size w (Y.setCell ⟨g, i, none⟩ v) := h.setCell (p := ⟨g, i, none⟩) hg v
theorem Two.newAt {P : Nat} (W : World) (x y : Value) (T : TypeId) (h : P = W.heap.size) : Two P (W.alloc (.cells #[x, y] T)) x y := by subst h; exact Two.new W x y T
theorem Two.both {b : Nat} {W : World} {x y : Value} (u v : Value) (h : Two b W x y) : Two b ((W.setCell ⟨b, 0, none⟩ u).setCell ⟨b, 1, none⟩ v) u v := (h.set0 u).set1 v
theorem Two.apart {b : Nat} {W : World} {x y : Value} (g i : Nat) (v : Value) (h : Two b W x y) (hp : g ≠ b) : Two b (W.setCell ⟨g, i, none⟩ v) x y := h.other ⟨g, i, none⟩ hp v
theorem cell_al {W : World} {a : Addr} {v : Value} (o : Obj) (h : W.cell? a = some v) : (W.alloc o).cell? a = some v := by rw [World.cell?_alloc_lt W o _ (World.block_lt_of_cell? W _ h)]; exact h
theorem two_kept {b : Nat} {A B : World} {x y : Value} {row : Option Nat} (h : Two b A x y) (hg : A.grownBy B row) (hr : ∀ r, row = some r → ∃ o : Obj, A.heap[r]? = some o ∧ o.isCells = false) : Two b B x y := by
  obtain ⟨h0, h1, h2, h3, h4⟩ := h
  exact ⟨cell_kept h0 hg hr, cell_kept h1 hg hr, (frozen_kept h0 hg hr).trans h2, (frozen_kept h1 hg hr).trans h3, Nat.lt_of_lt_of_le h4 hg.size⟩

theorem keeps_set2 {W X : World} (B : Nat) (p q : Addr) (u v : Value) (h : Below W.heap.size W X) : KeepsFrom B W ((X.setCell p u).setCell q v) := by
  have h0 : KeepsOthers W X := ⟨h.size, fun k o hk _ => by
    have hlt : k < W.heap.size := (Array.getElem?_eq_some_iff.1 hk).1
    rw [h.block k hlt]; exact hk⟩
  exact ((h0.trans (KeepsOthers.setCell _ _ _)).trans (KeepsOthers.setCell _ _ _)).from B
theorem cell_apart {W : World} {b i g j : Nat} {v : Value} (u : Value) (h : W.cell? ⟨b, i, none⟩ = some v) (hn : b ≠ g) : (W.setCell ⟨g, j, none⟩ u).cell? ⟨b, i, none⟩ = some v := by
  rw [World.cell?_setCell_other _ _ _ _ (fun e => by injection e; omega)]; exact h

end Go.Proofs.YtdjlainhaoaeiaaDoor

/- Package rod: Print. -/
namespace Go.Proofs.YtdjlainhaoaeiaaDoor
open Go.RowKit

/-- the line of a mark -/
def mkN (q : Int × Int) : List UInt8 := Lib.itoa q.1 ++ [32] ++ Lib.itoa q.2 ++ [10]
/-- the lines of the first k marks -/
def roK (l : List (Int × Int)) (k : Nat) : List UInt8 := (List.range k).flatMap fun j => mkN (gX l j, gR l j)
theorem roK_succ (l : List (Int × Int)) (k : Nat) : roK l (k + 1) = roK l k ++ mkN (gX l k, gR l k) := by
  unfold roK
  rw [List.range_succ, List.flatMap_append]
  simp
theorem mkN_len {x v : Int} (hx : 0 ≤ x ∧ x ≤ 200000) (hv : 0 ≤ v ∧ v ≤ 4294967296) : (Lib.itoa x).length ≤ 21 ∧ (Lib.itoa v).length ≤ 21 ∧ (mkN (x, v)).length ≤ 44 := by
  have i1 := Lib.itoa_length_le x (by omega) (by omega)
  have i2 := Lib.itoa_length_le v (by omega) (by omega)
  refine ⟨i1, i2, ?_⟩
  unfold mkN
  simp only [List.length_append, List.length_singleton]
  omega
theorem roK_len {l : List (Int × Int)} {n : Nat} (h : ∀ j, j < n → (0 ≤ gX l j ∧ gX l j ≤ 200000) ∧ 0 ≤ gR l j ∧ gR l j ≤ 4294967296) (k : Nat) (hk : k ≤ n) : (roK l k).length ≤ 44 * k := by
  induction k with
  | zero => simp [roK]
  | succ k ih =>
    have := ih (by omega)
    have m := (mkN_len (h k (by omega)).1 (h k (by omega)).2).2.2
    rw [roK_succ, List.length_append]; omega
namespace RW
/-- what stands while Print writes: the builder in block b with the bytes tx; block q -/
def PS (w W : World) (b q : Nat) (tx : List UInt8) (o : Obj) : Prop := Below w.heap.size w W ∧ Bld W b b tx ∧ w.heap.size ≤ b ∧ b < q ∧ W.heap[q]? = some o
theorem PS.below {w W W' : World} {b q : Nat} {tx : List UInt8} {o : Obj} (h : PS w W b q tx o) (hb : Below W.heap.size W W') : PS w W' b q tx o := by
  obtain ⟨h1, h2, h3, h4, h5⟩ := h
  exact ⟨bel_trans h1 hb, h2.below hb, h3, h4, by rw [hb.block _ (Array.getElem?_eq_some_iff.1 h5).1]; exact h5⟩
theorem PS.new {w W : World} {b : Nat} {tx : List UInt8} (h1 : Below w.heap.size w W) (h2 : Bld W b b tx) (h3 : w.heap.size ≤ b) (o : Obj) : PS w (W.alloc o) b W.heap.size tx o :=
  ⟨h1.alloc h1.size o, h2.alloc o, h3, h2.lt, (MapKept.heap_alloc W _).1⟩
theorem PS.cells {w W : World} {b q : Nat} {tx : List UInt8} {cs : Array Value} {T : TypeId} (h : PS w W b q tx (.cells cs T)) (j : Nat) : W.cell? ⟨q, j, none⟩ = cs[j]? := Lib.cell_of_heap h.2.2.2.2 j
theorem PS.write {w W : World} {b q : Nat} {tx : List UInt8} {o : Obj} (h : PS w W b q tx o) (ho : ∀ c fz, o ≠ .cells c 5 fz) (s : ByteArray) (hs : tx.length + s.size ≤ 100000000000000) :
    Calls Tryd.prog 44 #[.pointer (some ⟨b, 0, none⟩), .string s] W fun e w' => e = .returned (.tuple #[.int .i64 s.size, .nilIface]) ∧ PS w w' b q (tx ++ s.data.toList) o := by
  obtain ⟨h1, h2, h3, h4, h5⟩ := h
  refine (writeS_any b b tx s W h2 hs (Nat.le_of_lt h2.lt)).mono ?_
  rintro e w' ⟨rfl, g1, g2, g3⟩
  exact ⟨rfl, h1.trans (g2.mono h3), g1, h3, h4, g3 q o h5 (by intro e; injection e; omega) ho⟩
/-- the builder alone -/
def PB (w W : World) (b : Nat) (tx : List UInt8) : Prop := Below w.heap.size w W ∧ Bld W b b tx ∧ w.heap.size ≤ b
theorem PS.bld {w W : World} {b q : Nat} {tx : List UInt8} {o : Obj} (h : PS w W b q tx o) : PB w W b tx := ⟨h.1, h.2.1, h.2.2.1⟩
end RW
open RW
set_option maxHeartbeats 4000000 in
theorem rodPr_bad (v : Value) (E : Int) (w : World) (e2 : (E != 0) = true)
    (H1 : Hid (Calls Tryd.prog 21 #[v] w fun e w' => e = .returned (.int .i64 E) ∧ Below w.heap.size w w')) :
    Calls Tryd.prog 23 #[v] w fun e w' => e = .returned (.tuple #[str [], .int .i64 E]) ∧ Below w.heap.size w w' := by
  go_enter Tryd.func23, Tryd.ntmps23
  go_wp2_with fail
  refine H1.out.mono ?_
  rintro e w1 ⟨rfl, gg⟩
  have X1 := Lib.hid gg; clear gg
  go_wp2
  go_returns
  exact ⟨rfl, X1.out⟩
set_option maxHeartbeats 32000000 in
set_option maxRecDepth 100000 in
theorem rodPr_some (b0 off n cap : Nat) (l : List (Int × Int)) (w : World) (hw : CV w) (n1 : n ≤ 128) (hb : b0 < w.heap.size)
    (hc : Hid (∀ j, j < n → w.cell? ⟨b0, off + j * 2, none⟩ = some (.int .i64 (gX l j)) ∧ w.cell? ⟨b0, off + j * 2 + 1, none⟩ = some (.int .i64 (gR l j))))
    (bd : Hid (∀ j, j < n → (0 ≤ gX l j ∧ gX l j ≤ 200000) ∧ 0 ≤ gR l j ∧ gR l j ≤ 4294967296))
    (H1 : Hid (Calls Tryd.prog 21 #[.slice (some ⟨b0, off, none⟩) n cap] w fun e w' => e = .returned (.int .i64 0) ∧ Below w.heap.size w w')) :
    Calls Tryd.prog 23 #[.slice (some ⟨b0, off, none⟩) n cap] w fun e w' => e = .returned (.tuple #[str (roK l n), .int .i64 0]) ∧ Below w.heap.size w w' := by
  have HW := Lib.hid hw
  clear hw
  go_enter Tryd.func23, Tryd.ntmps23
  go_wp2_with fail
  refine H1.out.mono ?_
  rintro e w1 ⟨rfl, gg⟩
  have P0 : Hid (PB w (w1.alloc (.cells #[.pointer none, .slice none 0 0] 64)) w1.heap.size (roK l 0)) := ⟨gg.alloc gg.size _, bld_new w1, gg.size⟩
  clear gg H1
  go_wp2_with fail
  generalize w1.heap.size = b at *
  go_loopw [15] (fun ii wr => ∃ k : Nat, k ≤ n ∧ ii = .int .i64 k ∧ Hid (PB w wr b (roK l k))) (fun ii _ => n - (intOf ii).toNat)
  case atStart => exact ⟨0, Nat.zero_le _, rfl, P0⟩
  case round =>
    clear P0
    obtain ⟨k, hk, rfl, hQ⟩ := hrel
    by_cases hlt : k < n
    · have l2 : (k : Int) < (n : Int) := by omega
      obtain ⟨c0, c1⟩ := hc.out k hlt
      replace c0 := cell_bel c0 hQ.out.1
      replace c1 := cell_bel c1 hQ.out.1
      have hx := bd.out k hlt
      have ln := mkN_len hx.1 hx.2
      have tl := roK_len bd.out k hk
      have eP := roK_succ l k
      generalize gX l k = X at *
      generalize gR l k = R at *
      generalize roK l k = tx at *
      generalize hT2 : roK l (k + 1) = tx2 at *
      replace hT2 := Lib.hid hT2
      obtain ⟨D1, hD1⟩ : ∃ D : ByteArray, D = ⟨(Lib.itoa X).toArray⟩ := ⟨_, rfl⟩
      obtain ⟨D2, hD2⟩ : ∃ D : ByteArray, D = ⟨(Lib.itoa R).toArray⟩ := ⟨_, rfl⟩
      have s1 : D1.size ≤ 21 := by rw [hD1, str_size]; omega
      have s2 : D2.size ≤ 21 := by rw [hD2, str_size]; omega
      have s3 : (D1 ++ ⟨#[32]⟩ : ByteArray).size ≤ 22 := by rw [ByteArray.size_append]; show D1.size + 1 ≤ 22; omega
      have s4 : (D1 ++ ⟨#[32]⟩ ++ D2 : ByteArray).size ≤ 43 := by rw [ByteArray.size_append]; omega
      have s5 : (D1 ++ ⟨#[32]⟩ ++ D2 ++ ⟨#[10]⟩ : ByteArray).size ≤ 44 := by rw [ByteArray.size_append]; show (D1 ++ ⟨#[32]⟩ ++ D2 : ByteArray).size + 1 ≤ 44; omega
      have eL : (D1 ++ ⟨#[32]⟩ ++ D2 ++ ⟨#[10]⟩ : ByteArray).data.toList = mkN (X, R) := by rw [hD1, hD2]; unfold mkN; simp [ByteArray.data_append]
      have K1 : Hid (∀ W tx o q, PS w W b q tx o → Calls Tryd.prog 45 #[.int .i64 X] W fun e w' => e = .returned (.string D1) ∧ PS w w' b q tx o) := fun W tx o q h =>
        (itoa_any X W (by omega) (HW.out.below h.1)).mono fun _ _ g => ⟨by rw [hD1]; exact g.1, h.below g.2⟩
      have K2 : Hid (∀ W tx o q, PS w W b q tx o → Calls Tryd.prog 45 #[.int .i64 R] W fun e w' => e = .returned (.string D2) ∧ PS w w' b q tx o) := fun W tx o q h =>
        (itoa_any R W (by omega) (HW.out.below h.1)).mono fun _ _ g => ⟨by rw [hD2]; exact g.1, h.below g.2⟩
      have K4 : Hid (∀ W cs q, PS w W b q tx (.cells cs 39) → Calls Tryd.prog 44 #[.pointer (some ⟨b, 0, none⟩), .string (D1 ++ ⟨#[32]⟩ ++ D2 ++ ⟨#[10]⟩)] W fun e w' => e = .returned (.tuple #[.int .i64 (D1 ++ ⟨#[32]⟩ ++ D2 ++ ⟨#[10]⟩ : ByteArray).size, .nilIface]) ∧ PS w w' b q tx2 (.cells cs 39)) := fun W cs q h => by
        have := h.write (by intro c fz e; injection e with _ e2 _; revert e2; decide) (D1 ++ ⟨#[32]⟩ ++ D2 ++ ⟨#[10]⟩) (by omega)
        rwa [eL, ← eP] at this
      have B1 := Lib.hid ((PS.new hQ.out.1 hQ.out.2.1 hQ.out.2.2 (.cells #[.int .i64 X, .int .i64 R] 39)).below (bel_drew _))
      have HS : Hid (∀ W tx, PS w W b wr.heap.size tx (.cells #[.int .i64 X, .int .i64 R] 39) → W.cell? ⟨wr.heap.size, 0, none⟩ = some (.int .i64 X) ∧ W.cell? ⟨wr.heap.size, 1, none⟩ = some (.int .i64 R)) := fun W tx h => ⟨h.cells 0, h.cells 1⟩
      have q1 : D1.size + 1 ≤ 9223372036854775807 := by omega
      have q2 : D1.size + 1 + D2.size ≤ 9223372036854775807 := by omega
      have q3 : D1.size + 1 + D2.size + 1 ≤ 9223372036854775807 := by omega
      have r1 : ¬ D1.size + 1 > 9223372036854775807 := by omega
      have r2 : ¬ D1.size + 1 + D2.size > 9223372036854775807 := by omega
      have r3 : ¬ D1.size + 1 + D2.size + 1 > 9223372036854775807 := by omega
      have u1 : ¬ D1.size + (⟨#[32]⟩ : ByteArray).size > 9223372036854775807 := r1
      have u2 : ¬ (D1 ++ ⟨#[32]⟩ : ByteArray).size + D2.size > 9223372036854775807 := by omega
      have u3 : ¬ (D1 ++ ⟨#[32]⟩ ++ D2 : ByteArray).size + (⟨#[10]⟩ : ByteArray).size > 9223372036854775807 := by show ¬ (D1 ++ ⟨#[32]⟩ ++ D2 : ByteArray).size + 1 > 9223372036854775807; omega
      clear hx ln tl eP hD1 hD2 eL hQ hc bd
      go_wp2_with fail
      go_region_held3 (fun w' => w'.cell? ⟨wr.heap.size, 0, none⟩ = some (.int .i64 X) ∧ w'.cell? ⟨wr.heap.size, 1, none⟩ = some (.int .i64 R)) (go_keep)
        (first | (go_at_call 45; (with_reducible refine (K1.out _ _ _ _ B1.out).mono ?_); rintro e w5 ⟨rfl, B2⟩; obtain ⟨x0, x1⟩ := HS.out _ _ B2; replace B2 := Lib.hid B2) | (go_at_call 45; (with_reducible refine (K2.out _ _ _ _ B2.out).mono ?_); rintro e w6 ⟨rfl, B3⟩; obtain ⟨y0, y1⟩ := HS.out _ _ B3; replace B3 := Lib.hid B3) | (go_at_call 44; (with_reducible refine (K4.out _ _ _ B3.out).mono ?_); rintro e w8 ⟨rfl, B5⟩; obtain ⟨u0, u1⟩ := HS.out _ _ B5; replace B5 := Lib.hid B5))
      all_goals
        have Z := Lib.hid B5.out.bld
        go_wp2
        go_roundw
        case rel => exact ⟨k + 1, by omega, by go_num, by rw [hT2.out]; exact Z⟩
        case measure => simp [intOf]; omega
    · obtain rfl : k = n := by omega
      have HF := Lib.hid (string_any b b (roK l k) wr hQ.out.2.1 (Nat.le_of_lt hQ.out.2.1.lt))
      go_wp2_with fail
      refine HF.out.mono ?_
      rintro e w2 ⟨rfl, gg⟩
      have X := Lib.hid (hQ.out.1.trans (gg.mono hQ.out.2.2))
      clear gg
      go_wp2
      go_returns
      exact ⟨rfl, X.out⟩
/-- what Print returns -/
def rpS (l : List (Int × Int)) : List UInt8 := if roE l = 0 then roK l l.length else []
theorem rodPr_any (v : Value) (l : List (Int × Int)) (w : World) (hw : CV w) (hp : Pts w v l) :
    Calls Tryd.prog 23 #[v] w fun e w' => e = .returned (.tuple #[str (rpS l), .int .i64 (roE l)]) ∧ Below w.heap.size w w' := by
  have H1 := Lib.hid (rodChk_any v l w hp)
  unfold rpS
  by_cases h : roE l = 0
  · rw [if_pos h, h]
    rw [h] at H1
    have hR := roE_iff.1 h
    have n0 := hR.n0
    have hp2 := hp
    obtain ⟨a', cap', rfl, _, _⟩ := hp2
    obtain ⟨b, off, rfl, hb, hc⟩ := hp.at (by omega)
    exact rodPr_some b off _ cap' l w hw hR.n1 hb (Lib.hid hc) (Lib.hid fun j hj => ⟨hR.bh j hj, by have := hR.bv j hj; omega⟩) H1
  · rw [if_neg h]
    exact rodPr_bad v _ w (by simpa using h) H1
end Go.Proofs.YtdjlainhaoaeiaaDoor

/- Plain facts: the example of the chapter on rods. No program stands in this text. -/
namespace Go.Proofs.YtdjlainhaoaeiaaDoor

def rxT : List (Int × Int) := [(0, 0), (10, 100), (20, 100)]
def rxL : List (Int × Int) := [(3, 30), (6, 60), (9, 90)]
theorem rx_tb : tbE rxT 0 = 0 := by decide
theorem rx_ro : roE rxL = 0 := by decide
theorem rx_l0 : lsA rxT 30 = 3 := by decide
theorem rx_l1 : lsA rxT 60 = 6 := by decide
theorem rx_l2 : lsA rxT 90 = 9 := by decide
theorem rx_v0 : rdV rxT 30 0 = 30 := rfl
theorem rx_v1 : rdV rxT 30 1 = 60 := by
  show vl rxT (lsA rxT 30) / 30 * 30 + 30 = 60
  rw [rx_l0]; decide
theorem rx_v2 : rdV rxT 30 2 = 90 := by
  show vl rxT (lsA rxT (rdV rxT 30 1)) / 30 * 30 + 30 = 90
  rw [rx_v1, rx_l1]; decide
theorem rx_v3 : rdV rxT 30 3 = 120 := by
  show vl rxT (lsA rxT (rdV rxT 30 2)) / 30 * 30 + 30 = 120
  rw [rx_v2, rx_l2]; decide
theorem rx_c : rdC rxT 30 = 3 := by
  unfold rdC
  refine fst_is (by decide) (fun j hj => ?_) (fun _ => ?_)
  · have : j = 0 ∨ j = 1 ∨ j = 2 := by omega
    rcases this with rfl | rfl | rfl
    · rw [rx_v0]; decide
    · rw [rx_v1]; decide
    · rw [rx_v2]; decide
  · rw [rx_v3]; decide
theorem rx_mk : rmE rxT 0 30 = 0 ∧ rmL rxT 0 30 = rxL := by
  have e : rmE rxT 0 30 = 0 := rmE_zero.2 ⟨rx_tb, by decide, by rw [rx_c]; decide, by rw [rx_c]; decide⟩
  refine ⟨e, ?_⟩
  unfold rmL
  rw [if_pos e, rx_c]
  show [rdM rxT 30 0, rdM rxT 30 1, rdM rxT 30 2] = rxL
  unfold rdM
  rw [rx_v0, rx_v1, rx_v2, rx_l0, rx_l1, rx_l2]
  decide
theorem rx_r7 : rgE rxL 7 = 0 ∧ rgL rxL 7 = 60 ∧ rgH rxL 7 = 89 := by decide
theorem rx_r2 : rgE rxL 2 = 0 ∧ rgL rxL 2 = 0 ∧ rgH rxL 2 = 29 := by decide
theorem rx_r9 : rgE rxL 9 = 0 ∧ rgL rxL 9 = 90 ∧ rgH rxL 9 = 90 := by decide
theorem rx_cm : cmE rxL rxT 0 0 = 0 ∧ cmK rxL rxT 0 0 = -1 := by decide
def rxS : List UInt8 := [51, 32, 51, 48, 10, 54, 32, 54, 48, 10, 57, 32, 57, 48, 10]
theorem rx_it : Lib.itoa 3 = [51] ∧ Lib.itoa 6 = [54] ∧ Lib.itoa 9 = [57] ∧ Lib.itoa 30 = [51, 48] ∧ Lib.itoa 60 = [54, 48] ∧ Lib.itoa 90 = [57, 48] := by
  have h : ∀ n : Nat, n < 10 → Lib.decDigits n = [UInt8.ofNat (48 + n)] := fun n hn => by
    rw [Lib.decDigits, dif_pos hn]
  have h2 : ∀ n : Nat, 10 ≤ n → n < 100 → Lib.decDigits n = [UInt8.ofNat (48 + n / 10), UInt8.ofNat (48 + n % 10)] := fun n h1 hn => by
    rw [Lib.decDigits, dif_neg (by omega), h _ (by omega)]; rfl
  refine ⟨?_, ?_, ?_, ?_, ?_, ?_⟩
  · show Lib.decDigits 3 = _; rw [h 3 (by omega)]; rfl
  · show Lib.decDigits 6 = _; rw [h 6 (by omega)]; rfl
  · show Lib.decDigits 9 = _; rw [h 9 (by omega)]; rfl
  · show Lib.decDigits 30 = _; rw [h2 30 (by omega) (by omega)]; rfl
  · show Lib.decDigits 60 = _; rw [h2 60 (by omega) (by omega)]; rfl
  · show Lib.decDigits 90 = _; rw [h2 90 (by omega) (by omega)]; rfl
theorem rx_pr : rpS rxL = rxS := by
  unfold rpS
  rw [if_pos rx_ro]
  show mkN (3, 30) ++ (mkN (6, 60) ++ (mkN (9, 90) ++ [])) = rxS
  obtain ⟨a, b, c, d, e, f⟩ := rx_it
  unfold mkN
  simp only [a, b, c, d, e, f]
  rfl
theorem rx_pa : pnE ⟨rxS.toArray⟩ = 0 ∧ pnN ⟨rxS.toArray⟩ = 0 ∧ pnL ⟨rxS.toArray⟩ = rxL := by decide
end Go.Proofs.YtdjlainhaoaeiaaDoor

/- Layers 13 and 14 of the reference: Same; the example's table; literals of marks. -/
namespace Go.Proofs.YtdjlainhaoaeiaaDoor
open Go.RowKit

def samM (a b x y : Int) : Bool := a == x && b == y
theorem run_same_mark (a b x y : Int) (w : World) :
    (Op.equalIn 10000 39 (.agg #[.int .i64 a, .int .i64 b]) (.agg #[.int .i64 x, .int .i64 y])).run Tryd.prog w = .ok (samM a b x y) w := by
  rw [show (10000 : Nat) = 9999 + 1 from rfl, run_equalIn_agg w 9999 39 _ _ (by kernel_rfl) (by kernel_rfl)]
  have hf : (Tryd.prog.fieldsOf 39).toList.map (fun f => (f.name, f.type, f.offset)) = [("Height", 3, 0), ("Volume", 3, 1)] := by kernel_rfl
  generalize (Tryd.prog.fieldsOf 39).toList = fs at *
  obtain ⟨f, g, rfl⟩ : ∃ f g, fs = [f, g] := by
    have hl := congrArg List.length hf
    rw [List.length_map] at hl
    rcases fs with _ | ⟨f, _ | ⟨g, _ | ⟨h, fs⟩⟩⟩ <;> simp at hl
    exact ⟨f, g, rfl⟩
  simp only [List.map_cons, List.map_nil, List.cons.injEq, Prod.mk.injEq, and_true] at hf
  obtain ⟨⟨f1, f2, f3⟩, g1, g2, g3⟩ := hf
  have eq : ∀ (u v : Int) (W : World), (Op.equalIn 9999 3 (.int .i64 u) (.int .i64 v)).run Tryd.prog W = .ok (u == v) W := fun u v W => run_equalIn_int W 9998 3 .i64 .i64 u v Tryd.underlying3
  by_cases e1 : a = x <;> by_cases e2 : b = y <;> simp [Op.eqFields, f1, f2, f3, g1, g2, g3, go_sem, samM, eq, e1, e2]
theorem run_neq_mark (a b x y : Int) (w : World) :
    (binOp .neq 39 (.agg #[.int .i64 a, .int .i64 b]) (.agg #[.int .i64 x, .int .i64 y])).run Tryd.prog w = .ok (.bool (!samM a b x y)) w := by
  rw [run_neq_struct, run_same_mark]; rfl
theorem mks_lit (w : World) (l : List (Int × Int)) (cs : List Value) (h : cs = flat l) (hn : l.length ≤ 1000) :
    Pts (w.alloc (.cells cs.toArray 39)) (.slice (some ⟨w.heap.size, 0, none⟩) l.length l.length) l := by
  refine ⟨_, _, rfl, by omega, .inr ⟨w.heap.size, 0, rfl, by simp, fun j hj => ?_⟩⟩
  subst h
  have hf := flat_at l j hj
  rw [World.cell?_alloc_new, World.cell?_alloc_new]
  simp only [Nat.zero_add]
  exact ⟨by simpa using hf.1, by simpa using hf.2⟩
set_option maxHeartbeats 8000000 in
set_option maxRecDepth 100000 in
theorem same13_core (a a2 : Option Addr) (n cap cap2 : Nat) (tol : Int) (l : List (Int × Int)) (w : World) (n1 : n ≤ 9223372036854775807) (hn : Hid (0 < n → ∃ b off b2 off2, a = some ⟨b, off, none⟩ ∧ a2 = some ⟨b2, off2, none⟩ ∧ b < w.heap.size ∧ b2 < w.heap.size ∧ (∀ j, j < n → w.cell? ⟨b, off + j * 2, none⟩ = some (.int .i64 (gX l j)) ∧ w.cell? ⟨b, off + j * 2 + 1, none⟩ = some (.int .i64 (gR l j))) ∧ (∀ j, j < n → w.cell? ⟨b2, off2 + j * 2, none⟩ = some (.int .i64 (gX l j)) ∧ w.cell? ⟨b2, off2 + j * 2 + 1, none⟩ = some (.int .i64 (gR l j))))) :
    Calls Tryd.prog 37 #[.agg #[.slice a n cap, .int .i64 tol], .agg #[.slice a2 n cap2, .int .i64 tol]] w fun e w' => e = .returned (.bool true) ∧ Below w.heap.size w w' := by
  have T0 := Lib.hid ((Two.new w (.slice a n cap) (.int .i64 tol) 24).alloc (.cells #[.slice a2 n cap2, .int .i64 tol] 24))
  have T1 := Lib.hid (Two.new (w.alloc (.cells #[.slice a n cap, .int .i64 tol] 24)) (.slice a2 n cap2) (.int .i64 tol) 24)
  rw [World.size_alloc] at T1
  have X0 : Hid (Below w.heap.size w ((w.alloc (.cells #[.slice a n cap, .int .i64 tol] 24)).alloc (.cells #[.slice a2 n cap2, .int .i64 tol] 24))) := Lib.hid (bel_alloc (bel_alloc (Below.refl _ _)))
  have e0 : ((n : Int) != (n : Int)) = false := by simp
  have e1 : (tol != tol) = false := by simp
  have Q1 : ∀ (p q : Int) W, (binOp .neq 39 (.agg #[.int .i64 p, .int .i64 q]) (.agg #[.int .i64 p, .int .i64 q])).run Tryd.prog W = .ok (.bool false) W := fun p q W => by rw [run_neq_mark, show samM p q p q = true by simp [samM]]; rfl
  obtain ⟨t0, t1, _, _, _⟩ := T0.out
  obtain ⟨u0, u1, _, _, _⟩ := T1.out
  go_enter Tryd.func37, Tryd.ntmps37
  go_wp2_with fail
  go_loopw [5] (fun ii wr => ∃ k : Nat, k ≤ n ∧ ii = .int .i64 (k : Int) ∧ Hid (Below ((w.alloc (.cells #[.slice a n cap, .int .i64 tol] 24)).alloc (.cells #[.slice a2 n cap2, .int .i64 tol] 24)).heap.size ((w.alloc (.cells #[.slice a n cap, .int .i64 tol] 24)).alloc (.cells #[.slice a2 n cap2, .int .i64 tol] 24)) wr)) (fun ii _ => n - (intOf ii).toNat)
  case atStart => exact ⟨0, by omega, rfl, Lib.hid (Below.refl _ _)⟩
  case round =>
    clear t0 t1 u0 u1
    obtain ⟨k, hk, rfl, hB⟩ := hrel
    have T2 := T0.out.below hB.out
    have T3 := T1.out.below hB.out
    have X2 := Lib.hid (bel_trans X0.out hB.out)
    obtain ⟨t0, t1, _, _, _⟩ := T2
    obtain ⟨u0, u1, _, _, _⟩ := T3
    by_cases hlt : k < n
    · obtain ⟨b, off, b2, off2, rfl, rfl, hb, hb2, hc, hc2⟩ := hn.out (by omega)
      have c0 := cell_bel (hc k hlt).1 X2.out
      have c1 := cell_bel (hc k hlt).2 X2.out
      have c2 := cell_bel (hc2 k hlt).1 X2.out
      have c3 := cell_bel (hc2 k hlt).2 X2.out
      have l0 : (k : Int) < (n : Int) := by omega
      have BQ := Lib.hid (fun q => bel_trans hB.out (bel_drewN wr q))
      clear hc hc2 hn
      generalize gX l k = x at *
      generalize gR l k = r at *
      go_upto_region 6 with fail
      go_quiet (fail)
      go_wp2
      go_roundw
      case rel => exact ⟨k + 1, by omega, by go_num, Lib.hid (BQ.out _)⟩
      case measure => simp [intOf]; omega
    · obtain rfl : k = n := by omega
      go_wp2
      go_returns
      exact ⟨rfl, X2.out⟩
theorem same13_eq (u v : Value) (l : List (Int × Int)) (tol : Int) (w : World) (hu : TbV w u l tol) (hv : TbV w v l tol) :
    Calls Tryd.prog 37 #[u, v] w fun e w' => e = .returned (.bool true) ∧ Below w.heap.size w w' := by
  obtain ⟨a, cap, rfl, hp⟩ := hu
  obtain ⟨a2, cap2, rfl, hp2⟩ := hv
  have hp' := hp
  obtain ⟨_, _, e, hc, _⟩ := hp'
  simp only [Value.slice.injEq, true_and] at e
  refine same13_core a a2 _ cap cap2 tol l w (by omega) (Lib.hid fun h => ?_)
  obtain ⟨b, off, rfl, hb, hc⟩ := hp.at h
  obtain ⟨b2, off2, rfl, hb2, hc2⟩ := hp2.at h
  exact ⟨b, off, b2, off2, rfl, rfl, hb, hb2, hc, hc2⟩
theorem same14_eq (u v : Value) (l : List (Int × Int)) (w : World) (hu : Pts w u l) (hv : Pts w v l) :
    Calls Tryd.prog 15 #[u, v] w fun e w' => e = .returned (.bool true) ∧ Below w.heap.size w w' := by
  have hu' := hu
  have hv' := hv
  obtain ⟨a, cap, rfl, _⟩ := hu'
  obtain ⟨a2, cap2, rfl, _⟩ := hv'
  have H := Lib.hid (same13_eq (.agg #[.slice a l.length cap, .int .i64 0]) (.agg #[.slice a2 l.length cap2, .int .i64 0]) l 0 w ⟨a, cap, rfl, hu⟩ ⟨a2, cap2, rfl, hv⟩)
  go_enter Tryd.func15, Tryd.ntmps15
  go_wp2_with fail
  refine H.out.mono ?_
  rintro e w1 ⟨rfl, gg⟩
  have X1 := Lib.hid gg; clear gg
  go_wp2
  go_returns
  exact ⟨rfl, X1.out⟩
set_option maxHeartbeats 8000000 in
theorem steps_any (w : World) : Calls Tryd.prog 30 #[] w fun e w' => ∃ v, e = .returned v ∧ TbV w' v rxT 0 ∧ Below w.heap.size w w' := by
  go_enter Tryd.func30, Tryd.ntmps30
  go_wp2
  obtain ⟨z0, z1, _, _, _⟩ := (Two.new w (.slice (some ⟨w.heap.size + 1, 0, none⟩) 3 3) (.int .i64 0) 24).alloc (.cells #[.int .i64 0, .int .i64 0, .int .i64 10, .int .i64 100, .int .i64 20, .int .i64 100] 39)
  have L := mks_lit (w.alloc (.cells #[.slice (some ⟨w.heap.size + 1, 0, none⟩) 3 3, .int .i64 0] 24)) rxT _ rfl (by decide)
  rw [World.size_alloc] at L
  refine bodyPost_ret (v := .agg #[.slice (some ⟨w.heap.size + 1, 0, none⟩) 3 3, .int .i64 0]) (by simp [results, Tryd.results30, go_sem, z0, z1]) rfl ?_
  exact ⟨_, rfl, ⟨some ⟨w.heap.size + 1, 0, none⟩, 3, rfl, L⟩, bel_alloc (bel_alloc (Below.refl _ _))⟩
end Go.Proofs.YtdjlainhaoaeiaaDoor

/- The example of layer 14: awake. -/
namespace Go.Proofs.YtdjlainhaoaeiaaDoor
open Go.RowKit

set_option maxRecDepth 100000 in
set_option maxHeartbeats 16000000 in
theorem awake_any (w : World) (hw : CV w) : Calls Tryd.prog 10 #[] w fun e w' => e = .returned (.bool true) ∧ Below w.heap.size w w' := by
  have HW := Lib.hid hw
  have HS := Lib.hid (fun W => steps_any W)
  have HM := Lib.hid (fun v W (hv : TbV W v rxT 0) => mk_any v rxT 0 30 W hv)
  have H7 := Lib.hid (fun v W (hv : Pts W v rxL) => rodRg_any v rxL 7 W hv)
  have H2 := Lib.hid (fun v W (hv : Pts W v rxL) => rodRg_any v rxL 2 W hv)
  have H9 := Lib.hid (fun v W (hv : Pts W v rxL) => rodRg_any v rxL 9 W hv)
  have HC := Lib.hid (fun v u W (hv : Pts W v rxL) (hu : TbV W u rxT 0) => rodCm_any v u rxL rxT 0 0 W hv hu)
  have HP := Lib.hid (fun v W (hw : CV W) (hv : Pts W v rxL) => rodPr_any v rxL W hw hv)
  have HA := Lib.hid (fun W (hw : CV W) => rodPar_any ⟨rxS.toArray⟩ W hw)
  have HK := Lib.hid (fun v W (hv : Pts W v rxL) => rodChk_any v rxL W hv)
  have HE := Lib.hid (fun u v W (hu : Pts W u rxL) (hv : Pts W v rxL) => same14_eq u v rxL W hu hv)
  obtain ⟨a1, a2⟩ := rx_mk
  obtain ⟨b1, b2, b3⟩ := rx_r7
  obtain ⟨c1, c2, c3⟩ := rx_r2
  obtain ⟨d1, d2, d3⟩ := rx_r9
  obtain ⟨e1, e2⟩ := rx_cm
  obtain ⟨f1, f2, f3⟩ := rx_pa
  rw [a1, a2] at HM
  rw [b1, b2, b3] at H7
  rw [c1, c2, c3] at H2
  rw [d1, d2, d3] at H9
  rw [e1, e2] at HC
  rw [rx_pr, rx_ro] at HP
  rw [f1, f2, f3, show (⟨rxS.toArray⟩ : ByteArray) = ⟨#[51, 32, 51, 48, 10, 54, 32, 54, 48, 10, 57, 32, 57, 48, 10]⟩ from rfl] at HA
  rw [show str rxS = .string ⟨#[51, 32, 51, 48, 10, 54, 32, 54, 48, 10, 57, 32, 57, 48, 10]⟩ from rfl] at HP
  rw [rx_ro] at HK
  clear a1 a2 b1 b2 b3 c1 c2 c3 d1 d2 d3 e1 e2 f1 f2 f3 hw
  have Q1 : ∀ (p q : Int) W, (binOp .eql 34 (.agg #[.int .i64 p, .int .i64 q]) (.agg #[.int .i64 p, .int .i64 q])).run Tryd.prog W = .ok (.bool true) W := fun p q W => by rw [run_eql_bounds, show samB p q p q = true by simp [samB]]
  have L3 : ∀ W, Pts (World.alloc W (.cells #[.int .i64 3, .int .i64 30, .int .i64 6, .int .i64 60, .int .i64 9, .int .i64 90] 39)) (.slice (some ⟨W.heap.size, 0, none⟩) 3 3) rxL := fun W => mks_lit W rxL _ rfl (by decide)
  have HB := Lib.hid (Below.refl w.heap.size w)
  go_enter Tryd.func10, Tryd.ntmps10
  go_wp2_with fail
  refine (HS.out _).mono ?_
  rintro e w1 ⟨V1, rfl, hx, h1⟩
  replace HB := Lib.hid (bel_trans HB.out h1); clear h1
  have N1 := Lib.hid hx; clear hx
  go_wp2_with fail
  refine (HM.out _ _ N1.out).mono ?_
  rintro e w2 ⟨L1, rfl, hx, h1⟩
  replace HB := Lib.hid (bel_trans HB.out h1); clear h1 N1
  have NL := Lib.hid hx; clear hx
  go_wp2_with fail
  refine (H7.out _ _ NL.out).mono ?_
  rintro e w3 ⟨rfl, h1⟩
  replace NL := Lib.hid ((NL.out.below h1).alloc (.cells #[.int .i64 60, .int .i64 89] 34))
  replace HB := Lib.hid ((bel_trans HB.out h1).alloc (bel_trans HB.out h1).size (.cells #[.int .i64 60, .int .i64 89] 34)); clear h1
  have T7 := Lib.hid (Two.new w3 (.int .i64 60) (.int .i64 89) 34)
  go_wp2_with fail
  refine (H2.out _ _ NL.out).mono ?_
  rintro e w4 ⟨rfl, h1⟩
  replace NL := Lib.hid ((NL.out.below h1).alloc (.cells #[.int .i64 0, .int .i64 29] 34))
  replace HB := Lib.hid ((bel_trans HB.out h1).alloc (bel_trans HB.out h1).size (.cells #[.int .i64 0, .int .i64 29] 34))
  replace T7 := Lib.hid ((T7.out.below h1).alloc (.cells #[.int .i64 0, .int .i64 29] 34)); clear h1
  have T2 := Lib.hid (Two.new w4 (.int .i64 0) (.int .i64 29) 34)
  go_wp2_with fail
  refine (H9.out _ _ NL.out).mono ?_
  rintro e w5 ⟨rfl, h1⟩
  replace NL := Lib.hid ((NL.out.below h1).alloc (.cells #[.int .i64 90, .int .i64 90] 34))
  replace HB := Lib.hid ((bel_trans HB.out h1).alloc (bel_trans HB.out h1).size (.cells #[.int .i64 90, .int .i64 90] 34))
  replace T7 := Lib.hid ((T7.out.below h1).alloc (.cells #[.int .i64 90, .int .i64 90] 34))
  replace T2 := Lib.hid ((T2.out.below h1).alloc (.cells #[.int .i64 90, .int .i64 90] 34)); clear h1
  have T9 := Lib.hid (Two.new w5 (.int .i64 90) (.int .i64 90) 34)
  go_wp2_with fail
  refine (HS.out _).mono ?_
  rintro e w6 ⟨V2, rfl, hx, h1⟩
  replace NL := Lib.hid (NL.out.below h1)
  replace HB := Lib.hid (bel_trans HB.out h1)
  replace T7 := Lib.hid (T7.out.below h1)
  replace T2 := Lib.hid (T2.out.below h1)
  replace T9 := Lib.hid (T9.out.below h1); clear h1
  have N1 := Lib.hid hx; clear hx
  go_wp2_with fail
  refine (HC.out _ _ _ NL.out N1.out).mono ?_
  rintro e w7 ⟨rfl, h1⟩
  replace NL := Lib.hid (NL.out.below h1)
  replace HB := Lib.hid (bel_trans HB.out h1)
  replace T7 := Lib.hid (T7.out.below h1)
  replace T2 := Lib.hid (T2.out.below h1)
  replace T9 := Lib.hid (T9.out.below h1); clear h1 N1
  have CW := HW.out.below HB.out
  go_wp2_with fail
  refine (HP.out _ _ CW NL.out).mono ?_
  rintro e w8 ⟨rfl, h1⟩
  clear CW
  replace NL := Lib.hid (NL.out.below h1)
  replace HB := Lib.hid (bel_trans HB.out h1)
  replace T7 := Lib.hid (T7.out.below h1)
  replace T2 := Lib.hid (T2.out.below h1)
  replace T9 := Lib.hid (T9.out.below h1); clear h1
  have CW := HW.out.below HB.out
  go_wp2_with fail
  refine (HA.out _ CW).mono ?_
  rintro e w9 ⟨L2, rfl, hx, h1⟩
  clear CW
  replace NL := Lib.hid (NL.out.below h1)
  replace HB := Lib.hid (bel_trans HB.out h1)
  replace T7 := Lib.hid (T7.out.below h1)
  replace T2 := Lib.hid (T2.out.below h1)
  replace T9 := Lib.hid (T9.out.below h1); clear h1
  have NB := Lib.hid hx; clear hx
  have G0 := Lib.hid (L3 w9)
  replace NL := Lib.hid (NL.out.alloc (.cells #[.int .i64 3, .int .i64 30, .int .i64 6, .int .i64 60, .int .i64 9, .int .i64 90] 39))
  replace NB := Lib.hid (NB.out.alloc (.cells #[.int .i64 3, .int .i64 30, .int .i64 6, .int .i64 60, .int .i64 9, .int .i64 90] 39))
  replace HB := Lib.hid (HB.out.alloc HB.out.size (.cells #[.int .i64 3, .int .i64 30, .int .i64 6, .int .i64 60, .int .i64 9, .int .i64 90] 39))
  replace T7 := Lib.hid (T7.out.alloc (.cells #[.int .i64 3, .int .i64 30, .int .i64 6, .int .i64 60, .int .i64 9, .int .i64 90] 39))
  replace T2 := Lib.hid (T2.out.alloc (.cells #[.int .i64 3, .int .i64 30, .int .i64 6, .int .i64 60, .int .i64 9, .int .i64 90] 39))
  replace T9 := Lib.hid (T9.out.alloc (.cells #[.int .i64 3, .int .i64 30, .int .i64 6, .int .i64 60, .int .i64 9, .int .i64 90] 39))
  go_wp2_with fail
  refine (HE.out _ _ _ NL.out G0.out).mono ?_
  rintro e w10 ⟨rfl, h1⟩
  replace NL := Lib.hid (NL.out.below h1)
  replace NB := Lib.hid (NB.out.below h1)
  replace HB := Lib.hid (bel_trans HB.out h1)
  replace T7 := Lib.hid (T7.out.below h1)
  replace T2 := Lib.hid (T2.out.below h1)
  replace T9 := Lib.hid (T9.out.below h1); clear h1 G0
  obtain ⟨t0, t1, _, _, _⟩ := T7.out
  obtain ⟨u0, u1, _, _, _⟩ := T2.out
  obtain ⟨v0, v1, _, _, _⟩ := T9.out
  go_wp2_with fail
  refine (HE.out _ _ _ NB.out NL.out).mono ?_
  rintro e w11 ⟨rfl, h1⟩
  replace NL := Lib.hid (NL.out.below h1)
  replace HB := Lib.hid (bel_trans HB.out h1); clear h1
  go_wp2_with fail
  refine (HK.out _ _ NL.out).mono ?_
  rintro e w12 ⟨rfl, h1⟩
  replace HB := Lib.hid (bel_trans HB.out h1); clear h1
  go_wp2
  go_returns
  exact ⟨rfl, HB.out⟩
end Go.Proofs.YtdjlainhaoaeiaaDoor

/- How the arguments of the statements about layer 14 are opened; the listed variable. -/
namespace Go.Proofs.YtdjlainhaoaeiaaDoor
open Go.ChangeShapes Go.WideShapes Go.ChangeAt Go.RowKit Go.Joins

theorem own : ownKnob Tryd.prog.godebug = none := by kernel_rfl
theorem laidOut : laidOutB Tryd.prog = true := by kernel_rfl
theorem wf_bd {n : Int} (h : (Lit.int .i64 n).wf = true) : -9223372036854775808 ≤ n ∧ n ≤ 9223372036854775807 := by
  have := bounds_i64 h
  omega
set_option maxRecDepth 100000 in
theorem open_mks_at {H : Type} {enc : TypeId × Value → H} {w : World} {base fuel : Nat} {spare : Nat → Bool} {held : Bool} {v : Value} {y : DataW H × List MemPlace} (hs : ∀ k, spare k = true)
    (hf : DataW.trod enc Tryd.prog w base spare held fuel 22 [v] = some y) :
    ∃ l : List (Int × Int), Pts w v l := by
  rcases Deep.open_slice_pairs Tryd.underlying22 Tryd.underlying39 (by kernel_rfl) rfl rfl (by kernel_rfl) (by kernel_rfl) hf with ⟨hcs, _⟩ | ⟨x, len0, cap0, m, n, V0, V1, D0, D1, P0, P1, hcs, _, hl, hm, hmm, _, hi⟩
  · simp only [List.cons.injEq, and_true] at hcs
    subst hcs
    exact ⟨[], none, 0, rfl, ⟨by simp, by omega⟩, .inl rfl⟩
  · simp only [List.cons.injEq, and_true] at hcs
    subst hcs
    unfold maxLen at hm
    rw [hs] at hmm
    simp only [if_true] at hmm
    subst hmm
    have hint : ∀ i, i < len0 → ∃ q : Int × Int, w.cell? (x.add (i * 2)) = some (.int .i64 q.1) ∧ w.cell? (x.add (i * 2 + 1)) = some (.int .i64 q.2) := by
      intro i hlt
      obtain ⟨h0, h1, h2, h3⟩ := hi i (by omega)
      obtain ⟨a, ea, _, _⟩ := DataW.trod_int (k := .i64) Tryd.underlying3 h2
      obtain ⟨b, eb, _, _⟩ := DataW.trod_int (k := .i64) Tryd.underlying3 h3
      simp only [List.cons.injEq, and_true] at ea eb
      exact ⟨(a, b), by rw [h0, ea], by rw [h1, eb]⟩
    let f : Nat → Int × Int := fun i => if hlt : i < len0 then (hint i hlt).choose else (0, 0)
    have hf2 : ∀ i, i < len0 → w.cell? (x.add (i * 2)) = some (.int .i64 (f i).1) ∧ w.cell? (x.add (i * 2 + 1)) = some (.int .i64 (f i).2) := by
      intro i hlt
      have := (hint i hlt).choose_spec
      simp only [f, dif_pos hlt]
      exact this
    have hlen : ((List.range len0).map f).length = len0 := by simp
    refine ⟨(List.range len0).map f, some x, m, by rw [hlen], by rw [hlen]; omega, ?_⟩
    rw [hlen]
    by_cases h0 : len0 = 0
    · exact .inl h0
    · right
      obtain ⟨b, off, spot⟩ := x
      have hspot : spot = none := by simpa [Addr.add] using World.cell?_spot (hf2 0 (by omega)).1
      subst hspot
      have hb := World.block_lt_of_cell? w _ (hf2 0 (by omega)).1
      refine ⟨b, off, rfl, by simpa [Addr.add] using hb, fun j hj => ?_⟩
      obtain ⟨g0, g1⟩ := hf2 j hj
      rw [Go.WideShapes.add_plain] at g0 g1
      unfold gX gR
      rw [List.getD_eq_getElem?_getD, List.getElem?_map, List.getElem?_range hj]
      exact ⟨g0, by rw [Nat.add_assoc]; exact g1⟩
set_option maxRecDepth 100000 in
theorem open_mks {H : Type} {enc : TypeId × Value → H} {w : World} {r : Reach} {b0 : Nat} {v : Value} {d : DataW H} {p : List MemPlace}
    (hv : Value.okWide Tryd.prog w r b0 22 v) (h : DataW.Trod enc Tryd.prog w 0 (fun _ => true) true 22 v d p) :
    ∃ l : List (Int × Int), Pts w v l := by
  obtain ⟨a0, len0, cap0, rfl⟩ := okWide_slice Tryd.underlying22 hv
  obtain ⟨fuel, hf⟩ := h
  exact open_mks_at (fun _ => rfl) hf
set_option maxRecDepth 100000 in
/-- a table by value -/
theorem open_tbl {H : Type} {enc : TypeId × Value → H} {w : World} {r : Reach} {b0 : Nat} {v : Value} {d : DataW H} {p : List MemPlace}
    (hv : Value.okWide Tryd.prog w r b0 24 v) (h : DataW.Trod enc Tryd.prog w 0 (fun _ => true) true 24 v d p) : ∃ z : List (Int × Int) × Int, TbV w v z.1 z.2 ∧ -9223372036854775808 ≤ z.2 ∧ z.2 ≤ 9223372036854775807 := by
  obtain ⟨v0, v1, y0, y1, n, rfl, _, _, h0, h1⟩ := open_agg2 Tryd.underlying24 (by kernel_rfl) (by kernel_rfl) hv h
  obtain ⟨l, hl⟩ := open_mks_at (fun _ => rfl) h0
  obtain ⟨a, e1, _, wa⟩ := DataW.trod_int (k := .i64) Tryd.underlying3 h1
  simp only [List.cons.injEq, and_true] at e1
  subst e1
  obtain ⟨ad, cap, rfl, q, r⟩ := hl
  exact ⟨(l, a), ⟨ad, cap, rfl, ad, cap, rfl, q, r⟩, wf_bd wa⟩
theorem gPow : Tryd.prog.globalNamed "internal/strconv.uint64pow10" = some 0 := by kernel_rfl
theorem laid_of {W : World} {l : List (String × DataW Unit)} (hp : l = [("math/bits.deBruijn32tab", Rows.laid_math_bits_deBruijn32tab), ("math/bits.deBruijn64tab", Rows.laid_math_bits_deBruijn64tab), ("internal/strconv.uint64pow10", Rows.laid_internal_strconv_uint64pow10)]) (h : laidMetH Tryd.prog l W) (hS : W.ShapedOpen Tryd.prog) : CV W := by
  subst hp
  rw [MakeChecks.laidMetH_plain _ _ _ (by kernel_rfl)] at h
  exact ⟨tab_of h (.tail _ (.tail _ (.head _))) (by kernel_rfl) gPow (by kernel_rfl) (t := 105) Tryd.underlying105 Tryd.underlying97 (by kernel_rfl) (by kernel_rfl), Tryd.laysM145.s1_3 W hS⟩
end Go.Proofs.YtdjlainhaoaeiaaDoor

/- Copies of marks; few marks. -/
namespace Go.Proofs.YtdjlainhaoaeiaaDoor
open Go.RowKit Go.Sort

set_option maxRecDepth 100000 in
set_option maxHeartbeats 2000000 in
theorem cloneM_some (ad : Addr) (n c : Nat) (news : List Value) (w : World) (hl : news.length = n * 2) (hn : n ≤ 1000)
    (hc : Hid (∀ j u, news[j]? = some u → (w.alloc (.cells #[] 39)).cell? (ad.add j) = some u)) (h1 : Hid (∀ u ∈ news, u.oneCell' = true)) :
    Calls Tryd.prog 17 #[.slice (some ad) n c] w fun e w' => ∃ v', e = .returned v' ∧ w'.ownsRow w.heap.size 39 2 v' n news ∧ v' ≠ .slice none 0 0 ∧ Below w.heap.size w w' := by
  obtain ⟨i0, hi0, hz0, hz1, hz2⟩ := RM.info_parts RM.mk_info
  have q22 : ∀ (w : World) (a : Option Addr) (n c n' c' : Nat), (binOp .eql 22 (.slice a n c) (.slice none n' c')).run Tryd.prog w = .ok (.bool a.isNone) w := fun w a n c n' c' => Lib.run_eql_slice_nil w _ _ a n c n' c' Tryd.underlying22
  go_enter Tryd.func17, Tryd.ntmps17
  go_wp2_with (at_builtin; refine wpList_append_own _ rfl _ _ 22 rfl w.heap.size 39 i0 (.agg #[.int .i64 0, .int .i64 0]) 2 16 Tryd.underlying22 hi0 hz0 hz1 hz2 rfl (by omega) _ _ _ rfl (World.ownsRow_made w #[] 0 (Nat.le_refl _) (Nat.zero_le _) (by simp)) ad n c news rfl ?qc1 ?qc2 ?qc3 ?qc4 ?qc5 ?qc6 ?_)
  case qc1 => exact hl
  case qc2 => exact hc.out
  case qc3 => exact h1.out
  case qc4 => rw [Nat.zero_add]; unfold maxLen; omega
  case qc5 => rw [Nat.zero_add]; omega
  case qc6 => simp
  intro v' w1 hown hgrow hnil
  have HO := Lib.hid hown
  have HG := Lib.hid hgrow
  have HN := Lib.hid hnil
  clear hown hgrow hnil hl
  go_wp2
  go_ret
  refine ⟨v', rfl, by simpa using HO.out, ?_, ?_⟩
  · exact HN.out
  · exact ((Below.refl _ w).alloc (Nat.le_refl _) _).grown HG.out (by simp) (by intro k hk; simp [Value.ownBlock] at hk; omega)
set_option maxRecDepth 100000 in
theorem cloneM_none (n c : Nat) (w : World) :
    Calls Tryd.prog 17 #[.slice none n c] w fun e w' => e = .returned (.slice none 0 0) ∧ w' = w := by
  have q22 : ∀ (w : World) (a : Option Addr) (n c n' c' : Nat), (binOp .eql 22 (.slice a n c) (.slice none n' c')).run Tryd.prog w = .ok (.bool a.isNone) w := fun w a n c n' c' => Lib.run_eql_slice_nil w _ _ a n c n' c' Tryd.underlying22
  go_enter Tryd.func17, Tryd.ntmps17
  go_wp2
  go_ret
  exact ⟨rfl, rfl⟩
/-- a copy reads as what it is copied from -/
theorem cloneM_any (v : Value) (l : List (Int × Int)) (w : World) (h : Pts w v l) (hn : l.length ≤ 1000) :
    Calls Tryd.prog 17 #[v] w fun e w' => ∃ u, e = .returned u ∧ Pts w' u l ∧ Below w.heap.size w w' := by
  obtain ⟨a, c, rfl, hl, h⟩ := h
  cases a with
  | none =>
    rcases h with h | ⟨b, off, hx, _⟩
    · obtain rfl := List.length_eq_zero_iff.1 h
      refine (cloneM_none _ c w).mono fun _ w' g => ⟨_, g.1, ?_, by rw [g.2]; exact Below.refl _ _⟩
      exact pts_nil w'
    · cases hx
  | some ad =>
    refine (cloneM_some ad l.length c (flat l) w (flat_len l) hn ?_ (flat_one l)).mono fun _ w' ⟨u, g1, g2, _, g4⟩ => ⟨u, g1, RM.pts (show RM.OwnM w' w.heap.size u l from g2), g4⟩
    intro j u hj
    rcases h with h | ⟨b, off, hx, hb, hc⟩
    · obtain rfl := List.length_eq_zero_iff.1 h
      simp [flat] at hj
    · obtain rfl := Option.some.inj hx
      obtain ⟨i, hi, ⟨rfl, rfl⟩ | ⟨rfl, rfl⟩⟩ := flat_inv l j u hj
      · rw [Go.WideShapes.add_plain, World.cell?_alloc_lt w _ _ hb]
        exact (hc i hi).1
      · rw [Go.WideShapes.add_plain, World.cell?_alloc_lt w _ _ hb, ← Nat.add_assoc]
        exact (hc i hi).2
set_option maxHeartbeats 4000000 in
theorem few13_any (v : Value) (l : List (Int × Int)) (tol : Int) (w : World) (hv : TbV w v l tol) :
    Calls Tryd.prog 31 #[v] w fun e w' => e = .returned (.bool (decide (l.length ≤ 129))) ∧ Below w.heap.size w w' := by
  obtain ⟨a, cap, rfl, _⟩ := hv
  have X := Lib.hid (bel_alloc (w := w) (o := .cells #[.slice a l.length cap, .int .i64 tol] 24) (Below.refl _ _))
  have e : decide ((l.length : Int) ≤ 129) = decide (l.length ≤ 129) := by simp; omega
  rw [← e]
  clear e
  generalize l.length = n at *
  go_enter Tryd.func31, Tryd.ntmps31
  go_wp2
  go_returns
  exact ⟨rfl, X.out⟩
theorem few14_any (v : Value) (l : List (Int × Int)) (tol : Int) (w : World) (hv : TbV w v l tol) :
    Calls Tryd.prog 11 #[.slice none 0 0, v] w fun e w' => e = .returned (.bool (decide (l.length ≤ 129))) ∧ Below w.heap.size w w' := by
  have H : Hid (∀ W, Below w.heap.size w W → _) := Lib.hid fun W hW => few13_any v l tol W (hv.below hW)
  obtain ⟨a, cap, rfl, _⟩ := hv
  generalize decide (l.length ≤ 129) = B at *
  go_enter Tryd.func11, Tryd.ntmps11
  go_wp2_with fail
  refine (H.out _ (bel_alloc (Below.refl _ _))).mono ?_
  rintro e w1 ⟨rfl, gg⟩
  have X1 := Lib.hid (bel_alloc gg); clear gg
  go_wp2
  go_returns
  exact ⟨rfl, X1.out⟩
end Go.Proofs.YtdjlainhaoaeiaaDoor

/- The reference of layer 13: Copy. -/
namespace Go.Proofs.YtdjlainhaoaeiaaDoor
open Go.RowKit Go.Sort

theorem step_append_ownM {P : Program} (w : World) {ops : Array Oper} {o : Oper} {a : Act} {K : Act → World → Prop} {Q : Exit → Act → World → Prop} {E : Prop} (hgd : o.guard = none) (s x : Operand) (t : TypeId)
    (ho : o.op = .call { callee := .builtin .append, args := #[s, x], argTypes := #[t, t] })
    (base : Nat) (e : TypeId) (i : TypeInfo) (z : Value) (size bytes : Nat) (ht : P.underlying t = some (.slice e)) (hi : P.info? e = some i) (hz : i.zero = some z)
    (hsize : i.size = size) (hby : i.bytes = bytes) (hzs : z.cells.size = size) (hsz : 0 < size)
    (v : Value) (n : Nat) (xs : List Value) (hs : a.eval s = v) (hown : w.ownsRow base e size v n xs)
    (ad : Addr) (m c : Nat) (news : List Value) (hx : a.eval x = .slice (some ad) m c) (hl : news.length = m * size) (hnews : ∀ j u, news[j]? = some u → w.cell? (ad.add j) = some u) (h1 : ∀ u ∈ news, u.oneCell' = true)
    (h63 : n + m ≤ maxLen) (hbytes : (n + m) * bytes ≤ 140737488355328) (hbase : base ≤ w.heap.size)
    (h : ∀ v' w', w'.ownsRow base e size v' (n + m) (xs ++ news) → w.grownBy w' v.ownBlock → K (a.put o.dst v') w') :
    if Region.wanted o (yielded ops a.tmps) = true then Oper.wp P o a w K Q else E := by
  rw [if_pos (by simp [Region.wanted, hgd])]
  exact wp_append_own w s x t ho base e i z size bytes ht hi hz hsize hby hzs hsz v n xs hs hown ad m c news hx hl hnews h1 h63 hbytes hbase fun v' w' g1 g2 _ => h v' w' g1 g2

/-- what Copy keeps -/
def CpI (w : World) (x y : Value) (W : World) : Prop :=
  Two w.heap.size W x y ∧ Two (w.heap.size + 1) W (.slice none 0 0) (.int .i64 0) ∧ Below w.heap.size w W
theorem CpI.below {w : World} {x y : Value} {W W' : World} (h : CpI w x y W) (hb : Below W.heap.size W W') : CpI w x y W' := ⟨h.1.below hb, h.2.1.below hb, bel_trans h.2.2 hb⟩
theorem CpI.init (w : World) (x y : Value) (T U : TypeId) : CpI w x y ((w.alloc (.cells #[x, y] T)).alloc (.cells #[.slice none 0 0, .int .i64 0] U)) := by
  have h2 := Two.new (w.alloc (.cells #[x, y] T)) (.slice none 0 0) (.int .i64 0) U
  rw [World.size_alloc] at h2
  exact ⟨(Two.new w x y T).alloc _, h2, bel_alloc (bel_alloc (Below.refl _ _))⟩
theorem CpI.put {w : World} {x y : Value} {W : World} (h : CpI w x y W) (p q : Value) :
    Two (w.heap.size + 1) ((W.setCell ⟨w.heap.size + 1, 0, none⟩ p).setCell ⟨w.heap.size + 1, 1, none⟩ q) p q ∧ Below w.heap.size w ((W.setCell ⟨w.heap.size + 1, 0, none⟩ p).setCell ⟨w.heap.size + 1, 1, none⟩ q) :=
  ⟨(h.2.1.set0 p).set1 q, (h.2.2.setCell (p := ⟨w.heap.size + 1, 0, none⟩) (by show w.heap.size ≤ w.heap.size + 1; omega) _).setCell (p := ⟨w.heap.size + 1, 1, none⟩) (by show w.heap.size ≤ w.heap.size + 1; omega) _⟩
theorem two_grownM {w w' : World} {b : Nat} {o : Option Nat} {x y : Value} (h : Two b w x y) (hg : w.grownBy w' o) (hne : some b ≠ o) : Two b w' x y := by
  obtain ⟨h0, h1, h2, h3, h4⟩ := h
  have hb := hg.block b h4 hne
  exact ⟨(World.cell?_of_block hb).trans h0, (World.cell?_of_block hb).trans h1, (World.frozen?_of_block hb).trans h2, (World.frozen?_of_block hb).trans h3, Nat.lt_of_lt_of_le h4 hg.size⟩
theorem ownM_set {W : World} {B : Nat} {v : Value} {l : List (Int × Int)} (h : RM.OwnM W B v l) (p : Addr) (hp : p.block < B) (z : Value) : RM.OwnM (W.setCell p z) B v l := by
  obtain ⟨h1, h2⟩ := h
  refine ⟨h1, ?_⟩
  rcases h2 with ⟨h2, h3⟩ | ⟨g, cap, cur, h2, hg, hh, r⟩
  · exact .inl ⟨h2, h3⟩
  · refine .inr ⟨g, cap, cur, h2, hg, ?_, r⟩
    rw [Below.heap_setCell _ _ _ _ (by omega)]
    exact hh
set_option maxRecDepth 100000 in
set_option maxHeartbeats 8000000 in
theorem copy_some (ad : Addr) (n cap : Nat) (tol : Int) (l : List (Int × Int)) (w : World) (hn : Hid (n = l.length)) (n1 : n ≤ 1000)
    (hc : Hid (∀ W, Below w.heap.size w W → ∀ j u, (flat l)[j]? = some u → W.cell? (ad.add j) = some u)) :
    Calls Tryd.prog 13 #[.agg #[.slice (some ad) n cap, .int .i64 tol]] w fun e w' => ∃ u, e = .returned u ∧ TbV w' u l tol ∧ Below w.heap.size w w' := by
  obtain ⟨i0, hi, hz0, hz1, hz2⟩ := RM.info_parts RM.mk_info
  replace hi := Lib.hid hi
  replace hz0 := Lib.hid hz0
  replace hz1 := Lib.hid hz1
  replace hz2 := Lib.hid hz2
  have S00 := Lib.hid (CpI.init w (.slice (some ad) n cap) (.int .i64 tol) 24 24)
  have hl : (flat l).length = n * 2 := by rw [flat_len, hn.out]
  have M1 : Hid (0 + n ≤ maxLen) := Lib.hid (by unfold maxLen; omega)
  have M2 : Hid ((0 + n) * 16 ≤ 140737488355328) := Lib.hid (by omega)
  go_enter Tryd.func13, Tryd.ntmps13
  go_wp2_with fail
  obtain ⟨WA, hWA⟩ : ∃ WA, ((w.alloc (.cells #[.slice (some ad) n cap, .int .i64 tol] 24)).alloc (.cells #[.slice none 0 0, .int .i64 0] 24)) = WA := ⟨_, rfl⟩
  rw [hWA] at S00 ⊢
  have S0 := Lib.hid (S00.out.below (bel_drew _))
  have hsz : WA.heap.size = w.heap.size + 2 := by rw [← hWA]; simp
  clear hWA
  have SE : Hid (CpI w (.slice (some ad) n cap) (.int .i64 tol) (WA.alloc (.cells #[] 39)).drew) := Lib.hid (S00.out.below (bel_alloc (bel_drew _)))
  have OM : Hid ((WA.alloc (.cells #[] 39)).drew.ownsRow WA.heap.size 39 2 (.slice (some ⟨WA.heap.size, 0, none⟩) 0 0) 0 []) := Lib.hid (show (WA.alloc (.cells #[] 39)).ownsRow _ _ _ _ _ _ from World.ownsRow_made WA #[] 0 (Nat.le_refl _) (Nat.zero_le _) (by simp))
  have HB : Hid (WA.heap.size ≤ (WA.alloc (.cells #[] 39)).drew.heap.size) := Lib.hid (show WA.heap.size ≤ (WA.alloc (.cells #[] 39)).heap.size by simp)
  obtain ⟨⟨a0, a1, _, _, _⟩, ⟨z0, z1, zf0, zf1, _⟩, _⟩ := S0.out
  obtain ⟨⟨c0, c1, _, _, _⟩, ⟨y0, y1, yf0, yf1, _⟩, _⟩ := SE.out
  have nb0 : w.heap.size ≠ WA.heap.size := by omega
  have nb1 : w.heap.size + 1 ≠ WA.heap.size := by omega
  have nb2 : WA.heap.size ≠ w.heap.size := by omega
  have nb3 : WA.heap.size ≠ w.heap.size + 1 := by omega
  have nb5 : w.heap.size < WA.heap.size := by omega
  have nb6 : w.heap.size + 1 < WA.heap.size := by omega
  replace hsz := Lib.hid hsz
  go_region_held3 (fun w' => w'.cell? ⟨w.heap.size, 0, none⟩ = some (.slice (some ad) n cap) ∧ w'.cell? ⟨w.heap.size, 1, none⟩ = some (.int .i64 tol)) (go_keep) (first
    | (refine step_append_ownM _ rfl (.tmp 3) (.tmp 5) 22 rfl WA.heap.size 39 i0 (.agg #[.int .i64 0, .int .i64 0]) 2 16 Tryd.underlying22 hi.out hz0.out hz1.out hz2.out rfl (by omega) (.slice (some ⟨WA.heap.size, 0, none⟩) 0 0) 0 [] (by rfl) OM.out ad n cap (flat l) (by rfl) hl (hc.out _ SE.out.2.2) (flat_one l) M1.out M2.out HB.out ?_; intro v2 w4 hown hgrow; have HG : Hid (RM.OwnM w4 WA.heap.size v2 l) := Lib.hid (by unfold RM.OwnM; rw [← hn.out]; rw [Nat.zero_add] at hown; exact hown); have T4 := Lib.hid (two_grownM SE.out.1 hgrow (fun e => by simp [Value.ownBlock] at e; omega)); have T5 := Lib.hid (two_grownM SE.out.2.1 hgrow (fun e => by simp [Value.ownBlock] at e; omega)); have X4 := Lib.hid (SE.out.2.2.grown hgrow SE.out.2.2.size (fun r e => by simp [Value.ownBlock] at e; omega)); obtain ⟨d0, d1, _, _, _⟩ := T4.out; obtain ⟨x0, x1, xf0, xf1, _⟩ := T5.out; obtain ⟨av, cv, hv2⟩ := RM.shape HG.out; subst hv2; clear hown hgrow))
  all_goals
    go_wp2
    obtain ⟨⟨p0, p1, _, _, _⟩, BB⟩ := (show CpI w (.slice (some ad) n cap) (.int .i64 tol) w4 from ⟨T4.out, T5.out, X4.out⟩).put (.slice av l.length cv) (.int .i64 tol)
    refine bodyPost_ret (v := .agg #[.slice av l.length cv, .int .i64 tol]) (by simp [results, Tryd.results13, go_sem, p0, p1]) rfl ?_
    exact ⟨_, rfl, ⟨av, cv, rfl, RM.pts (ownM_set (ownM_set HG.out ⟨w.heap.size + 1, 0, none⟩ (by show w.heap.size + 1 < WA.heap.size; omega) _) ⟨w.heap.size + 1, 1, none⟩ (by show w.heap.size + 1 < WA.heap.size; omega) _)⟩, BB⟩
set_option maxRecDepth 100000 in
set_option maxHeartbeats 8000000 in
theorem copy_none (cap : Nat) (tol : Int) (w : World) :
    Calls Tryd.prog 13 #[.agg #[.slice none 0 cap, .int .i64 tol]] w fun e w' => ∃ u, e = .returned u ∧ TbV w' u [] tol ∧ Below w.heap.size w w' := by
  obtain ⟨i0, hi, hz0, hz1, hz2⟩ := RM.info_parts RM.mk_info
  have S00 := Lib.hid (CpI.init w (.slice none 0 cap) (.int .i64 tol) 24 24)
  go_enter Tryd.func13, Tryd.ntmps13
  go_wp2_with fail
  obtain ⟨WA, hWA⟩ : ∃ WA, ((w.alloc (.cells #[.slice none 0 cap, .int .i64 tol] 24)).alloc (.cells #[.slice none 0 0, .int .i64 0] 24)) = WA := ⟨_, rfl⟩
  rw [hWA] at S00 ⊢
  have hsz : WA.heap.size = w.heap.size + 2 := by rw [← hWA]; simp
  clear hWA
  have S0 := Lib.hid (S00.out.below (bel_drew _))
  have SE : Hid (CpI w (.slice none 0 cap) (.int .i64 tol) (WA.alloc (.cells #[] 39)).drew) := Lib.hid (S00.out.below (bel_alloc (bel_drew _)))
  obtain ⟨⟨a0, a1, _, _, _⟩, ⟨z0, z1, zf0, zf1, _⟩, _⟩ := S0.out
  obtain ⟨⟨c0, c1, _, _, _⟩, ⟨y0, y1, yf0, yf1, _⟩, _⟩ := SE.out
  have SG : Hid (CpI w (.slice none 0 cap) (.int .i64 tol) (WA.alloc (.cells #[] 39))) := Lib.hid (S00.out.below (bel_alloc (Below.refl _ _)))
  obtain ⟨⟨g0, g1, _, _, _⟩, ⟨h0, h1, hf0, hf1, _⟩, _⟩ := SG.out
  have nb0 : w.heap.size ≠ WA.heap.size := by omega
  have nb1 : w.heap.size + 1 ≠ WA.heap.size := by omega
  have nb2 : WA.heap.size ≠ w.heap.size := by omega
  have nb3 : WA.heap.size ≠ w.heap.size + 1 := by omega
  replace hsz := Lib.hid hsz
  have AP : ∀ (W : World) (ty : TypeId), (Builtin.append_ #[22, 22] ty #[.slice (some ⟨WA.heap.size, 0, none⟩) 0 0, .slice none 0 cap]).run Tryd.prog W = .ok (.slice (some ⟨WA.heap.size, 0, none⟩) 0 0) W := fun W ty => by
    simp [Builtin.append_, run_underlying Tryd.underlying22, sizeOf, typeInfo, hi, Builtin.lenOf, Builtin.firstCells, storeCells]
  go_region
  go_wp2
  obtain ⟨⟨p0, p1, _, _, _⟩, BB⟩ := SG.out.put (.slice (some ⟨WA.heap.size, 0, none⟩) 0 0) (.int .i64 tol)
  have q0 := p0
  have q1 := p1
  refine bodyPost_ret (v := .agg #[.slice (some ⟨WA.heap.size, 0, none⟩) 0 0, .int .i64 tol]) (by simp [results, Tryd.results13, go_sem, p0, p1]) rfl ?_
  exact ⟨_, rfl, ⟨_, 0, rfl, some ⟨WA.heap.size, 0, none⟩, 0, rfl, ⟨by simp, by omega⟩, .inl rfl⟩, bel_trans BB (bel_drew _)⟩
theorem copy_any (v : Value) (l : List (Int × Int)) (tol : Int) (w : World) (hv : TbV w v l tol) (n1 : l.length ≤ 1000) :
    Calls Tryd.prog 13 #[v] w fun e w' => ∃ u, e = .returned u ∧ TbV w' u l tol ∧ Below w.heap.size w w' := by
  obtain ⟨a, cap, rfl, hp⟩ := hv
  cases a with
  | none =>
    have hl : l = [] := by
      obtain ⟨_, _, e, _, h | ⟨b, off, hx, _⟩⟩ := hp
      · exact List.length_eq_zero_iff.1 h
      · simp only [Value.slice.injEq] at e; rw [← e.1] at hx; cases hx
    subst hl
    exact copy_none cap tol w
  | some ad =>
    obtain ⟨a', c', e, hcap, h⟩ := hp
    simp only [Value.slice.injEq, true_and] at e
    obtain ⟨rfl, rfl⟩ := e
    rcases h with h | ⟨b, off, hx, hb, hc⟩
    · refine copy_some ad _ cap tol l w (Lib.hid rfl) n1 (Lib.hid fun W hW j u hj => ?_)
      obtain rfl := List.length_eq_zero_iff.1 h
      simp [flat] at hj
    · obtain rfl := Option.some.inj hx
      refine copy_some ⟨b, off, none⟩ _ cap tol l w (Lib.hid rfl) n1 (Lib.hid fun W hW j u hj => ?_)
      obtain ⟨i, hi, ⟨rfl, rfl⟩ | ⟨rfl, rfl⟩⟩ := flat_inv l j u hj
      · rw [Go.WideShapes.add_plain]; exact cell_bel (hc i hi).1 hW
      · rw [Go.WideShapes.add_plain, ← Nat.add_assoc]; exact cell_bel (hc i hi).2 hW
end Go.Proofs.YtdjlainhaoaeiaaDoor

/- few of layer 14 with any rod. -/
namespace Go.Proofs.YtdjlainhaoaeiaaDoor
open Go.RowKit

set_option maxHeartbeats 4000000 in
theorem few14_all (v u : Value) (l t : List (Int × Int)) (tol : Int) (w : World) (hv : Pts w v l) (hu : TbV w u t tol) :
    Calls Tryd.prog 11 #[v, u] w fun e w' => e = .returned (.bool (decide (l.length ≤ 129) && decide (t.length ≤ 129))) ∧ Below w.heap.size w w' := by
  have H : Hid (∀ W, Below w.heap.size w W → _) := Lib.hid fun W hW => few13_any u t tol W (hu.below hW)
  obtain ⟨a, cap, rfl, _⟩ := hv
  obtain ⟨a2, cap2, rfl, _⟩ := hu
  generalize decide (t.length ≤ 129) = B at *
  have e : decide ((l.length : Int) ≤ 129) = decide (l.length ≤ 129) := by simp; omega
  rw [← e]
  clear e
  have X0 := Lib.hid (bel_alloc (w := w) (o := .cells #[.slice a2 t.length cap2, .int .i64 tol] 24) (Below.refl _ _))
  by_cases g : (l.length : Int) ≤ 129
  · have d : decide ((l.length : Int) ≤ 129) = true := decide_eq_true g
    rw [d]
    generalize l.length = n at *
    go_enter Tryd.func11, Tryd.ntmps11
    go_wp2_with fail
    refine (H.out _ X0.out).mono ?_
    rintro e w1 ⟨rfl, gg⟩
    have X1 := Lib.hid (bel_alloc gg); clear gg
    go_wp2
    go_returns
    exact ⟨by simp, X1.out⟩
  · have d : decide ((l.length : Int) ≤ 129) = false := decide_eq_false g
    rw [d]
    generalize l.length = n at *
    go_enter Tryd.func11, Tryd.ntmps11
    go_wp2
    go_returns
    exact ⟨by simp, X0.out⟩
end Go.Proofs.YtdjlainhaoaeiaaDoor

/- Plain facts: rods are restored from their texts, and texts from their rods. No program stands in this text. -/
namespace Go.Proofs.YtdjlainhaoaeiaaDoor

theorem cut_at {a b : List UInt8} (h : (32 : UInt8) ∉ a) : Lib.cut (a ++ 32 :: b) [32] = (a, b, true) := by
  have e : Lib.index (a ++ 32 :: b) [32] = (a.length : Int) := by rw [Lib.index_one, idxB_at h]
  unfold Lib.cut
  rw [e, if_pos (by omega)]
  simp
theorem cut_no {a : List UInt8} (h : (32 : UInt8) ∉ a) : Lib.cut a [32] = (a, [], false) := by
  have e : Lib.index a [32] = -1 := by rw [Lib.index_one, idxB_no h]
  unfold Lib.cut
  rw [e, if_neg (by omega)]
theorem first_of {d : UInt8} : ∀ {t : List UInt8}, d ∈ t → ∃ a b, d ∉ a ∧ t = a ++ d :: b
  | [], h => by cases h
  | x :: t, h => by
    by_cases e : x = d
    · exact ⟨[], t, by simp, by rw [e]; rfl⟩
    · have h' : d ∈ t := by
        rcases List.mem_cons.1 h with h | h
        · exact absurd h.symm e
        · exact h
      obtain ⟨a, b, h1, h2⟩ := first_of h'
      exact ⟨x :: a, b, by simp; exact ⟨fun q => e q.symm, h1⟩, by rw [h2]; rfl⟩
theorem tsuf_nl (t : List UInt8) : Lib.hasSuffix (t ++ [10]) [10] = true ∧ Lib.trimSuffix (t ++ [10]) [10] = t := by
  have h : Lib.hasSuffix (t ++ [10]) [10] = true := by
    unfold Lib.hasSuffix
    rw [List.isSuffixOf_iff_suffix]
    exact ⟨t, rfl⟩
  refine ⟨h, ?_⟩
  unfold Lib.trimSuffix
  rw [if_pos h]
  simp
theorem hsuf_nl {t : List UInt8} (h : Lib.hasSuffix t [10] = true) : t = Lib.trimSuffix t [10] ++ [10] := by
  have h' := h
  unfold Lib.hasSuffix at h'
  rw [List.isSuffixOf_iff_suffix] at h'
  obtain ⟨u, rfl⟩ := h'
  rw [(tsuf_nl u).2]
theorem nm_of {a : List UInt8} (h : nmB ⟨a.toArray⟩ = true) : num a = some (nmV ⟨a.toArray⟩) := by
  unfold nmB at h
  unfold nmV
  have e : (⟨a.toArray⟩ : ByteArray).data.toList = a := by simp
  rw [e] at h ⊢
  cases q : num a with
  | none => rw [q] at h; cases h
  | some v => rfl
theorem nm_is {a : List UInt8} {v : Int} (h : num a = some v) : nmV ⟨a.toArray⟩ = v ∧ nmB ⟨a.toArray⟩ = true := by
  unfold nmB nmV
  have e : (⟨a.toArray⟩ : ByteArray).data.toList = a := by simp
  rw [e, h]
  exact ⟨rfl, rfl⟩
/-- a line that is a mark is the mark's line -/
theorem line_back {t : List UInt8} (h : lnB t = true) : mkN (lnM t) = t := by
  unfold lnB at h
  rw [Bool.and_eq_true, Bool.and_eq_true] at h
  obtain ⟨h0, h1, h2⟩ := h
  have n1 := nm_of h1
  have n2 := nm_of h2
  have i1 := (num_itoa n1).1
  have i2 := (num_itoa n2).1
  have ht := hsuf_nl h0
  unfold mkN lnM
  show Lib.itoa (nmV ⟨(lnC t).1.toArray⟩) ++ [32] ++ Lib.itoa (nmV ⟨(lnC t).2.1.toArray⟩) ++ [10] = t
  rw [i1, i2]
  conv => rhs; rw [ht]
  congr 1
  unfold lnC at n2 ⊢
  by_cases g : (32 : UInt8) ∈ Lib.trimSuffix t [10]
  · obtain ⟨a, b, g1, g2⟩ := first_of g
    rw [g2, cut_at g1]
    simp
  · rw [cut_no g] at n2
    unfold num at n2
    simp at n2
theorem dg_no {a : List UInt8} (h : ∀ c ∈ a, isDg c = true) : (32 : UInt8) ∉ a ∧ (10 : UInt8) ∉ a := by
  constructor
  · intro q; have := h _ q; revert this; decide
  · intro q; have := h _ q; revert this; decide
def InN (q : Int × Int) : Prop := (0 ≤ q.1 ∧ q.1 ≤ 200000) ∧ 0 ≤ q.2 ∧ q.2 ≤ 4294967296
theorem mkN_cut {q : Int × Int} (h : InN q) : ∃ a, mkN q = a ++ [10] ∧ (10 : UInt8) ∉ a ∧ a.length ≤ 17 := by
  obtain ⟨⟨x0, x1⟩, v0, v1⟩ := h
  obtain ⟨n1, d1, e1⟩ := itoa_num x0 (show q.1 ≤ 9999999999 by omega)
  obtain ⟨n2, d2, e2⟩ := itoa_num v0 (show q.2 ≤ 9999999999 by omega)
  refine ⟨Lib.itoa q.1 ++ [32] ++ Lib.itoa q.2, rfl, ?_, ?_⟩
  · intro g
    rw [List.mem_append, List.mem_append] at g
    rcases g with (g | g) | g
    · exact (dg_no d1).2 g
    · simp at g
    · exact (dg_no d2).2 g
  · have l1 : (Lib.itoa q.1).length ≤ 6 := by
      unfold Lib.itoa; rw [if_neg (by omega), Lib.decDigits_length]; exact nd_le 6 _ (by omega) (by omega)
    have l2 : (Lib.itoa q.2).length ≤ 10 := by
      unfold Lib.itoa; rw [if_neg (by omega), Lib.decDigits_length]; exact nd_le 10 _ (by omega) (by omega)
    simp only [List.length_append, List.length_singleton]
    omega
theorem mkN_read {q : Int × Int} (h : InN q) : lnB (mkN q) = true ∧ lnM (mkN q) = q := by
  obtain ⟨⟨x0, x1⟩, v0, v1⟩ := h
  obtain ⟨n1, d1, e1⟩ := itoa_num x0 (show q.1 ≤ 9999999999 by omega)
  obtain ⟨n2, d2, e2⟩ := itoa_num v0 (show q.2 ≤ 9999999999 by omega)
  have ts := tsuf_nl (Lib.itoa q.1 ++ [32] ++ Lib.itoa q.2)
  have e : mkN q = Lib.itoa q.1 ++ [32] ++ Lib.itoa q.2 ++ [10] := rfl
  have hc : lnC (mkN q) = (Lib.itoa q.1, Lib.itoa q.2, true) := by
    unfold lnC
    rw [e, ts.2, List.append_assoc]
    exact cut_at (dg_no d1).1
  unfold lnB lnM
  rw [hc]
  obtain ⟨a1, b1⟩ := nm_is n1
  obtain ⟨a2, b2⟩ := nm_is n2
  refine ⟨?_, ?_⟩
  · rw [e, ts.1]
    show (true && (nmB ⟨(Lib.itoa q.1).toArray⟩ && nmB ⟨(Lib.itoa q.2).toArray⟩)) = true
    rw [b1, b2]; rfl
  · show (nmV ⟨(Lib.itoa q.1).toArray⟩, nmV ⟨(Lib.itoa q.2).toArray⟩) = q
    rw [a1, a2]
theorem liN_ms : ∀ {L : List (Int × Int)}, (∀ q ∈ L, InN q) → liN (L.flatMap mkN) = L.map (fun q => (⟨(mkN q).toArray⟩ : ByteArray)) ∧ (L.flatMap mkN).length ≤ 18 * L.length
  | [], _ => ⟨rfl, by simp⟩
  | q :: L, h => by
    obtain ⟨i1, i2⟩ := liN_ms (L := L) (fun x hx => h x (by simp [hx]))
    obtain ⟨a, ea, ha, hl⟩ := mkN_cut (h q (by simp))
    rw [List.flatMap_cons, List.map_cons, ea]
    refine ⟨?_, ?_⟩
    · rw [List.append_assoc]
      show liN (a ++ 10 :: L.flatMap mkN) = _
      rw [liN_sep ha, i1]
    · simp only [List.length_append, List.length_cons, List.length_nil]
      omega
theorem paG_none : ∀ {L : List ByteArray} {k : Nat}, (∀ x ∈ L, lnB x.data.toList = true) → paG L k = none
  | [], _, _ => rfl
  | x :: L, k, h => by
    unfold paG
    rw [h x (by simp)]
    exact paG_none (fun y hy => h y (by simp [hy]))
theorem paG_all : ∀ {L : List ByteArray} {k : Nat}, paG L k = none → ∀ x ∈ L, lnB x.data.toList = true
  | [], _, _ => fun x hx => by cases hx
  | x :: L, k, h => by
    unfold paG at h
    cases q : lnB x.data.toList with
    | false => rw [q] at h; simp at h
    | true =>
      rw [q] at h
      simp only [if_true] at h
      intro y hy
      rcases List.mem_cons.1 hy with rfl | hy
      · exact q
      · exact paG_all h y hy
theorem self_map (l : List (Int × Int)) : (List.range l.length).map (fun j => (gX l j, gR l j)) = l := by
  apply List.ext_getElem (by simp)
  intro i h1 h2
  simp [gX, gR, List.getD_eq_getElem?_getD, List.getElem?_eq_getElem h2]
theorem roK_all (l : List (Int × Int)) : roK l l.length = l.flatMap mkN := by
  unfold roK
  conv => rhs; rw [← self_map l]
  rw [List.flatMap_map]
theorem RR.inn {l : List (Int × Int)} (h : RR l) : ∀ q ∈ l, InN q := by
  intro q hq
  obtain ⟨i, hi, e⟩ := List.mem_iff_getElem.1 hq
  have a := h.bh i hi
  have b := h.bv i hi
  unfold gX at a
  unfold gR at b
  rw [List.getD_eq_getElem?_getD, List.getElem?_eq_getElem hi, Option.getD_some, e] at a b
  exact ⟨a, by omega, b.2⟩
/-- what is read is printed as it was -/
theorem text_back {s : ByteArray} (h : pnE s = 0) : roE (pnL s) = 0 ∧ rpS (pnL s) = s.data.toList := by
  have hs : s.size ≤ 4096 := by
    unfold pnE at h
    by_cases g : 4096 < s.size
    · rw [if_pos g] at h; omega
    · omega
  cases hp : paG (liN s.data.toList) 0 with
  | some n => have := (pn_bad hs hp).1; omega
  | none =>
    obtain ⟨p1, p2, p3⟩ := pn_good hs hp
    rw [h] at p1
    rw [← p1, if_pos rfl] at p3
    rw [p3]
    refine ⟨p1.symm, ?_⟩
    unfold rpS
    rw [if_pos p1.symm, roK_all]
    have ha := paG_all hp
    have e : (mkP (liN s.data.toList)).flatMap mkN = (liN s.data.toList).flatMap (fun x => x.data.toList) := by
      unfold mkP
      rw [List.flatMap_map]
      generalize liN s.data.toList = L at ha
      induction L with
      | nil => rfl
      | cons x L ih =>
        rw [List.flatMap_cons, List.flatMap_cons, ih (fun y hy => ha y (by simp [hy])), line_back (ha x (by simp))]
    rw [e, liN_flat]
/-- a rod is restored from its text -/
theorem rod_back {l : List (Int × Int)} (h : roE l = 0) : pnE ⟨(rpS l).toArray⟩ = 0 ∧ pnN ⟨(rpS l).toArray⟩ = 0 ∧ pnL ⟨(rpS l).toArray⟩ = l := by
  have hR := roE_iff.1 h
  have hn := hR.inn
  obtain ⟨i1, i2⟩ := liN_ms hn
  have es : rpS l = l.flatMap mkN := by unfold rpS; rw [if_pos h, roK_all]
  have ed : (⟨(rpS l).toArray⟩ : ByteArray).data.toList = rpS l := by simp
  have hs : (⟨(rpS l).toArray⟩ : ByteArray).size ≤ 4096 := by
    rw [str_size, es]; have := hR.n1; omega
  have hl : liN (⟨(rpS l).toArray⟩ : ByteArray).data.toList = l.map (fun q => (⟨(mkN q).toArray⟩ : ByteArray)) := by rw [ed, es]; exact i1
  have hp : paG (liN (⟨(rpS l).toArray⟩ : ByteArray).data.toList) 0 = none := by
    rw [hl]
    refine paG_none fun x hx => ?_
    obtain ⟨q, hq, rfl⟩ := List.mem_map.1 hx
    have : (⟨(mkN q).toArray⟩ : ByteArray).data.toList = mkN q := by simp
    rw [this]
    exact (mkN_read (hn q hq)).1
  have em : mkP (liN (⟨(rpS l).toArray⟩ : ByteArray).data.toList) = l := by
    rw [hl]
    unfold mkP
    rw [List.map_map]
    conv => rhs; rw [← List.map_id l]
    refine List.map_congr_left fun q hq => ?_
    have : (⟨(mkN q).toArray⟩ : ByteArray).data.toList = mkN q := by simp
    show lnM (⟨(mkN q).toArray⟩ : ByteArray).data.toList = q
    rw [this]
    exact (mkN_read (hn q hq)).2
  obtain ⟨p1, p2, p3⟩ := pn_good hs hp
  rw [em, h] at p1 p3
  exact ⟨p1, p2, by rw [p3, if_pos rfl]⟩
end Go.Proofs.YtdjlainhaoaeiaaDoor

/- Plain facts: a made rod agrees with its table; coarser rods. No program stands in this text. -/
namespace Go.Proofs.YtdjlainhaoaeiaaDoor

theorem cm_made {t : List (Int × Int)} {tol s : Int} (he : rmE t tol s = 0) : roE (rmL t tol s) = 0 ∧ cmK (rmL t tol s) t tol s = -1 ∧ cmE (rmL t tol s) t tol s = 0 := by
  obtain ⟨ht, ⟨s0, s1⟩, c0, c1⟩ := rmE_zero.1 he
  obtain ⟨h, _⟩ := tbE_iff.1 ht
  have eL : rmL t tol s = rdS t s (rdC t s) := by unfold rmL; rw [if_pos he]
  have hR := roE_iff.2 (rd_right h s0 c0 c1)
  rw [eL]
  have e2 : cmE (rdS t s (rdC t s)) t tol s = 0 := by
    unfold cmE
    rw [if_neg (by omega), if_neg (by omega)]
  refine ⟨hR, ?_, e2⟩
  unfold cmK
  rw [if_neg (by omega)]
  refine ixR_no fun j hj => ?_
  rw [rdS_len] at hj
  have r := rd_k h s0 (rd_lt hj)
  obtain ⟨aX, aR⟩ := rdS_at (l := t) (s := s) hj
  have e0 := rdE_zero.2 ⟨ht, r.h0, r.h1⟩
  have q : rdQ t tol (lsA t (rdV t s j)) = vl t (lsA t (rdV t s j)) := by unfold rdQ; rw [if_pos e0]
  have m1 := r.m1
  have m2 := r.m2
  have eb : cmB t tol s (gX (rdS t s (rdC t s)) j, gR (rdS t s (rdC t s)) j) = (decide (rdE t tol (lsA t (rdV t s j)) ≠ 0) || decide (s < max (rdQ t tol (lsA t (rdV t s j)) - (rdM t s j).2) ((rdM t s j).2 - rdQ t tol (lsA t (rdV t s j))))) := by
    rw [aX, aR]; rfl
  rw [eb, e0, q]
  generalize vl t (lsA t (rdV t s j)) = y at *
  generalize (rdM t s j).2 = z at *
  rw [Bool.or_eq_false_iff]
  exact ⟨by decide, decide_eq_false (by omega)⟩
theorem coarse {t : List (Int × Int)} {tol s g : Int} (he : rmE t tol s = 0) (he2 : rmE t tol (s * g) = 0) (g0 : 1 ≤ g) {k : Nat} (hk : k < (rmL t tol (s * g)).length) :
    ∃ j, j < (rmL t tol s).length ∧ gX (rmL t tol (s * g)) k = gX (rmL t tol s) j ∧ gR (rmL t tol (s * g)) k ≤ gR (rmL t tol s) j := by
  obtain ⟨ht, ⟨s0, s1⟩, c0, c1⟩ := rmE_zero.1 he
  obtain ⟨_, ⟨u0, u1⟩, d0, d1⟩ := rmE_zero.1 he2
  obtain ⟨h, _⟩ := tbE_iff.1 ht
  have eL : rmL t tol s = rdS t s (rdC t s) := by unfold rmL; rw [if_pos he]
  have eM : rmL t tol (s * g) = rdS t (s * g) (rdC t (s * g)) := by unfold rmL; rw [if_pos he2]
  rw [eM, rdS_len] at hk
  rw [eM, eL, rdS_len]
  have r := rd_k h u0 (rd_lt hk)
  have ge := rd_ge h u0 (show k ≤ rdC t (s * g) by omega)
  obtain ⟨q, hq⟩ := rdV_mul t (s * g) k
  have sg : s ≤ s * g := by
    have := Int.mul_le_mul_of_nonneg_left g0 (show 0 ≤ s by omega)
    omega
  obtain ⟨j, hj, e⟩ := rd_each h s0 c0 c1 (v := rdV t (s * g) k) (t := q * g) (by rw [hq, Int.mul_assoc, Int.mul_comm g s]) (by omega) (rd_lt hk)
  obtain ⟨aX, aR⟩ := rdS_at (l := t) (s := s * g) hk
  obtain ⟨bX, bR⟩ := rdS_at (l := t) (s := s) hj
  refine ⟨j, hj, by rw [aX, bX]; exact e, ?_⟩
  rw [aR, bR, rdM_mul t s j, ← e]
  refine dvs_le (t := vl t (lsA t (rdV t (s * g) k)) / (s * g) * g) s0 ?_ r.m1
  rw [rdM_mul, Int.mul_assoc, Int.mul_comm g s]
end Go.Proofs.YtdjlainhaoaeiaaDoor
