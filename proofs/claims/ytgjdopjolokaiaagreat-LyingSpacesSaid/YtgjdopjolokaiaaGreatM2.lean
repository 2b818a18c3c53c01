/- Texts that the proofs of this seat share, one behind the other: Txt, Quad, CKL, CRA, PRU, CEP, CRH, LRA, LRG, LRD, PRC, PRD, RB, RS, SRefA, SRefB, SRefC, SRefD, LRB, LRC, LRE, LG, LQ, LX, LY. -/
import Derived.Lib.Hide
import Derived.Lib.ItoaNum
import Derived.Test.YtgjdopjolokaiaaGreatM1
import Derived.StillTailTactics
import Derived.BigQuiet
import Derived.Deep.RegionWith
import Derived.Deep.RegionHeld3
import Derived.Deep.CutRange
import Derived.Deep.AppendLies

set_option linter.unusedVariables false
set_option linter.unusedSimpArgs false

/- Plain facts on decimal digits. No program stands in this text. -/
namespace Go.Proofs.YtgjdopjolokaiaaGreat

/-- a decimal digit -/
def isDg (c : UInt8) : Bool := decide (48 ≤ c.toNat) && decide (c.toNat ≤ 57)
theorem isDg_iff (c : UInt8) : isDg c = true ↔ 48 ≤ c.toNat ∧ c.toNat ≤ 57 := by simp [isDg]
theorem isDg_not (c : UInt8) : isDg c = false ↔ c.toNat < 48 ∨ 57 < c.toNat := by rw [Bool.eq_false_iff, ne_eq, isDg_iff]; omega
def dgs (l : List UInt8) : Bool := l.all isDg
/-- the number with some digits -/
def val (l : List UInt8) : Int := l.foldl (fun a c => 10 * a + ((c.toNat : Int) - 48)) 0
theorem val_snoc (l : List UInt8) (c : UInt8) : val (l ++ [c]) = 10 * val l + ((c.toNat : Int) - 48) := by simp [val]
theorem dgs_snoc (l : List UInt8) (c : UInt8) : dgs (l ++ [c]) = (dgs l && isDg c) := by simp [dgs]
theorem val_bd (l : List UInt8) (h : dgs l = true) : 0 ≤ val l ∧ val l < 10 ^ l.length := by
  have key : ∀ (n : Nat) (l : List UInt8), l.length = n → dgs l = true → 0 ≤ val l ∧ val l < 10 ^ l.length := by
    intro n
    induction n with
    | zero => intro l hl _; rw [List.length_eq_zero_iff.1 hl]; simp [val]
    | succ n ih =>
      intro l hl h
      have hne : l ≠ [] := fun e => by subst e; simp at hl
      have e := List.dropLast_concat_getLast hne
      rw [← e] at h ⊢
      rw [dgs_snoc, Bool.and_eq_true, isDg_iff] at h
      obtain ⟨a, b⟩ := ih l.dropLast (by simp; omega) h.1
      rw [val_snoc, List.length_append, List.length_singleton, Int.pow_succ]
      omega
  exact key _ l rfl h
theorem val_small (l : List UInt8) (h : dgs l = true) (hl : l.length ≤ 15) : 0 ≤ val l ∧ val l ≤ 999999999999999 := by
  obtain ⟨a, b⟩ := val_bd l h
  have : (10 : Int) ^ l.length ≤ 10 ^ 15 := by
    have := Nat.pow_le_pow_right (show 0 < 10 by omega) hl
    exact_mod_cast this
  omega

theorem take_snoc (s : ByteArray) (k : Nat) (h : k < s.size) : s.data.toList.take (k + 1) = s.data.toList.take k ++ [s[k]] := by
  rw [List.take_succ_eq_append_getElem (by simpa using h)]; rfl
theorem dgs_take (s : ByteArray) (k : Nat) (h : k < s.size) (hd : isDg s[k] = false) : dgs s.data.toList = false := by
  rw [Bool.eq_false_iff]; intro hall
  unfold dgs at hall
  rw [List.all_eq_true] at hall
  have hm : s[k] ∈ s.data.toList := by
    show s.data[k] ∈ s.data.toList
    exact List.getElem_mem (l := s.data.toList) (by simpa using h)
  rw [hall _ hm] at hd; cases hd
theorem take_all (s : ByteArray) (k : Nat) (h : s.size ≤ k) : s.data.toList.take k = s.data.toList := List.take_of_length_le (by simpa using h)

/-- the last decimal digit of a number -/
def dg (n : Int) : UInt8 := UInt8.ofNat (48 + (n % 10).toNat)
theorem dg_nat (n : Int) : (dg n).toNat = 48 + (n % 10).toNat := by
  have : (n % 10).toNat < 10 := by omega
  unfold dg
  rw [UInt8.toNat_ofNat']
  omega
theorem dg_is (n : Int) : isDg (dg n) = true := by
  rw [isDg_iff, dg_nat]; omega
theorem dg_val (n : Int) : ((dg n).toNat : Int) - 48 = n % 10 := by rw [dg_nat]; omega
def two (n : Int) : List UInt8 := [dg (n / 10), dg n]
def four (n : Int) : List UInt8 := [dg (n / 1000), dg (n / 100), dg (n / 10), dg n]
theorem dgs_two (n : Int) : dgs (two n) = true := by simp [dgs, two, dg_is]
theorem dgs_four (n : Int) : dgs (four n) = true := by simp [dgs, four, dg_is]
theorem val_two (n : Int) (h0 : 0 ≤ n) (h1 : n ≤ 99) : val (two n) = n := by
  simp only [val, two, List.foldl_cons, List.foldl_nil, dg_val]; omega
theorem val_four (n : Int) (h0 : 0 ≤ n) (h1 : n ≤ 9999) : val (four n) = n := by
  simp only [val, four, List.foldl_cons, List.foldl_nil, dg_val]; omega
theorem dec_four (n : Int) (h0 : 1000 ≤ n) (h1 : n ≤ 9999) : Lib.decDigits n.toNat = four n := by
  have d1 : Lib.decDigits n.toNat = Lib.decDigits (n.toNat / 10) ++ [UInt8.ofNat (48 + n.toNat % 10)] := by rw [Lib.decDigits, dif_neg (by omega)]
  have d2 : Lib.decDigits (n.toNat / 10) = Lib.decDigits (n.toNat / 10 / 10) ++ [UInt8.ofNat (48 + n.toNat / 10 % 10)] := by rw [Lib.decDigits, dif_neg (by omega)]
  rw [d1, d2, Lib.decDigits_two (by omega) (by omega)]
  simp only [four, dg, List.cons_append, List.nil_append]
  rw [show n.toNat / 10 / 10 / 10 = (n / 1000 % 10).toNat by omega, show n.toNat / 10 / 10 % 10 = (n / 100 % 10).toNat by omega, show n.toNat / 10 % 10 = (n / 10 % 10).toNat by omega, show n.toNat % 10 = (n % 10).toNat by omega]
theorem dec_one (n : Int) (h0 : 0 ≤ n) (h1 : n ≤ 9) : 48 :: Lib.decDigits n.toNat = two n := by
  rw [Lib.decDigits_one (by omega)]
  simp only [two, dg]
  rw [show n / 10 % 10 = 0 by omega, show n.toNat = (n % 10).toNat by omega]; rfl
theorem dec_two (n : Int) (h0 : 10 ≤ n) (h1 : n ≤ 99) : Lib.decDigits n.toNat = two n := by
  rw [Lib.decDigits_two (by omega) (by omega)]
  simp only [two, dg]
  rw [show n.toNat / 10 = (n / 10 % 10).toNat by omega, show n.toNat % 10 = (n % 10).toNat by omega]
end Go.Proofs.YtgjdopjolokaiaaGreat

/- A block with four cells. -/
namespace Go.Proofs.YtgjdopjolokaiaaGreat
open Go.RowKit

def Quad (b : Nat) (W : World) (x y z u : Value) : Prop := W.cell? ⟨b, 0, none⟩ = some x ∧ W.cell? ⟨b, 1, none⟩ = some y ∧ W.cell? ⟨b, 2, none⟩ = some z ∧ W.cell? ⟨b, 3, none⟩ = some u ∧ (∀ k, k < 4 → W.frozen? ⟨b, k, none⟩ = false) ∧ b < W.heap.size
theorem Quad.below {b : Nat} {W W' : World} {x y z u : Value} (h : Quad b W x y z u) (hb : Below W.heap.size W W') : Quad b W' x y z u := by
  obtain ⟨h0, h1, h2, h3, h4, h5⟩ := h
  exact ⟨by rw [(bcell hb).1 _ _ h5]; exact h0, by rw [(bcell hb).1 _ _ h5]; exact h1, by rw [(bcell hb).1 _ _ h5]; exact h2, by rw [(bcell hb).1 _ _ h5]; exact h3, fun k hk => by rw [(bcell hb).2 _ _ h5]; exact h4 k hk, Nat.lt_of_lt_of_le h5 hb.size⟩
theorem Quad.alloc {b : Nat} {W : World} {x y z u : Value} (h : Quad b W x y z u) (o : Obj) : Quad b (W.alloc o) x y z u := h.below (bel_alloc (Below.refl _ _))
theorem Quad.new (W : World) (x y z u : Value) (T : TypeId) : Quad W.heap.size (W.alloc (.cells #[x, y, z, u] T)) x y z u :=
  ⟨by simp [go_sem], by simp [go_sem], by simp [go_sem], by simp [go_sem], fun k _ => by simp [go_sem], by simp⟩
theorem quad_read (w : World) (b : Nat) (x y z u : Value) {a0 a1 a2 a3 : Value} (h0 : w.cell? ⟨b, 0, none⟩ = some a0) (h1 : w.cell? ⟨b, 1, none⟩ = some a1) (h2 : w.cell? ⟨b, 2, none⟩ = some a2) (h3 : w.cell? ⟨b, 3, none⟩ = some a3) :
    ((((w.setCell ⟨b, 0, none⟩ x).setCell ⟨b, 1, none⟩ y).setCell ⟨b, 2, none⟩ z).setCell ⟨b, 3, none⟩ u).cell? ⟨b, 0, none⟩ = some x ∧ ((((w.setCell ⟨b, 0, none⟩ x).setCell ⟨b, 1, none⟩ y).setCell ⟨b, 2, none⟩ z).setCell ⟨b, 3, none⟩ u).cell? ⟨b, 1, none⟩ = some y ∧ ((((w.setCell ⟨b, 0, none⟩ x).setCell ⟨b, 1, none⟩ y).setCell ⟨b, 2, none⟩ z).setCell ⟨b, 3, none⟩ u).cell? ⟨b, 2, none⟩ = some z ∧ ((((w.setCell ⟨b, 0, none⟩ x).setCell ⟨b, 1, none⟩ y).setCell ⟨b, 2, none⟩ z).setCell ⟨b, 3, none⟩ u).cell? ⟨b, 3, none⟩ = some u := by
  have o : ∀ (W : World) (i j : Nat) (v : Value), i ≠ j → (W.setCell ⟨b, j, none⟩ v).cell? ⟨b, i, none⟩ = W.cell? ⟨b, i, none⟩ := fun W i j v h => World.cell?_setCell_other _ _ _ _ (by simp)
  refine ⟨?_, ?_, ?_, ?_⟩
  · rw [o _ 0 3 _ (by decide), o _ 0 2 _ (by decide), o _ 0 1 _ (by decide)]; exact World.cell?_setCell_same _ _ _ h0
  · rw [o _ 1 3 _ (by decide), o _ 1 2 _ (by decide)]; exact World.cell?_setCell_same (u := a1) _ _ _ (by rw [o _ 1 0 _ (by decide)]; exact h1)
  · rw [o _ 2 3 _ (by decide)]; exact World.cell?_setCell_same (u := a2) _ _ _ (by rw [o _ 2 1 _ (by decide), o _ 2 0 _ (by decide)]; exact h2)
  · exact World.cell?_setCell_same (u := a3) _ _ _ (by rw [o _ 3 2 _ (by decide), o _ 3 1 _ (by decide), o _ 3 0 _ (by decide)]; exact h3)
end Go.Proofs.YtgjdopjolokaiaaGreat

/- Casks: names, values that read as casks, the first fault of a cask. -/
namespace Go.Proofs.YtgjdopjolokaiaaGreat
open Go.RowKit

structure Ck where
  nm : ByteArray
  ps : Int
  pf : List (Int × Int)
  dc : Int

/-- a letter of a name -/
def nmC (c : UInt8) : Bool := decide (97 ≤ c.toNat ∧ c.toNat ≤ 122) || decide (65 ≤ c.toNat ∧ c.toNat ≤ 90) || decide (48 ≤ c.toNat ∧ c.toNat ≤ 57) || decide (c.toNat = 45) || decide (c.toNat = 46)
theorem nmC_iff (c : UInt8) : nmC c = true ↔ (97 ≤ c.toNat ∧ c.toNat ≤ 122) ∨ (65 ≤ c.toNat ∧ c.toNat ≤ 90) ∨ (48 ≤ c.toNat ∧ c.toNat ≤ 57) ∨ c.toNat = 45 ∨ c.toNat = 46 := by
  simp [nmC, or_assoc]
/-- a name -/
def isNm (s : ByteArray) : Bool := s.data.toList.all nmC && decide (1 ≤ s.size) && decide (s.size ≤ 64)
theorem all_snoc {p : UInt8 → Bool} (l : List UInt8) (c : UInt8) : (l ++ [c]).all p = (l.all p && p c) := by simp
theorem all_take {p : UInt8 → Bool} (s : ByteArray) (k : Nat) (h : k < s.size) (hd : p s[k] = false) : s.data.toList.all p = false := by
  rw [Bool.eq_false_iff]; intro hall
  rw [List.all_eq_true] at hall
  have hm : s[k] ∈ s.data.toList := by
    show s.data[k] ∈ s.data.toList
    exact List.getElem_mem (l := s.data.toList) (by simpa using h)
  rw [hall _ hm] at hd; cases hd
/-- the first fault of a cask -/
def ccE (c : Ck) : Int :=
  if isNm c.nm = true then (if (c.ps ≠ 1 ∧ c.ps ≠ 2) ∨ c.dc < 0 ∨ 1073741824 < c.dc then 2 else ckE c.pf) else 4
/-- a value reads as a cask -/
def CkV (w : World) (v : Value) (c : Ck) : Prop :=
  ∃ a cap, v = .agg #[.string c.nm, .int .i64 c.ps, .slice a c.pf.length cap, .int .i64 c.dc] ∧ Pts w (.slice a c.pf.length cap) c.pf ∧ c.nm.size ≤ 9223372036854775807 ∧ (-9223372036854775808 ≤ c.ps ∧ c.ps ≤ 9223372036854775807) ∧ (-9223372036854775808 ≤ c.dc ∧ c.dc ≤ 9223372036854775807)
theorem CkV.below {w w' : World} {v : Value} {c : Ck} (h : CkV w v c) (hb : Below w.heap.size w w') : CkV w' v c := by
  obtain ⟨a, cap, e, hp, r⟩ := h
  exact ⟨a, cap, e, hp.below hb, r⟩
theorem CkV.alloc {w : World} {v : Value} {c : Ck} (h : CkV w v c) (o : Obj) : CkV (w.alloc o) v c := h.below (bel_alloc (Below.refl _ _))
/-- a slice reads as a list of casks -/
def Cks (w : World) (v : Value) (l : List Ck) : Prop :=
  ∃ a cap, v = .slice a l.length cap ∧ (l.length ≤ cap ∧ cap ≤ 9223372036854775807) ∧
    (l.length = 0 ∨ ∃ b off, a = some ⟨b, off, none⟩ ∧ b < w.heap.size ∧ ∀ j (hj : j < l.length), ∃ x0 x1 x2 x3, w.cell? ⟨b, off + j * 4, none⟩ = some x0 ∧ w.cell? ⟨b, off + j * 4 + 1, none⟩ = some x1 ∧ w.cell? ⟨b, off + j * 4 + 2, none⟩ = some x2 ∧ w.cell? ⟨b, off + j * 4 + 3, none⟩ = some x3 ∧ CkV w (.agg #[x0, x1, x2, x3]) l[j])
theorem Cks.below {w w' : World} {v : Value} {l : List Ck} (h : Cks w v l) (hb : Below w.heap.size w w') : Cks w' v l := by
  obtain ⟨a, cap, rfl, hl, h | ⟨b, off, rfl, hlt, hc⟩⟩ := h
  · exact ⟨a, cap, rfl, hl, .inl h⟩
  · refine ⟨_, cap, rfl, hl, .inr ⟨b, off, rfl, Nat.lt_of_lt_of_le hlt hb.size, fun j hj => ?_⟩⟩
    obtain ⟨x0, x1, x2, x3, g0, g1, g2, g3, g⟩ := hc j hj
    exact ⟨x0, x1, x2, x3, by rw [(bcell hb).1 _ _ hlt]; exact g0, by rw [(bcell hb).1 _ _ hlt]; exact g1, by rw [(bcell hb).1 _ _ hlt]; exact g2, by rw [(bcell hb).1 _ _ hlt]; exact g3, g.below hb⟩
theorem Cks.alloc {w : World} {v : Value} {l : List Ck} (h : Cks w v l) (o : Obj) : Cks (w.alloc o) v l := h.below (bel_alloc (Below.refl _ _))
theorem Cks.shape {W : World} {v : Value} {l : List Ck} (h : Cks W v l) : ∃ a cap, v = .slice a l.length cap ∧ l.length ≤ cap ∧ cap ≤ 9223372036854775807 := by
  obtain ⟨a, cap, e, ⟨h1, h2⟩, _⟩ := h
  exact ⟨a, cap, e, h1, h2⟩
/-- the casks' cells, written out -/
def CkAt (w : World) (b off j : Nat) (c : Ck) : Prop :=
  ∃ a cap, w.cell? ⟨b, off + j * 4, none⟩ = some (.string c.nm) ∧ w.cell? ⟨b, off + j * 4 + 1, none⟩ = some (.int .i64 c.ps) ∧ w.cell? ⟨b, off + j * 4 + 2, none⟩ = some (.slice a c.pf.length cap) ∧ w.cell? ⟨b, off + j * 4 + 3, none⟩ = some (.int .i64 c.dc) ∧ Pts w (.slice a c.pf.length cap) c.pf ∧ c.nm.size ≤ 9223372036854775807 ∧ (-9223372036854775808 ≤ c.ps ∧ c.ps ≤ 9223372036854775807) ∧ (-9223372036854775808 ≤ c.dc ∧ c.dc ≤ 9223372036854775807)
theorem CkAt.below {w w' : World} {b off j : Nat} {c : Ck} (h : CkAt w b off j c) (hlt : b < w.heap.size) (hb : Below w.heap.size w w') : CkAt w' b off j c := by
  obtain ⟨a, cap, g0, g1, g2, g3, hp, r⟩ := h
  exact ⟨a, cap, by rw [(bcell hb).1 _ _ hlt]; exact g0, by rw [(bcell hb).1 _ _ hlt]; exact g1, by rw [(bcell hb).1 _ _ hlt]; exact g2, by rw [(bcell hb).1 _ _ hlt]; exact g3, hp.below hb, r⟩
theorem Cks.cks {W : World} {v : Value} {l : List Ck} (h : Cks W v l) (h0 : 0 < l.length) : ∃ b off cap, v = .slice (some ⟨b, off, none⟩) l.length cap ∧ b < W.heap.size ∧ (l.length ≤ cap ∧ cap ≤ 9223372036854775807) ∧ ∀ j (hj : j < l.length), CkAt W b off j l[j] := by
  obtain ⟨a, cap, rfl, hl, h | ⟨b, off, rfl, hlt, hc⟩⟩ := h
  · omega
  · refine ⟨b, off, cap, rfl, hlt, hl, fun j hj => ?_⟩
    obtain ⟨x0, x1, x2, x3, g0, g1, g2, g3, a, c, e, r⟩ := hc j hj
    simp only [Value.agg.injEq, Array.mk.injEq, List.cons.injEq, and_true] at e
    obtain ⟨rfl, rfl, rfl, rfl⟩ := e
    exact ⟨a, c, g0, g1, g2, g3, r⟩
theorem cks_nil (w : World) : Cks w (.slice none 0 0) [] := ⟨none, 0, rfl, by simp, .inl rfl⟩
/-- no cask -/
def zCk : Ck := ⟨ByteArray.empty, 0, [], 0⟩
end Go.Proofs.YtgjdopjolokaiaaGreat

/- The reference of layer 9: IsName, Check, Few, SameCask. -/
namespace Go.Proofs.YtgjdopjolokaiaaGreat
open Go.RowKit

set_option maxHeartbeats 8000000 in
set_option maxRecDepth 100000 in
theorem refIsName_core (s : ByteArray) (B : Bool) (w : World) (hs : s.size ≤ 9223372036854775807)
    (h1 : Hid (s.data.toList.all nmC = false → B = false)) (h2 : Hid (s.data.toList.all nmC = true → B = (decide (1 ≤ s.size) && decide (s.size ≤ 64)))) :
    Calls Tryz.prog 94 #[.string s] w fun e w' => e = .returned (.bool B) ∧ w' = w := by
  go_enter Tryz.func94, Tryz.ntmps94
  go_wp2_with fail
  go_loopw [3] (fun ii wr => ∃ i : Nat, i ≤ s.size ∧ ii = .int .i64 i ∧ wr = w ∧ Hid ((s.data.toList.take i).all nmC = true)) (fun ii _ => s.size - (intOf ii).toNat)
  case atStart => exact ⟨0, by omega, rfl, rfl, rfl⟩
  case round =>
    obtain ⟨i, hi, rfl, rfl, ha⟩ := hrel
    by_cases hlt : i < s.size
    · have cs : (97 ≤ s[i].toNat ∧ s[i].toNat ≤ 122) ∨ (65 ≤ s[i].toNat ∧ s[i].toNat ≤ 90) ∨ (48 ≤ s[i].toNat ∧ s[i].toNat ≤ 57) ∨ (45 ≤ s[i].toNat ∧ s[i].toNat ≤ 45) ∨ (46 ≤ s[i].toNat ∧ s[i].toNat ≤ 46) ∨ (0 ≤ s[i].toNat ∧ s[i].toNat ≤ 44) ∨ (47 ≤ s[i].toNat ∧ s[i].toNat ≤ 47) ∨ (58 ≤ s[i].toNat ∧ s[i].toNat ≤ 64) ∨ (91 ≤ s[i].toNat ∧ s[i].toNat ≤ 96) ∨ (123 ≤ s[i].toNat ∧ s[i].toNat ≤ 255) := by
        have := s[i].toNat_lt
        omega
      have HT : Hid (nmC s[i] = true → (s.data.toList.take (i + 1)).all nmC = true) := fun h => by show _ = _; rw [take_snoc s i hlt, all_snoc, ha.out, h]; rfl
      have HF : Hid (nmC s[i] = false → B = false) := fun h => h1.out (all_take s i hlt h)
      clear ha h1 h2
      rcases cs with cs | cs | cs | cs | cs | cs | cs | cs | cs | cs
      · have hx := Lib.hid (HT.out ((nmC_iff _).2 (by omega)))
        clear HT HF
        have za0 : decide ((97 : Int) ≤ (s[i].toNat : Int)) = true := decide_eq_true (by omega)
        have za1 : decide ((s[i].toNat : Int) ≤ 122) = true := decide_eq_true (by omega)
        have zb0 : decide ((65 : Int) ≤ (s[i].toNat : Int)) = true := decide_eq_true (by omega)
        have zb1 : decide ((s[i].toNat : Int) ≤ 90) = false := decide_eq_false (by omega)
        have zc0 : decide ((48 : Int) ≤ (s[i].toNat : Int)) = true := decide_eq_true (by omega)
        have zc1 : decide ((s[i].toNat : Int) ≤ 57) = false := decide_eq_false (by omega)
        have ze : ((s[i].toNat : Int) == 45) = false := by simp only [beq_eq_false_iff_ne, ne_eq]; omega
        have zf : ((s[i].toNat : Int) == 46) = false := by simp only [beq_eq_false_iff_ne, ne_eq]; omega
        clear cs
        go_wp2
        go_roundw
        case rel => exact ⟨i + 1, by omega, by go_num, by first | rfl | trivial, hx⟩
        case measure => simp [intOf]; omega
      · have hx := Lib.hid (HT.out ((nmC_iff _).2 (by omega)))
        clear HT HF
        have za0 : decide ((97 : Int) ≤ (s[i].toNat : Int)) = false := decide_eq_false (by omega)
        have za1 : decide ((s[i].toNat : Int) ≤ 122) = true := decide_eq_true (by omega)
        have zb0 : decide ((65 : Int) ≤ (s[i].toNat : Int)) = true := decide_eq_true (by omega)
        have zb1 : decide ((s[i].toNat : Int) ≤ 90) = true := decide_eq_true (by omega)
        have zc0 : decide ((48 : Int) ≤ (s[i].toNat : Int)) = true := decide_eq_true (by omega)
        have zc1 : decide ((s[i].toNat : Int) ≤ 57) = false := decide_eq_false (by omega)
        have ze : ((s[i].toNat : Int) == 45) = false := by simp only [beq_eq_false_iff_ne, ne_eq]; omega
        have zf : ((s[i].toNat : Int) == 46) = false := by simp only [beq_eq_false_iff_ne, ne_eq]; omega
        clear cs
        go_wp2
        go_roundw
        case rel => exact ⟨i + 1, by omega, by go_num, by first | rfl | trivial, hx⟩
        case measure => simp [intOf]; omega
      · have hx := Lib.hid (HT.out ((nmC_iff _).2 (by omega)))
        clear HT HF
        have za0 : decide ((97 : Int) ≤ (s[i].toNat : Int)) = false := decide_eq_false (by omega)
        have za1 : decide ((s[i].toNat : Int) ≤ 122) = true := decide_eq_true (by omega)
        have zb0 : decide ((65 : Int) ≤ (s[i].toNat : Int)) = false := decide_eq_false (by omega)
        have zb1 : decide ((s[i].toNat : Int) ≤ 90) = true := decide_eq_true (by omega)
        have zc0 : decide ((48 : Int) ≤ (s[i].toNat : Int)) = true := decide_eq_true (by omega)
        have zc1 : decide ((s[i].toNat : Int) ≤ 57) = true := decide_eq_true (by omega)
        have ze : ((s[i].toNat : Int) == 45) = false := by simp only [beq_eq_false_iff_ne, ne_eq]; omega
        have zf : ((s[i].toNat : Int) == 46) = false := by simp only [beq_eq_false_iff_ne, ne_eq]; omega
        clear cs
        go_wp2
        go_roundw
        case rel => exact ⟨i + 1, by omega, by go_num, by first | rfl | trivial, hx⟩
        case measure => simp [intOf]; omega
      · have hx := Lib.hid (HT.out ((nmC_iff _).2 (by omega)))
        clear HT HF
        have za0 : decide ((97 : Int) ≤ (s[i].toNat : Int)) = false := decide_eq_false (by omega)
        have za1 : decide ((s[i].toNat : Int) ≤ 122) = true := decide_eq_true (by omega)
        have zb0 : decide ((65 : Int) ≤ (s[i].toNat : Int)) = false := decide_eq_false (by omega)
        have zb1 : decide ((s[i].toNat : Int) ≤ 90) = true := decide_eq_true (by omega)
        have zc0 : decide ((48 : Int) ≤ (s[i].toNat : Int)) = false := decide_eq_false (by omega)
        have zc1 : decide ((s[i].toNat : Int) ≤ 57) = true := decide_eq_true (by omega)
        have ze : ((s[i].toNat : Int) == 45) = true := by simp only [beq_iff_eq]; omega
        have zf : ((s[i].toNat : Int) == 46) = false := by simp only [beq_eq_false_iff_ne, ne_eq]; omega
        clear cs
        go_wp2
        go_roundw
        case rel => exact ⟨i + 1, by omega, by go_num, by first | rfl | trivial, hx⟩
        case measure => simp [intOf]; omega
      · have hx := Lib.hid (HT.out ((nmC_iff _).2 (by omega)))
        clear HT HF
        have za0 : decide ((97 : Int) ≤ (s[i].toNat : Int)) = false := decide_eq_false (by omega)
        have za1 : decide ((s[i].toNat : Int) ≤ 122) = true := decide_eq_true (by omega)
        have zb0 : decide ((65 : Int) ≤ (s[i].toNat : Int)) = false := decide_eq_false (by omega)
        have zb1 : decide ((s[i].toNat : Int) ≤ 90) = true := decide_eq_true (by omega)
        have zc0 : decide ((48 : Int) ≤ (s[i].toNat : Int)) = false := decide_eq_false (by omega)
        have zc1 : decide ((s[i].toNat : Int) ≤ 57) = true := decide_eq_true (by omega)
        have ze : ((s[i].toNat : Int) == 45) = false := by simp only [beq_eq_false_iff_ne, ne_eq]; omega
        have zf : ((s[i].toNat : Int) == 46) = true := by simp only [beq_iff_eq]; omega
        clear cs
        go_wp2
        go_roundw
        case rel => exact ⟨i + 1, by omega, by go_num, by first | rfl | trivial, hx⟩
        case measure => simp [intOf]; omega
      · obtain rfl := HF.out (by rw [Bool.eq_false_iff, ne_eq, nmC_iff]; omega)
        clear HT HF
        have za0 : decide ((97 : Int) ≤ (s[i].toNat : Int)) = false := decide_eq_false (by omega)
        have za1 : decide ((s[i].toNat : Int) ≤ 122) = true := decide_eq_true (by omega)
        have zb0 : decide ((65 : Int) ≤ (s[i].toNat : Int)) = false := decide_eq_false (by omega)
        have zb1 : decide ((s[i].toNat : Int) ≤ 90) = true := decide_eq_true (by omega)
        have zc0 : decide ((48 : Int) ≤ (s[i].toNat : Int)) = false := decide_eq_false (by omega)
        have zc1 : decide ((s[i].toNat : Int) ≤ 57) = true := decide_eq_true (by omega)
        have ze : ((s[i].toNat : Int) == 45) = false := by simp only [beq_eq_false_iff_ne, ne_eq]; omega
        have zf : ((s[i].toNat : Int) == 46) = false := by simp only [beq_eq_false_iff_ne, ne_eq]; omega
        clear cs
        go_wp2
        go_returns
        exact ⟨rfl, rfl⟩
      · obtain rfl := HF.out (by rw [Bool.eq_false_iff, ne_eq, nmC_iff]; omega)
        clear HT HF
        have za0 : decide ((97 : Int) ≤ (s[i].toNat : Int)) = false := decide_eq_false (by omega)
        have za1 : decide ((s[i].toNat : Int) ≤ 122) = true := decide_eq_true (by omega)
        have zb0 : decide ((65 : Int) ≤ (s[i].toNat : Int)) = false := decide_eq_false (by omega)
        have zb1 : decide ((s[i].toNat : Int) ≤ 90) = true := decide_eq_true (by omega)
        have zc0 : decide ((48 : Int) ≤ (s[i].toNat : Int)) = false := decide_eq_false (by omega)
        have zc1 : decide ((s[i].toNat : Int) ≤ 57) = true := decide_eq_true (by omega)
        have ze : ((s[i].toNat : Int) == 45) = false := by simp only [beq_eq_false_iff_ne, ne_eq]; omega
        have zf : ((s[i].toNat : Int) == 46) = false := by simp only [beq_eq_false_iff_ne, ne_eq]; omega
        clear cs
        go_wp2
        go_returns
        exact ⟨rfl, rfl⟩
      · obtain rfl := HF.out (by rw [Bool.eq_false_iff, ne_eq, nmC_iff]; omega)
        clear HT HF
        have za0 : decide ((97 : Int) ≤ (s[i].toNat : Int)) = false := decide_eq_false (by omega)
        have za1 : decide ((s[i].toNat : Int) ≤ 122) = true := decide_eq_true (by omega)
        have zb0 : decide ((65 : Int) ≤ (s[i].toNat : Int)) = false := decide_eq_false (by omega)
        have zb1 : decide ((s[i].toNat : Int) ≤ 90) = true := decide_eq_true (by omega)
        have zc0 : decide ((48 : Int) ≤ (s[i].toNat : Int)) = true := decide_eq_true (by omega)
        have zc1 : decide ((s[i].toNat : Int) ≤ 57) = false := decide_eq_false (by omega)
        have ze : ((s[i].toNat : Int) == 45) = false := by simp only [beq_eq_false_iff_ne, ne_eq]; omega
        have zf : ((s[i].toNat : Int) == 46) = false := by simp only [beq_eq_false_iff_ne, ne_eq]; omega
        clear cs
        go_wp2
        go_returns
        exact ⟨rfl, rfl⟩
      · obtain rfl := HF.out (by rw [Bool.eq_false_iff, ne_eq, nmC_iff]; omega)
        clear HT HF
        have za0 : decide ((97 : Int) ≤ (s[i].toNat : Int)) = false := decide_eq_false (by omega)
        have za1 : decide ((s[i].toNat : Int) ≤ 122) = true := decide_eq_true (by omega)
        have zb0 : decide ((65 : Int) ≤ (s[i].toNat : Int)) = true := decide_eq_true (by omega)
        have zb1 : decide ((s[i].toNat : Int) ≤ 90) = false := decide_eq_false (by omega)
        have zc0 : decide ((48 : Int) ≤ (s[i].toNat : Int)) = true := decide_eq_true (by omega)
        have zc1 : decide ((s[i].toNat : Int) ≤ 57) = false := decide_eq_false (by omega)
        have ze : ((s[i].toNat : Int) == 45) = false := by simp only [beq_eq_false_iff_ne, ne_eq]; omega
        have zf : ((s[i].toNat : Int) == 46) = false := by simp only [beq_eq_false_iff_ne, ne_eq]; omega
        clear cs
        go_wp2
        go_returns
        exact ⟨rfl, rfl⟩
      · obtain rfl := HF.out (by rw [Bool.eq_false_iff, ne_eq, nmC_iff]; omega)
        clear HT HF
        have za0 : decide ((97 : Int) ≤ (s[i].toNat : Int)) = true := decide_eq_true (by omega)
        have za1 : decide ((s[i].toNat : Int) ≤ 122) = false := decide_eq_false (by omega)
        have zb0 : decide ((65 : Int) ≤ (s[i].toNat : Int)) = true := decide_eq_true (by omega)
        have zb1 : decide ((s[i].toNat : Int) ≤ 90) = false := decide_eq_false (by omega)
        have zc0 : decide ((48 : Int) ≤ (s[i].toNat : Int)) = true := decide_eq_true (by omega)
        have zc1 : decide ((s[i].toNat : Int) ≤ 57) = false := decide_eq_false (by omega)
        have ze : ((s[i].toNat : Int) == 45) = false := by simp only [beq_eq_false_iff_ne, ne_eq]; omega
        have zf : ((s[i].toNat : Int) == 46) = false := by simp only [beq_eq_false_iff_ne, ne_eq]; omega
        clear cs
        go_wp2
        go_returns
        exact ⟨rfl, rfl⟩
    · obtain rfl : i = s.size := by omega
      have ha' := ha.out
      rw [take_all s s.size (Nat.le_refl _)] at ha'
      have hB := h2.out ha'
      clear ha' h1 h2 ha
      by_cases g1 : 1 ≤ s.size
      · by_cases g2 : s.size ≤ 64
        · obtain rfl : B = true := by rw [hB]; simp [g1, g2]
          have d0 : decide ((1 : Int) ≤ (s.size : Int)) = true := decide_eq_true (by omega)
          have d1 : decide ((s.size : Int) ≤ 64) = true := decide_eq_true (by omega)
          clear g1 g2 hB hlt hi hs
          go_wp2
          go_returns
          exact ⟨rfl, rfl⟩
        · obtain rfl : B = false := by rw [hB]; simp [g2]
          have d0 : decide ((1 : Int) ≤ (s.size : Int)) = true := decide_eq_true (by omega)
          have d1 : decide ((s.size : Int) ≤ 64) = false := decide_eq_false (by omega)
          clear g1 g2 hB hlt hi hs
          go_wp2
          go_returns
          exact ⟨rfl, rfl⟩
      · obtain rfl : B = false := by rw [hB]; simp [g1]
        have d0 : decide ((1 : Int) ≤ (s.size : Int)) = false := decide_eq_false (by omega)
        clear g1 hB hlt hi hs
        go_wp2
        go_returns
        exact ⟨rfl, rfl⟩
theorem refIsName_any (s : ByteArray) (w : World) (hs : s.size ≤ 9223372036854775807) :
    Calls Tryz.prog 94 #[.string s] w fun e w' => e = .returned (.bool (isNm s)) ∧ w' = w :=
  refIsName_core s _ w hs (fun h => by show _ = _; unfold isNm; rw [h]; rfl) (fun h => by show _ = _; unfold isNm; rw [h]; simp)

set_option maxHeartbeats 4000000 in
theorem refCkk_core (nm : ByteArray) (ps dc : Int) (a : Option Addr) (n cap : Nat) (B : Bool) (E : Int) (w : World)
    (H1 : Hid (∀ W, Calls Tryz.prog 94 #[.string nm] W fun e w' => e = .returned (.bool B) ∧ w' = W))
    (H2 : Hid (∀ W, Below w.heap.size w W → Calls Tryz.prog 78 #[.slice a n cap] W fun e w' => e = .returned (.int .i64 E) ∧ Below W.heap.size W w')) :
    Calls Tryz.prog 77 #[.agg #[.string nm, .int .i64 ps, .slice a n cap, .int .i64 dc]] w fun e w' => e = .returned (.int .i64 (if B = true then (if (ps ≠ 1 ∧ ps ≠ 2) ∨ dc < 0 ∨ 1073741824 < dc then 2 else E) else 4)) ∧ Below w.heap.size w w' := by
  have F0 := Lib.hid (Quad.new w (.string nm) (.int .i64 ps) (.slice a n cap) (.int .i64 dc) 24)
  cases B with
  | false =>
    go_enter Tryz.func77, Tryz.ntmps77
    go_wp2_with fail
    refine (H1.out _).mono ?_
    rintro e w1 ⟨rfl, hw⟩
    subst hw
    go_wp2
    go_returns
    exact ⟨by simp, bel_alloc (Below.refl _ _)⟩
  | true =>
    rw [if_pos rfl]
    have q : (ps = 1 ∨ ps = 2 ∨ (ps ≠ 1 ∧ ps ≠ 2)) := by omega
    have X1 : Hid (Below w.heap.size w (w.alloc (.cells #[.string nm, .int .i64 ps, .slice a n cap, .int .i64 dc] 24))) := Lib.hid (bel_alloc (Below.refl _ _))
    have fin : ∀ (P : Prop) [Decidable P], P → (if P then (2 : Int) else E) = 2 := fun P _ h => if_pos h
    have fin2 : ∀ (P : Prop) [Decidable P], ¬ P → (if P then (2 : Int) else E) = E := fun P _ h => if_neg h
    rcases q with rfl | rfl | ⟨h, h'⟩
    · by_cases d0 : dc < 0
      · rw [fin _ (by omega)]
        have y0 : decide (dc < 0) = true := decide_eq_true d0
        clear F0
        go_enter Tryz.func77, Tryz.ntmps77
        go_wp2_with fail
        refine (H1.out _).mono ?_
        rintro e w1 ⟨rfl, hw⟩
        subst hw
        go_wp2
        go_returns
        exact ⟨rfl, X1.out⟩
      · by_cases d1 : 1073741824 < dc
        · rw [fin _ (by omega)]
          have y0 : decide (dc < 0) = false := decide_eq_false d0
          have y1 : decide (1073741824 < dc) = true := decide_eq_true d1
          clear F0
          go_enter Tryz.func77, Tryz.ntmps77
          go_wp2_with fail
          refine (H1.out _).mono ?_
          rintro e w1 ⟨rfl, hw⟩
          subst hw
          go_wp2
          go_returns
          exact ⟨rfl, X1.out⟩
        · rw [fin2 _ (by omega)]
          have y0 : decide (dc < 0) = false := decide_eq_false d0
          have y1 : decide (1073741824 < dc) = false := decide_eq_false d1
          clear F0
          go_enter Tryz.func77, Tryz.ntmps77
          go_wp2_with fail
          refine (H1.out _).mono ?_
          rintro e w1 ⟨rfl, hw⟩
          subst hw
          go_wp2_with fail
          refine (H2.out _ X1.out).mono ?_
          rintro e w2 ⟨rfl, gg⟩
          replace X1 := Lib.hid (bel_trans X1.out gg); clear gg
          go_wp2
          go_returns
          exact ⟨rfl, X1.out⟩
    · by_cases d0 : dc < 0
      · rw [fin _ (by omega)]
        have y0 : decide (dc < 0) = true := decide_eq_true d0
        clear F0
        go_enter Tryz.func77, Tryz.ntmps77
        go_wp2_with fail
        refine (H1.out _).mono ?_
        rintro e w1 ⟨rfl, hw⟩
        subst hw
        go_wp2
        go_returns
        exact ⟨rfl, X1.out⟩
      · by_cases d1 : 1073741824 < dc
        · rw [fin _ (by omega)]
          have y0 : decide (dc < 0) = false := decide_eq_false d0
          have y1 : decide (1073741824 < dc) = true := decide_eq_true d1
          clear F0
          go_enter Tryz.func77, Tryz.ntmps77
          go_wp2_with fail
          refine (H1.out _).mono ?_
          rintro e w1 ⟨rfl, hw⟩
          subst hw
          go_wp2
          go_returns
          exact ⟨rfl, X1.out⟩
        · rw [fin2 _ (by omega)]
          have y0 : decide (dc < 0) = false := decide_eq_false d0
          have y1 : decide (1073741824 < dc) = false := decide_eq_false d1
          clear F0
          go_enter Tryz.func77, Tryz.ntmps77
          go_wp2_with fail
          refine (H1.out _).mono ?_
          rintro e w1 ⟨rfl, hw⟩
          subst hw
          go_wp2_with fail
          refine (H2.out _ X1.out).mono ?_
          rintro e w2 ⟨rfl, gg⟩
          replace X1 := Lib.hid (bel_trans X1.out gg); clear gg
          go_wp2
          go_returns
          exact ⟨rfl, X1.out⟩
    · rw [fin _ (by omega)]
      have z1 : (ps != 1) = true := by simpa using h
      have z2 : (ps != 2) = true := by simpa using h'
      clear F0
      go_enter Tryz.func77, Tryz.ntmps77
      go_wp2_with fail
      refine (H1.out _).mono ?_
      rintro e w1 ⟨rfl, hw⟩
      subst hw
      go_wp2
      go_returns
      exact ⟨rfl, X1.out⟩
theorem refCkk_any (v : Value) (c : Ck) (w : World) (hv : CkV w v c) :
    Calls Tryz.prog 77 #[v] w fun e w' => e = .returned (.int .i64 (ccE c)) ∧ Below w.heap.size w w' := by
  obtain ⟨a, cap, rfl, hp, hs, _⟩ := hv
  exact refCkk_core c.nm c.ps c.dc a _ cap (isNm c.nm) (ckE c.pf) w (Lib.hid fun W => refIsName_any c.nm W hs) (Lib.hid fun W hW => refCk_any _ c.pf W (hp.below hW))

end Go.Proofs.YtgjdopjolokaiaaGreat

/- The reference of layer 8: Bung. -/
namespace Go.Proofs.YtgjdopjolokaiaaGreat
open Go.RowKit

set_option maxHeartbeats 4000000 in
set_option maxRecDepth 100000 in
theorem refBung_ok (b off n cap : Nat) (l : List (Int × Int)) (w : World) (n0 : 1 ≤ n) (n1 : n ≤ 1000) (hb : b < w.heap.size)
    (hc : Hid (∀ j, j < n → w.cell? ⟨b, off + j * 2, none⟩ = some (.int .i64 (gX l j)) ∧ w.cell? ⟨b, off + j * 2 + 1, none⟩ = some (.int .i64 (gR l j))))
    (H1 : Hid (Calls Tryz.prog 78 #[.slice (some ⟨b, off, none⟩) n cap] w fun e w' => e = .returned (.int .i64 0) ∧ Below w.heap.size w w')) :
    Calls Tryz.prog 59 #[.slice (some ⟨b, off, none⟩) n cap] w fun e w' => e = .returned (.tuple #[.int .i64 (bg l n), .int .i64 0]) ∧ Below w.heap.size w w' := by
  go_enter Tryz.func59, Tryz.ntmps59
  go_wp2_with fail
  refine H1.out.mono ?_
  rintro e w1 ⟨rfl, gg⟩
  have X1 := Lib.hid gg; clear gg H1
  go_wp2_with fail
  go_loopw [5, 6] (fun bu ii wr => ∃ k : Nat, k ≤ n ∧ ii = .int .i64 k ∧ bu = .int .i64 (bg l k) ∧ Hid (Below w.heap.size w wr)) (fun _ ii _ => n - (intOf ii).toNat)
  case atStart => exact ⟨0, Nat.zero_le _, rfl, rfl, X1⟩
  case round =>
    obtain ⟨k, hk, rfl, rfl, hB⟩ := hrel
    by_cases hlt : k < n
    · have c1 : wr.cell? ⟨b, off + k * 2 + 1, none⟩ = some (.int .i64 (gR l k)) := by rw [(bcell hB.out).1 _ _ hb]; exact (hc.out k hlt).2
      have hg := bg_lt l k
      have hgl : bg l k < n := by omega
      have eb : bg l (k + 1) = if gR l (bg l k) < gR l k then k else bg l k := rfl
      have c2 : wr.cell? ⟨b, off + bg l k * 2 + 1, none⟩ = some (.int .i64 (gR l (bg l k))) := by rw [(bcell hB.out).1 _ _ hb]; exact (hc.out (bg l k) hgl).2
      have EB := Lib.hid eb
      have l1 : (k : Int) < (n : Int) := by omega
      clear eb hg
      generalize hgg : bg l k = g at *
      have l2 : (g : Int) < (n : Int) := by omega
      generalize gR l g = rg at *
      generalize gR l k = r at *
      clear hgg
      by_cases hq : rg < r
      · have e : bg l (k + 1) = k := by rw [EB.out, if_pos hq]
        clear EB
        go_wp2_with fail
        go_quiet (fail)
        go_wp2
        go_roundw
        case rel => exact ⟨k + 1, by omega, by go_num, by rw [e], bel_trans hB.out (bel_drewN _ _)⟩
        case measure => simp [intOf]; omega
      · have e : bg l (k + 1) = g := by rw [EB.out, if_neg hq]
        clear EB
        go_wp2_with fail
        go_quiet (fail)
        go_wp2
        go_roundw
        case rel => exact ⟨k + 1, by omega, by go_num, by rw [e], bel_trans hB.out (bel_drewN _ _)⟩
        case measure => simp [intOf]; omega
    · obtain rfl : k = n := by omega
      go_wp2
      go_returns
      exact ⟨rfl, hB.out⟩
theorem refBung_bad (v : Value) (E : Int) (w : World) (e1 : (E == 0) = false) (e2 : (E != 0) = true)
    (H1 : Hid (Calls Tryz.prog 78 #[v] w fun e w' => e = .returned (.int .i64 E) ∧ Below w.heap.size w w')) :
    Calls Tryz.prog 59 #[v] w fun e w' => e = .returned (.tuple #[.int .i64 0, .int .i64 E]) ∧ Below w.heap.size w w' := by
  go_enter Tryz.func59, Tryz.ntmps59
  go_wp2_with fail
  refine H1.out.mono ?_
  rintro e w1 ⟨rfl, gg⟩
  have X1 := Lib.hid gg; clear gg
  go_wp2
  go_returns
  exact ⟨rfl, X1.out⟩
theorem refBung_any (v : Value) (l : List (Int × Int)) (w : World) (hv : Pts w v l) :
    Calls Tryz.prog 59 #[v] w fun e w' => e = .returned (.tuple #[.int .i64 (buQ l), .int .i64 (ckE l)]) ∧ Below w.heap.size w w' := by
  have HC := Lib.hid (refCk_any v l w hv)
  unfold buQ
  by_cases h : ckE l = 0
  · have hR := (ckE_iff l).1 h
    have n0 := hR.n0
    have n1 := hR.n1
    rw [if_pos h, h]
    rw [h] at HC
    obtain ⟨a, cap, rfl, hl, hh⟩ := hv
    rcases hh with hh | ⟨b, off, rfl, hb, hc⟩
    · omega
    · exact refBung_ok b off l.length cap l w (by omega) (by omega) hb (Lib.hid hc) HC
  · rw [if_neg h]
    exact refBung_bad v _ w (by simpa using h) (by simpa using h) HC
end Go.Proofs.YtgjdopjolokaiaaGreat

/- What a cask without a fault is. -/
namespace Go.Proofs.YtgjdopjolokaiaaGreat

theorem ccE_pf {c : Ck} (h : ccE c = 0) : isNm c.nm = true ∧ (c.ps = 1 ∨ c.ps = 2) ∧ (0 ≤ c.dc ∧ c.dc ≤ 1073741824) ∧ RP c.pf := by
  unfold ccE at h
  split at h
  · rename_i g
    split at h
    · omega
    · exact ⟨g, by omega, by omega, (ckE_iff _).1 h⟩
  · omega
end Go.Proofs.YtgjdopjolokaiaaGreat

/- The reference of layer 9: Radius, Depth. -/
namespace Go.Proofs.YtgjdopjolokaiaaGreat
open Go.RowKit

set_option maxHeartbeats 4000000 in
theorem refRad_ok (nm : ByteArray) (ps dc r : Int) (i n cap b off : Nat) (w : World) (hi : i < n) (hb : b < w.heap.size) (hc : w.cell? ⟨b, off + i * 2 + 1, none⟩ = some (.int .i64 r))
    (H1 : Hid (∀ W, Below w.heap.size w W → Calls Tryz.prog 59 #[.slice (some ⟨b, off, none⟩) n cap] W fun e w' => e = .returned (.tuple #[.int .i64 i, .int .i64 0]) ∧ Below W.heap.size W w')) :
    Calls Tryz.prog 35 #[.agg #[.string nm, .int .i64 ps, .slice (some ⟨b, off, none⟩) n cap, .int .i64 dc]] w fun e w' => e = .returned (.int .i64 r) ∧ Below w.heap.size w w' := by
  have F0 := Lib.hid (Quad.new w (.string nm) (.int .i64 ps) (.slice (some ⟨b, off, none⟩) n cap) (.int .i64 dc) 24)
  have C0 := Lib.hid hc
  clear hc
  have l1 : (i : Int) < (n : Int) := by omega
  have l2 : 0 ≤ (i : Int) := by omega
  go_enter Tryz.func35, Tryz.ntmps35
  go_wp2_with fail
  refine (H1.out _ (bel_alloc (Below.refl _ _))).mono ?_
  rintro e w1 ⟨rfl, gg⟩
  replace F0 := Lib.hid (F0.out.below gg)
  have X1 := Lib.hid (bel_alloc gg); clear gg
  obtain ⟨_, _, u2, _, _, _⟩ := F0.out
  have c1 : w1.cell? ⟨b, off + i * 2 + 1, none⟩ = some (.int .i64 r) := by rw [(bcell X1.out).1 _ _ hb]; exact C0.out
  go_wp2
  go_returns
  exact ⟨rfl, X1.out⟩
/-- the radius of the bung -/
def brQ (c : Ck) : Int := gR c.pf (bg c.pf c.pf.length)
theorem refRad_any (v : Value) (c : Ck) (w : World) (hv : CkV w v c) (h : ccE c = 0) :
    Calls Tryz.prog 35 #[v] w fun e w' => e = .returned (.int .i64 (brQ c)) ∧ Below w.heap.size w w' := by
  obtain ⟨_, _, _, hR⟩ := ccE_pf h
  have e0 := (ckE_iff _).2 hR
  obtain ⟨a, cap, rfl, hp, _⟩ := hv
  have n0 := hR.n0
  have hl : bg c.pf c.pf.length < c.pf.length := by have := bg_lt c.pf c.pf.length; omega
  have HB : Hid (∀ W, Below w.heap.size w W → _) := Lib.hid fun W hW => refBung_any _ c.pf W (hp.below hW)
  unfold buQ at HB
  rw [if_pos e0, e0] at HB
  obtain ⟨b, off, rfl, hb, hc⟩ := hp.at (by omega)
  exact refRad_ok _ _ _ _ _ _ cap b off w hl hb (hc _ hl).2 HB
/-- what Depth returns -/
def deQ (c : Ck) : Int := if ccE c = 0 then (if c.ps = 1 then 2 * brQ c else gX c.pf (c.pf.length - 1)) else 0
end Go.Proofs.YtgjdopjolokaiaaGreat

/- The reference of layer 11: has, is. -/
namespace Go.Proofs.YtgjdopjolokaiaaGreat
open Go.RowKit

theorem rlyHas_some (b off n cap : Nat) (l : List Int) (x : Int) (B : Bool) (w : World) (n1 : n ≤ 1000) (hl : Hid (n = l.length))
    (hc : Hid (∀ j, j < n → w.cell? ⟨b, off + j, none⟩ = some (.int .i64 (l.getD j 0))))
    (h1 : Hid ((∃ j, j < n ∧ l.getD j 0 = x) → B = true)) (h2 : Hid ((∀ j, j < n → l.getD j 0 ≠ x) → B = false)) :
    Calls Tryz.prog 74 #[.slice (some ⟨b, off, none⟩) n cap, .int .i64 x] w fun e w' => e = .returned (.bool B) ∧ w' = w := by
  go_enter Tryz.func74, Tryz.ntmps74
  go_wp2_with fail
  go_loopw [5] (fun ii wr => ∃ (k : Nat), k ≤ n ∧ ii = .int .i64 k ∧ w = wr ∧ Hid (∀ j, j < k → l.getD j 0 ≠ x)) (fun ii _ => n - (intOf ii).toNat)
  case atStart => exact ⟨0, by omega, rfl, rfl, fun j hj => by omega⟩
  case round =>
    obtain ⟨k, hk, rfl, rfl, ha⟩ := hrel
    by_cases hlt : k < n
    · have c0 := hc.out k hlt
      by_cases hx : l.getD k 0 = x
      · obtain rfl := h1.out ⟨k, hlt, hx⟩
        rw [hx] at c0
        clear hx
        go_wp2
        go_returns
        exact ⟨rfl, rfl⟩
      · have ha2 : Hid (∀ j, j < k + 1 → l.getD j 0 ≠ x) := fun j hj => by
          by_cases e : j = k
          · rw [e]; exact hx
          · exact ha.out j (by omega)
        generalize l.getD k 0 = y at c0 hx
        go_wp2
        go_roundw
        case rel => exact ⟨k + 1, by omega, by go_num, by first | rfl | trivial, ha2⟩
        case measure => simp [intOf]; omega
    · obtain rfl : k = n := by omega
      obtain rfl := h2.out ha.out
      go_wp2
      go_returns
      exact ⟨rfl, rfl⟩
theorem rlyHas_nil (a : Option Addr) (cap : Nat) (x : Int) (w : World) :
    Calls Tryz.prog 74 #[.slice a 0 cap, .int .i64 x] w fun e w' => e = .returned (.bool false) ∧ w' = w := by
  go_enter Tryz.func74, Tryz.ntmps74
  go_wp2_with fail
  go_loopw [5] (fun ii wr => ii = .int .i64 0 ∧ w = wr) (fun _ _ => 0)
  case atStart => exact ⟨rfl, rfl⟩
  case round =>
    obtain ⟨rfl, rfl⟩ := hrel
    go_wp2
    go_returns
    exact ⟨rfl, rfl⟩
theorem rlyHas_any (v : Value) (l : List Int) (x : Int) (w : World) (hv : Nums w v l) (hn : l.length ≤ 1000) :
    Calls Tryz.prog 74 #[v, .int .i64 x] w fun e w' => e = .returned (.bool (l.any (fun y => y == x))) ∧ w' = w := by
  obtain ⟨a, cap, rfl, hcap, hh⟩ := hv
  rcases hh with h0 | ⟨b, off, rfl, hb, hc⟩
  · have : l = [] := List.length_eq_zero_iff.1 h0
    subst this
    exact rlyHas_nil a cap x w
  · refine rlyHas_some b off _ cap l x _ w hn (Lib.hid rfl) (Lib.hid hc) (Lib.hid ?_) (Lib.hid ?_)
    · rintro ⟨j, hj, e⟩
      rw [List.any_eq_true]
      rw [List.getD_eq_getElem?_getD, List.getElem?_eq_getElem hj, Option.getD_some] at e
      exact ⟨_, List.getElem_mem hj, by rw [e]; simp⟩
    · intro h
      rw [List.any_eq_false]
      intro y hy
      obtain ⟨j, hj, rfl⟩ := List.getElem_of_mem hy
      have := h j hj
      rw [List.getD_eq_getElem?_getD, List.getElem?_eq_getElem hj, Option.getD_some] at this
      simpa using this
/-- the first fault of a cask that has to be right and lying -/
def liSE (c : Ck) : Int := if ccE c = 0 then (if c.ps = 1 then 0 else 10) else 1
theorem rlyIs_core (nm : ByteArray) (ps dc E V : Int) (a : Option Addr) (n cap : Nat) (w : World) (hV : Hid ((E ≠ 0 → V = 1) ∧ (E = 0 → ps ≠ 1 → V = 10) ∧ (E = 0 → ps = 1 → V = 0)))
    (H1 : Hid (∀ W, Below w.heap.size w W → Calls Tryz.prog 77 #[.agg #[.string nm, .int .i64 ps, .slice a n cap, .int .i64 dc]] W fun e w' => e = .returned (.int .i64 E) ∧ Below W.heap.size W w')) :
    Calls Tryz.prog 57 #[.agg #[.string nm, .int .i64 ps, .slice a n cap, .int .i64 dc]] w fun e w' => e = .returned (.int .i64 V) ∧ Below w.heap.size w w' := by
  have F0 := Lib.hid (Quad.new w (.string nm) (.int .i64 ps) (.slice a n cap) (.int .i64 dc) 24)
  go_enter Tryz.func57, Tryz.ntmps57
  go_wp2_with fail
  refine (H1.out _ (bel_alloc (Below.refl _ _))).mono ?_
  rintro e w1 ⟨rfl, gg⟩
  replace F0 := Lib.hid (F0.out.below gg)
  have X1 := Lib.hid (bel_alloc gg); clear gg
  obtain ⟨u0, u1, u2, u3, _, _⟩ := F0.out
  by_cases h : E = 0
  · have g : (E != 0) = false := by simp [h]
    by_cases h2 : ps = 1
    · have g2 : (ps != 1) = false := by simp [h2]
      obtain rfl := hV.out.2.2 h h2
      clear h h2 hV
      go_wp2
      go_returns
      exact ⟨rfl, X1.out⟩
    · have g2 : (ps != 1) = true := by simpa using h2
      obtain rfl := hV.out.2.1 h h2
      clear h h2 hV
      go_wp2
      go_returns
      exact ⟨rfl, X1.out⟩
  · have g : (E != 0) = true := by simpa using h
    obtain rfl := hV.out.1 h
    clear h hV
    go_wp2
    go_returns
    exact ⟨rfl, X1.out⟩
theorem rlyIs_any (v : Value) (c : Ck) (w : World) (hv : CkV w v c) :
    Calls Tryz.prog 57 #[v] w fun e w' => e = .returned (.int .i64 (liSE c)) ∧ Below w.heap.size w w' := by
  have HC : Hid (∀ W, Below w.heap.size w W → _) := Lib.hid fun W hW => refCkk_any v c W (hv.below hW)
  obtain ⟨a, cap, rfl, _⟩ := hv
  refine rlyIs_core _ _ _ (ccE c) _ _ _ _ w (Lib.hid ⟨fun h => ?_, fun h h2 => ?_, fun h h2 => ?_⟩) HC
  · unfold liSE; rw [if_neg h]
  · unfold liSE; rw [if_pos h, if_neg h2]
  · unfold liSE; rw [if_pos h, if_pos h2]
end Go.Proofs.YtgjdopjolokaiaaGreat

/- The reference of layer 11: Slices; what Wet and Dry have ready. -/
namespace Go.Proofs.YtgjdopjolokaiaaGreat
open Go.RowKit

theorem rlySl_bad (v : Value) (m E : Int) (w : World) (e1 : (E == 0) = false) (e2 : (E != 0) = true)
    (H1 : Hid (Calls Tryz.prog 78 #[v] w fun e w' => e = .returned (.int .i64 E) ∧ Below w.heap.size w w')) :
    Calls Tryz.prog 58 #[v, .int .i64 m] w fun e w' => e = .returned (.tuple #[.slice none 0 0, .int .i64 1]) ∧ Below w.heap.size w w' := by
  go_enter Tryz.func58, Tryz.ntmps58
  go_wp2_with fail
  refine H1.out.mono ?_
  rintro e w1 ⟨rfl, gg⟩
  have X1 := Lib.hid gg; clear gg
  go_wp2
  go_returns
  exact ⟨rfl, X1.out⟩
theorem rlySl_range (v : Value) (m : Int) (w : World) (h : m < 1 ∨ (1 ≤ m ∧ 64 < m))
    (H1 : Hid (Calls Tryz.prog 78 #[v] w fun e w' => e = .returned (.int .i64 0) ∧ Below w.heap.size w w')) :
    Calls Tryz.prog 58 #[v, .int .i64 m] w fun e w' => e = .returned (.tuple #[.slice none 0 0, .int .i64 2]) ∧ Below w.heap.size w w' := by
  rcases h with h | ⟨h, h2⟩
  all_goals
    go_enter Tryz.func58, Tryz.ntmps58
    go_wp2_with fail
    refine H1.out.mono ?_
    rintro e w1 ⟨rfl, gg⟩
    have X1 := Lib.hid gg; clear gg
    go_wp2
    go_returns
    exact ⟨rfl, X1.out⟩
theorem rlySl_ok (v : Value) (m : Int) (ps : List Int) (w : World) (h : 1 ≤ m) (h2 : m ≤ 64) (hp : ps.length ≤ 65)
    (H1 : Hid (Calls Tryz.prog 78 #[v] w fun e w' => e = .returned (.int .i64 0) ∧ Below w.heap.size w w'))
    (H2 : Hid (∀ W, Below w.heap.size w W → Calls Tryz.prog 79 #[v, .int .i64 m] W fun e w' => ∃ u, e = .returned u ∧ Nums w' u ps ∧ Below W.heap.size W w')) :
    Calls Tryz.prog 58 #[v, .int .i64 m] w fun e w' => ∃ u, e = .returned (.tuple #[u, .int .i64 0]) ∧ Nums w' u ps ∧ Below w.heap.size w w' := by
  go_enter Tryz.func58, Tryz.ntmps58
  go_wp2_with fail
  refine H1.out.mono ?_
  rintro e w1 ⟨rfl, gg⟩
  have X1 := Lib.hid gg; clear gg
  go_wp2_with fail
  refine (H2.out _ X1.out).mono ?_
  rintro e w2 ⟨u, rfl, hu, gg⟩
  replace X1 := Lib.hid (bel_trans X1.out gg); clear gg
  have HU := Lib.hid hu
  obtain ⟨a, cap, rfl, hcap, hz⟩ := hu
  clear hz
  replace hp := Lib.hid hp
  generalize hL : ps.length = L at *
  replace hL := Lib.hid hL
  have hp2 := hp.out
  go_wp2
  go_returns
  exact ⟨_, rfl, HU.out, X1.out⟩
theorem rlySl_many (v : Value) (m : Int) (ps : List Int) (w : World) (h : 1 ≤ m) (h2 : m ≤ 64) (hp : 65 < ps.length)
    (H1 : Hid (Calls Tryz.prog 78 #[v] w fun e w' => e = .returned (.int .i64 0) ∧ Below w.heap.size w w'))
    (H2 : Hid (∀ W, Below w.heap.size w W → Calls Tryz.prog 79 #[v, .int .i64 m] W fun e w' => ∃ u, e = .returned u ∧ Nums w' u ps ∧ Below W.heap.size W w')) :
    Calls Tryz.prog 58 #[v, .int .i64 m] w fun e w' => e = .returned (.tuple #[.slice none 0 0, .int .i64 15]) ∧ Below w.heap.size w w' := by
  go_enter Tryz.func58, Tryz.ntmps58
  go_wp2_with fail
  refine H1.out.mono ?_
  rintro e w1 ⟨rfl, gg⟩
  have X1 := Lib.hid gg; clear gg
  go_wp2_with fail
  refine (H2.out _ X1.out).mono ?_
  rintro e w2 ⟨u, rfl, hu, gg⟩
  replace X1 := Lib.hid (bel_trans X1.out gg); clear gg
  obtain ⟨a, cap, rfl, hcap, hz⟩ := hu
  clear hz
  generalize ps.length = L at *
  go_wp2
  go_returns
  exact ⟨rfl, X1.out⟩
theorem rlySl_any (v : Value) (l : List (Int × Int)) (m : Int) (w : World) (hv : Pts w v l) :
    Calls Tryz.prog 58 #[v, .int .i64 m] w fun e w' => ∃ u, e = .returned (.tuple #[u, .int .i64 (slE l m)]) ∧ Nums w' u (slP l m) ∧ Below w.heap.size w w' := by
  have H1 := Lib.hid (refCk_any v l w hv)
  have nn : ∀ W, Nums W (.slice none 0 0) [] := fun W => ⟨none, 0, rfl, by simp, .inl rfl⟩
  by_cases h : ckE l = 0
  · rw [h] at H1
    have hR := (ckE_iff l).1 h
    by_cases hm : m < 1 ∨ 64 < m
    · have e1 : slE l m = 2 := by unfold slE; rw [if_pos h, if_pos hm]
      have e2 : slP l m = [] := by unfold slP; rw [if_neg (by rw [e1]; decide)]
      rw [e1, e2]
      exact (rlySl_range v m w (by omega) H1).mono fun e w' ⟨g1, g2⟩ => ⟨_, g1, nn _, g2⟩
    · obtain ⟨k, rfl⟩ : ∃ k : Nat, m = k := ⟨m.toNat, by omega⟩
      have n0 := hR.n0
      have n1 := hR.n1
      have H2 : Hid (∀ W, Below w.heap.size w W → Calls Tryz.prog 79 #[v, .int .i64 k] W fun e w' => ∃ u, e = .returned u ∧ Nums w' u (plO l k (l.length - 1)) ∧ Below W.heap.size W w') := Lib.hid fun W hW => by
        have hv2 := hv.below hW
        obtain ⟨a, cap, rfl, hcap, hh⟩ := hv2
        rcases hh with hh | ⟨b, off, rfl, hb, hc⟩
        · omega
        · exact rlyPl_some b off _ cap k l W n0 n1 (by omega) (by omega) (Lib.hid rfl) hb (Lib.hid hR) (Lib.hid fun j hj => (hc j hj).1)
      by_cases hp : 65 < (plO l k (l.length - 1)).length
      · have e1 : slE l k = 15 := by unfold slE; rw [if_pos h, if_neg hm, Int.toNat_natCast, if_pos hp]
        have e2 : slP l k = [] := by unfold slP; rw [if_neg (by rw [e1]; decide)]
        rw [e1, e2]
        exact (rlySl_many v k _ w (by omega) (by omega) hp H1 H2).mono fun e w' ⟨g1, g2⟩ => ⟨_, g1, nn _, g2⟩
      · have e1 : slE l k = 0 := by unfold slE; rw [if_pos h, if_neg hm, Int.toNat_natCast, if_neg hp]
        have e2 : slP l k = plO l k (l.length - 1) := by unfold slP; rw [if_pos e1, Int.toNat_natCast]
        rw [e1, e2]
        exact rlySl_ok v k _ w (by omega) (by omega) (by omega) H1 H2
  · have e1 : slE l m = 1 := by unfold slE; rw [if_neg h]
    have e2 : slP l m = [] := by unfold slP; rw [if_neg (by rw [e1]; decide)]
    rw [e1, e2]
    exact (rlySl_bad v m _ w (by simpa using h) (by simpa using h) H1).mono fun e w' ⟨g1, g2⟩ => ⟨_, g1, nn _, g2⟩
end Go.Proofs.YtgjdopjolokaiaaGreat

/- The reference of layer 11: places are checked. -/
namespace Go.Proofs.YtgjdopjolokaiaaGreat
open Go.RowKit

/-- the first fault of places, for a right cask -/
def plcE (l : List (Int × Int)) (ps : List Int) : Int :=
  if ps.length < 2 then 9 else if 65 < ps.length then 8 else if (List.range (ps.length - 1)).all (fun i => decide (ps.getD i 0 < ps.getD (i + 1) 0)) = false then 5
  else if ps.getD 0 0 ≠ 0 ∨ ps.getD (ps.length - 1) 0 ≠ gX l (l.length - 1) then 5 else if (List.range l.length).all (fun i => ps.any (fun y => y == gX l i)) = false then 7 else 0
def lcE (c : Ck) (ps : List Int) : Int := if liSE c = 0 then plcE c.pf ps else liSE c
theorem plc_asc (ps : List Int) : (List.range (ps.length - 1)).all (fun i => decide (ps.getD i 0 < ps.getD (i + 1) 0)) = true ↔ ∀ i, i + 1 < ps.length → ps.getD i 0 < ps.getD (i + 1) 0 := by
  rw [List.all_eq_true]
  constructor
  · intro h i hi
    exact of_decide_eq_true (h i (List.mem_range.2 (by omega)))
  · intro h i hi
    rw [List.mem_range] at hi
    exact decide_eq_true (h i (by omega))
theorem any_eq_iff (ps : List Int) (x : Int) : ps.any (fun y => y == x) = true ↔ ∃ i, i < ps.length ∧ ps.getD i 0 = x := by
  rw [List.any_eq_true]
  constructor
  · rintro ⟨y, hy, e⟩
    obtain ⟨i, hi, rfl⟩ := List.getElem_of_mem hy
    exact ⟨i, hi, by rw [List.getD_eq_getElem?_getD, List.getElem?_eq_getElem hi, Option.getD_some]; simpa using e⟩
  · rintro ⟨i, hi, e⟩
    rw [List.getD_eq_getElem?_getD, List.getElem?_eq_getElem hi, Option.getD_some] at e
    exact ⟨_, List.getElem_mem hi, by rw [e]; simp⟩
theorem plc_has (l : List (Int × Int)) (ps : List Int) : (List.range l.length).all (fun i => ps.any (fun y => y == gX l i)) = true ↔ ∀ j, j < l.length → ∃ i, i < ps.length ∧ ps.getD i 0 = gX l j := by
  rw [List.all_eq_true]
  constructor
  · intro h j hj
    exact (any_eq_iff _ _).1 (h j (List.mem_range.2 hj))
  · intro h j hj
    rw [List.mem_range] at hj
    exact (any_eq_iff _ _).2 (h j hj)
theorem plcE_iff {l : List (Int × Int)} {ps : List Int} : plcE l ps = 0 ↔ PlR l ps ∧ ps.length ≤ 65 := by
  unfold plcE
  constructor
  · intro h
    split at h
    · omega
    · split at h
      · omega
      · split at h
        · omega
        · rename_i g3
          split at h
          · omega
          · rename_i g4
            split at h
            · omega
            · rename_i g5
              rw [Bool.not_eq_false] at g3 g5
              have g4' : ps.getD 0 0 = 0 ∧ ps.getD (ps.length - 1) 0 = gX l (l.length - 1) := by
                constructor
                · by_cases e : ps.getD 0 0 = 0
                  · exact e
                  · exact absurd (.inl e) g4
                · by_cases e : ps.getD (ps.length - 1) 0 = gX l (l.length - 1)
                  · exact e
                  · exact absurd (.inr e) g4
              exact ⟨⟨by omega, by omega, g4'.1, g4'.2, (plc_asc ps).1 g3, (plc_has l ps).1 g5⟩, by omega⟩
  · rintro ⟨h, h65⟩
    rw [if_neg (by have := h.n0; omega), if_neg (by omega), if_neg (by rw [(plc_asc ps).2 h.asc]; simp), if_neg (by rintro (e | e); exact e h.z; exact e h.e), if_neg (by rw [(plc_has l ps).2 h.has]; simp)]
theorem rlyChk_bad (nm : ByteArray) (cps dc E : Int) (a : Option Addr) (m cap : Nat) (u : Value) (w : World) (e1 : (E == 0) = false) (e2 : (E != 0) = true)
    (H1 : Hid (∀ W, Below w.heap.size w W → Calls Tryz.prog 57 #[.agg #[.string nm, .int .i64 cps, .slice a m cap, .int .i64 dc]] W fun e w' => e = .returned (.int .i64 E) ∧ Below W.heap.size W w')) :
    Calls Tryz.prog 51 #[.agg #[.string nm, .int .i64 cps, .slice a m cap, .int .i64 dc], u] w fun e w' => e = .returned (.int .i64 E) ∧ Below w.heap.size w w' := by
  go_enter Tryz.func51, Tryz.ntmps51
  go_wp2_with fail
  refine (H1.out _ (bel_alloc (Below.refl _ _))).mono ?_
  rintro e w1 ⟨rfl, gg⟩
  have X1 := Lib.hid (bel_alloc gg); clear gg
  go_wp2
  go_returns
  exact ⟨rfl, X1.out⟩
theorem rlyChk_few (nm : ByteArray) (cps dc : Int) (a : Option Addr) (m cap : Nat) (a2 : Option Addr) (n cap2 : Nat) (w : World) (h : n < 2)
    (H1 : Hid (∀ W, Below w.heap.size w W → Calls Tryz.prog 57 #[.agg #[.string nm, .int .i64 cps, .slice a m cap, .int .i64 dc]] W fun e w' => e = .returned (.int .i64 0) ∧ Below W.heap.size W w')) :
    Calls Tryz.prog 51 #[.agg #[.string nm, .int .i64 cps, .slice a m cap, .int .i64 dc], .slice a2 n cap2] w fun e w' => e = .returned (.int .i64 9) ∧ Below w.heap.size w w' := by
  go_enter Tryz.func51, Tryz.ntmps51
  go_wp2_with fail
  refine (H1.out _ (bel_alloc (Below.refl _ _))).mono ?_
  rintro e w1 ⟨rfl, gg⟩
  have X1 := Lib.hid (bel_alloc gg); clear gg
  go_wp2
  go_returns
  exact ⟨rfl, X1.out⟩
theorem rlyChk_many (nm : ByteArray) (cps dc : Int) (a : Option Addr) (m cap : Nat) (a2 : Option Addr) (n cap2 : Nat) (w : World) (h : 65 < n) (h2 : n ≤ 9223372036854775807)
    (H1 : Hid (∀ W, Below w.heap.size w W → Calls Tryz.prog 57 #[.agg #[.string nm, .int .i64 cps, .slice a m cap, .int .i64 dc]] W fun e w' => e = .returned (.int .i64 0) ∧ Below W.heap.size W w')) :
    Calls Tryz.prog 51 #[.agg #[.string nm, .int .i64 cps, .slice a m cap, .int .i64 dc], .slice a2 n cap2] w fun e w' => e = .returned (.int .i64 8) ∧ Below w.heap.size w w' := by
  go_enter Tryz.func51, Tryz.ntmps51
  go_wp2_with fail
  refine (H1.out _ (bel_alloc (Below.refl _ _))).mono ?_
  rintro e w1 ⟨rfl, gg⟩
  have X1 := Lib.hid (bel_alloc gg); clear gg
  go_wp2
  go_returns
  exact ⟨rfl, X1.out⟩
set_option maxRecDepth 100000 in
set_option maxHeartbeats 16000000 in
theorem rlyChk_some (nm : ByteArray) (cps dc : Int) (bp op m cap : Nat) (b off n cap2 : Nat) (ps : List Int) (l : List (Int × Int)) (E : Int) (w : World) (n0 : 2 ≤ n) (n1 : n ≤ 65) (hn : Hid (n = ps.length)) (m0 : 1 ≤ m) (m1 : m ≤ 32) (hb : b < w.heap.size) (hbp : bp < w.heap.size)
    (hc : Hid (∀ j, j < n → w.cell? ⟨b, off + j, none⟩ = some (.int .i64 (ps.getD j 0))))
    (hp : Hid (∀ j, j < m → w.cell? ⟨bp, op + j * 2, none⟩ = some (.int .i64 (gX l j))))
    (hu : Hid (∀ W, Below w.heap.size w W → Nums W (.slice (some ⟨b, off, none⟩) n cap2) ps))
    (h5 : Hid ((∃ i, i + 1 < n ∧ ps.getD (i + 1) 0 ≤ ps.getD i 0) → E = 5)) (h6 : Hid ((∀ i, i + 1 < n → ps.getD i 0 < ps.getD (i + 1) 0) → (ps.getD 0 0 ≠ 0 ∨ ps.getD (n - 1) 0 ≠ gX l (m - 1)) → E = 5))
    (h7 : Hid ((∀ i, i + 1 < n → ps.getD i 0 < ps.getD (i + 1) 0) → ps.getD 0 0 = 0 → ps.getD (n - 1) 0 = gX l (m - 1) → (∃ j, j < m ∧ ps.any (fun y => y == gX l j) = false) → E = 7))
    (h0 : Hid ((∀ i, i + 1 < n → ps.getD i 0 < ps.getD (i + 1) 0) → ps.getD 0 0 = 0 → ps.getD (n - 1) 0 = gX l (m - 1) → (∀ j, j < m → ps.any (fun y => y == gX l j) = true) → E = 0))
    (H1 : Hid (∀ W, Below w.heap.size w W → Calls Tryz.prog 57 #[.agg #[.string nm, .int .i64 cps, .slice (some ⟨bp, op, none⟩) m cap, .int .i64 dc]] W fun e w' => e = .returned (.int .i64 0) ∧ Below W.heap.size W w')) :
    Calls Tryz.prog 51 #[.agg #[.string nm, .int .i64 cps, .slice (some ⟨bp, op, none⟩) m cap, .int .i64 dc], .slice (some ⟨b, off, none⟩) n cap2] w fun e w' => e = .returned (.int .i64 E) ∧ Below w.heap.size w w' := by
  have F0 := Lib.hid (Quad.new w (.string nm) (.int .i64 cps) (.slice (some ⟨bp, op, none⟩) m cap) (.int .i64 dc) 24)
  go_enter Tryz.func51, Tryz.ntmps51
  go_wp2_with fail
  refine (H1.out _ (bel_alloc (Below.refl _ _))).mono ?_
  rintro e w1 ⟨rfl, gg⟩
  replace F0 := Lib.hid (F0.out.below gg)
  have X1 := Lib.hid (bel_alloc gg); clear gg
  go_wp2_with fail
  go_loopw [6] (fun ii wr => ∃ (j : Nat), j + 1 ≤ n ∧ ii = .int .i64 ((j : Int) + 1) ∧ Hid (Below w1.heap.size w1 wr) ∧ Hid (∀ i, i + 1 < j + 1 → ps.getD i 0 < ps.getD (i + 1) 0)) (fun ii _ => n - (intOf ii).toNat)
  case atStart => exact ⟨0, by omega, rfl, Below.refl _ _, fun i hi => by omega⟩
  case round =>
    obtain ⟨j, hj, rfl, hB, hs⟩ := hrel
    have hB2 := Lib.hid (bel_trans X1.out hB.out)
    by_cases hlt : j + 1 < n
    · have c0 : wr.cell? ⟨b, off + j, none⟩ = some (.int .i64 (ps.getD j 0)) := by rw [(bcell hB2.out).1 _ _ hb]; exact hc.out j (by omega)
      have c1 : wr.cell? ⟨b, off + (j + 1), none⟩ = some (.int .i64 (ps.getD (j + 1) 0)) := by rw [(bcell hB2.out).1 _ _ hb]; exact hc.out (j + 1) hlt
      have HG : Hid (ps.getD j 0 < ps.getD (j + 1) 0 → ∀ i, i + 1 < j + 1 + 1 → ps.getD i 0 < ps.getD (i + 1) 0) := fun h i hi => by
        by_cases e : i = j
        · rw [e]; exact h
        · exact hs.out i (by omega)
      have HN : Hid (ps.getD (j + 1) 0 ≤ ps.getD j 0 → E = 5) := fun h => h5.out ⟨j, hlt, h⟩
      generalize ps.getD j 0 = x at *
      generalize ps.getD (j + 1) 0 = y at *
      by_cases hxy : y ≤ x
      · obtain rfl := HN.out hxy
        have hd : decide (y ≤ x) = true := decide_eq_true hxy
        clear HN HG
        go_wp2
        go_quiet (fail)
        go_wp2
        go_returns
        exact ⟨rfl, bel_trans hB2.out (bel_drewN _ _)⟩
      · have hd : decide (y ≤ x) = false := decide_eq_false hxy
        replace HG := Lib.hid (HG.out (by omega))
        clear HN
        go_wp2
        go_quiet (fail)
        go_wp2
        go_roundw
        case rel => exact ⟨j + 1, by omega, by go_num, bel_trans hB.out (bel_drewN _ _), HG.out⟩
        case measure => simp [intOf]; omega
    · have hjn : n = j + 1 := by omega
      have hasc : Hid (∀ i, i + 1 < n → ps.getD i 0 < ps.getD (i + 1) 0) := Lib.hid (by rw [hjn]; exact hs.out)
      replace F0 := Lib.hid (F0.out.below hB.out)
      obtain ⟨y0, y1, y2, y3, _, _⟩ := F0.out
      have c0 : wr.cell? ⟨b, off, none⟩ = some (.int .i64 (ps.getD 0 0)) := by rw [(bcell hB2.out).1 _ _ hb]; exact hc.out 0 (by omega)
      have c1 : wr.cell? ⟨b, off + j, none⟩ = some (.int .i64 (ps.getD j 0)) := by rw [(bcell hB2.out).1 _ _ hb]; exact hc.out j (by omega)
      obtain ⟨t, rfl⟩ : ∃ t, m = t + 1 := ⟨m - 1, by omega⟩
      have d1 : wr.cell? ⟨bp, op + t * 2, none⟩ = some (.int .i64 (gX l t)) := by rw [(bcell hB2.out).1 _ _ hbp]; exact hp.out t (by omega)
      have wj : IntKind.i64.wrap ((n : Int) - 1) = (j : Int) := by rw [wrap_in _ ⟨by omega, by omega⟩]; omega
      have lj : (j : Int) < (n : Int) := by omega
      have l0 : (0 : Int) < (n : Int) := by omega
      have wk : IntKind.i64.wrap (j : Int) = (j : Int) := wrap_in _ ⟨by omega, by omega⟩
      have wt : IntKind.i64.wrap ((t : Int) + 1 - 1) = (t : Int) := by rw [wrap_in _ ⟨by omega, by omega⟩]; omega
      have wu : IntKind.i64.wrap (t : Int) = (t : Int) := wrap_in _ ⟨by omega, by omega⟩
      have H6 := Lib.hid (h6.out hasc.out)
      have H7 := Lib.hid (h7.out hasc.out)
      have H0 := Lib.hid (h0.out hasc.out)
      rw [Nat.add_sub_cancel, show n - 1 = j by omega] at H6 H7 H0
      clear hs h5 h6 h7 h0 hc
      replace hjn := Lib.hid hjn
      generalize ps.getD 0 0 = z at *
      generalize ps.getD j 0 = x at *
      by_cases hz : z = 0
      · have z1 : (z != 0) = false := by simp [hz]
        by_cases hx : x = gX l t
        · have x1 : (x != gX l t) = false := by simp [hx]
          replace H7 := Lib.hid (H7.out hz hx)
          replace H0 := Lib.hid (H0.out hz hx)
          clear H6 hz hx
          generalize gX l t = X at *
          go_wp2
          go_quiet (fail)
          go_wp2_with fail
          go_loopw [8] (fun ii wr2 => ∃ (k : Nat), k ≤ t + 1 ∧ ii = .int .i64 (k : Int) ∧ Hid (Below w.heap.size w wr2) ∧ Hid (∀ i, i < k → ps.any (fun y => y == gX l i) = true)) (fun ii _ => t + 1 - (intOf ii).toNat)
          case atStart => exact ⟨0, by omega, rfl, Lib.hid (bel_trans hB2.out (bel_drewN _ _)), fun i hi => by omega⟩
          case round =>
            obtain ⟨k, hk, rfl, hB3, ha⟩ := hrel
            clear c0 c1 d1 y0 y1 y2 y3
            by_cases hlk : k < t + 1
            · have g0 : wr.cell? ⟨bp, op + k * 2, none⟩ = some (.int .i64 (gX l k)) := by rw [(bcell hB3.out).1 _ _ hbp]; exact hp.out k hlk
              have HA := Lib.hid (rlyHas_any _ ps (gX l k) wr (hu.out _ hB3.out) (by rw [← hn.out]; omega))
              cases hq : ps.any (fun y => y == gX l k) with
              | true =>
                have ha2 : Hid (∀ i, i < k + 1 → ps.any (fun y => y == gX l i) = true) := fun i hi => by
                  by_cases e : i = k
                  · rw [e]; exact hq
                  · exact ha.out i (by omega)
                rw [hq] at HA
                clear hq
                generalize gX l k = Y at *
                have l2 : (k : Int) < (t : Int) + 1 := by omega
                go_wp2_with fail
                refine HA.out.mono ?_
                rintro e w2 ⟨rfl, hw⟩
                subst hw
                go_wp2
                go_roundw
                case rel => exact ⟨k + 1, by omega, by go_num, hB3, ha2⟩
                case measure => simp [intOf]; omega
              | false =>
                obtain rfl := H7.out ⟨k, hlk, hq⟩
                rw [hq] at HA
                clear hq
                generalize gX l k = Y at *
                have l2 : (k : Int) < (t : Int) + 1 := by omega
                go_wp2_with fail
                refine HA.out.mono ?_
                rintro e w2 ⟨rfl, hw⟩
                subst hw
                go_wp2
                go_returns
                exact ⟨rfl, hB3.out⟩
            · obtain rfl : k = t + 1 := by omega
              obtain rfl := H0.out ha.out
              go_wp2
              go_returns
              exact ⟨rfl, hB3.out⟩
        · have x1 : (x != gX l t) = true := by simpa using hx
          obtain rfl := H6.out (.inr hx)
          clear H6 H7 H0 hz hx
          generalize gX l t = X at *
          go_wp2
          go_quiet (fail)
          go_wp2
          go_returns
          exact ⟨rfl, bel_trans hB2.out (bel_drewN _ _)⟩
      · have z1 : (z != 0) = true := by simpa using hz
        obtain rfl := H6.out (.inl hz)
        clear H6 H7 H0 hz
        generalize gX l t = X at *
        go_wp2
        go_quiet (fail)
        go_wp2
        go_returns
        exact ⟨rfl, bel_trans hB2.out (bel_drewN _ _)⟩
end Go.Proofs.YtgjdopjolokaiaaGreat

/- The reference of layer 8: Length, radius, Radius, At. -/
namespace Go.Proofs.YtgjdopjolokaiaaGreat
open Go.RowKit

/-! ### radius -/
theorem lnN_bd {a p b q x : Int} (a0 : 0 ≤ a) (ab : a < b) (b1 : b ≤ 100000) (p0 : 0 ≤ p) (p1 : p ≤ 100000) (q0 : 0 ≤ q) (q1 : q ≤ 100000) (x0 : a ≤ x) (x1 : x ≤ b) :
    (0 ≤ p * (b - a) ∧ p * (b - a) ≤ 10000000000) ∧ (-10000000000 ≤ (q - p) * (x - a) ∧ (q - p) * (x - a) ≤ 10000000000) ∧ 0 ≤ lnN a p b q x := by
  have h1 : p * (b - a) ≤ 100000 * 100000 := Int.mul_le_mul p1 (by omega) (by omega) (by omega)
  have h0 : 0 ≤ p * (b - a) := Int.mul_nonneg p0 (by omega)
  have h2 : (q - p) * (x - a) ≤ 100000 * (x - a) := Int.mul_le_mul_of_nonneg_right (by omega) (by omega)
  have h3 : -100000 * (x - a) ≤ (q - p) * (x - a) := Int.mul_le_mul_of_nonneg_right (by omega) (by omega)
  have bt := (ln_between (p := p) (q := q) ab x0 x1).1
  have h4 : 0 ≤ lnN a p b q x / (b - a) := by omega
  refine ⟨⟨h0, by omega⟩, ⟨by omega, by omega⟩, ?_⟩
  have := Int.mul_le_mul_of_nonneg_right h4 (show 0 ≤ b - a by omega)
  have := Int.ediv_mul_le (lnN a p b q x) (show b - a ≠ 0 by omega)
  omega
set_option maxHeartbeats 16000000 in
set_option maxRecDepth 100000 in
theorem radius_some (b off n cap : Nat) (l : List (Int × Int)) (x : Int) (i : Nat) (w : World) (n0 : 2 ≤ n) (n1 : n ≤ 1000) (hn : n = l.length) (hb : b < w.heap.size)
    (hc : Hid (∀ j, j < n → w.cell? ⟨b, off + j * 2, none⟩ = some (.int .i64 (gX l j)) ∧ w.cell? ⟨b, off + j * 2 + 1, none⟩ = some (.int .i64 (gR l j))))
    (hR : Hid (RP l)) (x0 : 0 ≤ x) (xb : x ≤ 100000) (hi : Hid (IsPc l x i)) :
    Calls Tryz.prog 75 #[.slice (some ⟨b, off, none⟩) n cap, .int .i64 x] w fun e w' => e = .returned (.tuple #[.int .i64 (lnN (gX l (i - 1)) (gR l (i - 1)) (gX l i) (gR l i) x), .int .i64 (gX l i - gX l (i - 1))]) ∧ Below w.heap.size w w' := by
  have HN := Lib.hid hn
  clear hn
  go_enter Tryz.func75, Tryz.ntmps75
  go_wp2_with fail
  go_loopw [6, 7, 8] (fun ii _ _ wr => ∃ k : Nat, k + 1 ≤ i ∧ ii = .int .i64 ((k : Int) + 1) ∧ Hid (Below w.heap.size w wr)) (fun ii _ _ _ => n - (intOf ii).toNat)
  case atStart => exact ⟨0, hi.out.h1, rfl, Below.refl _ _⟩
  case round =>
    obtain ⟨k, hk, rfl, hB⟩ := hrel
    have hlt : k + 1 < n := by have := hi.out.h2; have := HN.out; omega
    have c0 : wr.cell? ⟨b, off + k * 2, none⟩ = some (.int .i64 (gX l k)) := by rw [(bcell hB.out).1 _ _ hb]; exact (hc.out k (by omega)).1
    have c1 : wr.cell? ⟨b, off + k * 2 + 1, none⟩ = some (.int .i64 (gR l k)) := by rw [(bcell hB.out).1 _ _ hb]; exact (hc.out k (by omega)).2
    have c2 : wr.cell? ⟨b, off + (k + 1) * 2, none⟩ = some (.int .i64 (gX l (k + 1))) := by rw [(bcell hB.out).1 _ _ hb]; exact (hc.out (k + 1) hlt).1
    have c3 : wr.cell? ⟨b, off + (k + 1) * 2 + 1, none⟩ = some (.int .i64 (gR l (k + 1))) := by rw [(bcell hB.out).1 _ _ hb]; exact (hc.out (k + 1) hlt).2
    have hbr : b < wr.heap.size := Nat.lt_of_lt_of_le hb hB.out.size
    have a0 : ∀ o, (wr.alloc o).cell? ⟨b, off + k * 2, none⟩ = some (.int .i64 (gX l k)) := fun o => by rw [World.cell?_alloc_lt wr o _ hbr]; exact c0
    have a1 : ∀ o, (wr.alloc o).cell? ⟨b, off + k * 2 + 1, none⟩ = some (.int .i64 (gR l k)) := fun o => by rw [World.cell?_alloc_lt wr o _ hbr]; exact c1
    have a2 : ∀ o, (wr.alloc o).cell? ⟨b, off + (k + 1) * 2, none⟩ = some (.int .i64 (gX l (k + 1))) := fun o => by rw [World.cell?_alloc_lt wr o _ hbr]; exact c2
    have a3 : ∀ o, (wr.alloc o).cell? ⟨b, off + (k + 1) * 2 + 1, none⟩ = some (.int .i64 (gR l (k + 1))) := fun o => by rw [World.cell?_alloc_lt wr o _ hbr]; exact c3
    have l2 : k < n := by omega
    have l3 : (k : Int) < (n : Int) := by omega
    have l5 : (k : Int) + 1 < (n : Int) := by omega
    have wj : IntKind.i64.wrap ((k : Int) + 1 - 1) = (k : Int) := by simp only [IntKind.wrap_i64]; omega
    have wk : IntKind.i64.wrap (k : Int) = (k : Int) := by simp only [IntKind.wrap_i64]; omega
    have l6 : 0 ≤ (k : Int) + 1 := by omega
    have l7 : ((k : Int) + 1).toNat = k + 1 := by omega
    have HX : Hid (∀ (W : World), Below wr.heap.size wr W → Below w.heap.size w W) := fun W h => bel_trans hB.out h
    by_cases hq : k + 1 = i
    · have bd := pc_bd hR.out x0 hi.out
      rw [← hq, show k + 1 - 1 = k by omega] at bd
      obtain ⟨_, _, ⟨b0, b1, b2⟩, ⟨d0, d1⟩, ⟨f0, f1⟩, g0, g1⟩ := bd
      have L := lnN_bd (p := gR l k) (q := gR l (k + 1)) (x := x) b0 b1 b2 (by omega) d1 (by omega) f1 g0 g1
      have eL : lnN (gX l k) (gR l k) (gX l (k + 1)) (gR l (k + 1)) x = gR l k * (gX l (k + 1) - gX l k) + (gR l (k + 1) - gR l k) * (x - gX l k) := rfl
      have eR : Hid (∀ N D : Int, N = lnN (gX l k) (gR l k) (gX l (k + 1)) (gR l (k + 1)) x → D = gX l (k + 1) - gX l k → (Ending.returned (.tuple #[.int .i64 N, .int .i64 D]) = .returned (.tuple #[.int .i64 (lnN (gX l (i - 1)) (gR l (i - 1)) (gX l i) (gR l i) x), .int .i64 (gX l i - gX l (i - 1))]))) := fun N D e1 e2 => by
        rw [e1, e2, ← hq, show k + 1 - 1 = k by omega]
      rw [eL] at L eR
      generalize gX l k = a at *
      generalize gR l k = p at *
      generalize gX l (k + 1) = c at *
      generalize gR l (k + 1) = q at *
      obtain ⟨⟨m0, m1⟩, ⟨m2, m3⟩, m4⟩ := L
      have w1 : IntKind.i64.wrap (c - a) = c - a := wrap_in _ ⟨by omega, by omega⟩
      have w2 : IntKind.i64.wrap (q - p) = q - p := wrap_in _ ⟨by omega, by omega⟩
      have w3 : IntKind.i64.wrap (x - a) = x - a := wrap_in _ ⟨by omega, by omega⟩
      have w4 : IntKind.i64.wrap (p * (c - a)) = p * (c - a) := wrap_in _ ⟨by omega, by omega⟩
      have w5 : IntKind.i64.wrap ((q - p) * (x - a)) = (q - p) * (x - a) := wrap_in _ ⟨by omega, by omega⟩
      have w6 : IntKind.i64.wrap (p * (c - a) + (q - p) * (x - a)) = p * (c - a) + (q - p) * (x - a) := wrap_in _ ⟨by omega, by omega⟩
      clear hB hq eL
      go_wp2_with fail
      go_region
      all_goals go_wp2_with fail
      all_goals go_quiet (fail)
      all_goals go_wp2
      all_goals go_returns
      all_goals exact ⟨eR.out _ _ rfl rfl, HX.out _ (bel_alloc (bel_alloc (bel_trans (bel_drew _) (bel_drewN _ _))))⟩
    · have h4 := hi.out.h4 (k + 1) (by omega) (by omega)
      have h5 : ¬ x ≤ gX l (k + 1) := by omega
      generalize gX l k = a at *
      generalize gR l k = p at *
      generalize gX l (k + 1) = c at *
      generalize gR l (k + 1) = q at *
      clear hB
      go_wp2_with fail
      go_region
      all_goals go_wp2
      all_goals go_roundw
      all_goals first | exact ⟨k + 1, by omega, by go_num, HX.out _ (bel_alloc (bel_alloc (bel_drew _)))⟩ | (simp [intOf]; omega)
end Go.Proofs.YtgjdopjolokaiaaGreat

/- The reference of layer 8: Radius, ready, At. -/
namespace Go.Proofs.YtgjdopjolokaiaaGreat
open Go.RowKit

set_option maxHeartbeats 4000000 in
set_option maxRecDepth 100000 in
theorem rad_walk (v : Value) (x N D : Int) (w : World) (n0 : 0 ≤ N) (n1 : N ≤ 1000000000000) (d0 : 1 ≤ D) (d1 : D ≤ 100000)
    (H1 : Hid (∀ W, Below w.heap.size w W → Calls Tryz.prog 75 #[v, .int .i64 x] W fun e w' => e = .returned (.tuple #[.int .i64 N, .int .i64 D]) ∧ Below W.heap.size W w')) :
    Calls Tryz.prog 53 #[v, .int .i64 x] w fun e w' => e = .returned (.agg #[.int .i64 (N / D), .int .i64 (cdv N D)]) ∧ Below w.heap.size w w' := by
  have q0 : 0 ≤ N / D := Int.ediv_nonneg n0 (by omega)
  have q1 : N / D ≤ N := Int.ediv_le_self _ n0
  have q2 : 0 ≤ (N + D - 1) / D := Int.ediv_nonneg (by omega) (by omega)
  have q3 : (N + D - 1) / D ≤ N + D - 1 := Int.ediv_le_self _ (by omega)
  have t1 : N.tdiv D = N / D := Int.tdiv_eq_ediv_of_nonneg n0
  have t2 : (N + D - 1).tdiv D = (N + D - 1) / D := Int.tdiv_eq_ediv_of_nonneg (by omega)
  have w1 : IntKind.i64.wrap (N / D) = N / D := wrap_in _ ⟨by omega, by omega⟩
  have w2 : IntKind.i64.wrap (N + D) = N + D := wrap_in _ ⟨by omega, by omega⟩
  have w3 : IntKind.i64.wrap (N + D - 1) = N + D - 1 := wrap_in _ ⟨by omega, by omega⟩
  have w4 : IntKind.i64.wrap ((N + D - 1) / D) = (N + D - 1) / D := wrap_in _ ⟨by omega, by omega⟩
  have dz : (D == 0) = false := by rw [beq_eq_false_iff_ne]; omega
  have dz2 : D ≠ 0 := by omega
  have T0 := Lib.hid (Two.new w (.int .i64 0) (.int .i64 0) 29)
  go_enter Tryz.func53, Tryz.ntmps53
  go_wp2_with fail
  refine (H1.out _ (bel_alloc (Below.refl _ _))).mono ?_
  rintro e w1' ⟨rfl, gg⟩
  replace T0 := Lib.hid (T0.out.below gg)
  have X1 := Lib.hid (bel_alloc gg); clear gg
  go_wp2_with fail
  go_still_tail 10, (by kernel_rfl)
  change wpList _ _ _ _ _ w1'.drew
  replace T0 := Lib.hid (T0.out.below (bel_drew w1'))
  replace X1 := Lib.hid (bel_trans X1.out (bel_drew w1'))
  generalize w1'.drew = wq at *
  obtain ⟨z0, z1, f0, f1, hlt⟩ := T0.out
  go_wp2
  obtain ⟨t0, t1⟩ := two_read wq w.heap.size (.int .i64 (N / D)) (.int .i64 ((N + D - 1) / D)) z0 z1
  refine bodyPost_ret (v := .agg #[.int .i64 (N / D), .int .i64 ((N + D - 1) / D)]) (by simp [results, Tryz.results53, go_sem, t0, t1]) rfl ?_
  exact ⟨rfl, (X1.out.setCell (Nat.le_refl _) _).setCell (Nat.le_refl _) _⟩
theorem radius_of {v : Value} {l : List (Int × Int)} {w : World} (hv : Pts w v l) (h : RP l) (x : Int) (x0 : 0 ≤ x) (x1 : x ≤ gX l (l.length - 1)) :
    Calls Tryz.prog 53 #[v, .int .i64 x] w fun e w' => e = .returned (.agg #[.int .i64 (rdL l x), .int .i64 (rdH l x)]) ∧ Below w.heap.size w w' := by
  have n0 := h.n0
  have n1 := h.n1
  have hi := pc_is n0 x1
  have hx := h.bx (l.length - 1) (by omega)
  obtain ⟨_, _, ⟨b0, b1, b2⟩, ⟨c0, c1⟩, ⟨d0, d1⟩, g0, g1⟩ := pc_bd h x0 hi
  have L := lnN_bd (p := gR l (pc l x - 1)) (q := gR l (pc l x)) (x := x) b0 b1 b2 (by omega) c1 (by omega) d1 g0 g1
  have eN : lnN (gX l (pc l x - 1)) (gR l (pc l x - 1)) (gX l (pc l x)) (gR l (pc l x)) x = gR l (pc l x - 1) * (gX l (pc l x) - gX l (pc l x - 1)) + (gR l (pc l x) - gR l (pc l x - 1)) * (x - gX l (pc l x - 1)) := rfl
  refine rad_walk v x (lnN (gX l (pc l x - 1)) (gR l (pc l x - 1)) (gX l (pc l x)) (gR l (pc l x)) x) (gX l (pc l x) - gX l (pc l x - 1)) w L.2.2 (by omega) (by omega) (by omega) (Lib.hid fun W hW => ?_)
  obtain ⟨a, cap, rfl, hl, hh⟩ := hv.below hW
  rcases hh with hh | ⟨b, off, rfl, hb, hc⟩
  · omega
  · exact radius_some b off l.length cap l x (pc l x) W n0 (by omega) rfl hb (Lib.hid hc) (Lib.hid h) x0 (by omega) (Lib.hid hi)

end Go.Proofs.YtgjdopjolokaiaaGreat

/- Plain facts on a root that is found bit by bit. No program stands in this text. -/
namespace Go.Proofs.YtgjdopjolokaiaaGreat

/-- q is the root of n as far as the bits from k on go; bit is the next one -/
def RBit (n q bit : Int) (k : Nat) : Prop := bit = 2 ^ k / 2 ∧ 0 ≤ q ∧ q * q ≤ n ∧ n < (q + 2 ^ k) * (q + 2 ^ k) ∧ q + 2 ^ k ≤ 2147483648
theorem two_pos (k : Nat) : (1 : Int) ≤ 2 ^ k := by
  induction k with
  | zero => simp
  | succ k ih => rw [Int.pow_succ]; omega
theorem two_half (k : Nat) : (2 : Int) ^ (k + 1) / 2 = 2 ^ k := by
  rw [Int.pow_succ, Int.mul_ediv_cancel _ (by omega)]
theorem RBit.start (n : Int) (h0 : 0 ≤ n) (h1 : n < 4611686018427387904) : RBit n 0 1073741824 31 := ⟨by decide, by omega, by simpa using h0, by simpa using h1, by decide⟩
theorem RBit.pos {n q bit : Int} {k : Nat} (h : RBit n q bit k) (hb : 0 < bit) : ∃ j, k = j + 1 ∧ bit = 2 ^ j ∧ (2 : Int) ^ k = bit + bit := by
  obtain ⟨e, _⟩ := h
  cases k with
  | zero => simp at e; omega
  | succ j =>
    rw [two_half] at e
    exact ⟨j, rfl, e, by rw [Int.pow_succ, ← e]; omega⟩
theorem RBit.bd {n q bit : Int} {k : Nat} (h : RBit n q bit k) (hb : 0 < bit) : 0 ≤ q ∧ q + bit ≤ 2147483647 ∧ 0 ≤ (q + bit) * (q + bit) ∧ (q + bit) * (q + bit) ≤ 4611686014132420609 := by
  obtain ⟨j, _, _, e⟩ := h.pos hb
  obtain ⟨_, q0, _, _, b⟩ := h
  rw [e] at b
  have h1 : q + bit ≤ 2147483647 := by omega
  have := sq_mono (show 0 ≤ q + bit by omega) h1
  exact ⟨q0, h1, Int.mul_nonneg (by omega) (by omega), by omega⟩
theorem RBit.up {n q bit : Int} {k : Nat} (h : RBit n q bit k) (hb : 0 < bit) (hq : (q + bit) * (q + bit) ≤ n) : ∃ j, k = j + 1 ∧ RBit n (q + bit) (bit / 2) j := by
  obtain ⟨j, ek, e, e2⟩ := h.pos hb
  obtain ⟨_, q0, _, a, b⟩ := h
  rw [e2] at a b
  refine ⟨j, ek, by rw [e], by omega, hq, ?_, by rw [← e]; omega⟩
  rw [← e, show q + bit + bit = q + (bit + bit) by omega]; exact a
theorem RBit.keep {n q bit : Int} {k : Nat} (h : RBit n q bit k) (hb : 0 < bit) (hq : n < (q + bit) * (q + bit)) : ∃ j, k = j + 1 ∧ RBit n q (bit / 2) j := by
  obtain ⟨j, ek, e, e2⟩ := h.pos hb
  obtain ⟨_, q0, c, a, b⟩ := h
  rw [e2] at b
  exact ⟨j, ek, by rw [e], q0, c, by rw [← e]; exact hq, by rw [← e]; omega⟩
theorem RBit.stop {n q bit : Int} {k : Nat} (h : RBit n q bit k) (hb : bit ≤ 0) : rt n = q := by
  obtain ⟨e, q0, c, a, _⟩ := h
  cases k with
  | zero => exact rt_of q0 c (by simpa using a)
  | succ j =>
    rw [two_half] at e
    have := two_pos j
    omega
end Go.Proofs.YtgjdopjolokaiaaGreat

/- What root's functions return, and what follows from it. -/
namespace Go.Proofs.YtgjdopjolokaiaaGreat

def rnB (n : Int) : Bool := decide (0 ≤ n) && decide (n ≤ 1125899906842624)
theorem rnB_iff (n : Int) : rnB n = true ↔ 0 ≤ n ∧ n ≤ 1125899906842624 := by simp [rnB]
def rnE (n : Int) : Int := if rnB n = true then 0 else 2
noncomputable def dnQ (n : Int) : Int := if rnB n = true then rt n else 0
noncomputable def upR (n : Int) : Int := if rnB n = true then ce n else 0
noncomputable def sqB (n : Int) : Bool := rnB n && decide (rt n = ce n)
def fdB (n k : Int) : Bool := decide (0 ≤ n) && decide (n ≤ 1099511627776) && decide (1 ≤ k) && decide (k ≤ 1000)
theorem fdB_iff (n k : Int) : fdB n k = true ↔ (0 ≤ n ∧ n ≤ 1099511627776) ∧ 1 ≤ k ∧ k ≤ 1000 := by simp [fdB, and_assoc]
def fdE (n k : Int) : Int := if fdB n k = true then 0 else 2
noncomputable def fdQ (n k : Int) : Int := if fdB n k = true then rt (n * k * k) else 0
def hfB (r y : Int) : Bool := decide (0 ≤ r) && decide (r ≤ 100000) && decide (-100000 ≤ y) && decide (y ≤ 100000)
theorem hfB_iff (r y : Int) : hfB r y = true ↔ (0 ≤ r ∧ r ≤ 100000) ∧ -100000 ≤ y ∧ y ≤ 100000 := by simp [hfB, and_assoc]
def hfE (r y : Int) : Int := if hfB r y = true then 0 else 2
noncomputable def hfL (r y : Int) : Int := if hfB r y = true then hcL r y else 0
noncomputable def hfH (r y : Int) : Int := if hfB r y = true then hcH r y else 0

/-- RootBetween -/
theorem rn_facts (n : Int) (h : rnB n = true) :
    (0 ≤ rt n ∧ rt n ≤ 33554432) ∧ (ce n = rt n ∨ ce n = rt n + 1) ∧ rt n * rt n ≤ n ∧ n < (rt n + 1) * (rt n + 1) ∧ n ≤ ce n * ce n ∧ (rt n = ce n ↔ rt n * rt n = n) := by
  obtain ⟨h0, h1⟩ := (rnB_iff n).1 h
  obtain ⟨a0, a1, a2⟩ := rt_spec n h0
  obtain ⟨b0, b1, b2, b3⟩ := ce_spec n h0
  have hb := rt_le h0 (show (0 : Int) ≤ 33554432 by omega) (show n ≤ 33554432 * 33554432 by omega)
  exact ⟨⟨a0, hb⟩, by omega, a1, a2, b2, ⟨fun e => b3.1 e.symm, fun e => (b3.2 e).symm⟩⟩
theorem rn_sq (n : Int) (h : rnB n = true) : ce n ≤ 33554433 ∧ 0 ≤ ce n ∧ 0 ≤ rt n * rt n ∧ rt n * rt n ≤ 1125899906842624 ∧ (rt n + 1) * (rt n + 1) ≤ 1125899973951489 ∧ 0 ≤ ce n * ce n ∧ ce n * ce n ≤ 1125899973951489 := by
  obtain ⟨⟨a0, a1⟩, b, _⟩ := rn_facts n h
  have e1 := sq_mono a0 a1
  have e2 := sq_mono (show 0 ≤ rt n + 1 by omega) (show rt n + 1 ≤ 33554433 by omega)
  have e3 := sq_mono (show 0 ≤ ce n by omega) (show ce n ≤ 33554433 by omega)
  exact ⟨by omega, by omega, Int.mul_nonneg a0 a0, by omega, by omega, Int.mul_nonneg (by omega) (by omega), by omega⟩
/-- RootFolds -/
theorem fd_facts (n k : Int) (h : fdB n k = true) :
    rnB n = true ∧ k * rt n ≤ rt (n * k * k) ∧ rt (n * k * k) ≤ k * ce n ∧ 0 ≤ rt (n * k * k) ∧ rt (n * k * k) * rt (n * k * k) ≤ n * k * k ∧ n * k * k < (rt (n * k * k) + 1) * (rt (n * k * k) + 1) ∧
      (0 ≤ n * k ∧ n * k ≤ 1099511627776000) ∧ (0 ≤ n * k * k ∧ n * k * k ≤ 1099511627776000000) ∧ rt (n * k * k) ≤ 1048576000 ∧ rt n ≤ 1048576 ∧ ce n ≤ 1048576 := by
  obtain ⟨⟨h0, h1⟩, k1, k2⟩ := (fdB_iff n k).1 h
  have m1 : n * k ≤ 1099511627776 * 1000 := Int.mul_le_mul h1 k2 (by omega) (by omega)
  have m0 : 0 ≤ n * k := Int.mul_nonneg h0 (by omega)
  have p1 : n * k * k ≤ 1099511627776000 * 1000 := Int.mul_le_mul m1 k2 (by omega) (by omega)
  have p0 : 0 ≤ n * k * k := Int.mul_nonneg m0 (by omega)
  obtain ⟨a0, a1, a2⟩ := rt_spec _ p0
  have f := rt_fold n k h0 (by omega)
  have b1 := rt_le p0 (show (0 : Int) ≤ 1048576000 by omega) (show n * k * k ≤ 1048576000 * 1048576000 by omega)
  have b2 := rt_le h0 (show (0 : Int) ≤ 1048576 by omega) (show n ≤ 1048576 * 1048576 by omega)
  have b3 := ce_le h0 (show (0 : Int) ≤ 1048576 by omega) (show n ≤ 1048576 * 1048576 by omega)
  exact ⟨(rnB_iff n).2 ⟨h0, by omega⟩, f.1, f.2, a0, a1, a2, ⟨m0, by omega⟩, ⟨p0, by omega⟩, b1, b2, b3⟩
/-- half chords: what is subtracted stays in range -/
theorem hf_sq (r y : Int) (h : hfB r y = true) : (0 ≤ r * r ∧ r * r ≤ 10000000000) ∧ 0 ≤ y * y ∧ y * y ≤ 10000000000 := by
  obtain ⟨⟨h0, h1⟩, y0, y1⟩ := (hfB_iff r y).1 h
  have e1 := sq_mono h0 h1
  have hy : 0 ≤ y * y ∧ y * y ≤ 10000000000 := by
    by_cases hy : 0 ≤ y
    · exact ⟨Int.mul_nonneg hy hy, by have := sq_mono hy y1; omega⟩
    · rw [← Int.neg_mul_neg]
      exact ⟨Int.mul_nonneg (by omega) (by omega), by have := sq_mono (show 0 ≤ -y by omega) (show -y ≤ 100000 by omega); omega⟩
  exact ⟨⟨Int.mul_nonneg h0 h0, by omega⟩, hy⟩
theorem hf_neg (r y : Int) : hfB r (-y) = hfB r y ∧ hfL r (-y) = hfL r y ∧ hfH r (-y) = hfH r y := by
  have e : hfB r (-y) = hfB r y := by
    rw [Bool.eq_iff_iff, hfB_iff, hfB_iff]; omega
  unfold hfL hfH
  rw [e, (hc_neg r y).1, (hc_neg r y).2]
  exact ⟨rfl, rfl, rfl⟩
/-- RootGrows -/
theorem hf_wider (r s y : Int) (h : r ≤ s) (h1 : hfB r y = true) (h2 : hfB s y = true) : hfL r y ≤ hfL s y ∧ hfH r y ≤ hfH s y := by
  unfold hfL hfH
  rw [if_pos h1, if_pos h1, if_pos h2, if_pos h2]
  exact hc_wider r s y ((hfB_iff _ _).1 h1).1.1 h
theorem hf_further (r y z : Int) (h : max y (-y) ≤ z) (h1 : hfB r y = true) (h2 : hfB r z = true) : hfL r z ≤ hfL r y ∧ hfH r z ≤ hfH r y := by
  unfold hfL hfH
  rw [if_pos h1, if_pos h1, if_pos h2, if_pos h2, (hc_abs r y).1, (hc_abs r y).2]
  exact hc_further r (max y (-y)) z ((hfB_iff _ _).1 h1).1.1 (by omega) h
theorem hf_bd (r y : Int) (h : hfB r y = true) : 0 ≤ hfL r y ∧ hfL r y ≤ hfH r y ∧ hfH r y ≤ hfL r y + 1 ∧ hfH r y ≤ r := by
  unfold hfL hfH
  rw [if_pos h, if_pos h]
  exact hc_bd r y ((hfB_iff _ _).1 h).1.1
theorem hf_zero (r : Int) (h : 0 ≤ r ∧ r ≤ 100000) : hfB r 0 = true ∧ hfL r 0 = r ∧ hfH r 0 = r := by
  have hb : hfB r 0 = true := (hfB_iff r 0).2 ⟨h, by omega, by omega⟩
  unfold hfL hfH
  rw [if_pos hb, if_pos hb, (hc_zero r h.1).1, (hc_zero r h.1).2]
  exact ⟨hb, rfl, rfl⟩
/-- RootCircle -/
theorem hf_circle (r y : Int) (h : hfB r y = true) (hy : ¬ (r < y ∨ y < -r)) : hfL r y * hfL r y + y * y ≤ r * r ∧ r * r ≤ hfH r y * hfH r y + y * y := by
  unfold hfL hfH
  rw [if_pos h, if_pos h]
  exact hc_circle r y hy
theorem hf_out (r y : Int) (hy : r < y ∨ y < -r) : hfL r y = 0 ∧ hfH r y = 0 := by
  unfold hfL hfH hcL hcH
  rw [if_pos hy, if_pos hy]
  exact ⟨by split <;> rfl, by split <;> rfl⟩
theorem hf_mul (r y : Int) (h : hfB r y = true) : (0 ≤ hfL r y * hfL r y ∧ hfL r y * hfL r y ≤ 10000000000) ∧ 0 ≤ hfH r y * hfH r y ∧ hfH r y * hfH r y ≤ 10000000000 := by
  have b := hf_bd r y h
  have hr := ((hfB_iff r y).1 h).1
  have e1 := sq_mono b.1 (show hfL r y ≤ 100000 by omega)
  have e2 := sq_mono (show 0 ≤ hfH r y by omega) (show hfH r y ≤ 100000 by omega)
  exact ⟨⟨Int.mul_nonneg b.1 b.1, by omega⟩, Int.mul_nonneg (by omega) (by omega), by omega⟩
end Go.Proofs.YtgjdopjolokaiaaGreat

/- The reference of layers 6 and 7: roots, half chords, chords, strips. -/
namespace Go.Proofs.YtgjdopjolokaiaaGreat
open Go.RowKit

set_option maxHeartbeats 1000000 in
theorem refFloor_any (n : Int) (w : World) (h0 : 0 ≤ n) (h1 : n < 4611686018427387904) :
    Calls Tryz.prog 106 #[.int .i64 n] w fun e w' => e = .returned (.int .i64 (rt n)) ∧ w = w' := by
  have H0 := Lib.hid (RBit.start n h0 h1)
  go_enter Tryz.func106, Tryz.ntmps106
  go_wp2_with fail
  go_loopw [3, 4] (fun qq bb wr => ∃ (q bit : Int) (k : Nat), qq = .int .i64 q ∧ bb = .int .i64 bit ∧ w = wr ∧ Hid (RBit n q bit k)) (fun _ bb _ => (intOf bb).toNat)
  case atStart => exact ⟨0, 1073741824, 31, rfl, rfl, rfl, H0⟩
  case round =>
    obtain ⟨q, bit, k, rfl, rfl, rfl, H⟩ := hrel
    by_cases hb : 0 < bit
    · obtain ⟨q0, q1, p0, p1⟩ := H.out.bd hb
      have hb2 : bit ≤ 2147483647 := by omega
      by_cases hq : (q + bit) * (q + bit) ≤ n
      · obtain ⟨j, _, hj⟩ := H.out.up hb hq
        have HJ := Lib.hid hj
        clear hj
        go_wp2
        go_roundw
        case rel => exact ⟨q + bit, bit / 2, j, rfl, rfl, by first | rfl | trivial, HJ⟩
        case measure => simp [intOf]; omega
      · obtain ⟨j, _, hj⟩ := H.out.keep hb (by omega)
        have HJ := Lib.hid hj
        clear hj
        go_wp2
        go_roundw
        case rel => exact ⟨q, bit / 2, j, rfl, rfl, by first | rfl | trivial, HJ⟩
        case measure => simp [intOf]; omega
    · have hs := H.out.stop (by omega)
      clear H H0
      go_wp2
      go_returns
      exact ⟨by first | rfl | exact ret_int hs.symm, rfl⟩
theorem refCeil_any (n : Int) (w : World) (h0 : 0 ≤ n) (h1 : n ≤ 1125899906842624) :
    Calls Tryz.prog 107 #[.int .i64 n] w fun e w' => e = .returned (.int .i64 (ce n)) ∧ w = w' := by
  obtain ⟨⟨a0, a1⟩, _, a2, _⟩ := rn_facts n ((rnB_iff n).2 ⟨h0, h1⟩)
  have a3 : 0 ≤ rt n * rt n := Int.mul_nonneg a0 a0
  have HF := Lib.hid (fun W => refFloor_any n W h0 (by omega))
  have HC : Hid (ce n = if rt n * rt n < n then rt n + 1 else rt n) := rfl
  generalize ce n = C at *
  generalize rt n = r at *
  by_cases h : r * r < n
  · have hc := HC.out
    rw [if_pos h] at hc
    subst hc
    clear HC
    go_enter Tryz.func107, Tryz.ntmps107
    go_wp2_with fail
    refine (HF.out _).mono ?_
    rintro e w1 ⟨rfl, rfl⟩
    go_wp2
    go_returns
    exact ⟨rfl, rfl⟩
  · have hc := HC.out
    rw [if_neg h] at hc
    subst hc
    clear HC
    go_enter Tryz.func107, Tryz.ntmps107
    go_wp2_with fail
    refine (HF.out _).mono ?_
    rintro e w1 ⟨rfl, rfl⟩
    go_wp2
    go_returns
    exact ⟨rfl, rfl⟩
theorem refBounds_any (r y : Int) (w : World) (h0 : 0 ≤ r) (h1 : r ≤ 100000) (y0 : -200000 ≤ y) (y1 : y ≤ 200000) :
    Calls Tryz.prog 93 #[.int .i64 r, .int .i64 y] w fun e w' => e = .returned (.agg #[.int .i64 (hcL r y), .int .i64 (hcH r y)]) ∧ Below w.heap.size w w' := by
  have s0 : 0 ≤ r * r := Int.mul_nonneg h0 h0
  have s1 : r * r ≤ 10000000000 := by have := sq_mono h0 h1; omega
  have t0 : 0 ≤ y * y := by
    by_cases hy : 0 ≤ y
    · exact Int.mul_nonneg hy hy
    · rw [← Int.neg_mul_neg]; exact Int.mul_nonneg (by omega) (by omega)
  have t1 : y * y ≤ 40000000000 := by
    by_cases hy : 0 ≤ y
    · have := sq_mono hy y1; omega
    · have := sq_mono (show 0 ≤ -y by omega) (show -y ≤ 200000 by omega); rw [Int.neg_mul_neg] at this; omega
  by_cases hy : r < y ∨ y < -r
  · have e1 : hcL r y = 0 := by unfold hcL; rw [if_pos hy]
    have e2 : hcH r y = 0 := by unfold hcH; rw [if_pos hy]
    rw [e1, e2]
    have hy2 : r < y ∨ (y ≤ r ∧ y < -r) := by omega
    clear hy e1 e2
    rcases hy2 with hy | ⟨hy, hy2⟩
    all_goals
      go_enter Tryz.func93, Tryz.ntmps93
      go_wp2
      refine bodyPost_ret (v := .agg #[.int .i64 0, .int .i64 0]) (by simp [results, Tryz.results93, go_sem]) rfl ?_
      exact ⟨rfl, bel_alloc (Below.refl _ _)⟩
  · have e1 : hcL r y = rt (r * r - y * y) := by unfold hcL; rw [if_neg hy]
    have e2 : hcH r y = ce (r * r - y * y) := by unfold hcH; rw [if_neg hy]
    rw [e1, e2]
    have hq := sq_abs hy
    have HF := Lib.hid (fun W => refFloor_any (r * r - y * y) W hq (by omega))
    have HC := Lib.hid (fun W => refCeil_any (r * r - y * y) W hq (by omega))
    have hy1 : y ≤ r := by omega
    have hy2 : -r ≤ y := by omega
    generalize rt (r * r - y * y) = F at *
    generalize ce (r * r - y * y) = C at *
    clear e1 e2 hy
    have T0 := Lib.hid (Two.new w (.int .i64 0) (.int .i64 0) 29)
    go_enter Tryz.func93, Tryz.ntmps93
    go_wp2_with fail
    refine (HF.out _).mono ?_
    rintro e w1 ⟨rfl, rfl⟩
    go_wp2_with fail
    refine (HC.out _).mono ?_
    rintro e w2 ⟨rfl, rfl⟩
    go_wp2
    refine bodyPost_ret (v := .agg #[.int .i64 F, .int .i64 C]) (by simp [results, Tryz.results93, go_sem]) rfl ?_
    exact ⟨rfl, bel_alloc (Below.refl _ _)⟩


theorem refChd_any (r c y : Int) (w : World) (h0 : 0 ≤ r) (h1 : r ≤ 100000) (c0 : 0 ≤ c) (c1 : c ≤ 100000) (y0 : 0 ≤ y) (y1 : y ≤ 200000) :
    Calls Tryz.prog 76 #[.int .i64 r, .int .i64 c, .int .i64 y] w fun e w' => e = .returned (.agg #[.int .i64 (2 * hcL r (y - c)), .int .i64 (2 * hcH r (y - c))]) ∧ Below w.heap.size w w' := by
  have HB := Lib.hid (fun W => refBounds_any r (y - c) W h0 h1 (by omega) (by omega))
  have b := hc_le r (y - c) h0
  generalize hcL r (y - c) = F at *
  generalize hcH r (y - c) = C at *
  obtain ⟨b0, b1, b2⟩ := b
  have b3 : C ≤ 100000 := by omega
  have T0 := Lib.hid (Two.new w (.int .i64 0) (.int .i64 0) 29)
  go_enter Tryz.func76, Tryz.ntmps76
  go_wp2_with fail
  refine (HB.out _).mono ?_
  rintro e w1 ⟨rfl, gg⟩
  replace T0 := Lib.hid ((T0.out.below gg).alloc (.cells #[.int .i64 F, .int .i64 C] 29))
  have X1 := Lib.hid (bel_trans (bel_alloc gg) (bel_alloc (Below.refl (w1.alloc (.cells #[.int .i64 F, .int .i64 C] 29)).heap.size _))); clear gg
  obtain ⟨r0, r1, f0, f1, hlt⟩ := T0.out
  go_wp2
  obtain ⟨t0, t1⟩ := two_read _ w.heap.size (.int .i64 (2 * F)) (.int .i64 (2 * C)) r0 r1
  refine bodyPost_ret (v := .agg #[.int .i64 (2 * F), .int .i64 (2 * C)]) (by simp [results, Tryz.results76, go_sem, t0, t1]) rfl ?_
  exact ⟨rfl, (X1.out.setCell (Nat.le_refl _) _).setCell (Nat.le_refl _) _⟩
end Go.Proofs.YtgjdopjolokaiaaGreat

/- The reference of layer 7: a strip. -/
namespace Go.Proofs.YtgjdopjolokaiaaGreat
open Go.RowKit

set_option maxHeartbeats 4000000 in
theorem refOf_core (r c a b A0 A1 B0 B1 L H : Int) (w : World) (r0 : 0 ≤ r) (r1 : r ≤ 100000) (a0 : 0 ≤ a) (ab : a ≤ b) (b1 : b ≤ 200000) (p0 : 0 ≤ A0) (p1 : A0 ≤ 200000) (p2 : 0 ≤ A1) (p3 : A1 ≤ 200000) (q0 : 0 ≤ B0) (q1 : B0 ≤ 200000) (q2 : 0 ≤ B1) (q3 : B1 ≤ 200000)
    (hc : (a ≤ c ∧ c ≤ b ∧ H = 2 * r) ∨ (c < a ∧ H = max A1 B1) ∨ (a ≤ c ∧ b < c ∧ H = max A1 B1)) (hL : L = min A0 B0) (m0 : 0 ≤ (b - a) * L) (m1 : (b - a) * L ≤ 40000000000) (m2 : 0 ≤ (b - a) * H) (m3 : (b - a) * H ≤ 40000000000)
    (H1 : Hid (∀ W, Calls Tryz.prog 76 #[.int .i64 r, .int .i64 c, .int .i64 a] W fun e w' => e = .returned (.agg #[.int .i64 A0, .int .i64 A1]) ∧ Below W.heap.size W w'))
    (H2 : Hid (∀ W, Calls Tryz.prog 76 #[.int .i64 r, .int .i64 c, .int .i64 b] W fun e w' => e = .returned (.agg #[.int .i64 B0, .int .i64 B1]) ∧ Below W.heap.size W w')) :
    Calls Tryz.prog 54 #[.int .i64 r, .int .i64 c, .int .i64 a, .int .i64 b] w fun e w' => e = .returned (.agg #[.int .i64 ((b - a) * min A0 B0), .int .i64 ((b - a) * H)]) ∧ Below w.heap.size w w' := by
  have T0 := Lib.hid (Two.new w (.int .i64 0) (.int .i64 0) 29)
  have HL := Lib.hid hL
  clear hL
  have HC := Lib.hid hc
  clear hc
  go_enter Tryz.func54, Tryz.ntmps54
  go_wp2_with fail
  refine (H1.out _).mono ?_
  rintro e w1 ⟨rfl, gg⟩
  replace T0 := Lib.hid (T0.out.below gg)
  have X1 := Lib.hid (bel_alloc gg); clear gg
  go_wp2_with fail
  refine (H2.out _).mono ?_
  rintro e w2 ⟨rfl, gg⟩
  replace T0 := Lib.hid (((T0.out.below gg).alloc (.cells #[.int .i64 A0, .int .i64 A1] 29)).alloc (.cells #[.int .i64 B0, .int .i64 B1] 29))
  replace X1 := Lib.hid (bel_trans (bel_trans X1.out gg) (bel_alloc (bel_alloc (Below.refl ((w2.alloc (.cells #[.int .i64 A0, .int .i64 A1] 29)).alloc (.cells #[.int .i64 B0, .int .i64 B1] 29)).heap.size _)))); clear gg
  have TA := Lib.hid ((Two.new w2 (.int .i64 A0) (.int .i64 A1) 29).alloc (.cells #[.int .i64 B0, .int .i64 B1] 29))
  have TB := Lib.hid (Two.new (w2.alloc (.cells #[.int .i64 A0, .int .i64 A1] 29)) (.int .i64 B0) (.int .i64 B1) 29)
  go_wp2
  go_quiet (fail)
  obtain rfl := HL.out
  replace T0 : Two w.heap.size (((w2.alloc (.cells #[.int .i64 A0, .int .i64 A1] 29)).alloc (.cells #[.int .i64 B0, .int .i64 B1] 29)).drewN nq) (.int .i64 0) (.int .i64 0) := T0.out
  replace X1 := Lib.hid (bel_trans X1.out (bel_drewN _ nq))
  obtain ⟨z0, z1, f0, f1, hlt⟩ := T0
  clear TA TB HL
  generalize (((w2.alloc (.cells #[.int .i64 A0, .int .i64 A1] 29)).alloc (.cells #[.int .i64 B0, .int .i64 B1] 29)).drewN nq) = wq at *
  rcases HC.out with ⟨c1, c2, rfl⟩ | ⟨c1, rfl⟩ | ⟨c1, c2, rfl⟩
  · clear HC
    go_wp2
    obtain ⟨t0, t1⟩ := two_read wq w.heap.size (.int .i64 ((b - a) * min A0 B0)) (.int .i64 ((b - a) * (2 * r))) (z0) (z1)
    refine bodyPost_ret (v := .agg #[.int .i64 ((b - a) * min A0 B0), .int .i64 ((b - a) * (2 * r))]) (by simp [results, Tryz.results54, go_sem, t0, t1]) rfl ?_
    exact ⟨rfl, (X1.out.setCell (Nat.le_refl _) _).setCell (Nat.le_refl _) _⟩
  all_goals
    clear HC
    go_wp2
    obtain ⟨t0, t1⟩ := two_read wq w.heap.size (.int .i64 ((b - a) * min A0 B0)) (.int .i64 ((b - a) * max A1 B1)) (z0) (z1)
    refine bodyPost_ret (v := .agg #[.int .i64 ((b - a) * min A0 B0), .int .i64 ((b - a) * max A1 B1)]) (by simp [results, Tryz.results54, go_sem, t0, t1]) rfl ?_
    exact ⟨rfl, (X1.out.setCell (Nat.le_refl _) _).setCell (Nat.le_refl _) _⟩
theorem refOf_any (r c a b : Int) (w : World) (r0 : 0 ≤ r) (r1 : r ≤ 100000) (c0 : 0 ≤ c) (c1 : c ≤ 100000) (a0 : 0 ≤ a) (ab : a ≤ b) (b1 : b ≤ 200000) :
    Calls Tryz.prog 54 #[.int .i64 r, .int .i64 c, .int .i64 a, .int .i64 b] w fun e w' => e = .returned (.agg #[.int .i64 (ofL r c a b), .int .i64 (ofH r c a b)]) ∧ Below w.heap.size w w' := by
  have ha := hc_le r (a - c) r0
  have hb := hc_le r (b - c) r0
  have bd := of_bd r c a b r0 ab
  have q : (b - a) * (2 * r) ≤ 200000 * 200000 := Int.mul_le_mul (by omega) (by omega) (by omega) (by omega)
  refine refOf_core r c a b (2 * hcL r (a - c)) (2 * hcH r (a - c)) (2 * hcL r (b - c)) (2 * hcH r (b - c)) _ _ w r0 r1 a0 ab b1 (by omega) (by omega) (by omega) (by omega) (by omega) (by omega) (by omega) (by omega) ?_ rfl bd.1 (by show ofL r c a b ≤ _; omega) (by show 0 ≤ ofH r c a b; omega) (by show ofH r c a b ≤ _; omega) (fun W => refChd_any r c a W r0 r1 c0 c1 a0 (by omega)) (fun W => refChd_any r c b W r0 r1 c0 c1 (by omega) b1)
  by_cases h : a ≤ c ∧ c ≤ b
  · left; exact ⟨h.1, h.2, if_pos h⟩
  · right
    rw [if_neg h]
    by_cases h2 : c < a
    · left; exact ⟨h2, rfl⟩
    · right; exact ⟨by omega, by omega, rfl⟩
end Go.Proofs.YtgjdopjolokaiaaGreat

/- The reference of layer 7: heights are checked. -/
namespace Go.Proofs.YtgjdopjolokaiaaGreat
open Go.RowKit

theorem refChk_few (a : Option Addr) (n cap : Nat) (w : World) (h : n < 2) :
    Calls Tryz.prog 52 #[.slice a n cap] w fun e w' => e = .returned (.int .i64 9) ∧ Below w.heap.size w w' := by
  go_enter Tryz.func52, Tryz.ntmps52
  go_wp2
  go_returns
  exact ⟨rfl, Below.refl _ _⟩
theorem refChk_many (a : Option Addr) (n cap : Nat) (w : World) (h : 65 < n) (h2 : n ≤ 9223372036854775807) :
    Calls Tryz.prog 52 #[.slice a n cap] w fun e w' => e = .returned (.int .i64 8) ∧ Below w.heap.size w w' := by
  go_enter Tryz.func52, Tryz.ntmps52
  go_wp2
  go_returns
  exact ⟨rfl, Below.refl _ _⟩
theorem take_allN {p : Int → Bool} {l : List Int} {k : Nat} (hk : l.length ≤ k) (h : (l.take k).all p = true) : l.all p = true := by
  rwa [List.take_of_length_le hk] at h
set_option maxHeartbeats 4000000 in
theorem refChk_some (b off n cap : Nat) (l : List Int) (E : Int) (w : World) (n0 : 2 ≤ n) (n1 : n ≤ 65) (hl : n = l.length) (hb : b < w.heap.size)
    (hc : Hid (∀ j, j < n → w.cell? ⟨b, off + j, none⟩ = some (.int .i64 (l.getD j 0))))
    (h1 : Hid (l.all hB = false → E = 2)) (h2 : Hid (l.all hB = true → (∃ i, i + 1 < n ∧ l.getD (i + 1) 0 < l.getD i 0) → E = 5)) (h3 : Hid (l.all hB = true → (∀ i, i + 1 < n → l.getD i 0 ≤ l.getD (i + 1) 0) → E = 0)) :
    Calls Tryz.prog 52 #[.slice (some ⟨b, off, none⟩) n cap] w fun e w' => e = .returned (.int .i64 E) ∧ Below w.heap.size w w' := by
  have HL := Lib.hid hl
  clear hl
  go_enter Tryz.func52, Tryz.ntmps52
  go_wp2_with fail
  go_loopw [3] (fun ii wr => ∃ (k : Nat), k ≤ n ∧ ii = .int .i64 k ∧ w = wr ∧ Hid ((l.take k).all hB = true)) (fun ii _ => n - (intOf ii).toNat)
  case atStart => exact ⟨0, by omega, rfl, rfl, by show _ = _; simp⟩
  case round =>
    obtain ⟨k, hk, rfl, rfl, ha⟩ := hrel
    by_cases hlt : k < n
    · have c0 := hc.out k hlt
      have hkl : k < l.length := by rw [← HL.out]; exact hlt
      have HA := Lib.hid (all_next hB l k hkl)
      have HN : Hid (hB (l.getD k 0) = false → E = 2) := fun h => h1.out (all_not hB l k hkl h)
      clear hkl
      generalize l.getD k 0 = x at *
      by_cases hx : 0 ≤ x ∧ x ≤ 200000
      · obtain ⟨x0, x1⟩ := hx
        have HA2 : Hid ((l.take (k + 1)).all hB = true) := by show _ = _; rw [HA.out, ha.out]; simp [hB, x0, x1]
        clear HN HA
        go_wp2
        go_roundw
        case rel => exact ⟨k + 1, by omega, by go_num, by first | rfl | trivial, HA2⟩
        case measure => simp [intOf]; omega
      · obtain rfl := HN.out (by rw [Bool.eq_false_iff]; intro h; simp [hB] at h; exact hx h)
        have hx2 : x < 0 ∨ (0 ≤ x ∧ 200000 < x) := by omega
        clear HN HA hx
        rcases hx2 with hx | ⟨hx, hx2⟩
        · go_wp2
          go_returns
          exact ⟨rfl, Below.refl _ _⟩
        · go_wp2
          go_returns
          exact ⟨rfl, Below.refl _ _⟩
    · obtain rfl : k = n := by omega
      have hall := take_allN (by rw [← HL.out]; exact Nat.le_refl _) ha.out
      have H2 := Lib.hid (h2.out hall)
      have H3 := Lib.hid (h3.out hall)
      clear hall h1 h2 h3 ha
      go_wp2_with fail
      go_loopw [4] (fun ii wr => ∃ (j : Nat), j + 1 ≤ k ∧ ii = .int .i64 ((j : Int) + 1) ∧ Hid (Below w.heap.size w wr) ∧ Hid (∀ i, i + 1 < j + 1 → l.getD i 0 ≤ l.getD (i + 1) 0)) (fun ii _ => k - (intOf ii).toNat)
      case atStart => exact ⟨0, by omega, rfl, Below.refl _ _, fun i hi => by omega⟩
      case round =>
        obtain ⟨j, hj, rfl, hB, hs⟩ := hrel
        by_cases hlt : j + 1 < k
        · have c0 : wr.cell? ⟨b, off + j, none⟩ = some (.int .i64 (l.getD j 0)) := by rw [(bcell hB.out).1 _ _ hb]; exact hc.out j (by omega)
          have c1 : wr.cell? ⟨b, off + (j + 1), none⟩ = some (.int .i64 (l.getD (j + 1) 0)) := by rw [(bcell hB.out).1 _ _ hb]; exact hc.out (j + 1) hlt
          have HG : Hid (l.getD j 0 ≤ l.getD (j + 1) 0 → ∀ i, i + 1 < j + 1 + 1 → l.getD i 0 ≤ l.getD (i + 1) 0) := fun h i hi => by
            by_cases e : i = j
            · rw [e]; exact h
            · exact hs.out i (by omega)
          have HN : Hid (l.getD (j + 1) 0 < l.getD j 0 → E = 5) := fun h => H2.out ⟨j, hlt, h⟩
          generalize l.getD j 0 = x at *
          generalize l.getD (j + 1) 0 = y at *
          by_cases hxy : y < x
          · obtain rfl := HN.out hxy
            have hd : decide (y < x) = true := decide_eq_true hxy
            clear HN HG
            go_wp2
            go_quiet (fail)
            go_wp2
            go_returns
            exact ⟨rfl, bel_trans hB.out (bel_drewN _ _)⟩
          · have hd : decide (y < x) = false := decide_eq_false hxy
            replace HG := Lib.hid (HG.out (by omega))
            clear HN
            go_wp2
            go_quiet (fail)
            go_wp2
            go_roundw
            case rel => exact ⟨j + 1, by omega, by go_num, bel_trans hB.out (bel_drewN _ _), HG.out⟩
            case measure => simp [intOf]; omega
        · obtain rfl : k = j + 1 := by omega
          obtain rfl := H3.out (fun i hi => hs.out i hi)
          go_wp2
          go_returns
          exact ⟨rfl, hB.out⟩
theorem refChk_any (v : Value) (l : List Int) (w : World) (hv : Nums w v l) :
    Calls Tryz.prog 52 #[v] w fun e w' => e = .returned (.int .i64 (hcE l)) ∧ Below w.heap.size w w' := by
  obtain ⟨a, cap, rfl, hl, h⟩ := hv
  unfold hcE
  by_cases g1 : l.length < 2
  · rw [if_pos g1]
    exact refChk_few a _ cap w g1
  · by_cases g2 : 65 < l.length
    · rw [if_neg g1, if_pos g2]
      exact refChk_many a _ cap w g2 (by omega)
    · rcases h with h | ⟨b, off, rfl, hb, hc⟩
      · omega
      · rw [if_neg g1, if_neg g2]
        refine refChk_some b off l.length cap l _ w (by omega) (by omega) rfl hb hc (fun h => ?_) (fun h h2 => ?_) (fun h h2 => ?_)
        · rw [if_pos h]
        · rw [if_neg (by rw [h]; simp), if_pos]
          obtain ⟨i, hi, hlt⟩ := h2
          rw [Bool.eq_false_iff]
          intro hc
          have := (ascB_iff l).1 hc i hi
          omega
        · rw [if_neg (by rw [h]; simp), if_neg]
          rw [(ascB_iff l).2 h2]; simp
end Go.Proofs.YtgjdopjolokaiaaGreat

/- The reference of layer 7: areas between heights. -/
namespace Go.Proofs.YtgjdopjolokaiaaGreat
open Go.RowKit

theorem Two.put0 {b : Nat} {W : World} {x y : Value} (h : Two b W x y) (z : Value) : Two b (W.setCell ⟨b, 0, none⟩ z) z y := by
  obtain ⟨h0, h1, h2, h3, h4⟩ := h
  refine ⟨?_, ?_, ?_, ?_, ?_⟩
  · exact World.cell?_setCell_same _ _ _ h0
  · rw [World.cell?_setCell_other _ _ _ _ (by simp)]; exact h1
  · rw [World.frozen?_setCell]; exact h2
  · rw [World.frozen?_setCell]; exact h3
  · simpa [World.setCell] using h4

/-- behind a struct's own block: made behind the call, or ahead of it -/
def Meets (w : World) (b1 : Nat) (oL oH pL pH : Value) (s : Value) (wx : World) : Prop := ∃ bs : Nat, s = .pointer (some ⟨bs, 0, none⟩) ∧ bs ≠ b1 ∧ Hid (Two bs wx oL oH) ∧ Hid (Below w.heap.size w wx) ∧ Hid (Two w.heap.size wx (.int .i64 0) (.int .i64 0)) ∧ Hid (Two b1 wx pL pH)
theorem meets_behind {w wr w2 : World} {b1 : Nat} {oL oH pL pH : Value} {T : TypeId} (hB : Below w.heap.size w wr) (X : Below wr.drew.heap.size wr.drew w2) (hT : Two w.heap.size wr (.int .i64 0) (.int .i64 0)) (hS : Two b1 wr pL pH) :
    Meets w b1 oL oH pL pH (.pointer (some ⟨w2.heap.size, 0, none⟩)) (w2.alloc (.cells #[oL, oH] T)) := by
  have X1 : Below wr.heap.size wr w2 := bel_trans (bel_drew wr) X
  have h1 := (hS.below X1).2.2.2.2
  exact ⟨_, rfl, Nat.ne_of_gt h1, Two.new w2 oL oH T, bel_trans (bel_trans hB X1) (bel_alloc (Below.refl _ _)), (hT.below X1).alloc _, (hS.below X1).alloc _⟩
theorem meets_ahead {w wr w2 : World} {b1 : Nat} {oL oH pL pH a c : Value} {T : TypeId} (hB : Below w.heap.size w wr) (X : Below (wr.alloc (.cells #[a, c] T)).drew.heap.size (wr.alloc (.cells #[a, c] T)).drew w2) (hT : Two w.heap.size wr (.int .i64 0) (.int .i64 0)) (hS : Two b1 wr pL pH) :
    Meets w b1 oL oH pL pH (.pointer (some ⟨wr.heap.size, 0, none⟩)) ((w2.setCell ⟨wr.heap.size, 0, none⟩ oL).setCell ⟨wr.heap.size, 1, none⟩ oH) := by
  have X1 : Below wr.heap.size wr w2 := bel_alloc (bel_trans (bel_drew _) X)
  have X0 : Below (wr.alloc (.cells #[a, c] T)).heap.size (wr.alloc (.cells #[a, c] T)) w2 := bel_trans (bel_drew _) X
  have hN := (Two.new wr a c T).below X0
  have h1 : b1 ≠ wr.heap.size := Nat.ne_of_lt hS.2.2.2.2
  have h2 : w.heap.size ≠ wr.heap.size := Nat.ne_of_lt hT.2.2.2.2
  have h3 : w.heap.size ≤ wr.heap.size := Nat.le_of_lt hT.2.2.2.2
  refine ⟨_, rfl, h1.symm, (hN.put0 oL).set1 oH, ?_, ?_, ?_⟩
  · exact ((bel_trans hB X1).setCell (p := ⟨wr.heap.size, 0, none⟩) h3 _).setCell (p := ⟨wr.heap.size, 1, none⟩) h3 _
  · exact ((hT.below X1).other ⟨wr.heap.size, 0, none⟩ h2.symm _).other ⟨wr.heap.size, 1, none⟩ h2.symm _
  · exact ((hS.below X1).other ⟨wr.heap.size, 0, none⟩ h1.symm _).other ⟨wr.heap.size, 1, none⟩ h1.symm _

end Go.Proofs.YtgjdopjolokaiaaGreat

/- The reference of layer 11: a strip of all slices. -/
namespace Go.Proofs.YtgjdopjolokaiaaGreat
open Go.RowKit

theorem xs_bd {l : List (Int × Int)} {ps : List Int} {c a b : Int} (hR : RP l) (hP : PlR l ps) (a0 : 0 ≤ a) (ab : a ≤ b) (b1 : b ≤ 200000) (k : Nat) (hk : k < ps.length) :
    0 ≤ xsL l c ps a b k ∧ xsL l c ps a b k ≤ xsH l c ps a b k ∧ xsH l c ps a b k ≤ ps.getD k 0 * 40000000000 := by
  induction k with
  | zero => rw [hP.z]; simp [xsL, xsH]
  | succ k ih =>
    obtain ⟨i0, i1, i2⟩ := ih (by omega)
    obtain ⟨⟨w0, w1⟩, s0, s1, s2, s3⟩ := hP.slice hR hk
    have p := of_bd (slL l (ps.getD k 0) (ps.getD (k + 1) 0)) c a b (by omega) ab
    have q := of_bd (slH l (ps.getD k 0) (ps.getD (k + 1) 0)) c a b (by omega) ab
    have r := (of_wider (slL l (ps.getD k 0) (ps.getD (k + 1) 0)) (slH l (ps.getD k 0) (ps.getD (k + 1) 0)) c a b (by omega) s1 ab).2
    have t : (b - a) * (2 * slH l (ps.getD k 0) (ps.getD (k + 1) 0)) ≤ 200000 * 200000 := Int.mul_le_mul (by omega) (by omega) (by omega) (by omega)
    show 0 ≤ xsL l c ps a b k + _ * _ ∧ xsL l c ps a b k + _ * _ ≤ xsH l c ps a b k + _ * _ ∧ xsH l c ps a b k + _ * _ ≤ _
    have m0 := Int.mul_nonneg (show 0 ≤ ps.getD (k + 1) 0 - ps.getD k 0 by omega) p.1
    have m1 := Int.mul_le_mul_of_nonneg_left (show ofL (slL l (ps.getD k 0) (ps.getD (k + 1) 0)) c a b ≤ ofH (slH l (ps.getD k 0) (ps.getD (k + 1) 0)) c a b by omega) (show 0 ≤ ps.getD (k + 1) 0 - ps.getD k 0 by omega)
    have m2 := Int.mul_le_mul_of_nonneg_left (show ofH (slH l (ps.getD k 0) (ps.getD (k + 1) 0)) c a b ≤ 40000000000 by omega) (show 0 ≤ ps.getD (k + 1) 0 - ps.getD k 0 by omega)
    rw [Int.sub_mul (ps.getD (k + 1) 0) (ps.getD k 0) 40000000000] at m2
    omega
theorem two_next {W : World} (w : World) (T : TypeId) {o : Obj} (h : Below ((w.alloc o).alloc (.cells #[.int .i64 0, .int .i64 0] T)).heap.size ((w.alloc o).alloc (.cells #[.int .i64 0, .int .i64 0] T)) W) : Two (w.heap.size + 1) W (.int .i64 0) (.int .i64 0) := by
  have := (Two.new (w.alloc o) (.int .i64 0) (.int .i64 0) T).below h
  rwa [World.size_alloc] at this
theorem bel_al {a W : World} (h : Below a.heap.size a W) (o : Obj) : Below a.heap.size a (W.alloc o) := h.alloc h.size o
theorem bel_st {a W : World} (h : Below a.heap.size a W) {p : Addr} (hp : a.heap.size ≤ p.block) (z : Value) : Below a.heap.size a (W.setCell p z) := h.setCell hp z
theorem two_putN {b : Nat} {W : World} {x y : Value} (h : Two b W x y) (u v : Value) : Two b ((W.setCell ⟨b, 0, none⟩ u).setCell ⟨b, 1, none⟩ v) u v := by
  obtain ⟨h0, h1, h2, h3, h4⟩ := h
  obtain ⟨r0, r1⟩ := two_read W b u v h0 h1
  exact ⟨r0, r1, by rw [World.frozen?_setCell, World.frozen?_setCell]; exact h2, by rw [World.frozen?_setCell, World.frozen?_setCell]; exact h3, by simpa [World.setCell] using h4⟩
theorem quad_far {b : Nat} {W : World} {x y z u : Value} (h : Quad b W x y z u) {p : Addr} (hp : p.block ≠ b) (v : Value) : Quad b (W.setCell p v) x y z u := by
  obtain ⟨h0, h1, h2, h3, h4, h5⟩ := h
  refine ⟨?_, ?_, ?_, ?_, fun k hk => by rw [World.frozen?_setCell]; exact h4 k hk, by simpa [World.setCell] using h5⟩
  · rw [World.cell?_setCell_other _ _ _ _ (by intro e; apply hp; rw [e])]; exact h0
  · rw [World.cell?_setCell_other _ _ _ _ (by intro e; apply hp; rw [e])]; exact h1
  · rw [World.cell?_setCell_other _ _ _ _ (by intro e; apply hp; rw [e])]; exact h2
  · rw [World.cell?_setCell_other _ _ _ _ (by intro e; apply hp; rw [e])]; exact h3
theorem two_oth {b c : Nat} {W : World} {x y : Value} (h : Two b W x y) (hc : c ≠ b) (u v : Value) : Two b ((W.setCell ⟨c, 0, none⟩ u).setCell ⟨c, 1, none⟩ v) x y :=
  (h.other ⟨c, 0, none⟩ hc u).other ⟨c, 1, none⟩ hc v
theorem two_newN {b : Nat} {W : World} (h : b = W.heap.size) (x y : Value) (T : TypeId) : Two b (W.alloc (.cells #[x, y] T)) x y := by
  subst h; exact Two.new W x y T
theorem ne_pack {p q : Nat} (h : p < q) : p ≠ q ∧ q ≠ p ∧ p ≠ q + 1 ∧ q + 1 ≠ p := by omega
theorem field_lowB (a b : Int) (w : World) : (Instr.field 29 (.agg #[.int .i64 a, .int .i64 b]) 0).run Tryz.prog w = .ok (.int .i64 a) w := by kernel_rfl
theorem field_highB (a b : Int) (w : World) : (Instr.field 29 (.agg #[.int .i64 a, .int .i64 b]) 1).run Tryz.prog w = .ok (.int .i64 b) w := by kernel_rfl
/-- what the loop of Of keeps -/
def OfS (w : World) (b1 : Nat) (nm ps dc pr : Value) (xL xH : Int) (W : World) : Prop :=
  Below w.heap.size w W ∧ Quad w.heap.size W nm ps pr dc ∧ Two (w.heap.size + 1) W (.int .i64 0) (.int .i64 0) ∧ Two b1 W (.int .i64 xL) (.int .i64 xH)
theorem OfS.below {w : World} {b1 : Nat} {nm ps dc pr : Value} {xL xH : Int} {W W' : World} (h : OfS w b1 nm ps dc pr xL xH W) (hb : Below W.heap.size W W') : OfS w b1 nm ps dc pr xL xH W' :=
  ⟨bel_trans h.1 hb, h.2.1.below hb, h.2.2.1.below hb, h.2.2.2.below hb⟩
theorem ofs_low {w : World} {b1 : Nat} {nm ps dc pr : Value} {xL xH z : Int} {W : World} (hb : w.heap.size + 1 < b1) (h : OfS w b1 nm ps dc pr xL xH W) : OfS w b1 nm ps dc pr z xH (W.setCell ⟨b1, 0, none⟩ (.int .i64 z)) := by
  obtain ⟨h1, h2, h3, h4⟩ := h
  refine ⟨h1.setCell (p := ⟨b1, 0, none⟩) (by dsimp only; omega) _, quad_far h2 (by dsimp only; omega) _, h3.other ⟨b1, 0, none⟩ (by dsimp only; omega) _, ?_⟩
  obtain ⟨c0, c1, f0, f1, lt⟩ := h4
  exact ⟨World.cell?_setCell_same _ _ _ c0, by rw [World.cell?_setCell_other _ _ _ _ (by simp)]; exact c1, by rw [World.frozen?_setCell]; exact f0, by rw [World.frozen?_setCell]; exact f1, by simpa [World.setCell] using lt⟩
theorem ofs_high {w : World} {b1 : Nat} {nm ps dc pr : Value} {xL xH z : Int} {W : World} (hb : w.heap.size + 1 < b1) (h : OfS w b1 nm ps dc pr xL xH W) : OfS w b1 nm ps dc pr xL z (W.setCell ⟨b1, 1, none⟩ (.int .i64 z)) := by
  obtain ⟨h1, h2, h3, h4⟩ := h
  exact ⟨h1.setCell (p := ⟨b1, 1, none⟩) (by dsimp only; omega) _, quad_far h2 (by dsimp only; omega) _, h3.other ⟨b1, 1, none⟩ (by dsimp only; omega) _, h4.set1 _⟩
set_option maxRecDepth 100000 in
set_option maxHeartbeats 16000000 in
theorem rlyOf_some (nm : ByteArray) (cps dc : Int) (a : Option Addr) (m cap : Nat) (b off n cap2 : Nat) (ps : List Int) (l : List (Int × Int)) (c from' to' : Int) (w : World) (n0 : 2 ≤ n) (n1 : n ≤ 65) (hn : Hid (n = ps.length)) (hb : b < w.heap.size) (hR : Hid (RP l)) (hP : Hid (PlR l ps))
    (f0 : 0 ≤ from') (f1 : from' ≤ to') (f2 : to' ≤ 200000) (hc2 : 0 ≤ c ∧ c ≤ 100000)
    (hc : Hid (∀ j, j < n → w.cell? ⟨b, off + j, none⟩ = some (.int .i64 (ps.getD j 0))))
    (H1 : Hid (∀ W, Below w.heap.size w W → Calls Tryz.prog 35 #[.agg #[.string nm, .int .i64 cps, .slice a m cap, .int .i64 dc]] W fun e w' => e = .returned (.int .i64 c) ∧ Below W.heap.size W w'))
    (H2 : Hid (∀ x W, 0 ≤ x → x ≤ gX l (l.length - 1) → Below w.heap.size w W → Calls Tryz.prog 53 #[.slice a m cap, .int .i64 x] W fun e w' => e = .returned (.agg #[.int .i64 (rdL l x), .int .i64 (rdH l x)]) ∧ Below W.heap.size W w')) :
    Calls Tryz.prog 30 #[.agg #[.string nm, .int .i64 cps, .slice a m cap, .int .i64 dc], .slice (some ⟨b, off, none⟩) n cap2, .int .i64 from', .int .i64 to'] w fun e w' => e = .returned (.agg #[.int .i64 (xsL l c ps from' to' (n - 1)), .int .i64 (xsH l c ps from' to' (n - 1))]) ∧ Below w.heap.size w w' := by
  have F0 := Lib.hid (Quad.new w (.string nm) (.int .i64 cps) (.slice a m cap) (.int .i64 dc) 24)
  have T0 := Lib.hid (Two.new (w.alloc (.cells #[.string nm, .int .i64 cps, .slice a m cap, .int .i64 dc] 24)) (.int .i64 0) (.int .i64 0) 29)
  rw [World.size_alloc] at T0
  go_enter Tryz.func30, Tryz.ntmps30
  go_wp2_with fail
  refine (H1.out _ (bel_alloc (bel_alloc (Below.refl _ _)))).mono ?_
  rintro e w1 ⟨rfl, gg⟩
  have S0 : Hid (OfS w w1.heap.size (.string nm) (.int .i64 cps) (.int .i64 dc) (.slice a m cap) 0 0 (w1.alloc (.cells #[.int .i64 0, .int .i64 0] 29))) := Lib.hid ⟨bel_trans (bel_alloc (bel_alloc gg)) (bel_alloc (Below.refl _ _)), ((F0.out.alloc _).below gg).alloc _, (T0.out.below gg).alloc _, Two.new w1 _ _ _⟩
  have hw1 : w.heap.size + 1 < w1.heap.size := by have := gg.size; simp at this; omega
  clear gg F0 T0
  go_wp2_with fail
  go_loopw [11] (fun ii wr => ∃ (j : Nat), j + 1 ≤ n ∧ ii = .int .i64 ((j : Int) + 1) ∧ Hid (OfS w w1.heap.size (.string nm) (.int .i64 cps) (.int .i64 dc) (.slice a m cap) (xsL l c ps from' to' j) (xsH l c ps from' to' j) wr)) (fun ii _ => n - (intOf ii).toNat)
  case atStart => exact ⟨0, by omega, rfl, S0⟩
  case round =>
    obtain ⟨j, hj, rfl, hS⟩ := hrel
    clear S0
    by_cases hlt : j + 1 < n
    · have bw := hS.out.1
      have d0 : wr.cell? ⟨b, off + j, none⟩ = some (.int .i64 (ps.getD j 0)) := by rw [(bcell bw).1 _ _ hb]; exact hc.out j (by omega)
      have d1 : wr.cell? ⟨b, off + (j + 1), none⟩ = some (.int .i64 (ps.getD (j + 1) 0)) := by rw [(bcell bw).1 _ _ hb]; exact hc.out (j + 1) hlt
      clear bw
      have hjl : j + 1 < ps.length := by rw [← hn.out]; exact hlt
      have sl := hP.out.slice hR.out hjl
      have b0 := hP.out.bd (show j < ps.length by omega)
      have b1 := hP.out.bd hjl
      have bx := hR.out.bx (l.length - 1) (by have := hR.out.n0; omega)
      have K0 : Hid (∀ W, OfS w w1.heap.size (.string nm) (.int .i64 cps) (.int .i64 dc) (.slice a m cap) (xsL l c ps from' to' j) (xsH l c ps from' to' j) W → _) := Lib.hid fun W h => H2.out (ps.getD j 0) W b0.1 b0.2 h.1
      have K1 : Hid (∀ W, OfS w w1.heap.size (.string nm) (.int .i64 cps) (.int .i64 dc) (.slice a m cap) (xsL l c ps from' to' j) (xsH l c ps from' to' j) W → _) := Lib.hid fun W h => H2.out (ps.getD (j + 1) 0) W b1.1 b1.2 h.1
      generalize hx : ps.getD j 0 = x at *
      generalize hy : ps.getD (j + 1) 0 = y at *
      replace hx := Lib.hid hx
      replace hy := Lib.hid hy
      have eL : Hid (slL l x y = min (rdL l x) (rdL l y)) := Lib.hid rfl
      have eH : Hid (slH l x y = max (rdH l x) (rdH l y)) := Lib.hid rfl
      have bxl := xs_bd (c := c) hR.out hP.out f0 f1 f2 j (by rw [← hn.out]; omega)
      have bxm := xs_bd (c := c) hR.out hP.out f0 f1 f2 (j + 1) (by rw [← hn.out]; omega)
      have uL : Hid (xsL l c ps from' to' (j + 1) = xsL l c ps from' to' j + (y - x) * ofL (min (rdL l x) (rdL l y)) c from' to') := Lib.hid (by rw [← eL.out, ← hx.out, ← hy.out]; rfl)
      have uH : Hid (xsH l c ps from' to' (j + 1) = xsH l c ps from' to' j + (y - x) * ofH (max (rdH l x) (rdH l y)) c from' to') := Lib.hid (by rw [← eH.out, ← hx.out, ← hy.out]; rfl)
      rw [eL.out, eH.out] at sl
      clear eL eH b0 b1
      generalize rdL l x = aL at *
      generalize rdH l x = aH at *
      generalize rdL l y = bL at *
      generalize rdH l y = bH at *
      generalize xsL l c ps from' to' j = xL at *
      generalize xsH l c ps from' to' j = xH at *
      have wj : IntKind.i64.wrap ((j : Int) + 1 - 1) = (j : Int) := by rw [wrap_in _ ⟨by omega, by omega⟩]; omega
      have wk : IntKind.i64.wrap (j : Int) = (j : Int) := wrap_in _ ⟨by omega, by omega⟩
      have l0 : (j : Int) < (n : Int) := by omega
      have l1 : (j : Int) + 1 < (n : Int) := by omega
      have l2 : j < n := by omega
      have l3 : 0 ≤ (j : Int) + 1 := by omega
      have l4 : ((j : Int) + 1).toNat = j + 1 := by omega
      have S0 : Hid (OfS w w1.heap.size (.string nm) (.int .i64 cps) (.int .i64 dc) (.slice a m cap) xL xH wr.drew) := Lib.hid (hS.out.below (bel_drew _))
      have S1 : Hid (OfS w w1.heap.size (.string nm) (.int .i64 cps) (.int .i64 dc) (.slice a m cap) xL xH (wr.alloc (.cells #[.int .i64 0, .int .i64 0] 29)).drew) := Lib.hid (hS.out.below (bel_alloc (bel_drew _)))
      have S2 : Hid (OfS w w1.heap.size (.string nm) (.int .i64 cps) (.int .i64 dc) (.slice a m cap) xL xH ((wr.alloc (.cells #[.int .i64 0, .int .i64 0] 29)).alloc (.cells #[.int .i64 0, .int .i64 0] 29)).drew) := Lib.hid (hS.out.below (bel_alloc (bel_alloc (bel_drew _))))
      have N1 : Hid (∀ W, Below (wr.alloc (.cells #[.int .i64 0, .int .i64 0] 29)).drew.heap.size (wr.alloc (.cells #[.int .i64 0, .int .i64 0] 29)).drew W → Two wr.heap.size W (.int .i64 0) (.int .i64 0)) := Lib.hid fun W h => ((Two.new wr (.int .i64 0) (.int .i64 0) 29).below (bel_drew _)).below h
      have N2 : Hid (∀ W, Below ((wr.alloc (.cells #[.int .i64 0, .int .i64 0] 29)).alloc (.cells #[.int .i64 0, .int .i64 0] 29)).drew.heap.size ((wr.alloc (.cells #[.int .i64 0, .int .i64 0] 29)).alloc (.cells #[.int .i64 0, .int .i64 0] 29)).drew W → Two wr.heap.size W (.int .i64 0) (.int .i64 0) ∧ Two (wr.heap.size + 1) W (.int .i64 0) (.int .i64 0)) := Lib.hid fun W h => ⟨(((Two.new wr (.int .i64 0) (.int .i64 0) 29).alloc (.cells #[.int .i64 0, .int .i64 0] 29)).below (bel_drew _)).below h, two_next wr 29 (bel_trans (bel_drew _) h)⟩
      obtain ⟨s0, s1, sf0, sf1, slt⟩ := hS.out.2.2.2
      have y2 := hS.out.2.1.2.2.1
      have hbr : b < wr.heap.size := Nat.lt_of_lt_of_le hb hS.out.1.size
      have ylt := hS.out.2.1.2.2.2.2.2
      obtain ⟨o0, o1, o2, o3⟩ := ne_pack ylt
      obtain ⟨q0, q1, q2, q3⟩ := ne_pack hbr
      go_upto_region 6 with fail
      go_cut [12, 13] from 18 to 80 (fun s t wx => ∃ p q : Nat, s = .pointer (some ⟨p, 0, none⟩) ∧ t = .pointer (some ⟨q, 0, none⟩) ∧ Hid (OfS w w1.heap.size (.string nm) (.int .i64 cps) (.int .i64 dc) (.slice a m cap) xL xH wx) ∧ Hid (Two p wx (.int .i64 aL) (.int .i64 aH)) ∧ Hid (Two q wx (.int .i64 bL) (.int .i64 bH)) ∧ p ≠ w1.heap.size ∧ q ≠ w1.heap.size)
      case first =>
        go_region_held3 (fun w' => w'.cell? ⟨w.heap.size, 2, none⟩ = some (.slice a m cap) ∧ w'.cell? ⟨b, off + j, none⟩ = some (.int .i64 x) ∧ w'.cell? ⟨b, off + (j + 1), none⟩ = some (.int .i64 y)) (go_keep)
          (first
            | (go_at_call 53; (with_reducible refine (K0.out _ S0.out).mono ?_); rintro e w20 ⟨rfl, gg⟩; have A1 := Lib.hid (S0.out.below gg); have BB := Lib.hid (bel_trans (bel_drew wr) gg);  have e0 := cell_bel (w := wr) d0 BB.out; have e1 := cell_bel (w := wr) d1 BB.out; have e2 := A1.out.2.1.2.2.1; have z20 := BB.out.size; obtain ⟨i0, i1, i2, i3⟩ := ne_pack (Nat.lt_of_lt_of_le ylt z20); obtain ⟨k0, k1, k2, k3⟩ := ne_pack (Nat.lt_of_lt_of_le hbr z20); clear gg)
            | (go_at_call 53; (with_reducible refine (K0.out _ S1.out).mono ?_); rintro e w20 ⟨rfl, gg⟩; have A1 := Lib.hid (S1.out.below gg); have BB := Lib.hid (bel_trans (bel_alloc (bel_drew (wr.alloc (.cells #[.int .i64 0, .int .i64 0] 29)))) gg); have P1 := Lib.hid (N1.out _ gg); obtain ⟨t0, t1, t2, t3, _⟩ := P1.out; have e0 := cell_bel (w := wr) d0 BB.out; have e1 := cell_bel (w := wr) d1 BB.out; have e2 := A1.out.2.1.2.2.1; have z20 := BB.out.size; have z23 : wr.heap.size + 1 ≤ w20.heap.size := (by have := gg.size; (try simp at this); omega); obtain ⟨i0, i1, i2, i3⟩ := ne_pack (Nat.lt_of_lt_of_le ylt z20); obtain ⟨k0, k1, k2, k3⟩ := ne_pack (Nat.lt_of_lt_of_le hbr z20); clear gg)
            | (go_at_call 53; (with_reducible refine (K0.out _ S2.out).mono ?_); rintro e w20 ⟨rfl, gg⟩; have A1 := Lib.hid (S2.out.below gg); have BB := Lib.hid (bel_trans (bel_alloc (bel_alloc (bel_drew ((wr.alloc (.cells #[.int .i64 0, .int .i64 0] 29)).alloc (.cells #[.int .i64 0, .int .i64 0] 29))))) gg); have P1 := Lib.hid (N2.out _ gg).1; have P2 := Lib.hid (N2.out _ gg).2; obtain ⟨t0, t1, t2, t3, _⟩ := P1.out; obtain ⟨v0, v1, v2, v3, _⟩ := P2.out; have e0 := cell_bel (w := wr) d0 BB.out; have e1 := cell_bel (w := wr) d1 BB.out; have e2 := A1.out.2.1.2.2.1; have z20 := BB.out.size; have z23 : wr.heap.size + 2 ≤ w20.heap.size := (by have := gg.size; (try simp at this); omega); obtain ⟨i0, i1, i2, i3⟩ := ne_pack (Nat.lt_of_lt_of_le ylt z20); obtain ⟨k0, k1, k2, k3⟩ := ne_pack (Nat.lt_of_lt_of_le hbr z20); clear gg)
            | (go_at_call 53; (with_reducible refine (K1.out _ S0.out).mono ?_); rintro e w20 ⟨rfl, gg⟩; have A1 := Lib.hid (S0.out.below gg); have BB := Lib.hid (bel_trans (bel_drew wr) gg);  have e0 := cell_bel (w := wr) d0 BB.out; have e1 := cell_bel (w := wr) d1 BB.out; have e2 := A1.out.2.1.2.2.1; have z20 := BB.out.size; obtain ⟨i0, i1, i2, i3⟩ := ne_pack (Nat.lt_of_lt_of_le ylt z20); obtain ⟨k0, k1, k2, k3⟩ := ne_pack (Nat.lt_of_lt_of_le hbr z20); clear gg)
            | (go_at_call 53; (with_reducible refine (K1.out _ S1.out).mono ?_); rintro e w20 ⟨rfl, gg⟩; have A1 := Lib.hid (S1.out.below gg); have BB := Lib.hid (bel_trans (bel_alloc (bel_drew (wr.alloc (.cells #[.int .i64 0, .int .i64 0] 29)))) gg); have P1 := Lib.hid (N1.out _ gg); obtain ⟨t0, t1, t2, t3, _⟩ := P1.out; have e0 := cell_bel (w := wr) d0 BB.out; have e1 := cell_bel (w := wr) d1 BB.out; have e2 := A1.out.2.1.2.2.1; have z20 := BB.out.size; have z23 : wr.heap.size + 1 ≤ w20.heap.size := (by have := gg.size; (try simp at this); omega); obtain ⟨i0, i1, i2, i3⟩ := ne_pack (Nat.lt_of_lt_of_le ylt z20); obtain ⟨k0, k1, k2, k3⟩ := ne_pack (Nat.lt_of_lt_of_le hbr z20); clear gg)
            | (go_at_call 53; (with_reducible refine (K1.out _ S2.out).mono ?_); rintro e w20 ⟨rfl, gg⟩; have A1 := Lib.hid (S2.out.below gg); have BB := Lib.hid (bel_trans (bel_alloc (bel_alloc (bel_drew ((wr.alloc (.cells #[.int .i64 0, .int .i64 0] 29)).alloc (.cells #[.int .i64 0, .int .i64 0] 29))))) gg); have P1 := Lib.hid (N2.out _ gg).1; have P2 := Lib.hid (N2.out _ gg).2; obtain ⟨t0, t1, t2, t3, _⟩ := P1.out; obtain ⟨v0, v1, v2, v3, _⟩ := P2.out; have e0 := cell_bel (w := wr) d0 BB.out; have e1 := cell_bel (w := wr) d1 BB.out; have e2 := A1.out.2.1.2.2.1; have z20 := BB.out.size; have z23 : wr.heap.size + 2 ≤ w20.heap.size := (by have := gg.size; (try simp at this); omega); obtain ⟨i0, i1, i2, i3⟩ := ne_pack (Nat.lt_of_lt_of_le ylt z20); obtain ⟨k0, k1, k2, k3⟩ := ne_pack (Nat.lt_of_lt_of_le hbr z20); clear gg)
            | (go_at_call 53; (with_reducible refine (K1.out _ A1.out).mono ?_); rintro e w21 ⟨rfl, gg⟩; have A2 := Lib.hid (A1.out.below gg); have BC := Lib.hid (bel_trans BB.out gg); (try (replace P1 := Lib.hid (P1.out.below gg); clear t0 t1 t2 t3; obtain ⟨t0, t1, t2, t3, _⟩ := P1.out;)); (try (replace P2 := Lib.hid (P2.out.below gg); clear v0 v1 v2 v3; obtain ⟨v0, v1, v2, v3, _⟩ := P2.out;));  have g0 := cell_bel (w := wr) d0 BC.out; have g1 := cell_bel (w := wr) d1 BC.out; have g2 := A2.out.2.1.2.2.1; have z21 := BC.out.size; obtain ⟨i4, i5, i6, i7⟩ := ne_pack (Nat.lt_of_lt_of_le ylt z21); obtain ⟨k4, k5, k6, k7⟩ := ne_pack (Nat.lt_of_lt_of_le hbr z21); have z22 : w20.heap.size + 0 ≤ w21.heap.size := (by have := gg.size; (try simp at this); omega); clear gg)
            | (go_at_call 53; (with_reducible refine (K1.out _ (A1.out.below (bel_alloc (Below.refl _ _)))).mono ?_); rintro e w21 ⟨rfl, gg⟩; have A2 := Lib.hid (A1.out.below (bel_alloc gg)); have BC := Lib.hid (bel_trans BB.out (bel_alloc gg)); (try (replace P1 := Lib.hid (P1.out.below (bel_alloc gg)); clear t0 t1 t2 t3; obtain ⟨t0, t1, t2, t3, _⟩ := P1.out;)); (try (replace P2 := Lib.hid (P2.out.below (bel_alloc gg)); clear v0 v1 v2 v3; obtain ⟨v0, v1, v2, v3, _⟩ := P2.out;)); have P3 := Lib.hid ((Two.new w20 (.int .i64 0) (.int .i64 0) 29).below gg); obtain ⟨r0, r1, r2, r3, _⟩ := P3.out; have g0 := cell_bel (w := wr) d0 BC.out; have g1 := cell_bel (w := wr) d1 BC.out; have g2 := A2.out.2.1.2.2.1; have z21 := BC.out.size; obtain ⟨i4, i5, i6, i7⟩ := ne_pack (Nat.lt_of_lt_of_le ylt z21); obtain ⟨k4, k5, k6, k7⟩ := ne_pack (Nat.lt_of_lt_of_le hbr z21); have z22 : w20.heap.size + 1 ≤ w21.heap.size := (by have := gg.size; (try simp at this); omega); clear gg)
            | (go_at_call 53; (with_reducible refine (K1.out _ (A1.out.below (bel_alloc (bel_alloc (Below.refl _ _))))).mono ?_); rintro e w21 ⟨rfl, gg⟩; have A2 := Lib.hid (A1.out.below (bel_alloc (bel_alloc gg))); have BC := Lib.hid (bel_trans BB.out (bel_alloc (bel_alloc gg))); (try (replace P1 := Lib.hid (P1.out.below (bel_alloc (bel_alloc gg))); clear t0 t1 t2 t3; obtain ⟨t0, t1, t2, t3, _⟩ := P1.out;)); (try (replace P2 := Lib.hid (P2.out.below (bel_alloc (bel_alloc gg))); clear v0 v1 v2 v3; obtain ⟨v0, v1, v2, v3, _⟩ := P2.out;)); have P3 := Lib.hid (((Two.new w20 (.int .i64 0) (.int .i64 0) 29).alloc (.cells #[.int .i64 0, .int .i64 0] 29)).below gg); have P4 := Lib.hid (two_next w20 29 gg); obtain ⟨r0, r1, r2, r3, _⟩ := P3.out; obtain ⟨q0, q1, q2, q3, _⟩ := P4.out; have g0 := cell_bel (w := wr) d0 BC.out; have g1 := cell_bel (w := wr) d1 BC.out; have g2 := A2.out.2.1.2.2.1; have z21 := BC.out.size; obtain ⟨i4, i5, i6, i7⟩ := ne_pack (Nat.lt_of_lt_of_le ylt z21); obtain ⟨k4, k5, k6, k7⟩ := ne_pack (Nat.lt_of_lt_of_le hbr z21); have z22 : w20.heap.size + 2 ≤ w21.heap.size := (by have := gg.size; (try simp at this); omega); clear gg)
            | (go_at_call 53; (with_reducible refine (K0.out _ A1.out).mono ?_); rintro e w21 ⟨rfl, gg⟩; have A2 := Lib.hid (A1.out.below gg); have BC := Lib.hid (bel_trans BB.out gg); (try (replace P1 := Lib.hid (P1.out.below gg); clear t0 t1 t2 t3; obtain ⟨t0, t1, t2, t3, _⟩ := P1.out;)); (try (replace P2 := Lib.hid (P2.out.below gg); clear v0 v1 v2 v3; obtain ⟨v0, v1, v2, v3, _⟩ := P2.out;));  have g0 := cell_bel (w := wr) d0 BC.out; have g1 := cell_bel (w := wr) d1 BC.out; have g2 := A2.out.2.1.2.2.1; have z21 := BC.out.size; obtain ⟨i4, i5, i6, i7⟩ := ne_pack (Nat.lt_of_lt_of_le ylt z21); obtain ⟨k4, k5, k6, k7⟩ := ne_pack (Nat.lt_of_lt_of_le hbr z21); have z22 : w20.heap.size + 0 ≤ w21.heap.size := (by have := gg.size; (try simp at this); omega); clear gg)
            | (go_at_call 53; (with_reducible refine (K0.out _ (A1.out.below (bel_alloc (Below.refl _ _)))).mono ?_); rintro e w21 ⟨rfl, gg⟩; have A2 := Lib.hid (A1.out.below (bel_alloc gg)); have BC := Lib.hid (bel_trans BB.out (bel_alloc gg)); (try (replace P1 := Lib.hid (P1.out.below (bel_alloc gg)); clear t0 t1 t2 t3; obtain ⟨t0, t1, t2, t3, _⟩ := P1.out;)); (try (replace P2 := Lib.hid (P2.out.below (bel_alloc gg)); clear v0 v1 v2 v3; obtain ⟨v0, v1, v2, v3, _⟩ := P2.out;)); have P3 := Lib.hid ((Two.new w20 (.int .i64 0) (.int .i64 0) 29).below gg); obtain ⟨r0, r1, r2, r3, _⟩ := P3.out; have g0 := cell_bel (w := wr) d0 BC.out; have g1 := cell_bel (w := wr) d1 BC.out; have g2 := A2.out.2.1.2.2.1; have z21 := BC.out.size; obtain ⟨i4, i5, i6, i7⟩ := ne_pack (Nat.lt_of_lt_of_le ylt z21); obtain ⟨k4, k5, k6, k7⟩ := ne_pack (Nat.lt_of_lt_of_le hbr z21); have z22 : w20.heap.size + 1 ≤ w21.heap.size := (by have := gg.size; (try simp at this); omega); clear gg)
            | (go_at_call 53; (with_reducible refine (K0.out _ (A1.out.below (bel_alloc (bel_alloc (Below.refl _ _))))).mono ?_); rintro e w21 ⟨rfl, gg⟩; have A2 := Lib.hid (A1.out.below (bel_alloc (bel_alloc gg))); have BC := Lib.hid (bel_trans BB.out (bel_alloc (bel_alloc gg))); (try (replace P1 := Lib.hid (P1.out.below (bel_alloc (bel_alloc gg))); clear t0 t1 t2 t3; obtain ⟨t0, t1, t2, t3, _⟩ := P1.out;)); (try (replace P2 := Lib.hid (P2.out.below (bel_alloc (bel_alloc gg))); clear v0 v1 v2 v3; obtain ⟨v0, v1, v2, v3, _⟩ := P2.out;)); have P3 := Lib.hid (((Two.new w20 (.int .i64 0) (.int .i64 0) 29).alloc (.cells #[.int .i64 0, .int .i64 0] 29)).below gg); have P4 := Lib.hid (two_next w20 29 gg); obtain ⟨r0, r1, r2, r3, _⟩ := P3.out; obtain ⟨q0, q1, q2, q3, _⟩ := P4.out; have g0 := cell_bel (w := wr) d0 BC.out; have g1 := cell_bel (w := wr) d1 BC.out; have g2 := A2.out.2.1.2.2.1; have z21 := BC.out.size; obtain ⟨i4, i5, i6, i7⟩ := ne_pack (Nat.lt_of_lt_of_le ylt z21); obtain ⟨k4, k5, k6, k7⟩ := ne_pack (Nat.lt_of_lt_of_le hbr z21); have z22 : w20.heap.size + 2 ≤ w21.heap.size := (by have := gg.size; (try simp at this); omega); clear gg))
        all_goals go_wp2_with fail
        all_goals go_meet
        all_goals refine ⟨_, _, rfl, rfl, Lib.hid (hS.out.below (by (repeat (first | with_reducible refine bel_st ?_ (by dsimp only; omega) _ | with_reducible refine bel_al ?_ _)); exact BC.out)), Lib.hid ?_, Lib.hid ?_, by omega, by omega⟩
        all_goals ((repeat (first | with_reducible refine two_oth ?_ (by omega) _ _ | (with_reducible refine two_newN ?_ _ _ _; (simp [World.setCell]; done)) | with_reducible refine Two.alloc ?_ _)); (try first | with_reducible exact two_putN P1.out _ _ | with_reducible exact two_putN (two_oth P1.out (by omega) _ _) _ _ | with_reducible exact two_putN P2.out _ _ | with_reducible exact two_putN (two_oth P2.out (by omega) _ _) _ _ | with_reducible exact two_putN P3.out _ _ | with_reducible exact two_putN (two_oth P3.out (by omega) _ _) _ _ | with_reducible exact two_putN P4.out _ _ | with_reducible exact two_putN (two_oth P4.out (by omega) _ _) _ _))
      case rest =>
        obtain ⟨p, q, rfl, rfl, hS1, hA, hB, hp, hq⟩ := hcut
        clear K0 K1 S0 S1 S2 N1 N2 hS d0 d1 s0 s1 sf0 sf1 slt y2 hbr ylt o0 o1 o2 o3 q0 q1 q2 q3
        have d0 : wc.cell? ⟨b, off + j, none⟩ = some (.int .i64 x) := by rw [(bcell hS1.out.1).1 _ _ hb, hc.out j (by omega), hx.out]
        have d1 : wc.cell? ⟨b, off + (j + 1), none⟩ = some (.int .i64 y) := by rw [(bcell hS1.out.1).1 _ _ hb, hc.out (j + 1) hlt, hy.out]
        have HL := Lib.hid (fun W => refOf_any (min aL bL) c from' to' W (by omega) (by omega) hc2.1 hc2.2 f0 f1 f2)
        have HH := Lib.hid (fun W => refOf_any (max aH bH) c from' to' W (by omega) (by omega) hc2.1 hc2.2 f0 f1 f2)
        have oL1 := of_bd (min aL bL) c from' to' (by omega) f1
        have oH1 := of_bd (max aH bH) c from' to' (by omega) f1
        have m0 := Int.mul_nonneg (show 0 ≤ y - x by omega) oL1.1
        have oHn : 0 ≤ ofH (max aH bH) c from' to' := by omega
        have m1 := Int.mul_nonneg (show 0 ≤ y - x by omega) oHn
        have py : ps.getD (j + 1) 0 * 40000000000 ≤ 100000 * 40000000000 := by have := (hP.out.bd hjl).2; omega
        rw [uL.out, uH.out] at bxm
        clear oL1 oH1 oHn
        generalize ofL (min aL bL) c from' to' = oL at *
        generalize ofH (max aH bH) c from' to' = oH at *
        generalize ofL (max aH bH) c from' to' = oz at *
        generalize ofH (min aL bL) c from' to' = oy at *
        generalize hr1 : min aL bL = r1 at *
        generalize hr2 : max aH bH = r2 at *
        have wd : IntKind.i64.wrap (y - x) = y - x := wrap_in _ ⟨by omega, by omega⟩
        have wm : IntKind.i64.wrap ((y - x) * oL) = (y - x) * oL := wrap_in _ ⟨by omega, by omega⟩
        have wn : IntKind.i64.wrap ((y - x) * oH) = (y - x) * oH := wrap_in _ ⟨by omega, by omega⟩
        have wa : IntKind.i64.wrap (xL + (y - x) * oL) = xL + (y - x) * oL := wrap_in _ ⟨by omega, by omega⟩
        have wb : IntKind.i64.wrap (xH + (y - x) * oH) = xH + (y - x) * oH := wrap_in _ ⟨by omega, by omega⟩
        have hp2 : w1.heap.size ≠ p := fun e => hp e.symm
        have hq2 : w1.heap.size ≠ q := fun e => hq e.symm
        clear bxl bxm sl bx py m0 m1
        have fl0 := field_lowB oL oy
        have fh0 := field_highB oz oH
        go_wp2_with fail
        go_quiet (fail)
        replace hS1 : Hid (OfS w w1.heap.size (.string nm) (.int .i64 cps) (.int .i64 dc) (.slice a m cap) xL xH (wc.drewN nq)) := Lib.hid (hS1.out.below (bel_drewN _ _))
        replace hA : Hid (Two p (wc.drewN nq) (.int .i64 aL) (.int .i64 aH)) := Lib.hid (hA.out.below (bel_drewN _ _))
        replace hB : Hid (Two q (wc.drewN nq) (.int .i64 bL) (.int .i64 bH)) := Lib.hid (hB.out.below (bel_drewN _ _))
        clear d0 d1
        generalize wc.drewN nq = wq at *
        have hS2 : Hid (OfS w w1.heap.size (.string nm) (.int .i64 cps) (.int .i64 dc) (.slice a m cap) xL xH wq.drew) := Lib.hid (hS1.out.below (bel_drew _))
        have hA2 : Hid (Two p wq.drew (.int .i64 aL) (.int .i64 aH)) := Lib.hid (hA.out.below (bel_drew _))
        have hB2 : Hid (Two q wq.drew (.int .i64 bL) (.int .i64 bH)) := Lib.hid (hB.out.below (bel_drew _))
        clear hS1 hA hB
        obtain ⟨x0, x1, xf0, xf1, _⟩ := hS2.out.2.2.2
        obtain ⟨a0, a1, _, _, _⟩ := hA2.out
        obtain ⟨b0, b1, _, _, _⟩ := hB2.out
        go_upto_region 8 with fail
        go_cut [14] from 18 to 80 (fun s wx => s = .int .i64 (y - x) ∧ Hid (OfS w w1.heap.size (.string nm) (.int .i64 cps) (.int .i64 dc) (.slice a m cap) (xL + (y - x) * oL) xH wx) ∧ Hid (Two p wx (.int .i64 aL) (.int .i64 aH)) ∧ Hid (Two q wx (.int .i64 bL) (.int .i64 bH)))
        case first =>
          go_region_law (first | (go_simp; go_at_call 54; refine (HL.out _).mono ?_; rintro e w30 ⟨rfl, gg⟩; have S3 := Lib.hid (hS2.out.below gg); have A3 := Lib.hid (hA2.out.below gg); have B3 := Lib.hid (hB2.out.below gg); obtain ⟨c0, c1, cf0, cf1, _⟩ := S3.out.2.2.2; have fl := fl0 w30; clear gg))
          all_goals go_wp2_with fail
          all_goals go_meet
          all_goals exact ⟨rfl, Lib.hid (ofs_low hw1 S3.out), Lib.hid (A3.out.other ⟨w1.heap.size, 0, none⟩ hp2 _), Lib.hid (B3.out.other ⟨w1.heap.size, 0, none⟩ hq2 _)⟩
        case rest =>
        clear hS2 hA2 hB2 x0 x1 xf0 xf1 a0 a1 b0 b1
        obtain ⟨rfl, hS1, hA, hB⟩ := hcut
        generalize (y - x) * oL = ml at *
        have hS2 : Hid (OfS w w1.heap.size (.string nm) (.int .i64 cps) (.int .i64 dc) (.slice a m cap) (xL + ml) xH wc.drew) := Lib.hid (hS1.out.below (bel_drew _))
        have hA2 : Hid (Two p wc.drew (.int .i64 aL) (.int .i64 aH)) := Lib.hid (hA.out.below (bel_drew _))
        have hB2 : Hid (Two q wc.drew (.int .i64 bL) (.int .i64 bH)) := Lib.hid (hB.out.below (bel_drew _))
        clear hS1 hA hB
        obtain ⟨x0, x1, xf0, xf1, _⟩ := hS2.out.2.2.2
        obtain ⟨a0, a1, _, _, _⟩ := hA2.out
        obtain ⟨b0, b1, _, _, _⟩ := hB2.out
        go_wp2_with fail
        go_region_law (first | (go_simp; go_at_call 54; refine (HH.out _).mono ?_; rintro e w30 ⟨rfl, gg⟩; have S3 := Lib.hid (hS2.out.below gg); obtain ⟨c0, c1, cf0, cf1, _⟩ := S3.out.2.2.2; have fl := fh0 w30; have hS9 := Lib.hid (ofs_high (z := xH + (y - x) * oH) hw1 S3.out); clear gg))
        all_goals
          go_wp2
          go_roundw
          case rel => exact ⟨j + 1, by omega, by go_num, Lib.hid (by rw [uL.out, uH.out]; exact hS9.out)⟩
          case measure => simp [intOf]; omega
    · obtain rfl : n = j + 1 := by omega
      obtain ⟨_, _, ⟨r0, r1, rf0, rf1, rlt⟩, s0, s1, sf0, sf1, slt⟩ := hS.out
      go_wp2
      obtain ⟨t0, t1⟩ := two_read wr (w.heap.size + 1) (.int .i64 (xsL l c ps from' to' j)) (.int .i64 (xsH l c ps from' to' j)) r0 r1
      refine bodyPost_ret (v := .agg #[.int .i64 (xsL l c ps from' to' j), .int .i64 (xsH l c ps from' to' j)]) (by simp [results, Tryz.results30, go_sem, t0, t1]) rfl ?_
      exact ⟨rfl, (hS.out.1.setCell (Nat.le_succ _) _).setCell (Nat.le_succ _) _⟩
theorem rlyOf_any (v u : Value) (c : Ck) (ps : List Int) (x y : Int) (w : World) (hv : CkV w v c) (hu : Nums w u ps) (hE : ccE c = 0) (hP : PlR c.pf ps) (n1 : ps.length ≤ 65) (x0 : 0 ≤ x) (xy : x ≤ y) (y1 : y ≤ 200000) :
    Calls Tryz.prog 30 #[v, u, .int .i64 x, .int .i64 y] w fun e w' => e = .returned (.agg #[.int .i64 (xsL c.pf (bgR c.pf) ps x y (ps.length - 1)), .int .i64 (xsH c.pf (bgR c.pf) ps x y (ps.length - 1))]) ∧ Below w.heap.size w w' := by
  obtain ⟨_, _, _, hR⟩ := ccE_pf hE
  have n0 := hP.n0
  have hl : bg c.pf c.pf.length < c.pf.length := by have := bg_lt c.pf c.pf.length; have := hR.n0; omega
  have br := hR.br _ hl
  have H1 : Hid (∀ W, Below w.heap.size w W → _) := Lib.hid fun W hW => refRad_any v c W (hv.below hW) hE
  have hv' := hv
  obtain ⟨a, cap, rfl, hp, _⟩ := hv'
  obtain ⟨a2, cap2, rfl, _, hh⟩ := hu
  rcases hh with h0 | ⟨b, off, rfl, hb, hc⟩
  · omega
  · exact rlyOf_some c.nm c.ps c.dc a _ cap b off _ cap2 ps c.pf (bgR c.pf) x y w n0 n1 (Lib.hid rfl) hb (Lib.hid hR) (Lib.hid hP) x0 xy y1 ⟨by show 0 ≤ gR _ _; omega, br.2⟩ (Lib.hid hc) H1 (Lib.hid fun z W z0 z1 hW => radius_of (hp.below hW) hR z z0 z1)
end Go.Proofs.YtgjdopjolokaiaaGreat

/- The reference of layer 11: between heights. -/
namespace Go.Proofs.YtgjdopjolokaiaaGreat
open Go.RowKit

theorem meetsC_behind {w wr w2 : World} {b1 : Nat} {nm ps dc pr : Value} {xL xH : Int} {oL oH : Value} {T : TypeId} (hS : OfS w b1 nm ps dc pr xL xH wr) (X : Below wr.drew.heap.size wr.drew w2) :
    ∃ p, (Value.pointer (some ⟨w2.heap.size, 0, none⟩)) = .pointer (some ⟨p, 0, none⟩) ∧ p ≠ b1 ∧ Hid (OfS w b1 nm ps dc pr xL xH (w2.alloc (.cells #[oL, oH] T))) ∧ Hid (Two p (w2.alloc (.cells #[oL, oH] T)) oL oH) := by
  have h2 := hS.below (bel_trans (bel_drew wr) X)
  exact ⟨_, rfl, Nat.ne_of_gt h2.2.2.2.2.2.2.2, Lib.hid (h2.below (bel_alloc (Below.refl _ _))), Lib.hid (Two.new _ _ _ _)⟩
theorem meetsC_ahead {w wr w2 : World} {b1 : Nat} {nm ps dc pr : Value} {xL xH : Int} {oL oH a c : Value} {T : TypeId} (hS : OfS w b1 nm ps dc pr xL xH wr) (X : Below (wr.alloc (.cells #[a, c] T)).drew.heap.size (wr.alloc (.cells #[a, c] T)).drew w2) :
    ∃ p, (Value.pointer (some ⟨wr.heap.size, 0, none⟩)) = .pointer (some ⟨p, 0, none⟩) ∧ p ≠ b1 ∧ Hid (OfS w b1 nm ps dc pr xL xH ((w2.setCell ⟨wr.heap.size, 0, none⟩ oL).setCell ⟨wr.heap.size, 1, none⟩ oH)) ∧ Hid (Two p ((w2.setCell ⟨wr.heap.size, 0, none⟩ oL).setCell ⟨wr.heap.size, 1, none⟩ oH) oL oH) := by
  have hN := (Two.new wr a c T).below (bel_trans (bel_drew _) X)
  have B : Below wr.heap.size wr w2 := bel_alloc (bel_trans (bel_drew _) X)
  have lt := hS.2.2.2.2.2.2.2
  exact ⟨_, rfl, Nat.ne_of_gt lt, Lib.hid (hS.below (bel_st (bel_st B (Nat.le_refl _) _) (Nat.le_refl _) _)), Lib.hid (two_putN hN _ _)⟩
set_option maxRecDepth 100000 in
set_option maxHeartbeats 16000000 in
theorem rlyBt_some (nm : ByteArray) (cps dc : Int) (a : Option Addr) (m cap : Nat) (u : Value) (b off n cap2 : Nat) (ps hs : List Int) (l : List (Int × Int)) (c : Int) (K : Nat) (w : World) (n0 : 2 ≤ n) (n1 : n ≤ 65) (hn : Hid (n = hs.length)) (hb : b < w.heap.size) (hR : Hid (RP l)) (hP : Hid (PlR l ps)) (hH : Hid (HR hs)) (hK : Hid (K < ps.length))
    (hc : Hid (∀ j, j < n → w.cell? ⟨b, off + j, none⟩ = some (.int .i64 (hs.getD j 0))))
    (H1 : Hid (∀ x y W, 0 ≤ x → x ≤ y → y ≤ 200000 → Below w.heap.size w W → Calls Tryz.prog 30 #[.agg #[.string nm, .int .i64 cps, .slice a m cap, .int .i64 dc], u, .int .i64 x, .int .i64 y] W fun e w' => e = .returned (.agg #[.int .i64 (xsL l c ps x y K), .int .i64 (xsH l c ps x y K)]) ∧ Below W.heap.size W w')) :
    Calls Tryz.prog 29 #[.agg #[.string nm, .int .i64 cps, .slice a m cap, .int .i64 dc], u, .slice (some ⟨b, off, none⟩) n cap2] w fun e w' => e = .returned (.agg #[.int .i64 (tbL l c ps hs (n - 1) K), .int .i64 (tbH l c ps hs (n - 1) K)]) ∧ Below w.heap.size w w' := by
  have F0 := (Quad.new w (.string nm) (.int .i64 cps) (.slice a m cap) (.int .i64 dc) 24)
  have T0 := (Two.new (w.alloc (.cells #[.string nm, .int .i64 cps, .slice a m cap, .int .i64 dc] 24)) (.int .i64 0) (.int .i64 0) 29)
  have T1 := (Two.new ((w.alloc (.cells #[.string nm, .int .i64 cps, .slice a m cap, .int .i64 dc] 24)).alloc (.cells #[.int .i64 0, .int .i64 0] 29)) (.int .i64 0) (.int .i64 0) 29)
  rw [World.size_alloc] at T0
  rw [World.size_alloc, World.size_alloc] at T1
  have S0 : Hid (OfS w (w.heap.size + 1 + 1) (.string nm) (.int .i64 cps) (.int .i64 dc) (.slice a m cap) (tbL l c ps hs 0 K) (tbH l c ps hs 0 K) (((w.alloc (.cells #[.string nm, .int .i64 cps, .slice a m cap, .int .i64 dc] 24)).alloc (.cells #[.int .i64 0, .int .i64 0] 29)).alloc (.cells #[.int .i64 0, .int .i64 0] 29))) := Lib.hid ⟨bel_alloc (bel_alloc (bel_alloc (Below.refl _ _))), (F0.alloc _).alloc _, T0.alloc _, by rw [(tb_zero l c ps hs K).1, (tb_zero l c ps hs K).2]; exact T1⟩
  clear F0 T0 T1
  have hw1 : w.heap.size + 1 < w.heap.size + 1 + 1 := by omega
  go_enter Tryz.func29, Tryz.ntmps29
  go_wp2_with fail
  go_loopw [8] (fun ii wr => ∃ (j : Nat), j + 1 ≤ n ∧ ii = .int .i64 ((j : Int) + 1) ∧ Hid (OfS w (w.heap.size + 1 + 1) (.string nm) (.int .i64 cps) (.int .i64 dc) (.slice a m cap) (tbL l c ps hs j K) (tbH l c ps hs j K) wr)) (fun ii _ => n - (intOf ii).toNat)
  case atStart => exact ⟨0, by omega, rfl, S0⟩
  case round =>
    obtain ⟨j, hj, rfl, hS⟩ := hrel
    clear S0
    by_cases hlt : j + 1 < n
    · have bw := hS.out.1
      have hbr : b < wr.heap.size := Nat.lt_of_lt_of_le hb bw.size
      have d0 : wr.cell? ⟨b, off + j, none⟩ = some (.int .i64 (hs.getD j 0)) := by rw [(bcell bw).1 _ _ hb]; exact hc.out j (by omega)
      have d1 : wr.cell? ⟨b, off + (j + 1), none⟩ = some (.int .i64 (hs.getD (j + 1) 0)) := by rw [(bcell bw).1 _ _ hb]; exact hc.out (j + 1) hlt
      have e0 : ∀ o, (wr.alloc o).cell? ⟨b, off + j, none⟩ = some (.int .i64 (hs.getD j 0)) := fun o => by rw [World.cell?_alloc_lt wr o _ hbr]; exact d0
      have e1 : ∀ o, (wr.alloc o).cell? ⟨b, off + (j + 1), none⟩ = some (.int .i64 (hs.getD (j + 1) 0)) := fun o => by rw [World.cell?_alloc_lt wr o _ hbr]; exact d1
      obtain ⟨y0, y1, y2, y3, _, ylt⟩ := hS.out.2.1
      have f0 : ∀ o i, (wr.alloc o).cell? ⟨w.heap.size, i, none⟩ = wr.cell? ⟨w.heap.size, i, none⟩ := fun o i => World.cell?_alloc_lt wr o _ ylt
      have hH2 := hH.out
      have lb0 := hH2.bd j (by rw [← hn.out]; omega)
      have lb1 := hH2.bd (j + 1) (by rw [← hn.out]; omega)
      have las := hH2.asc j (by rw [← hn.out]; exact hlt)
      have HO : Hid (∀ W, Below w.heap.size w W → _) := Lib.hid fun W hW => H1.out (hs.getD j 0) (hs.getD (j + 1) 0) W lb0.1 las lb1.2 hW
      have B2 := tb_bd (c := c) hR.out hP.out hH2 (j + 1) (by rw [← hn.out]; omega) K hK.out
      have B1 := tb_bd (c := c) hR.out hP.out hH2 j (by rw [← hn.out]; omega) K hK.out
      have X1 := xs_bd (c := c) hR.out hP.out lb0.1 las lb1.2 K hK.out
      have bK := hP.out.bd hK.out
      have bx := hR.out.bx (l.length - 1) (by have := hR.out.n0; omega)
      have st := Lib.hid (tb_strip l c ps hs j K)
      have q4 : ps.getD K 0 * 40000000000 ≤ 100000 * 40000000000 := by omega
      rw [st.out.1, st.out.2] at B2
      clear hH2 lb0 lb1 las bw
      generalize xsL l c ps (hs.getD j 0) (hs.getD (j + 1) 0) K = oL at *
      generalize xsH l c ps (hs.getD j 0) (hs.getD (j + 1) 0) K = oH at *
      generalize hs.getD j 0 = x at *
      generalize hs.getD (j + 1) 0 = y at *
      generalize tbL l c ps hs j K = pL at *
      generalize tbH l c ps hs j K = pH at *
      have wl : IntKind.i64.wrap (pL + oL) = pL + oL := wrap_in _ ⟨by omega, by omega⟩
      have wh : IntKind.i64.wrap (pH + oH) = pH + oH := wrap_in _ ⟨by omega, by omega⟩
      have wj : IntKind.i64.wrap ((j : Int) + 1 - 1) = (j : Int) := by rw [wrap_in _ ⟨by omega, by omega⟩]; omega
      have wk : IntKind.i64.wrap (j : Int) = (j : Int) := wrap_in _ ⟨by omega, by omega⟩
      have l0 : (j : Int) < (n : Int) := by omega
      have l1 : (j : Int) + 1 < (n : Int) := by omega
      have l2 : j < n := by omega
      have l3 : 0 ≤ (j : Int) + 1 := by omega
      have l4 : ((j : Int) + 1).toNat = j + 1 := by omega
      clear B1 B2 X1 bK bx q4
      go_upto_region 5 with fail
      go_cut [9] from 11 to 40 (fun s wz => ∃ wx, wx = wz ∧ ∃ p, s = .pointer (some ⟨p, 0, none⟩) ∧ p ≠ w.heap.size + 1 + 1 ∧ Hid (OfS w (w.heap.size + 1 + 1) (.string nm) (.int .i64 cps) (.int .i64 dc) (.slice a m cap) pL pH wx) ∧ Hid (Two p wx (.int .i64 oL) (.int .i64 oH)))
      case first =>
        go_region_with (go_at_call 30; refine (HO.out _ (by first | exact (hS.out.below (bel_drew _)).1 | exact (hS.out.below (bel_alloc (bel_drew _))).1)).mono ?_; rintro e w2 ⟨rfl, gg⟩; have hq := fun h : Two wr.heap.size _ (.int .i64 0) (.int .i64 0) => h.below gg; simp [Two, go_sem] at hq; have X2 := Lib.hid gg; clear gg)
        all_goals go_wp2_with fail
        all_goals go_meet
        all_goals first | exact ⟨_, rfl, meetsC_behind hS.out X2.out⟩ | exact ⟨_, rfl, meetsC_ahead hS.out X2.out⟩
      case rest =>
        obtain ⟨wx, hwx, p, rfl, hp, hS1, hA⟩ := hcut
        subst hwx
        clear HO e0 e1 d0 d1 hS y0 y1 y2 y3 ylt f0 hbr
        obtain ⟨o0, o1, _, _, _⟩ := hA.out
        obtain ⟨s0, s1, sf0, sf1, slt⟩ := hS1.out.2.2.2
        have hp2 : w.heap.size + 1 + 1 ≠ p := fun e => hp e.symm
        have HF : Hid (OfS w (w.heap.size + 1 + 1) (.string nm) (.int .i64 cps) (.int .i64 dc) (.slice a m cap) (pL + oL) (pH + oH) (((wx.drew).setCell ⟨w.heap.size + 1 + 1, 0, none⟩ (.int .i64 (pL + oL))).setCell ⟨w.heap.size + 1 + 1, 1, none⟩ (.int .i64 (pH + oH)))) := Lib.hid (ofs_high hw1 (ofs_low hw1 (hS1.out.below (bel_drew _))))
        go_wp2_with fail
        go_region
        all_goals go_wp2
        all_goals go_roundw
        all_goals first | exact ⟨j + 1, by omega, by go_num, Lib.hid (by rw [st.out.1, st.out.2]; exact HF.out)⟩ | (simp [intOf]; omega)
    · obtain rfl : n = j + 1 := by omega
      obtain ⟨_, _, ⟨r0, r1, rf0, rf1, rlt⟩, s0, s1, sf0, sf1, slt⟩ := hS.out
      go_wp2
      obtain ⟨t0, t1⟩ := two_read wr (w.heap.size + 1) (.int .i64 (tbL l c ps hs j K)) (.int .i64 (tbH l c ps hs j K)) r0 r1
      refine bodyPost_ret (v := .agg #[.int .i64 (tbL l c ps hs j K), .int .i64 (tbH l c ps hs j K)]) (by simp [results, Tryz.results29, go_sem, t0, t1]) rfl ?_
      exact ⟨rfl, (hS.out.1.setCell (Nat.le_succ _) _).setCell (Nat.le_succ _) _⟩
end Go.Proofs.YtgjdopjolokaiaaGreat

/- The reference of layer 11: Check, ready, Between as a whole. -/
namespace Go.Proofs.YtgjdopjolokaiaaGreat
open Go.RowKit

theorem liSE_zero {c : Ck} : liSE c = 0 ↔ ccE c = 0 ∧ c.ps = 1 := by
  unfold liSE
  constructor
  · intro h
    split at h
    · split at h
      · exact ⟨by assumption, by assumption⟩
      · omega
    · omega
  · rintro ⟨h1, h2⟩
    rw [if_pos h1, if_pos h2]
theorem lcE_zero {c : Ck} {ps : List Int} : lcE c ps = 0 ↔ (ccE c = 0 ∧ c.ps = 1) ∧ PlR c.pf ps ∧ ps.length ≤ 65 := by
  unfold lcE
  constructor
  · intro h
    split at h
    · rename_i h1
      exact ⟨liSE_zero.1 h1, plcE_iff.1 h⟩
    · contradiction
  · rintro ⟨h1, h2⟩
    rw [if_pos (liSE_zero.2 h1)]
    exact plcE_iff.2 h2
theorem rlyChk_any (v u : Value) (c : Ck) (ps : List Int) (w : World) (hv : CkV w v c) (hu : Nums w u ps) :
    Calls Tryz.prog 51 #[v, u] w fun e w' => e = .returned (.int .i64 (lcE c ps)) ∧ Below w.heap.size w w' := by
  have H1 : Hid (∀ W, Below w.heap.size w W → _) := Lib.hid fun W hW => rlyIs_any v c W (hv.below hW)
  have hv' := hv
  obtain ⟨a, cap, rfl, hp, _⟩ := hv'
  unfold lcE
  by_cases h : liSE c = 0
  · rw [if_pos h]
    rw [h] at H1
    obtain ⟨h1, h2⟩ := liSE_zero.1 h
    obtain ⟨_, _, _, hR⟩ := ccE_pf h1
    have hu' := hu
    obtain ⟨a2, cap2, rfl, hcap, hh⟩ := hu'
    unfold plcE
    by_cases g1 : ps.length < 2
    · rw [if_pos g1]
      exact rlyChk_few _ _ _ a _ cap a2 _ cap2 w g1 H1
    · rw [if_neg g1]
      by_cases g2 : 65 < ps.length
      · rw [if_pos g2]
        exact rlyChk_many _ _ _ a _ cap a2 _ cap2 w g2 (by omega) H1
      · rw [if_neg g2]
        rcases hh with h0 | ⟨b, off, rfl, hb, hc⟩
        · omega
        · have m0 := hR.n0
          have m1 := hR.n1
          obtain ⟨bp, op, rfl, hbp, hpc⟩ := hp.at (by omega)
          refine rlyChk_some _ _ _ bp op _ cap b off _ cap2 ps c.pf _ w (by omega) (by omega) (Lib.hid rfl) (by omega) m1 hb hbp (Lib.hid hc) (Lib.hid fun j hj => (hpc j hj).1) (Lib.hid fun W hW => hu.below hW) (Lib.hid ?_) (Lib.hid ?_) (Lib.hid ?_) (Lib.hid ?_) H1
          · rintro ⟨i, hi, hx⟩
            rw [if_pos]
            rw [Bool.eq_false_iff]
            intro ha
            have := (plc_asc ps).1 ha i hi
            omega
          · intro ha hx
            rw [if_neg (by rw [(plc_asc ps).2 ha]; simp), if_pos hx]
          · rintro ha hz hx ⟨j, hj, hq⟩
            rw [if_neg (by rw [(plc_asc ps).2 ha]; simp), if_neg (by rintro (e | e); exact e hz; exact e hx), if_pos]
            rw [Bool.eq_false_iff]
            intro hall
            rw [List.all_eq_true] at hall
            rw [hall j (List.mem_range.2 hj)] at hq
            cases hq
          · intro ha hz hx hall
            rw [if_neg (by rw [(plc_asc ps).2 ha]; simp), if_neg (by rintro (e | e); exact e hz; exact e hx), if_neg]
            rw [Bool.not_eq_false, List.all_eq_true]
            intro j hj
            exact hall j (List.mem_range.1 hj)
  · rw [if_neg h]
    exact rlyChk_bad _ _ _ _ a _ cap u w (by simpa using h) (by simpa using h) H1
/-- what Between and Strips report -/
def lrE (c : Ck) (ps hs : List Int) : Int := if lcE c ps = 0 then hcE hs else lcE c ps
theorem lrE_zero {c : Ck} {ps hs : List Int} : lrE c ps hs = 0 ↔ ((ccE c = 0 ∧ c.ps = 1) ∧ PlR c.pf ps ∧ ps.length ≤ 65) ∧ HR hs := by
  unfold lrE
  constructor
  · intro h
    split at h
    · rename_i h1
      exact ⟨lcE_zero.1 h1, (hcE_iff hs).1 h⟩
    · contradiction
  · rintro ⟨h1, h2⟩
    rw [if_pos (lcE_zero.2 h1)]
    exact (hcE_iff hs).2 h2
theorem rlyRd_bad (v u h : Value) (E : Int) (nm : ByteArray) (cps dc : Int) (a : Option Addr) (m cap : Nat) (hv : v = .agg #[.string nm, .int .i64 cps, .slice a m cap, .int .i64 dc]) (w : World) (e1 : (E == 0) = false) (e2 : (E != 0) = true)
    (H1 : Hid (∀ W, Below w.heap.size w W → Calls Tryz.prog 51 #[v, u] W fun e w' => e = .returned (.int .i64 E) ∧ Below W.heap.size W w')) :
    Calls Tryz.prog 28 #[v, u, h] w fun e w' => e = .returned (.int .i64 E) ∧ Below w.heap.size w w' := by
  subst hv
  go_enter Tryz.func28, Tryz.ntmps28
  go_wp2_with fail
  refine (H1.out _ (bel_alloc (Below.refl _ _))).mono ?_
  rintro e w1 ⟨rfl, gg⟩
  have X1 := Lib.hid (bel_alloc gg); clear gg
  go_wp2
  go_returns
  exact ⟨rfl, X1.out⟩
theorem rlyRd_ok (v u h : Value) (E : Int) (nm : ByteArray) (cps dc : Int) (a : Option Addr) (m cap : Nat) (hv : v = .agg #[.string nm, .int .i64 cps, .slice a m cap, .int .i64 dc]) (w : World)
    (H1 : Hid (∀ W, Below w.heap.size w W → Calls Tryz.prog 51 #[v, u] W fun e w' => e = .returned (.int .i64 0) ∧ Below W.heap.size W w'))
    (H2 : Hid (∀ W, Below w.heap.size w W → Calls Tryz.prog 52 #[h] W fun e w' => e = .returned (.int .i64 E) ∧ Below W.heap.size W w')) :
    Calls Tryz.prog 28 #[v, u, h] w fun e w' => e = .returned (.int .i64 E) ∧ Below w.heap.size w w' := by
  subst hv
  go_enter Tryz.func28, Tryz.ntmps28
  go_wp2_with fail
  refine (H1.out _ (bel_alloc (Below.refl _ _))).mono ?_
  rintro e w1 ⟨rfl, gg⟩
  have X1 := Lib.hid (bel_alloc gg); clear gg
  go_wp2_with fail
  refine (H2.out _ X1.out).mono ?_
  rintro e w2 ⟨rfl, gg⟩
  replace X1 := Lib.hid (bel_trans X1.out gg); clear gg
  go_wp2
  go_returns
  exact ⟨rfl, X1.out⟩
theorem rlyRd_any (v u h : Value) (c : Ck) (ps hs : List Int) (w : World) (hv : CkV w v c) (hu : Nums w u ps) (hh : Nums w h hs) :
    Calls Tryz.prog 28 #[v, u, h] w fun e w' => e = .returned (.int .i64 (lrE c ps hs)) ∧ Below w.heap.size w w' := by
  have H1 : Hid (∀ W, Below w.heap.size w W → _) := Lib.hid fun W hW => rlyChk_any v u c ps W (hv.below hW) (hu.below hW)
  have H2 : Hid (∀ W, Below w.heap.size w W → _) := Lib.hid fun W hW => refChk_any h hs W (hh.below hW)
  obtain ⟨a, cap, e, _⟩ := hv
  unfold lrE
  by_cases g : lcE c ps = 0
  · rw [if_pos g]
    rw [g] at H1
    exact rlyRd_ok v u h _ _ _ _ a _ cap e w H1 H2
  · rw [if_neg g]
    exact rlyRd_bad v u h _ _ _ _ a _ cap e w (by simpa using g) (by simpa using g) H1
/-- what Between returns -/
noncomputable def btwL (c : Ck) (ps hs : List Int) : Int := if lrE c ps hs = 0 then tbL c.pf (bgR c.pf) ps hs (hs.length - 1) (ps.length - 1) else 0
noncomputable def btwH (c : Ck) (ps hs : List Int) : Int := if lrE c ps hs = 0 then tbH c.pf (bgR c.pf) ps hs (hs.length - 1) (ps.length - 1) else 0
theorem rlyBw_bad (v u h : Value) (E : Int) (nm : ByteArray) (cps dc : Int) (a : Option Addr) (m cap : Nat) (hv : v = .agg #[.string nm, .int .i64 cps, .slice a m cap, .int .i64 dc]) (w : World) (e1 : (E == 0) = false) (e2 : (E != 0) = true)
    (H1 : Hid (∀ W, Below w.heap.size w W → Calls Tryz.prog 28 #[v, u, h] W fun e w' => e = .returned (.int .i64 E) ∧ Below W.heap.size W w')) :
    Calls Tryz.prog 10 #[v, u, h] w fun e w' => e = .returned (.tuple #[.agg #[.int .i64 0, .int .i64 0], .int .i64 E]) ∧ Below w.heap.size w w' := by
  subst hv
  have T0 := Lib.hid (Two.new (w.alloc (.cells #[.string nm, .int .i64 cps, .slice a m cap, .int .i64 dc] 24)) (.int .i64 0) (.int .i64 0) 29)
  rw [World.size_alloc] at T0
  go_enter Tryz.func10, Tryz.ntmps10
  go_wp2_with fail
  refine (H1.out _ (bel_alloc (bel_alloc (Below.refl _ _)))).mono ?_
  rintro e w1 ⟨rfl, gg⟩
  replace T0 := Lib.hid (T0.out.below gg)
  have X1 := Lib.hid (bel_alloc (bel_alloc gg)); clear gg
  obtain ⟨r0, r1, rf0, rf1, _⟩ := T0.out
  go_wp2
  obtain ⟨t0, t1⟩ := two_read w1 (w.heap.size + 1) (.int .i64 0) (.int .i64 0) r0 r1
  refine bodyPost_ret (v := .tuple #[.agg #[.int .i64 0, .int .i64 0], .int .i64 E]) (by simp [results, Tryz.results10, go_sem, t0, t1]) rfl ?_
  exact ⟨rfl, (X1.out.setCell (Nat.le_succ _) _).setCell (Nat.le_succ _) _⟩
theorem rlyBw_ok (v u h : Value) (L H : Int) (nm : ByteArray) (cps dc : Int) (a : Option Addr) (m cap : Nat) (hv : v = .agg #[.string nm, .int .i64 cps, .slice a m cap, .int .i64 dc]) (w : World)
    (H1 : Hid (∀ W, Below w.heap.size w W → Calls Tryz.prog 28 #[v, u, h] W fun e w' => e = .returned (.int .i64 0) ∧ Below W.heap.size W w'))
    (H2 : Hid (∀ W, Below w.heap.size w W → Calls Tryz.prog 29 #[v, u, h] W fun e w' => e = .returned (.agg #[.int .i64 L, .int .i64 H]) ∧ Below W.heap.size W w')) :
    Calls Tryz.prog 10 #[v, u, h] w fun e w' => e = .returned (.tuple #[.agg #[.int .i64 L, .int .i64 H], .int .i64 0]) ∧ Below w.heap.size w w' := by
  subst hv
  have F0 := Lib.hid ((Quad.new w (.string nm) (.int .i64 cps) (.slice a m cap) (.int .i64 dc) 24).alloc (.cells #[.int .i64 0, .int .i64 0] 29))
  have T0 := Lib.hid (Two.new (w.alloc (.cells #[.string nm, .int .i64 cps, .slice a m cap, .int .i64 dc] 24)) (.int .i64 0) (.int .i64 0) 29)
  rw [World.size_alloc] at T0
  go_enter Tryz.func10, Tryz.ntmps10
  go_wp2_with fail
  refine (H1.out _ (bel_alloc (bel_alloc (Below.refl _ _)))).mono ?_
  rintro e w1 ⟨rfl, gg⟩
  replace T0 := Lib.hid (T0.out.below gg)
  replace F0 := Lib.hid (F0.out.below gg)
  have X1 := Lib.hid (bel_alloc (bel_alloc gg)); clear gg
  obtain ⟨y0, y1, y2, y3, _, _⟩ := F0.out
  go_wp2_with fail
  refine (H2.out _ X1.out).mono ?_
  rintro e w2 ⟨rfl, gg⟩
  replace T0 := Lib.hid (T0.out.below gg)
  replace X1 := Lib.hid (bel_trans X1.out gg); clear gg y0 y1 y2 y3
  obtain ⟨r0, r1, rf0, rf1, _⟩ := T0.out
  go_wp2
  obtain ⟨t0, t1⟩ := two_read w2 (w.heap.size + 1) (.int .i64 L) (.int .i64 H) r0 r1
  refine bodyPost_ret (v := .tuple #[.agg #[.int .i64 L, .int .i64 H], .int .i64 0]) (by simp [results, Tryz.results10, go_sem, t0, t1]) rfl ?_
  exact ⟨rfl, (X1.out.setCell (Nat.le_succ _) _).setCell (Nat.le_succ _) _⟩
theorem rlyBt_any (v u h : Value) (c : Ck) (ps hs : List Int) (w : World) (hv : CkV w v c) (hu : Nums w u ps) (hh : Nums w h hs) (hE : ccE c = 0) (hP : PlR c.pf ps) (n65 : ps.length ≤ 65) (hH : HR hs) :
    Calls Tryz.prog 29 #[v, u, h] w fun e w' => e = .returned (.agg #[.int .i64 (tbL c.pf (bgR c.pf) ps hs (hs.length - 1) (ps.length - 1)), .int .i64 (tbH c.pf (bgR c.pf) ps hs (hs.length - 1) (ps.length - 1))]) ∧ Below w.heap.size w w' := by
  obtain ⟨_, _, _, hR⟩ := ccE_pf hE
  have H1 : Hid (∀ (x y : Int) (W : World), 0 ≤ x → x ≤ y → y ≤ 200000 → Below w.heap.size w W → _) := Lib.hid fun x y W x0 xy y1 hW => rlyOf_any v u c ps x y W (hv.below hW) (hu.below hW) hE hP n65 x0 xy y1
  have n0 := hH.n0
  obtain ⟨a, cap, rfl, _⟩ := hv
  obtain ⟨a2, cap2, rfl, _, hh⟩ := hh
  rcases hh with h0 | ⟨b, off, rfl, hb, hc⟩
  · omega
  · exact rlyBt_some _ _ _ a _ cap u b off _ cap2 ps hs c.pf (bgR c.pf) (ps.length - 1) w n0 hH.n1 (Lib.hid rfl) hb (Lib.hid hR) (Lib.hid hP) (Lib.hid hH) (Lib.hid (by have := hP.n0; omega)) (Lib.hid hc) H1
theorem rlyBw_any (v u h : Value) (c : Ck) (ps hs : List Int) (w : World) (hv : CkV w v c) (hu : Nums w u ps) (hh : Nums w h hs) :
    Calls Tryz.prog 10 #[v, u, h] w fun e w' => e = .returned (.tuple #[.agg #[.int .i64 (btwL c ps hs), .int .i64 (btwH c ps hs)], .int .i64 (lrE c ps hs)]) ∧ Below w.heap.size w w' := by
  have H1 : Hid (∀ W, Below w.heap.size w W → _) := Lib.hid fun W hW => rlyRd_any v u h c ps hs W (hv.below hW) (hu.below hW) (hh.below hW)
  have hv' := hv
  obtain ⟨a, cap, e, _⟩ := hv'
  unfold btwL btwH
  by_cases g : lrE c ps hs = 0
  · obtain ⟨⟨⟨h1, h2⟩, h3, h4⟩, h5⟩ := lrE_zero.1 g
    rw [if_pos g, if_pos g, g]
    rw [g] at H1
    exact rlyBw_ok v u h _ _ _ _ _ a _ cap e w H1 (Lib.hid fun W hW => rlyBt_any v u h c ps hs W (hv.below hW) (hu.below hW) (hh.below hW) h1 h3 h4 h5)
  · rw [if_neg g, if_neg g]
    exact rlyBw_bad v u h _ _ _ _ a _ cap e w (by simpa using g) (by simpa using g) H1
end Go.Proofs.YtgjdopjolokaiaaGreat

/- Plain facts: finer polygons around a circle and in it. No program stands in this text. (Written by m/l6.py.) -/
namespace Go.Proofs.YtgjdopjolokaiaaGreat

def gV (r k : Int) : Int := (min (100000 * r - 0 * k) (min (101629 * r - 18100 * k) (min (106283 * r - 36000 * k) (min (113745 * r - 54200 * k) (min (124761 * r - 74600 * k) (min (142845 * r - 102000 * k) (min (166481 * r - 133100 * k) (min (217991 * r - 193700 * k) (min (300055 * r - 282900 * k) (567678 * r - 558800 * k))))))))))
theorem gV_conc (r : Int) : Conc (gV r) := ((Conc.lin (100000 * r) 0 (by omega)).min ((Conc.lin (101629 * r) 18100 (by omega)).min ((Conc.lin (106283 * r) 36000 (by omega)).min ((Conc.lin (113745 * r) 54200 (by omega)).min ((Conc.lin (124761 * r) 74600 (by omega)).min ((Conc.lin (142845 * r) 102000 (by omega)).min ((Conc.lin (166481 * r) 133100 (by omega)).min ((Conc.lin (217991 * r) 193700 (by omega)).min ((Conc.lin (300055 * r) 282900 (by omega)).min (Conc.lin (567678 * r) 558800 (by omega)))))))))))
theorem gV_le (r k : Int) : gV r k ≤ 100000 * r - 0 * k ∧ gV r k ≤ 101629 * r - 18100 * k ∧ gV r k ≤ 106283 * r - 36000 * k ∧ gV r k ≤ 113745 * r - 54200 * k ∧ gV r k ≤ 124761 * r - 74600 * k ∧ gV r k ≤ 142845 * r - 102000 * k ∧ gV r k ≤ 166481 * r - 133100 * k ∧ gV r k ≤ 217991 * r - 193700 * k ∧ gV r k ≤ 300055 * r - 282900 * k ∧ gV r k ≤ 567678 * r - 558800 * k := by
  unfold gV
  refine ⟨?_, ?_, ?_, ?_, ?_, ?_, ?_, ?_, ?_, ?_⟩ <;> omega
theorem gV_ge (r k X : Int) (h : X ≤ 100000 * r - 0 * k ∧ X ≤ 101629 * r - 18100 * k ∧ X ≤ 106283 * r - 36000 * k ∧ X ≤ 113745 * r - 54200 * k ∧ X ≤ 124761 * r - 74600 * k ∧ X ≤ 142845 * r - 102000 * k ∧ X ≤ 166481 * r - 133100 * k ∧ X ≤ 217991 * r - 193700 * k ∧ X ≤ 300055 * r - 282900 * k ∧ X ≤ 567678 * r - 558800 * k) : X ≤ gV r k := by
  unfold gV
  omega
def gM (r k : Int) : Int := (min (100000 * r - 0 * k) (min (100000 * r - 5600 * k) (min (101221 * r - 16700 * k) (min (103861 * r - 28700 * k) (min (107953 * r - 41100 * k) (min (113887 * r - 54900 * k) (min (122102 * r - 70400 * k) (min (133820 * r - 89300 * k) (min (149937 * r - 112000 * k) (min (172947 * r - 141500 * k) (min (207117 * r - 181700 * k) (min (256707 * r - 236800 * k) (min (341401 * r - 326900 * k) (min (519105 * r - 510100 * k) (1410600 * r - 1410600 * k)))))))))))))))
theorem gM_conc (r : Int) : Conc (gM r) := ((Conc.lin (100000 * r) 0 (by omega)).min ((Conc.lin (100000 * r) 5600 (by omega)).min ((Conc.lin (101221 * r) 16700 (by omega)).min ((Conc.lin (103861 * r) 28700 (by omega)).min ((Conc.lin (107953 * r) 41100 (by omega)).min ((Conc.lin (113887 * r) 54900 (by omega)).min ((Conc.lin (122102 * r) 70400 (by omega)).min ((Conc.lin (133820 * r) 89300 (by omega)).min ((Conc.lin (149937 * r) 112000 (by omega)).min ((Conc.lin (172947 * r) 141500 (by omega)).min ((Conc.lin (207117 * r) 181700 (by omega)).min ((Conc.lin (256707 * r) 236800 (by omega)).min ((Conc.lin (341401 * r) 326900 (by omega)).min ((Conc.lin (519105 * r) 510100 (by omega)).min (Conc.lin (1410600 * r) 1410600 (by omega))))))))))))))))
theorem gM_le (r k : Int) : gM r k ≤ 100000 * r - 0 * k ∧ gM r k ≤ 100000 * r - 5600 * k ∧ gM r k ≤ 101221 * r - 16700 * k ∧ gM r k ≤ 103861 * r - 28700 * k ∧ gM r k ≤ 107953 * r - 41100 * k ∧ gM r k ≤ 113887 * r - 54900 * k ∧ gM r k ≤ 122102 * r - 70400 * k ∧ gM r k ≤ 133820 * r - 89300 * k ∧ gM r k ≤ 149937 * r - 112000 * k ∧ gM r k ≤ 172947 * r - 141500 * k ∧ gM r k ≤ 207117 * r - 181700 * k ∧ gM r k ≤ 256707 * r - 236800 * k ∧ gM r k ≤ 341401 * r - 326900 * k ∧ gM r k ≤ 519105 * r - 510100 * k ∧ gM r k ≤ 1410600 * r - 1410600 * k := by
  unfold gM
  refine ⟨?_, ?_, ?_, ?_, ?_, ?_, ?_, ?_, ?_, ?_, ?_, ?_, ?_, ?_, ?_⟩ <;> omega
theorem gM_ge (r k X : Int) (h : X ≤ 100000 * r - 0 * k ∧ X ≤ 100000 * r - 5600 * k ∧ X ≤ 101221 * r - 16700 * k ∧ X ≤ 103861 * r - 28700 * k ∧ X ≤ 107953 * r - 41100 * k ∧ X ≤ 113887 * r - 54900 * k ∧ X ≤ 122102 * r - 70400 * k ∧ X ≤ 133820 * r - 89300 * k ∧ X ≤ 149937 * r - 112000 * k ∧ X ≤ 172947 * r - 141500 * k ∧ X ≤ 207117 * r - 181700 * k ∧ X ≤ 256707 * r - 236800 * k ∧ X ≤ 341401 * r - 326900 * k ∧ X ≤ 519105 * r - 510100 * k ∧ X ≤ 1410600 * r - 1410600 * k) : X ≤ gM r k := by
  unfold gM
  omega
theorem hcL_upV (r y : Int) (hr : 0 ≤ r) (h0 : 0 ≤ y) (h1 : y ≤ r) : 100000 * hcL r y ≤ gV r y := by
  have hc := (hc_circle r y (by omega)).1
  refine gV_ge r y _ ⟨tangent 100000 0 100000 _ y r (by omega) (by omega) hr hc, tangent 101629 18100 100000 _ y r (by omega) (by omega) hr hc, tangent 106283 36000 100000 _ y r (by omega) (by omega) hr hc, tangent 113745 54200 100000 _ y r (by omega) (by omega) hr hc, tangent 124761 74600 100000 _ y r (by omega) (by omega) hr hc, tangent 142845 102000 100000 _ y r (by omega) (by omega) hr hc, tangent 166481 133100 100000 _ y r (by omega) (by omega) hr hc, tangent 217991 193700 100000 _ y r (by omega) (by omega) hr hc, tangent 300055 282900 100000 _ y r (by omega) (by omega) hr hc, tangent 567678 558800 100000 _ y r (by omega) (by omega) hr hc⟩
theorem hcH_lowM (r y : Int) (hr : 0 ≤ r) (h0 : 0 ≤ y) (h1 : y ≤ r) : gM r y ≤ 100000 * hcH r y := by
  have hc := (hc_circle r y (by omega)).2
  have hX := (hc_le r y hr)
  obtain ⟨g0, g1, g2, g3, g4, g5, g6, g7, g8, g9, g10, g11, g12, g13, g14⟩ := gM_le r y
  by_cases b0 : 100 * y ≤ 11 * r
  · have := chord_in 100000 100000 5600 0 11 r y (hcH r y) (by omega) (by omega) (by omega) hr (by omega) b0 (by omega) (by omega) (by omega) hc; omega
  by_cases b1 : 100 * y ≤ 22 * r
  · have := chord_in 100000 101221 16700 11 22 r y (hcH r y) (by omega) (by omega) (by omega) hr (by omega) b1 (by omega) (by omega) (by omega) hc; omega
  by_cases b2 : 100 * y ≤ 33 * r
  · have := chord_in 100000 103861 28700 22 33 r y (hcH r y) (by omega) (by omega) (by omega) hr (by omega) b2 (by omega) (by omega) (by omega) hc; omega
  by_cases b3 : 100 * y ≤ 43 * r
  · have := chord_in 100000 107953 41100 33 43 r y (hcH r y) (by omega) (by omega) (by omega) hr (by omega) b3 (by omega) (by omega) (by omega) hc; omega
  by_cases b4 : 100 * y ≤ 53 * r
  · have := chord_in 100000 113887 54900 43 53 r y (hcH r y) (by omega) (by omega) (by omega) hr (by omega) b4 (by omega) (by omega) (by omega) hc; omega
  by_cases b5 : 100 * y ≤ 62 * r
  · have := chord_in 100000 122102 70400 53 62 r y (hcH r y) (by omega) (by omega) (by omega) hr (by omega) b5 (by omega) (by omega) (by omega) hc; omega
  by_cases b6 : 100 * y ≤ 71 * r
  · have := chord_in 100000 133820 89300 62 71 r y (hcH r y) (by omega) (by omega) (by omega) hr (by omega) b6 (by omega) (by omega) (by omega) hc; omega
  by_cases b7 : 100 * y ≤ 78 * r
  · have := chord_in 100000 149937 112000 71 78 r y (hcH r y) (by omega) (by omega) (by omega) hr (by omega) b7 (by omega) (by omega) (by omega) hc; omega
  by_cases b8 : 100 * y ≤ 85 * r
  · have := chord_in 100000 172947 141500 78 85 r y (hcH r y) (by omega) (by omega) (by omega) hr (by omega) b8 (by omega) (by omega) (by omega) hc; omega
  by_cases b9 : 100 * y ≤ 90 * r
  · have := chord_in 100000 207117 181700 85 90 r y (hcH r y) (by omega) (by omega) (by omega) hr (by omega) b9 (by omega) (by omega) (by omega) hc; omega
  by_cases b10 : 100 * y ≤ 94 * r
  · have := chord_in 100000 256707 236800 90 94 r y (hcH r y) (by omega) (by omega) (by omega) hr (by omega) b10 (by omega) (by omega) (by omega) hc; omega
  by_cases b11 : 100 * y ≤ 97 * r
  · have := chord_in 100000 341401 326900 94 97 r y (hcH r y) (by omega) (by omega) (by omega) hr (by omega) b11 (by omega) (by omega) (by omega) hc; omega
  by_cases b12 : 100 * y ≤ 99 * r
  · have := chord_in 100000 519105 510100 97 99 r y (hcH r y) (by omega) (by omega) (by omega) hr (by omega) b12 (by omega) (by omega) (by omega) hc; omega
  have := chord_in 100000 1410600 1410600 99 100 r y (hcH r y) (by omega) (by omega) (by omega) hr (by omega) (by omega) (by omega) (by omega) (by omega) hc; omega
end Go.Proofs.YtgjdopjolokaiaaGreat

/- Plain facts: what the finer polygons sum to. No program stands in this text. (Written by m/l6.py.) -/
namespace Go.Proofs.YtgjdopjolokaiaaGreat

theorem tzV (R : Nat) (h : 96 ≤ R) : tz (gV R) R ≤ 157417 * ((R : Int) * R) + 558800 := by
  have L := fun k => gV_le R k
  have q0 : 0 ≤ (R : Int) * R := Int.mul_nonneg (by omega) (by omega)
  obtain ⟨k0, e0⟩ : ∃ k : Nat, k = 9 * R / 100 := ⟨_, rfl⟩
  have n0 := near_down 9 R k0 (by omega) (by omega)
  obtain ⟨k1, e1⟩ : ∃ k : Nat, k = 26 * R / 100 := ⟨_, rfl⟩
  have n1 := near_down 26 R k1 (by omega) (by omega)
  obtain ⟨k2, e2⟩ : ∃ k : Nat, k = 41 * R / 100 := ⟨_, rfl⟩
  have n2 := near_down 41 R k2 (by omega) (by omega)
  obtain ⟨k3, e3⟩ : ∃ k : Nat, k = 54 * R / 100 := ⟨_, rfl⟩
  have n3 := near_down 54 R k3 (by omega) (by omega)
  obtain ⟨k4, e4⟩ : ∃ k : Nat, k = 66 * R / 100 := ⟨_, rfl⟩
  have n4 := near_down 66 R k4 (by omega) (by omega)
  obtain ⟨k5, e5⟩ : ∃ k : Nat, k = 76 * R / 100 := ⟨_, rfl⟩
  have n5 := near_down 76 R k5 (by omega) (by omega)
  obtain ⟨k6, e6⟩ : ∃ k : Nat, k = 85 * R / 100 := ⟨_, rfl⟩
  have n6 := near_down 85 R k6 (by omega) (by omega)
  obtain ⟨k7, e7⟩ : ∃ k : Nat, k = 92 * R / 100 := ⟨_, rfl⟩
  have n7 := near_down 92 R k7 (by omega) (by omega)
  obtain ⟨k8, e8⟩ : ∃ k : Nat, k = 97 * R / 100 := ⟨_, rfl⟩
  have n8 := near_down 97 R k8 (by omega) (by omega)
  have t0 := tz_up (G := gV R) (A := 100000) (B := 0) (r := R) (fun k => (L k).1) 0 k0 (by omega)
  have t1 := tz_up (G := gV R) (A := 101629) (B := 18100) (r := R) (fun k => (L k).2.1) k0 k1 (by omega)
  have t2 := tz_up (G := gV R) (A := 106283) (B := 36000) (r := R) (fun k => (L k).2.2.1) k1 k2 (by omega)
  have t3 := tz_up (G := gV R) (A := 113745) (B := 54200) (r := R) (fun k => (L k).2.2.2.1) k2 k3 (by omega)
  have t4 := tz_up (G := gV R) (A := 124761) (B := 74600) (r := R) (fun k => (L k).2.2.2.2.1) k3 k4 (by omega)
  have t5 := tz_up (G := gV R) (A := 142845) (B := 102000) (r := R) (fun k => (L k).2.2.2.2.2.1) k4 k5 (by omega)
  have t6 := tz_up (G := gV R) (A := 166481) (B := 133100) (r := R) (fun k => (L k).2.2.2.2.2.2.1) k5 k6 (by omega)
  have t7 := tz_up (G := gV R) (A := 217991) (B := 193700) (r := R) (fun k => (L k).2.2.2.2.2.2.2.1) k6 k7 (by omega)
  have t8 := tz_up (G := gV R) (A := 300055) (B := 282900) (r := R) (fun k => (L k).2.2.2.2.2.2.2.2.1) k7 k8 (by omega)
  have t9 := tz_up (G := gV R) (A := 567678) (B := 558800) (r := R) (fun k => (L k).2.2.2.2.2.2.2.2.2) k8 R (by omega)
  simp only [ln] at t0 t1 t2 t3 t4 t5 t6 t7 t8 t9
  simp only [tz, Int.natCast_zero, Int.mul_zero, Int.sub_zero] at t0
  clear e0
  clear e1
  clear e2
  clear e3
  clear e4
  clear e5
  clear e6
  clear e7
  clear e8
  omega
theorem gM_line (r k : Int) (hr : 96 ≤ r) : (0 * r ≤ 100 * k → 100 * k ≤ 11 * r → 100000 * r - 5600 * k ≤ gM r k) ∧ (11 * r ≤ 100 * k → 100 * k ≤ 22 * r → 101221 * r - 16700 * k ≤ gM r k) ∧ (22 * r ≤ 100 * k → 100 * k ≤ 33 * r → 103861 * r - 28700 * k ≤ gM r k) ∧ (33 * r ≤ 100 * k → 100 * k ≤ 43 * r → 107953 * r - 41100 * k ≤ gM r k) ∧ (43 * r ≤ 100 * k → 100 * k ≤ 53 * r → 113887 * r - 54900 * k ≤ gM r k) ∧ (53 * r ≤ 100 * k → 100 * k ≤ 62 * r → 122102 * r - 70400 * k ≤ gM r k) ∧ (62 * r ≤ 100 * k → 100 * k ≤ 71 * r → 133820 * r - 89300 * k ≤ gM r k) ∧ (71 * r ≤ 100 * k → 100 * k ≤ 78 * r → 149937 * r - 112000 * k ≤ gM r k) ∧ (78 * r ≤ 100 * k → 100 * k ≤ 85 * r → 172947 * r - 141500 * k ≤ gM r k) ∧ (85 * r ≤ 100 * k → 100 * k ≤ 90 * r → 207117 * r - 181700 * k ≤ gM r k) ∧ (90 * r ≤ 100 * k → 100 * k ≤ 94 * r → 256707 * r - 236800 * k ≤ gM r k) ∧ (94 * r ≤ 100 * k → 100 * k ≤ 97 * r → 341401 * r - 326900 * k ≤ gM r k) ∧ (97 * r ≤ 100 * k → 100 * k ≤ 99 * r → 519105 * r - 510100 * k ≤ gM r k) ∧ (99 * r ≤ 100 * k → 100 * k ≤ 100 * r → 1410600 * r - 1410600 * k ≤ gM r k) := by
  refine ⟨?_, ?_, ?_, ?_, ?_, ?_, ?_, ?_, ?_, ?_, ?_, ?_, ?_, ?_⟩ <;> intro h1 h2 <;> exact gM_ge r k _ ⟨by omega, by omega, by omega, by omega, by omega, by omega, by omega, by omega, by omega, by omega, by omega, by omega, by omega, by omega, by omega⟩
theorem gM_miss (r k : Int) (hr : 96 ≤ r) : (11 * r ≤ 100 * k → 100 * k < 11 * r + 100 → 100000 * r - 5600 * k ≤ gM r k + 11100) ∧ (22 * r ≤ 100 * k → 100 * k < 22 * r + 100 → 101221 * r - 16700 * k ≤ gM r k + 12000) ∧ (33 * r ≤ 100 * k → 100 * k < 33 * r + 100 → 103861 * r - 28700 * k ≤ gM r k + 12400) ∧ (43 * r ≤ 100 * k → 100 * k < 43 * r + 100 → 107953 * r - 41100 * k ≤ gM r k + 13800) ∧ (53 * r ≤ 100 * k → 100 * k < 53 * r + 100 → 113887 * r - 54900 * k ≤ gM r k + 15500) ∧ (62 * r ≤ 100 * k → 100 * k < 62 * r + 100 → 122102 * r - 70400 * k ≤ gM r k + 18900) ∧ (71 * r ≤ 100 * k → 100 * k < 71 * r + 100 → 133820 * r - 89300 * k ≤ gM r k + 22700) ∧ (78 * r ≤ 100 * k → 100 * k < 78 * r + 100 → 149937 * r - 112000 * k ≤ gM r k + 29500) ∧ (85 * r ≤ 100 * k → 100 * k < 85 * r + 100 → 172947 * r - 141500 * k ≤ gM r k + 40200) ∧ (90 * r ≤ 100 * k → 100 * k < 90 * r + 100 → 207117 * r - 181700 * k ≤ gM r k + 55100) ∧ (94 * r ≤ 100 * k → 100 * k < 94 * r + 100 → 256707 * r - 236800 * k ≤ gM r k + 90100) ∧ (97 * r ≤ 100 * k → 100 * k < 97 * r + 100 → 341401 * r - 326900 * k ≤ gM r k + 183200) ∧ (99 * r ≤ 100 * k → 100 * k < 99 * r + 100 → 519105 * r - 510100 * k ≤ gM r k + 900500) := by
  refine ⟨?_, ?_, ?_, ?_, ?_, ?_, ?_, ?_, ?_, ?_, ?_, ?_, ?_⟩ <;> intro h1 h2 <;> (refine Int.le_add_of_sub_right_le (gM_ge r k _ ⟨by omega, by omega, by omega, by omega, by omega, by omega, by omega, by omega, by omega, by omega, by omega, by omega, by omega, by omega, by omega⟩))
theorem tzM (R : Nat) (h : 96 ≤ R) : 156731 * ((R : Int) * R) - 1410600 ≤ tz (gM R) R := by
  have L := fun k => gM_line R k (by omega)
  have q0 : 0 ≤ (R : Int) * R := Int.mul_nonneg (by omega) (by omega)
  have M := fun k => gM_miss R k (by omega)
  obtain ⟨k0, e0⟩ : ∃ k : Nat, k = (11 * R + 99) / 100 := ⟨_, rfl⟩
  have n0 := near_any 11 R k0
  obtain ⟨k1, e1⟩ : ∃ k : Nat, k = (22 * R + 99) / 100 := ⟨_, rfl⟩
  have n1 := near_any 22 R k1
  obtain ⟨k2, e2⟩ : ∃ k : Nat, k = (33 * R + 99) / 100 := ⟨_, rfl⟩
  have n2 := near_any 33 R k2
  obtain ⟨k3, e3⟩ : ∃ k : Nat, k = (43 * R + 99) / 100 := ⟨_, rfl⟩
  have n3 := near_any 43 R k3
  obtain ⟨k4, e4⟩ : ∃ k : Nat, k = (53 * R + 99) / 100 := ⟨_, rfl⟩
  have n4 := near_any 53 R k4
  obtain ⟨k5, e5⟩ : ∃ k : Nat, k = (62 * R + 99) / 100 := ⟨_, rfl⟩
  have n5 := near_any 62 R k5
  obtain ⟨k6, e6⟩ : ∃ k : Nat, k = (71 * R + 99) / 100 := ⟨_, rfl⟩
  have n6 := near_any 71 R k6
  obtain ⟨k7, e7⟩ : ∃ k : Nat, k = (78 * R + 99) / 100 := ⟨_, rfl⟩
  have n7 := near_any 78 R k7
  obtain ⟨k8, e8⟩ : ∃ k : Nat, k = (85 * R + 99) / 100 := ⟨_, rfl⟩
  have n8 := near_any 85 R k8
  obtain ⟨k9, e9⟩ : ∃ k : Nat, k = (90 * R + 99) / 100 := ⟨_, rfl⟩
  have n9 := near_any 90 R k9
  obtain ⟨k10, e10⟩ : ∃ k : Nat, k = (94 * R + 99) / 100 := ⟨_, rfl⟩
  have n10 := near_any 94 R k10
  obtain ⟨k11, e11⟩ : ∃ k : Nat, k = (97 * R + 99) / 100 := ⟨_, rfl⟩
  have n11 := near_any 97 R k11
  obtain ⟨k12, e12⟩ : ∃ k : Nat, k = (99 * R + 99) / 100 := ⟨_, rfl⟩
  have n12 := near_any 99 R k12
  have t0 := tz_low1 (G := gM R) (A := 100000) (B := 5600) (r := R) (e := 11100) 0 k0 (by omega) (by omega) (fun k g1 g2 => (L k).1 (by omega) (by omega)) ((M k0).1 (by omega) (by omega))
  have t1 := tz_low1 (G := gM R) (A := 101221) (B := 16700) (r := R) (e := 12000) k0 k1 (by omega) (by omega) (fun k g1 g2 => (L k).2.1 (by omega) (by omega)) ((M k1).2.1 (by omega) (by omega))
  have t2 := tz_low1 (G := gM R) (A := 103861) (B := 28700) (r := R) (e := 12400) k1 k2 (by omega) (by omega) (fun k g1 g2 => (L k).2.2.1 (by omega) (by omega)) ((M k2).2.2.1 (by omega) (by omega))
  have t3 := tz_low1 (G := gM R) (A := 107953) (B := 41100) (r := R) (e := 13800) k2 k3 (by omega) (by omega) (fun k g1 g2 => (L k).2.2.2.1 (by omega) (by omega)) ((M k3).2.2.2.1 (by omega) (by omega))
  have t4 := tz_low1 (G := gM R) (A := 113887) (B := 54900) (r := R) (e := 15500) k3 k4 (by omega) (by omega) (fun k g1 g2 => (L k).2.2.2.2.1 (by omega) (by omega)) ((M k4).2.2.2.2.1 (by omega) (by omega))
  have t5 := tz_low1 (G := gM R) (A := 122102) (B := 70400) (r := R) (e := 18900) k4 k5 (by omega) (by omega) (fun k g1 g2 => (L k).2.2.2.2.2.1 (by omega) (by omega)) ((M k5).2.2.2.2.2.1 (by omega) (by omega))
  have t6 := tz_low1 (G := gM R) (A := 133820) (B := 89300) (r := R) (e := 22700) k5 k6 (by omega) (by omega) (fun k g1 g2 => (L k).2.2.2.2.2.2.1 (by omega) (by omega)) ((M k6).2.2.2.2.2.2.1 (by omega) (by omega))
  have t7 := tz_low1 (G := gM R) (A := 149937) (B := 112000) (r := R) (e := 29500) k6 k7 (by omega) (by omega) (fun k g1 g2 => (L k).2.2.2.2.2.2.2.1 (by omega) (by omega)) ((M k7).2.2.2.2.2.2.2.1 (by omega) (by omega))
  have t8 := tz_low1 (G := gM R) (A := 172947) (B := 141500) (r := R) (e := 40200) k7 k8 (by omega) (by omega) (fun k g1 g2 => (L k).2.2.2.2.2.2.2.2.1 (by omega) (by omega)) ((M k8).2.2.2.2.2.2.2.2.1 (by omega) (by omega))
  have t9 := tz_low1 (G := gM R) (A := 207117) (B := 181700) (r := R) (e := 55100) k8 k9 (by omega) (by omega) (fun k g1 g2 => (L k).2.2.2.2.2.2.2.2.2.1 (by omega) (by omega)) ((M k9).2.2.2.2.2.2.2.2.2.1 (by omega) (by omega))
  have t10 := tz_low1 (G := gM R) (A := 256707) (B := 236800) (r := R) (e := 90100) k9 k10 (by omega) (by omega) (fun k g1 g2 => (L k).2.2.2.2.2.2.2.2.2.2.1 (by omega) (by omega)) ((M k10).2.2.2.2.2.2.2.2.2.2.1 (by omega) (by omega))
  have t11 := tz_low1 (G := gM R) (A := 341401) (B := 326900) (r := R) (e := 183200) k10 k11 (by omega) (by omega) (fun k g1 g2 => (L k).2.2.2.2.2.2.2.2.2.2.2.1 (by omega) (by omega)) ((M k11).2.2.2.2.2.2.2.2.2.2.2.1 (by omega) (by omega))
  have t12 := tz_low1 (G := gM R) (A := 519105) (B := 510100) (r := R) (e := 900500) k11 k12 (by omega) (by omega) (fun k g1 g2 => (L k).2.2.2.2.2.2.2.2.2.2.2.2.1 (by omega) (by omega)) ((M k12).2.2.2.2.2.2.2.2.2.2.2.2 (by omega) (by omega))
  have t13 := tz_low (G := gM R) (A := 1410600) (B := 1410600) (r := R) k12 R (by omega) (fun k g1 g2 => (L k).2.2.2.2.2.2.2.2.2.2.2.2.2 (by omega) (by omega))
  simp only [ln] at t0 t1 t2 t3 t4 t5 t6 t7 t8 t9 t10 t11 t12 t13
  simp only [tz, Int.natCast_zero, Int.mul_zero, Int.sub_zero] at t0
  clear e0
  clear e1
  clear e2
  clear e3
  clear e4
  clear e5
  clear e6
  clear e7
  clear e8
  clear e9
  clear e10
  clear e11
  clear e12
  clear L M
  omega
end Go.Proofs.YtgjdopjolokaiaaGreat

/- Plain facts: two lists of heights, one behind the other, enclose the area of a circle. No program stands in this text. -/
namespace Go.Proofs.YtgjdopjolokaiaaGreat

def iq2 (n : Nat) : Nat := iqs n 8 0
def ic2 (n : Nat) : Nat := if iq2 n * iq2 n < n then iq2 n + 1 else iq2 n
theorem rt_iq2 (n : Nat) (h : n < 65536) : rt n = iq2 n := by
  obtain ⟨h1, h2⟩ := iqs_spec n 8 0 (by omega) (by simpa using h)
  exact rt_of (by omega) (by exact_mod_cast h1) (by exact_mod_cast h2)
theorem ce_ic2 (n : Nat) (h : n < 65536) : ce n = ic2 n := by
  unfold ce ic2
  rw [rt_iq2 n h]
  by_cases g : iq2 n * iq2 n < n
  · rw [if_pos g, if_pos (by exact_mod_cast g)]; simp
  · rw [if_neg g, if_neg (by exact_mod_cast g)]
def smallOk2 (R : Nat) : Bool := decide (452 * addTo (fun k => iq2 (R * R - (k + 1) * (k + 1))) R ≤ 355 * (R * R)) && decide (333 * (R * R) ≤ 424 * addTo (fun k => ic2 (R * R - k * k)) R)
theorem small_ok2 : ∀ R, R < 160 → smallOk2 R = true := by decide +kernel
theorem unL_small2 (R : Nat) (h : R < 160) : 226 * unL R R ≤ 355 * ((R : Int) * R) := by
  have ok := small_ok2 R h
  simp only [smallOk2, Bool.and_eq_true, decide_eq_true_eq] at ok
  have e : sumTo (fun k => hcL R (k + 1)) R = (addTo (fun k => iq2 (R * R - (k + 1) * (k + 1))) R : Int) := by
    rw [← sum_add]
    refine sumTo_same R fun k hk => ?_
    show hcL R ((k : Int) + 1) = _
    rw [← rt_iq2 _ (by have := Nat.mul_le_mul (show R ≤ 159 by omega) (show R ≤ 159 by omega); omega), sq_nat (by omega)]
    unfold hcL
    rw [if_neg (by omega), Int.natCast_add, Int.natCast_one]
  unfold unL
  rw [Int.toNat_natCast, e]
  have := ok.1
  have e2 : ((R * R : Nat) : Int) = (R : Int) * R := Int.natCast_mul _ _
  omega
theorem unH_small2 (R : Nat) (h : R < 160) : 333 * ((R : Int) * R) ≤ 212 * unH R R := by
  have ok := small_ok2 R h
  simp only [smallOk2, Bool.and_eq_true, decide_eq_true_eq] at ok
  have e : sumTo (fun k => hcH R k) R = (addTo (fun k => ic2 (R * R - k * k)) R : Int) := by
    rw [← sum_add]
    refine sumTo_same R fun k hk => ?_
    show hcH R (k : Int) = _
    rw [← ce_ic2 _ (by have := Nat.mul_le_mul (show R ≤ 159 by omega) (show R ≤ 159 by omega); omega), sq_nat (by omega)]
    unfold hcH
    rw [if_neg (by omega)]
  unfold unH
  rw [Int.toNat_natCast, e]
  have := ok.2
  have e2 : ((R * R : Nat) : Int) = (R : Int) * R := Int.natCast_mul _ _
  omega

/-! ### potentials, of any strips' least width -/
theorem lowV (R : Nat) (h : 96 ≤ R) (d : Int) (d0 : 0 ≤ d) (d1 : 32 * d ≤ R) : LowP 100000 R d (phiU (gV R) d) := by
  refine lowP_of (M := 558800) (gV_conc R) (by omega) (by omega) d0 (fun y h1 h2 => hcL_upV R y (by omega) h1 h2) (fun k => ?_) ?_
  · have g := gV_le R k
    have := gV_ge R (k + 1) (gV R k - 558800) ⟨by omega, by omega, by omega, by omega, by omega, by omega, by omega, by omega, by omega, by omega⟩
    omega
  · have := gV_ge R R (8878 * R) ⟨by omega, by omega, by omega, by omega, by omega, by omega, by omega, by omega, by omega, by omega⟩
    omega
theorem gM_flat (R : Nat) (k : Int) (h : k ≤ 0) : gM R k = 100000 * R := by
  have := (gM_le R k).1
  have h2 := gM_ge R k (100000 * R) ⟨by omega, by omega, by omega, by omega, by omega, by omega, by omega, by omega, by omega, by omega, by omega, by omega, by omega, by omega, by omega⟩
  omega
theorem gM_zero (R : Nat) : 0 ≤ gM R R := gM_ge R R 0 ⟨by omega, by omega, by omega, by omega, by omega, by omega, by omega, by omega, by omega, by omega, by omega, by omega, by omega, by omega, by omega⟩
theorem highM (R : Nat) (d : Int) (d0 : 0 ≤ d) : HighP 100000 R d (psiL (gM R) d (100000 * R)) := by
  by_cases hd : 1 ≤ d
  · exact highP_of (gM_conc R) (by omega) (by omega) hd (gM_zero R) rfl (fun k hk => gM_flat R k hk) (fun y h1 h2 => hcH_lowM R y (by omega) h1 h2)
  · obtain rfl : d = 0 := by omega
    have pull : ∀ w y : Int, 100000 * (2 * (w * y)) = 2 * (w * (100000 * y)) := fun w y => by grind
    have st : ∀ a b : Int, 0 ≤ a → a ≤ b → b ≤ R → tz (gM R) b.toNat - tz (gM R) a.toNat ≤ 2 * ((b - a) * gM R a) := fun a b a0 ab br => by
      have t := (gM_conc R).tangI a b a0 ab
      have hS : 0 ≤ gM R a - gM R (a + 1) := by have := (gM_conc R).dec a; omega
      have m1 := Int.mul_nonneg (Int.mul_nonneg (show 0 ≤ b - a by omega) (show 0 ≤ b - a by omega)) hS
      omega
    have e : ∀ y, psiL (gM R) 0 (100000 * R) y = tz (gM R) y.toNat := fun y => by unfold psiL; simp
    refine ⟨fun a w a0 ar _ w0 => ?_, fun b b0 => ?_⟩
    · rw [e, e, pull]
      have := st a (min (a + w) R) a0 (by omega) (by omega)
      have g0 := (gM_conc R).mono a R ar
      have g1 := gM_zero R
      have m1 := Int.mul_le_mul_of_nonneg_right (show min (a + w) R - a ≤ w by omega) (show 0 ≤ gM R a by omega)
      have m2 := wid_mono w0 (hcH_lowM R a (by omega) a0 ar)
      omega
    · rw [e, pull]
      have := st 0 (min b R) (by omega) (by omega) (by omega)
      rw [gM_flat R 0 (by omega)] at this
      simp only [Int.toNat_zero, tz, Int.sub_zero] at this
      have m1 := Int.mul_le_mul_of_nonneg_right (show min b R ≤ b by omega) (show 0 ≤ 100000 * (R : Int) by omega)
      omega
theorem psi_zero (R : Nat) (d : Int) (d0 : 0 ≤ d) : psiL (gM R) d (100000 * R) 0 = 0 := by
  unfold psiL
  rw [gM_flat R _ (by omega)]
  simp [tz]
end Go.Proofs.YtgjdopjolokaiaaGreat

/- Plain facts: the strips below a height and those above it, together, enclose the area of a circle. No program stands in this text. -/
namespace Go.Proofs.YtgjdopjolokaiaaGreat

theorem Conc.drop_mono {G : Int → Int} (h : Conc G) (a b : Int) (hab : a ≤ b) (n : Nat) : G a - G (a + n) ≤ G b - G (b + n) := by
  induction n with
  | zero => simp
  | succ n ih =>
    have s := h.slope' (a + n) (b + n) (by omega)
    rw [show a + ((n + 1 : Nat) : Int) = a + n + 1 by omega, show b + ((n + 1 : Nat) : Int) = b + n + 1 by omega]
    omega
theorem gV_flat (R : Nat) (k : Int) (h : k ≤ 0 ∨ 32 * k ≤ R) : gV R k = 100000 * R := by
  have := (gV_le R k).1
  have h2 := gV_ge R k (100000 * R) ⟨by omega, by omega, by omega, by omega, by omega, by omega, by omega, by omega, by omega, by omega⟩
  omega
theorem phi_zero (R : Nat) (d : Int) (h : 32 * d ≤ R) : phiU (gV R) d 0 = 0 := by
  unfold phiU
  rw [gV_flat R 0 (by omega), gV_flat R d (by omega)]
  simp [tz]
theorem comb_low (R : Nat) (h : 160 ≤ R) (da db m : Int) (a0 : 0 ≤ da) (ab : da ≤ db) (b1 : 32 * db ≤ R) (hs : (R : Int) ≤ 32 * (da + db) + 95) :
    113 * ((phiU (gV R) da R - phiU (gV R) da m) + (phiU (gV R) db R + phiU (gV R) db m)) ≤ 35500000 * ((R : Int) * R) := by
  have t := tzV R (by omega)
  have u1 : gV R R ≤ 8878 * R := by have := (gV_le R R).2.2.2.2.2.2.2.2.2; omega
  have u2 : gV R m ≤ 100000 * R := by have := (gV_le R m).1; omega
  have m1 := Int.mul_le_mul_of_nonneg_left u1 (show 0 ≤ da by omega)
  have m2 := Int.mul_le_mul_of_nonneg_left u1 (show 0 ≤ db by omega)
  have m3 := Int.mul_le_mul_of_nonneg_left u2 (show 0 ≤ db - da by omega)
  have m4 := Int.mul_le_mul_of_nonneg_right hs (show (0 : Int) ≤ R by omega)
  have m5 := Int.mul_le_mul_of_nonneg_right (show (160 : Int) ≤ R by omega) (show (0 : Int) ≤ R by omega)
  have f := gV_flat R db (by omega)
  rw [Int.mul_left_comm] at m1 m2 m3
  rw [Int.sub_mul, Int.sub_mul] at m3
  rw [Int.add_mul, Int.mul_assoc, Int.add_mul] at m4
  unfold phiU
  rw [Int.toNat_natCast, f, Int.mul_left_comm db 100000]
  generalize tz (gV R) R = T at *
  generalize tz (gV R) m.toNat = T2 at *
  generalize da * gV R R = X1 at *
  generalize db * gV R R = X2 at *
  generalize da * gV R m = X3 at *
  generalize db * gV R m = X4 at *
  generalize da * gV R da = X5 at *
  generalize da * (R : Int) = Z1 at *
  generalize db * (R : Int) = Z2 at *
  generalize (R : Int) * R = Q at *
  omega
theorem comb_high (R : Nat) (h : 160 ≤ R) (da db m : Int) (a0 : 0 ≤ da) (ab : da ≤ db) (b1 : 32 * db ≤ R) (hs : (R : Int) ≤ 32 * (da + db) + 95) (hm : m ≤ R) :
    33300000 * ((R : Int) * R) ≤ 106 * ((psiL (gM R) da (100000 * R) R - psiL (gM R) da (100000 * R) m) + (psiL (gM R) db (100000 * R) R + psiL (gM R) db (100000 * R) m)) := by
  have t := tzM R (by omega)
  have g2 : gM R (R - 2 * db) ≤ 34707 * R := by have := (gM_le R (R - 2 * db)).2.2.2.2.2.2.2.2.2.2.2.1; omega
  have hc := (gM_conc R).drop_mono (m - 2 * db) (R - 2 * db) (by omega) (2 * (db - da)).toNat
  rw [show m - 2 * db + ((2 * (db - da)).toNat : Int) = m - 2 * da by omega, show (R : Int) - 2 * db + ((2 * (db - da)).toNat : Int) = R - 2 * da by omega] at hc
  have h2 : gM R (m - 2 * db) ≤ 100000 * R := by have := (gM_le R (m - 2 * db)).1; omega
  have m1 := Int.mul_le_mul_of_nonneg_left hc a0
  have m2 := Int.mul_le_mul_of_nonneg_left h2 (show 0 ≤ db - da by omega)
  have m3 := Int.mul_le_mul_of_nonneg_left g2 (show 0 ≤ da + db by omega)
  have m4 := Int.mul_le_mul_of_nonneg_right hs (show (0 : Int) ≤ R by omega)
  have m5 := Int.mul_le_mul_of_nonneg_right (show (160 : Int) ≤ R by omega) (show (0 : Int) ≤ R by omega)
  rw [Int.mul_sub, Int.mul_sub] at m1
  rw [Int.sub_mul, Int.mul_left_comm, Int.sub_mul] at m2
  rw [Int.add_mul, Int.mul_left_comm, Int.add_mul] at m3
  rw [Int.add_mul, Int.mul_assoc, Int.add_mul] at m4
  unfold psiL
  rw [Int.toNat_natCast, Int.mul_left_comm da 100000, Int.mul_left_comm db 100000]
  generalize tz (gM R) R = T at *
  generalize tz (gM R) m.toNat = T2 at *
  generalize da * gM R (m - 2 * db) = X1 at *
  generalize da * gM R (m - 2 * da) = X2 at *
  generalize da * gM R (R - 2 * db) = X3 at *
  generalize da * gM R (R - 2 * da) = X4 at *
  generalize db * gM R (m - 2 * db) = X5 at *
  generalize db * gM R (R - 2 * db) = X6 at *
  generalize da * (R : Int) = Z1 at *
  generalize db * (R : Int) = Z2 at *
  generalize (R : Int) * R = Q at *
  omega
theorem od_side {F : Int → Int} (r y : Int) (h : y ≤ 0) (hr : 0 ≤ r) (h0 : F 0 = 0) : od F r y = -F (min (-y) r) := by
  by_cases hy : y < 0
  · exact od_neg F r y hy
  · obtain rfl : y = 0 := by omega
    rw [od_pos F r 0 (by omega), show min 0 r = 0 by omega, show min (-0) r = 0 by omega, h0]; rfl
/-- two lists of heights, from 0 to p and on to the top, with strips of at least a 64th -/
structure Two64 (c p : Int) (l1 l2 : List Int) (k1 k2 : Nat) : Prop where
  p0 : 0 ≤ p
  p1 : p ≤ 2 * c
  a0 : l1.getD 0 0 = 0
  a1 : l1.getD k1 0 = p
  b0 : l2.getD 0 0 = p
  b1 : l2.getD k2 0 = 2 * c
  w1 : ∀ i, i < k1 → l1.getD i 0 ≤ l1.getD (i + 1) 0 ∧ p / 64 ≤ l1.getD (i + 1) 0 - l1.getD i 0
  w2 : ∀ i, i < k2 → l2.getD i 0 ≤ l2.getD (i + 1) 0 ∧ (2 * c - p) / 64 ≤ l2.getD (i + 1) 0 - l2.getD i 0
theorem two_low {R : Nat} {c p : Int} {l1 l2 : List Int} {k1 k2 : Nat} (hc : (R : Int) ≤ c) (h : Two64 c p l1 l2 k1 k2) :
    113 * (prL R c l1 k1 + prL R c l2 k2) ≤ 355 * ((R : Int) * R) := by
  obtain ⟨p0, p1, a0, a1, b0, b1, w1, w2⟩ := h
  by_cases hs : R < 160
  · have u := un_low R (by omega)
    have x1 := low_sum u (by omega) (by omega) c l1 k1 (fun i hi => by have := w1 i hi; omega)
    have x2 := low_sum u (by omega) (by omega) c l2 k2 (fun i hi => by have := w2 i hi; omega)
    rw [a0, a1, Int.one_mul] at x1
    rw [b0, b1, Int.one_mul] at x2
    have s1 := unL_small2 R hs
    have z : unL R 0 = 0 := by simp [unL, sumTo]
    rw [od_side (R : Int) (0 - c) (by omega) (by omega) z, show min (-(0 - c)) (R : Int) = R by omega] at x1
    rw [od_pos _ _ (2 * c - c) (by omega), show min (2 * c - c) (R : Int) = R by omega] at x2
    omega
  · by_cases hp : p ≤ c
    · obtain ⟨da, ea⟩ : ∃ d, d = min (p / 64) ((R : Int) / 64 - 1) := ⟨_, rfl⟩
      obtain ⟨db, eb⟩ : ∃ d, d = (R : Int) / 32 - 2 - da := ⟨_, rfl⟩
      have x1 := low_sum (lowV R (by omega) da (by omega) (by omega)) (by omega) (by omega) c l1 k1 (fun i hi => by have := w1 i hi; omega)
      have x2 := low_sum (lowV R (by omega) db (by omega) (by omega)) (by omega) (by omega) c l2 k2 (fun i hi => by have := w2 i hi; omega)
      rw [a0, a1, od_side (R : Int) (0 - c) (by omega) (by omega) (phi_zero R da (by omega)), od_side (R : Int) (p - c) (by omega) (by omega) (phi_zero R da (by omega)), show min (-(0 - c)) (R : Int) = R by omega] at x1
      rw [b0, b1, od_pos _ _ (2 * c - c) (by omega), od_side (R : Int) (p - c) (by omega) (by omega) (phi_zero R db (by omega)), show min (2 * c - c) (R : Int) = R by omega] at x2
      have k := comb_low R (by omega) da db (min (-(p - c)) R) (by omega) (by omega) (by omega) (by omega)
      omega
    · obtain ⟨da, ea⟩ : ∃ d, d = min ((2 * c - p) / 64) ((R : Int) / 64 - 1) := ⟨_, rfl⟩
      obtain ⟨db, eb⟩ : ∃ d, d = (R : Int) / 32 - 2 - da := ⟨_, rfl⟩
      have x1 := low_sum (lowV R (by omega) db (by omega) (by omega)) (by omega) (by omega) c l1 k1 (fun i hi => by have := w1 i hi; omega)
      have x2 := low_sum (lowV R (by omega) da (by omega) (by omega)) (by omega) (by omega) c l2 k2 (fun i hi => by have := w2 i hi; omega)
      rw [a0, a1, od_side (R : Int) (0 - c) (by omega) (by omega) (phi_zero R db (by omega)), od_pos _ _ (p - c) (by omega), show min (-(0 - c)) (R : Int) = R by omega] at x1
      rw [b0, b1, od_pos _ _ (2 * c - c) (by omega), od_pos _ _ (p - c) (by omega), show min (2 * c - c) (R : Int) = R by omega] at x2
      have k := comb_low R (by omega) da db (min (p - c) R) (by omega) (by omega) (by omega) (by omega)
      omega
theorem two_high {R : Nat} {c p : Int} {l1 l2 : List Int} {k1 k2 : Nat} (hc : (R : Int) ≤ c) (h : Two64 c p l1 l2 k1 k2) :
    333 * ((R : Int) * R) ≤ 106 * (prH R c l1 k1 + prH R c l2 k2) := by
  obtain ⟨p0, p1, a0, a1, b0, b1, w1, w2⟩ := h
  by_cases hs : R < 160
  · have u := un_high R (by omega)
    have z : unH R 0 = 0 := by simp [unH, sumTo]
    have x1 := high_sum u (by omega) (by omega) z c l1 k1 (fun i hi => by have := w1 i hi; omega)
    have x2 := high_sum u (by omega) (by omega) z c l2 k2 (fun i hi => by have := w2 i hi; omega)
    rw [a0, a1, Int.one_mul] at x1
    rw [b0, b1, Int.one_mul] at x2
    have s1 := unH_small2 R hs
    rw [od_side (R : Int) (0 - c) (by omega) (by omega) z, show min (-(0 - c)) (R : Int) = R by omega] at x1
    rw [od_pos _ _ (2 * c - c) (by omega), show min (2 * c - c) (R : Int) = R by omega] at x2
    omega
  · by_cases hp : p ≤ c
    · obtain ⟨da, ea⟩ : ∃ d, d = min (p / 64) ((R : Int) / 64 - 1) := ⟨_, rfl⟩
      obtain ⟨db, eb⟩ : ∃ d, d = (R : Int) / 32 - 2 - da := ⟨_, rfl⟩
      have x1 := high_sum (highM R da (by omega)) (by omega) (by omega) (psi_zero R da (by omega)) c l1 k1 (fun i hi => by have := w1 i hi; omega)
      have x2 := high_sum (highM R db (by omega)) (by omega) (by omega) (psi_zero R db (by omega)) c l2 k2 (fun i hi => by have := w2 i hi; omega)
      rw [a0, a1, od_side (R : Int) (0 - c) (by omega) (by omega) (psi_zero R da (by omega)), od_side (R : Int) (p - c) (by omega) (by omega) (psi_zero R da (by omega)), show min (-(0 - c)) (R : Int) = R by omega] at x1
      rw [b0, b1, od_pos _ _ (2 * c - c) (by omega), od_side (R : Int) (p - c) (by omega) (by omega) (psi_zero R db (by omega)), show min (2 * c - c) (R : Int) = R by omega] at x2
      have k := comb_high R (by omega) da db (min (-(p - c)) R) (by omega) (by omega) (by omega) (by omega) (by omega)
      omega
    · obtain ⟨da, ea⟩ : ∃ d, d = min ((2 * c - p) / 64) ((R : Int) / 64 - 1) := ⟨_, rfl⟩
      obtain ⟨db, eb⟩ : ∃ d, d = (R : Int) / 32 - 2 - da := ⟨_, rfl⟩
      have x1 := high_sum (highM R db (by omega)) (by omega) (by omega) (psi_zero R db (by omega)) c l1 k1 (fun i hi => by have := w1 i hi; omega)
      have x2 := high_sum (highM R da (by omega)) (by omega) (by omega) (psi_zero R da (by omega)) c l2 k2 (fun i hi => by have := w2 i hi; omega)
      rw [a0, a1, od_side (R : Int) (0 - c) (by omega) (by omega) (psi_zero R db (by omega)), od_pos _ _ (p - c) (by omega), show min (-(0 - c)) (R : Int) = R by omega] at x1
      rw [b0, b1, od_pos _ _ (2 * c - c) (by omega), od_pos _ _ (p - c) (by omega), show min (2 * c - c) (R : Int) = R by omega] at x2
      have k := comb_high R (by omega) da db (min (p - c) R) (by omega) (by omega) (by omega) (by omega) (by omega)
      omega
end Go.Proofs.YtgjdopjolokaiaaGreat
