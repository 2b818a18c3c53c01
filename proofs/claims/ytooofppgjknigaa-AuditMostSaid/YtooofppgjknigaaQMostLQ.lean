/-
  The statement AuditMost of spile/spilelaw17 holds: for every input the call returns true, and each argument reads afterwards as it read before.
-/
import Derived.Test.YtooofppgjknigaaM2
import Derived.FnLit
import Derived.StillTailTactics
import Derived.Deep.DeepCutAuto
import Derived.Shelf.Spec.TrailingZeros
import Derived.Below
import Derived.Carry

set_option linter.unusedVariables false
set_option linter.unusedSimpArgs false

namespace Go.Proofs.Ytooofppgjknigaa
open Go.RowKit

theorem mxf_congr {l : List (Int × Int)} {g h : Nat → Int} {i : Nat} : ∀ k, (∀ j, i < j → j < k → g j = h j) → mxf l g i k = mxf l h i k
  | 0, _ => rfl
  | k + 1, e => by
    have ih := mxf_congr (l := l) (i := i) k (fun j h1 h2 => e j h1 (by omega))
    unfold mxf
    rw [ih]
    by_cases q : i < k
    · rw [e k q (by omega)]
    · rw [if_neg (fun hh => q hh.1), if_neg (fun hh => q hh.1)]
theorem mxf_ge {l : List (Int × Int)} {g : Nat → Int} {i j : Nat} (h1 : i < j) (h3 : ex l i j ≤ 0) : ∀ k, j < k → g j ≤ mxf l g i k
  | 0, h => by omega
  | k + 1, h => by
    by_cases e : j = k
    · subst e
      unfold mxf
      rw [if_pos ⟨h1, h3⟩]
      omega
    · have ih := mxf_ge h1 h3 (g := g) k (by omega)
      unfold mxf
      split <;> omega
theorem mxf_at {l : List (Int × Int)} {g : Nat → Int} {i : Nat} : ∀ k, 0 < mxf l g i k → ∃ j, i < j ∧ j < k ∧ ex l i j ≤ 0 ∧ g j = mxf l g i k
  | 0, h => by simp [mxf] at h
  | k + 1, h => by
    unfold mxf at h ⊢
    by_cases q : i < k ∧ ex l i k ≤ 0
    · rw [if_pos q] at h ⊢
      by_cases r : mxf l g i k ≤ g k
      · exact ⟨k, q.1, by omega, q.2, by omega⟩
      · obtain ⟨j, a, b, c, d⟩ := mxf_at (l := l) (g := g) (i := i) k (by omega)
        exact ⟨j, a, by omega, c, by omega⟩
    · rw [if_neg q] at h ⊢
      obtain ⟨j, a, b, c, d⟩ := mxf_at (l := l) (g := g) (i := i) k h
      exact ⟨j, a, by omega, c, d⟩
theorem lgT_fix (l : List (Int × Int)) (n : Nat) {m j : Nat} (hj : n - m ≤ j) : ∀ k, m ≤ k → k ≤ n → lgT l n k j = lgT l n m j
  | 0, h, _ => by have : m = 0 := by omega
                  subst this; rfl
  | k + 1, h, h2 => by
    by_cases e : m = k + 1
    · subst e; rfl
    · have ih := lgT_fix l n hj k (by omega) (by omega)
      show (if j = n - 1 - k then _ else _) = _
      rw [if_neg (by omega), ih]
/-- the length from a row on -/
theorem lg_is (l : List (Int × Int)) {n i : Nat} (hi : i < n) : lgT l n n i = 1 + mxf l (lgT l n n) i n := by
  have h1 := lgT_fix l n (m := n - 1 - i + 1) (j := i) (by omega) n (by omega) (Nat.le_refl _)
  rw [h1]
  have h2 : lgT l n (n - 1 - i + 1) i = 1 + mxf l (lgT l n (n - 1 - i)) (n - 1 - (n - 1 - i)) n := by
    show (if i = n - 1 - (n - 1 - i) then _ else _) = _
    rw [if_pos (by omega)]
  rw [h2, show n - 1 - (n - 1 - i) = i by omega]
  rw [mxf_congr n (fun j a b => (lgT_fix l n (m := n - 1 - i) (j := j) (by omega) n (by omega) (Nat.le_refl _)).symm)]
theorem mx_ge (l : List (Int × Int)) {n : Nat} : ∀ m, m ≤ n → ∀ i, n - m ≤ i → i < n → lgT l n n i ≤ mxL l n m
  | 0, _, i, h1, h2 => by omega
  | m + 1, hm, i, h1, h2 => by
    have ih := mx_ge l (n := n) m (by omega)
    unfold mxL
    by_cases e : i = n - 1 - m
    · subst e
      have q := lgT_fix l n (m := m + 1) (j := n - 1 - m) (by omega) n (by omega) (Nat.le_refl _)
      have q2 : lgT l n (m + 1) (n - 1 - m) = 1 + mxf l (lgT l n m) (n - 1 - m) n := by
        show (if n - 1 - m = n - 1 - m then _ else _) = _
        rw [if_pos rfl]
      rw [q, q2]; omega
    · have := ih i (by omega) h2
      omega
theorem mx_at (l : List (Int × Int)) {n : Nat} : ∀ m, m ≤ n → 0 < mxL l n m → ∃ i, i < n ∧ lgT l n n i = mxL l n m
  | 0, _, h => by simp [mxL] at h
  | m + 1, hm, h => by
    have q := lgT_fix l n (m := m + 1) (j := n - 1 - m) (by omega) n (by omega) (Nat.le_refl _)
    have q2 : lgT l n (m + 1) (n - 1 - m) = 1 + mxf l (lgT l n m) (n - 1 - m) n := by
      show (if n - 1 - m = n - 1 - m then _ else _) = _
      rw [if_pos rfl]
    rw [q2] at q
    unfold mxL at h ⊢
    by_cases e : mxL l n m ≤ 1 + mxf l (lgT l n m) (n - 1 - m) n
    · exact ⟨n - 1 - m, by omega, by rw [q]; omega⟩
    · obtain ⟨i, a, b⟩ := mx_at l (n := n) m (by omega) (by omega)
      exact ⟨i, a, by omega⟩
/-- how many of the first rows are chosen -/
def ctB (p : Nat → Bool) : Nat → Int
  | 0 => 0
  | k + 1 => ctB p k + (if p k = true then 1 else 0)
theorem ctB_bd (p : Nat → Bool) : ∀ k, 0 ≤ ctB p k ∧ ctB p k ≤ k
  | 0 => by simp [ctB]
  | k + 1 => by
    have := ctB_bd p k
    unfold ctB
    split <;> omega
theorem ct_le (l : List (Int × Int)) {n : Nat} {p : Nat → Bool} (hp : ∀ j k, j < k → k < n → p j = true → p k = true → ex l j k ≤ 0) : ctB p n ≤ mxL l n n := by
  have key : ∀ d, d ≤ n → (∀ j, j < n - d → p j = true → ctB p n - ctB p (n - d) ≤ mxf l (lgT l n n) j n) ∧ ctB p n - ctB p (n - d) ≤ mxL l n n := by
    intro d
    induction d with
    | zero =>
      intro _
      have b := mxL_bd l n n
      refine ⟨fun j _ _ => ?_, ?_⟩
      · have := (mxf_bd (l := l) (g := lgT l n n) (M := n) (by omega) (lgT_bd l n n) j n).1
        simp only [Nat.sub_zero]; omega
      · simp only [Nat.sub_zero]; omega
    | succ d ih =>
      intro hd
      obtain ⟨h1, h2⟩ := ih (by omega)
      have e : n - d = (n - (d + 1)) + 1 := by omega
      generalize n - (d + 1) = i at *
      rw [e] at h1 h2
      have hc : ctB p (i + 1) = ctB p i + (if p i = true then 1 else 0) := rfl
      have hin : i < n := by omega
      cases q : p i with
      | false =>
        rw [q, if_neg (by decide)] at hc
        exact ⟨fun j hj hpj => by have := h1 j (by omega) hpj; omega, by omega⟩
      | true =>
        rw [q, if_pos rfl] at hc
        have g1 := h1 i (by omega) q
        have g2 := lg_is l hin
        have g3 := mx_ge l n (Nat.le_refl _) i (by omega) hin
        refine ⟨fun j hj hpj => ?_, by omega⟩
        have := mxf_ge (g := lgT l n n) hj (hp j i hj hin hpj q) n hin
        omega
  have := (key n (Nat.le_refl _)).2
  rw [Nat.sub_self] at this
  have h0 : ctB p 0 = 0 := rfl
  omega
theorem ex_trans {l : List (Int × Int)} (hA : AR l) {i j k : Nat} (h1 : i < j) (h2 : j < k) (h3 : k < l.length) (a : ex l i j ≤ 0) (b : ex l j k ≤ 0) : ex l i k ≤ 0 := by
  have x1 := hA.le (Nat.le_of_lt h1) (by omega : j < l.length)
  have x2 := hA.le (Nat.le_of_lt h2) h3
  unfold ex exd at *
  split at a <;> split at b <;> split <;> omega
structure ChI (l : List (Int × Int)) (n : Nat) (M : Int) (k : Nat) (zs : List Int) (q : Int) : Prop where
  sum : (zs.length : Int) + q = M
  pos : 0 ≤ q
  bd : ∀ x ∈ zs, ∃ p : Nat, x = (p : Int) ∧ p < k
  ok : ∀ a b : Nat, (a : Int) ∈ zs → (b : Int) ∈ zs → a < b → ex l a b ≤ 0
  last : 0 < zs.length → ∃ t : Nat, zs.getD (zs.length - 1) 0 = (t : Int) ∧ (t : Int) ∈ zs ∧ ∀ a : Nat, (a : Int) ∈ zs → a ≤ t
  more : 0 < q → ∃ j, k ≤ j ∧ j < n ∧ lgT l n n j = q ∧ (zs.length = 0 ∨ ex l (zs.getD (zs.length - 1) 0).toNat j ≤ 0)
theorem chI {l : List (Int × Int)} (hA : AR l) {n : Nat} (hn : n = l.length) : ∀ k, k ≤ n → ChI l n (mxL l n n) k (chS l (lgT l n n) (mxL l n n) k).1 (chS l (lgT l n n) (mxL l n n) k).2
  | 0, _ => by
    have b := mxL_bd l n n
    refine ⟨by simp [chS], by simp [chS]; omega, by simp [chS], by simp [chS], by simp [chS], fun h => ?_⟩
    obtain ⟨i, a, c⟩ := mx_at l n (Nat.le_refl _) (by simpa [chS] using h)
    exact ⟨i, by omega, a, by simpa [chS] using c, .inl (by simp [chS])⟩
  | k + 1, hk => by
    have ih := chI hA hn k (by omega)
    unfold chS
    generalize chS l (lgT l n n) (mxL l n n) k = P at *
    obtain ⟨zs, q⟩ := P
    dsimp only at ih ⊢
    by_cases h : lgT l n n k = q ∧ (zs.length = 0 ∨ ex l (zs.getD (zs.length - 1) 0).toNat k ≤ 0)
    · rw [if_pos h]
      have L1 := lg_is l (show k < n by omega)
      have L2 := (mxf_bd (l := l) (g := lgT l n n) (M := n) (by omega) (lgT_bd l n n) k n).1
      have glast : (zs ++ [(k : Int)]).getD ((zs ++ [(k : Int)]).length - 1) 0 = (k : Int) := by
        simp [List.getD_eq_getElem?_getD]
      refine ⟨?_, ?_, ?_, ?_, ?_, ?_⟩
      · have := ih.sum
        simp only [List.length_append, List.length_cons, List.length_nil]; omega
      · have := h.1
        show 0 ≤ q - 1
        omega
      · intro x hx
        rcases List.mem_append.1 hx with hx | hx
        · obtain ⟨p, e, hp⟩ := ih.bd x hx
          exact ⟨p, e, by omega⟩
        · rw [List.mem_singleton] at hx
          exact ⟨k, hx, by omega⟩
      · intro a b ha hb hab
        rcases List.mem_append.1 hb with hb | hb
        · rcases List.mem_append.1 ha with ha | ha
          · exact ih.ok a b ha hb hab
          · rw [List.mem_singleton] at ha
            obtain ⟨p, e, hp⟩ := ih.bd _ hb
            omega
        · rw [List.mem_singleton] at hb
          have eb : b = k := by omega
          subst eb
          rcases List.mem_append.1 ha with ha | ha
          · have h0 : 0 < zs.length := List.length_pos_of_mem ha
            obtain ⟨t, e1, e2, e3⟩ := ih.last h0
            have hc := h.2
            rw [e1] at hc
            have hc : ex l t b ≤ 0 := by
              rcases hc with hc | hc
              · omega
              · simpa using hc
            have := e3 a ha
            by_cases eq : a = t
            · subst eq; exact hc
            · obtain ⟨p, e, hp⟩ := ih.bd _ e2
              exact ex_trans hA (show a < t by omega) (by omega) (by omega) (ih.ok a t ha e2 (by omega)) hc
          · rw [List.mem_singleton] at ha
            omega
      · intro _
        refine ⟨k, glast, by simp, fun a ha => ?_⟩
        rcases List.mem_append.1 ha with ha | ha
        · obtain ⟨p, e, hp⟩ := ih.bd _ ha
          omega
        · rw [List.mem_singleton] at ha
          omega
      · intro hq
        have hq : 0 < q - 1 := hq
        have := h.1
        obtain ⟨j, a, b, c, d⟩ := mxf_at (l := l) (g := lgT l n n) (i := k) n (by omega)
        refine ⟨j, by omega, b, by show _ = q - 1; omega, .inr ?_⟩
        show ex l ((zs ++ [(k : Int)]).getD ((zs ++ [(k : Int)]).length - 1) 0).toNat j ≤ 0
        rw [glast]
        simpa using c
    · rw [if_neg h]
      refine ⟨ih.sum, ih.pos, fun x hx => by obtain ⟨p, e, hp⟩ := ih.bd x hx; exact ⟨p, e, by omega⟩, ih.ok, ih.last, fun hq => ?_⟩
      obtain ⟨j, a, b, c, d⟩ := ih.more hq
      refine ⟨j, ?_, b, c, d⟩
      by_cases e : j = k
      · subst e; exact absurd ⟨c, d⟩ h
      · omega
/-- the largest choice: as many as may be, rows of the list, and no two of them clash -/
theorem lg_spec {l : List (Int × Int)} (hA : AR l) : ((lgL l).length : Int) = mxL l l.length l.length ∧ (∀ x ∈ lgL l, 0 ≤ x ∧ x < l.length) ∧ ∀ c ∈ ccL l 0, ¬ (c.1 ∈ lgL l ∧ c.2 ∈ lgL l) := by
  have I := chI hA (n := l.length) rfl l.length (Nat.le_refl _)
  have e : lgL l = (chS l (lgT l l.length l.length) (mxL l l.length l.length) l.length).1 := by
    unfold lgL; rw [if_pos (auE_zero.2 hA)]
  rw [e]
  have hs := I.sum
  have hp := I.pos
  have hm := I.more
  have hb := I.bd
  have ho := I.ok
  clear I e
  generalize (chS l (lgT l l.length l.length) (mxL l l.length l.length) l.length).1 = zs at *
  generalize (chS l (lgT l l.length l.length) (mxL l l.length l.length) l.length).2 = q at *
  have q0 : q = 0 := by
    by_cases h : 0 < q
    · obtain ⟨j, a, b, _⟩ := hm h
      omega
    · omega
  refine ⟨by omega, fun x hx => ?_, fun c hc => ?_⟩
  · obtain ⟨p, e, h⟩ := hb x hx
    omega
  · rintro ⟨h1, h2⟩
    rw [ccL_ok hA (Int.le_refl _) (by omega)] at hc
    obtain ⟨j, i, hj, hi, hji, g, e⟩ := clA_mem.1 hc
    rw [e] at h1 h2
    have := ho j i h1 h2 hji
    omega
/-- a choice of which no two clash is not larger -/
theorem lg_most {l : List (Int × Int)} (hA : AR l) {p : Nat → Bool} (h : ∀ c ∈ ccL l 0, ¬ (p c.1.toNat = true ∧ p c.2.toNat = true)) : ctB p l.length ≤ mxL l l.length l.length := by
  refine ct_le l fun j k hjk hk pj pk => ?_
  rcases Int.lt_or_le 0 (ex l j k) with g | g
  · have hm : ((j : Int), (k : Int)) ∈ ccL l 0 := by
      rw [ccL_ok hA (Int.le_refl _) (by omega)]
      exact clA_mem.2 ⟨j, k, by omega, hk, hjk, g, rfl⟩
    exact absurd ⟨by simpa using pj, by simpa using pk⟩ (h _ hm)
  · exact g
end Go.Proofs.Ytooofppgjknigaa

namespace Go.Proofs.Ytooofppgjknigaa
open Go.RowKit

set_option maxHeartbeats 8000000 in
set_option maxRecDepth 100000 in
theorem idxi_some (f : Nat) (cb : Array Value) (p : Nat → Bool) (eg : ∀ args w, (callFunc f args).run Try.prog w = .ok (.enter f args) w)
    (b off n cap : Nat) (l : List Int) (w : World) (n1 : n ≤ 1000) (hb : b < w.heap.size)
    (hc : Hid (∀ j, j < n → w.cell? ⟨b, off + j, none⟩ = some (.int .i64 (l.getD j 0))))
    (hp : Hid (∀ j W, j < n → Below w.heap.size w W → Calls Try.prog f (#[.int .i64 (l.getD j 0)] ++ cb) W fun e w' => e = .returned (.bool (p j)) ∧ Below W.heap.size W w')) :
    Calls Try.prog 57 #[.slice (some ⟨b, off, none⟩) n cap, .func (.func f) #[] cb] w fun e w' => e = .returned (.int .i64 (ixR p n)) ∧ Below w.heap.size w w' := by
  go_enter Try.func57, Try.ntmps57
  go_wp2_with fail
  go_loopw [5, 8] (fun _ i wr => ∃ k : Nat, k ≤ n ∧ i = .int .i64 k ∧ Hid (Below w.heap.size w wr) ∧ Hid (∀ j, j < k → p j = false)) (fun _ i _ => n - (intOf i).toNat)
  case atStart => exact ⟨0, Nat.zero_le _, rfl, Below.refl _ _, fun j hj => by omega⟩
  case round =>
    obtain ⟨k, hk, rfl, hB, ha⟩ := hrel
    by_cases hlt : k < n
    · have c0 : wr.cell? ⟨b, off + k, none⟩ = some (.int .i64 (l.getD k 0)) := by rw [(bcell hB.out).1 _ _ hb]; exact hc.out k hlt
      have HP := Lib.hid (fun W (hW : Below wr.heap.size wr W) => hp.out k W hlt (bel_trans hB.out hW))
      cases hq : p k with
      | true =>
        have hBt := Lib.hid (ixR_at hlt ha.out hq)
        rw [hq] at HP
        clear hq
        generalize l.getD k 0 = x at *
        go_wp2_with fail
        refine (HP.out _ (by first | exact Below.refl _ _ | exact bel_alloc (Below.refl _ _) | exact bel_drew _ | exact bel_alloc (bel_alloc (Below.refl _ _)))).mono ?_
        rintro e w2 ⟨rfl, gg⟩
        have X := Lib.hid (bel_trans hB.out gg); clear gg
        go_wp2
        go_returns
        exact ⟨by rw [hBt.out]; rfl, X.out⟩
      | false =>
        have ha2 : Hid (∀ j, j < k + 1 → p j = false) := fun j hj => by
          by_cases e : j = k
          · rw [e]; exact hq
          · exact ha.out j (by omega)
        rw [hq] at HP
        clear hq ha
        generalize l.getD k 0 = x at c0 HP
        go_wp2_with fail
        refine (HP.out _ (by first | exact Below.refl _ _ | exact bel_alloc (Below.refl _ _) | exact bel_drew _ | exact bel_alloc (bel_alloc (Below.refl _ _)))).mono ?_
        rintro e w2 ⟨rfl, gg⟩
        have X := Lib.hid (bel_trans hB.out gg); clear gg
        go_wp2
        go_roundw
        case rel => exact ⟨k + 1, by omega, by go_num, X, ha2⟩
        case measure => simp [intOf]; omega
    · obtain rfl : k = n := by omega
      have hBf := Lib.hid (ixR_no ha.out)
      go_wp2
      go_returns
      exact ⟨by rw [hBf.out]; rfl, hB.out⟩
set_option maxHeartbeats 8000000 in
theorem idxi_nil (f : Value) (a : Option Addr) (cap : Nat) (p : Nat → Bool) (w : World) :
    Calls Try.prog 57 #[.slice a 0 cap, f] w fun e w' => e = .returned (.int .i64 (ixR p 0)) ∧ Below w.heap.size w w' := by
  have hBf : Hid (ixR p 0 = -1) := Lib.hid (ixR_no fun j hj => by omega)
  go_enter Try.func57, Try.ntmps57
  go_wp2_with fail
  go_loopw [5, 8] (fun _ i wr => i = .int .i64 0 ∧ Hid (Below w.heap.size w wr)) (fun _ _ _ => 0)
  case atStart => exact ⟨rfl, Below.refl _ _⟩
  case round =>
    obtain ⟨rfl, hB⟩ := hrel
    go_wp2
    go_returns
    exact ⟨by rw [hBf.out]; rfl, hB.out⟩
theorem coni_of (f : Value) (v : Value) (a : Option Addr) (n cap : Nat) (hv : v = .slice a n cap) (p : Nat → Bool) (B : Bool) (w : World)
    (HI : Hid (Calls Try.prog 57 #[v, f] w fun e w' => e = .returned (.int .i64 (ixR p n)) ∧ Below w.heap.size w w'))
    (hB : Hid (B = true ↔ ∃ j, j < n ∧ p j = true)) :
    Calls Try.prog 33 #[v, f] w fun e w' => e = .returned (.bool B) ∧ Below w.heap.size w w' := by
  subst hv
  have h : decide (0 ≤ ixR p n) = B := by
    rw [Bool.eq_iff_iff, decide_eq_true_eq, ixR_iff]; exact hB.out.symm
  clear hB
  generalize ixR p n = k at *
  subst h
  go_enter Try.func33, Try.ntmps33
  go_wp2_with fail
  refine HI.out.mono ?_
  rintro e w1 ⟨rfl, hb⟩
  have HB := Lib.hid hb; clear hb
  go_wp2
  all_goals
    go_ret
    exact ⟨by simp_all, HB.out⟩
theorem idxi_any (f : Nat) (cb : Array Value) (p : Nat → Bool) (eg : ∀ args w, (callFunc f args).run Try.prog w = .ok (.enter f args) w)
    (v : Value) (l : List Int) (w : World) (n1 : l.length ≤ 1000) (hv : Nums w v l)
    (hp : Hid (∀ j W, j < l.length → Below w.heap.size w W → Calls Try.prog f (#[.int .i64 (l.getD j 0)] ++ cb) W fun e w' => e = .returned (.bool (p j)) ∧ Below W.heap.size W w')) :
    Calls Try.prog 57 #[v, .func (.func f) #[] cb] w fun e w' => e = .returned (.int .i64 (ixR p l.length)) ∧ Below w.heap.size w w' := by
  obtain ⟨a, cap, rfl, hcap, hh⟩ := hv
  rcases hh with h0 | ⟨b, off, rfl, hb, hc⟩
  · rw [h0]; exact idxi_nil _ a cap p w
  · exact idxi_some f cb p eg b off _ cap l w n1 hb (Lib.hid hc) hp
theorem and_one {n : Int} (h0 : 0 ≤ n) (h1 : n ≤ 4294967295) : bits .and .u32 n 1 = n % 2 := by
  obtain ⟨m, rfl⟩ := Int.eq_ofNat_of_zero_le h0
  have := bits_and_u32_nat m 1 (by omega) (by omega)
  rw [Nat.and_one_is_mod] at this
  simpa using this
/-- a bit of the choice -/
def biA (c : Int) (k : Nat) : Bool := decide (c / 2 ^ k % 2 = 1)
theorem shr_bd {c : Int} (k : Nat) (h : 0 ≤ c ∧ c ≤ 4294967295) : 0 ≤ c / 2 ^ k ∧ c / 2 ^ k ≤ 4294967295 := by
  have hp : (0 : Int) < 2 ^ k := Int.pow_pos (by decide)
  exact ⟨Int.ediv_nonneg h.1 (by omega), Int.le_trans (Int.ediv_le_self _ h.1) h.2⟩
theorem bit_is {c : Int} (k : Nat) (h : 0 ≤ c ∧ c ≤ 4294967295) : bits .and .u32 (c / 2 ^ k) 1 = if biA c k = true then 1 else 0 := by
  obtain ⟨h0, h1⟩ := shr_bd k h
  rw [and_one h0 h1]
  unfold biA
  by_cases e : c / 2 ^ k % 2 = 1
  · rw [if_pos (by simpa using e), e]
  · rw [if_neg (by simpa using e)]; omega
set_option maxHeartbeats 4000000 in
theorem mo4_any (q : Nat) (c : Int) (k : Nat) (w : World) (hc : 0 ≤ c ∧ c ≤ 4294967295) (hk : k < 32) (hq : w.cell? ⟨q, 0, none⟩ = some (.int .u32 c)) :
    Calls Try.prog 35 #[.int .i64 (k : Int), .pointer (some ⟨q, 0, none⟩)] w fun e w' => e = .returned (.bool (biA c k)) ∧ Below w.heap.size w w' := by
  have e1 := bit_is k hc
  have d0 : decide (0 ≤ (k : Int)) = true := decide_eq_true (by omega)
  have e0 : ((k : Int)).toNat = k := by omega
  generalize hE : c / 2 ^ k = E at *
  have hE2 : c / 2 ^ ((k : Int)).toNat = E := by rw [e0]; exact hE
  cases hb : biA c k with
  | true =>
    rw [hb, if_pos rfl] at e1
    go_enter Try.func35, Try.ntmps35
    go_wp2
    go_returns
    exact ⟨rfl, Below.refl _ _⟩
  | false =>
    rw [hb, if_neg (by decide)] at e1
    go_enter Try.func35, Try.ntmps35
    go_wp2
    go_returns
    exact ⟨rfl, Below.refl _ _⟩
set_option maxHeartbeats 4000000 in
theorem mo3_any (q : Nat) (a : Option Addr) (n cap : Nat) (x : Int) (w : World) (hn : n ≤ 1000) (hx : 0 ≤ x ∧ x < n) (hq : w.cell? ⟨q, 0, none⟩ = some (.slice a n cap)) :
    Calls Try.prog 34 #[.int .i64 x, .pointer (some ⟨q, 0, none⟩)] w fun e w' => e = .returned (.bool false) ∧ Below w.heap.size w w' := by
  have d0 : decide (x < 0) = false := decide_eq_false (by omega)
  have d1 : decide ((n : Int) ≤ x) = false := decide_eq_false (by omega)
  go_enter Try.func34, Try.ntmps34
  go_wp2
  go_returns
  exact ⟨rfl, Below.refl _ _⟩
theorem hasi_any (v : Value) (xs : List Int) (x : Int) (w : World) (hv : Nums w v xs) :
    Calls Try.prog 32 #[v, .int .i64 x] w fun e w' => e = .returned (.bool (decide (x ∈ xs))) ∧ Below w.heap.size w w' := by
  obtain ⟨a, c, rfl, hl, hh⟩ := hv
  rcases hh with h0 | ⟨b, off, rfl, hb, hc⟩
  · have e := List.length_eq_zero_iff.1 h0
    subst e
    exact (Try.slices_Contains_int_empty a c x w).mono fun _ w' g => ⟨by rw [g.1]; simp, by rw [g.2]; exact Below.refl _ _⟩
  · refine (Try.slices_Contains_int b off xs.length c xs x w (Nat.le_refl _) (by omega) hc).mono fun _ w' g => ⟨?_, by rw [g.2]; exact Below.refl _ _⟩
    rw [g.1, List.take_length]
    congr 2
    rw [Bool.eq_iff_iff, List.contains_iff_mem, decide_eq_true_eq]
set_option maxHeartbeats 4000000 in
theorem mo2_any (q : Nat) (V : Value) (xs : List Int) (x : Int) (w : World) (hV : Nums w V xs) (hq : w.cell? ⟨q, 0, none⟩ = some V) :
    Calls Try.prog 31 #[.int .i64 x, .pointer (some ⟨q, 0, none⟩)] w fun e w' => e = .returned (.bool (decide (x ∈ xs))) ∧ Below w.heap.size w w' := by
  have H := Lib.hid (hasi_any V xs x w hV)
  generalize decide (x ∈ xs) = B at *
  go_enter Try.func31, Try.ntmps31
  go_wp2_with fail
  refine H.out.mono ?_
  rintro e w1 ⟨rfl, gg⟩
  have X := Lib.hid gg; clear gg
  go_wp2
  go_returns
  exact ⟨rfl, X.out⟩
end Go.Proofs.Ytooofppgjknigaa

namespace Go.Proofs.Ytooofppgjknigaa
open Go.RowKit

set_option maxHeartbeats 8000000 in
theorem mo11_any (q f : Nat) (cb : Array Value) (F S : Int) (P1 P2 : Bool) (eg : ∀ args w, (callFunc f args).run Try.prog w = .ok (.enter f args) w) (w : World) (hlt : q < w.heap.size) (hq : w.cell? ⟨q, 0, none⟩ = some (.func (.func f) #[] cb))
    (H1 : Hid (∀ W, Below w.heap.size w W → Calls Try.prog f (#[.int .i64 F] ++ cb) W fun e w' => e = .returned (.bool P1) ∧ Below W.heap.size W w'))
    (H2 : Hid (∀ W, Below w.heap.size w W → Calls Try.prog f (#[.int .i64 S] ++ cb) W fun e w' => e = .returned (.bool P2) ∧ Below W.heap.size W w')) :
    Calls Try.prog 30 #[.agg #[.int .i64 F, .int .i64 S], .pointer (some ⟨q, 0, none⟩)] w fun e w' => e = .returned (.bool (P1 && P2)) ∧ Below w.heap.size w w' := by
  have T0 := Lib.hid (Two.new w (.int .i64 F) (.int .i64 S) 33)
  have X0 := Lib.hid (bel_alloc (w := w) (o := .cells #[.int .i64 F, .int .i64 S] 33) (Below.refl _ _))
  have hq0 := Lib.hid (fun W (hW : Below w.heap.size w W) => cell_bel hq hW)
  cases P1 with
  | false =>
    clear H2
    have cq := hq0.out _ X0.out
    obtain ⟨t0, t1, _, _, _⟩ := T0.out
    go_enter Try.func30, Try.ntmps30
    go_wp2_with fail
    refine (H1.out _ X0.out).mono ?_
    rintro e w1 ⟨rfl, gg⟩
    have X1 := Lib.hid (bel_trans X0.out gg); clear gg
    go_wp2
    go_returns
    exact ⟨rfl, X1.out⟩
  | true =>
    have cq := hq0.out _ X0.out
    obtain ⟨t0, t1, _, _, _⟩ := T0.out
    go_enter Try.func30, Try.ntmps30
    go_wp2_with fail
    refine (H1.out _ X0.out).mono ?_
    rintro e w1 ⟨rfl, gg⟩
    have X1 := Lib.hid (bel_trans X0.out gg)
    have T1 := Lib.hid (T0.out.below gg); clear gg
    clear t0 t1 cq
    have cq := hq0.out _ X1.out
    obtain ⟨t0, t1, _, _, _⟩ := T1.out
    go_wp2_with fail
    refine (H2.out _ X1.out).mono ?_
    rintro e w2 ⟨rfl, gg⟩
    have X2 := Lib.hid (bel_trans X1.out gg); clear gg
    go_wp2
    go_returns
    exact ⟨rfl, X2.out⟩
set_option maxHeartbeats 8000000 in
/-- free: whether no clash has both its rows in the choice -/
theorem free_any (q f : Nat) (cb : Array Value) (p : Int → Bool) (eg : ∀ args w, (callFunc f args).run Try.prog w = .ok (.enter f args) w) (V : Value) (C : List (Int × Int)) (B : Bool) (w : World) (hC : C.length ≤ 1000) (hV : Pts w V C) (hlt : q < w.heap.size) (hq : w.cell? ⟨q, 0, none⟩ = some V)
    (hp : Hid (∀ i W, (∃ j, j < C.length ∧ (i = gX C j ∨ i = gR C j)) → Below w.heap.size w W → Calls Try.prog f (#[.int .i64 i] ++ cb) W fun e w' => e = .returned (.bool (p i)) ∧ Below W.heap.size W w'))
    (hB : B = true ↔ ∃ j, j < C.length ∧ (p (gX C j) && p (gR C j)) = true) :
    Calls Try.prog 28 #[.func (.func f) #[] cb, .pointer (some ⟨q, 0, none⟩)] w fun e w' => e = .returned (.bool (!B)) ∧ Below w.heap.size w w' := by
  have hmf : ∀ (fn : Fn) (first cap : Array Value) (w : World), (Instr.makeFunc fn first cap).run Try.prog w = .ok (.func fn first cap) w := fun _ _ _ _ => rfl
  have HC : Hid (∀ W bq t, Below w.heap.size w W → Boxed W bq t (.func (.func f) #[] cb) → Calls Try.prog 29 #[V, .func (.func 30) #[] #[.pointer (some ⟨bq, 0, none⟩)]] W fun e w' => e = .returned (.bool B) ∧ Below W.heap.size W w') := Lib.hid fun W bq t hW hbx => by
    have hVW := hV.below hW
    obtain ⟨a, cap, ev, _, _⟩ := hVW.shape
    refine conc_of _ _ a C.length cap ev (fun j => p (gX C j) && p (gR C j)) B _ (Lib.hid ?_) (Lib.hid hB)
    exact idxc_any 30 #[.pointer (some ⟨bq, 0, none⟩)] _ (enters_of Try.func30 (by kernel_rfl) rfl) _ C W hC hVW
      (Lib.hid fun j W2 hj hW2 => mo11_any bq f cb _ _ _ _ eg W2 (Nat.lt_of_lt_of_le hbx.lt hW2.size) (cell_bel hbx.cell hW2)
        (Lib.hid fun W3 hW3 => hp.out _ W3 ⟨j, hj, .inl rfl⟩ (bel_trans hW (bel_trans hW2 hW3)))
        (Lib.hid fun W3 hW3 => hp.out _ W3 ⟨j, hj, .inr rfl⟩ (bel_trans hW (bel_trans hW2 hW3))))
  have BX := Lib.hid (Boxed.new w 51 (.func (.func f) #[] cb))
  have X0 := Lib.hid (bel_alloc (w := w) (o := .cells #[.func (.func f) #[] cb] 51) (Below.refl _ _))
  have cq := cell_bel hq X0.out
  clear hp hB hV
  go_enter Try.func28, Try.ntmps28
  go_wp2_with fail
  refine (HC.out _ _ _ X0.out BX.out).mono ?_
  rintro e w1 ⟨rfl, gg⟩
  have X1 := Lib.hid (bel_trans X0.out gg); clear gg
  go_wp2
  go_returns
  exact ⟨rfl, X1.out⟩
end Go.Proofs.Ytooofppgjknigaa

namespace Go.Proofs.Ytooofppgjknigaa.auditMost
open Go.ChangeShapes Go.WideShapes Go.ChangeAt Go.RowKit
open Go.ChangeMaps (open_string shut_string)
set_option linter.unusedVariables false

/-- the two captured arguments -/
structure MoI (W : World) (bl bc : Nat) (v : Value) (u : Int) (l : List (Int × Int)) : Prop where
  bl : Boxed W bl 22 v
  bc : Boxed W bc 50 (.int .u32 u)
  pv : Pts W v l
theorem MoI.below {W W' : World} {bl bc : Nat} {v : Value} {u : Int} {l : List (Int × Int)} (h : MoI W bl bc v u l) (hb : Below W.heap.size W W') : MoI W' bl bc v u l :=
  ⟨bxd_below h.bl hb, bxd_below h.bc hb, h.pv.below hb⟩
theorem MoI.init (w : World) (v : Value) (u : Int) (l : List (Int × Int)) (h : Pts w v l) :
    MoI ((w.alloc (.cells #[v] 22)).alloc (.cells #[.int .u32 u] 50)) w.heap.size (w.heap.size + 1) v u l := by
  have X0 := bel_alloc (w := w) (o := .cells #[v] 22) (Below.refl _ _)
  have X1 := bel_alloc (w := w.alloc (.cells #[v] 22)) (o := .cells #[.int .u32 u] 50) (Below.refl _ _)
  have b2 := Boxed.new (w.alloc (.cells #[v] 22)) 50 (.int .u32 u)
  rw [World.size_alloc] at b2
  exact ⟨bxd_below (Boxed.new w _ _) X1, b2, (h.below X0).below X1⟩
theorem MoI.bel (w : World) (v : Value) (u : Int) : Below w.heap.size w ((w.alloc (.cells #[v] 22)).alloc (.cells #[.int .u32 u] 50)) :=
  bel_alloc (bel_alloc (Below.refl _ _))
set_option maxHeartbeats 4000000 in
theorem long (a : Option Addr) (n cap : Nat) (u : Int) (l : List (Int × Int)) (w : World) (h : 20 < n) (NV : Hid (Pts w (.slice a n cap) l)) :
    Calls Try.prog 7 #[.slice a n cap, .int .u32 u] w fun e w' => e = .returned (.bool true) ∧ Below w.heap.size w w' := by
  have HA := Lib.hid (fun W => awake_any W)
  have dn : decide (20 < (n : Int)) = true := decide_eq_true (by omega)
  have M := Lib.hid (MoI.init w _ u l NV.out)
  have HB := Lib.hid (MoI.bel w (.slice a n cap) u)
  clear NV
  go_enter Try.func7, Try.ntmps7
  go_wp2_with fail
  refine (HA.out _).mono ?_
  rintro e w1 ⟨rfl, h1⟩
  replace M := Lib.hid (M.out.below h1)
  replace HB := Lib.hid (bel_trans HB.out h1); clear h1
  have cl := M.out.bl.cell
  go_wp2
  go_returns
  exact ⟨rfl, HB.out⟩
set_option maxHeartbeats 8000000 in
set_option maxRecDepth 100000 in
theorem bad (a : Option Addr) (n cap : Nat) (u : Int) (l : List (Int × Int)) (w : World) (h : n ≤ 20) (NV : Hid (Pts w (.slice a n cap) l))
    (C1 : Hid (∀ v W, Pts W v l → Calls Try.prog 19 #[v] W fun e w' => ∃ u, e = .returned (.tuple #[u, .int .i64 1]) ∧ Nums w' u [] ∧ Below W.heap.size W w'))
    (C2 : Hid (∀ v W, Pts W v l → Calls Try.prog 14 #[v, .int .i64 0] W fun e w' => ∃ u, e = .returned (.tuple #[u, .int .i64 1]) ∧ Pts w' u [] ∧ Below W.heap.size W w')) :
    Calls Try.prog 7 #[.slice a n cap, .int .u32 u] w fun e w' => e = .returned (.bool true) ∧ Below w.heap.size w w' := by
  have HA := Lib.hid (fun W => awake_any W)
  have dn : decide (20 < (n : Int)) = false := decide_eq_false (by omega)
  have M := Lib.hid (MoI.init w _ u l NV.out)
  have HB := Lib.hid (MoI.bel w (.slice a n cap) u)
  clear NV
  go_enter Try.func7, Try.ntmps7
  go_wp2_with fail
  refine (HA.out _).mono ?_
  rintro e w1 ⟨rfl, h1⟩
  replace M := Lib.hid (M.out.below h1)
  replace HB := Lib.hid (bel_trans HB.out h1); clear h1
  have cl := M.out.bl.cell
  go_wp2_with fail
  refine (C1.out _ _ M.out.pv).mono ?_
  rintro e w2 ⟨V1, rfl, hx, h1⟩
  replace M := Lib.hid (M.out.below h1)
  replace HB := Lib.hid (bel_trans HB.out h1); clear h1 cl
  have X1 := bel_alloc (w := w2) (o := .cells #[V1] 35) (Below.refl _ _)
  have B1 := Lib.hid (Boxed.new w2 35 V1)
  obtain ⟨a1, c1, e1, _, _⟩ := hx
  replace e1 : V1 = .slice a1 0 c1 := e1
  subst e1
  replace M := Lib.hid (M.out.below X1)
  replace HB := Lib.hid (bel_trans HB.out X1); clear X1
  have cl := M.out.bl.cell
  go_wp2_with fail
  refine (C2.out _ _ M.out.pv).mono ?_
  rintro e w3 ⟨V2, rfl, hx, h1⟩
  replace B1 := Lib.hid (bxd_below B1.out h1)
  replace HB := Lib.hid (bel_trans HB.out h1); clear h1 cl M
  obtain ⟨a2, c2, e2, _, _⟩ := hx
  replace e2 : V2 = .slice a2 0 c2 := e2
  subst e2
  have X1 := bel_alloc (w := w3) (o := .cells #[.slice a2 0 c2] 28) (Below.refl _ _)
  replace B1 := Lib.hid (bxd_below B1.out X1)
  replace HB := Lib.hid (bel_trans HB.out X1); clear X1
  have cx := B1.out.cell
  go_wp2
  go_returns
  exact ⟨rfl, HB.out⟩
set_option maxHeartbeats 32000000 in
set_option maxRecDepth 100000 in
theorem good (a : Option Addr) (n cap : Nat) (u : Int) (xs : List Int) (C l : List (Int × Int)) (w : World) (h : n ≤ 20) (hu : 0 ≤ u ∧ u ≤ 4294967295) (hl : l.length = n) (NV : Hid (Pts w (.slice a n cap) l)) (zx : xs.length ≤ 1000) (zc : C.length ≤ 1000)
    (hx : Hid (∀ x ∈ xs, 0 ≤ x ∧ x < n)) (hC : Hid (∀ j, j < C.length → ¬ (gX C j ∈ xs ∧ gR C j ∈ xs))) (hb : Hid (∀ j, j < C.length → (∃ p : Nat, gX C j = p ∧ p < n) ∧ ∃ p : Nat, gR C j = p ∧ p < n))
    (hm : Hid ((∀ j, j < C.length → ¬ (biA u (gX C j).toNat = true ∧ biA u (gR C j).toNat = true)) → ctB (biA u) n ≤ xs.length))
    (C1 : Hid (∀ v W, Pts W v l → Calls Try.prog 19 #[v] W fun e w' => ∃ u, e = .returned (.tuple #[u, .int .i64 0]) ∧ Nums w' u xs ∧ Below W.heap.size W w'))
    (C2 : Hid (∀ v W, Pts W v l → Calls Try.prog 14 #[v, .int .i64 0] W fun e w' => ∃ u, e = .returned (.tuple #[u, .int .i64 0]) ∧ Pts w' u C ∧ Below W.heap.size W w')) :
    Calls Try.prog 7 #[.slice a n cap, .int .u32 u] w fun e w' => e = .returned (.bool true) ∧ Below w.heap.size w w' := by
  have HA := Lib.hid (fun W => awake_any W)
  have hmf : ∀ (fn : Fn) (first cap : Array Value) (w : World), (Instr.makeFunc fn first cap).run Try.prog w = .ok (.func fn first cap) w := fun _ _ _ _ => rfl
  have eg1 : ∀ args w, (callFunc 28 args).run Try.prog w = .ok (.enter 28 args) w := enters_of Try.func28 (by kernel_rfl) rfl
  have dn : decide (20 < (n : Int)) = false := decide_eq_false (by omega)
  have M := Lib.hid (MoI.init w _ u l NV.out)
  have HB := Lib.hid (MoI.bel w (.slice a n cap) u)
  clear NV
  go_enter Try.func7, Try.ntmps7
  go_wp2_with fail
  refine (HA.out _).mono ?_
  rintro e w1 ⟨rfl, h1⟩
  replace M := Lib.hid (M.out.below h1)
  replace HB := Lib.hid (bel_trans HB.out h1); clear h1 HA
  have cl := M.out.bl.cell
  go_wp2_with fail
  refine (C1.out _ _ M.out.pv).mono ?_
  rintro e w2 ⟨V1, rfl, hn1, h1⟩
  replace M := Lib.hid (M.out.below h1)
  replace HB := Lib.hid (bel_trans HB.out h1); clear h1 cl C1
  obtain ⟨a1, c1, e1, q1⟩ := hn1
  replace hn1 : Nums w2 V1 xs := ⟨a1, c1, e1, q1⟩
  subst e1
  have X1 := bel_alloc (w := w2) (o := .cells #[.slice a1 xs.length c1] 35) (Below.refl _ _)
  have B1 := Lib.hid (Boxed.new w2 35 (.slice a1 xs.length c1))
  have N1 := Lib.hid (hn1.below X1)
  replace M := Lib.hid (M.out.below X1)
  replace HB := Lib.hid (bel_trans HB.out X1); clear X1 hn1
  have cl := M.out.bl.cell
  go_wp2_with fail
  refine (C2.out _ _ M.out.pv).mono ?_
  rintro e w3 ⟨V2, rfl, hn2, h1⟩
  replace M := Lib.hid (M.out.below h1)
  replace B1 := Lib.hid (bxd_below B1.out h1)
  replace N1 := Lib.hid (N1.out.below h1)
  replace HB := Lib.hid (bel_trans HB.out h1); clear h1 cl C2
  obtain ⟨a2, c2, e2, _, _⟩ := hn2.shape
  subst e2
  have X1 := bel_alloc (w := w3) (o := .cells #[.slice a2 C.length c2] 28) (Below.refl _ _)
  have B2 := Lib.hid (Boxed.new w3 28 (.slice a2 C.length c2))
  replace M := Lib.hid (M.out.below X1)
  replace B1 := Lib.hid (bxd_below B1.out X1)
  replace N1 := Lib.hid (N1.out.below X1)
  have N2 := Lib.hid (hn2.below X1)
  replace HB := Lib.hid (bel_trans HB.out X1); clear X1 hn2
  have F1 := Lib.hid (free_any w3.heap.size 31 #[.pointer (some ⟨w2.heap.size, 0, none⟩)] (fun x => decide (x ∈ xs)) (enters_of Try.func31 (by kernel_rfl) rfl) _ C false _ zc N2.out B2.out.lt B2.out.cell
    (Lib.hid fun i W _ hW => mo2_any w2.heap.size _ xs i W (N1.out.below hW) (cell_bel B1.out.cell hW))
    (by
      constructor
      · intro h; cases h
      · rintro ⟨j, hj, e⟩
        simp only [Bool.and_eq_true, decide_eq_true_eq] at e
        exact absurd e (hC.out j hj)))
  clear hC
  go_wp2_with fail
  refine F1.out.mono ?_
  rintro e w4 ⟨rfl, h1⟩
  replace M := Lib.hid (M.out.below h1)
  replace B1 := Lib.hid (bxd_below B1.out h1)
  replace B2 := Lib.hid (bxd_below B2.out h1)
  replace N1 := Lib.hid (N1.out.below h1)
  replace N2 := Lib.hid (N2.out.below h1)
  replace HB := Lib.hid (bel_trans HB.out h1); clear h1 F1
  have F3 := Lib.hid (coni_of (.func (.func 34) #[] #[.pointer (some ⟨w.heap.size, 0, none⟩)]) _ a1 xs.length c1 rfl (fun _ => false) false w4
    (Lib.hid (idxi_any 34 #[.pointer (some ⟨w.heap.size, 0, none⟩)] (fun _ => false) (enters_of Try.func34 (by kernel_rfl) rfl) _ xs w4 zx N1.out
      (Lib.hid fun j W hj hW => mo3_any w.heap.size a n cap _ W (by omega) (hx.out _ (getD_mem hj)) (cell_bel M.out.bl.cell hW))))
    (Lib.hid (by
      constructor
      · intro h; cases h
      · rintro ⟨j, hj, e⟩; cases e)))
  clear hx
  have cx := B1.out.cell
  go_wp2_with fail
  refine F3.out.mono ?_
  rintro e w5 ⟨rfl, h1⟩
  replace M := Lib.hid (M.out.below h1)
  replace B1 := Lib.hid (bxd_below B1.out h1)
  replace B2 := Lib.hid (bxd_below B2.out h1)
  replace N1 := Lib.hid (N1.out.below h1)
  replace N2 := Lib.hid (N2.out.below h1)
  replace HB := Lib.hid (bel_trans HB.out h1); clear h1 F3 cx
  have cl := M.out.bl.cell
  go_wp2_with fail
  have BR := Lib.hid (Below.refl w5.heap.size w5)
  go_loopw [10, 49] (fun mm ii wr => ∃ k : Nat, k ≤ n ∧ ii = .int .i64 (k : Int) ∧ mm = .int .i64 (ctB (biA u) k) ∧ Hid (Below w5.heap.size w5 wr)) (fun _ ii _ => n - (intOf ii).toNat)
  case atStart => exact ⟨0, Nat.zero_le _, rfl, rfl, BR⟩
  case round =>
    clear BR
    obtain ⟨k, hk, rfl, rfl, hB⟩ := hrel
    by_cases hlt : k < n
    · have l0 : (k : Int) < (n : Int) := by omega
      have cb := (M.out.below hB.out).bc.cell
      have e1 := bit_is k hu
      have e0 : ((k : Int)).toNat = k := by omega
      have hc : Hid (ctB (biA u) (k + 1) = ctB (biA u) k + (if biA u k = true then 1 else 0)) := Lib.hid rfl
      have bd := ctB_bd (biA u) k
      have hE2 : u / 2 ^ ((k : Int)).toNat = u / 2 ^ k := by rw [e0]
      clear cl e0
      generalize ctB (biA u) k = G at *
      cases hq : biA u k with
      | true =>
        rw [hq, if_pos rfl] at e1 hc
        clear hq
        have wg : IntKind.i64.wrap (G + 1) = G + 1 := wrap_in _ ⟨by omega, by omega⟩
        go_wp2
        go_roundw
        case rel => exact ⟨k + 1, by omega, by go_num, by first | (rw [hc.out]; done) | (rw [hc.out, e1]; exact congrArg (Value.int IntKind.i64) wg), hB⟩
        case measure => simp [intOf]; omega
      | false =>
        rw [hq, if_neg (by decide)] at e1 hc
        clear hq
        have wg : IntKind.i64.wrap (G + 0) = G + 0 := wrap_in _ ⟨by omega, by omega⟩
        have wg2 : IntKind.i64.wrap G = G := wrap_in _ ⟨by omega, by omega⟩
        go_wp2
        go_roundw
        case rel => exact ⟨k + 1, by omega, by go_num, by first | (rw [hc.out]; done) | (rw [hc.out]; rfl) | (rw [hc.out, Int.add_zero]; done) | (rw [hc.out, e1]; exact congrArg (Value.int IntKind.i64) wg) | (rw [hc.out]; simp; done), hB⟩
        case measure => simp [intOf]; omega
    · obtain rfl : n = k := by omega
      replace M := Lib.hid (M.out.below hB.out)
      replace B1 := Lib.hid (bxd_below B1.out hB.out)
      replace B2 := Lib.hid (bxd_below B2.out hB.out)
      replace N2 := Lib.hid (N2.out.below hB.out)
      replace HB := Lib.hid (bel_trans HB.out hB.out)
      have bd := ctB_bd (biA u) n
      clear cl N1 hB
      have cx := B1.out.cell
      by_cases hge : ctB (biA u) n ≤ xs.length
      · have dg : decide (ctB (biA u) n ≤ (xs.length : Int)) = true := decide_eq_true hge
        clear hm
        generalize ctB (biA u) n = G at *
        go_wp2
        go_returns
        exact ⟨rfl, HB.out⟩
      · have dg : decide (ctB (biA u) n ≤ (xs.length : Int)) = false := decide_eq_false hge
        have F4 := Lib.hid (free_any w3.heap.size 35 #[.pointer (some ⟨w.heap.size + 1, 0, none⟩)] (fun x => biA u x.toNat) (enters_of Try.func35 (by kernel_rfl) rfl) _ C true _ zc N2.out B2.out.lt B2.out.cell
          (Lib.hid fun i W hi hW => by
            have : ∃ p : Nat, i = p ∧ p < n := by
              obtain ⟨j, hj, e | e⟩ := hi
              · rw [e]; exact (hb.out j hj).1
              · rw [e]; exact (hb.out j hj).2
            obtain ⟨p, rfl, hp⟩ := this
            exact mo4_any (w.heap.size + 1) u p W hu (by omega) (cell_bel M.out.bc.cell hW))
          (by
            refine ⟨fun _ => ?_, fun _ => rfl⟩
            rcases Classical.em (∃ j, j < C.length ∧ (biA u (gX C j).toNat && biA u (gR C j).toNat) = true) with g | g
            · exact g
            · refine absurd (hm.out fun j hj e => g ⟨j, hj, by rw [e.1, e.2]; rfl⟩) hge))
        clear hm
        generalize ctB (biA u) n = G at *
        go_wp2_with fail
        refine F4.out.mono ?_
        rintro e w7 ⟨rfl, h1⟩
        replace HB := Lib.hid (bel_trans HB.out h1); clear h1
        go_wp2
        go_returns
        exact ⟨rfl, HB.out⟩
theorem walk (v : Value) (l : List (Int × Int)) (u : Int) (w : World) (hv : Pts w v l) (hu : 0 ≤ u ∧ u ≤ 4294967295) :
    Calls Try.prog 7 #[v, .int .u32 u] w fun e w' => e = .returned (.bool true) ∧ Below w.heap.size w w' := by
  have hv2 := hv
  obtain ⟨a, cap, rfl, _, _⟩ := hv.shape
  by_cases hn : 20 < l.length
  · exact long a l.length cap u l w hn (Lib.hid hv2)
  have H1 := fun v W h => auLg_any v l W h
  have H2 := fun v W h => auCc_any v l 0 W h
  by_cases he : auE l = 0
  · have hA := auE_zero.1 he
    have e1 : leE l = 0 := by unfold leE; rw [if_pos he]
    obtain ⟨s1, s2, s3⟩ := lg_spec hA
    have hbd := mxL_bd l l.length l.length
    have hcl := ccL_len l 0 (by omega)
    rw [e1] at H1
    rw [ccE_ok hA (Int.le_refl _) (by omega)] at H2
    have hat : ∀ j, j < (ccL l 0).length → ∃ p q : Nat, gX (ccL l 0) j = p ∧ gR (ccL l 0) j = q ∧ p < l.length ∧ q < l.length := fun j hj => by
      have hm := gx_mem hj
      rw [ccL_ok hA (Int.le_refl _) (by omega)] at hm
      obtain ⟨p, q, hp, hq, _, _, e⟩ := clA_mem.1 hm
      rw [← ccL_ok hA (Int.le_refl _) (by omega)] at e
      simp only [Prod.mk.injEq] at e
      exact ⟨p, q, e.1, e.2, hp, hq⟩
    refine good a l.length cap u (lgL l) (ccL l 0) l w (by omega) hu rfl (Lib.hid hv2) (by omega) (by omega) (Lib.hid s2) (Lib.hid fun j hj => s3 _ (gx_mem hj)) (Lib.hid fun j hj => by obtain ⟨p, q, a, b, c, d⟩ := hat j hj; exact ⟨⟨p, a, c⟩, q, b, d⟩) (Lib.hid fun h => ?_) (Lib.hid H1) (Lib.hid H2)
    rw [s1]
    refine lg_most hA fun c hc => ?_
    obtain ⟨i, hi, g1, g2⟩ := mem_gx hc
    rw [← g1, ← g2]
    exact h i hi
  · have e1 : leE l = 1 := by unfold leE; rw [if_neg he]
    have e2 : lgL l = [] := by unfold lgL; rw [if_neg he]
    have e3 : ccE l 0 = 1 := by unfold ccE; first | rw [if_pos he] | (rw [if_neg (by omega), if_pos he]) | (split <;> simp_all)
    have e4 : ccL l 0 = [] := by unfold ccL; rw [if_neg (by rw [e3]; decide)]
    rw [e1, e2] at H1
    rw [e3, e4] at H2
    exact bad a l.length cap u l w (by omega) (Lib.hid hv2) (Lib.hid H1) (Lib.hid H2)

set_option maxRecDepth 100000 in
theorem lifted (os : Os) (started : os.Started) (H : Type) (enc : TypeId × Value → H) :
    ReturnsInHanded {} Try.checked os 7 .any (Rows.auditMostSpec.pre6 enc Try.prog Try.f7 Rows.auditMostRow.domain false) (Rows.auditMostSpec.post enc Try.prog Try.f7 false true false false) := by
  refine returnsInHanded_of_change (C := Try.checked) own started (by kernel_rfl) Try.func7
    (ChangeSpec.witness6 (enc := enc) (C := Try.checked) false ⟨#[], #[.slice none 0 0, .int .u32 0], []⟩ 8 (by kernel_rfl) (by kernel_rfl) (by kernel_rfl) (by kernel_rfl)) ?_
  intro W base args ds gs before hval0 hW hcnd _
  have hval : ∀ (j : Nat) t v, Try.f7.params[j]? = some t → args[j]? = some v → Value.okWide Try.prog W .any base t v := hval0
  clear hval0
  have hW' := hW
  obtain ⟨p, q, hA0, hV, rfl, hfz, hnd⟩ := hW
  have hA : DataW.TrodAll enc Try.prog W 0 (fun _ => true) true Try.f7.params.toList args.toList ds p := hA0
  rw [Try.params7] at hA hval
  obtain ⟨v0, vs0, d0, ds0, p0, q0, hargs, rfl, rfl, h0, r0⟩ := trodAll_cons hA
  obtain ⟨v1, vs1, d1, ds1, p1, q1, rfl, rfl, rfl, h1, r1⟩ := trodAll_cons r0
  obtain ⟨rfl, rfl, rfl⟩ := trodAll_nil r1
  obtain rfl : args = #[v0, v1] := by cases args; simp_all
  obtain ⟨rfl, rfl⟩ := trodVars_none hV
  have k0 := h0
  have lt0 : ∀ x ∈ p0, x.block < W.heap.size := by obtain ⟨m, hm⟩ := k0; exact DataW.trod_lt m _ _ _ hm
  have k1 := h1
  have lt1 : ∀ x ∈ p1, x.block < W.heap.size := by obtain ⟨m, hm⟩ := k1; exact DataW.trod_lt m _ _ _ hm
  obtain ⟨z0, w0⟩ := open_pts (hval 0 22 v0 rfl rfl) h0
  obtain ⟨a1, rfl, rfl, rfl, w1⟩ := open_int Try.underlying50 (hval 1 50 v1 rfl rfl) h1
  clear hA0
  refine (walk v0 z0 a1 W w0 (bounds_u32 w1)).mono fun e W' ⟨he, bel⟩ => ?_
  subst he
  exact ⟨_, rfl, _, _, _, [], _, [], hW', trodAll_mk1 (shut_bool Try.underlying4 _), (trodAll_cons_mk (Below.trod laidOut (by kernel_rfl) (of_decide_eq_true (by kernel_rfl)) k0 bel lt0) (trodAll_cons_mk (Below.trod laidOut (by kernel_rfl) (of_decide_eq_true (by kernel_rfl)) k1 bel lt1) trodAll_mk0)), rfl, bel.frame _, fun h => by cases h⟩

theorem over : Rows.auditMostRow.holds Try.pinned (OpenSpec.ofChange Rows.auditMostSpec) :=
  OpenClaim.holds_of_wide 7 Try.f7 rfl rfl rfl rfl rfl rfl rfl ⟨rfl, rfl, rfl, rfl, rfl⟩ rfl rfl rfl rfl rfl (by kernel_rfl) Try.func7 (by kernel_rfl)
    (of_decide_eq_true (by kernel_rfl)) (by unfold Func.isWrapper; first | (rw [if_pos (by decide +kernel)]; kernel_rfl) | (rw [if_neg (by decide +kernel)]; exact ⟨rfl, rfl⟩))
    (fun os started H enc _ => lifted os started H enc)

theorem proved : Rows.AuditMostSaid := over
#print axioms proved
end Go.Proofs.Ytooofppgjknigaa.auditMost
