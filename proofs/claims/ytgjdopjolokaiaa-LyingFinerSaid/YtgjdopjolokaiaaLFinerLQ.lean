/-
  The statement LyingFiner of spile/spilelaw11 holds: for every input the call returns true, and each argument reads afterwards as it read before.
-/
import Derived.Test.YtgjdopjolokaiaaM5
import Derived.Test.YtgjdopjolokaiaaShelfI
import Derived.Laws.OwnMore
import Derived.Shelf.Spec.SlicesInsert
import Derived.Shelf.Spec.SlicesInsertGrow
import Derived.Below
import Derived.Carry

set_option linter.unusedVariables false
set_option linter.unusedSimpArgs false

namespace Go.Proofs.Ytgjdopjolokaiaa
open Go.RowKit

namespace SFk
theorem getD_app_l {l m : List Int} {i : Nat} (h : i < l.length) : (l ++ m).getD i 0 = l.getD i 0 := by
  rw [List.getD_eq_getElem?_getD, List.getElem?_append_left h, ← List.getD_eq_getElem?_getD]
theorem getD_app_r {l m : List Int} {i : Nat} (h : l.length ≤ i) : (l ++ m).getD i 0 = m.getD (i - l.length) 0 := by
  rw [List.getD_eq_getElem?_getD, List.getElem?_append_right h, ← List.getD_eq_getElem?_getD]
theorem rfk_even (l : List Int) (k i : Nat) (h : i ≤ k) : (rfk l k).getD (2 * i) 0 = l.getD i 0 := by
  induction k with
  | zero => obtain rfl : i = 0 := by omega
            rfl
  | succ k ih =>
    have hl := rfk_len l k
    show (rfk l k ++ _).getD (2 * i) 0 = _
    by_cases hi : i ≤ k
    · rw [getD_app_l (by omega)]; exact ih hi
    · obtain rfl : i = k + 1 := by omega
      rw [getD_app_r (by omega), hl, show 2 * (k + 1) - (2 * k + 1) = 1 by omega]; rfl
theorem rfk_odd (l : List Int) (k i : Nat) (h : i < k) : (rfk l k).getD (2 * i + 1) 0 = (l.getD i 0 + l.getD (i + 1) 0) / 2 := by
  induction k with
  | zero => omega
  | succ k ih =>
    have hl := rfk_len l k
    show (rfk l k ++ _).getD (2 * i + 1) 0 = _
    by_cases hi : i < k
    · rw [getD_app_l (by omega)]; exact ih hi
    · obtain rfl : i = k := by omega
      rw [getD_app_r (by omega), hl, show 2 * i + 1 - (2 * i + 1) = 0 by omega]; rfl
theorem rfk_right {l : List Int} (h : HR l) (h1 : l.length ≤ 33) : HR (rfk l (l.length - 1)) := by
  have hl := rfk_len l (l.length - 1)
  have n0 := h.n0
  refine ⟨by omega, by omega, fun i hi => ?_, fun i hi => ?_⟩
  · rcases Nat.mod_two_eq_zero_or_one i with e | e
    · rw [show i = 2 * (i / 2) by omega, rfk_even _ _ _ (by omega)]
      exact h.bd _ (by omega)
    · rw [show i = 2 * (i / 2) + 1 by omega, rfk_odd _ _ _ (by omega)]
      have a := h.bd (i / 2) (by omega)
      have b := h.bd (i / 2 + 1) (by omega)
      omega
  · rcases Nat.mod_two_eq_zero_or_one i with e | e
    · have a := h.asc (i / 2) (by omega)
      have e0 := rfk_even l (l.length - 1) (i / 2) (by omega)
      have e1 := rfk_odd l (l.length - 1) (i / 2) (by omega)
      rw [show 2 * (i / 2) = i by omega] at e0 e1
      omega
    · have a := h.asc (i / 2) (by omega)
      have e0 := rfk_odd l (l.length - 1) (i / 2) (by omega)
      have e1 := rfk_even l (l.length - 1) (i / 2 + 1) (by omega)
      rw [show 2 * (i / 2) + 1 = i by omega] at e0
      rw [show 2 * (i / 2 + 1) = i + 1 by omega] at e1
      omega
end SFk
end Go.Proofs.Ytgjdopjolokaiaa

namespace Go.Proofs.Ytgjdopjolokaiaa
open Go.RowKit

theorem map_at (zs : List Int) (j : Nat) (v : Value) (h : (zs.map (Value.int .i64))[j]? = some v) : j < zs.length ∧ v = .int .i64 (zs.getD j 0) := by
  have hj : j < zs.length := by
    rcases Nat.lt_or_ge j zs.length with h' | h'
    · exact h'
    · rw [List.getElem?_eq_none (by simpa using h')] at h; cases h
  refine ⟨hj, ?_⟩
  rw [List.getElem?_map, List.getElem?_eq_getElem hj] at h
  simp only [Option.map_some, Option.some.injEq] at h
  rw [← h, List.getD_eq_getElem?_getD, List.getElem?_eq_getElem hj, Option.getD_some]
theorem pins_cells (zs : List Int) (i : Nat) (x : Int) (hi : i ≤ zs.length) (j : Nat) (hj : j < zs.length + 1) :
    (j < i → (Value.int IntKind.i64 ((pins zs i x).getD j 0)) = .int .i64 (zs.getD j 0)) ∧ (j = i → (Value.int IntKind.i64 ((pins zs i x).getD j 0)) = .int .i64 x) ∧ (i < j → (Value.int IntKind.i64 ((pins zs i x).getD j 0)) = .int .i64 (zs.getD (j - 1) 0)) := by
  refine ⟨fun h => ?_, fun h => ?_, fun h => ?_⟩
  · rw [pins_at x hi, if_pos h]
  · rw [pins_at x hi, if_neg (by omega), if_pos h]
  · rw [pins_at x hi, if_neg (by omega), if_neg (by omega)]
/-- two stores of rows, read: what stood, the new one, what stood from there on -/
theorem ins_cells (g i : Nat) (zs : List Int) (x : Int) (w : World) (hi : i ≤ zs.length) (hs : ∀ j, j < zs.length + 1 → (w.cell? ⟨g, j, none⟩).isSome = true) (h0 : ∀ j, j < i → w.cell? ⟨g, j, none⟩ = some (.int .i64 (zs.getD j 0))) (W : World)
    (hW : (∀ a, W.cell? a = ((w.setCells g i [.int .i64 x]).setCells g (i + 1) ((zs.map (Value.int .i64)).drop i)).cell? a) ∨ (∀ a, W.cell? a = ((w.setCells g (i + 1) ((zs.map (Value.int .i64)).drop i)).setCells g i [.int .i64 x]).cell? a)) :
    ∀ j, j < zs.length + 1 → W.cell? ⟨g, j, none⟩ = some (.int .i64 ((pins zs i x).getD j 0)) := by
  intro j hj
  obtain ⟨p0, p1, p2⟩ := pins_cells zs i x hi j hj
  have hdl : ((zs.map (Value.int .i64)).drop i).length = zs.length - i := by simp
  have isS : ∀ (vs : List Value) (o : Nat) (W : World), (∀ j, j < zs.length + 1 → (W.cell? ⟨g, j, none⟩).isSome = true) → o + vs.length ≤ zs.length + 1 → ∀ j, j < zs.length + 1 → ((W.setCells g o vs).cell? ⟨g, j, none⟩).isSome = true := fun vs o W h ho j hj => by
    by_cases e : o ≤ j ∧ j < o + vs.length
    · have := World.cell?_setCells_in g vs o W (fun k hk => h _ (by omega)) (j - o) (by omega)
      rw [show o + (j - o) = j by omega] at this
      rw [this]; rfl
    · rw [World.cell?_setCells_out g vs o W _ (fun _ _ => by show j < o ∨ o + vs.length ≤ j; omega)]
      exact h j hj
  have dr : ∀ k (hk : k < ((zs.map (Value.int .i64)).drop i).length), ((zs.map (Value.int .i64)).drop i)[k] = .int .i64 (zs.getD (i + k) 0) := fun k hk => by
    rw [hdl] at hk
    rw [List.getElem_drop, List.getElem_map, List.getD_eq_getElem?_getD, List.getElem?_eq_getElem (by omega), Option.getD_some]
  rcases hW with hW | hW
  · rw [hW]
    have s1 := isS [.int .i64 x] i w hs (by simp; omega)
    rcases Nat.lt_trichotomy j i with h | h | h
    · rw [p0 h, World.cell?_setCells_out g _ _ _ _ (fun _ _ => .inl (by show j < i + 1; omega)), World.cell?_setCells_out g _ _ _ _ (fun _ _ => .inl (by show j < i; omega))]
      exact h0 j h
    · rw [p1 h, World.cell?_setCells_out g _ _ _ _ (fun _ _ => .inl (by show j < i + 1; omega))]
      have := World.cell?_setCells_in g [Value.int .i64 x] i w (fun k hk => hs _ (by simp at hk; omega)) 0 (by simp)
      rw [h]; exact this
    · have := World.cell?_setCells_in g ((zs.map (Value.int .i64)).drop i) (i + 1) (w.setCells g i [.int .i64 x]) (fun k hk => s1 _ (by omega)) (j - (i + 1)) (by omega)
      rw [show i + 1 + (j - (i + 1)) = j by omega] at this
      rw [this, dr, p2 h, show i + (j - (i + 1)) = j - 1 by omega]
  · rw [hW]
    have s1 := isS ((zs.map (Value.int .i64)).drop i) (i + 1) w hs (by omega)
    rcases Nat.lt_trichotomy j i with h | h | h
    · rw [p0 h, World.cell?_setCells_out g _ _ _ _ (fun _ _ => .inl (by show j < i; omega)), World.cell?_setCells_out g _ _ _ _ (fun _ _ => .inl (by show j < i + 1; omega))]
      exact h0 j h
    · have := World.cell?_setCells_in g [Value.int .i64 x] i (w.setCells g (i + 1) ((zs.map (Value.int .i64)).drop i)) (fun k hk => s1 _ (by simp at hk; omega)) 0 (by simp)
      rw [p1 h, h]; exact this
    · rw [World.cell?_setCells_out g [Value.int .i64 x] i _ _ (fun _ _ => .inr (by show i + 1 ≤ j; omega))]
      have := World.cell?_setCells_in g ((zs.map (Value.int .i64)).drop i) (i + 1) w (fun k hk => hs _ (by omega)) (j - (i + 1)) (by omega)
      rw [show i + 1 + (j - (i + 1)) = j by omega] at this
      rw [this, dr, p2 h, show i + (j - (i + 1)) = j - 1 by omega]

theorem set_drew (b : Nat) : ∀ (vs : List Value) (o : Nat) (w : World), (w.drew).setCells b o vs = (w.setCells b o vs).drew
  | [], _, _ => rfl
  | v :: r, o, w => by
    rw [World.setCells, World.setCells, ← set_drew b r]; rfl
theorem insert_own (B i : Nat) (u : Value) (zs : List Int) (x : Int) (W : World) (h : W.ownsRow B 3 1 u zs.length (zs.map (Value.int .i64))) (hB : B ≤ W.heap.size) (hi : i < zs.length) (hn : zs.length ≤ 1000) :
    Calls Try.prog 23 #[u, .int .i64 i, .slice (some ⟨W.heap.size, 0, none⟩) 1 1] (W.alloc (.cells #[.int .i64 x] 3)) fun e w' => ∃ z, e = .returned z ∧ Nums w' z (pins zs i x) ∧ Below B W w' := by
  have hrow := h
  obtain ⟨h1, h2⟩ := h
  rcases h2 with ⟨rfl, h0⟩ | ⟨g, cap, cur, rfl, hg, hh, hc, hm, hs, ht⟩
  · omega
  have hlt : g < W.heap.size := (Array.getElem?_eq_some_iff.1 hh).1
  obtain ⟨w, hw⟩ : ∃ w, w = W.alloc (.cells #[.int .i64 x] 3) := ⟨_, rfl⟩
  have hh' : w.heap[g]? = some (.cells cur 3 (0, 0)) := by rw [hw, Below.heap_alloc _ _ _ hlt]; exact hh
  have hh2 : w.heap[W.heap.size]? = some (.cells #[.int .i64 x] 3 (0, 0)) := by
    rw [hw]; show (W.heap.push _)[_]? = _; simp
  have hvc : w.cell? ⟨W.heap.size, 0, none⟩ = some (.int .i64 x) := by rw [hw]; simp [go_sem]
  have hsz : w.heap.size = W.heap.size + 1 := by rw [hw]; simp
  have bw0 : Below W.heap.size W w := by rw [hw]; exact bel_alloc (Below.refl _ _)
  have bw : Below B W w := by rw [hw]; exact (Below.refl B W).alloc hB _
  have hcell : ∀ j, j < zs.length → w.cell? ⟨g, j, none⟩ = some (.int .i64 (zs.getD j 0)) := fun j hj => by
    have := World.ownsRow.cellAt hrow j (by omega)
    rw [(bcell bw0).1 _ _ hlt, this, List.getElem?_map, List.getElem?_eq_getElem hj, List.getD_eq_getElem?_getD, List.getElem?_eq_getElem hj]; rfl
  have hcs : ∀ j v, (zs.map (Value.int .i64))[j]? = some v → w.cell? ⟨g, 0 + j, none⟩ = some v := fun j v hv => by
    obtain ⟨hj, rfl⟩ := map_at zs j v hv
    rw [Nat.zero_add]; exact hcell j hj
  have hvs : ∀ j v, [Value.int .i64 x][j]? = some v → w.cell? ⟨W.heap.size, 0 + j, none⟩ = some v := fun j v hv => by
    match j, hv with
    | 0, hv => simp at hv; rw [← hv]; exact hvc
    | j + 1, hv => simp at hv
  have h1c : ∀ v ∈ zs.map (Value.int .i64), v.oneCell' = true := fun v hv => by
    obtain ⟨z, _, rfl⟩ := List.mem_map.1 hv; rfl
  have h1v : ∀ v ∈ [Value.int .i64 x], v.oneCell' = true := fun v hv => by
    rw [List.mem_singleton] at hv; rw [hv]; rfl
  rw [← hw]
  by_cases hroom : zs.length + 1 ≤ cap
  · have hsp : ∀ j, j < zs.length + 1 → (w.cell? ⟨g, 0 + j, none⟩).isSome = true := fun j hj => by
      simp only [World.cell?, hh', Nat.zero_add]
      rw [if_neg (by simp), Array.getElem?_eq_getElem (by omega)]; rfl
    have := Any2.slices_Insert_int_shift Try.laysNm221 g 0 zs.length cap i W.heap.size 0 1 1 (zs.map (Value.int .i64)) [Value.int .i64 x] w hi (by omega) hroom (by unfold maxLen at hm; omega) (by omega) (by simp) rfl hcs hsp (fun j hj => by simp [World.frozen?, hh']) hvs h1c h1v 3 3 1 cur.size (by simp [World.shape?, hh2]) (by simp [World.shape?, hh']) (by omega) (by rw [hw]; simp [go_sem]) (by rw [hw]; simp [go_sem])
    refine Calls.mono this ?_
    rintro e w' ⟨rfl, rfl⟩
    refine ⟨_, rfl, ⟨_, cap, by rw [pins_len x (by omega)], by rw [pins_len x (by omega)]; unfold maxLen at hm; omega, .inr ⟨g, 0, rfl, ?_, fun j hj => ?_⟩⟩, ?_⟩
    · rw [LTQ.set_size, LTQ.set_size]; show g < w.heap.size; omega
    · rw [pins_len x (by omega)] at hj
      simp only [Nat.zero_add]
      refine ins_cells g i zs x w.drew (by omega) (fun j hj => ?_) (fun j hj => hcell j (by omega)) _ (.inr fun a => rfl) j hj
      have := hsp j hj
      rwa [Nat.zero_add] at this
    · exact ((bw.drew).trans (LTQ.below_cells hg _ _ _)).trans (LTQ.below_cells hg _ _ _)
  · have := Any2.slices_Insert_int_grow Try.laysNm221 g 0 zs.length cap i W.heap.size 0 1 1 (zs.map (Value.int .i64)) [Value.int .i64 x] w hi (by omega) hc (by omega) (by omega) (by simp) rfl hcs hvs h1c h1v
    rw [show Try.laysNm221_ren.t 3 = 3 from rfl] at this
    refine Calls.mono this ?_
    rintro e w' ⟨rfl, rfl⟩
    have gc := grownCap_ge w (zs.length + 1) cap 3
    have gm := grownCap_le_maxLen w (zs.length + 1) cap 3 (by unfold maxLen; omega)
    refine ⟨_, rfl, ⟨_, _, by rw [pins_len x (by omega)], by rw [pins_len x (by omega)]; unfold maxLen at gm; exact ⟨gc, by omega⟩, .inr ⟨w.heap.size, 0, rfl, ?_, fun j hj => ?_⟩⟩, ?_⟩
    · rw [LTQ.set_size]; show _ < (World.setCells _ _ _ _).heap.size; rw [LTQ.set_size]; simp
    · rw [pins_len x (by omega)] at hj
      simp only [Nat.zero_add]
      obtain ⟨G, hG⟩ : ∃ G, G = grownCap w (zs.length + 1) cap 3 := ⟨_, rfl⟩
      rw [← hG]
      obtain ⟨ROW, hROW⟩ : ∃ ROW : Array Value, ROW = ((zs.map (Value.int .i64)).take i).toArray ++ Builtin.zeroCells (Value.int .i64 0).cells (zs.length + 1 - i) ++ Builtin.zeroCells (Value.int .i64 0).cells (G - (zs.length + 1)) := ⟨_, rfl⟩
      rw [← hROW]
      have hR : zs.length + 1 ≤ ROW.size := by
        rw [hROW]
        simp [Builtin.zeroCells, Value.cells]
        omega
      have hc0 : ∀ j, ((w.alloc (.cells ROW 3)).drew).cell? ⟨w.heap.size, j, none⟩ = ROW[j]? := fun j => by
        show (w.alloc (.cells ROW 3)).cell? _ = _
        simp [go_sem]
      refine ins_cells w.heap.size i zs x (w.alloc (.cells ROW 3)).drew (by omega) (fun j hj => ?_) (fun j hj => ?_) _ (.inl fun a => by rw [set_drew]; rfl) j hj
      · rw [hc0, Array.getElem?_eq_getElem (by omega)]; rfl
      · rw [hc0, hROW, Array.append_assoc, Array.getElem?_append_left (by simp; omega), List.getElem?_toArray, List.getElem?_take, if_pos hj, List.getElem?_map, List.getElem?_eq_getElem (by omega), List.getD_eq_getElem?_getD, List.getElem?_eq_getElem (by omega)]; rfl
    · exact ((((bw.alloc (by omega) _).drew).trans (LTQ.below_cells (show B ≤ w.heap.size by omega) _ _ _)).drew).trans (LTQ.below_cells (show B ≤ w.heap.size by omega) _ _ _)
end Go.Proofs.Ytgjdopjolokaiaa

namespace Go.Proofs.Ytgjdopjolokaiaa
open Go.RowKit

theorem within_any (q : Nat) (L H lo hi : Int) (w : World) (h : Two q w (.int .i64 L) (.int .i64 H)) (h1 : L ≤ lo) (h2 : hi ≤ H) :
    Calls Try.prog 20 #[.agg #[.int .i64 lo, .int .i64 hi], .int .i64 0, .pointer (some ⟨q, 0, none⟩)] w fun e w' => e = .returned (.bool true) ∧ Below w.heap.size w w' := by
  obtain ⟨c0, c1, _, _, hq⟩ := h
  have n0 : q ≠ w.heap.size := by omega
  have n1 : w.heap.size ≠ q := by omega
  go_enter Try.func20, Try.ntmps20
  go_wp2
  go_returns
  exact ⟨rfl, bel_alloc (Below.refl _ _)⟩

theorem cnt_lt (x : Int) : ∀ (ps : List Int), ps.Pairwise (· ≤ ·) → ∀ j, j < ps.length → (ps.getD j 0 < x ↔ j < ps.countP (fun z => decide (z < x)))
  | [], _, j, hj => by simp at hj
  | a :: l, h, j, hj => by
    obtain ⟨h1, h2⟩ := List.pairwise_cons.1 h
    by_cases ha : a < x
    · rw [List.countP_cons_of_pos (by simpa using ha)]
      cases j with
      | zero => simp [ha]
      | succ j =>
        have := cnt_lt x l h2 j (by simpa using hj)
        simp only [List.getD_cons_succ]
        rw [this]; omega
    · rw [List.countP_cons_of_neg (by simpa using ha), List.countP_eq_zero.2 (fun b hb => by have := h1 b hb; simp; omega)]
      have : a ≤ (a :: l).getD j 0 := by
        cases j with
        | zero => simp
        | succ j =>
          simp only [List.getD_cons_succ]
          have hj' : j < l.length := by simpa using hj
          rw [List.getD_eq_getElem?_getD, List.getElem?_eq_getElem hj', Option.getD_some]
          exact h1 _ (List.getElem_mem _)
      omega
theorem asc_pairwise {ps : List Int} (h : ∀ i, i + 1 < ps.length → ps.getD i 0 < ps.getD (i + 1) 0) : ps.Pairwise (· ≤ ·) := by
  rw [List.pairwise_iff_getElem]
  intro i j hi hj hij
  have := asc_lt h hij hj
  rw [List.getD_eq_getElem?_getD, List.getElem?_eq_getElem hi, List.getD_eq_getElem?_getD, List.getElem?_eq_getElem hj] at this
  exact Int.le_of_lt this
theorem pin_of {l : List (Int × Int)} {ps : List Int} {x : Int} (hP : PlR l ps) (hx : ps.contains x = false) (x0 : 0 ≤ x) (x1 : x ≤ ps.getD (ps.length - 1) 0) : PinP ps (ps.countP (fun z => decide (z < x))) x := by
  have n0 := hP.n0
  have hs := asc_pairwise hP.asc
  have ne : ∀ j, j < ps.length → ps.getD j 0 ≠ x := fun j hj e => by
    have : x ∈ ps := by
      rw [← e, List.getD_eq_getElem?_getD, List.getElem?_eq_getElem hj, Option.getD_some]; exact List.getElem_mem _
    rw [← List.contains_iff_mem, hx] at this
    cases this
  have a0 := cnt_lt x ps hs 0 (by omega)
  have a1 := cnt_lt x ps hs (ps.length - 1) (by omega)
  have b0 := ne 0 (by omega)
  have b1 := ne (ps.length - 1) (by omega)
  rw [hP.z] at a0 b0
  have c0 : 0 < ps.countP (fun z => decide (z < x)) := a0.1 (by omega)
  have c1 : ¬ ps.length - 1 < ps.countP (fun z => decide (z < x)) := fun h => by have := a1.2 h; omega
  have d0 := cnt_lt x ps hs (ps.countP (fun z => decide (z < x)) - 1) (by omega)
  have d1 := cnt_lt x ps hs (ps.countP (fun z => decide (z < x))) (by omega)
  have d2 := ne (ps.countP (fun z => decide (z < x))) (by omega)
  exact ⟨c0, by omega, d0.2 (by omega), by omega⟩

theorem search_any (b off n cap : Nat) (ps : List Int) (x : Int) (w : World) (h : Nums w (.slice (some ⟨b, off, none⟩) n cap) ps) (n0 : 0 < n) (hn : n ≤ 1000) (hs : ps.Pairwise (· ≤ ·)) :
    Calls Try.prog 22 #[.slice (some ⟨b, off, none⟩) n cap, .int .i64 x] w fun e w' => e = .returned (.tuple #[.int .i64 (ps.countP (fun z => decide (z < x)) : Nat), .bool (ps.contains x)]) ∧ Below w.heap.size w w' := by
  have hl := LTQ.nlen h
  obtain ⟨b', off', e, hb, hc⟩ := LTQ.nums_at h n0
  simp only [Option.some.injEq, Addr.mk.injEq, and_true] at e
  obtain ⟨rfl, rfl⟩ := e
  subst hl
  refine (Try.slices_BinarySearch_int b off ps.length cap ps x w (Nat.le_refl _) (by omega) hc (by rw [List.take_length]; exact hs)).mono ?_
  rintro e w' ⟨rfl, q, rfl⟩
  rw [List.take_length]
  exact ⟨rfl, bel_drewN w q⟩
theorem clone_row2 (v : Value) (zs : List Int) (w : World) (h : Nums w v zs) (hn : zs.length ≤ 1000) :
    Calls Try.prog 16 #[v] w fun e w' => ∃ u, e = .returned u ∧ w'.ownsRow w.heap.size 3 1 u zs.length (zs.map (Value.int .i64)) ∧ Below w.heap.size w w' := clone_own v zs w h hn
/-- one more place: the bounds lie within -/
theorem more_in {c : Ck} {ps hs : List Int} {x : Int} (he : lrE c ps hs = 0) (hn : ps.length ≤ 64) (hx : ps.contains x = false) (x0 : 0 ≤ x) (x1 : x ≤ ps.getD (ps.length - 1) 0) :
    lrE c (pins ps (ps.countP (fun z => decide (z < x))) x) hs = 0 ∧ btwL c ps hs ≤ btwL c (pins ps (ps.countP (fun z => decide (z < x))) x) hs ∧ btwH c (pins ps (ps.countP (fun z => decide (z < x))) x) hs ≤ btwH c ps hs ∧ ps.countP (fun z => decide (z < x)) < ps.length := by
  obtain ⟨⟨⟨h1, h2⟩, h3, h4⟩, h5⟩ := lrE_zero.1 he
  obtain ⟨_, _, _, hR⟩ := ccE_pf h1
  have hp := pin_of h3 hx x0 x1
  have hi := hp.i2
  have ln := pins_len x (show ps.countP (fun z => decide (z < x)) ≤ ps.length by omega)
  have e2 : lrE c (pins ps (ps.countP (fun z => decide (z < x))) x) hs = 0 := lrE_zero.2 ⟨⟨⟨h1, h2⟩, pins_right h3 hp (by omega), by omega⟩, h5⟩
  have n0 := h5.n0
  have m0 := h3.n0
  have t := (tb_more (c := bgR c.pf) hR h3 hp h5 (hs.length - 1) (by omega)).2 (ps.length - 1) (by omega) (by omega)
  rw [show ps.length - 1 + 1 = (pins ps (ps.countP (fun z => decide (z < x))) x).length - 1 by omega] at t
  refine ⟨e2, ?_, ?_, hi⟩
  · unfold btwL; rw [if_pos he, if_pos e2]; exact t.1
  · unfold btwH; rw [if_pos he, if_pos e2]; exact t.2
/-- refined heights: the bounds lie within -/
theorem fine_in {c : Ck} {ps hs : List Int} (he : lrE c ps hs = 0) (hr : rfE hs = 0) :
    lrE c ps (rfL hs) = 0 ∧ btwL c ps hs ≤ btwL c ps (rfL hs) ∧ btwH c ps (rfL hs) ≤ btwH c ps hs := by
  obtain ⟨⟨⟨h1, h2⟩, h3, h4⟩, h5⟩ := lrE_zero.1 he
  obtain ⟨_, _, _, hR⟩ := ccE_pf h1
  have e0 : hcE hs = 0 := (hcE_iff hs).2 h5
  have hl : ¬ 65 < 2 * hs.length - 1 := fun h => by
    unfold rfE at hr
    rw [if_pos e0, if_pos h] at hr
    cases hr
  have n0 := h5.n0
  have m0 := h3.n0
  have eL : rfL hs = rfk hs (hs.length - 1) := by unfold rfL; rw [if_pos hr]
  have hM : HR (rfL hs) := by rw [eL]; exact SFk.rfk_right h5 (by omega)
  have e2 : lrE c ps (rfL hs) = 0 := lrE_zero.2 ⟨⟨⟨h1, h2⟩, h3, h4⟩, hM⟩
  have t := tb_finer (c := bgR c.pf) (m := rfL hs) hR h3 h5 (fun i hi => by rw [eL]; exact SFk.rfk_even hs _ i (by omega)) (fun i hi => by
    rw [eL, SFk.rfk_odd hs _ i (by omega)]
    have := h5.asc i hi
    omega) (hs.length - 1) (by omega) (ps.length - 1) (by omega)
  have ln : (rfL hs).length - 1 = 2 * (hs.length - 1) := by rw [eL, rfk_len]; omega
  refine ⟨e2, ?_, ?_⟩
  · unfold btwL; rw [if_pos he, if_pos e2, ln]; exact t.1
  · unfold btwH; rw [if_pos he, if_pos e2, ln]; exact t.2
end Go.Proofs.Ytgjdopjolokaiaa

namespace Go.Proofs.Ytgjdopjolokaiaa.lyingFiner
open Go.ChangeShapes Go.WideShapes Go.ChangeAt Go.RowKit
open Go.ChangeMaps (open_string shut_string)
set_option linter.unusedVariables false

set_option maxHeartbeats 32000000 in
set_option maxRecDepth 100000 in
theorem core (mo X L H E E2 L2 H2 L3 H3 : Int) (at' nx : Nat) (is : Bool) (a : Option Addr) (n cap : Nat) (c : Ck) (a2 : Option Addr) (n2 cap2 : Nat) (a3 : Option Addr) (n3 cap3 : Nat) (ps hs ms qs : List Int) (xs : List (Int × Int)) (sL sH : Nat → Int) (w : World) (B1 : Bool)
    (KB : Hid (CkB w.heap.size (w.alloc (.cells #[.string c.nm, .int .i64 c.ps, .slice a n cap, .int .i64 c.dc] 24)) c)) (NP : Hid (Nums (w.alloc (.cells #[.string c.nm, .int .i64 c.ps, .slice a n cap, .int .i64 c.dc] 24)) (.slice a2 n2 cap2) ps)) (NH : Hid (Nums (w.alloc (.cells #[.string c.nm, .int .i64 c.ps, .slice a n cap, .int .i64 c.dc] 24)) (.slice a3 n3 cap3) hs))
    (hc : n = c.pf.length) (hl2 : Hid (ps.length = n2)) (hxl : Hid (xs.length = nx)) (hpf : Hid (B1 = true → c.pf.length ≤ 1000)) (hps : Hid (B1 = true → ps.length ≤ 1000)) (hhs : Hid (B1 = true → hs.length ≤ 1000)) (hn2 : n2 ≤ 9223372036854775807) (hn3 : n3 ≤ 9223372036854775807)
    (hE : ((E == 0) = false ∧ (E != 0) = true ∧ L = 0 ∧ H = 0 ∧ nx = 0) ∨ (E = 0 ∧ n2 ≠ 0 ∧ n3 = nx + 1 ∧ 1 ≤ nx ∧ decide (H < L) = false ∧ Hid (ps.getD (n2 - 1) 0 = X) ∧ Hid (sL 0 = 0 ∧ sH 0 = 0 ∧ sL nx = L ∧ sH nx = H) ∧ Hid (∀ j, j < nx → sL j + gX xs j = sL (j + 1) ∧ sH j + gR xs j = sH (j + 1)) ∧ Hid (∀ j, j ≤ nx → (-9223372036854775808 ≤ sL j ∧ sL j ≤ 9223372036854775807) ∧ (-9223372036854775808 ≤ sH j ∧ sH j ≤ 9223372036854775807))))
    (hF : ((E2 == 0) = false) ∨ (E2 = 0 ∧ Hid (E = 0 → L ≤ L2 ∧ H2 ≤ H)))
    (hS : is = true ∨ (is = false ∧ decide (mo < 0) = true) ∨ (is = false ∧ decide (mo < 0) = false ∧ decide (X < mo) = true) ∨ (is = false ∧ decide (mo < 0) = false ∧ decide (X < mo) = false ∧ decide (64 < (n2 : Int)) = true) ∨ (is = false ∧ decide (mo < 0) = false ∧ decide (X < mo) = false ∧ decide (64 < (n2 : Int)) = false ∧ Hid (E = 0 → L ≤ L3 ∧ H3 ≤ H)))
    (FW : Hid (∀ v u W, CkV W v c → Lns W u [n2, n3] → Calls Try.prog 9 #[v, u] W fun e w' => e = .returned (.bool B1) ∧ Below W.heap.size W w'))
    (H1 : Hid (∀ v u h W, CkV W v c → Nums W u ps → Nums W h hs → Calls Try.prog 18 #[v, u, h] W fun e w' => e = .returned (.tuple #[.agg #[.int .i64 L, .int .i64 H], .int .i64 E]) ∧ Below W.heap.size W w'))
    (HT : Hid (∀ v u h W, CkV W v c → Nums W u ps → Nums W h hs → Calls Try.prog 19 #[v, u, h] W fun e w' => ∃ z, e = .returned (.tuple #[z, .int .i64 E]) ∧ Pts w' z xs ∧ Below W.heap.size W w'))
    (HF : Hid (∀ v W, Nums W v hs → Calls Try.prog 21 #[v] W fun e w' => ∃ u, e = .returned (.tuple #[u, .int .i64 E2]) ∧ Nums w' u ms ∧ Below W.heap.size W w'))
    (H2' : Hid (E = 0 → E2 = 0 → ∀ v u h W, CkV W v c → Nums W u ps → Nums W h ms → Calls Try.prog 18 #[v, u, h] W fun e w' => e = .returned (.tuple #[.agg #[.int .i64 L2, .int .i64 H2], .int .i64 0]) ∧ Below W.heap.size W w'))
    (HQ : Hid (E = 0 → ∀ W, Nums W (.slice a2 n2 cap2) ps → Calls Try.prog 22 #[.slice a2 n2 cap2, .int .i64 mo] W fun e w' => e = .returned (.tuple #[.int .i64 at', .bool is]) ∧ Below W.heap.size W w'))
    (HI : Hid (E = 0 → is = false → decide (mo < 0) = false → decide (X < mo) = false → decide (64 < (n2 : Int)) = false → ∀ B v W, W.ownsRow B 3 1 v ps.length (ps.map (Value.int .i64)) → B ≤ W.heap.size → Calls Try.prog 23 #[v, .int .i64 at', .slice (some ⟨W.heap.size, 0, none⟩) 1 1] (W.alloc (.cells #[.int .i64 mo] 3)) fun e w' => ∃ z, e = .returned z ∧ Nums w' z qs ∧ Below B W w'))
    (H3' : Hid (E = 0 → is = false → decide (mo < 0) = false → decide (X < mo) = false → decide (64 < (n2 : Int)) = false → ∀ v u h W, CkV W v c → Nums W u qs → Nums W h hs → Calls Try.prog 18 #[v, u, h] W fun e w' => e = .returned (.tuple #[.agg #[.int .i64 L3, .int .i64 H3], .int .i64 0]) ∧ Below W.heap.size W w')) :
    Calls Try.prog 4 #[.agg #[.string c.nm, .int .i64 c.ps, .slice a n cap, .int .i64 c.dc], .slice a2 n2 cap2, .slice a3 n3 cap3, .int .i64 mo] w fun e w' => e = .returned (.bool true) ∧ Below w.heap.size w w' := by
  subst hc
  have HA := Lib.hid (fun W => awake_any W)
  have Q1 : ∀ (p q : Int) W, (binOp .eql 40 (.agg #[.int .i64 p, .int .i64 q]) (.agg #[.int .i64 p, .int .i64 q])).run Try.prog W = .ok (.bool true) W := fun p q W => by rw [run_eql_bounds, show samB p q p q = true by simp [samB]]
  have Q2 : ∀ (p q : Int) W, (binOp .neq 40 (.agg #[.int .i64 p, .int .i64 q]) (.agg #[.int .i64 p, .int .i64 q])).run Try.prog W = .ok (.bool false) W := fun p q W => by rw [run_neq_bounds, show samB p q p q = true by simp [samB]]; rfl
  have HB := Lib.hid ((Below.refl w.heap.size w).alloc (Nat.le_refl _) (.cells #[.string c.nm, .int .i64 c.ps, .slice a c.pf.length cap, .int .i64 c.dc] 24))
  go_enter Try.func4, Try.ntmps4
  go_wp2_with fail
  refine (HA.out _).mono ?_
  rintro e w5 ⟨rfl, h1⟩
  replace HB := Lib.hid (bel_trans HB.out h1)
  replace NP := Lib.hid (NP.out.below h1)
  replace NH := Lib.hid (NH.out.below h1)
  replace KB := Lib.hid (KB.out.below h1); clear h1
  obtain ⟨a4, cap4, c0, c1, c2, c3, kv⟩ := KB.out.val
  have FO := Lib.hid (FW.out _ _ (w5.alloc (.cells #[.slice a2 n2 cap2, .slice a3 n3 cap3] 25)) (kv.alloc _) (lns_two w5 a2 a3 n2 cap2 n3 cap3 _ hn2 hn3))
  clear kv
  generalize hL : c.pf.length = LN at *
  go_wp2_with fail
  refine FO.out.mono ?_
  rintro e w6 ⟨rfl, h1⟩
  replace h1 := bel_alloc h1
  replace HB := Lib.hid (bel_trans HB.out h1)
  replace NP := Lib.hid (NP.out.below h1)
  replace NH := Lib.hid (NH.out.below h1)
  replace KB := Lib.hid (KB.out.below h1); clear h1
  clear FO c0 c1 c2 c3
  cases B1 with
  | false =>
    go_wp2
    go_returns
    exact ⟨rfl, HB.out⟩
  | true =>
    have OW : Hid (∀ v W, CkV W v c → Calls Try.prog 15 #[v] W fun e w' => ∃ u, e = .returned u ∧ CkV w' u c ∧ Below W.heap.size W w') := Lib.hid fun v W h => own_any v c W h (by rw [hL]; exact hpf.out rfl)
    have CW : Hid (∀ W, Nums W (.slice a2 n2 cap2) ps → Calls Try.prog 16 #[.slice a2 n2 cap2] W fun e w' => ∃ u, e = .returned u ∧ Nums w' u ps ∧ Below W.heap.size W w') := Lib.hid fun W h => clone_nums _ ps W h (hps.out rfl)
    have CH : Hid (∀ W, Nums W (.slice a3 n3 cap3) hs → Calls Try.prog 16 #[.slice a3 n3 cap3] W fun e w' => ∃ u, e = .returned u ∧ Nums w' u hs ∧ Below W.heap.size W w') := Lib.hid fun W h => clone_nums _ hs W h (hhs.out rfl)
    obtain ⟨a4, cap4, c0, c1, c2, c3, kv⟩ := KB.out.val
    rw [hL] at c2 kv
    go_wp2_with fail
    refine (OW.out _ _ kv).mono ?_
    rintro e w3 ⟨V1, rfl, hx, h1⟩
    replace KB := Lib.hid (KB.out.below h1)
    replace NP := Lib.hid (NP.out.below h1)
    replace NH := Lib.hid (NH.out.below h1)
    replace HB := Lib.hid (bel_trans HB.out h1); clear h1
    have N1 := Lib.hid hx; clear hx
    clear c0 c1 c2 c3 kv
    go_wp2_with fail
    refine (CW.out _ NP.out).mono ?_
    rintro e w4 ⟨V2, rfl, hx, h1⟩
    replace KB := Lib.hid (KB.out.below h1)
    replace NP := Lib.hid (NP.out.below h1)
    replace NH := Lib.hid (NH.out.below h1)
    replace N1 := Lib.hid (N1.out.below h1)
    replace HB := Lib.hid (bel_trans HB.out h1); clear h1
    have N2 := Lib.hid hx; clear hx
    go_wp2_with fail
    refine (CH.out _ NH.out).mono ?_
    rintro e w5 ⟨V3, rfl, hx, h1⟩
    replace KB := Lib.hid (KB.out.below h1)
    replace NP := Lib.hid (NP.out.below h1)
    replace NH := Lib.hid (NH.out.below h1)
    replace N1 := Lib.hid (N1.out.below h1)
    replace N2 := Lib.hid (N2.out.below h1)
    replace HB := Lib.hid (bel_trans HB.out h1); clear h1
    have N3 := Lib.hid hx; clear hx
    go_wp2_with fail
    refine (H1.out _ _ _ _ N1.out N2.out N3.out).mono ?_
    rintro e w6 ⟨rfl, h1⟩
    replace KB := Lib.hid ((KB.out.below h1).alloc (.cells #[.int .i64 L, .int .i64 H] 40))
    replace NP := Lib.hid ((NP.out.below h1).alloc (.cells #[.int .i64 L, .int .i64 H] 40))
    replace NH := Lib.hid ((NH.out.below h1).alloc (.cells #[.int .i64 L, .int .i64 H] 40))
    replace N1 := Lib.hid ((N1.out.below h1).alloc (.cells #[.int .i64 L, .int .i64 H] 40))
    replace N2 := Lib.hid ((N2.out.below h1).alloc (.cells #[.int .i64 L, .int .i64 H] 40))
    replace N3 := Lib.hid ((N3.out.below h1).alloc (.cells #[.int .i64 L, .int .i64 H] 40))
    replace HB := Lib.hid ((bel_trans HB.out h1).alloc (bel_trans HB.out h1).size (.cells #[.int .i64 L, .int .i64 H] 40)); clear h1
    have T1 := Lib.hid (Two.new w6 (.int .i64 L) (.int .i64 H) 40)
    clear N1 N2 N3
    obtain ⟨a5, cap5, c0, c1, c2, c3, kv⟩ := KB.out.val
    rw [hL] at c2 kv
    go_wp2_with fail
    refine (OW.out _ _ kv).mono ?_
    rintro e w8 ⟨V4, rfl, hx, h1⟩
    replace KB := Lib.hid (KB.out.below h1)
    replace NP := Lib.hid (NP.out.below h1)
    replace NH := Lib.hid (NH.out.below h1)
    replace T1 := Lib.hid (T1.out.below h1)
    replace HB := Lib.hid (bel_trans HB.out h1); clear h1
    have N4 := Lib.hid hx; clear hx
    clear c0 c1 c2 c3 kv
    go_wp2_with fail
    refine (CW.out _ NP.out).mono ?_
    rintro e w9 ⟨V5, rfl, hx, h1⟩
    replace KB := Lib.hid (KB.out.below h1)
    replace NP := Lib.hid (NP.out.below h1)
    replace NH := Lib.hid (NH.out.below h1)
    replace T1 := Lib.hid (T1.out.below h1)
    replace N4 := Lib.hid (N4.out.below h1)
    replace HB := Lib.hid (bel_trans HB.out h1); clear h1
    have N5 := Lib.hid hx; clear hx
    go_wp2_with fail
    refine (CH.out _ NH.out).mono ?_
    rintro e w10 ⟨V6, rfl, hx, h1⟩
    replace KB := Lib.hid (KB.out.below h1)
    replace NP := Lib.hid (NP.out.below h1)
    replace NH := Lib.hid (NH.out.below h1)
    replace T1 := Lib.hid (T1.out.below h1)
    replace N4 := Lib.hid (N4.out.below h1)
    replace N5 := Lib.hid (N5.out.below h1)
    replace HB := Lib.hid (bel_trans HB.out h1); clear h1
    have N6 := Lib.hid hx; clear hx
    go_wp2_with fail
    refine (HT.out _ _ _ _ N4.out N5.out N6.out).mono ?_
    rintro e w11 ⟨X1, rfl, hx, h1⟩
    replace KB := Lib.hid (KB.out.below h1)
    replace NP := Lib.hid (NP.out.below h1)
    replace NH := Lib.hid (NH.out.below h1)
    replace T1 := Lib.hid (T1.out.below h1)
    replace N4 := Lib.hid (N4.out.below h1)
    replace N5 := Lib.hid (N5.out.below h1)
    replace N6 := Lib.hid (N6.out.below h1)
    replace HB := Lib.hid (bel_trans HB.out h1); clear h1
    have NX := Lib.hid hx; clear hx
    clear N4 N5 N6
    have nx0 := NX.out
    obtain ⟨ax, capx, eX, hcx, hxx⟩ := nx0
    rw [hxl.out] at eX hcx hxx
    subst eX
    clear FW HA H1 HT
    rcases hE with ⟨e1, e2, rfl, rfl, rfl⟩ | ⟨rfl, n0, rfl, nx1, hLH, hX, hs0, hs1, hs2⟩
    · skip
      have he1 : (E == E) = true := by simp
      obtain ⟨T10, T11, T12, T13, T14⟩ := T1.out
      go_wp2
      go_returns
      exact ⟨rfl, HB.out⟩
    · obtain ⟨k2, rfl⟩ : ∃ k2, n2 = k2 + 1 := ⟨n2 - 1, by omega⟩
      have hk : k2 ≤ 999 := by have h1 := hps.out (by trivial); have h2 := hl2.out; omega
      have e0 : ((k2 : Int) + 1 == 0) = false := by simp; omega
      have hh3 : nx ≤ 1000 := by have h1 := hhs.out (by trivial); have := LTQ.nlen NH.out; omega
      obtain ⟨b2, off2, rfl, hb2, hcell⟩ := LTQ.nums_at NP.out (by omega)
      rcases hxx with hxx | ⟨bx, ox, rfl, hbx, hxc⟩
      · omega
      replace hcell := Lib.hid hcell
      replace hxc := Lib.hid hxc
      go_upto_region 10 with fail
      obtain ⟨bs, hbs⟩ : ∃ bs, bs = w11.heap.size := ⟨_, rfl⟩
      obtain ⟨W1, hW1⟩ : ∃ W1, W1 = w11.alloc (.cells #[.int .i64 0, .int .i64 0] 40) := ⟨_, rfl⟩
      have TS := Two.new w11 (.int .i64 0) (.int .i64 0) 40
      have BB : Below w11.heap.size w11 W1 := by rw [hW1]; exact bel_alloc (Below.refl _ _)
      rw [← hW1, ← hbs] at TS
      have TS0 : Hid (Two bs W1 (.int .i64 (sL 0)) (.int .i64 (sH 0))) := Lib.hid (by rw [hs0.out.1, hs0.out.2.1]; exact TS)
      replace BB := Lib.hid BB
      have hbs' : w11.heap.size ≤ bs := Nat.le_of_eq hbs.symm
      rw [← hW1, ← hbs]
      clear hW1 hbs TS
      go_wp2_with fail
      go_loopw [15, 67] (fun _ ii wr => ∃ j : Nat, j ≤ nx ∧ ii = .int .i64 j ∧ Hid (Below w11.heap.size w11 wr) ∧ Hid (Two bs wr (.int .i64 (sL j)) (.int .i64 (sH j)))) (fun _ ii _ => nx - (intOf ii).toNat)
      case atStart => exact ⟨0, Nat.zero_le _, rfl, BB, TS0⟩
      case round =>
        obtain ⟨j, hj, rfl, hB, hT⟩ := hrel
        by_cases hlt : j < nx
        · have d0 : wr.cell? ⟨bx, ox + j * 2, none⟩ = some (.int .i64 (gX xs j)) := by rw [(bcell hB.out).1 _ _ hbx]; exact (hxc.out j (by have := hxl.out; omega)).1
          have d1 : wr.cell? ⟨bx, ox + j * 2 + 1, none⟩ = some (.int .i64 (gR xs j)) := by rw [(bcell hB.out).1 _ _ hbx]; exact (hxc.out j (by have := hxl.out; omega)).2
          have st := hs1.out j hlt
          have bd := hs2.out (j + 1) (by omega)
          have T2 : Hid (Two bs ((((wr.setCell ⟨bs, 0, none⟩ (.int .i64 (sL (j + 1)))).setCell ⟨bs, 1, none⟩ (.int .i64 (sH (j + 1)))).alloc (.cells #[.int .i64 (gX xs j), .int .i64 (gR xs j)] 40)).drew) (.int .i64 (sL (j + 1))) (.int .i64 (sH (j + 1)))) := Lib.hid (((hT.out.both _ _).alloc _).below (bel_drew _))
          have B2 : Hid (Below w11.heap.size w11 ((((wr.setCell ⟨bs, 0, none⟩ (.int .i64 (sL (j + 1)))).setCell ⟨bs, 1, none⟩ (.int .i64 (sH (j + 1)))).alloc (.cells #[.int .i64 (gX xs j), .int .i64 (gR xs j)] 40)).drew)) := Lib.hid (bel_al2 ((hB.out.setCell (p := ⟨bs, 0, none⟩) hbs' _).setCell (p := ⟨bs, 1, none⟩) hbs' _) _).drew
          have wl : IntKind.i64.wrap (sL j + gX xs j) = sL (j + 1) := by rw [st.1]; exact wrap_in _ bd.1
          have wh : IntKind.i64.wrap (sH j + gR xs j) = sH (j + 1) := by rw [st.2]; exact wrap_in _ bd.2
          obtain ⟨s0, s1, sf0, sf1, slt⟩ := hT.out
          have hbxr : bx < wr.heap.size := Nat.lt_of_lt_of_le hbx hB.out.size
          have n0 : bs ≠ wr.heap.size := by omega
          have n1 : wr.heap.size ≠ bs := by omega
          have l0 : (j : Int) < (nx : Int) := by omega
          clear st bd
          generalize gX xs j = y0 at *
          generalize gR xs j = y1 at *
          generalize er0 : sL (j + 1) = r0 at *
          generalize er1 : sH (j + 1) = r1 at *
          replace er0 := Lib.hid er0
          replace er1 := Lib.hid er1
          generalize sL j = p0 at *
          generalize sH j = p1 at *
          go_wp2_with fail
          go_region
          all_goals go_wp2
          all_goals go_roundw
          case rel => exact ⟨j + 1, by omega, by go_num, B2, Lib.hid (by rw [er0.out, er1.out]; exact T2.out)⟩
          case measure => simp [intOf]; omega
        · obtain rfl : j = nx := by omega
          replace hT := Lib.hid (show Two bs wr (.int .i64 L) (.int .i64 H) by have := hT.out; rw [hs0.out.2.2.1, hs0.out.2.2.2] at this; exact this)
          replace HB := Lib.hid (bel_trans HB.out hB.out)
          replace KB := Lib.hid (KB.out.below hB.out)
          replace NP := Lib.hid (NP.out.below hB.out)
          replace NH := Lib.hid (NH.out.below hB.out)
          replace T1 := Lib.hid (T1.out.below hB.out)
          have w1' : IntKind.i64.wrap ((k2 : Int) + 1 - 1) = (k2 : Int) := by rw [wrap_in _ ⟨by omega, by omega⟩]; omega
          have w2' : IntKind.i64.wrap (k2 : Int) = (k2 : Int) := wrap_in _ ⟨by omega, by omega⟩
          have l1' : (k2 : Int) < (k2 : Int) + 1 := by omega
          have v1' : IntKind.i64.wrap ((j : Int) + 1 - 1) = (j : Int) := by rw [wrap_in _ ⟨by omega, by omega⟩]; omega
          have v2' : IntKind.i64.wrap (j : Int) = (j : Int) := wrap_in _ ⟨by omega, by omega⟩
          have v3' : ((j : Int) != (j : Int)) = false := by simp
          obtain ⟨t0, t1, _, _, _⟩ := T1.out
          obtain ⟨u0, u1, _, _, _⟩ := hT.out
          clear hB BB TS0 hxc hcell hs0 hs1 hs2
          clear NX
          go_wp2_with fail
          refine (CH.out _ NH.out).mono ?_
          rintro e w16 ⟨V7, rfl, hx, h1⟩
          replace KB := Lib.hid (KB.out.below h1)
          replace NP := Lib.hid (NP.out.below h1)
          replace NH := Lib.hid (NH.out.below h1)
          replace T1 := Lib.hid (T1.out.below h1)
          replace HB := Lib.hid (bel_trans HB.out h1); clear h1
          have N7 := Lib.hid hx; clear hx
          clear t0 t1 u0 u1 hT
          go_wp2_with fail
          refine (HF.out _ _ N7.out).mono ?_
          rintro e w17 ⟨VM, rfl, hx, h1⟩
          replace KB := Lib.hid (KB.out.below h1)
          replace NP := Lib.hid (NP.out.below h1)
          replace NH := Lib.hid (NH.out.below h1)
          replace T1 := Lib.hid (T1.out.below h1)
          replace N7 := Lib.hid (N7.out.below h1)
          replace HB := Lib.hid (bel_trans HB.out h1); clear h1
          have NM := Lib.hid hx; clear hx
          clear N7
          have OW2 := OW
          go_upto_region 19 with fail
          go_cut [132] from 174 (fun s wx => s = .bool false ∧ Hid (CkB w.heap.size wx c) ∧ Hid (Nums wx (.slice (some ⟨b2, off2, none⟩) (k2 + 1) cap2) ps) ∧ Hid (Nums wx (.slice a3 (j + 1) cap3) hs) ∧ Hid (Two w6.heap.size wx (.int .i64 L) (.int .i64 H)) ∧ Hid (Below w.heap.size w wx))
          case first =>
            rcases hF with r1 | ⟨rfl, hin⟩
            · go_wp2_with fail
              go_meet
              exact ⟨rfl, KB, NP, NH, T1, HB⟩
            · obtain ⟨a8, cap8, c0, c1, c2, c3, kv⟩ := KB.out.val
              rw [hL] at c2 kv
              go_wp2_with fail
              refine (OW.out _ _ kv).mono ?_
              rintro e w19 ⟨V8, rfl, hx, h1⟩
              replace KB := Lib.hid (KB.out.below h1)
              replace NP := Lib.hid (NP.out.below h1)
              replace NH := Lib.hid (NH.out.below h1)
              replace T1 := Lib.hid (T1.out.below h1)
              replace NM := Lib.hid (NM.out.below h1)
              replace HB := Lib.hid (bel_trans HB.out h1); clear h1
              have N8 := Lib.hid hx; clear hx
              clear c0 c1 c2 c3 kv
              go_wp2_with fail
              refine (CW.out _ NP.out).mono ?_
              rintro e w20 ⟨V9, rfl, hx, h1⟩
              replace KB := Lib.hid (KB.out.below h1)
              replace NP := Lib.hid (NP.out.below h1)
              replace NH := Lib.hid (NH.out.below h1)
              replace T1 := Lib.hid (T1.out.below h1)
              replace NM := Lib.hid (NM.out.below h1)
              replace N8 := Lib.hid (N8.out.below h1)
              replace HB := Lib.hid (bel_trans HB.out h1); clear h1
              have N9 := Lib.hid hx; clear hx
              go_wp2_with fail
              refine (H2'.out (by trivial) (by trivial) _ _ _ _ N8.out N9.out NM.out).mono ?_
              rintro e w21 ⟨rfl, h1⟩
              replace KB := Lib.hid (KB.out.below h1)
              replace NP := Lib.hid (NP.out.below h1)
              replace NH := Lib.hid (NH.out.below h1)
              replace T1 := Lib.hid (T1.out.below h1)
              replace NM := Lib.hid (NM.out.below h1)
              replace N8 := Lib.hid (N8.out.below h1)
              replace N9 := Lib.hid (N9.out.below h1)
              replace HB := Lib.hid (bel_trans HB.out h1); clear h1
              go_wp2_with fail
              refine (within_any _ _ _ _ _ _ T1.out (hin.out (by trivial)).1 (hin.out (by trivial)).2).mono ?_
              rintro e w22 ⟨rfl, h1⟩
              replace KB := Lib.hid (KB.out.below h1)
              replace NP := Lib.hid (NP.out.below h1)
              replace NH := Lib.hid (NH.out.below h1)
              replace T1 := Lib.hid (T1.out.below h1)
              replace NM := Lib.hid (NM.out.below h1)
              replace N8 := Lib.hid (N8.out.below h1)
              replace N9 := Lib.hid (N9.out.below h1)
              replace HB := Lib.hid (bel_trans HB.out h1); clear h1
              clear N8 N9
              go_wp2_with fail
              go_meet
              exact ⟨rfl, KB, NP, NH, T1, HB⟩
          case rest =>
            clear KB NP NH T1 HB
            clear NM
            obtain ⟨rfl, KB, NP, NH, T1, HB⟩ := hcut
            go_wp2_with fail
            refine (HQ.out (by trivial) _ NP.out).mono ?_
            rintro e w26 ⟨rfl, h1⟩
            replace KB := Lib.hid (KB.out.below h1)
            replace NP := Lib.hid (NP.out.below h1)
            replace NH := Lib.hid (NH.out.below h1)
            replace T1 := Lib.hid (T1.out.below h1)
            replace HB := Lib.hid (bel_trans HB.out h1); clear h1
            obtain ⟨b', off', eb, hb', hc'⟩ := LTQ.nums_at NP.out (by omega)
            simp only [Option.some.injEq, Addr.mk.injEq, and_true] at eb
            obtain ⟨rfl, rfl⟩ := eb
            have cX : ((w26)).cell? ⟨b2, off2 + k2, none⟩ = some (.int .i64 X) := by
              rw [hc' k2 (by omega)]
              have := hX.out
              rw [Nat.add_sub_cancel] at this
              rw [this]
            clear hc'
            rcases hS with rfl | ⟨rfl, g1⟩ | ⟨rfl, g1, g2⟩ | ⟨rfl, g1, g2, g3⟩ | ⟨rfl, g1, g2, g3, hin⟩
            · go_wp2
              go_returns
              exact ⟨rfl, HB.out⟩
            · go_wp2
              go_returns
              exact ⟨rfl, HB.out⟩
            · go_wp2
              go_returns
              exact ⟨rfl, HB.out⟩
            · rw [show (((k2 + 1 : Nat) : Int)) = (k2 : Int) + 1 from by omega] at g3
              go_wp2
              go_returns
              exact ⟨rfl, HB.out⟩
            · have HI2 := Lib.hid (HI.out (by trivial) (by trivial) g1 g2 g3)
              have HB2 := Lib.hid (H3'.out (by trivial) (by trivial) g1 g2 g3)
              rw [show (((k2 + 1 : Nat) : Int)) = (k2 : Int) + 1 from by omega] at g3
              clear HI H3'
              obtain ⟨a8, cap8, c0, c1, c2, c3, kv⟩ := KB.out.val
              rw [hL] at c2 kv
              go_wp2_with fail
              refine (OW.out _ _ kv).mono ?_
              rintro e w27 ⟨V12, rfl, hx, h1⟩
              replace KB := Lib.hid (KB.out.below h1)
              replace NP := Lib.hid (NP.out.below h1)
              replace NH := Lib.hid (NH.out.below h1)
              replace T1 := Lib.hid (T1.out.below h1)
              replace HB := Lib.hid (bel_trans HB.out h1); clear h1
              have N12 := Lib.hid hx; clear hx
              clear c0 c1 c2 c3 kv
              go_wp2_with fail
              refine (clone_row2 _ ps _ NP.out (hps.out (by trivial))).mono ?_
              rintro e w40 ⟨uo, rfl, ho, h1⟩
              have HB40 := h1.size
              have OO := Lib.hid ho
              clear ho
              go_wp2_with fail
              refine (HI2.out _ _ _ OO.out HB40).mono ?_
              rintro e w41 ⟨zi, rfl, hq, h2⟩
              have h12 := h1.trans h2
              replace KB := Lib.hid (KB.out.below h12)
              replace NH := Lib.hid (NH.out.below h12)
              replace T1 := Lib.hid (T1.out.below h12)
              replace N12 := Lib.hid (N12.out.below h12)
              replace HB := Lib.hid (bel_trans HB.out h12)
              have NQ := Lib.hid hq
              clear hq h1 h2 h12 OO HB40
              clear NP
              go_wp2_with fail
              refine (CH.out _ NH.out).mono ?_
              rintro e w31 ⟨V14, rfl, hx, h1⟩
              replace KB := Lib.hid (KB.out.below h1)
              replace NH := Lib.hid (NH.out.below h1)
              replace T1 := Lib.hid (T1.out.below h1)
              replace N12 := Lib.hid (N12.out.below h1)
              replace NQ := Lib.hid (NQ.out.below h1)
              replace HB := Lib.hid (bel_trans HB.out h1); clear h1
              have N14 := Lib.hid hx; clear hx
              go_wp2_with fail
              refine (HB2.out _ _ _ _ N12.out NQ.out N14.out).mono ?_
              rintro e w32 ⟨rfl, h1⟩
              replace KB := Lib.hid (KB.out.below h1)
              replace NH := Lib.hid (NH.out.below h1)
              replace T1 := Lib.hid (T1.out.below h1)
              replace N12 := Lib.hid (N12.out.below h1)
              replace NQ := Lib.hid (NQ.out.below h1)
              replace N14 := Lib.hid (N14.out.below h1)
              replace HB := Lib.hid (bel_trans HB.out h1); clear h1
              go_wp2_with fail
              refine (within_any _ _ _ _ _ _ T1.out (hin.out (by trivial)).1 (hin.out (by trivial)).2).mono ?_
              rintro e w33 ⟨rfl, h1⟩
              replace KB := Lib.hid (KB.out.below h1)
              replace NH := Lib.hid (NH.out.below h1)
              replace T1 := Lib.hid (T1.out.below h1)
              replace N12 := Lib.hid (N12.out.below h1)
              replace NQ := Lib.hid (NQ.out.below h1)
              replace N14 := Lib.hid (N14.out.below h1)
              replace HB := Lib.hid (bel_trans HB.out h1); clear h1
              go_wp2
              go_returns
              exact ⟨rfl, HB.out⟩
theorem walk (z : Value) (c : Ck) (u : Value) (ps : List Int) (h : Value) (hs : List Int) (mo : Int) (w : World) (hv : CkV w z c) (hu : Nums w u ps) (hz : ∀ z ∈ ps, (Lit.int .i64 z).wf = true) (hh : Nums w h hs) (hz2 : ∀ z ∈ hs, (Lit.int .i64 z).wf = true) (hm : -9223372036854775808 ≤ mo ∧ mo ≤ 9223372036854775807) :
    Calls Try.prog 4 #[z, u, h, .int .i64 mo] w fun e w' => e = .returned (.bool true) ∧ Below w.heap.size w w' := by
  obtain ⟨a, cap, rfl, hp, hw⟩ := hv
  have KB := Lib.hid (CkB.new hp hw)
  have hu' := hu
  have hh' := hh
  obtain ⟨a2, cap2, rfl, hc2, _⟩ := hu'
  obtain ⟨a3, cap3, rfl, hc3, _⟩ := hh'
  have fw : (fewC c && lnB [ps.length, hs.length]) = true → c.pf.length ≤ 1000 ∧ ps.length ≤ 1000 ∧ hs.length ≤ 1000 := fun h => by
    rw [Bool.and_eq_true] at h
    have h1 := fewC_pf h.1
    have h2 := h.2
    simp [lnB] at h2
    omega
  have g0 : ∀ x : Int, decide (x < 0) = false → 0 ≤ x := fun x h => by have := of_decide_eq_false h; omega
  have g1 : ∀ x y : Int, decide (x < y) = false → y ≤ x := fun x y h => by have := of_decide_eq_false h; omega
  have g3 : decide (64 < (ps.length : Int)) = false → ps.length ≤ 64 := fun h => by have := of_decide_eq_false h; omega
  refine core mo (ps.getD (ps.length - 1) 0) (btwL c ps hs) (btwH c ps hs) (lrE c ps hs) (rfE hs) (btwL c ps (rfL hs)) (btwH c ps (rfL hs)) (btwL c (pins ps (ps.countP (fun z => decide (z < mo))) mo) hs) (btwH c (pins ps (ps.countP (fun z => decide (z < mo))) mo) hs) (ps.countP (fun z => decide (z < mo))) (stL c ps hs).length (ps.contains mo) a _ cap c a2 _ cap2 a3 _ cap3 ps hs (rfL hs) (pins ps (ps.countP (fun z => decide (z < mo))) mo) (stL c ps hs) (fun j => tbL c.pf (bgR c.pf) ps hs j (ps.length - 1)) (fun j => tbH c.pf (bgR c.pf) ps hs j (ps.length - 1)) w (fewC c && lnB [ps.length, hs.length]) KB (Lib.hid (hu.alloc _)) (Lib.hid (hh.alloc _)) rfl rfl rfl (Lib.hid fun h => (fw h).1) (Lib.hid fun h => (fw h).2.1) (Lib.hid fun h => (fw h).2.2) (by omega) (by omega) ?_ ?_ ?_ (Lib.hid fun v u W h1 h2 => fewL_any v u c _ W h1 h2) (Lib.hid fun v u h W h1 h2 h3 => lyBw_any v u h c ps hs W h1 h2 h3) (Lib.hid fun v u h W h1 h2 h3 => lyStr_any v u h c ps hs W h1 h2 h3) (Lib.hid fun v W h => rfn_any v hs W h) (Lib.hid fun he hr v u h W h1 h2 h3 => ?_) (Lib.hid fun he W h1 => ?_) (Lib.hid fun he hx k0 k1 k2 B v W h1 h2 => ?_) (Lib.hid fun he hx k0 k1 k2 v u h W h1 h2 h3 => ?_)
  · by_cases e : lrE c ps hs = 0
    · right
      obtain ⟨⟨⟨h1, h2⟩, h3, h4⟩, h5⟩ := lrE_zero.1 e
      obtain ⟨_, _, _, hR⟩ := ccE_pf h1
      have n0 := h5.n0
      have m0 := h3.n0
      have eS : stL c ps hs = (List.range (hs.length - 1)).map (stF c ps hs) := by unfold stL; rw [if_pos e]
      have eN : (stL c ps hs).length = hs.length - 1 := by rw [eS]; simp
      have eL : btwL c ps hs = tbL c.pf (bgR c.pf) ps hs (hs.length - 1) (ps.length - 1) := by unfold btwL; rw [if_pos e]
      have eH : btwH c ps hs = tbH c.pf (bgR c.pf) ps hs (hs.length - 1) (ps.length - 1) := by unfold btwH; rw [if_pos e]
      have tz := tb_zero c.pf (bgR c.pf) ps hs (ps.length - 1)
      have pe := h3.e
      have bxl := hR.bx (c.pf.length - 1) (by have := hR.n0; omega)
      have tbd : ∀ j, j < hs.length → _ := fun j hj => tb_bd (c := bgR c.pf) hR h3 h5 j hj (ps.length - 1) (by omega)
      have q4 : ps.getD (ps.length - 1) 0 * 40000000000 ≤ 100000 * 40000000000 := by omega
      have b9 := tbd (hs.length - 1) (by omega)
      refine ⟨e, by omega, by omega, by omega, decide_eq_false (by rw [eL, eH]; omega), rfl, ⟨tz.1, tz.2, by rw [eN, eL], by rw [eN, eH]⟩, fun j hj => ?_, fun j hj => ?_⟩
      · have st := tb_strip c.pf (bgR c.pf) ps hs j (ps.length - 1)
        have hx : (stL c ps hs).getD j (0, 0) = stF c ps hs j := by
          rw [eS, List.getD_eq_getElem?_getD, List.getElem?_map, List.getElem?_range (by omega)]; rfl
        have hX : gX (stL c ps hs) j = xsL c.pf (bgR c.pf) ps (hs.getD j 0) (hs.getD (j + 1) 0) (ps.length - 1) := by unfold gX; rw [hx]; rfl
        have hY : gR (stL c ps hs) j = xsH c.pf (bgR c.pf) ps (hs.getD j 0) (hs.getD (j + 1) 0) (ps.length - 1) := by unfold gR; rw [hx]; rfl
        rw [hX, hY]
        exact ⟨st.1.symm, st.2.symm⟩
      · have := tbd j (by omega)
        show (_ ≤ tbL _ _ _ _ _ _ ∧ tbL _ _ _ _ _ _ ≤ _) ∧ (_ ≤ tbH _ _ _ _ _ _ ∧ tbH _ _ _ _ _ _ ≤ _)
        omega
    · left
      exact ⟨by simpa using e, by simpa using e, by unfold btwL; rw [if_neg e], by unfold btwH; rw [if_neg e], by unfold stL; rw [if_neg e]; rfl⟩
  · by_cases e : rfE hs = 0
    · right
      exact ⟨e, Lib.hid fun he => (fine_in he e).2⟩
    · left
      simpa using e
  · cases hx : ps.contains mo with
    | true => exact .inl rfl
    | false =>
      right
      cases h1 : decide (mo < 0) with
      | true => exact .inl ⟨rfl, rfl⟩
      | false =>
        right
        cases h2 : decide (ps.getD (ps.length - 1) 0 < mo) with
        | true => exact .inl ⟨rfl, rfl, rfl⟩
        | false =>
          right
          cases h3 : decide (64 < (ps.length : Int)) with
          | true => exact .inl ⟨rfl, rfl, rfl, rfl⟩
          | false =>
            right
            refine ⟨rfl, rfl, rfl, rfl, Lib.hid fun he => ?_⟩
            have := more_in he (g3 h3) hx (g0 _ h1) (g1 _ _ h2)
            exact ⟨this.2.1, this.2.2.1⟩
  · have := lyBw_any v u h c ps (rfL hs) W h1 h2 h3
    rwa [(fine_in he hr).1] at this
  · obtain ⟨⟨⟨_, _⟩, h3, h4⟩, h5⟩ := lrE_zero.1 he
    have m0 := h3.n0
    obtain ⟨b2, off2, rfl, _, _⟩ := LTQ.nums_at h1 (by omega)
    exact search_any b2 off2 _ cap2 ps mo W h1 (by omega) (by omega) (asc_pairwise h3.asc)
  · have hq := more_in he (g3 k2) hx (g0 _ k0) (g1 _ _ k1)
    exact insert_own B _ v ps mo W h1 h2 hq.2.2.2 (by have := g3 k2; omega)
  · have := lyBw_any v u h c (pins ps (ps.countP (fun z => decide (z < mo))) mo) hs W h1 h2 h3
    rwa [(more_in he (g3 k2) hx (g0 _ k0) (g1 _ _ k1)).1] at this

set_option maxRecDepth 100000 in
theorem lifted (os : Os) (started : os.Started) (H : Type) (enc : TypeId × Value → H) :
    ReturnsInHanded {} Try.checked os 4 .any (Rows.lyingFinerSpec.pre6 enc Try.prog Try.f4 Rows.lyingFinerRow.domain false) (Rows.lyingFinerSpec.post enc Try.prog Try.f4 false true false false) := by
  refine returnsInHanded_of_change (C := Try.checked) own started (by kernel_rfl) Try.func4
    (ChangeSpec.witness6 (enc := enc) (C := Try.checked) false ⟨#[], #[.agg #[.string ByteArray.empty, .int .i64 0, .slice none 0 0, .int .i64 0], .slice none 0 0, .slice none 0 0, .int .i64 0], []⟩ 8 (by kernel_rfl) (by kernel_rfl) (by kernel_rfl) (by kernel_rfl)) ?_
  intro W base args ds gs before hval0 hW hcnd _
  have hval : ∀ (j : Nat) t v, Try.f4.params[j]? = some t → args[j]? = some v → Value.okWide Try.prog W .any base t v := hval0
  clear hval0
  have hW' := hW
  obtain ⟨p, q, hA0, hV, rfl, hfz, hnd⟩ := hW
  have hA : DataW.TrodAll enc Try.prog W 0 (fun _ => true) true Try.f4.params.toList args.toList ds p := hA0
  rw [Try.params4] at hA hval
  obtain ⟨v0, vs0, d0, ds0, p0, q0, hargs, rfl, rfl, h0, r0⟩ := trodAll_cons hA
  obtain ⟨v1, vs1, d1, ds1, p1, q1, rfl, rfl, rfl, h1, r1⟩ := trodAll_cons r0
  obtain ⟨v2, vs2, d2, ds2, p2, q2, rfl, rfl, rfl, h2, r2⟩ := trodAll_cons r1
  obtain ⟨v3, vs3, d3, ds3, p3, q3, rfl, rfl, rfl, h3, r3⟩ := trodAll_cons r2
  obtain ⟨rfl, rfl, rfl⟩ := trodAll_nil r3
  obtain rfl : args = #[v0, v1, v2, v3] := by cases args; simp_all
  obtain ⟨rfl, rfl⟩ := trodVars_none hV
  have k0 := h0
  have lt0 : ∀ x ∈ p0, x.block < W.heap.size := by obtain ⟨m, hm⟩ := k0; exact DataW.trod_lt m _ _ _ hm
  have k1 := h1
  have lt1 : ∀ x ∈ p1, x.block < W.heap.size := by obtain ⟨m, hm⟩ := k1; exact DataW.trod_lt m _ _ _ hm
  have k2 := h2
  have lt2 : ∀ x ∈ p2, x.block < W.heap.size := by obtain ⟨m, hm⟩ := k2; exact DataW.trod_lt m _ _ _ hm
  have k3 := h3
  have lt3 : ∀ x ∈ p3, x.block < W.heap.size := by obtain ⟨m, hm⟩ := k3; exact DataW.trod_lt m _ _ _ hm
  obtain ⟨z0, w0⟩ := open_ck (hval 0 24 v0 rfl rfl) h0
  obtain ⟨z1, w1, b1⟩ := open_intSlice Try.underlying25 Try.underlying3 (by kernel_rfl) (hval 1 25 v1 rfl rfl) h1
  obtain ⟨z2, w2, b2⟩ := open_intSlice Try.underlying25 Try.underlying3 (by kernel_rfl) (hval 2 25 v2 rfl rfl) h2
  obtain ⟨a3, rfl, rfl, rfl, w3⟩ := open_int Try.underlying3 (hval 3 3 v3 rfl rfl) h3
  clear hA0
  refine (walk v0 z0 v1 z1 v2 z2 a3 W w0 w1 b1 w2 b2 (wf_bd w3)).mono fun e W' ⟨he, bel⟩ => ?_
  subst he
  exact ⟨_, rfl, _, _, _, [], _, [], hW', trodAll_mk1 (shut_bool Try.underlying4 _), (trodAll_cons_mk (Below.trod laidOut (by kernel_rfl) (of_decide_eq_true (by kernel_rfl)) k0 bel lt0) (trodAll_cons_mk (Below.trod laidOut (by kernel_rfl) (of_decide_eq_true (by kernel_rfl)) k1 bel lt1) (trodAll_cons_mk (Below.trod laidOut (by kernel_rfl) (of_decide_eq_true (by kernel_rfl)) k2 bel lt2) (trodAll_cons_mk (Below.trod laidOut (by kernel_rfl) (of_decide_eq_true (by kernel_rfl)) k3 bel lt3) trodAll_mk0)))), rfl, bel.frame _, fun h => by cases h⟩

theorem over : Rows.lyingFinerRow.holds Try.pinned (OpenSpec.ofChange Rows.lyingFinerSpec) :=
  OpenClaim.holds_of_wide 4 Try.f4 rfl rfl rfl rfl rfl rfl rfl ⟨rfl, rfl, rfl, rfl, rfl⟩ rfl rfl rfl rfl rfl (by kernel_rfl) Try.func4 (by kernel_rfl)
    (of_decide_eq_true (by kernel_rfl)) (by unfold Func.isWrapper; first | (rw [if_pos (by decide +kernel)]; kernel_rfl) | (rw [if_neg (by decide +kernel)]; exact ⟨rfl, rfl⟩))
    (fun os started H enc _ => lifted os started H enc)

theorem proved : Rows.LyingFinerSaid := over
#print axioms proved
end Go.Proofs.Ytgjdopjolokaiaa.lyingFiner
