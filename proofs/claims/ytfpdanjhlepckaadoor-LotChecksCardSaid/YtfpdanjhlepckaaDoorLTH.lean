/- Package lot: copies of lots. -/
import Derived.Test.YtfpdanjhlepckaaDoorLTG
import Derived.Deep.Heap
namespace Go.Proofs.YtfpdanjhlepckaaDoor
open Go.RowKit

/-- the cells of lots, the shares of lot j in f j -/
def ltCell (c : Lt) (s : Value) (r : Nat) : Value := if r = 0 then .int .i64 c.id else if r = 1 then .int .i64 c.al else if r = 2 then .int .i64 c.ms else s
def ltRow (l : List Lt) (f : Nat → Value) (n : Nat) : List Value := (List.range (n * 4)).map fun k => ltCell (gL l (k / 4)) (f (k / 4)) (k % 4)
theorem ltRow_len (l : List Lt) (f : Nat → Value) (n : Nat) : (ltRow l f n).length = n * 4 := by simp [ltRow]
theorem ltRow_at (l : List Lt) (f : Nat → Value) (n j r : Nat) (hj : j < n) (hr : r < 4) : (ltRow l f n)[j * 4 + r]? = some (ltCell (gL l j) (f j) r) := by
  unfold ltRow
  rw [List.getElem?_map, List.getElem?_range (by omega)]
  simp only [Option.map_some, show (j * 4 + r) / 4 = j by omega, show (j * 4 + r) % 4 = r by omega]
theorem ltRow_inv (l : List Lt) (f : Nat → Value) (n k : Nat) (u : Value) (h : (ltRow l f n)[k]? = some u) : ∃ j r, j < n ∧ r < 4 ∧ k = j * 4 + r ∧ u = ltCell (gL l j) (f j) r := by
  have hk : k < n * 4 := by
    obtain ⟨g, _⟩ := List.getElem?_eq_some_iff.1 h
    rwa [ltRow_len] at g
  refine ⟨k / 4, k % 4, by omega, by omega, by omega, ?_⟩
  have := ltRow_at l f n (k / 4) (k % 4) (by omega) (by omega)
  rw [show k / 4 * 4 + k % 4 = k by omega, h] at this
  exact Option.some.inj this
/-- lots in a block that can be written -/
def LO (W : World) (g n : Nat) (l : List Lt) (f : Nat → Value) : Prop :=
  ∀ j, j < n → (∀ r, r < 4 → W.cell? ⟨g, j * 4 + r, none⟩ = some (ltCell (gL l j) (f j) r) ∧ W.frozen? ⟨g, j * 4 + r, none⟩ = false)
theorem LO.below {W W' : World} {g n : Nat} {l : List Lt} {f : Nat → Value} (h : LO W g n l f) (hg : g < W.heap.size) (hb : Below W.heap.size W W') : LO W' g n l f := fun j hj r hr => by
  obtain ⟨h0, h1⟩ := h j hj r hr
  exact ⟨by rw [(bcell hb).1 _ _ hg]; exact h0, by rw [(bcell hb).2 _ _ hg]; exact h1⟩
theorem LO.set {W : World} {g n : Nat} {l : List Lt} {f : Nat → Value} (h : LO W g n l f) (k : Nat) (u : Value) : LO (W.setCell ⟨g, k * 4 + 3, none⟩ u) g n l (fun j => if j = k then u else f j) := fun j hj r hr => by
  obtain ⟨h0, h1⟩ := h j hj r hr
  refine ⟨?_, by rw [World.frozen?_setCell]; exact h1⟩
  by_cases e : j * 4 + r = k * 4 + 3
  · obtain rfl : j = k := by omega
    obtain rfl : r = 3 := by omega
    rw [World.cell?_setCell_same _ _ _ h0]
    simp [ltCell]
  · rw [World.cell?_setCell_other _ _ _ _ (by intro e2; simp only [Addr.mk.injEq] at e2; omega), h0]
    by_cases e1 : j = k
    · have : r ≠ 3 := by omega
      have : r = 0 ∨ r = 1 ∨ r = 2 := by omega
      rcases this with rfl | rfl | rfl <;> simp [ltCell]
    · simp only [if_neg e1]
/-- a slice reads as shares, and lies in another block than g -/
def PF (W : World) (g : Nat) (v : Value) (l : List (Int × Int)) : Prop :=
  ∃ a cap, v = .slice a l.length cap ∧ (l.length ≤ cap ∧ cap ≤ 9223372036854775807) ∧
    (l.length = 0 ∨ ∃ b off, a = some ⟨b, off, none⟩ ∧ b < W.heap.size ∧ b ≠ g ∧ ∀ j, j < l.length → W.cell? ⟨b, off + j * 2, none⟩ = some (.int .i64 (gX l j)) ∧ W.cell? ⟨b, off + j * 2 + 1, none⟩ = some (.int .i64 (gR l j)))
theorem PF.pts {W : World} {g : Nat} {v : Value} {l : List (Int × Int)} (h : PF W g v l) : Pts W v l := by
  obtain ⟨a, cap, rfl, hl, h | ⟨b, off, rfl, hlt, _, hc⟩⟩ := h
  · exact ⟨a, cap, rfl, hl, .inl h⟩
  · exact ⟨_, cap, rfl, hl, .inr ⟨b, off, rfl, hlt, hc⟩⟩
theorem PF.of {W : World} {g : Nat} {v : Value} {l : List (Int × Int)} (h : Pts W v l) (hg : W.heap.size ≤ g) : PF W g v l := by
  obtain ⟨a, cap, rfl, hl, h | ⟨b, off, rfl, hlt, hc⟩⟩ := h
  · exact ⟨a, cap, rfl, hl, .inl h⟩
  · exact ⟨_, cap, rfl, hl, .inr ⟨b, off, rfl, hlt, by omega, hc⟩⟩
theorem PF.below {W W' : World} {g : Nat} {v : Value} {l : List (Int × Int)} (h : PF W g v l) (hb : Below W.heap.size W W') : PF W' g v l := by
  obtain ⟨a, cap, rfl, hl, h | ⟨b, off, rfl, hlt, hg, hc⟩⟩ := h
  · exact ⟨a, cap, rfl, hl, .inl h⟩
  · exact ⟨_, cap, rfl, hl, .inr ⟨b, off, rfl, Nat.lt_of_lt_of_le hlt hb.size, hg, fun j hj => ⟨by rw [(bcell hb).1 _ _ hlt]; exact (hc j hj).1, by rw [(bcell hb).1 _ _ hlt]; exact (hc j hj).2⟩⟩⟩
theorem PF.set {W : World} {g : Nat} {v : Value} {l : List (Int × Int)} (h : PF W g v l) (k : Nat) (u : Value) : PF (W.setCell ⟨g, k, none⟩ u) g v l := by
  obtain ⟨a, cap, rfl, hl, h | ⟨b, off, rfl, hlt, hg, hc⟩⟩ := h
  · exact ⟨a, cap, rfl, hl, .inl h⟩
  · refine ⟨_, cap, rfl, hl, .inr ⟨b, off, rfl, by rw [World.size_setCell]; exact hlt, hg, fun j hj => ?_⟩⟩
    obtain ⟨h0, h1⟩ := hc j hj
    exact ⟨by rw [World.cell?_setCell_other _ _ _ _ (by intro e2; simp only [Addr.mk.injEq] at e2; omega)]; exact h0, by rw [World.cell?_setCell_other _ _ _ _ (by intro e2; simp only [Addr.mk.injEq] at e2; omega)]; exact h1⟩
namespace RH
/-- shares of the call's own, in another block than g -/
def SO (W : World) (B g : Nat) (v : Value) (l : List (Int × Int)) : Prop := Sh W B v l ∧ ∀ b, v.ownBlock = some b → b ≠ g
theorem SO.below {W W' : World} {B g : Nat} {v : Value} {l : List (Int × Int)} (h : SO W B g v l) (hb : Below W.heap.size W W') : SO W' B g v l := ⟨h.1.below hb, h.2⟩
theorem SO.set {W : World} {B g : Nat} {v : Value} {l : List (Int × Int)} (h : SO W B g v l) (k : Nat) (u : Value) : SO (W.setCell ⟨g, k, none⟩ u) B g v l := by
  obtain ⟨⟨h1, h2⟩, h3⟩ := h
  refine ⟨⟨h1, ?_⟩, h3⟩
  rcases h2 with ⟨h2, h4⟩ | ⟨b, cap, cur, h2, hg, hh, r⟩
  · exact .inl ⟨h2, h4⟩
  · refine .inr ⟨b, cap, cur, h2, hg, ?_, r⟩
    rw [Go.Deep.blk_setCell_other _ _ _ _ (by subst h2; exact h3 b rfl)]
    exact hh
theorem SO.base {W : World} {B B' g : Nat} {v : Value} {l : List (Int × Int)} (h : SO W B g v l) (hb : B' ≤ B) : SO W B' g v l := by
  obtain ⟨⟨h1, h2⟩, h3⟩ := h
  refine ⟨⟨h1, ?_⟩, h3⟩
  rcases h2 with h2 | ⟨b, cap, cur, h2, hg, r⟩
  · exact .inl h2
  · exact .inr ⟨b, cap, cur, h2, Nat.le_trans hb hg, r⟩
theorem Sh.so {W : World} {B g : Nat} {v : Value} {l : List (Int × Int)} (h : Sh W B v l) (hg : g < B) : SO W B g v l := by
  refine ⟨h, ?_⟩
  obtain ⟨_, h2⟩ := h
  rcases h2 with ⟨rfl, _⟩ | ⟨b, cap, cur, rfl, hb, _⟩
  · intro b hb; cases hb
  · intro b' hb'; simp [Value.ownBlock] at hb'; omega
end RH
set_option maxHeartbeats 4000000 in
set_option maxRecDepth 100000 in
theorem ltCl_some (ad : Addr) (n c : Nat) (l : List Lt) (f : Nat → Value) (w : World) (hn : n ≤ 1000) (ho : ∀ j, j < n → (f j).oneCell' = true)
    (hc : Hid (∀ j u, (ltRow l f n)[j]? = some u → (w.alloc (.cells #[] 32)).cell? (ad.add j) = some u)) :
    Calls Tryd.prog 49 #[.slice (some ad) n c] w fun e w' => ∃ u, e = .returned u ∧ w'.ownsRow w.heap.size 32 4 u n (ltRow l f n) ∧ u ≠ .slice none 0 0 ∧ Below w.heap.size w w' := by
  obtain ⟨i0, hi0, hz0, hz1, hz2⟩ := RH.info_parts RH.lt_info
  have OA := RH.no_row w w.heap.size 4 32 (Nat.le_refl _)
  go_enter Tryd.func49, Tryd.ntmps49
  go_wp2_with (at_builtin; refine wpList_append_own_at _ rfl _ _ 22 rfl w.heap.size 32 i0 (.agg #[.int .i64 0, .int .i64 0, .int .i64 0, .slice none 0 0]) 4 48 Tryd.underlying22 hi0 hz0 hz1 hz2 rfl (by omega) _ _ _ rfl OA ad n c (ltRow l f n) rfl ?qc1 ?qc2 ?qc3 ?qc4 ?qc5 ?qc6 ?_)
  case qc1 => exact ltRow_len l f n
  case qc2 => exact hc.out
  case qc3 =>
    intro u hu
    obtain ⟨k, hk, e⟩ := List.getElem_of_mem hu
    obtain ⟨j, r, hj, hr, _, rfl⟩ := ltRow_inv l f n k u (by rw [List.getElem?_eq_getElem hk, e])
    have : r = 0 ∨ r = 1 ∨ r = 2 ∨ r = 3 := by omega
    rcases this with rfl | rfl | rfl | rfl
    · rfl
    · rfl
    · rfl
    · exact ho j hj
  case qc4 => rw [Nat.zero_add]; unfold maxLen; omega
  case qc5 => rw [Nat.zero_add]; omega
  case qc6 => simp
  intro v' w1 hown hgrow hnil _
  have HO := Lib.hid hown
  have HG := Lib.hid hgrow
  have HN : Hid (v' ≠ .slice none 0 0) := Lib.hid hnil
  clear hown hgrow hnil
  go_wp2
  go_ret
  refine ⟨v', rfl, ?_, HN.out, ?_⟩
  · have := HO.out
    simpa using this
  · exact ((Below.refl _ w).alloc (Nat.le_refl _) _).grown HG.out (by simp) (by intro k hk; simp [Value.ownBlock] at hk; omega)
set_option maxHeartbeats 4000000 in
set_option maxRecDepth 100000 in
theorem ltCl_none (c : Nat) (w : World) :
    Calls Tryd.prog 49 #[.slice none 0 c] w fun e w' => e = .returned (.slice (some ⟨w.heap.size, 0, none⟩) 0 0) ∧ w' = w.alloc (.cells #[] 32) := by
  obtain ⟨i0, hi0, hz0, hz1, hz2⟩ := RH.info_parts RH.lt_info
  go_enter Tryd.func49, Tryd.ntmps49
  go_wp2_with (at_builtin; refine RH.wpList_append_nothing rfl _ _ 22 rfl 32 i0 Tryd.underlying22 hi0 ⟨w.heap.size, 0, none⟩ 0 c rfl rfl ?_)
  go_wp2
  go_ret
  exact ⟨rfl, rfl⟩
theorem Lts.val {W : World} {b off : Nat} {c : Lt} (h : LtAt W b off c) : ∃ v, (∀ r, r < 4 → W.cell? ⟨b, off + r, none⟩ = some (ltCell c v r)) ∧ Pts W v c.sh := by
  obtain ⟨a, cap, g0, g1, g2, g3, hp⟩ := h
  refine ⟨_, fun r hr => ?_, hp⟩
  have : r = 0 ∨ r = 1 ∨ r = 2 ∨ r = 3 := by omega
  rcases this with rfl | rfl | rfl | rfl
  · exact g0
  · exact g1
  · exact g2
  · exact g3
/-- a copy of lots, with the shares of before -/
theorem ltCl_any (v : Value) (l : List Lt) (w : World) (h : Lts w v l) (hn : l.length ≤ 1000) :
    Calls Tryd.prog 49 #[v] w fun e w' => ∃ g cap f, e = .returned (.slice (some ⟨g, 0, none⟩) l.length cap) ∧ (l.length ≤ cap ∧ cap ≤ 9223372036854775807) ∧ w.heap.size ≤ g ∧ g < w'.heap.size ∧ LO w' g l.length l f ∧ (∀ j, j < l.length → PF w' g (f j) (gL l j).sh) ∧ Below w.heap.size w w' := by
  obtain ⟨a, c, rfl, hl, h⟩ := h
  have none_ok : ∀ (c : Nat) (l : List Lt), l.length = 0 → Calls Tryd.prog 49 #[.slice none l.length c] w fun e w' => ∃ g cap f, e = .returned (.slice (some ⟨g, 0, none⟩) l.length cap) ∧ (l.length ≤ cap ∧ cap ≤ 9223372036854775807) ∧ w.heap.size ≤ g ∧ g < w'.heap.size ∧ LO w' g l.length l f ∧ (∀ j, j < l.length → PF w' g (f j) (gL l j).sh) ∧ Below w.heap.size w w' := by
    intro c l h0
    rw [h0]
    refine (ltCl_none c w).mono fun _ w' ⟨g1, g2⟩ => ⟨w.heap.size, 0, fun _ => .bool false, g1, by omega, Nat.le_refl _, by rw [g2]; simp, fun j hj => by omega, fun j hj => by omega, by rw [g2]; exact bel_alloc (Below.refl _ _)⟩
  cases a with
  | none =>
    rcases h with h | ⟨b, off, hx, _⟩
    · exact none_ok c l h
    · cases hx
  | some ad =>
    obtain ⟨f, hf⟩ : ∃ f : Nat → Value, ∀ j, j < l.length → Pts w (f j) (gL l j).sh ∧ ∃ b off, ad = ⟨b, off, none⟩ ∧ b < w.heap.size ∧ ∀ r, r < 4 → w.cell? ⟨b, off + j * 4 + r, none⟩ = some (ltCell (gL l j) (f j) r) := by
      rcases h with h | ⟨b, off, hx, hb, hc⟩
      · exact ⟨fun _ => .bool false, fun j hj => by omega⟩
      · obtain rfl := Option.some.inj hx
        let f : Nat → Value := fun j => if hj : j < l.length then (Lts.val (hc j hj)).choose else .bool false
        refine ⟨f, fun j hj => ?_⟩
        have := (Lts.val (hc j hj)).choose_spec
        simp only [f, dif_pos hj]
        exact ⟨this.2, b, off, rfl, hb, this.1⟩
    refine (ltCl_some ad l.length c l f w hn ?_ (Lib.hid ?_)).mono fun _ w' ⟨u, g1, g2, g3, g4⟩ => ?_
    · intro j hj
      obtain ⟨a', c', e, _⟩ := (hf j hj).1.shape
      rw [e]; rfl
    · intro k u hk
      obtain ⟨j, r, hj, hr, rfl, rfl⟩ := ltRow_inv _ _ _ _ _ hk
      obtain ⟨_, b, off, rfl, hb, hc⟩ := hf j hj
      rw [Go.WideShapes.add_plain, World.cell?_alloc_lt w _ _ hb, ← Nat.add_assoc]
      exact hc r hr
    · have g2' := g2
      obtain ⟨_, g5⟩ := g2
      rcases g5 with ⟨hx, _⟩ | ⟨g, cap, cur, rfl, hg, hh, hcc, hm, _⟩
      · exact absurd hx g3
      · have hlt : g < w'.heap.size := (Array.getElem?_eq_some_iff.1 hh).1
        unfold maxLen at hm
        refine ⟨g, cap, f, g1, by omega, hg, hlt, fun j hj r hr => ?_, fun j hj => (PF.of (hf j hj).1 hg).below g4, g4⟩
        have hcell := World.ownsRow.cells g2' (g := g) rfl
        have c0 := hcell _ _ (ltRow_at l f l.length j r hj hr)
        rw [Go.WideShapes.add_plain, Nat.zero_add] at c0
        exact ⟨c0, by simp [World.frozen?, hh]⟩
end Go.Proofs.YtfpdanjhlepckaaDoor

