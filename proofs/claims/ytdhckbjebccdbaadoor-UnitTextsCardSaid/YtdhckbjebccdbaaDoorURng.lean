/- A range over the table of units: any order. -/
import Derived.Test.YtdhckbjebccdbaaDoorUParse
import Derived.Maps.RangeWalk
namespace Go.Proofs.YtdhckbjebccdbaaDoor
open Go.RowKit Go.MapKept

theorem entry_mem : ∀ (t : List (List UInt8 × Int × Int)) (j : Nat) (e : MapEntry), e ∈ entries t j → ∃ i x, t[i]? = some x ∧ e = { key := .string ⟨x.1.toArray⟩, val := .agg #[.int .i64 x.2.1, .int .i64 x.2.2], born := i + j }
  | [], _, e, h => by cases h
  | x :: t, j, e, h => by
    unfold entries at h
    rcases List.mem_cons.1 h with rfl | h
    · exact ⟨0, x, rfl, by simp⟩
    · obtain ⟨i, y, hi, rfl⟩ := entry_mem t (j + 1) e h
      exact ⟨i + 1, y, hi, by simp; omega⟩
theorem mem_entry : ∀ (t : List (List UInt8 × Int × Int)) (j i : Nat) (x : List UInt8 × Int × Int), t[i]? = some x → ({ key := .string ⟨x.1.toArray⟩, val := .agg #[.int .i64 x.2.1, .int .i64 x.2.2], born := i + j } : MapEntry) ∈ entries t j
  | [], _, i, x, h => by simp at h
  | y :: t, j, 0, x, h => by
    simp at h
    subst h
    unfold entries
    rw [Nat.zero_add]
    exact .head _
  | y :: t, j, i + 1, x, h => by
    unfold entries
    have := mem_entry t (j + 1) i x (by simpa using h)
    rw [show i + 1 + j = i + (j + 1) by omega]
    exact .tail _ this
theorem entry_born : ((entries unitTab 0).map (·.born)).Nodup := by decide
theorem entry_lt : ∀ x ∈ entries unitTab 0, x.born < 15 := by
  intro e h
  obtain ⟨i, x, hi, rfl⟩ := entry_mem _ _ _ h
  have := (List.getElem?_eq_some_iff.1 hi).1
  simp only [Nat.add_zero]
  exact this

/-- a range over the units, in block b, with its iterator in block r; what it has seen -/
def Rg (b r : Nat) (seen : Array Nat) (w : World) : Prop := w.heap[b]? = some unitMap ∧ b ≠ r ∧ ∃ c, 15 ≤ c ∧ w.heap[r]? = some (.mapIter (some b) 15 seen c)
theorem Rg.keep {b r B : Nat} {seen : Array Nat} {w w' : World} (h : Rg b r seen w) (hb : Below B w w') (h1 : b < B) (h2 : r < B) : Rg b r seen w' := by
  obtain ⟨a, n, c, hc, d⟩ := h
  exact ⟨(hb.block _ h1).trans a, n, c, hc, (hb.block _ h2).trans d⟩
theorem Rg.lt {b r : Nat} {seen : Array Nat} {w : World} (h : Rg b r seen w) : b < w.heap.size ∧ r < w.heap.size := by
  obtain ⟨a, n, c, hc, d⟩ := h
  exact ⟨(Array.getElem?_eq_some_iff.1 a).1, (Array.getElem?_eq_some_iff.1 d).1⟩
theorem Rg.keeps {b r : Nat} {seen : Array Nat} {w w' : World} (h : Rg b r seen w) (hb : Below w.heap.size w w') : Rg b r seen w' := h.keep hb h.lt.1 h.lt.2
theorem Rg.left {b r : Nat} {seen : Array Nat} {w : World} (h : Rg b r seen w) : w.rangeLeft b r = (leftOf (entries unitTab 0).toArray seen).size := by
  obtain ⟨a, n, c, hc, d⟩ := h
  simp only [World.rangeLeft, a, d, unitMap]
theorem below_grown {w0 w w' : World} {r : Nat} (h : Below w0.heap.size w0 w) (g : w.grownBy w' (some r)) (hr : w0.heap.size ≤ r) : Below w0.heap.size w0 w' :=
  ⟨g.os.trans h.os, g.tape.trans h.tape, g.output.trans h.output, Nat.le_trans h.size g.size, fun k hk => (g.block k (Nat.lt_of_lt_of_le hk h.size) (by simp; omega)).trans (h.block k hk)⟩

theorem units_map (w : World) : Calls Tryd.prog 28 #[] w fun e w' => ∃ g, e = .returned (.map (some g)) ∧ Below w.heap.size w w' ∧ w'.heap[g]? = some unitMap := by
  refine (units_any w).mono ?_
  rintro e w' ⟨rfl, rfl⟩
  exact ⟨w.heap.size, rfl, bel_alloc (Below.refl _ _), heap_alloc_new w _⟩

section
variable {P : Program} (w : World) {ops : Array Oper} {rest : List Oper} {o : Oper} {a : Act} {Q : Exit → Act → World → Prop}

theorem wpList_range_units (hg : o.guard = none) (m : Operand) (t : TypeId) (hop : o.op = Op.range t m) (k e : TypeId) (ht : P.underlying t = some (.map k e)) (b : Nat) (hm : a.eval m = .map (some b)) (hb : w.heap[b]? = some unitMap)
    (hK : ∀ w', Rg b w.heap.size #[] w' → Below w.heap.size w w' → wpList P ops Q rest (a.put o.dst (.pointer (some ⟨w.heap.size, 0, none⟩))) w') :
    wpList P ops Q (o :: rest) a w := by
  refine wpList_plain hg fun K' hK' => ?_
  have hlt := (Array.getElem?_eq_some_iff.1 hb).1
  have hrun := run_range_map (P := P) w t k e b _ _ ht hb
  unfold Oper.wp
  simp [execOp, hop, hm, hrun, Result.andThen]
  exact hK' _ _ (hK _ ⟨((MapKept.heap_alloc w _).2 b hlt).trans hb, by omega, 15, Nat.le_refl _, (MapKept.heap_alloc w _).1⟩ (bel_alloc (Below.refl _ _)))

theorem wpList_next_units (hg : o.guard = none) (it : Operand) (hop : o.op = Op.next it false) (b r : Nat) (seen : Array Nat) (hit : a.eval it = .pointer (some ⟨r, 0, none⟩)) (h : Rg b r seen w)
    (hDone : (∀ i x, unitTab[i]? = some x → i ∈ seen) → wpList P ops Q rest (a.put o.dst (.tuple #[.bool false])) w)
    (hMore : ∀ (i : Nat) (s : ByteArray) (k f : Int) (w' : World), unitTab[i]? = some (s.data.toList, k, f) → i ∉ seen → Rg b r (seen.push i) w' → w'.rangeLeft b r < w.rangeLeft b r → w.grownBy w' (some r) →
      (Instr.entry (.pointer (some ⟨r, 0, none⟩))).run P w' = .ok (.tuple #[.string s, .agg #[.int .i64 k, .int .i64 f]]) w' →
      wpList P ops Q rest (a.put o.dst (.tuple #[.bool true, .string s, .agg #[.int .i64 k, .int .i64 f]])) w') :
    wpList P ops Q (o :: rest) a w := by
  refine wpList_plain hg fun K' hK' => ?_
  have h' := h
  obtain ⟨hb, hne, c0, hc, hr⟩ := h
  unfold Oper.wp
  rcases run_next_at (P := P) w o.type r b 15 c0 seen (entries unitTab 0).toArray 15 hr hb (by simpa using entry_lt) hc with ⟨h0, hrun⟩ | ⟨e, he, w1, hal, hrun⟩
  · simp [execOp, hop, hit, hrun, Result.andThen]
    refine hK' _ _ (hDone fun i x hx => ?_)
    have := all_seen _ _ h0 _ (by simpa using mem_entry unitTab 0 i x hx)
    simpa using this
  · obtain ⟨hem, hes⟩ := mem_left he
    have hlt := left_shrinks _ seen e he
    obtain ⟨i, x, hx, rfl⟩ := entry_mem unitTab 0 e (by simpa using hem)
    have hr1 : w1.heap[r]? = some (.mapIter (some b) 15 seen c0) := by rcases hal with rfl | rfl <;> exact hr
    have hb1 : w1.heap[b]? = some unitMap := by rcases hal with rfl | rfl <;> exact hb
    have hset := heap_set (o' := .mapIter (some b) 15 (seen.push i) 15) hr1
    have hb' : (ChangeMaps.setBlock w1 r (.mapIter (some b) 15 (seen.push i) 15)).heap[b]? = some unitMap := (hset.2 b hne).trans hb1
    have hrg : Rg b r (seen.push i) (ChangeMaps.setBlock w1 r (.mapIter (some b) 15 (seen.push i) 15)) := ⟨hb', hne, 15, Nat.le_refl _, hset.1⟩
    simp only [Nat.add_zero] at hrun hlt hes
    simp [execOp, hop, hit, hrun, Result.andThen]
    refine hK' _ _ (hMore i ⟨x.1.toArray⟩ x.2.1 x.2.2 _ (by simpa using hx) (by simpa using hes) hrg (by rw [hrg.left, h'.left]; exact hlt) ?_ ?_)
    · rcases hal with rfl | rfl <;> exact ⟨rfl, rfl, rfl, by simp [ChangeMaps.setBlock], fun j _ hj => hset.2 j (fun e1 => hj (by rw [e1]))⟩
    · exact run_entry_at (P := P) _ r b 15 seen (entries unitTab 0).toArray 15 _ hset.1 hb' hem (by simpa using entry_born)
end

/-! ### the best unit -/
/-- a factor is better than another one, for a size -/
def betB (a b s : Int) : Bool := if a ≤ s ∧ b ≤ s then decide (b < a) else decide (a < b)
theorem betB_iff (a b s : Int) : betB a b s = true ↔ (a ≤ s ∧ b ≤ s ∧ b < a) ∨ (¬ (a ≤ s ∧ b ≤ s) ∧ a < b) := by
  unfold betB
  split
  · simp; omega
  · simp; omega
def IsBest (k s : Int) (x : List UInt8 × Int × Int) : Prop := x ∈ unitTab ∧ x.2.1 = k ∧ ∀ y ∈ unitTab, y.2.1 = k → y = x ∨ betB x.2.2 y.2.2 s = true
theorem tab_one : ∀ x ∈ unitTab, ∀ y ∈ unitTab, x.2.1 = y.2.1 → x.2.2 = y.2.2 → x = y := by decide
theorem best_one {k s : Int} {x y : List UInt8 × Int × Int} (hx : IsBest k s x) (hy : IsBest k s y) : x = y := by
  rcases hx.2.2 y hy.1 hy.2.1 with h | h
  · exact h.symm
  · rcases hy.2.2 x hx.1 hx.2.1 with g | g
    · exact g
    · rw [betB_iff] at h g; omega
theorem tab_kind (k : Int) (h1 : 1 ≤ k) (h2 : k ≤ 7) : ∃ (i : Nat) (x : List UInt8 × Int × Int), unitTab[i]? = some x ∧ x.2.1 = k := by
  refine cases7 (P := fun k => ∃ (i : Nat) (x : List UInt8 × Int × Int), unitTab[i]? = some x ∧ x.2.1 = k) h1 h2 ⟨0, _, rfl, rfl⟩ ⟨4, _, rfl, rfl⟩ ⟨5, _, rfl, rfl⟩ ⟨7, _, rfl, rfl⟩ ⟨9, _, rfl, rfl⟩ ⟨10, _, rfl, rfl⟩ ⟨13, _, rfl, rfl⟩
theorem tab_named : ∀ x ∈ unitTab, (x.1 == []) = false := by decide

/-- the best one of those that were seen: none, or a unit -/
def Seen (k s : Int) (seen : Array Nat) (B : List UInt8) (F : Int) : Prop :=
  (B = [] ∧ F = 0 ∧ ∀ i y, unitTab[i]? = some y → i ∈ seen → y.2.1 ≠ k) ∨
  ∃ x, x ∈ unitTab ∧ x.2.1 = k ∧ B = x.1 ∧ F = x.2.2 ∧ ∀ i y, unitTab[i]? = some y → i ∈ seen → y.2.1 = k → y = x ∨ betB x.2.2 y.2.2 s = true
theorem seen_start (k s : Int) : Seen k s #[] [] 0 := .inl ⟨rfl, rfl, fun _ _ _ h => by simp at h⟩
theorem seen_end {k s F : Int} {seen : Array Nat} {B : List UInt8} (h : Seen k s seen B F) (h1 : 1 ≤ k) (h2 : k ≤ 7) (hall : ∀ i x, unitTab[i]? = some x → i ∈ seen) : ∃ x, IsBest k s x ∧ B = x.1 := by
  rcases h with ⟨_, _, h⟩ | ⟨x, hx, hk, hB, _, h⟩
  · obtain ⟨i, x, hi, hk⟩ := tab_kind k h1 h2
    exact absurd hk (h i x hi (hall i x hi))
  · refine ⟨x, ⟨hx, hk, fun y hy hyk => ?_⟩, hB⟩
    obtain ⟨i, hi⟩ := List.getElem?_of_mem hy
    exact h i y hi (hall i y hi) hyk
theorem seen_other {k s F K f : Int} {seen : Array Nat} {B N : List UInt8} {i : Nat} (h : Seen k s seen B F) (hi : unitTab[i]? = some (N, K, f)) (hk : K ≠ k) : Seen k s (seen.push i) B F := by
  rcases h with ⟨hB, hF, h⟩ | ⟨x, hx, hxk, hB, hF, h⟩
  · refine .inl ⟨hB, hF, fun j y hj hm => ?_⟩
    rcases Array.mem_push.1 hm with hm | rfl
    · exact h j y hj hm
    · rw [hi] at hj; cases hj; exact hk
  · refine .inr ⟨x, hx, hxk, hB, hF, fun j y hj hm hy => ?_⟩
    rcases Array.mem_push.1 hm with hm | rfl
    · exact h j y hj hm hy
    · rw [hi] at hj; cases hj; exact absurd hy hk
theorem seen_keep {k s F f : Int} {seen : Array Nat} {B N : List UInt8} {i : Nat} (h : Seen k s seen B F) (hi : unitTab[i]? = some (N, k, f)) (hB0 : (B == []) = false) (hb : betB f F s = false) : Seen k s (seen.push i) B F := by
  rcases h with ⟨rfl, _⟩ | ⟨x, hx, hxk, hB, rfl, h⟩
  · simp at hB0
  · refine .inr ⟨x, hx, hxk, hB, rfl, fun j y hj hm hy => ?_⟩
    rcases Array.mem_push.1 hm with hm | rfl
    · exact h j y hj hm hy
    · rw [hi] at hj
      cases hj
      by_cases e : f = x.2.2
      · exact .inl (tab_one _ (List.mem_of_getElem? hi) _ hx hxk.symm e)
      · right
        rw [betB_iff]
        have hn : ¬ ((f ≤ s ∧ x.2.2 ≤ s ∧ x.2.2 < f) ∨ (¬ (f ≤ s ∧ x.2.2 ≤ s) ∧ f < x.2.2)) := fun g => by rw [(betB_iff _ _ _).2 g] at hb; cases hb
        simp only
        omega
theorem seen_turn {k s F f : Int} {seen : Array Nat} {B N : List UInt8} {i : Nat} (h : Seen k s seen B F) (hi : unitTab[i]? = some (N, k, f)) (hb : (B == []) = true ∨ betB f F s = true) : Seen k s (seen.push i) N f := by
  have hm0 := List.mem_of_getElem? hi
  refine .inr ⟨_, hm0, rfl, rfl, rfl, fun j y hj hm hy => ?_⟩
  rcases Array.mem_push.1 hm with hm | rfl
  · rcases h with ⟨_, _, h⟩ | ⟨x, hx, hxk, hB, rfl, h⟩
    · exact absurd hy (h j y hj hm)
    · have hb' : betB f x.2.2 s = true := by
        rcases hb with e | e
        · have := tab_named x hx
          rw [hB] at e
          rw [e] at this
          cases this
        · exact e
      right
      rcases h j y hj hm hy with rfl | g
      · exact hb'
      · rw [betB_iff] at hb' g ⊢
        simp only
        omega
  · rw [hi] at hj
    cases hj
    exact .inl rfl
end Go.Proofs.YtdhckbjebccdbaaDoor
