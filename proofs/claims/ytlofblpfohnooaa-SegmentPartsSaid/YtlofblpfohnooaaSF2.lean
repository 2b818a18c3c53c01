/- Plain facts of the statement on parts: strips, the first heights and the last ones; a struct's own block in a loop. -/
import Derived.Test.YtlofblpfohnooaaSF
import Derived.Test.YtlofblpfohnooaaSO
import Derived.SizedLaws
namespace Go.Proofs.Ytlofblpfohnooaa
open Go.RowKit

theorem strip_facts {r c : Int} {l : List Int} (e : arE r c l = 0) (j : Nat) (h : j + 1 < l.length) :
    arE r c [l.getD j 0, l.getD (j + 1) 0] = 0 ∧ arL r c [l.getD j 0, l.getD (j + 1) 0] = ofL r c (l.getD j 0) (l.getD (j + 1) 0) ∧ arH r c [l.getD j 0, l.getD (j + 1) 0] = ofH r c (l.getD j 0) (l.getD (j + 1) 0) := by
  obtain ⟨hrc, hR⟩ := arE_zero.1 e
  have a := hR.bd j (by omega)
  have b := hR.bd (j + 1) h
  have o := hR.asc j h
  generalize l.getD j 0 = x at *
  generalize l.getD (j + 1) 0 = y at *
  have e2 : arE r c [x, y] = 0 := arE_zero.2 ⟨hrc, by simp, by simp, fun i hi => by
    match i, hi with
    | 0, _ => exact a
    | 1, _ => exact b, fun i hi => by
    match i, hi with
    | 0, _ => exact o⟩
  refine ⟨e2, ?_, ?_⟩
  · rw [(ar_some e2).1]; show prL r c [x, y] 1 = _; show 0 + ofL r c x y = _; omega
  · rw [(ar_some e2).2]; show prH r c [x, y] 1 = _; show 0 + ofH r c x y = _; omega
theorem getD_take {l : List Int} {i k : Nat} (h : i < k) : (l.take k).getD i 0 = l.getD i 0 := by
  rw [List.getD_eq_getElem?_getD, List.getD_eq_getElem?_getD, List.getElem?_take, if_pos h]
theorem getD_drop {l : List Int} {i k : Nat} : (l.drop k).getD i 0 = l.getD (k + i) 0 := by
  rw [List.getD_eq_getElem?_getD, List.getD_eq_getElem?_getD, List.getElem?_drop]
theorem part_facts {r c : Int} {l : List Int} (e : arE r c l = 0) (k : Nat) (h0 : 1 ≤ k) (h1 : k + 2 ≤ l.length) :
    arE r c (l.take (k + 1)) = 0 ∧ arE r c (l.drop k) = 0 ∧ arL r c l = arL r c (l.take (k + 1)) + arL r c (l.drop k) ∧ arH r c l = arH r c (l.take (k + 1)) + arH r c (l.drop k) := by
  obtain ⟨hrc, hR⟩ := arE_zero.1 e
  have n1 := hR.n1
  have lt : (l.take (k + 1)).length = k + 1 := by rw [List.length_take]; omega
  have ld : (l.drop k).length = l.length - k := List.length_drop
  have h2 : HR (l.take (k + 1)) := ⟨by omega, by omega, fun i hi => by rw [getD_take (by omega)]; exact hR.bd i (by omega), fun i hi => by rw [getD_take (by omega), getD_take (by omega)]; exact hR.asc i (by omega)⟩
  have h3 : HR (l.drop k) := ⟨by omega, by omega, fun i hi => by rw [getD_drop]; exact hR.bd _ (by omega), fun i hi => by rw [getD_drop, getD_drop]; exact hR.asc (k + i) (by omega)⟩
  have e2 : arE r c (l.take (k + 1)) = 0 := arE_zero.2 ⟨hrc, h2⟩
  have e3 : arE r c (l.drop k) = 0 := arE_zero.2 ⟨hrc, h3⟩
  refine ⟨e2, e3, ?_⟩
  rw [(ar_some e).1, (ar_some e).2, (ar_some e2).1, (ar_some e2).2, (ar_some e3).1, (ar_some e3).2, lt, ld]
  have s := pr_same (r := r) (c := c) (l := l.take (k + 1)) (m := l) k (fun i hi => getD_take (by omega))
  have f := pr_from (r := r) (c := c) (l := l) (m := l.drop k) k (l.length - k - 1) (fun i _ => getD_drop)
  rw [show k + 1 - 1 = k by omega, s.1, s.2]
  rw [show l.length - 1 = k + (l.length - k - 1) by omega]
  exact f
theorem Nums.first {W : World} {b off n cap : Nat} {zs : List Int} (h : Nums W (.slice (some ⟨b, off, none⟩) n cap) zs) (k : Nat) (hk : k ≤ n) : Nums W (.slice (some ⟨b, off, none⟩) k cap) (zs.take k) := by
  have hl := h.len
  have e : (zs.take k).length = k := by rw [List.length_take]; omega
  obtain ⟨a, c, hv, h4, h5⟩ := h.shape
  have h6 : n ≤ cap ∧ cap ≤ 9223372036854775807 := by
    simp only [Value.slice.injEq] at hv
    omega
  by_cases h0 : k = 0
  · exact ⟨_, cap, by rw [e], by rw [e]; omega, .inl (by rw [e]; exact h0)⟩
  · obtain ⟨b', o', hv, hlt, hc⟩ := h.at (by omega)
    cases hv
    exact ⟨_, cap, by rw [e], by rw [e]; omega, .inr ⟨b, off, rfl, hlt, fun j hj => by rw [e] at hj; rw [getD_take (by omega)]; exact hc j (by omega)⟩⟩
theorem Nums.last {W : World} {b off n cap : Nat} {zs : List Int} (h : Nums W (.slice (some ⟨b, off, none⟩) n cap) zs) (k : Nat) (hk : k < n) : Nums W (.slice (some ⟨b, off + k, none⟩) (n - k) (cap - k)) (zs.drop k) := by
  have hl := h.len
  have e : (zs.drop k).length = n - k := by rw [List.length_drop]; omega
  obtain ⟨a, c, hv, h4, h5⟩ := h.shape
  have h6 : n ≤ cap ∧ cap ≤ 9223372036854775807 := by
    simp only [Value.slice.injEq] at hv
    omega
  obtain ⟨b', o', hv, hlt, hc⟩ := h.at (by omega)
  cases hv
  exact ⟨_, cap - k, by rw [e], by rw [e]; omega, .inr ⟨b, off + k, rfl, hlt, fun j hj => by rw [e] at hj; rw [getD_drop, Nat.add_assoc]; exact hc (k + j) (by omega)⟩⟩

/-- a copy of any slice that an argument can be -/
theorem clone_big (v : Value) (zs : List Int) (w : World) (h : Nums w v zs) (hn : zs.length * 8 ≤ 140737488355328) :
    Calls Try.prog 13 #[v] w fun e w' => ∃ u, e = .returned u ∧ Nums w' u zs ∧ Below w.heap.size w w' := by
  by_cases h0 : zs.length = 0
  · exact clone_nums v zs w h (by omega)
  · obtain ⟨a, c, rfl, hl, h⟩ := h
    rcases h with h | ⟨b, off, rfl, _, hc⟩
    · exact absurd h h0
    refine (Try.slices_Clone_int b off zs.length c zs w (Nat.le_refl _) hn hc).mono fun _ w' ⟨v', g1, g2, _, g4⟩ => ⟨v', g1, ?_, g4⟩
    rw [List.take_length] at g2; exact nums_of_own g2
open Go.ChangeShapes Go.WideShapes Go.ChangeAt in
/-- a slice of integers, and what was read -/
theorem open_intSliceW {H : Type} {enc : TypeId × Value → H} {P : Program} {w : World} {r : Reach} {b0 : Nat} {t e : TypeId} {v : Value} {d : DataW H} {p : List MemPlace}
    (ht : P.underlying t = some (.slice e)) (he : P.underlying e = some (.int .i64)) (hC : P.cellsOf e = 1)
    (hv : Value.okWide P w r b0 t v) (h : DataW.Trod enc P w 0 (fun _ => true) true t v d p) :
    ∃ zs : List Int, Nums w v zs ∧ (∀ z ∈ zs, (Lit.int .i64 z).wf = true) ∧ (zs.length = 0 ∨ ∃ elems spare, d = .slice elems spare ∧ elems.length = zs.length) := by
  obtain ⟨zs, hn, hz⟩ := open_intSlice ht he hC hv h
  refine ⟨zs, hn, hz, ?_⟩
  obtain ⟨fuel, hf⟩ := h
  obtain ⟨a, c, rfl, _, _⟩ := hn.shape
  rcases open_ints ht he hC hf with ⟨hcs, _⟩ | ⟨x, l, c, ys, hcs, _, hl, hm, hy, hx, _, _⟩
  · simp [Value.cells] at hcs
    exact .inl (by rw [hcs.2.1]; rfl)
  · simp [Value.cells] at hcs
    simp only [if_true] at hy
    right
    refine ⟨_, _, (Prod.mk.injEq _ _ _ _ ▸ hx).1, ?_⟩
    simp only [lits, List.length_map, List.length_take]
    omega
theorem sized_ints {H : Type} {P : Program} {ts : List TypeId} {ds : List (DataW H)} (h : (DataW.weightsEach P ts ds).all (· ≤ reachBytes) = true) {j : Nat} {t e : TypeId} {d : DataW H} {zs : List Int} (ht : ts[j]? = some t) (hd : ds[j]? = some d) (hu : P.underlying t = some (.slice e)) (hb : P.bytesOf e = 8)
    (dd : zs.length = 0 ∨ ∃ elems spare, d = .slice elems spare ∧ elems.length = zs.length) : zs.length * 8 ≤ 140737488355328 := by
  rcases dd with h0 | ⟨el, sp, rfl, hl⟩
  · omega
  · have := sized_slice h ht hd hu
    have r := reachBytes_lt
    rw [hb] at this
    rw [← hl]
    omega

/-- behind a struct's own block: made behind the call, or ahead of it -/
def Meets3 (w : World) (bt b1 : Nat) (tL tH oL oH pL pH : Value) (s : Value) (wx : World) : Prop := ∃ bs : Nat, s = .pointer (some ⟨bs, 0, none⟩) ∧ bs ≠ b1 ∧ Hid (Two bs wx oL oH) ∧ Hid (Below w.heap.size w wx) ∧ Hid (Two bt wx tL tH) ∧ Hid (Two b1 wx pL pH)
theorem meets3_behind {w wr w2 : World} {bt b1 : Nat} {tL tH oL oH pL pH : Value} {T : TypeId} (hB : Below w.heap.size w wr) (X : Below wr.drew.heap.size wr.drew w2) (hT : Two bt wr tL tH) (hS : Two b1 wr pL pH) :
    Meets3 w bt b1 tL tH oL oH pL pH (.pointer (some ⟨w2.heap.size, 0, none⟩)) (w2.alloc (.cells #[oL, oH] T)) := by
  have X1 : Below wr.heap.size wr w2 := bel_trans (bel_drew wr) X
  have h1 := (hS.below X1).2.2.2.2
  exact ⟨_, rfl, Nat.ne_of_gt h1, Two.new w2 oL oH T, bel_trans (bel_trans hB X1) (bel_alloc (Below.refl _ _)), (hT.below X1).alloc _, (hS.below X1).alloc _⟩
theorem meets3_ahead {w wr w2 : World} {bt b1 : Nat} {tL tH oL oH pL pH a c : Value} {T : TypeId} (hB : Below w.heap.size w wr) (X : Below (wr.alloc (.cells #[a, c] T)).drew.heap.size (wr.alloc (.cells #[a, c] T)).drew w2) (hT : Two bt wr tL tH) (hS : Two b1 wr pL pH) :
    Meets3 w bt b1 tL tH oL oH pL pH (.pointer (some ⟨wr.heap.size, 0, none⟩)) ((w2.setCell ⟨wr.heap.size, 0, none⟩ oL).setCell ⟨wr.heap.size, 1, none⟩ oH) := by
  have X1 : Below wr.heap.size wr w2 := bel_alloc (bel_trans (bel_drew _) X)
  have X0 : Below (wr.alloc (.cells #[a, c] T)).heap.size (wr.alloc (.cells #[a, c] T)) w2 := bel_trans (bel_drew _) X
  have hN := (Two.new wr a c T).below X0
  have h1 : b1 ≠ wr.heap.size := Nat.ne_of_lt hS.2.2.2.2
  have h2 : bt ≠ wr.heap.size := Nat.ne_of_lt hT.2.2.2.2
  have h3 : w.heap.size ≤ wr.heap.size := hB.size
  refine ⟨_, rfl, h1.symm, (hN.put0 oL).set1 oH, ?_, ?_, ?_⟩
  · exact ((bel_trans hB X1).setCell (p := ⟨wr.heap.size, 0, none⟩) h3 _).setCell (p := ⟨wr.heap.size, 1, none⟩) h3 _
  · exact ((hT.below X1).other ⟨wr.heap.size, 0, none⟩ h2.symm _).other ⟨wr.heap.size, 1, none⟩ h2.symm _
  · exact ((hS.below X1).other ⟨wr.heap.size, 0, none⟩ h1.symm _).other ⟨wr.heap.size, 1, none⟩ h1.symm _
end Go.Proofs.Ytlofblpfohnooaa
