/- Package unit: units, Unit, Check. -/
import Derived.Test.YtdhckbjebccdbaaDoorKit
import Derived.Test.YtdhckbjebccdbaaDoorUTab
import Derived.Carry
import Derived.Maps.Own
import Derived.Laws.StructEq
namespace Go.Proofs.YtdhckbjebccdbaaDoor
open Go.RowKit Go.MapKept

/-! ### a map that is made and filled at once -/
theorem map_set (w : World) (es es' : Array MapEntry) (c c' : Nat) :
    { w.alloc (.map es c) with heap := (w.alloc (.map es c)).heap.setIfInBounds w.heap.size (.map es' c') } = w.alloc (.map es' c') := by
  simp only [World.alloc]
  congr 1
  apply Array.ext'
  simp [Array.setIfInBounds, Array.toList_push]
theorem wpList_insert_new {P : Program} (w : World) {ops : Array Oper} {rest : List Oper} {o : Oper} {a : Act} {Q : Exit → Act → World → Prop} (hg : o.guard = none) (m x v : Operand) (t : TypeId) (hop : o.op = Op.insert t m x v)
    (k e : TypeId) (hk : P.underlying k = some .string) (ht : P.underlying t = some (.map k e)) (es : Array MapEntry) (c : Nat) (hm : a.eval m = .map (some w.heap.size)) (s : ByteArray) (val : Value) (hx : a.eval x = .string s) (hv : a.eval v = val)
    (hf : Instr.findNow .string (.string s) es.toList 0 = some none) (hK : wpList P ops Q rest (a.put o.dst undef) (w.alloc (.map (es.push { key := .string s, val := val, born := c }) (c + 1)))) :
    wpList P ops Q (o :: rest) a (w.alloc (.map es c)) := by
  refine wpList_plain hg fun K' hK' => ?_
  have hb : (w.alloc (.map es c)).heap[w.heap.size]? = some (.map es c) := heap_alloc_new w _
  have hc : (Instr.checkKey false 10000 k (.string s)).run P (w.alloc (.map es c)) = .ok () (w.alloc (.map es c)) := run_checkKey (k := .string s) hk (by simp [IsKey]) false 9999
  have hrun : (Instr.mapUpdate t (.map (some w.heap.size)) (.string s) val).run P (w.alloc (.map es c)) = .ok () (w.alloc (.map (es.push { key := .string s, val := val, born := c }) (c + 1))) := by
    rw [← map_set w es (es.push { key := .string s, val := val, born := c }) c (c + 1)]
    simp [Instr.mapUpdate, run_underlying ht, MapKept.run_getObj_map hb, hc, run_findKey hk hf, run_setObj_map _ hb, Result.andThen]
  unfold Oper.wp
  simp [execOp, hop, hm, hx, hv, hrun, Result.andThen]
  exact hK' _ _ hK

/-- the entries of a table of units -/
def entries : List (List UInt8 × Int × Int) → Nat → List MapEntry
  | [], _ => []
  | x :: r, i => { key := .string ⟨x.1.toArray⟩, val := .agg #[.int .i64 x.2.1, .int .i64 x.2.2], born := i } :: entries r (i + 1)
def unitMap : Obj := .map (entries unitTab 0).toArray 15

set_option maxRecDepth 100000 in
set_option maxHeartbeats 1000000 in
theorem units_any (w : World) : Calls Tryd.prog 28 #[] w fun e w' => e = .returned (.map (some w.heap.size)) ∧ w' = w.alloc unitMap := by
  have hmm := @run_makeMap Tryd.prog
  go_enter Tryd.func28, Tryd.ntmps28
  go_wp2_with (refine wpList_insert_new w rfl _ _ _ _ rfl _ _ Tryd.underlying9 Tryd.underlying51 _ _ rfl _ _ rfl rfl (by kernel_rfl) ?_)
  go_ret
  exact ⟨rfl, rfl⟩

/-! ### a look into it -/
theorem toList_mk (l : List UInt8) : (⟨l.toArray⟩ : ByteArray).toList = l := by rw [ByteArray.toList_eq]
theorem find_entries (s : ByteArray) : ∀ (t : List (List UInt8 × Int × Int)) (i j : Nat), ∃ r, Instr.findNow .string (.string s) (entries t i) j = some r ∧ r.map (·.2) = (findU s.data.toList t).map fun p => Value.agg #[.int .i64 p.1, .int .i64 p.2]
  | [], i, j => ⟨none, rfl, rfl⟩
  | x :: t, i, j => by
    have hs : Instr.sameNow .string (.string s) (.string ⟨x.1.toArray⟩) = some (s.data.toList == x.1) := by
      show some (s == (⟨x.1.toArray⟩ : ByteArray)) = _
      rw [beq_toListBytes, ByteArray.toList_eq, ByteArray.toList_eq]
    unfold entries findU Instr.findNow
    simp only [hs]
    cases hq : (s.data.toList == x.1) with
    | true => exact ⟨_, rfl, rfl⟩
    | false =>
      obtain ⟨r, h1, h2⟩ := find_entries s t (i + 1) (j + 1)
      exact ⟨r, h1, by simpa using h2⟩
theorem run_look (s : ByteArray) (w : World) (g : Nat) (hg : w.heap[g]? = some unitMap) :
    (Instr.lookup 51 (.map (some g)) (.string s) true).run Tryd.prog w = .ok (.tuple #[.agg #[.int .i64 (uK s.data.toList), .int .i64 (uF s.data.toList)], .bool (isU s.data.toList)]) w := by
  obtain ⟨r, h1, h2⟩ := find_entries s unitTab 0 0
  have hc : (Instr.checkKey false 10000 9 (.string s)).run Tryd.prog w = .ok () w := run_checkKey (k := .string s) Tryd.underlying9 (by simp [IsKey]) false 9999
  have he : (entries unitTab 0).toArray.isEmpty = false := by decide
  have hz : (zeroValue 49).run Tryd.prog w = .ok (.agg #[.int .i64 0, .int .i64 0]) w := by kernel_rfl
  have hf : (Instr.findKey 9 (.string s) (entries unitTab 0)).run Tryd.prog w = .ok r w := run_findKey Tryd.underlying9 h1
  cases r with
  | none =>
    have hu : unitOf s.data.toList = none := by
      cases hq : findU s.data.toList unitTab with
      | none => exact hq
      | some p => rw [hq] at h2; cases h2
    simp [Instr.lookup, run_underlying Tryd.underlying51, MapKept.run_getObj_map hg, he, hc, hf, hz, Result.andThen, uK, uF, isU, hu]
  | some q =>
    obtain ⟨p, hp⟩ : ∃ p, unitOf s.data.toList = some p := by
      cases hq : findU s.data.toList unitTab with
      | none => rw [hq] at h2; cases h2
      | some p => exact ⟨p, hq⟩
    have h3 : q.2 = .agg #[.int .i64 p.1, .int .i64 p.2] := by
      have hq : findU s.data.toList unitTab = some p := hp
      rw [hq] at h2
      simpa using h2
    obtain ⟨i, v⟩ := q
    simp only at h3
    subst h3
    simp [Instr.lookup, run_underlying Tryd.underlying51, MapKept.run_getObj_map hg, he, hc, hf, hz, Result.andThen, uK, uF, isU, hp]

theorem unit_any (s : ByteArray) (w : World) :
    Calls Tryd.prog 11 #[.string s] w fun e w' => e = .returned (.tuple #[.int .i64 (uK s.data.toList), .int .i64 (uF s.data.toList), .int .i64 (uE s.data.toList)]) ∧ Below w.heap.size w w' := by
  have hl := fun g hg => run_look s (w.alloc unitMap) g hg
  have hl := hl w.heap.size (heap_alloc_new w _)
  unfold uE
  cases hb : isU s.data.toList with
  | false =>
    obtain ⟨e1, e2⟩ := u_not _ hb
    rw [hb, e1, e2] at hl
    rw [e1, e2]
    simp only [Bool.false_eq_true, if_false]
    go_enter Tryd.func11, Tryd.ntmps11
    go_wp2_with fail
    refine (units_any _).mono ?_
    rintro e w' ⟨rfl, rfl⟩
    go_wp2
    go_returns
    exact ⟨rfl, bel_alloc (bel_alloc (Below.refl _ _))⟩
  | true =>
    rw [hb] at hl
    simp only [if_true]
    generalize uK s.data.toList = k at *
    generalize uF s.data.toList = f at *
    go_enter Tryd.func11, Tryd.ntmps11
    go_wp2_with fail
    refine (units_any _).mono ?_
    rintro e w' ⟨rfl, rfl⟩
    go_wp2
    go_quiet (fail)
    go_wp2
    go_returns
    exact ⟨rfl, bel_alloc (bel_alloc (bel_drewN _ _))⟩
end Go.Proofs.YtdhckbjebccdbaaDoor
