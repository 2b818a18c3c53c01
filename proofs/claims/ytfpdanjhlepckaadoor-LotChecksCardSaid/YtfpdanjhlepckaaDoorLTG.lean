/- Package lot: copies of shares. -/
import Derived.Test.YtfpdanjhlepckaaDoorLTF
import Derived.Test.YtfpdanjhlepckaaDoorCB0
import Derived.Maps.AppendAt
namespace Go.Proofs.YtfpdanjhlepckaaDoor
open Go.RowKit

namespace RH
theorem info_parts {P : Program} {t : TypeId} {z : Value} {s by' : Nat} (h : (P.info? t).map (fun i => (i.zero, i.size, i.bytes)) = some (some z, s, by')) : ∃ i, P.info? t = some i ∧ i.zero = some z ∧ i.size = s ∧ i.bytes = by' := by
  cases hi : P.info? t with
  | none => rw [hi] at h; cases h
  | some i => rw [hi] at h; simp at h; exact ⟨i, rfl, h.1, h.2.1, h.2.2⟩
theorem sh_info : (Tryd.prog.info? 52).map (fun i => (i.zero, i.size, i.bytes)) = some (some (.agg #[.int .i64 0, .int .i64 0]), 2, 16) := by kernel_rfl
theorem lt_info : (Tryd.prog.info? 32).map (fun i => (i.zero, i.size, i.bytes)) = some (some (.agg #[.int .i64 0, .int .i64 0, .int .i64 0, .slice none 0 0]), 4, 48) := by kernel_rfl
theorem row_bel {W W' : World} {B n size : Nat} {e : TypeId} {v : Value} {xs : List Value} (h : W.ownsRow B e size v n xs) (hb : Below W.heap.size W W') : W'.ownsRow B e size v n xs := by
  obtain ⟨h1, h2⟩ := h
  refine ⟨h1, ?_⟩
  rcases h2 with ⟨h2, h3⟩ | ⟨g, cap, cur, h2, hg, hh, r⟩
  · exact .inl ⟨h2, h3⟩
  · refine .inr ⟨g, cap, cur, h2, hg, ?_, r⟩
    rw [hb.block _ (Array.getElem?_eq_some_iff.1 hh).1]
    exact hh
/-- shares in a row of the call's own -/
def Sh (w : World) (B : Nat) (v : Value) (l : List (Int × Int)) : Prop := w.ownsRow B 52 2 v l.length (flat l)
theorem Sh.below {W W' : World} {B : Nat} {v : Value} {l : List (Int × Int)} (h : Sh W B v l) (hb : Below W.heap.size W W') : Sh W' B v l := row_bel h hb
theorem Sh.pts {w : World} {B : Nat} {v : Value} {l : List (Int × Int)} (h : Sh w B v l) : Pts w v l := by
  have h' := h
  obtain ⟨_, h2⟩ := h
  rcases h2 with ⟨rfl, hn⟩ | ⟨g, cap, cur, rfl, hg, hh, hc, hm, hs, ht⟩
  · exact ⟨none, 0, by rw [hn], by omega, .inl hn⟩
  · have hlt : g < w.heap.size := (Array.getElem?_eq_some_iff.1 hh).1
    unfold maxLen at hm
    refine ⟨_, cap, rfl, ⟨hc, by omega⟩, .inr ⟨g, 0, rfl, hlt, fun j hj => ?_⟩⟩
    have hcell := World.ownsRow.cells h' (g := g) rfl
    have hf := flat_at l j hj
    have c0 := hcell _ _ hf.1
    have c1 := hcell _ _ hf.2
    rw [Go.WideShapes.add_plain] at c0 c1
    exact ⟨c0, by rw [Nat.add_assoc]; exact c1⟩
theorem Sh.shape {W : World} {B : Nat} {v : Value} {l : List (Int × Int)} (h : Sh W B v l) : ∃ a cap, v = .slice a l.length cap := by
  obtain ⟨a, cap, e, _⟩ := h.pts
  exact ⟨a, cap, e⟩
theorem no_row (w : World) (B size : Nat) (T : TypeId) (hB : B ≤ w.heap.size) : (w.alloc (.cells #[] T)).ownsRow B T size (.slice (some ⟨w.heap.size, 0, none⟩) 0 0) 0 [] :=
  ⟨by simp, .inr ⟨w.heap.size, 0, #[], rfl, hB, heap_alloc_new w _, Nat.le_refl _, by unfold maxLen; omega, by simp, by simp⟩⟩
/-- nothing is appended -/
theorem wpList_append_nothing {P : Program} {w : World} {ops : Array Oper} {rest : List Oper} {o : Oper} {a : Act} {Q : Exit → Act → World → Prop} (hgd : o.guard = none) (s x : Operand) (t : TypeId)
    (ho : o.op = .call { callee := .builtin .append, args := #[s, x], argTypes := #[t, t] }) (e : TypeId) (i : TypeInfo) (ht : P.underlying t = some (.slice e)) (hi : P.info? e = some i)
    (ad : Addr) (c0 c : Nat) (hs : a.eval s = .slice (some ad) 0 c0) (hx : a.eval x = .slice none 0 c)
    (h : wpList P ops Q rest (a.put o.dst (.slice (some ad) 0 c0)) w) : wpList P ops Q (o :: rest) a w := by
  refine wpList_plain hgd fun K hK => ?_
  have hr : (Builtin.append_ #[t, t] o.type #[.slice (some ad) 0 c0, .slice none 0 c]).run P w = .ok (.slice (some ad) 0 c0) w := by
    simp [Builtin.append_, run_underlying ht, sizeOf, typeInfo, hi, Builtin.lenOf, Builtin.firstCells, loadCells, loadCellsFrom, storeCells]
  unfold Oper.wp execOp
  simp only [ho, resolve, invoke, builtin, Sem.run_bind, Sem.run_pure, Result.andThen_ok, List.map_toArray, List.map_cons, List.map_nil, hs, hx, hr]
  exact hK _ _ h
end RH
set_option maxHeartbeats 4000000 in
set_option maxRecDepth 100000 in
theorem ltCs_some (ad : Addr) (n c : Nat) (l : List (Int × Int)) (w : World) (hl : l.length = n) (hn : n ≤ 1000)
    (hc : Hid (∀ j u, (flat l)[j]? = some u → (w.alloc (.cells #[] 52)).cell? (ad.add j) = some u)) :
    Calls Tryd.prog 66 #[.slice (some ad) n c] w fun e w' => ∃ u, e = .returned u ∧ RH.Sh w' w.heap.size u l ∧ Below w.heap.size w w' := by
  obtain ⟨i0, hi0, hz0, hz1, hz2⟩ := RH.info_parts RH.sh_info
  have OA := RH.no_row w w.heap.size 2 52 (Nat.le_refl _)
  go_enter Tryd.func66, Tryd.ntmps66
  go_wp2_with (at_builtin; refine wpList_append_own_at _ rfl _ _ 30 rfl w.heap.size 52 i0 (.agg #[.int .i64 0, .int .i64 0]) 2 16 Tryd.underlying30 hi0 hz0 hz1 hz2 rfl (by omega) _ _ _ rfl OA ad n c (flat l) rfl ?qc1 ?qc2 ?qc3 ?qc4 ?qc5 ?qc6 ?_)
  case qc1 => rw [flat_len, hl]
  case qc2 => exact hc.out
  case qc3 => exact flat_one _
  case qc4 => rw [Nat.zero_add]; unfold maxLen; omega
  case qc5 => rw [Nat.zero_add]; omega
  case qc6 => simp
  intro v' w1 hown hgrow hnil _
  have HO := Lib.hid hown
  have HG := Lib.hid hgrow
  clear hown hgrow hnil
  go_wp2
  go_ret
  refine ⟨v', rfl, ?_, ?_⟩
  · have := HO.out
    unfold RH.Sh
    rw [hl]
    simpa using this
  · exact ((Below.refl _ w).alloc (Nat.le_refl _) _).grown HG.out (by simp) (by intro k hk; simp [Value.ownBlock] at hk; omega)
set_option maxHeartbeats 4000000 in
set_option maxRecDepth 100000 in
theorem ltCs_none (c : Nat) (w : World) :
    Calls Tryd.prog 66 #[.slice none 0 c] w fun e w' => ∃ u, e = .returned u ∧ RH.Sh w' w.heap.size u [] ∧ Below w.heap.size w w' := by
  obtain ⟨i0, hi0, hz0, hz1, hz2⟩ := RH.info_parts RH.sh_info
  have OA := Lib.hid (RH.no_row w w.heap.size 2 52 (Nat.le_refl _))
  go_enter Tryd.func66, Tryd.ntmps66
  go_wp2_with (at_builtin; refine RH.wpList_append_nothing rfl _ _ 30 rfl 52 i0 Tryd.underlying30 hi0 ⟨w.heap.size, 0, none⟩ 0 c rfl rfl ?_)
  go_wp2
  go_ret
  exact ⟨_, rfl, OA.out, bel_alloc (Below.refl _ _)⟩
theorem ltCs_any (v : Value) (l : List (Int × Int)) (w : World) (h : Pts w v l) (hn : l.length ≤ 1000) :
    Calls Tryd.prog 66 #[v] w fun e w' => ∃ u, e = .returned u ∧ RH.Sh w' w.heap.size u l ∧ Below w.heap.size w w' := by
  obtain ⟨a, c, rfl, hl, h⟩ := h
  cases a with
  | none =>
    rcases h with h | ⟨b, off, hx, _⟩
    · obtain rfl := List.length_eq_zero_iff.1 h
      exact ltCs_none c w
    · cases hx
  | some ad =>
    refine ltCs_some ad l.length c l w rfl hn (Lib.hid ?_)
    intro j u hj
    rcases h with h | ⟨b, off, hx, hb, hc⟩
    · obtain rfl := List.length_eq_zero_iff.1 h
      simp [flat] at hj
    · obtain rfl := Option.some.inj hx
      obtain ⟨i, hi, ⟨rfl, rfl⟩ | ⟨rfl, rfl⟩⟩ := flat_inv l j u hj
      · rw [Go.WideShapes.add_plain, World.cell?_alloc_lt w _ _ hb]
        exact (hc i hi).1
      · rw [Go.WideShapes.add_plain, World.cell?_alloc_lt w _ _ hb, ← Nat.add_assoc]
        exact (hc i hi).2
end Go.Proofs.YtfpdanjhlepckaaDoor

