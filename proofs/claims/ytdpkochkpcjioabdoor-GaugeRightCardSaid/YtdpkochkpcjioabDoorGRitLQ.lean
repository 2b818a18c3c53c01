/-
  The statement GaugeRight of spile/spilelaw15 holds: for every input the call returns true, and each argument reads afterwards as it read before. (The listed package variables hold what the program lays: the card ties them.)
-/
import Derived.Test.YtdpkochkpcjioabDoorRXO
import Derived.Laws.StructEq
import Derived.Deep.CutRange
import Derived.ProofKit
import Derived.OpenShut
import Derived.ChangeOld
import Derived.Lib.SmallJoins
import Derived.Deep.Slices
import Derived.Deep.Fields
import Derived.ChangeSame
import Derived.Test.YtdpkochkpcjioabDoorCards
import Derived.Test.YtdpkochkpcjioabDoorTie
import Derived.Below
import Derived.Carry
import Derived.Lib.LaidTab
import Derived.Deep.DeepHandedRow
import Derived.SevenTiedPlain
import Derived.Lay

set_option linter.unusedVariables false
set_option linter.unusedSimpArgs false

namespace Go.Proofs.YtdpkochkpcjioabDoor
open Go.RowKit

def samR (a b c d x y z u : Int) : Bool := a == x && (b == y && (c == z && d == u))
theorem run_same_rdg (a b c d x y z u : Int) (w : World) (k : Nat) :
    (Op.equalIn (k + 2) 26 (.agg #[.int .i64 a, .int .i64 b, .int .i64 c, .int .i64 d]) (.agg #[.int .i64 x, .int .i64 y, .int .i64 z, .int .i64 u])).run Tryd.prog w = .ok (samR a b c d x y z u) w := by
  rw [run_equalIn_agg w (k + 1) 26 _ _ (by kernel_rfl) (by kernel_rfl)]
  have hf : (Tryd.prog.fieldsOf 26).toList.map (fun f => (f.name, f.type, f.offset)) = [("Day", 3, 0), ("Dip", 3, 1), ("Heat", 3, 2), ("Strength", 3, 3)] := by kernel_rfl
  generalize (Tryd.prog.fieldsOf 26).toList = fs at *
  obtain ⟨f, g, h, i, rfl⟩ : ∃ f g h i, fs = [f, g, h, i] := by
    have hl := congrArg List.length hf
    rw [List.length_map] at hl
    rcases fs with _ | ⟨f, _ | ⟨g, _ | ⟨h, _ | ⟨i, _ | ⟨j, fs⟩⟩⟩⟩⟩ <;> simp at hl
    exact ⟨f, g, h, i, rfl⟩
  simp only [List.map_cons, List.map_nil, List.cons.injEq, Prod.mk.injEq, and_true] at hf
  obtain ⟨⟨f1, f2, f3⟩, ⟨g1, g2, g3⟩, ⟨h1, h2, h3⟩, i1, i2, i3⟩ := hf
  have eq : ∀ (u v : Int) (W : World), (Op.equalIn (k + 1) 3 (.int .i64 u) (.int .i64 v)).run Tryd.prog W = .ok (u == v) W := fun u v W => run_equalIn_int W k 3 .i64 .i64 u v Tryd.underlying3
  by_cases e1 : a = x <;> by_cases e2 : b = y <;> by_cases e3 : c = z <;> by_cases e4 : d = u <;> simp [Op.eqFields, f1, f2, f3, g1, g2, g3, h1, h2, h3, i1, i2, i3, go_sem, samR, eq, e1, e2, e3, e4]
theorem run_same_bnd (a b x y : Int) (w : World) (k : Nat) :
    (Op.equalIn (k + 2) 30 (.agg #[.int .i64 a, .int .i64 b]) (.agg #[.int .i64 x, .int .i64 y])).run Tryd.prog w = .ok (samB a b x y) w := by
  rw [run_equalIn_agg w (k + 1) 30 _ _ (by kernel_rfl) (by kernel_rfl)]
  have hf : (Tryd.prog.fieldsOf 30).toList.map (fun f => (f.name, f.type, f.offset)) = [("Low", 3, 0), ("High", 3, 1)] := by kernel_rfl
  generalize (Tryd.prog.fieldsOf 30).toList = fs at *
  obtain ⟨f, g, rfl⟩ : ∃ f g, fs = [f, g] := by
    have hl := congrArg List.length hf
    rw [List.length_map] at hl
    rcases fs with _ | ⟨f, _ | ⟨g, _ | ⟨h, fs⟩⟩⟩ <;> simp at hl
    exact ⟨f, g, rfl⟩
  simp only [List.map_cons, List.map_nil, List.cons.injEq, Prod.mk.injEq, and_true] at hf
  obtain ⟨⟨f1, f2, f3⟩, g1, g2, g3⟩ := hf
  have eq : ∀ (u v : Int) (W : World), (Op.equalIn (k + 1) 3 (.int .i64 u) (.int .i64 v)).run Tryd.prog W = .ok (u == v) W := fun u v W => run_equalIn_int W k 3 .i64 .i64 u v Tryd.underlying3
  by_cases e1 : a = x <;> by_cases e2 : b = y <;> simp [Op.eqFields, f1, f2, f3, g1, g2, g3, go_sem, samB, eq, e1, e2]
/-- a report is the same as itself -/
theorem same_rpt (a b c d e f g h : Int) (w : World) :
    (binOp .eql 36 (.agg #[.int .i64 a, .int .i64 b, .int .i64 c, .int .i64 d, .int .i64 e, .int .i64 f, .int .i64 g, .int .i64 h]) (.agg #[.int .i64 a, .int .i64 b, .int .i64 c, .int .i64 d, .int .i64 e, .int .i64 f, .int .i64 g, .int .i64 h])).run Tryd.prog w = .ok (.bool true) w := by
  rw [run_eql_struct, show (10000 : Nat) = 9999 + 1 from rfl, run_equalIn_agg w 9999 36 _ _ (by kernel_rfl) (by kernel_rfl)]
  have hf : (Tryd.prog.fieldsOf 36).toList.map (fun f => (f.name, f.type, f.offset)) = [("Reading", 26, 0), ("Volume", 30, 4), ("Alcohol", 30, 6)] := by kernel_rfl
  generalize (Tryd.prog.fieldsOf 36).toList = fs at *
  obtain ⟨F, G, K, rfl⟩ : ∃ F G K, fs = [F, G, K] := by
    have hl := congrArg List.length hf
    rw [List.length_map] at hl
    rcases fs with _ | ⟨F, _ | ⟨G, _ | ⟨K, _ | ⟨J, fs⟩⟩⟩⟩ <;> simp at hl
    exact ⟨F, G, K, rfl⟩
  simp only [List.map_cons, List.map_nil, List.cons.injEq, Prod.mk.injEq, and_true] at hf
  obtain ⟨⟨f1, f2, f3⟩, ⟨g1, g2, g3⟩, h1, h2, h3⟩ := hf
  have eR : ∀ W, (Op.equalIn 9999 26 (.agg #[.int .i64 a, .int .i64 b, .int .i64 c, .int .i64 d]) (.agg #[.int .i64 a, .int .i64 b, .int .i64 c, .int .i64 d])).run Tryd.prog W = .ok true W := fun W => by
    rw [show (9999 : Nat) = 9997 + 2 from rfl, run_same_rdg]; simp [samR]
  have eB : ∀ (u v : Int) W, (Op.equalIn 9999 30 (.agg #[.int .i64 u, .int .i64 v]) (.agg #[.int .i64 u, .int .i64 v])).run Tryd.prog W = .ok true W := fun u v W => by
    rw [show (9999 : Nat) = 9997 + 2 from rfl, run_same_bnd]; simp [samB]
  simp [Op.eqFields, f1, f2, f3, g1, g2, g3, h1, h2, h3, go_sem, eR, eB]
end Go.Proofs.YtdpkochkpcjioabDoor

namespace Go.Proofs.YtdpkochkpcjioabDoor
open Go.RowKit

/-- the bounds of the wet volume are in order -/
theorem wt_bdE {l : List (Int × Int)} {tol x : Int} (h : rdE l tol x = 0) : 0 ≤ wtL l tol x ∧ wtL l tol x ≤ wtH l tol x ∧ wtH l tol x ≤ 8589934592 := by
  obtain ⟨h0, h1, h2⟩ := rdE_zero.1 h
  obtain ⟨hR, ht⟩ := tbE_iff.1 h0
  obtain ⟨f1, f2, f3⟩ := hR.find h2
  have f1' : wtK l x < l.length := f1
  have f2' : x ≤ gX l (wtK l x) := f2
  have b := hR.bv (wtK l x) f1'
  unfold wtL wtH
  rw [if_pos h, if_pos h]
  split
  · omega
  · rename_i g
    have k0 : wtK l x ≠ 0 := fun e => by rw [e] at g; omega
    have c := hR.bv (wtK l x - 1) (by omega)
    have u := hR.up (wtK l x - 1) (by omega)
    rw [Nat.sub_add_cancel (by omega)] at u
    omega
theorem gR_mono {l : List (Int × Int)} (h : MR l) {i j : Nat} (hij : i ≤ j) (hj : j < l.length) : gR l i ≤ gR l j := by
  induction j with
  | zero => rw [show i = 0 by omega]; exact Int.le_refl _
  | succ j ih =>
    by_cases e : i = j + 1
    · rw [e]; exact Int.le_refl _
    · have a := ih (by omega) (by omega)
      have b := h.up j hj
      omega
theorem wt_mono {l : List (Int × Int)} {tol x y : Int} (hx : rdE l tol x = 0) (hy : rdE l tol y = 0) (hxy : x ≤ y) : wtL l tol x ≤ wtL l tol y ∧ wtH l tol x ≤ wtH l tol y := by
  obtain ⟨h0, h1, h2⟩ := rdE_zero.1 hx
  obtain ⟨_, k1, k2⟩ := rdE_zero.1 hy
  obtain ⟨hR, ht⟩ := tbE_iff.1 h0
  obtain ⟨f1, f2, f3⟩ := hR.find h2
  obtain ⟨g1, g2, g3⟩ := hR.find k2
  have f1' : wtK l x < l.length := f1
  have f2' : x ≤ gX l (wtK l x) := f2
  have f3' : ∀ j, j < wtK l x → gX l j < x := f3
  have g1' : wtK l y < l.length := g1
  have g2' : y ≤ gX l (wtK l y) := g2
  have g3' : ∀ j, j < wtK l y → gX l j < y := g3
  have hK : wtK l x ≤ wtK l y := by
    apply Classical.byContradiction
    intro hc
    have := f3' (wtK l y) (by omega)
    omega
  have m := gR_mono hR hK g1'
  unfold wtL wtH
  rw [if_pos hx, if_pos hy, if_pos hx, if_pos hy]
  refine ⟨?_, by omega⟩
  by_cases e : wtK l x = wtK l y
  · rw [← e]
    by_cases q : gX l (wtK l x) ≤ x
    · rw [if_pos q, if_pos (by omega)]; exact Int.le_refl _
    · rw [if_neg q]
      have u := gR_mono hR (show wtK l x - 1 ≤ wtK l x by omega) f1'
      split <;> omega
  · have u := gR_mono hR (show wtK l x ≤ wtK l y - 1 by omega) (by omega)
    have u2 := gR_mono hR (show wtK l y - 1 ≤ wtK l y by omega) g1'
    have u3 := gR_mono hR (show wtK l x - 1 ≤ wtK l x by omega) f1'
    split <;> split <;> omega
theorem rp_zero {t : List (Int × Int)} {tol d p h s rise : Int} (e : rpE t tol d p h s rise = 0) : rdE t tol p = 0 ∧ rdgB d p h s = true ∧ facB rise h = true ∧ toE (wtL t tol p) rise h 1 = 0 ∧ toE (wtH t tol p) rise h 2 = 0 ∧
    rpR t tol d p h s rise = ⟨d, p, h, s, toQ (wtL t tol p) rise h 1, toQ (wtH t tol p) rise h 2, toQ (wtL t tol p) rise h 1 * s, toQ (wtH t tol p) rise h 2 * s⟩ := by
  have e' := e
  unfold rpE at e
  by_cases e1 : rdE t tol p = 0
  · rw [if_neg (by omega)] at e
    by_cases e2 : rdgE d p h s = 0
    · rw [if_neg (by omega)] at e
      obtain ⟨_, _, t1, t2, t3, t4⟩ := bt_zero e
      refine ⟨e1, rdgE_zero.1 e2, (rdy_ok (to_zero t1).1).2.1, t1, t2, ?_⟩
      unfold rpR
      rw [if_pos e', t3, t4]
    · rw [if_pos e2] at e; exact absurd e e2
  · rw [if_pos e1] at e; exact absurd e e1
theorem rp_right {t : List (Int × Int)} {tol d p h s rise : Int} (e : rpE t tol d p h s rise = 0) : rgtB (rpR t tol d p h s rise) = true := by
  obtain ⟨e1, hB, hf, t1, t2, eR⟩ := rp_zero e
  have hb := fac_bd _ _ hf
  obtain ⟨w0, w1, w2⟩ := wt_bdE e1
  obtain ⟨_, q1, q2, q3⟩ := to_zero t1
  obtain ⟨_, r1, r2, r3⟩ := to_zero t2
  have a := rq_mono1 1 (wtL t tol p * 10000000) (wtH t tol p * 10000000) (fac rise h) (by omega) (by omega) (by omega)
  have b := (rq_rules 1 (wtH t tol p * 10000000) (fac rise h) (by omega)).2
  have c := (rq_between 2 (wtH t tol p * 10000000) (fac rise h) 0 34359738368 (by omega) (by omega) (by omega) (by omega)).2
  rw [eR]
  exact rgtB_iff.2 ⟨hB, q3, by show toQ _ _ _ _ ≤ toQ _ _ _ _; rw [q1, r1]; omega, by show toQ _ _ _ _ ≤ _; rw [r1]; exact c, rfl, rfl⟩
theorem rp_deep {t : List (Int × Int)} {tol d p q h s rise : Int} (hpq : p ≤ q) (e : rpE t tol d p h s rise = 0) (f : rpE t tol d q h s rise = 0) : (rpR t tol d p h s rise).vl ≤ (rpR t tol d q h s rise).vl ∧ (rpR t tol d p h s rise).vh ≤ (rpR t tol d q h s rise).vh := by
  obtain ⟨e1, _, _, t1, t2, eR⟩ := rp_zero e
  obtain ⟨f1, _, _, u1, u2, fR⟩ := rp_zero f
  obtain ⟨m1, m2⟩ := wt_mono e1 f1 hpq
  rw [eR, fR]
  exact ⟨th_to_more _ _ rise h 1 m1 t1 u1, th_to_more _ _ rise h 2 m2 t2 u2⟩
theorem rp_hot {t : List (Int × Int)} {tol d p h k s rise : Int} (hk : h ≤ k) (e : rpE t tol d p h s rise = 0) (f : rpE t tol d p k s rise = 0) : (rpR t tol d p k s rise).vl ≤ (rpR t tol d p h s rise).vl ∧ (rpR t tol d p k s rise).vh ≤ (rpR t tol d p h s rise).vh := by
  obtain ⟨e1, _, _, t1, t2, eR⟩ := rp_zero e
  obtain ⟨f1, _, _, u1, u2, fR⟩ := rp_zero f
  rw [eR, fR]
  exact ⟨th_to_heat _ rise h k 1 hk t1 u1, th_to_heat _ rise h k 2 hk t2 u2⟩
end Go.Proofs.YtdpkochkpcjioabDoor

namespace Go.Proofs.YtdpkochkpcjioabDoor
open Go.RowKit

theorem Two.oth {b : Nat} {W : World} {x y : Value} (h : Two b W x y) (p : Addr) (hp : p.block ≠ b) (v : Value) : Two b (W.setCell p v) x y := by
  obtain ⟨h0, h1, f0, f1, hl⟩ := h
  have o : ∀ k, (W.setCell p v).cell? ⟨b, k, none⟩ = W.cell? ⟨b, k, none⟩ := fun k => World.cell?_setCell_other _ _ _ _ (by intro e; apply hp; rw [e])
  exact ⟨by rw [o]; exact h0, by rw [o]; exact h1, by rw [World.frozen?_setCell]; exact f0, by rw [World.frozen?_setCell]; exact f1, by simpa [World.setCell] using hl⟩
theorem Eig.oth {b : Nat} {W : World} {x0 x1 x2 x3 x4 x5 x6 x7 : Value} (h : Eig b W x0 x1 x2 x3 x4 x5 x6 x7) (p : Addr) (hp : p.block ≠ b) (v : Value) : Eig b (W.setCell p v) x0 x1 x2 x3 x4 x5 x6 x7 := by
  obtain ⟨h0, h1, h2, h3, h4, h5, h6, h7, hf, hl⟩ := h
  have o : ∀ k, (W.setCell p v).cell? ⟨b, k, none⟩ = W.cell? ⟨b, k, none⟩ := fun k => World.cell?_setCell_other _ _ _ _ (by intro e; apply hp; rw [e])
  exact ⟨by rw [o]; exact h0, by rw [o]; exact h1, by rw [o]; exact h2, by rw [o]; exact h3, by rw [o]; exact h4, by rw [o]; exact h5, by rw [o]; exact h6, by rw [o]; exact h7, fun k hk => by rw [World.frozen?_setCell]; exact hf k hk, by simpa [World.setCell] using hl⟩
theorem Quad.set1 {b : Nat} {W : World} {x y z u : Value} (h : Quad b W x y z u) (v : Value) : Quad b (W.setCell ⟨b, 1, none⟩ v) x v z u := by
  obtain ⟨h0, h1, h2, h3, hf, hl⟩ := h
  have o : ∀ k, k ≠ 1 → (W.setCell ⟨b, 1, none⟩ v).cell? ⟨b, k, none⟩ = W.cell? ⟨b, k, none⟩ := fun k hk => World.cell?_setCell_other _ _ _ _ (by simp; try omega)
  exact ⟨by rw [o _ (by decide)]; exact h0, World.cell?_setCell_same _ _ _ h1, by rw [o _ (by decide)]; exact h2, by rw [o _ (by decide)]; exact h3, fun k hk => by rw [World.frozen?_setCell]; exact hf k hk, by simpa [World.setCell] using hl⟩
theorem Quad.set2 {b : Nat} {W : World} {x y z u : Value} (h : Quad b W x y z u) (v : Value) : Quad b (W.setCell ⟨b, 2, none⟩ v) x y v u := by
  obtain ⟨h0, h1, h2, h3, hf, hl⟩ := h
  have o : ∀ k, k ≠ 2 → (W.setCell ⟨b, 2, none⟩ v).cell? ⟨b, k, none⟩ = W.cell? ⟨b, k, none⟩ := fun k hk => World.cell?_setCell_other _ _ _ _ (by simp; try omega)
  exact ⟨by rw [o _ (by decide)]; exact h0, by rw [o _ (by decide)]; exact h1, World.cell?_setCell_same _ _ _ h2, by rw [o _ (by decide)]; exact h3, fun k hk => by rw [World.frozen?_setCell]; exact hf k hk, by simpa [World.setCell] using hl⟩
end Go.Proofs.YtdpkochkpcjioabDoor

namespace Go.Proofs.YtdpkochkpcjioabDoor
open Go.ChangeShapes Go.WideShapes Go.ChangeAt Go.RowKit Go.Joins

theorem wf_u8 {n : Int} (h : (Lit.int .u8 n).wf = true) : 0 ≤ n ∧ n ≤ 255 := by
  simp [Lit.wf] at h
  have e1 : IntKind.u8.min = 0 := by decide
  have e2 : IntKind.u8.max = 255 := by decide
  omega

theorem ints_of_elems {H : Type} {enc : TypeId × Value → H} {P : Program} {w : World} {base : Nat} {spare : Nat → Bool} {held : Bool} {e : TypeId} {k : IntKind} (he : P.underlying e = some (.int k)) (hC : P.cellsOf e = 1)
    (m : Nat) : ∀ (cs : List Value) (xs : List (DataW H × List MemPlace)), cs.length = xs.length → (∀ i, i < xs.length → DataW.trod enc P w base spare held m e ((cs.drop (i * P.cellsOf e)).take (P.cellsOf e)) = xs[i]?) →
      ∃ zs : List Int, zs.length = cs.length ∧ cs = zs.map (Value.int k) ∧ ∀ z ∈ zs, (Lit.int k z).wf = true
  | [], _, _, _ => ⟨[], rfl, rfl, by simp⟩
  | c :: cs, [], h, _ => by simp at h
  | c :: cs, x :: xs, hl, h => by
    have h0 := h 0 (by simp)
    rw [hC] at h0
    simp only [Nat.zero_mul, List.drop_zero, List.take_succ_cons, List.take_zero, List.getElem?_cons_zero] at h0
    obtain ⟨z, e0, _, wz⟩ := DataW.trod_int he h0
    simp only [List.cons.injEq, and_true] at e0
    subst e0
    obtain ⟨zs, l, r, s⟩ := ints_of_elems he hC m cs xs (by simpa using hl) (fun i hi => by
      have := h (i + 1) (by simp; omega)
      rw [hC] at this ⊢
      simpa using this)
    exact ⟨z :: zs, by simp [l], by simp [r], by simpa using ⟨wz, s⟩⟩

theorem open_intArr {H : Type} {enc : TypeId × Value → H} {P : Program} {w : World} {r : Reach} {b0 base : Nat} {spare : Nat → Bool} {held : Bool} {t e : TypeId} {n : Nat} {k : IntKind} {v : Value} {d : DataW H} {p : List MemPlace}
    (ht : P.underlying t = some (.array n e)) (he : P.underlying e = some (.int k)) (hn : P.cellsOf t = n) (hC : P.cellsOf e = 1)
    (hv : Value.okWide P w r b0 t v) (h : DataW.Trod enc P w base spare held t v d p) :
    ∃ zs : List Int, zs.length = n ∧ v = .agg (zs.map (Value.int k)).toArray ∧ ∀ z ∈ zs, (Lit.int k z).wf = true := by
  simp only [Value.okWide, ht] at hv
  obtain ⟨cs, rfl, hsz, _⟩ := hv
  obtain ⟨fuel, hf⟩ := h
  obtain ⟨xs, m, _, _, _, hl, hel⟩ := DataW.trod_array ht hf
  obtain ⟨l⟩ := cs
  have hll : l.length = n := by rw [← hn, ← hsz]; simp
  obtain ⟨zs, z1, z2, z3⟩ := ints_of_elems he hC m l xs (by omega) (fun i hi => by
    have := hel i (by omega)
    simpa [Value.cells] using this)
  exact ⟨zs, by omega, by rw [z2], z3⟩

theorem list_two {l : List Int} (h : l.length = 2) : ∃ a b, l = [a, b] := by
  match l, h with
  | [a, b], _ => exact ⟨a, b, rfl⟩
end Go.Proofs.YtdpkochkpcjioabDoor

namespace Go.Proofs.YtdpkochkpcjioabDoor.gaugeRight
open Go.ChangeShapes Go.WideShapes Go.ChangeAt Go.RowKit
open Go.ChangeMaps (open_string shut_string)
set_option linter.unusedVariables false

theorem bel_al2 {A B : World} (h : Below A.heap.size A B) (o : Obj) : Below A.heap.size A (B.alloc o) := h.alloc h.size o
/-- what stands in GaugeRight -/
def GqI (w : World) (z : Nat) (tv : Value) (tol d p h s : Int) (m0 m1 : Value) (W : World) : Prop := Below w.heap.size w W ∧ Two w.heap.size W tv (.int .i64 tol) ∧ Quad (w.heap.size + 1) W (.int .i64 d) (.int .i64 p) (.int .i64 h) (.int .i64 s) ∧ Two z W m0 m1
theorem GqI.below {w : World} {z : Nat} {tv : Value} {tol d p h s : Int} {m0 m1 : Value} {W W' : World} (hh : GqI w z tv tol d p h s m0 m1 W) (hb : Below W.heap.size W W') : GqI w z tv tol d p h s m0 m1 W' := ⟨bel_trans hh.1 hb, hh.2.1.below hb, hh.2.2.1.below hb, hh.2.2.2.below hb⟩
theorem GqI.init (w : World) (tv : Value) (tol d p h s : Int) (m0 m1 : Value) : GqI w (w.heap.size + 1 + 1) tv tol d p h s m0 m1 (((w.alloc (.cells #[tv, .int .i64 tol] 24)).alloc (.cells #[.int .i64 d, .int .i64 p, .int .i64 h, .int .i64 s] 26)).alloc (.cells #[m0, m1] 50)) := by
  have h2 := Quad.new (w.alloc (.cells #[tv, .int .i64 tol] 24)) (.int .i64 d) (.int .i64 p) (.int .i64 h) (.int .i64 s) 26
  have h3 := Two.new ((w.alloc (.cells #[tv, .int .i64 tol] 24)).alloc (.cells #[.int .i64 d, .int .i64 p, .int .i64 h, .int .i64 s] 26)) m0 m1 50
  rw [World.size_alloc] at h2
  rw [World.size_alloc, World.size_alloc] at h3
  exact ⟨bel_alloc (bel_alloc (bel_alloc (Below.refl _ _))), ((Two.new w _ _ _).alloc _).alloc _, h2.alloc _, h3⟩
theorem nsame_rdg (a b c d : Int) (w : World) :
    (binOp .neq 26 (.agg #[.int .i64 a, .int .i64 b, .int .i64 c, .int .i64 d]) (.agg #[.int .i64 a, .int .i64 b, .int .i64 c, .int .i64 d])).run Tryd.prog w = .ok (.bool false) w := by
  rw [run_neq_struct, show (10000 : Nat) = 9998 + 2 from rfl, run_same_rdg, show samR a b c d a b c d = true by simp [samR]]; rfl
set_option maxHeartbeats 32000000 in
set_option maxRecDepth 100000 in
theorem core (a : Option Addr) (n cap : Nat) (tol d p h s rise m0 m1 E R0 R1 R2 R3 R4 R5 R6 R7 E2 D0 D1 D2 D3 D4 D5 D6 D7 E3 H0 H1 H2 H3 H4 H5 H6 H7 : Int) (t : List (Int × Int)) (w : World) (B1 : Bool) (hn : n = t.length) (hw : Hid (WordsIs w)) (hP : Hid (Pts w (.slice a n cap) t)) (hs : Hid (B1 = true → t.length ≤ 1000))
    (b0 : 0 ≤ m0 ∧ m0 ≤ 255) (b1 : 0 ≤ m1 ∧ m1 ≤ 255)
    (hE : ((E != 0) = true ∧ R0 = 0 ∧ R1 = 0 ∧ R2 = 0 ∧ R3 = 0 ∧ R4 = 0 ∧ R5 = 0 ∧ R6 = 0 ∧ R7 = 0) ∨ (E = 0 ∧ d = R0 ∧ p = R1 ∧ h = R2 ∧ s = R3 ∧ 0 ≤ p ∧ -400 ≤ h ∧ ((E2 == 0) = false ∨ (E2 = 0 ∧ ¬ D4 < R4 ∧ ¬ D5 < R5)) ∧ ((E3 != 0) = true ∨ (E3 = 0 ∧ H4 ≤ R4 ∧ H5 ≤ R5))))
    (HF : Hid (∀ v W, TbV W v t tol → Calls Tryd.prog 11 #[v] W fun e w' => e = .returned (.bool B1) ∧ Below W.heap.size W w'))
    (HR : Hid (∀ v W, TbV W v t tol → WordsIs W → Calls Tryd.prog 15 #[v, .agg #[.int .i64 d, .int .i64 p, .int .i64 h, .int .i64 s], .int .i64 rise] W fun e w' => e = .returned (.tuple #[.agg #[.int .i64 R0, .int .i64 R1, .int .i64 R2, .int .i64 R3, .int .i64 R4, .int .i64 R5, .int .i64 R6, .int .i64 R7], .int .i64 E]) ∧ Below W.heap.size W w'))
    (HRD : Hid (∀ v W, TbV W v t tol → WordsIs W → Calls Tryd.prog 15 #[v, .agg #[.int .i64 d, .int .i64 (p + m0), .int .i64 h, .int .i64 s], .int .i64 rise] W fun e w' => e = .returned (.tuple #[.agg #[.int .i64 D0, .int .i64 D1, .int .i64 D2, .int .i64 D3, .int .i64 D4, .int .i64 D5, .int .i64 D6, .int .i64 D7], .int .i64 E2]) ∧ Below W.heap.size W w'))
    (HRH : Hid (∀ v W, TbV W v t tol → WordsIs W → Calls Tryd.prog 15 #[v, .agg #[.int .i64 d, .int .i64 p, .int .i64 (h + m1), .int .i64 s], .int .i64 rise] W fun e w' => e = .returned (.tuple #[.agg #[.int .i64 H0, .int .i64 H1, .int .i64 H2, .int .i64 H3, .int .i64 H4, .int .i64 H5, .int .i64 H6, .int .i64 H7], .int .i64 E3]) ∧ Below W.heap.size W w'))
    (HT : Hid (E = 0 → ∀ W, Calls Tryd.prog 28 #[.agg #[.int .i64 R0, .int .i64 R1, .int .i64 R2, .int .i64 R3, .int .i64 R4, .int .i64 R5, .int .i64 R6, .int .i64 R7]] W fun e w' => e = .returned (.bool true) ∧ Below W.heap.size W w')) :
    Calls Tryd.prog 5 #[.agg #[.slice a n cap, .int .i64 tol], .agg #[.int .i64 d, .int .i64 p, .int .i64 h, .int .i64 s], .int .i64 rise, .agg #[.int .u8 m0, .int .u8 m1]] w fun e w' => e = .returned (.bool true) ∧ Below w.heap.size w w' := by
  subst hn
  have Q8 := fun a b c d e f g h W => same_rpt a b c d e f g h W
  have Q9 := fun a b c d W => nsame_rdg a b c d W
  have S0 := Lib.hid (GqI.init w (.slice a t.length cap) tol d p h s (.int .u8 m0) (.int .u8 m1))
  have HV : Hid (∀ W, Below w.heap.size w W → TbV W (.agg #[.slice a t.length cap, .int .i64 tol]) t tol) := Lib.hid fun W hW => ⟨a, cap, rfl, hP.out.below hW⟩
  have HA : Hid (∀ W, Below w.heap.size w W → _) := Lib.hid fun W hW => gawake_any W (hw.out.below hW)
  have HWD : Hid (∀ W, Below w.heap.size w W → WordsIs W) := Lib.hid fun W hW => hw.out.below hW
  have HC := Lib.hid (fun (hB : B1 = true) v W (h : TbV W v t tol) => copy_any v t tol W h (hs.out hB))
  clear hs hP hw
  generalize t.length = n at *
  go_enter Tryd.func5, Tryd.ntmps5
  go_wp2_with fail
  have hz2 : w.heap.size + 1 < w.heap.size + 1 + 1 := by omega
  generalize w.heap.size + 1 + 1 = z at *
  replace hz2 := Lib.hid hz2
  refine (HA.out _ S0.out.1).mono ?_
  rintro e w1 ⟨rfl, h1⟩
  replace S0 := Lib.hid (S0.out.below h1); clear h1
  obtain ⟨_, ⟨t0, t1, _, _, _⟩, ⟨q0, q1, q2, q3, _, _⟩, _⟩ := S0.out
  go_wp2_with fail
  refine (HF.out _ _ (HV.out _ S0.out.1)).mono ?_
  rintro e w2 ⟨rfl, h1⟩
  replace S0 := Lib.hid (S0.out.below h1); clear h1 t0 t1 q0 q1 q2 q3
  have X := Lib.hid S0.out.1
  cases B1 with
  | false =>
    go_wp2
    go_returns
    exact ⟨rfl, X.out⟩
  | true =>
    replace HC := Lib.hid (HC.out rfl)
    obtain ⟨_, ⟨t0, t1, _, _, _⟩, ⟨q0, q1, q2, q3, _, _⟩, _⟩ := S0.out
    by_cases g1 : p > 200000
    · have g2 : decide (200000 < p) = true := decide_eq_true g1
      go_wp2
      go_returns
      exact ⟨rfl, X.out⟩
    have g2 : decide (200000 < p) = false := decide_eq_false g1
    by_cases g3 : h > 600
    · have g4 : decide (600 < h) = true := decide_eq_true g3
      go_wp2
      go_returns
      exact ⟨rfl, X.out⟩
    have g4 : decide (600 < h) = false := decide_eq_false g3
    have NR : Hid (Quad (w.heap.size + 1) w2 (.int .i64 d) (.int .i64 p) (.int .i64 h) (.int .i64 s)) := Lib.hid S0.out.2.2.1
    go_upto_region 5 with fail
    clear t0 t1 q0 q1 q2 q3 X
    obtain ⟨_, ⟨t0, t1, _, _, _⟩, _⟩ := S0.out
    obtain ⟨q0, q1, q2, q3, _, _⟩ := NR.out
    have SZ : Hid (∀ k, w2.heap.size ≤ k → w.heap.size ≠ k ∧ k ≠ w.heap.size ∧ w.heap.size + 1 ≠ k ∧ k ≠ w.heap.size + 1) := Lib.hid fun k hk => by
      have h1 : w.heap.size < w2.heap.size := S0.out.2.1.2.2.2.2
      have h2 : w.heap.size + 1 < w2.heap.size := NR.out.2.2.2.2.2
      omega
    go_cut [9, 10] from 32 to 39 (fun s f wx => ∃ u : Nat, s = .pointer (some ⟨u, 0, none⟩) ∧ f = .int .i64 E ∧ Hid (Below w2.heap.size w2 wx) ∧ Hid (Eig u wx (.int .i64 R0) (.int .i64 R1) (.int .i64 R2) (.int .i64 R3) (.int .i64 R4) (.int .i64 R5) (.int .i64 R6) (.int .i64 R7)))
    case first =>
      go_region_held3 (fun w' => w'.cell? ⟨w.heap.size, 0, none⟩ = some (.slice a n cap) ∧ w'.cell? ⟨w.heap.size, 1, none⟩ = some (.int .i64 tol) ∧ w'.cell? ⟨w.heap.size + 1, 0, none⟩ = some (.int .i64 d) ∧ w'.cell? ⟨w.heap.size + 1, 1, none⟩ = some (.int .i64 p) ∧ w'.cell? ⟨w.heap.size + 1, 2, none⟩ = some (.int .i64 h) ∧ w'.cell? ⟨w.heap.size + 1, 3, none⟩ = some (.int .i64 s)) (go_keep) (first
        | (go_at_call 13; (refine (HC.out _ _ (HV.out _ (bel_trans S0.out.1 (bel_drew _)))).mono ?_); rintro e w3 ⟨V3, rfl, ho, gg⟩; have BX := Lib.hid (bel_trans (bel_drew w2) gg); obtain ⟨_, ⟨t0, t1, _, _, _⟩, _⟩ := S0.out.below BX.out; obtain ⟨q0, q1, q2, q3, _, _⟩ := NR.out.below BX.out; have N3 := Lib.hid ho; clear ho gg)
        | (go_at_call 13; (refine (HC.out _ _ (HV.out _ (bel_trans S0.out.1 (bel_alloc (bel_drew _))))).mono ?_); rintro e w3 ⟨V3, rfl, ho, gg⟩; have BX := Lib.hid (bel_trans (bel_alloc (bel_drew (w2.alloc (.cells #[.int .i64 0, .int .i64 0, .int .i64 0, .int .i64 0, .int .i64 0, .int .i64 0, .int .i64 0, .int .i64 0] 36)))) gg); obtain ⟨_, ⟨t0, t1, _, _, _⟩, _⟩ := S0.out.below BX.out; obtain ⟨q0, q1, q2, q3, _, _⟩ := NR.out.below BX.out; have P1 := Lib.hid ((Eig.new w2 (.int .i64 0) (.int .i64 0) (.int .i64 0) (.int .i64 0) (.int .i64 0) (.int .i64 0) (.int .i64 0) (.int .i64 0) 36).below (bel_trans (bel_drew _) gg)); obtain ⟨p0, p1, p2, p3, p4, p5, p6, p7, _, _⟩ := P1.out; obtain ⟨f0, f1, f2, f3, f4, f5, f6, f7⟩ := P1.out.fr; have PS := Lib.hid (Nat.le_refl w2.heap.size); obtain ⟨z1, z2, z3, z4⟩ := SZ.out _ PS.out; have N3 := Lib.hid ho; clear ho gg)
        | (go_at_call 15; (refine (HR.out _ _ N3.out (HWD.out _ (bel_trans S0.out.1 BX.out))).mono ?_); rintro e w4 ⟨rfl, gg⟩; replace BX := Lib.hid (bel_trans BX.out gg); clear t0 t1 q0 q1 q2 q3; obtain ⟨_, ⟨t0, t1, _, _, _⟩, _⟩ := S0.out.below BX.out; obtain ⟨q0, q1, q2, q3, _, _⟩ := NR.out.below BX.out; (try (replace P1 := Lib.hid (P1.out.below gg))); (try (clear p0 p1 p2 p3 p4 p5 p6 p7 f0 f1 f2 f3 f4 f5 f6 f7)); (try (obtain ⟨p0, p1, p2, p3, p4, p5, p6, p7, _, _⟩ := P1.out; obtain ⟨f0, f1, f2, f3, f4, f5, f6, f7⟩ := P1.out.fr)); clear gg)
        | (go_at_call 15; (refine (HR.out _ _ (N3.out.below (bel_alloc (Below.refl _ _))) (HWD.out _ (bel_trans S0.out.1 (bel_al2 BX.out _)))).mono ?_); rintro e w4 ⟨rfl, gg⟩; have PS := Lib.hid BX.out.size; obtain ⟨z1, z2, z3, z4⟩ := SZ.out _ PS.out; replace BX := Lib.hid (bel_trans (bel_al2 BX.out _) gg); clear t0 t1 q0 q1 q2 q3; obtain ⟨_, ⟨t0, t1, _, _, _⟩, _⟩ := S0.out.below BX.out; obtain ⟨q0, q1, q2, q3, _, _⟩ := NR.out.below BX.out; have P1 := Lib.hid ((Eig.new _ (.int .i64 0) (.int .i64 0) (.int .i64 0) (.int .i64 0) (.int .i64 0) (.int .i64 0) (.int .i64 0) (.int .i64 0) 36).below gg); obtain ⟨p0, p1, p2, p3, p4, p5, p6, p7, _, _⟩ := P1.out; obtain ⟨f0, f1, f2, f3, f4, f5, f6, f7⟩ := P1.out.fr; clear gg))
      all_goals go_wp2_with fail
      all_goals go_meet
      all_goals first
        | with_reducible exact ⟨_, rfl, rfl, Lib.hid (bel_al2 BX.out _), Lib.hid (Eig.new _ _ _ _ _ _ _ _ _ _)⟩
        | with_reducible exact ⟨_, rfl, rfl, Lib.hid (Eig.putB BX.out PS.out _ _ _ _ _ _ _ _), Lib.hid (P1.out.put _ _ _ _ _ _ _ _)⟩
    case rest =>
      obtain ⟨u, rfl, rfl, hB, hU⟩ := hcut
      replace S0 := Lib.hid (S0.out.below hB.out)
      clear t0 t1 q0 q1 q2 q3 SZ hB NR
      obtain ⟨_, ⟨t0, t1, _, _, _⟩, ⟨q0, q1, q2, q3, _, _⟩, _⟩ := S0.out
      obtain ⟨c0, c1, c2, c3, c4, c5, c6, c7, _, _⟩ := hU.out
      have X := Lib.hid S0.out.1
      rcases hE with ⟨e1, rfl, rfl, rfl, rfl, rfl, rfl, rfl, rfl⟩ | ⟨rfl, rfl, rfl, rfl, rfl, p0, h0, hD, hH⟩
      · go_wp2
        go_returns
        exact ⟨rfl, X.out⟩
      · replace HT := Lib.hid (HT.out rfl)
        go_wp2_with fail
        refine (HT.out _).mono ?_
        rintro e w3 ⟨rfl, h1⟩
        replace S0 := Lib.hid (S0.out.below h1)
        replace hU := Lib.hid (hU.out.below h1); clear h1 t0 t1 q0 q1 q2 q3 c0 c1 c2 c3 c4 c5 c6 c7 X
        obtain ⟨_, ⟨t0, t1, _, _, _⟩, ⟨q0, q1, q2, q3, _, _⟩, _⟩ := S0.out
        obtain ⟨c0, c1, c2, c3, c4, c5, c6, c7, _, _⟩ := hU.out
        go_upto_region 10 with fail
        go_cut [11, 12] from 54 to 55 (fun s' f wx => ∃ qd qh : Nat, s' = .pointer (some ⟨qd, 0, none⟩) ∧ f = .pointer (some ⟨qh, 0, none⟩) ∧ Hid (Below w3.heap.size w3 wx) ∧ Hid (Quad qd wx (.int .i64 d) (.int .i64 p) (.int .i64 h) (.int .i64 s)) ∧ Hid (Quad qh wx (.int .i64 d) (.int .i64 p) (.int .i64 h) (.int .i64 s)) ∧ Hid (w3.heap.size ≤ qd ∧ w3.heap.size ≤ qh ∧ qd ≠ qh))
        case first =>
          go_region
          all_goals go_wp2_with fail
          all_goals go_meet
          all_goals
            have BL := Lib.hid (bel_alloc (bel_alloc (bel_drew ((w3.alloc (.cells #[.int .i64 d, .int .i64 p, .int .i64 h, .int .i64 s] 26)).alloc (.cells #[.int .i64 d, .int .i64 p, .int .i64 h, .int .i64 s] 26)))))
            have QA := Lib.hid (((Quad.new w3 (.int .i64 d) (.int .i64 p) (.int .i64 h) (.int .i64 s) 26).below (bel_alloc (o := .cells #[.int .i64 d, .int .i64 p, .int .i64 h, .int .i64 s] 26) (Below.refl _ _))).below (bel_drew _))
            have QB := Quad.new (w3.alloc (.cells #[.int .i64 d, .int .i64 p, .int .i64 h, .int .i64 s] 26)) (.int .i64 d) (.int .i64 p) (.int .i64 h) (.int .i64 s) 26
            rw [World.size_alloc] at QB
            replace QB := Lib.hid (QB.below (bel_drew _))
            first
              | exact ⟨_, _, rfl, rfl, BL, QA, QB, Lib.hid ⟨by omega, by omega, by omega⟩⟩
              | exact ⟨_, _, rfl, rfl, BL, QB, QA, Lib.hid ⟨by omega, by omega, by omega⟩⟩
        case rest =>
          obtain ⟨qd, qh, rfl, rfl, hB, hQd, hQh, hne⟩ := hcut
          have s1 : w.heap.size < w3.heap.size := S0.out.2.1.2.2.2.2
          have s2 : w.heap.size + 1 < w3.heap.size := S0.out.2.2.1.2.2.2.2.2
          have s3 : z < w3.heap.size := S0.out.2.2.2.2.2.2.2
          have s4 : u < w3.heap.size := hU.out.2.2.2.2.2.2.2.2.2
          obtain ⟨n1, n2, n3⟩ := hne.out
          have y1 : z ≠ qd := by omega
          have y2 : qd ≠ z := by omega
          have y3 : z ≠ qh := by omega
          have y4 : qh ≠ z := by omega
          have y5 : qh ≠ qd := by omega
          replace S0 := Lib.hid (S0.out.below hB.out)
          replace hU := Lib.hid (hU.out.below hB.out)
          clear t0 t1 q0 q1 q2 q3 c0 c1 c2 c3 c4 c5 c6 c7
          obtain ⟨_, ⟨t0, t1, _, _, _⟩, ⟨q0, q1, q2, q3, _, _⟩, v0, v1, _, _, _⟩ := S0.out
          obtain ⟨c0, c1, c2, c3, c4, c5, c6, c7, _, _⟩ := hU.out
          obtain ⟨x0, x1, x2, x3, xf, _⟩ := hQd.out
          obtain ⟨l0, l1, l2, l3, lf, _⟩ := hQh.out
          have xf1 := xf 1 (by omega)
          have lf2 := lf 2 (by omega)
          have k1 : IntKind.i64.wrap (p + m0) = p + m0 := wrap_in _ ⟨by omega, by omega⟩
          have k2 : IntKind.i64.wrap (h + m1) = h + m1 := wrap_in _ ⟨by omega, by omega⟩
          have k3 : IntKind.i64.wrap m0 = m0 := wrap_in _ ⟨by omega, by omega⟩
          have k4 : IntKind.i64.wrap m1 = m1 := wrap_in _ ⟨by omega, by omega⟩
          have SS : Hid (GqI w z (.slice a n cap) tol d p h s (.int .u8 m0) (.int .u8 m1) ((wc.setCell ⟨qd, 1, none⟩ (.int .i64 (p + m0))).setCell ⟨qh, 2, none⟩ (.int .i64 (h + m1)))) := Lib.hid ⟨(S0.out.1.setCell (p := ⟨qd, 1, none⟩) (by show w.heap.size ≤ qd; omega) _).setCell (p := ⟨qh, 2, none⟩) (by show w.heap.size ≤ qh; omega) _, (S0.out.2.1.oth ⟨qd, 1, none⟩ (by show qd ≠ w.heap.size; omega) _).oth ⟨qh, 2, none⟩ (by show qh ≠ w.heap.size; omega) _, (S0.out.2.2.1.other ⟨qd, 1, none⟩ (by show qd ≠ w.heap.size + 1; omega) _).other ⟨qh, 2, none⟩ (by show qh ≠ w.heap.size + 1; omega) _, (S0.out.2.2.2.oth ⟨qd, 1, none⟩ (by show qd ≠ z; omega) _).oth ⟨qh, 2, none⟩ (by show qh ≠ z; omega) _⟩
          have SU : Hid (Eig u ((wc.setCell ⟨qd, 1, none⟩ (.int .i64 (p + m0))).setCell ⟨qh, 2, none⟩ (.int .i64 (h + m1))) (.int .i64 d) (.int .i64 p) (.int .i64 h) (.int .i64 s) (.int .i64 R4) (.int .i64 R5) (.int .i64 R6) (.int .i64 R7)) := Lib.hid ((hU.out.oth ⟨qd, 1, none⟩ (by show qd ≠ u; omega) _).oth ⟨qh, 2, none⟩ (by show qh ≠ u; omega) _)
          have ND : Hid (Quad qd ((wc.setCell ⟨qd, 1, none⟩ (.int .i64 (p + m0))).setCell ⟨qh, 2, none⟩ (.int .i64 (h + m1))) (.int .i64 d) (.int .i64 (p + m0)) (.int .i64 h) (.int .i64 s)) := Lib.hid ((hQd.out.set1 _).other ⟨qh, 2, none⟩ (by show qh ≠ qd; omega) _)
          have NH : Hid (Quad qh ((wc.setCell ⟨qd, 1, none⟩ (.int .i64 (p + m0))).setCell ⟨qh, 2, none⟩ (.int .i64 (h + m1))) (.int .i64 d) (.int .i64 p) (.int .i64 (h + m1)) (.int .i64 s)) := Lib.hid ((hQh.out.other ⟨qd, 1, none⟩ (by show qd ≠ qh; omega) _).set2 _)
          clear s1 s2 s3 s4 n1 n2
          go_upto_region 13 with fail
          generalize (wc.setCell ⟨qd, 1, none⟩ (.int .i64 (p + m0))).setCell ⟨qh, 2, none⟩ (.int .i64 (h + m1)) = w13 at *
          clear t0 t1 q0 q1 q2 q3 c0 c1 c2 c3 c4 c5 c6 c7 x0 x1 x2 x3 xf xf1 l0 l1 l2 l3 lf lf2 v0 v1 k1 k2 k3 k4 S0 hU hQd hQh
          have S0 := SS
          clear SS
          obtain ⟨_, ⟨t0, t1, _, _, _⟩, _⟩ := S0.out
          obtain ⟨q0, q1, q2, q3, _, _⟩ := ND.out
          have SZ : Hid (∀ k, w13.heap.size ≤ k → w.heap.size ≠ k ∧ k ≠ w.heap.size ∧ qd ≠ k ∧ k ≠ qd) := Lib.hid fun k hk => by
            have h1 : w.heap.size < w13.heap.size := S0.out.2.1.2.2.2.2
            have h2 : qd < w13.heap.size := ND.out.2.2.2.2.2
            omega
          go_cut [13, 14] from 70 to 77 (fun s f wx => ∃ u : Nat, s = .pointer (some ⟨u, 0, none⟩) ∧ f = .int .i64 E2 ∧ Hid (Below w13.heap.size w13 wx) ∧ Hid (Eig u wx (.int .i64 D0) (.int .i64 D1) (.int .i64 D2) (.int .i64 D3) (.int .i64 D4) (.int .i64 D5) (.int .i64 D6) (.int .i64 D7)))
          case first =>
            go_region_held3 (fun w' => w'.cell? ⟨w.heap.size, 0, none⟩ = some (.slice a n cap) ∧ w'.cell? ⟨w.heap.size, 1, none⟩ = some (.int .i64 tol) ∧ w'.cell? ⟨qd, 0, none⟩ = some (.int .i64 d) ∧ w'.cell? ⟨qd, 1, none⟩ = some (.int .i64 (p + m0)) ∧ w'.cell? ⟨qd, 2, none⟩ = some (.int .i64 h) ∧ w'.cell? ⟨qd, 3, none⟩ = some (.int .i64 s)) (go_keep) (first
              | (go_at_call 13; (refine (HC.out _ _ (HV.out _ (bel_trans S0.out.1 (bel_drew _)))).mono ?_); rintro e w3 ⟨V3, rfl, ho, gg⟩; have BX := Lib.hid (bel_trans (bel_drew w13) gg); obtain ⟨_, ⟨t0, t1, _, _, _⟩, _⟩ := S0.out.below BX.out; obtain ⟨q0, q1, q2, q3, _, _⟩ := ND.out.below BX.out; have N3 := Lib.hid ho; clear ho gg)
              | (go_at_call 13; (refine (HC.out _ _ (HV.out _ (bel_trans S0.out.1 (bel_alloc (bel_drew _))))).mono ?_); rintro e w3 ⟨V3, rfl, ho, gg⟩; have BX := Lib.hid (bel_trans (bel_alloc (bel_drew (w13.alloc (.cells #[.int .i64 0, .int .i64 0, .int .i64 0, .int .i64 0, .int .i64 0, .int .i64 0, .int .i64 0, .int .i64 0] 36)))) gg); obtain ⟨_, ⟨t0, t1, _, _, _⟩, _⟩ := S0.out.below BX.out; obtain ⟨q0, q1, q2, q3, _, _⟩ := ND.out.below BX.out; have P1 := Lib.hid ((Eig.new w13 (.int .i64 0) (.int .i64 0) (.int .i64 0) (.int .i64 0) (.int .i64 0) (.int .i64 0) (.int .i64 0) (.int .i64 0) 36).below (bel_trans (bel_drew _) gg)); obtain ⟨p0, p1, p2, p3, p4, p5, p6, p7, _, _⟩ := P1.out; obtain ⟨f0, f1, f2, f3, f4, f5, f6, f7⟩ := P1.out.fr; have PS := Lib.hid (Nat.le_refl w13.heap.size); obtain ⟨z1, z2, z3, z4⟩ := SZ.out _ PS.out; have N3 := Lib.hid ho; clear ho gg)
              | (go_at_call 15; (refine (HRD.out _ _ N3.out (HWD.out _ (bel_trans S0.out.1 BX.out))).mono ?_); rintro e w4 ⟨rfl, gg⟩; replace BX := Lib.hid (bel_trans BX.out gg); clear t0 t1 q0 q1 q2 q3; obtain ⟨_, ⟨t0, t1, _, _, _⟩, _⟩ := S0.out.below BX.out; obtain ⟨q0, q1, q2, q3, _, _⟩ := ND.out.below BX.out; (try (replace P1 := Lib.hid (P1.out.below gg))); (try (clear p0 p1 p2 p3 p4 p5 p6 p7 f0 f1 f2 f3 f4 f5 f6 f7)); (try (obtain ⟨p0, p1, p2, p3, p4, p5, p6, p7, _, _⟩ := P1.out; obtain ⟨f0, f1, f2, f3, f4, f5, f6, f7⟩ := P1.out.fr)); clear gg)
              | (go_at_call 15; (refine (HRD.out _ _ (N3.out.below (bel_alloc (Below.refl _ _))) (HWD.out _ (bel_trans S0.out.1 (bel_al2 BX.out _)))).mono ?_); rintro e w4 ⟨rfl, gg⟩; have PS := Lib.hid BX.out.size; obtain ⟨z1, z2, z3, z4⟩ := SZ.out _ PS.out; replace BX := Lib.hid (bel_trans (bel_al2 BX.out _) gg); clear t0 t1 q0 q1 q2 q3; obtain ⟨_, ⟨t0, t1, _, _, _⟩, _⟩ := S0.out.below BX.out; obtain ⟨q0, q1, q2, q3, _, _⟩ := ND.out.below BX.out; have P1 := Lib.hid ((Eig.new _ (.int .i64 0) (.int .i64 0) (.int .i64 0) (.int .i64 0) (.int .i64 0) (.int .i64 0) (.int .i64 0) (.int .i64 0) 36).below gg); obtain ⟨p0, p1, p2, p3, p4, p5, p6, p7, _, _⟩ := P1.out; obtain ⟨f0, f1, f2, f3, f4, f5, f6, f7⟩ := P1.out.fr; clear gg))
            all_goals go_wp2_with fail
            all_goals go_meet
            all_goals first
              | with_reducible exact ⟨_, rfl, rfl, Lib.hid (bel_al2 BX.out _), Lib.hid (Eig.new _ _ _ _ _ _ _ _ _ _)⟩
              | with_reducible exact ⟨_, rfl, rfl, Lib.hid (Eig.putB BX.out PS.out _ _ _ _ _ _ _ _), Lib.hid (P1.out.put _ _ _ _ _ _ _ _)⟩
          case rest =>
            obtain ⟨u2, rfl, rfl, hB, hV⟩ := hcut
            replace S0 := Lib.hid (S0.out.below hB.out)
            replace SU := Lib.hid (SU.out.below hB.out)
            replace NH := Lib.hid (NH.out.below hB.out)
            clear t0 t1 q0 q1 q2 q3 SZ hB ND
            obtain ⟨_, ⟨t0, t1, _, _, _⟩, _⟩ := S0.out
            obtain ⟨c0, c1, c2, c3, c4, c5, c6, c7, _, _⟩ := SU.out
            obtain ⟨x0, x1, x2, x3, x4, x5, x6, x7, _, _⟩ := hV.out
            have X := Lib.hid S0.out.1
            have d4 : (E2 == 0) = false ∨ (E2 = 0 ∧ decide (D4 < R4) = false ∧ decide (D5 < R5) = false) := by
              rcases hD with q | ⟨q, q1, q2⟩
              · exact .inl q
              · exact .inr ⟨q, decide_eq_false (by omega), decide_eq_false (by omega)⟩
            clear hD
            go_upto_region 14 with fail
            go_cut [97] from 78 to 96 (fun r wx => r = .bool false ∧ Hid (GqI w z (.slice a n cap) tol d p h s (.int .u8 m0) (.int .u8 m1) wx) ∧ Hid (Eig u wx (.int .i64 d) (.int .i64 p) (.int .i64 h) (.int .i64 s) (.int .i64 R4) (.int .i64 R5) (.int .i64 R6) (.int .i64 R7)) ∧ Hid (Quad qh wx (.int .i64 d) (.int .i64 p) (.int .i64 (h + m1)) (.int .i64 s)))
            case first =>
              rcases d4 with q | ⟨rfl, q1, q2⟩
              all_goals go_wp2_with fail
              all_goals go_meet
              all_goals exact ⟨rfl, S0, SU, NH⟩
            case rest =>
              clear S0 SU NH t0 t1 c0 c1 c2 c3 c4 c5 c6 c7 x0 x1 x2 x3 x4 x5 x6 x7 X hV d4
              obtain ⟨rfl, S0, SU, NH⟩ := hcut
              go_upto_region 16 with fail
              obtain ⟨_, ⟨t0, t1, _, _, _⟩, _⟩ := S0.out
              obtain ⟨q0, q1, q2, q3, _, _⟩ := NH.out
              have SZ : Hid (∀ k, wc.heap.size ≤ k → w.heap.size ≠ k ∧ k ≠ w.heap.size ∧ qh ≠ k ∧ k ≠ qh) := Lib.hid fun k hk => by
                have h1 : w.heap.size < wc.heap.size := S0.out.2.1.2.2.2.2
                have h2 : qh < wc.heap.size := NH.out.2.2.2.2.2
                omega
              go_cut [15, 16] from 98 to 105 (fun s f wx => ∃ u : Nat, s = .pointer (some ⟨u, 0, none⟩) ∧ f = .int .i64 E3 ∧ Hid (Below wc.heap.size wc wx) ∧ Hid (Eig u wx (.int .i64 H0) (.int .i64 H1) (.int .i64 H2) (.int .i64 H3) (.int .i64 H4) (.int .i64 H5) (.int .i64 H6) (.int .i64 H7)))
              case first =>
                go_region_held3 (fun w' => w'.cell? ⟨w.heap.size, 0, none⟩ = some (.slice a n cap) ∧ w'.cell? ⟨w.heap.size, 1, none⟩ = some (.int .i64 tol) ∧ w'.cell? ⟨qh, 0, none⟩ = some (.int .i64 d) ∧ w'.cell? ⟨qh, 1, none⟩ = some (.int .i64 p) ∧ w'.cell? ⟨qh, 2, none⟩ = some (.int .i64 (h + m1)) ∧ w'.cell? ⟨qh, 3, none⟩ = some (.int .i64 s)) (go_keep) (first
                  | (go_at_call 13; (refine (HC.out _ _ (HV.out _ (bel_trans S0.out.1 (bel_drew _)))).mono ?_); rintro e w3 ⟨V3, rfl, ho, gg⟩; have BX := Lib.hid (bel_trans (bel_drew wc) gg); obtain ⟨_, ⟨t0, t1, _, _, _⟩, _⟩ := S0.out.below BX.out; obtain ⟨q0, q1, q2, q3, _, _⟩ := NH.out.below BX.out; have N3 := Lib.hid ho; clear ho gg)
                  | (go_at_call 13; (refine (HC.out _ _ (HV.out _ (bel_trans S0.out.1 (bel_alloc (bel_drew _))))).mono ?_); rintro e w3 ⟨V3, rfl, ho, gg⟩; have BX := Lib.hid (bel_trans (bel_alloc (bel_drew (wc.alloc (.cells #[.int .i64 0, .int .i64 0, .int .i64 0, .int .i64 0, .int .i64 0, .int .i64 0, .int .i64 0, .int .i64 0] 36)))) gg); obtain ⟨_, ⟨t0, t1, _, _, _⟩, _⟩ := S0.out.below BX.out; obtain ⟨q0, q1, q2, q3, _, _⟩ := NH.out.below BX.out; have P1 := Lib.hid ((Eig.new wc (.int .i64 0) (.int .i64 0) (.int .i64 0) (.int .i64 0) (.int .i64 0) (.int .i64 0) (.int .i64 0) (.int .i64 0) 36).below (bel_trans (bel_drew _) gg)); obtain ⟨p0, p1, p2, p3, p4, p5, p6, p7, _, _⟩ := P1.out; obtain ⟨f0, f1, f2, f3, f4, f5, f6, f7⟩ := P1.out.fr; have PS := Lib.hid (Nat.le_refl wc.heap.size); obtain ⟨z1, z2, z3, z4⟩ := SZ.out _ PS.out; have N3 := Lib.hid ho; clear ho gg)
                  | (go_at_call 15; (refine (HRH.out _ _ N3.out (HWD.out _ (bel_trans S0.out.1 BX.out))).mono ?_); rintro e w4 ⟨rfl, gg⟩; replace BX := Lib.hid (bel_trans BX.out gg); clear t0 t1 q0 q1 q2 q3; obtain ⟨_, ⟨t0, t1, _, _, _⟩, _⟩ := S0.out.below BX.out; obtain ⟨q0, q1, q2, q3, _, _⟩ := NH.out.below BX.out; (try (replace P1 := Lib.hid (P1.out.below gg))); (try (clear p0 p1 p2 p3 p4 p5 p6 p7 f0 f1 f2 f3 f4 f5 f6 f7)); (try (obtain ⟨p0, p1, p2, p3, p4, p5, p6, p7, _, _⟩ := P1.out; obtain ⟨f0, f1, f2, f3, f4, f5, f6, f7⟩ := P1.out.fr)); clear gg)
                  | (go_at_call 15; (refine (HRH.out _ _ (N3.out.below (bel_alloc (Below.refl _ _))) (HWD.out _ (bel_trans S0.out.1 (bel_al2 BX.out _)))).mono ?_); rintro e w4 ⟨rfl, gg⟩; have PS := Lib.hid BX.out.size; obtain ⟨z1, z2, z3, z4⟩ := SZ.out _ PS.out; replace BX := Lib.hid (bel_trans (bel_al2 BX.out _) gg); clear t0 t1 q0 q1 q2 q3; obtain ⟨_, ⟨t0, t1, _, _, _⟩, _⟩ := S0.out.below BX.out; obtain ⟨q0, q1, q2, q3, _, _⟩ := NH.out.below BX.out; have P1 := Lib.hid ((Eig.new _ (.int .i64 0) (.int .i64 0) (.int .i64 0) (.int .i64 0) (.int .i64 0) (.int .i64 0) (.int .i64 0) (.int .i64 0) 36).below gg); obtain ⟨p0, p1, p2, p3, p4, p5, p6, p7, _, _⟩ := P1.out; obtain ⟨f0, f1, f2, f3, f4, f5, f6, f7⟩ := P1.out.fr; clear gg))
                all_goals go_wp2_with fail
                all_goals go_meet
                all_goals first
                  | with_reducible exact ⟨_, rfl, rfl, Lib.hid (bel_al2 BX.out _), Lib.hid (Eig.new _ _ _ _ _ _ _ _ _ _)⟩
                  | with_reducible exact ⟨_, rfl, rfl, Lib.hid (Eig.putB BX.out PS.out _ _ _ _ _ _ _ _), Lib.hid (P1.out.put _ _ _ _ _ _ _ _)⟩
              case rest =>
                obtain ⟨u3, rfl, rfl, hB, hV⟩ := hcut
                replace S0 := Lib.hid (S0.out.below hB.out)
                replace SU := Lib.hid (SU.out.below hB.out)
                clear t0 t1 q0 q1 q2 q3 SZ hB NH
                obtain ⟨c0, c1, c2, c3, c4, c5, c6, c7, _, _⟩ := SU.out
                obtain ⟨x0, x1, x2, x3, x4, x5, x6, x7, _, _⟩ := hV.out
                have X := Lib.hid S0.out.1
                rcases hH with q | ⟨rfl, q1, q2⟩
                · go_wp2
                  go_returns
                  exact ⟨rfl, X.out⟩
                · have q3 : decide (H4 ≤ R4) = true := decide_eq_true q1
                  have q4 : decide (H5 ≤ R5) = true := decide_eq_true q2
                  go_wp2
                  go_returns
                  exact ⟨rfl, X.out⟩
theorem walk (v : Value) (tt : List (Int × Int) × Int) (d p h s rise m0 m1 : Int) (w : World) (hv : TbV w v tt.1 tt.2) (hb : (-9223372036854775808 ≤ d ∧ d ≤ 9223372036854775807) ∧ (-9223372036854775808 ≤ p ∧ p ≤ 9223372036854775807) ∧ (-9223372036854775808 ≤ h ∧ h ≤ 9223372036854775807) ∧ (-9223372036854775808 ≤ s ∧ s ≤ 9223372036854775807)) (hr : -9223372036854775808 ≤ rise ∧ rise ≤ 9223372036854775807) (g0 : 0 ≤ m0 ∧ m0 ≤ 255) (g1 : 0 ≤ m1 ∧ m1 ≤ 255) (hw : WordsIs w) :
    Calls Tryd.prog 5 #[v, .agg #[.int .i64 d, .int .i64 p, .int .i64 h, .int .i64 s], .int .i64 rise, .agg #[.int .u8 m0, .int .u8 m1]] w fun e w' => e = .returned (.bool true) ∧ Below w.heap.size w w' := by
  obtain ⟨t, tol⟩ := tt
  obtain ⟨a, cap, rfl, hp⟩ := hv
  refine core a _ cap tol d p h s rise m0 m1 (rpE t tol d p h s rise) _ _ _ _ _ _ _ _ (rpE t tol d (p + m0) h s rise) _ _ _ _ _ _ _ _ (rpE t tol d p (h + m1) s rise) _ _ _ _ _ _ _ _ t w (decide (t.length ≤ 129)) rfl (Lib.hid hw) (Lib.hid hp) (Lib.hid fun h => by have := of_decide_eq_true h; omega) g0 g1 ?_ (Lib.hid fun v W h => few13_any v t tol W h) (Lib.hid fun v W hv hW => gRep_any v t tol d p h s rise W hv hW) (Lib.hid fun v W hv hW => gRep_any v t tol d (p + m0) h s rise W hv hW) (Lib.hid fun v W hv hW => gRep_any v t tol d p (h + m1) s rise W hv hW) (Lib.hid fun e W => ?_)
  · by_cases e : rpE t tol d p h s rise = 0
    · right
      obtain ⟨e1, hB, hf, _, _, eR⟩ := rp_zero e
      have hB' := rdgB_iff.1 hB
      refine ⟨e, by rw [eR], by rw [eR], by rw [eR], by rw [eR], by omega, by omega, ?_, ?_⟩
      · by_cases f : rpE t tol d (p + m0) h s rise = 0
        · obtain ⟨a1, a2⟩ := rp_deep (show p ≤ p + m0 by omega) e f
          exact .inr ⟨f, by omega, by omega⟩
        · exact .inl (by simpa using f)
      · by_cases f : rpE t tol d p (h + m1) s rise = 0
        · obtain ⟨a1, a2⟩ := rp_hot (show h ≤ h + m1 by omega) e f
          exact .inr ⟨f, a1, a2⟩
        · exact .inl (by simpa using f)
    · left
      refine ⟨by simpa using e, ?_⟩
      unfold rpR
      rw [if_neg e]
      exact ⟨rfl, rfl, rfl, rfl, rfl, rfl, rfl, rfl⟩
  · have := gRight_any (rpR t tol d p h s rise) W
    rwa [rp_right e] at this

set_option maxRecDepth 100000 in
theorem contract (H : Type) (enc : TypeId × Value → H) (W : World) (base : Nat) (args : Array Value) (ds gs : List (DataW H)) (before : List MemPlace)
    (hval : ∀ (j : Nat) t v, Tryd.f5.params[j]? = some t → args[j]? = some v → Value.okWide Tryd.prog W .any base t v)
    (hW : DataW.Whole enc Tryd.prog Tryd.f5.params.toList Rows.gaugeRightSpec.vars false W args.toList ds gs before) (hL : laidMetH Tryd.prog Rows.gaugeRightRow.laid W) (hSh : W.ShapedOpen Tryd.prog) :
    Calls Tryd.prog 5 args W fun e W' => ∃ v, e = .returned v ∧ Rows.gaugeRightSpec.post enc Tryd.prog Tryd.f5 false true false false W args v W' := by
  have hW' := hW
  obtain ⟨p, q, hA0, hV, rfl, hfz, hnd⟩ := hW
  have hA : DataW.TrodAll enc Tryd.prog W 0 (fun _ => true) true Tryd.f5.params.toList args.toList ds p := hA0
  rw [Tryd.params5] at hA hval
  obtain ⟨v0, vs0, d0, ds0, p0, q0, hargs, rfl, rfl, h0, r0⟩ := trodAll_cons hA
  obtain ⟨v1, vs1, d1, ds1, p1, q1, rfl, rfl, rfl, h1, r1⟩ := trodAll_cons r0
  obtain ⟨v2, vs2, d2, ds2, p2, q2, rfl, rfl, rfl, h2, r2⟩ := trodAll_cons r1
  obtain ⟨v3, vs3, d3, ds3, p3, q3, rfl, rfl, rfl, h3, r3⟩ := trodAll_cons r2
  obtain ⟨rfl, rfl, rfl⟩ := trodAll_nil r3
  obtain rfl : args = #[v0, v1, v2, v3] := by cases args; simp_all
  obtain ⟨rfl, rfl⟩ := trodVars_none hV
  have k0 := h0
  have lt0 : ∀ x ∈ p0, x.block < W.heap.size := by obtain ⟨m, hm⟩ := k0; exact DataW.trod_lt m _ _ _ hm
  have k1 := h1
  have lt1 : ∀ x ∈ p1, x.block < W.heap.size := by obtain ⟨m, hm⟩ := k1; exact DataW.trod_lt m _ _ _ hm
  have k2 := h2
  have lt2 : ∀ x ∈ p2, x.block < W.heap.size := by obtain ⟨m, hm⟩ := k2; exact DataW.trod_lt m _ _ _ hm
  have k3 := h3
  have lt3 : ∀ x ∈ p3, x.block < W.heap.size := by obtain ⟨m, hm⟩ := k3; exact DataW.trod_lt m _ _ _ hm
  obtain ⟨z0, w0, wt0⟩ := open_tbl (hval 0 24 v0 rfl rfl) h0
  obtain ⟨za1, zb1, zc1, zd1, rfl, w1⟩ := open_rdg (hval 1 26 v1 rfl rfl) h1
  obtain ⟨a2, rfl, rfl, rfl, w2⟩ := open_int Tryd.underlying3 (hval 2 3 v2 rfl rfl) h2
  obtain ⟨z3, l3, rfl, b3⟩ := open_intArr Tryd.underlying50 Tryd.underlying5 (by kernel_rfl) (by kernel_rfl) (hval 3 50 v3 rfl rfl) h3
  obtain ⟨x3_0, x3_1, rfl⟩ := list_two l3
  clear hA0
  refine (walk v0 z0 za1 zb1 zc1 zd1 a2 x3_0 x3_1 W w0 w1 (wf_bd w2) (wf_u8 (b3 x3_0 (by simp))) (wf_u8 (b3 x3_1 (by simp))) (laid_of rfl hL hSh)).mono fun e W' ⟨he, bel⟩ => ?_
  subst he
  exact ⟨_, rfl, _, _, _, [], _, [], hW', trodAll_mk1 (shut_bool Tryd.underlying4 _), (trodAll_cons_mk (Below.trod laidOut (by kernel_rfl) (of_decide_eq_true (by kernel_rfl)) k0 bel lt0) (trodAll_cons_mk (Below.trod laidOut (by kernel_rfl) (of_decide_eq_true (by kernel_rfl)) k1 bel lt1) (trodAll_cons_mk (Below.trod laidOut (by kernel_rfl) (of_decide_eq_true (by kernel_rfl)) k2 bel lt2) (trodAll_cons_mk (Below.trod laidOut (by kernel_rfl) (of_decide_eq_true (by kernel_rfl)) k3 bel lt3) trodAll_mk0)))), rfl, bel.frame _, fun h => by cases h⟩

noncomputable def laidWorld (os : Os) : World := World.laidAll Tryd.prog os Rows.gaugeRightRow.laid
theorem laid_met (os : Os) : laidMet Tryd.prog Rows.gaugeRightRow.laid ((laidWorld os).forCall (fun _ _ => 0) ⟨#[], #[.agg #[.slice none 0 0, .int .i64 0], .agg #[.int .i64 0, .int .i64 0, .int .i64 0, .int .i64 0], .int .i64 0, .agg #[.int .u8 0, .int .u8 0]], []⟩).memory :=
  laidMet_laidAll _ (by kernel_rfl) (by kernel_rfl)
theorem reads (os : Os) {H : Type} (enc : TypeId × Value → H) : ∃ places, DataW.whole enc Tryd.prog ((laidWorld os).forCall (fun _ _ => 0) ⟨#[], #[.agg #[.slice none 0 0, .int .i64 0], .agg #[.int .i64 0, .int .i64 0, .int .i64 0, .int .i64 0], .int .i64 0, .agg #[.int .u8 0, .int .u8 0]], []⟩).memory Tryd.f5.params.toList Rows.gaugeRightSpec.vars false (#[.agg #[.slice none 0 0, .int .i64 0], .agg #[.int .i64 0, .int .i64 0, .int .i64 0, .int .i64 0], .int .i64 0, .agg #[.int .u8 0, .int .u8 0]] : Array Value).toList 8 = some ([.agg [.nil, .lit (.int .i64 0)], .agg [.lit (.int .i64 0), .lit (.int .i64 0), .lit (.int .i64 0), .lit (.int .i64 0)], .lit (.int .i64 0), .agg [.lit (.int .u8 0), .lit (.int .u8 0)]], [], places) :=
  ⟨[], by kernel_rfl⟩

set_option maxRecDepth 100000 in
theorem lifted (os : Os) (started : os.Started) (H : Type) (enc : TypeId × Value → H) (F : Stop.Interp) :
    ReturnsInHanded {} Tryd.checked os 5 .any ((OpenSpec.ofChange Rows.gaugeRightSpec).preRow enc Tryd.prog Tryd.f5 Rows.gaugeRightRow.domain false Rows.gaugeRightRow.laid) (((OpenSpec.ofChange Rows.gaugeRightSpec).at F).post enc Tryd.prog Tryd.f5 false true false false) := by
  obtain ⟨places, hx⟩ := reads os enc
  refine returnsInHanded_of_row (C := Tryd.checked) (s := OpenSpec.ofChange Rows.gaugeRightSpec) own started (by kernel_rfl) Tryd.func5
    (witness_row_at (enc := enc) (C := Tryd.checked) false (laidWorld os) #[.agg #[.slice none 0 0, .int .i64 0], .agg #[.int .i64 0, .int .i64 0, .int .i64 0, .int .i64 0], .int .i64 0, .agg #[.int .u8 0, .int .u8 0]] (World.laidAll_os _ _ _) (by kernel_rfl) (by kernel_rfl) (by kernel_rfl)
      (OpenSpec.preRow_of_cond 8 hx (by kernel_rfl) (fun k hk => by cases hk) (by kernel_rfl) (laid_met os))) ?_
  intro W base args ds gs before hval hW _ _ _ hL hSh _
  exact contract H enc W base args ds gs before hval hW hL hSh

theorem said : Rows.GaugeRightSaid :=
  OpenClaim.holds_of_cond 5 Tryd.f5 rfl rfl rfl rfl rfl rfl rfl ⟨rfl, rfl, rfl, rfl, rfl⟩ rfl rfl rfl rfl rfl (by kernel_rfl) Tryd.func5 (by kernel_rfl)
    (of_decide_eq_true (by kernel_rfl)) (by unfold Func.isWrapper; first | (rw [if_pos (by decide +kernel)]; kernel_rfl) | (rw [if_neg (by decide +kernel)]; exact ⟨rfl, rfl⟩))
    (fun os started H enc _ F => by rw [OpenClaim.pre_eq_preRow]; exact lifted os started H enc F)

theorem plain (f : FuncId) (fn : Func) (hf : Tryd.pinned.checked.prog.funcNamed "spile/spilelaw15.GaugeRight" = some f) (hfn : Tryd.pinned.checked.prog.funcs[f]? = some fn) :
    false = Tryd.pinned.checked.prog.looks [] ∧ ∀ (j : Nat) t, fn.params[j]? = some t → Tryd.pinned.checked.prog.wantsStandIn t = false := by
  obtain rfl : f = 5 := Option.some.inj ((show Tryd.prog.funcNamed "spile/spilelaw15.GaugeRight" = some 5 by kernel_rfl).symm.trans hf) |>.symm
  obtain rfl : fn = Tryd.f5 := (Option.some.inj (Tryd.func5.symm.trans hfn)).symm
  refine ⟨by kernel_rfl, fun j t ht => ?_⟩
  rw [Tryd.params5] at ht
  rcases j with _ | _ | _ | _ | j
  · obtain rfl : t = 24 := by simpa using ht.symm
    exact (show Tryd.prog.wantsStandIn 24 = false by kernel_rfl)
  · obtain rfl : t = 26 := by simpa using ht.symm
    exact (show Tryd.prog.wantsStandIn 26 = false by kernel_rfl)
  · obtain rfl : t = 3 := by simpa using ht.symm
    exact (show Tryd.prog.wantsStandIn 3 = false by kernel_rfl)
  · obtain rfl : t = 50 := by simpa using ht.symm
    exact (show Tryd.prog.wantsStandIn 50 = false by kernel_rfl)
  · simp at ht

theorem proved : Rows.GaugeRightCardSaid :=
  Claim7.holds_tied_plain_at .later [] _ _ _ _ said (fun _ h => by cases h) (by kernel_rfl) (fun _ h => by cases h) gaugeRight_row_tie rfl ⟨rfl, rfl⟩ (by kernel_rfl) rfl plain (by kernel_rfl)
#print axioms proved
end Go.Proofs.YtdpkochkpcjioabDoor.gaugeRight
