/-
  The statement GaugeReports of spile/spilelaw15 holds: for every input the call returns true, and each argument reads afterwards as it read before. (The listed package variables hold what the program lays: the card ties them.)
-/
import Derived.Test.YtdpkochkpcjioabDoorRXO
import Derived.Deep.RegionHeld3
import Derived.Deep.RegionWith
import Derived.Deep.DeepCutAuto
import Derived.Lib.Hide
import Derived.BigQuiet
import Derived.Laws.StructEq
import Derived.Deep.CutRange
import Derived.Test.YtdpkochkpcjioabDoorCards
import Derived.Test.YtdpkochkpcjioabDoorTie
import Derived.Below
import Derived.Carry
import Derived.Lib.LaidTab
import Derived.Deep.DeepHandedRow
import Derived.SevenTiedPlain
import Derived.Lay

set_option linter.unusedVariables false
set_option linter.unusedSimpArgs false

namespace Go.Proofs.YtdpkochkpcjioabDoor.R1
open Go.RowKit

/-- the two parts of a wide number of the reference: 62 bits in the lower one -/
def hi62 (p : Int) : Int := p / 4611686018427387904
def lo62 (p : Int) : Int := p % 4611686018427387904
def lessB (h1 l1 h2 l2 : Int) : Bool := decide (h1 < h2) || (decide (h1 = h2) && decide (l1 < l2))
theorem lessB_eq (p q : Int) : lessB (hi62 p) (lo62 p) (hi62 q) (lo62 q) = decide (p < q) := by
  unfold lessB hi62 lo62
  rw [Bool.eq_iff_iff]; simp; omega

theorem ret_agg {k l : IntKind} {a b c d : Int} (h : a = b) (g : c = d) : Ending.returned (.agg #[.int k a, .int l c]) = .returned (.agg #[.int k b, .int l d]) := by rw [h, g]
theorem ret_bool {a b : Bool} (h : a = b) : Ending.returned (.bool a) = .returned (.bool b) := by rw [h]

def threeE (a b c : Int) : Int := if isAm a && isAm b && isAm c then (if c = 0 then 16 else 0) else 2

theorem bcell {W w1 : World} (hb : Below W.heap.size W w1) : (∀ b o, b < W.heap.size → w1.cell? ⟨b, o, none⟩ = W.cell? ⟨b, o, none⟩) ∧ (∀ b o, b < W.heap.size → w1.frozen? ⟨b, o, none⟩ = W.frozen? ⟨b, o, none⟩) :=
  ⟨fun b o h => hb.cell (p := ⟨b, o, none⟩) h, fun b o h => hb.frozen (p := ⟨b, o, none⟩) h⟩

theorem is_any (n : Int) (w : World) :
    Calls Tryd.prog 92 #[.int .i64 n] w fun e w' => e = .returned (.bool (isAm n)) ∧ w = w' := by
  go_enter Tryd.func92, Tryd.ntmps92
  go_wp2
  all_goals go_ret
  all_goals (refine ⟨ret_bool ?_, rfl⟩; unfold isAm; grind)

theorem less_any (h1 l1 h2 l2 : Int) (w : World) :
    Calls Tryd.prog 127 #[.agg #[.int .u64 h1, .int .u64 l1], .agg #[.int .u64 h2, .int .u64 l2]] w fun e w' => e = .returned (.bool (lessB h1 l1 h2 l2)) ∧ Below w.heap.size w w' := by
  go_enter Tryd.func127, Tryd.ntmps127
  go_wp2
  all_goals go_ret
  all_goals (refine ⟨ret_bool ?_, by go_grown⟩; unfold lessB; grind)

theorem and_31 (n : Int) (h0 : 0 ≤ n) (h1 : n ≤ 18446744073709551615) : bits .and .u64 n 2147483647 = n % 2147483648 := by
  obtain ⟨A, rfl⟩ := Int.eq_ofNat_of_zero_le h0
  have := u64_and_nat A 2147483647 (by omega) (by omega)
  rw [nat_mask31] at this
  simpa using this
theorem or_31 (h g : Int) (h0 : 0 ≤ h) (h1 : h < 2147483648) (g0 : 0 ≤ g) (g1 : g < 2147483648) : bits .or .u64 (h * 2147483648) g = h * 2147483648 + g :=
  or_add h g 31 h0 g0 g1 (by omega)

set_option maxHeartbeats 1000000 in
theorem product_core (a b A0 A1 B0 B1 P00 P01 P10 P11 M M0 O O0 L0 H L : Int) (w : World) (a0 : 0 ≤ a) (a1 : a ≤ 4611686018427387903) (b0 : 0 ≤ b) (b1 : b ≤ 4611686018427387903)
    (x1 : bits .and .u64 a 2147483647 = A0) (x2 : a / 2147483648 = A1) (x3 : bits .and .u64 b 2147483647 = B0) (x4 : b / 2147483648 = B1)
    (e00 : A0 * B0 = P00) (e01 : A0 * B1 = P01) (e10 : A1 * B0 = P10) (e11 : A1 * B1 = P11)
    (k0 : 0 ≤ P00) (k1 : P00 ≤ 4611686018427387904) (k2 : 0 ≤ P01) (k3 : P01 ≤ 4611686018427387904) (k4 : 0 ≤ P10) (k5 : P10 ≤ 4611686018427387904) (k6 : 0 ≤ P11) (k7 : P11 ≤ 4611686018427387904)
    (y1 : P01 + P00 / 2147483648 = M) (y2 : bits .and .u64 M 2147483647 = M0) (m0 : 0 ≤ M0) (m1 : M0 ≤ 2147483647) (y3 : P10 + M0 = O) (y4 : bits .and .u64 O 2147483647 = O0) (y5 : bits .and .u64 P00 2147483647 = L0)
    (o0 : 0 ≤ O0) (o1 : O0 ≤ 2147483647) (n0 : 0 ≤ M) (n1 : M ≤ 9223372036854775808) (n2 : 0 ≤ O) (n3 : O ≤ 9223372036854775808)
    (y6 : bits .or .u64 (O0 * 2147483648) L0 = L) (y7 : Hid (P11 + M / 2147483648 + O / 2147483648 = H)) :
    Calls Tryd.prog 126 #[.int .i64 a, .int .i64 b] w fun e w' => e = .returned (.agg #[.int .u64 H, .int .u64 L]) ∧ Below w.heap.size w w' := by
  go_enter Tryd.func126, Tryd.ntmps126
  go_wp2
  go_returns
  rw [← y7.out]
  exact ⟨rfl, by go_grown⟩

theorem product_any (a b : Int) (w : World) (a0 : 0 ≤ a) (a1 : a ≤ 4611686018427387903) (b0 : 0 ≤ b) (b1 : b ≤ 4611686018427387903) :
    Calls Tryd.prog 126 #[.int .i64 a, .int .i64 b] w fun e w' => e = .returned (.agg #[.int .u64 (hi62 (a * b)), .int .u64 (lo62 (a * b))]) ∧ Below w.heap.size w w' := by
  have e : a * b = (a / 2147483648) * (b / 2147483648) * 4611686018427387904 + (a / 2147483648 * (b % 2147483648) + a % 2147483648 * (b / 2147483648)) * 2147483648 + a % 2147483648 * (b % 2147483648) := by
    have ea : a = a / 2147483648 * 2147483648 + a % 2147483648 := by omega
    have eb : b = b / 2147483648 * 2147483648 + b % 2147483648 := by omega
    generalize a / 2147483648 = A1 at *
    generalize a % 2147483648 = A0 at *
    generalize b / 2147483648 = B1 at *
    generalize b % 2147483648 = B0 at *
    subst ea; subst eb
    grind
  have bd : ∀ x y : Int, 0 ≤ x → x ≤ 2147483647 → 0 ≤ y → y ≤ 2147483647 → 0 ≤ x * y ∧ x * y ≤ 4611686014132420609 := fun x y h1 h2 h3 h4 =>
    ⟨Int.mul_nonneg h1 h3, by have := Int.mul_le_mul h2 h4 h3 (by omega); omega⟩
  have f00 := bd (a % 2147483648) (b % 2147483648) (by omega) (by omega) (by omega) (by omega)
  have f01 := bd (a % 2147483648) (b / 2147483648) (by omega) (by omega) (by omega) (by omega)
  have f10 := bd (a / 2147483648) (b % 2147483648) (by omega) (by omega) (by omega) (by omega)
  have f11 := bd (a / 2147483648) (b / 2147483648) (by omega) (by omega) (by omega) (by omega)
  have x1 := and_31 a (by omega) (by omega)
  have x3 := and_31 b (by omega) (by omega)
  have core := product_core a b (a % 2147483648) (a / 2147483648) (b % 2147483648) (b / 2147483648)
  generalize a % 2147483648 * (b % 2147483648) = P00 at *
  generalize a % 2147483648 * (b / 2147483648) = P01 at *
  generalize a / 2147483648 * (b % 2147483648) = P10 at *
  generalize a / 2147483648 * (b / 2147483648) = P11 at *
  refine core P00 P01 P10 P11 (P01 + P00 / 2147483648) ((P01 + P00 / 2147483648) % 2147483648) (P10 + (P01 + P00 / 2147483648) % 2147483648) ((P10 + (P01 + P00 / 2147483648) % 2147483648) % 2147483648) (P00 % 2147483648) _ _ w a0 a1 b0 b1 x1 rfl x3 rfl rfl rfl rfl rfl
    (by omega) (by omega) (by omega) (by omega) (by omega) (by omega) (by omega) (by omega)
    rfl (and_31 _ (by omega) (by omega)) (by omega) (by omega) rfl (and_31 _ (by omega) (by omega)) (and_31 _ (by omega) (by omega)) (by omega) (by omega) (by omega) (by omega) (by omega) (by omega) ?_ ?_
  · rw [or_31 _ _ (by omega) (by omega) (by omega) (by omega)]
    unfold lo62; omega
  · show _ = _
    unfold hi62; omega

theorem minus_any (p q : Int) (w : World) (q0 : 0 ≤ q) (h : q ≤ p) (hp : p ≤ 19807040628566084398385987584) :
    Calls Tryd.prog 128 #[.agg #[.int .u64 (hi62 p), .int .u64 (lo62 p)], .agg #[.int .u64 (hi62 q), .int .u64 (lo62 q)]] w fun e w' => e = .returned (.agg #[.int .u64 (hi62 (p - q)), .int .u64 (lo62 (p - q))]) ∧ Below w.heap.size w w' := by
  go_enter Tryd.func128, Tryd.ntmps128
  go_wp2
  · have ht : lo62 p < lo62 q := by assumption
    go_returns
    refine ⟨ret_agg ?_ ?_, by go_grown⟩
    · simp only [IntKind.wrap_u64]; unfold hi62 lo62 at *; omega
    · simp only [IntKind.wrap_u64]; unfold hi62 lo62 at *; omega
  · have ht : lo62 q ≤ lo62 p := by assumption
    go_returns
    refine ⟨ret_agg ?_ ?_, by go_grown⟩
    · simp only [IntKind.wrap_u64]; unfold hi62 lo62 at *; omega
    · simp only [IntKind.wrap_u64]; unfold hi62 lo62 at *; omega

theorem three_any (a b c : Int) (w : World) :
    Calls Tryd.prog 113 #[.int .i64 a, .int .i64 b, .int .i64 c] w fun e w' => e = .returned (.int .i64 (threeE a b c)) ∧ w = w' := by
  go_enter Tryd.func113, Tryd.ntmps113
  go_wp2_with (go_at_call 92; refine (is_any _ _).mono ?_; rintro e w' ⟨rfl, rfl⟩)
  all_goals go_ret
  all_goals (refine ⟨ret_int ?_, rfl⟩; unfold threeE; grind)

end Go.Proofs.YtdpkochkpcjioabDoor.R1

namespace Go.Proofs.YtdpkochkpcjioabDoor.R1
open Go.RowKit

theorem less_lit (p q : Int) (w : World) (r : Bool) (h : decide (p < q) = r) :
    Calls Tryd.prog 127 #[.agg #[.int .u64 (hi62 p), .int .u64 (lo62 p)], .agg #[.int .u64 (hi62 q), .int .u64 (lo62 q)]] w fun e w' => e = .returned (.bool r) ∧ Below w.heap.size w w' := by
  rw [← h, ← lessB_eq]; exact less_any _ _ _ _ w
theorem less_small (p c : Int) (w : World) (r : Bool) (c0 : 0 ≤ c) (c1 : c ≤ 4611686018427387903) (h : decide (p < c) = r) :
    Calls Tryd.prog 127 #[.agg #[.int .u64 (hi62 p), .int .u64 (lo62 p)], .agg #[.int .u64 0, .int .u64 c]] w fun e w' => e = .returned (.bool r) ∧ Below w.heap.size w w' := by
  have e0 : (0 : Int) = hi62 c := by unfold hi62; omega
  have e1 : c = lo62 c := by unfold lo62; omega
  rw [e0]
  conv in (Value.int .u64 c) => rw [e1]
  exact less_lit p c w r h

/-- the guess by bits: what its round has to be told -/
structure Bit (Q q bit : Int) (k : Nat) : Prop where
  le : q ≤ Q
  lt : Q < q + 2 ^ k
  bit : bit = 2 ^ k / 2
theorem Bit.start (Q : Int) (h0 : 0 ≤ Q) (h1 : Q < 4611686018427387904) : Bit Q 0 2305843009213693952 62 := ⟨h0, by omega, by omega⟩
theorem Bit.stop {Q q bit : Int} {k : Nat} (h : Bit Q q bit k) (hb : bit ≤ 0) : q = Q := by
  have := h.le; have := h.lt; have := h.bit
  cases k with
  | zero => simp at *; omega
  | succ k => have : (0 : Int) < 2 ^ k := Int.pow_pos (by omega); rw [Int.pow_succ] at *; omega
theorem Bit.up {Q q bit : Int} {k : Nat} (h : Bit Q q bit (k + 1)) (hb : q + bit ≤ Q) : Bit Q (q + bit) (bit / 2) k := by
  have := h.le; have h2 := h.lt; have h3 := h.bit
  rw [Int.pow_succ] at h2 h3
  exact ⟨hb, by omega, by omega⟩
theorem Bit.keep {Q q bit : Int} {k : Nat} (h : Bit Q q bit (k + 1)) (hb : Q < q + bit) : Bit Q q (bit / 2) k := by
  have := h.le; have h2 := h.lt; have h3 := h.bit
  rw [Int.pow_succ] at h2 h3
  exact ⟨by omega, by omega, by omega⟩
theorem Bit.pos {Q q bit : Int} {k : Nat} (h : Bit Q q bit k) (hb : 0 < bit) : ∃ j, k = j + 1 := by
  cases k with
  | zero => have := h.bit; simp at this; omega
  | succ k => exact ⟨k, rfl⟩

theorem field_low (h l : Int) (w : World) : (Instr.field 152 (.agg #[.int .u64 h, .int .u64 l]) 1).run Tryd.prog w = .ok (.int .u64 l) w := by kernel_rfl

/-- an operation that is not wanted, and whose slot is empty, is passed over -/
theorem wpAnyH_skip {P : Program} {ops : Array Oper} {Q : Exit → Act → World → Prop} {md : Region.Mode} {S : World → Prop} (i : Nat) {oi : Oper} {fuel : Nat} {listed : Array Bool} {a : Act} {w : World} (hi : ops[i]? = some oi)
    (hs : Region.noSelect ops = true) (hf : Region.free md ops listed i = true) (hr : (Region.ready md ops listed).contains i = true)
    (hQ : ∀ c a w, Q (.panic c) (a.put oi.dst undef) w → Q (.panic c) a w) (hw : Region.wanted oi (yielded ops a.tmps) = false) (hp : a.put oi.dst undef = a) (hS : S w)
    (h : wpAnyH P md ops Q S fuel (listed.setIfInBounds i true) a w) : wpAnyH P md ops Q S (fuel + 1) listed a w :=
  wpAnyH_take hi hs hf hr hQ (Or.inr ⟨hw, rfl⟩) hS (by rw [hp]; exact h)

/-- a call in a chain of worlds over 'w', beside a block B whose cells are read later -/
theorem chain {P : Program} {f : FuncId} {args : Array Value} {W w : World} {v : Value} (B : Nat) (h : Hid (Below w.heap.size w W)) (hB : B < W.heap.size)
    (c : Calls P f args W fun e w' => e = .returned v ∧ Below W.heap.size W w') :
    Calls P f args W fun e w' => e = .returned v ∧ Hid (Below w.heap.size w w') ∧ W.heap.size ≤ w'.heap.size ∧ ∀ o, w'.cell? ⟨B, o, none⟩ = W.cell? ⟨B, o, none⟩ :=
  c.mono fun _ _ g => ⟨g.1, bel_trans h.out g.2, g.2.size, fun o => (bcell g.2).1 B o hB⟩

set_option maxHeartbeats 1000000 in
theorem refOf_big (a b c : Int) (w : World) (h : (isAm a && isAm b && isAm c) = true) (hc : 1 ≤ c) (hq : 128849018880000 < a * b / c) :
    Calls Tryd.prog 114 #[.int .i64 a, .int .i64 b, .int .i64 c, .int .i64 128849018880000] w fun e w' => e = .returned (.tuple #[.int .i64 0, .int .i64 0, .bool false]) ∧ Below w.heap.size w w' := by
  have h' := h
  simp only [Bool.and_eq_true, isAm_iff] at h'
  obtain ⟨⟨⟨a0, a1⟩, b0, b1⟩, c0, c1⟩ := h'
  clear h
  have k0 : 128849018880001 * c ≤ a * b := by
    have : (128849018880000 + 1) * c ≤ a * b / c * c := Int.mul_le_mul_of_nonneg_right (by omega) c0
    have := Int.ediv_mul_le (a * b) (show c ≠ 0 by omega)
    omega
  have k4 : a * b ≤ 128849018880000 * 128849018880000 := Int.mul_le_mul a1 b1 b0 (by omega)
  have K1 := Lib.hid (show decide (128849018880000 * c < a * b) = true by simp; omega)
  have K2 := Lib.hid (show decide (a * b - 128849018880000 * c < c) = false by simp; omega)
  clear hq
  go_enter Tryd.func114, Tryd.ntmps114
  go_wp2_with fail
  refine (product_any a b _ a0 (by omega) b0 (by omega)).mono ?_
  rintro e w1 ⟨rfl, hb1⟩
  go_wp2_with fail
  have HC : Hid (Below w.heap.size w (w1.alloc (.cells #[.int .u64 (hi62 (a * b)), .int .u64 (lo62 (a * b))] 152)).drew) := (bel_trans hb1 (bel_alloc (Below.refl _ _))).drew
  clear hb1
  have hwc : IntKind.u64.wrap c = c := IntWalk.u64_in _ ⟨by omega, by omega⟩
  go_region_held3 (fun w' => w'.cell? ⟨w1.heap.size, 0, none⟩ = some (.int .u64 (hi62 (a * b))) ∧ w'.cell? ⟨w1.heap.size, 1, none⟩ = some (.int .u64 (lo62 (a * b)))) (go_keep)
    (first
      | (go_at_call 126; refine (chain w1.heap.size HC (by first | omega | (simp; done) | (simp; omega)) (product_any _ _ _ (by omega) (by omega) (by omega) (by omega))).mono ?_; rintro e w2 ⟨rfl, HC, hz2, hs2⟩; (try simp at hz2))
      | (go_at_call 127; (with_reducible refine (chain w1.heap.size HC (by first | omega | (simp; done) | (simp; omega)) (less_lit _ _ _ true K1.out)).mono ?_); rintro e w2 ⟨rfl, HC, hz2, hs2⟩; (try simp at hz2))
      | (go_at_call 127; (with_reducible refine (chain w1.heap.size HC (by first | omega | (simp; done) | (simp; omega)) (less_small _ _ _ false c0 (by omega) K2.out)).mono ?_); rintro e w2 ⟨rfl, HC, hz2, hs2⟩; (try simp at hz2))
      | (go_at_call 128; refine (chain w1.heap.size HC (by first | omega | (simp; done) | (simp; omega)) (minus_any _ _ _ (by omega) (by omega) (by omega))).mono ?_; rintro e w2 ⟨rfl, HC, hz2, hs2⟩; (try simp at hz2)))
  go_wp2
  go_returns
  exact ⟨rfl, HC.out⟩

set_option linter.unusedSimpArgs false in
set_option maxHeartbeats 2000000 in
theorem refOf_ok (a b c Q R : Int) (w : World) (h : (isAm a && isAm b && isAm c) = true) (hc : 1 ≤ c) (hQ : Hid (a * b / c = Q)) (hR : Hid (a * b % c = R)) (hq : Q ≤ 128849018880000) :
    Calls Tryd.prog 114 #[.int .i64 a, .int .i64 b, .int .i64 c, .int .i64 128849018880000] w fun e w' => e = .returned (.tuple #[.int .i64 Q, .int .i64 R, .bool true]) ∧ Below w.heap.size w w' := by
  have h' := h
  simp only [Bool.and_eq_true, isAm_iff] at h'
  obtain ⟨⟨⟨a0, a1⟩, b0, b1⟩, c0, c1⟩ := h'
  clear h
  have k4 : a * b ≤ 128849018880000 * 128849018880000 := Int.mul_le_mul a1 b1 b0 (by omega)
  have k5 : 0 ≤ a * b := Int.mul_nonneg a0 b0
  have k6 : Q * c ≤ a * b := by rw [← hQ.out]; exact Int.ediv_mul_le (a * b) (show c ≠ 0 by omega)
  have q0 : 0 ≤ Q := by rw [← hQ.out]; exact Int.ediv_nonneg k5 c0
  have k7 : 0 ≤ Q * c := Int.mul_nonneg q0 c0
  have r0 : 0 ≤ R := by rw [← hR.out]; exact Int.emod_nonneg _ (by omega)
  have r1 : R < c := by rw [← hR.out]; exact Int.emod_lt_of_pos _ (by omega)
  have k8 : a * b - Q * c = R := by
    have := Int.emod_add_mul_ediv (a * b) c; rw [hQ.out, hR.out, Int.mul_comm c Q] at this; omega
  have K8 := Lib.hid k8; clear k8
  go_enter Tryd.func114, Tryd.ntmps114
  go_wp2_with fail
  refine (product_any a b _ a0 (by omega) b0 (by omega)).mono ?_
  rintro e w1 ⟨rfl, hb1⟩
  go_upto_region 2 with fail
  have HC : Hid (Below w.heap.size w (w1.alloc (.cells #[.int .u64 (hi62 (a * b)), .int .u64 (lo62 (a * b))] 152)).drew) := (bel_trans hb1 (bel_alloc (Below.refl _ _))).drew
  clear hb1
  go_cut [33] (fun s33 wx => s33 = .bool false ∧ Hid (Below w.heap.size w wx) ∧ w1.heap.size < wx.heap.size ∧ wx.cell? ⟨w1.heap.size, 0, none⟩ = some (.int .u64 (hi62 (a * b))) ∧ wx.cell? ⟨w1.heap.size, 1, none⟩ = some (.int .u64 (lo62 (a * b))))
  case first =>
    have hwc : IntKind.u64.wrap c = c := IntWalk.u64_in _ ⟨by omega, by omega⟩
    by_cases t1 : 128849018880000 * c < a * b
    · have K1 := Lib.hid (show decide (128849018880000 * c < a * b) = true by simp; omega)
      have k9 : Q * c ≤ 128849018880000 * c := Int.mul_le_mul_of_nonneg_right hq c0
      have K2 := Lib.hid (show decide (a * b - 128849018880000 * c < c) = true by have := K8.out; simp; omega)
      go_region_held3 (fun w' => w'.cell? ⟨w1.heap.size, 0, none⟩ = some (.int .u64 (hi62 (a * b))) ∧ w'.cell? ⟨w1.heap.size, 1, none⟩ = some (.int .u64 (lo62 (a * b)))) (go_keep)
        (first
          | (go_at_call 126; refine (chain w1.heap.size HC (by first | omega | (simp; done) | (simp; omega)) (product_any _ _ _ (by omega) (by omega) (by omega) (by omega))).mono ?_; rintro e w2 ⟨rfl, HC, hz2, hs2⟩; (try simp at hz2))
          | (go_at_call 127; (with_reducible refine (chain w1.heap.size HC (by first | omega | (simp; done) | (simp; omega)) (less_lit _ _ _ true K1.out)).mono ?_); rintro e w2 ⟨rfl, HC, hz2, hs2⟩; (try simp at hz2))
          | (go_at_call 127; (with_reducible refine (chain w1.heap.size HC (by first | omega | (simp; done) | (simp; omega)) (less_small _ _ _ true c0 (by omega) K2.out)).mono ?_); rintro e w2 ⟨rfl, HC, hz2, hs2⟩; (try simp at hz2))
          | (go_at_call 128; refine (chain w1.heap.size HC (by first | omega | (simp; done) | (simp; omega)) (minus_any _ _ _ (by omega) (by omega) (by omega))).mono ?_; rintro e w2 ⟨rfl, HC, hz2, hs2⟩; (try simp at hz2)))
      go_wp2
      go_meet
      case rel => exact ⟨rfl, HC, by simp at *; omega, by simp [*], by simp [*]⟩
    · have K1 := Lib.hid (show decide (128849018880000 * c < a * b) = false by simp; omega)
      refine wp_region_held_drew (S := (fun w' => w'.cell? ⟨w1.heap.size, 0, none⟩ = some (.int .u64 (hi62 (a * b))) ∧ w'.cell? ⟨w1.heap.size, 1, none⟩ = some (.int .u64 (lo62 (a * b))))) (by kernel_rfl) (by go_keep) (fun hHeld => ?_)
      refine wpAnyH_take (i := 0) (v := ?_) rfl (by kernel_rfl) (by kernel_rfl) (by kernel_rfl) (fun _ _ _ h => h) (Or.inl ⟨by rfl, ?_⟩) (by assumption) ?_
      rotate_left
      · intro w hSw; (try dsimp only at hSw); go_simp; try (with_reducible rfl)
      try simp only [Act.put, List.setIfInBounds_toArray, List.set_cons_zero, List.set_cons_succ]
      refine wpAnyH_take (i := 1) (v := ?_) rfl (by kernel_rfl) (by kernel_rfl) (by kernel_rfl) (fun _ _ _ h => h) (Or.inl ⟨by rfl, ?_⟩) (by assumption) ?_
      rotate_left
      · intro w hSw; (try dsimp only at hSw); go_simp; try (with_reducible rfl)
      try simp only [Act.put, List.setIfInBounds_toArray, List.set_cons_zero, List.set_cons_succ]
      refine wpAnyH_take (i := 3) (v := ?_) rfl (by kernel_rfl) (by kernel_rfl) (by kernel_rfl) (fun _ _ _ h => h) (Or.inl ⟨by rfl, ?_⟩) (by assumption) ?_
      rotate_left
      · intro w hSw; (try dsimp only at hSw); go_simp; try (with_reducible rfl)
      try simp only [Act.put, List.setIfInBounds_toArray, List.set_cons_zero, List.set_cons_succ]
      refine wpAnyH_ready (rs := [2]) (by kernel_rfl) (by simp) ?_
      refine AllReadyH.cons rfl (fun K hK => ?_) AllReadyH.nil
      go_simp
      refine (chain w1.heap.size HC (by first | omega | (simp; done) | (simp; omega)) (product_any _ _ _ (by omega) (by omega) (by omega) (by omega))).mono ?_; rintro e w2 ⟨rfl, HC, hz2, hs2⟩; (try simp at hz2)
      refine hK.out _ _ (by first | go_keep | (simp [*])) (fun hHeld => ?_)
      clear hK K
      try simp only [Act.put, List.setIfInBounds_toArray, List.set_cons_zero, List.set_cons_succ]
      refine wpAnyH_ready (rs := [4]) (by kernel_rfl) (by simp) ?_
      refine AllReadyH.cons rfl (fun K hK => ?_) AllReadyH.nil
      go_simp
      refine (chain w1.heap.size HC (by first | omega | (simp; done) | (simp; omega)) (less_lit _ _ _ false K1.out)).mono ?_; rintro e w2 ⟨rfl, HC, hz2, hs2⟩; (try simp at hz2)
      refine hK.out _ _ (by first | go_keep | (simp [*])) (fun hHeld => ?_)
      clear hK K
      try simp only [Act.put, List.setIfInBounds_toArray, List.set_cons_zero, List.set_cons_succ]
      refine wpAnyH_take (i := 5) (v := ?_) rfl (by kernel_rfl) (by kernel_rfl) (by kernel_rfl) (fun _ _ _ h => h) (Or.inl ⟨by rfl, ?_⟩) (by assumption) ?_
      rotate_left
      · intro w hSw; (try dsimp only at hSw); go_simp; try (with_reducible rfl)
      try simp only [Act.put, List.setIfInBounds_toArray, List.set_cons_zero, List.set_cons_succ]
      refine wpAnyH_skip 6 rfl (by kernel_rfl) (by kernel_rfl) (by kernel_rfl) (fun _ _ _ h => h) (by rfl) rfl (by assumption) ?_
      try simp only [Act.put, List.setIfInBounds_toArray, List.set_cons_zero, List.set_cons_succ]
      refine wpAnyH_skip 7 rfl (by kernel_rfl) (by kernel_rfl) (by kernel_rfl) (fun _ _ _ h => h) (by rfl) rfl (by assumption) ?_
      try simp only [Act.put, List.setIfInBounds_toArray, List.set_cons_zero, List.set_cons_succ]
      refine wpAnyH_skip 8 rfl (by kernel_rfl) (by kernel_rfl) (by kernel_rfl) (fun _ _ _ h => h) (by rfl) rfl (by assumption) ?_
      try simp only [Act.put, List.setIfInBounds_toArray, List.set_cons_zero, List.set_cons_succ]
      refine wpAnyH_skip 9 rfl (by kernel_rfl) (by kernel_rfl) (by kernel_rfl) (fun _ _ _ h => h) (by rfl) rfl (by assumption) ?_
      try simp only [Act.put, List.setIfInBounds_toArray, List.set_cons_zero, List.set_cons_succ]
      refine wpAnyH_skip 10 rfl (by kernel_rfl) (by kernel_rfl) (by kernel_rfl) (fun _ _ _ h => h) (by rfl) rfl (by assumption) ?_
      try simp only [Act.put, List.setIfInBounds_toArray, List.set_cons_zero, List.set_cons_succ]
      refine wpAnyH_skip 11 rfl (by kernel_rfl) (by kernel_rfl) (by kernel_rfl) (fun _ _ _ h => h) (by rfl) rfl (by assumption) ?_
      try simp only [Act.put, List.setIfInBounds_toArray, List.set_cons_zero, List.set_cons_succ]
      refine wpAnyH_skip 12 rfl (by kernel_rfl) (by kernel_rfl) (by kernel_rfl) (fun _ _ _ h => h) (by rfl) rfl (by assumption) ?_
      try simp only [Act.put, List.setIfInBounds_toArray, List.set_cons_zero, List.set_cons_succ]
      refine wpAnyH_skip 13 rfl (by kernel_rfl) (by kernel_rfl) (by kernel_rfl) (fun _ _ _ h => h) (by rfl) rfl (by assumption) ?_
      try simp only [Act.put, List.setIfInBounds_toArray, List.set_cons_zero, List.set_cons_succ]
      refine wpAnyH_skip 14 rfl (by kernel_rfl) (by kernel_rfl) (by kernel_rfl) (fun _ _ _ h => h) (by rfl) rfl (by assumption) ?_
      try simp only [Act.put, List.setIfInBounds_toArray, List.set_cons_zero, List.set_cons_succ]
      refine wpAnyH_skip 15 rfl (by kernel_rfl) (by kernel_rfl) (by kernel_rfl) (fun _ _ _ h => h) (by rfl) rfl (by assumption) ?_
      try simp only [Act.put, List.setIfInBounds_toArray, List.set_cons_zero, List.set_cons_succ]
      refine wpAnyH_take (i := 16) (v := ?_) rfl (by kernel_rfl) (by kernel_rfl) (by kernel_rfl) (fun _ _ _ h => h) (Or.inl ⟨by rfl, ?_⟩) (by assumption) ?_
      rotate_left
      · intro w hSw; (try dsimp only at hSw); go_simp; try (with_reducible rfl)
      try simp only [Act.put, List.setIfInBounds_toArray, List.set_cons_zero, List.set_cons_succ]
      refine wpAnyH_done (by kernel_rfl) ?_ _
      go_wp2
      go_meet
      case rel => exact ⟨rfl, HC, by simp at *; omega, by simp [*], by simp [*]⟩
  case rest =>
  obtain ⟨rfl, HC, hz, s0, s1⟩ := hcut
  go_wp2_with fail
  go_loopw [12, 13] (fun q bit wr => ∃ q1 b1 : Int, ∃ k : Nat, q = .int .i64 q1 ∧ bit = .int .i64 b1 ∧ Hid (Bit Q q1 b1 k) ∧ 0 ≤ q1 ∧ q1 ≤ 128849018880000 ∧ 0 ≤ b1 ∧ b1 ≤ 2305843009213693952 ∧ Hid (Below w.heap.size w wr) ∧ w1.heap.size < wr.heap.size ∧ wr.cell? ⟨w1.heap.size, 0, none⟩ = some (.int .u64 (hi62 (a * b))) ∧ wr.cell? ⟨w1.heap.size, 1, none⟩ = some (.int .u64 (lo62 (a * b)))) (fun _ bit _ => (intOf bit).toNat)
  case atStart => exact ⟨0, 2305843009213693952, 62, rfl, rfl, Bit.start Q q0 (by omega), by omega, by omega, by omega, by omega, HC, hz, s0, s1⟩
  case round =>
    clear s0 s1 hz HC
    obtain ⟨q1, b1, k, rfl, rfl, HK, g0, g1, g2, g3, HC0, hz, s0, s1⟩ := hrel
    by_cases hb : 0 < b1
    · obtain ⟨j, rfl⟩ := HK.out.pos hb
      by_cases t1 : q1 + b1 ≤ 128849018880000
      · have p0 : 0 ≤ (q1 + b1) * c := Int.mul_nonneg (by omega) c0
        by_cases t2 : a * b < (q1 + b1) * c
        · have K1 := Lib.hid (show decide (a * b < (q1 + b1) * c) = true by simp; omega)
          have HN := Lib.hid (HK.out.keep (Int.not_le.1 fun hge => by have := Int.mul_le_mul_of_nonneg_right hge c0; omega))
          go_wp2_with fail
          have HC : Hid (Below w.heap.size w wr.drew) := HC0.out.drew
          have hs1 : IntKind.i64.wrap (q1 + b1) = q1 + b1 := IntWalk.i64_in _ ⟨by omega, by omega⟩
          have hs2 : decide (q1 + b1 ≤ 128849018880000) = true := by simp; omega
          go_region_held3 (fun w' => w'.cell? ⟨w1.heap.size, 0, none⟩ = some (.int .u64 (hi62 (a * b))) ∧ w'.cell? ⟨w1.heap.size, 1, none⟩ = some (.int .u64 (lo62 (a * b)))) (go_keep)
            (first
              | (go_at_call 126; refine (chain w1.heap.size HC (by first | omega | (simp; done) | (simp; omega)) (product_any _ _ _ (by omega) (by omega) (by omega) (by omega))).mono ?_; rintro e w2 ⟨rfl, HC, hz2, hs2⟩; (try simp at hz2))
              | (go_at_call 127; (with_reducible refine (chain w1.heap.size HC (by first | omega | (simp; done) | (simp; omega)) (less_lit _ _ _ true K1.out)).mono ?_); rintro e w2 ⟨rfl, HC, hz2, hs2⟩; (try simp at hz2)))
          go_wp2
          go_roundw
          case rel => exact ⟨q1, b1 / 2, j, rfl, rfl, HN.out, by omega, by omega, by omega, by omega, HC, by simp at *; omega, by simp [*], by simp [*]⟩
          case measure => simp [intOf]; omega

        · have K1 := Lib.hid (show decide (a * b < (q1 + b1) * c) = false by simp; omega)
          have HN := Lib.hid (HK.out.up (by rw [← hQ.out]; exact Int.le_ediv_of_mul_le (by omega) (by omega)))
          go_wp2_with fail
          have HC : Hid (Below w.heap.size w wr.drew) := HC0.out.drew
          have hs1 : IntKind.i64.wrap (q1 + b1) = q1 + b1 := IntWalk.i64_in _ ⟨by omega, by omega⟩
          have hs2 : decide (q1 + b1 ≤ 128849018880000) = true := by simp; omega
          go_region_held3 (fun w' => w'.cell? ⟨w1.heap.size, 0, none⟩ = some (.int .u64 (hi62 (a * b))) ∧ w'.cell? ⟨w1.heap.size, 1, none⟩ = some (.int .u64 (lo62 (a * b)))) (go_keep)
            (first
              | (go_at_call 126; refine (chain w1.heap.size HC (by first | omega | (simp; done) | (simp; omega)) (product_any _ _ _ (by omega) (by omega) (by omega) (by omega))).mono ?_; rintro e w2 ⟨rfl, HC, hz2, hs2⟩; (try simp at hz2))
              | (go_at_call 127; (with_reducible refine (chain w1.heap.size HC (by first | omega | (simp; done) | (simp; omega)) (less_lit _ _ _ false K1.out)).mono ?_); rintro e w2 ⟨rfl, HC, hz2, hs2⟩; (try simp at hz2)))
          go_wp2
          go_roundw
          case rel => exact ⟨q1 + b1, b1 / 2, j, rfl, rfl, HN.out, by omega, by omega, by omega, by omega, HC, by simp at *; omega, by simp [*], by simp [*]⟩
          case measure => simp [intOf]; omega

      · have HN := Lib.hid (HK.out.keep (by omega))
        have ht : decide (q1 + b1 ≤ 128849018880000) = false := by simp; omega
        have hs1 : IntKind.i64.wrap (q1 + b1) = q1 + b1 := IntWalk.i64_in _ ⟨by omega, by omega⟩
        go_wp2_with fail
        go_quiet (fail)
        go_wp2
        go_roundw
        case rel => exact ⟨q1, b1 / 2, j, rfl, rfl, HN.out, by omega, by omega, by omega, by omega, bel_trans HC0.out (bel_drewN _ _), by simp at *; omega, by simp [*], by simp [*]⟩
        case measure => simp [intOf]; omega
    · have HE := Lib.hid (HK.out.stop (by omega))
      obtain rfl : q1 = Q := HE.out
      go_wp2_with fail
      have HC : Hid (Below w.heap.size w wr.drew) := HC0.out.drew
      have hm : lo62 (a * b - q1 * c) = R := by rw [K8.out]; unfold lo62; omega
      have hf1 := field_low
      have hwr : IntKind.i64.wrap R = R := IntWalk.i64_in _ ⟨by omega, by omega⟩
      go_region_held3 (fun w' => w'.cell? ⟨w1.heap.size, 0, none⟩ = some (.int .u64 (hi62 (a * b))) ∧ w'.cell? ⟨w1.heap.size, 1, none⟩ = some (.int .u64 (lo62 (a * b)))) (go_keep)
        (first
          | (go_at_call 126; refine (chain w1.heap.size HC (by first | omega | (simp; done) | (simp; omega)) (product_any _ _ _ (by omega) (by omega) (by omega) (by omega))).mono ?_; rintro e w2 ⟨rfl, HC, hz2, hs2⟩; (try simp at hz2))
          | (go_at_call 128; refine (chain w1.heap.size HC (by first | omega | (simp; done) | (simp; omega)) (minus_any _ _ _ (by omega) (by omega) (by omega))).mono ?_; rintro e w2 ⟨rfl, HC, hz2, hs2⟩; (try simp at hz2)))
      go_wp2
      go_returns
      exact ⟨rfl, HC.out⟩

end Go.Proofs.YtdpkochkpcjioabDoor.R1

namespace Go.Proofs.YtdpkochkpcjioabDoor.R1
open Go.RowKit

theorem ret_three {k l m : IntKind} {a b c d x y : Int} (h : a = b) (g : c = d) (i : x = y) : Ending.returned (.tuple #[.int k a, .int l c, .int m x]) = .returned (.tuple #[.int k b, .int l d, .int m y]) := by rw [h, g, i]

theorem ofChecked_bad (a b c E : Int) (w : World) (h : Hid (threeE a b c = E)) (hE : (E != 0) = true) :
    Calls Tryd.prog 102 #[.int .i64 a, .int .i64 b, .int .i64 c] w fun e w' => e = .returned (.tuple #[.int .i64 0, .int .i64 0, .int .i64 E]) ∧ Below w.heap.size w w' := by
  go_enter Tryd.func102, Tryd.ntmps102
  go_wp2_with fail
  refine (three_any _ _ _ _).mono ?_
  rw [h.out]
  rintro e w' ⟨rfl, rfl⟩
  go_wp2
  go_returns
  exact ⟨rfl, Below.refl _ _⟩

theorem ofChecked_ok (a b c Q R : Int) (w : World) (h : Hid (threeE a b c = 0))
    (ho : Hid (Calls Tryd.prog 114 #[.int .i64 a, .int .i64 b, .int .i64 c, .int .i64 128849018880000] w fun e w' => e = .returned (.tuple #[.int .i64 Q, .int .i64 R, .bool true]) ∧ Below w.heap.size w w')) :
    Calls Tryd.prog 102 #[.int .i64 a, .int .i64 b, .int .i64 c] w fun e w' => e = .returned (.tuple #[.int .i64 Q, .int .i64 R, .int .i64 0]) ∧ Below w.heap.size w w' := by
  go_enter Tryd.func102, Tryd.ntmps102
  go_wp2_with fail
  refine (three_any _ _ _ _).mono ?_
  rw [h.out]
  rintro e w' ⟨rfl, rfl⟩
  go_wp2_with fail
  refine ho.out.mono ?_
  rintro e w' ⟨rfl, hb⟩
  go_wp2
  go_returns
  exact ⟨rfl, hb⟩

theorem ofChecked_big (a b c : Int) (w : World) (h : Hid (threeE a b c = 0))
    (ho : Hid (Calls Tryd.prog 114 #[.int .i64 a, .int .i64 b, .int .i64 c, .int .i64 128849018880000] w fun e w' => e = .returned (.tuple #[.int .i64 0, .int .i64 0, .bool false]) ∧ Below w.heap.size w w')) :
    Calls Tryd.prog 102 #[.int .i64 a, .int .i64 b, .int .i64 c] w fun e w' => e = .returned (.tuple #[.int .i64 0, .int .i64 0, .int .i64 15]) ∧ Below w.heap.size w w' := by
  go_enter Tryd.func102, Tryd.ntmps102
  go_wp2_with fail
  refine (three_any _ _ _ _).mono ?_
  rw [h.out]
  rintro e w' ⟨rfl, rfl⟩
  go_wp2_with fail
  refine ho.out.mono ?_
  rintro e w' ⟨rfl, hb⟩
  go_wp2
  go_returns
  exact ⟨rfl, hb⟩

theorem ofChecked_any (a b c : Int) (w : World) :
    Calls Tryd.prog 102 #[.int .i64 a, .int .i64 b, .int .i64 c] w fun e w' => e = .returned (.tuple #[.int .i64 (ofQ a b c), .int .i64 (ofR a b c), .int .i64 (ofE a b c)]) ∧ Below w.heap.size w w' := by
  unfold ofQ ofR
  cases h : (isAm a && isAm b && isAm c) with
  | false =>
    have e : ofE a b c = 2 := by unfold ofE; rw [h]; rfl
    have t : threeE a b c = 2 := by unfold threeE; rw [h]; rfl
    rw [e]; exact ofChecked_bad a b c 2 w t rfl
  | true =>
    by_cases hc : c = 0
    · subst hc
      have e : ofE a b 0 = 16 := by unfold ofE; rw [h]; rfl
      have t : threeE a b 0 = 16 := by unfold threeE; rw [h]; rfl
      rw [e]; exact ofChecked_bad a b 0 16 w t rfl
    · have h' := h
      simp only [Bool.and_eq_true, isAm_iff] at h'
      have t : threeE a b c = 0 := by unfold threeE; rw [h, if_pos rfl, if_neg hc]
      by_cases hq : a * b / c ≤ 128849018880000
      · have e : ofE a b c = 0 := by unfold ofE; rw [h, if_pos rfl, if_neg hc, if_pos hq]
        rw [e]; exact ofChecked_ok a b c _ _ w t (refOf_ok a b c _ _ w h (by omega) rfl rfl hq)
      · have e : ofE a b c = 15 := by unfold ofE; rw [h, if_pos rfl, if_neg hc, if_neg hq]
        rw [e]; exact ofChecked_big a b c w t (refOf_big a b c w h (by omega) (by omega))

end Go.Proofs.YtdpkochkpcjioabDoor.R1

namespace Go.Proofs.YtdpkochkpcjioabDoor
open Go.RowKit

theorem refIs_any (n : Int) (w : World) :
    Calls Tryd.prog 91 #[.int .i64 n] w fun e w' => e = .returned (.bool (isRuleB n)) ∧ w = w' := by
  go_enter Tryd.func91, Tryd.ntmps91
  go_wp2
  all_goals go_ret
  all_goals (refine ⟨ret_bool ?_, rfl⟩; unfold isRuleB; grind)

/-- by how much a quotient that was rounded down becomes greater -/
theorem roundQ_eq (rule q r b : Int) (h : 1 ≤ rule ∧ rule ≤ 4) (r0 : 0 ≤ r) (r1 : r < b) :
    roundQ rule q r b = if r = 0 ∨ rule = 1 then q else if rule = 2 ∨ b - r < r then q + 1 else if r < b - r then q else if rule = 3 ∨ q.tmod 2 ≠ 0 then q + 1 else q := by
  have hr : rule = 1 ∨ rule = 2 ∨ rule = 3 ∨ rule = 4 := by omega
  unfold roundQ
  rcases hr with rfl | rfl | rfl | rfl
  · have : moreB 1 q r b = false := rfl
    rw [this]; simp
  · have : moreB 2 q r b = decide (0 < r) := rfl
    rw [this]
    by_cases h0 : r = 0
    · simp [h0]
    · have : 0 < r := by omega
      simp [h0, this]
  · have : moreB 3 q r b = nearB r b true := rfl
    rw [this]; unfold nearB
    grind
  · have : moreB 4 q r b = nearB r b (q.tmod 2 != 0) := rfl
    rw [this]; unfold nearB
    generalize hx : q.tmod 2 = x
    grind

theorem refRound_any (rule q r b : Int) (w : World) (h : 1 ≤ rule ∧ rule ≤ 4) (q0 : -9223372036854775808 ≤ q) (q1 : q < 9223372036854775807) (r0 : 0 ≤ r) (b1 : b ≤ 9223372036854775807) (r1 : r < b) :
    Calls Tryd.prog 103 #[.int .i64 q, .int .i64 r, .int .i64 b, .int .i64 rule] w fun e w' => e = .returned (.int .i64 (roundQ rule q r b)) ∧ w = w' := by
  have H := Lib.hid (roundQ_eq rule q r b h r0 r1)
  generalize roundQ rule q r b = Q at *
  obtain ⟨h1, h2⟩ := h
  go_enter Tryd.func103, Tryd.ntmps103
  go_wp2
  all_goals go_ret
  all_goals (refine ⟨ret_int ?_, rfl⟩; rw [H.out]; clear H; grind)


end Go.Proofs.YtdpkochkpcjioabDoor

namespace Go.Proofs.YtdpkochkpcjioabDoor
open Go.RowKit

theorem refProduct_rule (a b c rule : Int) (w : World) (hr : Hid (isRuleB rule = false)) :
    Calls Tryd.prog 93 #[.int .i64 a, .int .i64 b, .int .i64 c, .int .i64 rule] w fun e w' => e = .returned (.tuple #[.int .i64 0, .int .i64 1]) ∧ Below w.heap.size w w' := by
  go_enter Tryd.func93, Tryd.ntmps93
  go_wp2_with (go_at_call 91; refine (refIs_any _ _).mono ?_; rw [hr.out]; rintro e w' ⟨rfl, hw⟩; subst hw)
  go_returns
  exact ⟨rfl, Below.refl _ _⟩
theorem refProduct_err (a b c rule x : Int) (w : World) (hr : Hid (isRuleB rule = true)) (hx : (x != 0) = true) (q r : Int)
    (HOf : Hid (∀ W, Calls Tryd.prog 102 #[.int .i64 a, .int .i64 b, .int .i64 c] W fun e w' => e = .returned (.tuple #[.int .i64 q, .int .i64 r, .int .i64 x]) ∧ Below W.heap.size W w')) :
    Calls Tryd.prog 93 #[.int .i64 a, .int .i64 b, .int .i64 c, .int .i64 rule] w fun e w' => e = .returned (.tuple #[.int .i64 0, .int .i64 x]) ∧ Below w.heap.size w w' := by
  go_enter Tryd.func93, Tryd.ntmps93
  go_wp2_with (go_at_call 91; refine (refIs_any _ _).mono ?_; rw [hr.out]; rintro e w' ⟨rfl, hw⟩; subst hw)
  refine (HOf.out _).mono ?_
  rintro e w1 ⟨rfl, hb⟩
  have HB := Lib.hid hb; clear hb
  go_wp2
  go_returns
  exact ⟨rfl, HB.out⟩
theorem refProduct_ok (a b c rule q r Q : Int) (w : World) (hr : Hid (isRuleB rule = true)) (hq : Q ≤ 128849018880000)
    (HOf : Hid (∀ W, Calls Tryd.prog 102 #[.int .i64 a, .int .i64 b, .int .i64 c] W fun e w' => e = .returned (.tuple #[.int .i64 q, .int .i64 r, .int .i64 0]) ∧ Below W.heap.size W w'))
    (HR : Hid (∀ W, Calls Tryd.prog 103 #[.int .i64 q, .int .i64 r, .int .i64 c, .int .i64 rule] W fun e w' => e = .returned (.int .i64 Q) ∧ W = w')) :
    Calls Tryd.prog 93 #[.int .i64 a, .int .i64 b, .int .i64 c, .int .i64 rule] w fun e w' => e = .returned (.tuple #[.int .i64 Q, .int .i64 0]) ∧ Below w.heap.size w w' := by
  go_enter Tryd.func93, Tryd.ntmps93
  go_wp2_with (go_at_call 91; refine (refIs_any _ _).mono ?_; rw [hr.out]; rintro e w' ⟨rfl, hw⟩; subst hw)
  refine (HOf.out _).mono ?_
  rintro e w1 ⟨rfl, hb⟩
  have HB := Lib.hid hb; clear hb
  go_wp2_with fail
  refine (HR.out _).mono ?_
  rintro e w2 ⟨rfl, hw⟩
  subst hw
  go_wp2
  go_returns
  exact ⟨rfl, HB.out⟩
theorem refProduct_limit (a b c rule q r Q : Int) (w : World) (hr : Hid (isRuleB rule = true)) (hq : 128849018880000 < Q)
    (HOf : Hid (∀ W, Calls Tryd.prog 102 #[.int .i64 a, .int .i64 b, .int .i64 c] W fun e w' => e = .returned (.tuple #[.int .i64 q, .int .i64 r, .int .i64 0]) ∧ Below W.heap.size W w'))
    (HR : Hid (∀ W, Calls Tryd.prog 103 #[.int .i64 q, .int .i64 r, .int .i64 c, .int .i64 rule] W fun e w' => e = .returned (.int .i64 Q) ∧ W = w')) :
    Calls Tryd.prog 93 #[.int .i64 a, .int .i64 b, .int .i64 c, .int .i64 rule] w fun e w' => e = .returned (.tuple #[.int .i64 0, .int .i64 15]) ∧ Below w.heap.size w w' := by
  go_enter Tryd.func93, Tryd.ntmps93
  go_wp2_with (go_at_call 91; refine (refIs_any _ _).mono ?_; rw [hr.out]; rintro e w' ⟨rfl, hw⟩; subst hw)
  refine (HOf.out _).mono ?_
  rintro e w1 ⟨rfl, hb⟩
  have HB := Lib.hid hb; clear hb
  go_wp2_with fail
  refine (HR.out _).mono ?_
  rintro e w2 ⟨rfl, hw⟩
  subst hw
  go_wp2
  go_returns
  exact ⟨rfl, HB.out⟩

theorem refProduct_any (a b c rule : Int) (w : World) :
    Calls Tryd.prog 93 #[.int .i64 a, .int .i64 b, .int .i64 c, .int .i64 rule] w fun e w' => e = .returned (.tuple #[.int .i64 (prodQ a b c rule), .int .i64 (prodE a b c rule)]) ∧ Below w.heap.size w w' := by
  unfold prodQ
  cases hr : isRuleB rule with
  | false =>
    have e : prodE a b c rule = 1 := by unfold prodE; rw [hr]; rfl
    rw [e]; exact refProduct_rule a b c rule w hr
  | true =>
    by_cases ho : ofE a b c = 0
    · have hrr := (isRuleB_iff rule).1 hr
      obtain ⟨p1, p2, p3, p4, p5, p6, p7, p8, p9, p10⟩ := ofE_zero ho
      have HR : ∀ W, Calls Tryd.prog 103 #[.int .i64 (ofQ a b c), .int .i64 (ofR a b c), .int .i64 c, .int .i64 rule] W fun e w' => e = .returned (.int .i64 (roundQ rule (ofQ a b c) (ofR a b c) c)) ∧ W = w' :=
        fun W => refRound_any rule _ _ c W hrr (by omega) (by omega) (by omega) (by omega) (by omega)
      have HO : ∀ W, Calls Tryd.prog 102 #[.int .i64 a, .int .i64 b, .int .i64 c] W fun e w' => e = .returned (.tuple #[.int .i64 (ofQ a b c), .int .i64 (ofR a b c), .int .i64 0]) ∧ Below W.heap.size W w' :=
        fun W => by have := R1.ofChecked_any a b c W; rwa [ho] at this
      by_cases hq : roundQ rule (ofQ a b c) (ofR a b c) c ≤ 128849018880000
      · have e : prodE a b c rule = 0 := by unfold prodE; rw [hr, if_pos rfl, if_pos ho, if_pos hq]
        rw [e]; exact refProduct_ok a b c rule _ _ _ w hr hq HO HR
      · have e : prodE a b c rule = 15 := by unfold prodE; rw [hr, if_pos rfl, if_pos ho, if_neg hq]
        rw [e]; exact refProduct_limit a b c rule _ _ _ w hr (by omega) HO HR
    · have e : prodE a b c rule = ofE a b c := by unfold prodE; rw [hr, if_pos rfl, if_neg ho]
      rw [e, if_neg ho]; exact refProduct_err a b c rule _ w hr (bneq ho) _ _ (fun W => R1.ofChecked_any a b c W)

end Go.Proofs.YtdpkochkpcjioabDoor

namespace Go.Proofs.YtdpkochkpcjioabDoor
open Go.RowKit

theorem refHeat_any (t : Int) (w : World) :
    Calls Tryd.prog 75 #[.int .i64 t] w fun e w' => e = .returned (.bool (heatB t)) ∧ w = w' := by
  go_enter Tryd.func75, Tryd.ntmps75
  go_wp2
  all_goals go_ret
  all_goals (refine ⟨ret_bool ?_, rfl⟩; unfold heatB; grind)
theorem refFac_any (rise heat : Int) (w : World) (h : facB rise heat = true) :
    Calls Tryd.prog 76 #[.int .i64 rise, .int .i64 heat] w fun e w' => e = .returned (.int .i64 (fac rise heat)) ∧ w = w' := by
  have hb := fac_bd _ _ h
  obtain ⟨⟨h0, h1⟩, h2, h3⟩ := (facB_iff _ _).1 h
  have hf : fac rise heat = 10000000 + rise * (heat - 200) := rfl
  have a1 := Int.mul_le_mul_of_nonneg_left (show heat - 200 ≤ 400 by omega) h0
  have a2 := Int.mul_le_mul_of_nonneg_left (show -600 ≤ heat - 200 by omega) h0
  have b1 : rise * (heat - 200) ≤ 4000000 := by omega
  have b2 : -6000000 ≤ rise * (heat - 200) := by omega
  rw [hf]
  clear a1 a2 hf hb h
  go_enter Tryd.func76, Tryd.ntmps76
  go_wp2
  go_returns
  exact ⟨rfl, rfl⟩
theorem refFactor_any (rise heat : Int) (w : World) :
    Calls Tryd.prog 49 #[.int .i64 rise, .int .i64 heat] w fun e w' => e = .returned (.tuple #[.int .i64 (faQ rise heat), .int .i64 (faE rise heat)]) ∧ w = w' := by
  cases h : facB rise heat with
  | true =>
    have e1 : faQ rise heat = fac rise heat := by unfold faQ; rw [if_pos h]
    have e2 : faE rise heat = 0 := by unfold faE; rw [if_pos h]
    rw [e1, e2]
    obtain ⟨⟨h0, h1⟩, h2, h3⟩ := (facB_iff _ _).1 h
    have HF := Lib.hid (fun W => refFac_any rise heat W h)
    have HH := Lib.hid (fun W => refHeat_any heat W)
    rw [show heatB heat = true by simp [heatB]; omega] at HH
    generalize fac rise heat = F at *
    clear e1 e2 h
    go_enter Tryd.func49, Tryd.ntmps49
    go_wp2_with fail
    refine (HH.out _).mono ?_
    rintro e w1 ⟨rfl, rfl⟩
    go_wp2_with fail
    refine (HF.out _).mono ?_
    rintro e w1 ⟨rfl, rfl⟩
    go_wp2
    go_returns
    exact ⟨rfl, rfl⟩
  | false =>
    have e1 : faQ rise heat = 0 := by unfold faQ; rw [if_neg (by rw [h]; simp)]
    have e2 : faE rise heat = 2 := by unfold faE; rw [if_neg (by rw [h]; simp)]
    rw [e1, e2]
    have hn : rise < 0 ∨ (0 ≤ rise ∧ 10000 < rise) ∨ ((0 ≤ rise ∧ rise ≤ 10000) ∧ heatB heat = false) := by
      have h2 : ¬ ((0 ≤ rise ∧ rise ≤ 10000) ∧ -400 ≤ heat ∧ heat ≤ 600) := fun hc => by rw [(facB_iff _ _).2 hc] at h; cases h
      by_cases ha : 0 ≤ rise ∧ rise ≤ 10000
      · right; right
        refine ⟨ha, ?_⟩
        rw [Bool.eq_false_iff]
        intro hc
        simp [heatB] at hc
        omega
      · omega
    clear e1 e2 h
    rcases hn with hn | ⟨hn, hn2⟩ | ⟨⟨hn, hn2⟩, hn3⟩
    · go_enter Tryd.func49, Tryd.ntmps49
      go_wp2
      go_returns
      exact ⟨rfl, rfl⟩
    · go_enter Tryd.func49, Tryd.ntmps49
      go_wp2
      go_returns
      exact ⟨rfl, rfl⟩
    · have HH := Lib.hid (fun W => refHeat_any heat W)
      rw [hn3] at HH
      clear hn3
      go_enter Tryd.func49, Tryd.ntmps49
      go_wp2_with fail
      refine (HH.out _).mono ?_
      rintro e w1 ⟨rfl, rfl⟩
      go_wp2
      go_returns
      exact ⟨rfl, rfl⟩
theorem refReady_core (v rise heat rule F E R : Int) (ru am : Bool) (w : World)
    (H1 : Hid (∀ W, Calls Tryd.prog 91 #[.int .i64 rule] W fun e w' => e = .returned (.bool ru) ∧ W = w'))
    (H2 : Hid (∀ W, Calls Tryd.prog 49 #[.int .i64 rise, .int .i64 heat] W fun e w' => e = .returned (.tuple #[.int .i64 F, .int .i64 E]) ∧ W = w'))
    (H3 : Hid (∀ W, Calls Tryd.prog 92 #[.int .i64 v] W fun e w' => e = .returned (.bool am) ∧ W = w'))
    (h : (ru = false ∧ R = 1) ∨ (ru = true ∧ (E == 0) = false ∧ (E != 0) = true ∧ R = 2) ∨ (ru = true ∧ E = 0 ∧ am = false ∧ R = 2) ∨ (ru = true ∧ E = 0 ∧ am = true ∧ R = 0)) :
    Calls Tryd.prog 77 #[.int .i64 v, .int .i64 rise, .int .i64 heat, .int .i64 rule] w fun e w' => e = .returned (.int .i64 R) ∧ w = w' := by
  rcases h with ⟨rfl, rfl⟩ | ⟨rfl, e1, e2, rfl⟩ | ⟨rfl, rfl, rfl, rfl⟩ | ⟨rfl, rfl, rfl, rfl⟩
  · go_enter Tryd.func77, Tryd.ntmps77
    go_wp2_with fail
    refine (H1.out _).mono ?_
    rintro e w1 ⟨rfl, rfl⟩
    go_wp2
    go_returns
    exact ⟨rfl, rfl⟩
  · go_enter Tryd.func77, Tryd.ntmps77
    go_wp2_with fail
    refine (H1.out _).mono ?_
    rintro e w1 ⟨rfl, rfl⟩
    go_wp2_with fail
    refine (H2.out _).mono ?_
    rintro e w1 ⟨rfl, rfl⟩
    go_wp2
    go_returns
    exact ⟨rfl, rfl⟩
  all_goals
    go_enter Tryd.func77, Tryd.ntmps77
    go_wp2_with fail
    refine (H1.out _).mono ?_
    rintro e w1 ⟨rfl, rfl⟩
    go_wp2_with fail
    refine (H2.out _).mono ?_
    rintro e w1 ⟨rfl, rfl⟩
    go_wp2_with fail
    refine (H3.out _).mono ?_
    rintro e w1 ⟨rfl, rfl⟩
    go_wp2
    go_returns
    exact ⟨rfl, rfl⟩
theorem refReady_any (v rise heat rule : Int) (w : World) :
    Calls Tryd.prog 77 #[.int .i64 v, .int .i64 rise, .int .i64 heat, .int .i64 rule] w fun e w' => e = .returned (.int .i64 (rdyE v rise heat rule)) ∧ w = w' := by
  refine refReady_core v rise heat rule (faQ rise heat) (faE rise heat) _ (isRuleB rule) (isAm v) w (fun W => refIs_any rule W) (fun W => refFactor_any rise heat W) (fun W => R1.is_any v W) ?_
  unfold rdyE faE
  cases isRuleB rule with
  | false => exact .inl ⟨rfl, rfl⟩
  | true =>
    right
    cases facB rise heat with
    | false => exact .inl ⟨rfl, by decide, by decide, rfl⟩
    | true =>
      right
      cases isAm v with
      | false => exact .inl ⟨rfl, rfl, rfl, rfl⟩
      | true => exact .inr ⟨rfl, rfl, rfl, rfl⟩
theorem refTo_any (v rise heat rule : Int) (w : World) :
    Calls Tryd.prog 78 #[.int .i64 v, .int .i64 rise, .int .i64 heat, .int .i64 rule] w fun e w' => e = .returned (.tuple #[.int .i64 (toQ v rise heat rule), .int .i64 (toE v rise heat rule)]) ∧ Below w.heap.size w w' := by
  have HR := Lib.hid (fun W => refReady_any v rise heat rule W)
  by_cases h : rdyE v rise heat rule = 0
  · obtain ⟨_, hf, _⟩ := rdy_ok h
    have e1 : toQ v rise heat rule = prodQ v 10000000 (fac rise heat) rule := by unfold toQ; rw [if_pos h]
    have e2 : toE v rise heat rule = prodE v 10000000 (fac rise heat) rule := by unfold toE; rw [if_pos h]
    rw [e1, e2]
    rw [h] at HR
    have HF := Lib.hid (fun W => refFac_any rise heat W hf)
    have HP := Lib.hid (fun W => refProduct_any v 10000000 (fac rise heat) rule W)
    generalize prodQ v 10000000 (fac rise heat) rule = Q at *
    generalize prodE v 10000000 (fac rise heat) rule = E at *
    generalize fac rise heat = F at *
    clear e1 e2 h hf
    go_enter Tryd.func78, Tryd.ntmps78
    go_wp2_with fail
    refine (HR.out _).mono ?_
    rintro e w1 ⟨rfl, rfl⟩
    go_wp2_with fail
    refine (HF.out _).mono ?_
    rintro e w1 ⟨rfl, rfl⟩
    go_wp2_with fail
    refine (HP.out _).mono ?_
    rintro e w1 ⟨rfl, gg⟩
    have X1 := Lib.hid gg; clear gg
    go_wp2
    go_returns
    exact ⟨rfl, X1.out⟩
  · have e1 : toQ v rise heat rule = 0 := by unfold toQ; rw [if_neg h]
    have e2 : toE v rise heat rule = rdyE v rise heat rule := by unfold toE; rw [if_neg h]
    rw [e1, e2]
    have h1 : (rdyE v rise heat rule == 0) = false := by simpa using h
    have h2 : (rdyE v rise heat rule != 0) = true := by simpa using h
    generalize rdyE v rise heat rule = E at *
    clear e1 e2 h
    go_enter Tryd.func78, Tryd.ntmps78
    go_wp2_with fail
    refine (HR.out _).mono ?_
    rintro e w1 ⟨rfl, rfl⟩
    go_wp2
    go_returns
    exact ⟨rfl, Below.refl _ _⟩
end Go.Proofs.YtdpkochkpcjioabDoor

namespace Go.Proofs.YtdpkochkpcjioabDoor
open Go.RowKit

set_option maxHeartbeats 4000000 in
theorem refBetween_core (vl vh hl hh rise R1 R2 Q1 E1 Q2 E2 A B E : Int) (w : World)
    (HR1 : Hid (∀ W, Calls Tryd.prog 77 #[.int .i64 vl, .int .i64 rise, .int .i64 hl, .int .i64 2] W fun e w' => e = .returned (.int .i64 R1) ∧ W = w'))
    (HR2 : Hid (∀ W, Calls Tryd.prog 77 #[.int .i64 vh, .int .i64 rise, .int .i64 hh, .int .i64 2] W fun e w' => e = .returned (.int .i64 R2) ∧ W = w'))
    (HT1 : Hid (∀ W, Calls Tryd.prog 78 #[.int .i64 vl, .int .i64 rise, .int .i64 hh, .int .i64 1] W fun e w' => e = .returned (.tuple #[.int .i64 Q1, .int .i64 E1]) ∧ Below W.heap.size W w'))
    (HT2 : Hid (∀ W, Calls Tryd.prog 78 #[.int .i64 vh, .int .i64 rise, .int .i64 hl, .int .i64 2] W fun e w' => e = .returned (.tuple #[.int .i64 Q2, .int .i64 E2]) ∧ Below W.heap.size W w'))
    (h : (vh < vl ∧ A = 0 ∧ B = 0 ∧ E = 1) ∨ (vl ≤ vh ∧ hh < hl ∧ A = 0 ∧ B = 0 ∧ E = 1) ∨ (vl ≤ vh ∧ hl ≤ hh ∧ R1 ≠ 0 ∧ A = 0 ∧ B = 0 ∧ E = 2) ∨ (vl ≤ vh ∧ hl ≤ hh ∧ R1 = 0 ∧ R2 ≠ 0 ∧ A = 0 ∧ B = 0 ∧ E = 2) ∨
      (vl ≤ vh ∧ hl ≤ hh ∧ R1 = 0 ∧ R2 = 0 ∧ E1 ≠ 0 ∧ A = 0 ∧ B = 0 ∧ E = 15) ∨ (vl ≤ vh ∧ hl ≤ hh ∧ R1 = 0 ∧ R2 = 0 ∧ E1 = 0 ∧ E2 ≠ 0 ∧ A = 0 ∧ B = 0 ∧ E = 15) ∨ (vl ≤ vh ∧ hl ≤ hh ∧ R1 = 0 ∧ R2 = 0 ∧ E1 = 0 ∧ E2 = 0 ∧ A = Q1 ∧ B = Q2 ∧ E = 0)) :
    Calls Tryd.prog 51 #[.agg #[.int .i64 vl, .int .i64 vh], .agg #[.int .i64 hl, .int .i64 hh], .int .i64 rise] w fun e w' => e = .returned (.tuple #[.agg #[.int .i64 A, .int .i64 B], .int .i64 E]) ∧ Below w.heap.size w w' := by
  have TV := Lib.hid (((Two.new w (.int .i64 vl) (.int .i64 vh) 30).alloc (.cells #[.int .i64 hl, .int .i64 hh] 30)).alloc (.cells #[.int .i64 0, .int .i64 0] 30))
  have TH := Lib.hid ((Two.new (w.alloc (.cells #[.int .i64 vl, .int .i64 vh] 30)) (.int .i64 hl) (.int .i64 hh) 30).alloc (.cells #[.int .i64 0, .int .i64 0] 30))
  have TZ := Lib.hid (Two.new ((w.alloc (.cells #[.int .i64 vl, .int .i64 vh] 30)).alloc (.cells #[.int .i64 hl, .int .i64 hh] 30)) (.int .i64 0) (.int .i64 0) 30)
  simp only [World.size_alloc] at TH TZ
  rcases h with ⟨h, rfl, rfl, rfl⟩ | ⟨h, h2, rfl, rfl, rfl⟩ | ⟨h, h2, h3, rfl, rfl, rfl⟩ | ⟨h, h2, rfl, h3, rfl, rfl, rfl⟩ | ⟨h, h2, rfl, rfl, h3, rfl, rfl, rfl⟩ | ⟨h, h2, rfl, rfl, rfl, h3, rfl, rfl, rfl⟩ | ⟨h, h2, rfl, rfl, rfl, rfl, rfl, rfl, rfl⟩
  · go_enter Tryd.func51, Tryd.ntmps51
    go_wp2
    refine bodyPost_ret (v := .tuple #[.agg #[.int .i64 0, .int .i64 0], .int .i64 1]) (by simp [results, Tryd.results51, go_sem]) rfl ?_
    exact ⟨rfl, bel_alloc (bel_alloc (bel_alloc (Below.refl _ _)))⟩
  · go_enter Tryd.func51, Tryd.ntmps51
    go_wp2
    refine bodyPost_ret (v := .tuple #[.agg #[.int .i64 0, .int .i64 0], .int .i64 1]) (by simp [results, Tryd.results51, go_sem]) rfl ?_
    exact ⟨rfl, bel_alloc (bel_alloc (bel_alloc (Below.refl _ _)))⟩
  · have e1 : (R1 == 0) = false := by simpa using h3
    have e2 : (R1 != 0) = true := by simpa using h3
    clear h3
    go_enter Tryd.func51, Tryd.ntmps51
    go_wp2_with fail
    refine (HR1.out _).mono ?_
    rintro e w1 ⟨rfl, hw⟩
    subst hw
    go_wp2
    refine bodyPost_ret (v := .tuple #[.agg #[.int .i64 0, .int .i64 0], .int .i64 2]) (by simp [results, Tryd.results51, go_sem]) rfl ?_
    exact ⟨rfl, bel_alloc (bel_alloc (bel_alloc (Below.refl _ _)))⟩
  · have e1 : (R2 == 0) = false := by simpa using h3
    have e2 : (R2 != 0) = true := by simpa using h3
    clear h3
    go_enter Tryd.func51, Tryd.ntmps51
    go_wp2_with fail
    refine (HR1.out _).mono ?_
    rintro e w1 ⟨rfl, hw⟩
    subst hw
    go_wp2_with fail
    refine (HR2.out _).mono ?_
    rintro e w1 ⟨rfl, hw⟩
    subst hw
    go_wp2
    refine bodyPost_ret (v := .tuple #[.agg #[.int .i64 0, .int .i64 0], .int .i64 2]) (by simp [results, Tryd.results51, go_sem]) rfl ?_
    exact ⟨rfl, bel_alloc (bel_alloc (bel_alloc (Below.refl _ _)))⟩
  all_goals
    try
      (have e1 : (E1 == 0) = false := by simpa using h3
       have e2 : (E1 != 0) = true := by simpa using h3
       clear h3)
    try
      (have e1 : (E2 == 0) = false := by simpa using h3
       have e2 : (E2 != 0) = true := by simpa using h3
       clear h3)
    go_enter Tryd.func51, Tryd.ntmps51
    go_wp2_with fail
    refine (HR1.out _).mono ?_
    rintro e w1 ⟨rfl, hw⟩
    subst hw
    go_wp2_with fail
    refine (HR2.out _).mono ?_
    rintro e w1 ⟨rfl, hw⟩
    subst hw
    go_wp2_with fail
    refine (HT1.out _).mono ?_
    rintro e w2 ⟨rfl, gg⟩
    replace TV := Lib.hid (TV.out.below gg)
    replace TH := Lib.hid (TH.out.below gg)
    replace TZ := Lib.hid (TZ.out.below gg)
    have X1 := Lib.hid (bel_alloc (bel_alloc (bel_alloc gg))); clear gg
    obtain ⟨a0, a1, _, _, _⟩ := TV.out
    obtain ⟨b0, b1, _, _, _⟩ := TH.out
    go_wp2_with fail
    refine (HT2.out _).mono ?_
    rintro e w3 ⟨rfl, gg⟩
    replace TZ := Lib.hid (TZ.out.below gg)
    replace X1 := Lib.hid (bel_trans X1.out gg); clear gg a0 a1 b0 b1 TV TH
    obtain ⟨r0, r1, f0, f1, _⟩ := TZ.out
    go_wp2
  · obtain ⟨t0, t1⟩ := two_read _ (w.heap.size + 1 + 1) (.int .i64 0) (.int .i64 0) (by assumption) (by assumption)
    refine bodyPost_ret (v := .tuple #[.agg #[.int .i64 0, .int .i64 0], .int .i64 15]) (by simp [results, Tryd.results51, go_sem, t0, t1]) rfl ?_
    exact ⟨rfl, (X1.out.setCell (by simp; omega) _).setCell (by simp; omega) _⟩
  · obtain ⟨t0, t1⟩ := two_read _ (w.heap.size + 1 + 1) (.int .i64 0) (.int .i64 0) (by assumption) (by assumption)
    refine bodyPost_ret (v := .tuple #[.agg #[.int .i64 0, .int .i64 0], .int .i64 15]) (by simp [results, Tryd.results51, go_sem, t0, t1]) rfl ?_
    exact ⟨rfl, (X1.out.setCell (by simp; omega) _).setCell (by simp; omega) _⟩
  · obtain ⟨t0, t1⟩ := two_read _ (w.heap.size + 1 + 1) (.int .i64 A) (.int .i64 B) (by assumption) (by assumption)
    refine bodyPost_ret (v := .tuple #[.agg #[.int .i64 A, .int .i64 B], .int .i64 0]) (by simp [results, Tryd.results51, go_sem, t0, t1]) rfl ?_
    exact ⟨rfl, (X1.out.setCell (by simp; omega) _).setCell (by simp; omega) _⟩
theorem refBetween_any (vl vh hl hh rise : Int) (w : World) :
    Calls Tryd.prog 51 #[.agg #[.int .i64 vl, .int .i64 vh], .agg #[.int .i64 hl, .int .i64 hh], .int .i64 rise] w fun e w' => e = .returned (.tuple #[.agg #[.int .i64 (btL vl vh hl hh rise), .int .i64 (btH vl vh hl hh rise)], .int .i64 (btE vl vh hl hh rise)]) ∧ Below w.heap.size w w' := by
  refine refBetween_core vl vh hl hh rise (rdyE vl rise hl 2) (rdyE vh rise hh 2) (toQ vl rise hh 1) (toE vl rise hh 1) (toQ vh rise hl 2) (toE vh rise hl 2) _ _ _ w (fun W => refReady_any vl rise hl 2 W) (fun W => refReady_any vh rise hh 2 W) (fun W => refTo_any vl rise hh 1 W) (fun W => refTo_any vh rise hl 2 W) ?_
  have hno : ∀ E, btE vl vh hl hh rise = E → E ≠ 0 → btL vl vh hl hh rise = 0 ∧ btH vl vh hl hh rise = 0 ∧ btE vl vh hl hh rise = E := by
    intro E h1 h2
    unfold btL btH
    rw [h1, if_neg h2, if_neg h2]
    exact ⟨rfl, rfl, rfl⟩
  by_cases g1 : vh < vl
  · exact .inl ⟨g1, hno 1 (by unfold btE; rw [if_pos (.inl g1)]) (by omega)⟩
  · right
    by_cases g2 : hh < hl
    · exact .inl ⟨by omega, g2, hno 1 (by unfold btE; rw [if_pos (.inr g2)]) (by omega)⟩
    · right
      have n1 : ¬ (vh < vl ∨ hh < hl) := by omega
      by_cases g3 : rdyE vl rise hl 2 = 0
      · right
        by_cases g4 : rdyE vh rise hh 2 = 0
        · right
          have n2 : ¬ (rdyE vl rise hl 2 ≠ 0 ∨ rdyE vh rise hh 2 ≠ 0) := by omega
          by_cases g5 : toE vl rise hh 1 = 0
          · right
            by_cases g6 : toE vh rise hl 2 = 0
            · right
              have n3 : ¬ (toE vl rise hh 1 ≠ 0 ∨ toE vh rise hl 2 ≠ 0) := by omega
              have e : btE vl vh hl hh rise = 0 := by unfold btE; rw [if_neg n1, if_neg n2, if_neg n3]
              have := bt_zero e
              exact ⟨by omega, by omega, g3, g4, g5, g6, this.2.2.2.2.1, this.2.2.2.2.2, e⟩
            · exact .inl ⟨by omega, by omega, g3, g4, g5, g6, hno 15 (by unfold btE; rw [if_neg n1, if_neg n2, if_pos (.inr g6)]) (by omega)⟩
          · exact .inl ⟨by omega, by omega, g3, g4, g5, hno 15 (by unfold btE; rw [if_neg n1, if_neg n2, if_pos (.inl g5)]) (by omega)⟩
        · exact .inl ⟨by omega, by omega, g3, g4, hno 2 (by unfold btE; rw [if_neg n1, if_pos (.inr g4)]) (by omega)⟩
      · exact .inl ⟨by omega, by omega, g3, hno 2 (by unfold btE; rw [if_neg n1, if_pos (.inl g3)]) (by omega)⟩
end Go.Proofs.YtdpkochkpcjioabDoor

namespace Go.Proofs.YtdpkochkpcjioabDoor
open Go.RowKit

theorem rIsRdg_core (d p h s : Int) (B HB : Bool) (w : World) (hh : Hid (∀ W, Calls Tryd.prog 75 #[.int .i64 h] W fun e w' => e = .returned (.bool HB) ∧ W = w'))
    (hc : (¬ 0 ≤ d ∧ B = false) ∨ (0 ≤ d ∧ ¬ d ≤ 100000 ∧ B = false) ∨ (0 ≤ d ∧ d ≤ 100000 ∧ ¬ 0 ≤ p ∧ B = false) ∨ (0 ≤ d ∧ d ≤ 100000 ∧ 0 ≤ p ∧ ¬ p ≤ 200000 ∧ B = false) ∨ (0 ≤ d ∧ d ≤ 100000 ∧ 0 ≤ p ∧ p ≤ 200000 ∧ HB = false ∧ B = false)
      ∨ (0 ≤ d ∧ d ≤ 100000 ∧ 0 ≤ p ∧ p ≤ 200000 ∧ HB = true ∧ ¬ 0 ≤ s ∧ B = false) ∨ (0 ≤ d ∧ d ≤ 100000 ∧ 0 ≤ p ∧ p ≤ 200000 ∧ HB = true ∧ 0 ≤ s ∧ ¬ s ≤ 10000 ∧ B = false) ∨ (0 ≤ d ∧ d ≤ 100000 ∧ 0 ≤ p ∧ p ≤ 200000 ∧ HB = true ∧ 0 ≤ s ∧ s ≤ 10000 ∧ B = true)) :
    Calls Tryd.prog 50 #[.agg #[.int .i64 d, .int .i64 p, .int .i64 h, .int .i64 s]] w fun e w' => e = .returned (.bool B) ∧ Below w.heap.size w w' := by
  have X0 := Lib.hid (bel_alloc (w := w) (o := .cells #[.int .i64 d, .int .i64 p, .int .i64 h, .int .i64 s] 26) (Below.refl _ _))
  obtain ⟨q0, q1, q2, q3, _, _⟩ := Quad.new w (.int .i64 d) (.int .i64 p) (.int .i64 h) (.int .i64 s) 26
  go_enter Tryd.func50, Tryd.ntmps50
  rcases hc with ⟨h1, rfl⟩ | ⟨h1, h2, rfl⟩ | ⟨h1, h2, h3, rfl⟩ | ⟨h1, h2, h3, h4, rfl⟩ | ⟨h1, h2, h3, h4, rfl, rfl⟩ | ⟨h1, h2, h3, h4, rfl, h5, rfl⟩ | ⟨h1, h2, h3, h4, rfl, h5, h6, rfl⟩ | ⟨h1, h2, h3, h4, rfl, h5, h6, rfl⟩
  · have g : decide (0 ≤ d) = false := decide_eq_false h1
    go_wp2
    go_returns
    exact ⟨by first | rfl | (simp [go_sem]; done) | (simp [go_sem]; omega), X0.out⟩
  · have g : decide (0 ≤ d) = true := decide_eq_true h1
    have g2 : decide (d ≤ 100000) = false := decide_eq_false h2
    go_wp2
    go_returns
    exact ⟨by first | rfl | (simp [go_sem]; done) | (simp [go_sem]; omega), X0.out⟩
  · have g : decide (0 ≤ d) = true := decide_eq_true h1
    have g2 : decide (d ≤ 100000) = true := decide_eq_true h2
    have g3 : decide (0 ≤ p) = false := decide_eq_false h3
    go_wp2
    go_returns
    exact ⟨by first | rfl | (simp [go_sem]; done) | (simp [go_sem]; omega), X0.out⟩
  · have g : decide (0 ≤ d) = true := decide_eq_true h1
    have g2 : decide (d ≤ 100000) = true := decide_eq_true h2
    have g3 : decide (0 ≤ p) = true := decide_eq_true h3
    have g4 : decide (p ≤ 200000) = false := decide_eq_false h4
    go_wp2
    go_returns
    exact ⟨by first | rfl | (simp [go_sem]; done) | (simp [go_sem]; omega), X0.out⟩
  all_goals
    have g : decide (0 ≤ d) = true := decide_eq_true h1
    have g2 : decide (d ≤ 100000) = true := decide_eq_true h2
    have g3 : decide (0 ≤ p) = true := decide_eq_true h3
    have g4 : decide (p ≤ 200000) = true := decide_eq_true h4
    go_wp2_with fail
    refine (hh.out _).mono ?_
    rintro e w1 ⟨rfl, rfl⟩
    go_wp2
    go_returns
    exact ⟨by first | rfl | (simp [go_sem]; done) | (simp [go_sem]; omega), X0.out⟩
theorem rIsRdg_any (d p h s : Int) (w : World) :
    Calls Tryd.prog 50 #[.agg #[.int .i64 d, .int .i64 p, .int .i64 h, .int .i64 s]] w fun e w' => e = .returned (.bool (rdgB d p h s)) ∧ Below w.heap.size w w' := by
  refine rIsRdg_core d p h s _ (heatB h) w (Lib.hid fun W => refHeat_any h W) ?_
  have no : ¬ rdgB d p h s = true → rdgB d p h s = false := fun h => by simpa using h
  have hb : heatB h = true ↔ (-400 ≤ h ∧ h ≤ 600) := by unfold heatB; simp
  have hB := @rdgB_iff d p h s
  by_cases h1 : 0 ≤ d
  · by_cases h2 : d ≤ 100000
    · by_cases h3 : 0 ≤ p
      · by_cases h4 : p ≤ 200000
        · cases hh : heatB h with
          | false =>
            have : ¬ heatB h = true := by rw [hh]; simp
            exact .inr (.inr (.inr (.inr (.inl ⟨h1, h2, h3, h4, rfl, no fun q => this (hb.2 (hB.1 q).2.2.1)⟩))))
          | true =>
            have hq := hb.1 hh
            by_cases h5 : 0 ≤ s
            · by_cases h6 : s ≤ 10000
              · exact .inr (.inr (.inr (.inr (.inr (.inr (.inr ⟨h1, h2, h3, h4, rfl, h5, h6, hB.2 ⟨⟨h1, h2⟩, ⟨h3, h4⟩, hq, h5, h6⟩⟩))))))
              · exact .inr (.inr (.inr (.inr (.inr (.inr (.inl ⟨h1, h2, h3, h4, rfl, h5, h6, no fun q => by have := hB.1 q; omega⟩))))))
            · exact .inr (.inr (.inr (.inr (.inr (.inl ⟨h1, h2, h3, h4, rfl, h5, no fun q => by have := hB.1 q; omega⟩)))))
        · exact .inr (.inr (.inr (.inl ⟨h1, h2, h3, h4, no fun q => by have := hB.1 q; omega⟩)))
      · exact .inr (.inr (.inl ⟨h1, h2, h3, no fun q => by have := hB.1 q; omega⟩))
    · exact .inr (.inl ⟨h1, h2, no fun q => by have := hB.1 q; omega⟩)
  · exact .inl ⟨h1, no fun q => by have := hB.1 q; omega⟩
theorem rRdgChk_core (d p h s V : Int) (B : Bool) (w : World) (hB : (B = true ∧ V = 0) ∨ (B = false ∧ V = 2))
    (H1 : Hid (∀ W, Calls Tryd.prog 50 #[.agg #[.int .i64 d, .int .i64 p, .int .i64 h, .int .i64 s]] W fun e w' => e = .returned (.bool B) ∧ Below W.heap.size W w')) :
    Calls Tryd.prog 18 #[.agg #[.int .i64 d, .int .i64 p, .int .i64 h, .int .i64 s]] w fun e w' => e = .returned (.int .i64 V) ∧ Below w.heap.size w w' := by
  have X0 := Lib.hid (bel_alloc (w := w) (o := .cells #[.int .i64 d, .int .i64 p, .int .i64 h, .int .i64 s] 26) (Below.refl _ _))
  obtain ⟨q0, q1, q2, q3, _, _⟩ := Quad.new w (.int .i64 d) (.int .i64 p) (.int .i64 h) (.int .i64 s) 26
  go_enter Tryd.func18, Tryd.ntmps18
  go_wp2_with fail
  refine (H1.out _).mono ?_
  rintro e w1 ⟨rfl, gg⟩
  replace X0 := Lib.hid (bel_trans X0.out gg); clear gg
  rcases hB with ⟨rfl, rfl⟩ | ⟨rfl, rfl⟩
  all_goals
    go_wp2
    go_returns
    exact ⟨rfl, X0.out⟩
theorem rRdgChk_any (d p h s : Int) (w : World) :
    Calls Tryd.prog 18 #[.agg #[.int .i64 d, .int .i64 p, .int .i64 h, .int .i64 s]] w fun e w' => e = .returned (.int .i64 (rdgE d p h s)) ∧ Below w.heap.size w w' := by
  refine rRdgChk_core d p h s _ (rdgB d p h s) w ?_ (Lib.hid fun W => rIsRdg_any d p h s W)
  unfold rdgE
  cases rdgB d p h s with
  | true => exact .inl ⟨rfl, if_pos rfl⟩
  | false => exact .inr ⟨rfl, if_neg (by simp)⟩
theorem rTimes_any (a b s : Int) (w : World) (h1 : -9223372036854775808 ≤ a * s ∧ a * s ≤ 9223372036854775807) (h2 : -9223372036854775808 ≤ b * s ∧ b * s ≤ 9223372036854775807) :
    Calls Tryd.prog 52 #[.agg #[.int .i64 a, .int .i64 b], .int .i64 s] w fun e w' => e = .returned (.agg #[.int .i64 (a * s), .int .i64 (b * s)]) ∧ Below w.heap.size w w' := by
  have w1 : IntKind.i64.wrap (a * s) = a * s := wrap_in _ h1
  have w2 : IntKind.i64.wrap (b * s) = b * s := wrap_in _ h2
  have T0 := Lib.hid ((Two.new w (.int .i64 a) (.int .i64 b) 30).alloc (.cells #[.int .i64 0, .int .i64 0] 30))
  have T1 := Two.new (w.alloc (.cells #[.int .i64 a, .int .i64 b] 30)) (.int .i64 0) (.int .i64 0) 30
  rw [World.size_alloc] at T1
  replace T1 := Lib.hid T1
  have X0 : Hid (Below w.heap.size w ((w.alloc (.cells #[.int .i64 a, .int .i64 b] 30)).alloc (.cells #[.int .i64 0, .int .i64 0] 30))) := Lib.hid (bel_alloc (bel_alloc (Below.refl _ _)))
  obtain ⟨t0, t1, _, _, _⟩ := T0.out
  obtain ⟨u0, u1, f0, f1, _⟩ := T1.out
  have T2 := Two.new (w.alloc (.cells #[.int .i64 a, .int .i64 b] 30)) (.int .i64 (a * s)) (.int .i64 (b * s)) 30
  rw [World.size_alloc] at T2
  obtain ⟨p0, p1, _, _, _⟩ := T2
  go_enter Tryd.func52, Tryd.ntmps52
  go_wp2
  refine bodyPost_ret (v := .agg #[.int .i64 (a * s), .int .i64 (b * s)]) (by simp [results, Tryd.results52, go_sem, w1, w2]) rfl ?_
  exact ⟨rfl, by first | exact bel_alloc (bel_alloc (Below.refl _ _)) | (rw [w1, w2]; exact bel_alloc (bel_alloc (Below.refl _ _)))⟩
end Go.Proofs.YtdpkochkpcjioabDoor

namespace Go.Proofs.YtdpkochkpcjioabDoor
open Go.RowKit

theorem rtbChk_len (a : Option Addr) (n cap : Nat) (tol V : Int) (w : World) (h : (n < 2 ∧ V = 9) ∨ (¬ n < 2 ∧ 128 < n ∧ n ≤ 9223372036854775807 ∧ V = 8)) :
    Calls Tryd.prog 46 #[.agg #[.slice a n cap, .int .i64 tol]] w fun e w' => e = .returned (.int .i64 V) ∧ Below w.heap.size w w' := by
  have X0 := Lib.hid (bel_alloc (w := w) (o := .cells #[.slice a n cap, .int .i64 tol] 24) (Below.refl _ _))
  obtain ⟨t0, t1, _, _, _⟩ := Two.new w (.slice a n cap) (.int .i64 tol) 24
  rcases h with ⟨h, rfl⟩ | ⟨h, h2, h3, rfl⟩
  all_goals
    go_enter Tryd.func46, Tryd.ntmps46
    go_wp2
    go_returns
    exact ⟨rfl, X0.out⟩
set_option maxRecDepth 100000 in
set_option maxHeartbeats 16000000 in
theorem rtbChk_core (b off n cap : Nat) (tol : Int) (l : List (Int × Int)) (V : Int) (w : World) (n0 : 1 ≤ n) (n1 : n + 1 ≤ 128) (hb : b < w.heap.size) (hn : Hid (l.length = n + 1))
    (hv1 : Hid ((∃ i, i < n + 1 ∧ mkOut (gX l i, gR l i) = true) → V = 2))
    (hv2 : Hid ((∀ i, i < n + 1 → mkOut (gX l i, gR l i) = false) → (tol < 0 ∨ 4294967296 < tol) → V = 2))
    (hv3 : Hid ((∀ i, i < n + 1 → mkOut (gX l i, gR l i) = false) → ¬ (tol < 0 ∨ 4294967296 < tol) → (∃ i, i < n ∧ ¬ (gX l i < gX l (i + 1) ∧ gR l i ≤ gR l (i + 1))) → V = 5))
    (hv4 : Hid ((∀ i, i < n + 1 → mkOut (gX l i, gR l i) = false) → ¬ (tol < 0 ∨ 4294967296 < tol) → (∀ i, i < n → gX l i < gX l (i + 1) ∧ gR l i ≤ gR l (i + 1)) → V = 0))
    (hc : Hid (∀ j, j < n + 1 → w.cell? ⟨b, off + j * 2, none⟩ = some (.int .i64 (gX l j)) ∧ w.cell? ⟨b, off + j * 2 + 1, none⟩ = some (.int .i64 (gR l j)))) :
    Calls Tryd.prog 46 #[.agg #[.slice (some ⟨b, off, none⟩) (n + 1) cap, .int .i64 tol]] w fun e w' => e = .returned (.int .i64 V) ∧ Below w.heap.size w w' := by
  have T0 := Lib.hid (Two.new w (.slice (some ⟨b, off, none⟩) (n + 1) cap) (.int .i64 tol) 24)
  have X0 := Lib.hid (bel_alloc (w := w) (o := .cells #[.slice (some ⟨b, off, none⟩) (n + 1) cap, .int .i64 tol] 24) (Below.refl _ _))
  have TT : Hid (∀ W, Below (w.alloc (.cells #[.slice (some ⟨b, off, none⟩) (n + 1) cap, .int .i64 tol] 24)).heap.size (w.alloc (.cells #[.slice (some ⟨b, off, none⟩) (n + 1) cap, .int .i64 tol] 24)) W → Two w.heap.size W (.slice (some ⟨b, off, none⟩) (n + 1) cap) (.int .i64 tol) ∧ Below w.heap.size w W ∧ ∀ j, j < n + 1 → W.cell? ⟨b, off + j * 2, none⟩ = some (.int .i64 (gX l j)) ∧ W.cell? ⟨b, off + j * 2 + 1, none⟩ = some (.int .i64 (gR l j))) := Lib.hid fun W hW => ⟨T0.out.below hW, bel_trans X0.out hW, fun j hj => ⟨cell_bel (hc.out j hj).1 (bel_trans X0.out hW), cell_bel (hc.out j hj).2 (bel_trans X0.out hW)⟩⟩
  have B0 : Hid (Below (w.alloc (.cells #[.slice (some ⟨b, off, none⟩) (n + 1) cap, .int .i64 tol] 24)).heap.size (w.alloc (.cells #[.slice (some ⟨b, off, none⟩) (n + 1) cap, .int .i64 tol] 24)) (w.alloc (.cells #[.slice (some ⟨b, off, none⟩) (n + 1) cap, .int .i64 tol] 24))) := Lib.hid (Below.refl _ _)
  have BS : Hid (w.heap.size < (w.alloc (.cells #[.slice (some ⟨b, off, none⟩) (n + 1) cap, .int .i64 tol] 24)).heap.size) := Lib.hid (by rw [World.size_alloc]; omega)
  obtain ⟨t0, t1, _, _, _⟩ := T0.out
  have g2 : decide ((n : Int) + 1 < 2) = false := decide_eq_false (by omega)
  have g3 : decide (128 < (n : Int) + 1) = false := decide_eq_false (by omega)
  clear hc X0 T0 hn
  go_enter Tryd.func46, Tryd.ntmps46
  go_wp2_with fail
  generalize w.alloc (.cells #[.slice (some ⟨b, off, none⟩) (n + 1) cap, .int .i64 tol] 24) = W0 at *
  go_loopw [3] (fun ii wr => ∃ k : Nat, k ≤ n + 1 ∧ ii = .int .i64 (k : Int) ∧ Hid (Below W0.heap.size W0 wr) ∧ Hid (∀ i, i < k → mkOut (gX l i, gR l i) = false)) (fun ii _ => n + 1 - (intOf ii).toNat)
  case atStart => exact ⟨0, by omega, rfl, B0, Lib.hid fun i hi => by omega⟩
  case round =>
    clear t0 t1 B0
    obtain ⟨k, hk, rfl, hB, hA⟩ := hrel
    obtain ⟨⟨t0, t1, _, _, _⟩, HX, hcc⟩ := TT.out wr hB.out
    replace HX := Lib.hid HX
    by_cases hlt : k < n + 1
    · obtain ⟨c0, c1⟩ := hcc k hlt
      have l0 : (k : Int) < ((n + 1 : Nat) : Int) := by omega
      have l1 : (k : Int) < (n : Int) + 1 := by omega
      have nb := Lib.hid (Nat.lt_of_lt_of_le BS.out hB.out.size)
      have q1 : w.heap.size ≠ wr.heap.size := by have := nb.out; omega
      have q2 : wr.heap.size ≠ w.heap.size := by have := nb.out; omega
      have hE : Hid (mkOut (gX l k, gR l k) = (decide (gX l k < 0) || decide (200000 < gX l k) || decide (gR l k < 0) || decide (4294967296 < gR l k))) := Lib.hid rfl
      have XA := Lib.hid (fun o => bel_trans HX.out (bel_alloc (w := wr) (o := o) (Below.refl _ _)))
      have XB := Lib.hid (fun o => bel_trans hB.out (bel_alloc (w := wr) (o := o) (Below.refl _ _)))
      clear hcc
      cases hq : mkOut (gX l k, gR l k) with
      | true =>
        obtain rfl := hv1.out ⟨k, hlt, hq⟩
        rw [hq] at hE
        clear hv1 hv2 hv3 hv4 hA hq
        generalize gX l k = x at *
        generalize gR l k = r at *
        have hD : (decide (x < 0) = true) ∨ (decide (x < 0) = false ∧ decide (200000 < x) = true) ∨ (decide (x < 0) = false ∧ decide (200000 < x) = false ∧ decide (r < 0) = true) ∨ (decide (x < 0) = false ∧ decide (200000 < x) = false ∧ decide (r < 0) = false ∧ decide (4294967296 < r) = true) := by
          have := hE.out
          revert this
          cases decide (x < 0) <;> cases decide (200000 < x) <;> cases decide (r < 0) <;> cases decide (4294967296 < r) <;> simp
        clear hE
        rcases hD with d1 | ⟨d1, d2⟩ | ⟨d1, d2, d3⟩ | ⟨d1, d2, d3, d4⟩
        all_goals
          go_wp2
          go_returns
          exact ⟨rfl, XA.out _⟩
      | false =>
        have hA2 : Hid (∀ i, i < k + 1 → mkOut (gX l i, gR l i) = false) := Lib.hid fun i hi => by
          by_cases e : i = k
          · rw [e]; exact hq
          · exact hA.out i (by omega)
        rw [hq] at hE
        clear hq hA
        generalize gX l k = x at *
        generalize gR l k = r at *
        have hD : decide (x < 0) = false ∧ decide (200000 < x) = false ∧ decide (r < 0) = false ∧ decide (4294967296 < r) = false := by
          have := hE.out
          revert this
          cases decide (x < 0) <;> cases decide (200000 < x) <;> cases decide (r < 0) <;> cases decide (4294967296 < r) <;> simp
        obtain ⟨d1, d2, d3, d4⟩ := hD
        clear hE
        go_wp2
        go_roundw
        case rel => exact ⟨k + 1, by omega, by go_num, Lib.hid (XB.out _), hA2⟩
        case measure => simp [intOf]; omega
    · obtain rfl : k = n + 1 := by omega
      replace hv2 := Lib.hid (hv2.out hA.out)
      replace hv3 := Lib.hid (hv3.out hA.out)
      replace hv4 := Lib.hid (hv4.out hA.out)
      clear hv1 hA hlt hk hcc
      by_cases ht : tol < 0
      · obtain rfl := hv2.out (.inl ht)
        have d1 : decide (tol < 0) = true := decide_eq_true ht
        go_wp2
        go_returns
        exact ⟨rfl, HX.out⟩
      by_cases ht2 : 4294967296 < tol
      · obtain rfl := hv2.out (.inr ht2)
        have d1 : decide (tol < 0) = false := decide_eq_false ht
        have d2 : decide (4294967296 < tol) = true := decide_eq_true ht2
        go_wp2
        go_returns
        exact ⟨rfl, HX.out⟩
      have d1 : decide (tol < 0) = false := decide_eq_false ht
      have d2 : decide (4294967296 < tol) = false := decide_eq_false ht2
      replace hv3 := Lib.hid (hv3.out (by omega))
      replace hv4 := Lib.hid (hv4.out (by omega))
      clear hv2
      go_wp2_with fail
      go_loopw [5] (fun ii wr => ∃ k : Nat, k ≤ n ∧ ii = .int .i64 ((k : Int) + 1) ∧ Hid (Below W0.heap.size W0 wr) ∧ Hid (∀ i, i < k → gX l i < gX l (i + 1) ∧ gR l i ≤ gR l (i + 1))) (fun ii _ => n + 1 - (intOf ii).toNat)
      case atStart => exact ⟨0, by omega, rfl, hB, Lib.hid fun i hi => by omega⟩
      case round =>
        clear hB t0 t1 HX
        obtain ⟨k, hk, rfl, hB, hA⟩ := hrel
        obtain ⟨⟨t0, t1, _, _, _⟩, HX, hcc⟩ := TT.out wr hB.out
        replace HX := Lib.hid HX
        by_cases hlt : k < n
        · obtain ⟨c0, c1⟩ := hcc k (by omega)
          obtain ⟨c2, c3⟩ := hcc (k + 1) (by omega)
          have l0 : (k : Int) + 1 < (n : Int) + 1 := by omega
          have l1 : (k : Int) + 1 < ((n + 1 : Nat) : Int) := by omega
          have l2 : (k : Int) < ((n + 1 : Nat) : Int) := by omega
          have l3 : IntKind.i64.wrap ((k : Int) + 1 - 1) = (k : Int) := by rw [wrap_in _ ⟨by omega, by omega⟩]; omega
          have l3' : IntKind.i64.wrap (k : Int) = (k : Int) := wrap_in _ ⟨by omega, by omega⟩
          have l4 : ((k : Int) + 1).toNat = k + 1 := by omega
          have l5 : 0 ≤ (k : Int) + 1 := by omega
          have l6 : (k : Int) < (n : Int) + 1 := by omega
          have BQ1 := Lib.hid (fun q => bel_trans hB.out (bel_drewN wr q))
          have BQ2 := Lib.hid (fun q => bel_trans HX.out (bel_drewN wr q))
          clear hcc HX
          by_cases g : gX l k < gX l (k + 1) ∧ gR l k ≤ gR l (k + 1)
          · have hA2 : Hid (∀ i, i < k + 1 → gX l i < gX l (i + 1) ∧ gR l i ≤ gR l (i + 1)) := Lib.hid fun i hi => by
              by_cases e : i = k
              · rw [e]; exact g
              · exact hA.out i (by omega)
            obtain ⟨g1, g2⟩ := g
            clear hA
            generalize gX l k = x at *
            generalize gR l k = r at *
            generalize gX l (k + 1) = y at *
            generalize gR l (k + 1) = s at *
            have d3 : decide (y ≤ x) = false := decide_eq_false (by omega)
            have d4 : decide (s < r) = false := decide_eq_false (by omega)
            go_upto_region 16 with fail
            go_quiet (fail)
            go_wp2
            go_roundw
            case rel => exact ⟨k + 1, by omega, by go_num, Lib.hid (BQ1.out _), hA2⟩
            case measure => simp [intOf]; omega
          · obtain rfl := hv3.out ⟨k, hlt, g⟩
            clear hv3 hv4 hA
            generalize gX l k = x at *
            generalize gR l k = r at *
            generalize gX l (k + 1) = y at *
            generalize gR l (k + 1) = s at *
            by_cases g1 : x < y
            · have d3 : decide (y ≤ x) = false := decide_eq_false (by omega)
              have d4 : decide (s < r) = true := decide_eq_true (by omega)
              go_upto_region 16 with fail
              go_quiet (fail)
              go_wp2
              go_returns
              exact ⟨rfl, BQ2.out _⟩
            · have d3 : decide (y ≤ x) = true := decide_eq_true (by omega)
              go_upto_region 16 with fail
              go_quiet (fail)
              go_wp2
              go_returns
              exact ⟨rfl, BQ2.out _⟩
        · obtain rfl : k = n := by omega
          obtain rfl := hv4.out hA.out
          have l0 : ¬ (k : Int) + 1 < (k : Int) + 1 := by omega
          go_wp2
          go_returns
          exact ⟨rfl, HX.out⟩
theorem rtbChk_any (v : Value) (l : List (Int × Int)) (tol : Int) (w : World) (hv : TbV w v l tol) :
    Calls Tryd.prog 46 #[v] w fun e w' => e = .returned (.int .i64 (tbE l tol)) ∧ Below w.heap.size w w' := by
  obtain ⟨a, cap, rfl, hp⟩ := hv
  obtain ⟨_, hcap⟩ : l.length ≤ cap ∧ cap ≤ 9223372036854775807 := by
    obtain ⟨a', cap', e, h, _⟩ := hp
    simp only [Value.slice.injEq, true_and] at e
    obtain ⟨_, rfl⟩ := e
    exact h
  by_cases h2 : l.length < 2
  · exact rtbChk_len a _ cap tol _ w (.inl ⟨h2, by unfold tbE; rw [if_pos h2]⟩)
  by_cases h3 : 128 < l.length
  · exact rtbChk_len a _ cap tol _ w (.inr ⟨h2, h3, by omega, by unfold tbE; rw [if_neg h2, if_pos h3]⟩)
  obtain ⟨b, off, rfl, hb, hc⟩ := hp.at (by omega)
  obtain ⟨n, hn⟩ : ∃ n, l.length = n + 1 := ⟨l.length - 1, by omega⟩
  have e0 : tbE l tol = if tol < 0 ∨ 4294967296 < tol ∨ l.any mkOut = true then 2 else if risB l (l.length - 1) = false then 5 else 0 := by
    unfold tbE
    rw [if_neg h2, if_neg h3]
    by_cases q : tol < 0 ∨ 4294967296 < tol ∨ l.any mkOut = true
    · rw [if_pos q, if_pos (by simp only [Bool.or_eq_true, decide_eq_true_eq]; rcases q with q | q | q; exact .inl (.inl q); exact .inl (.inr q); exact .inr q)]
    · rw [if_neg q, if_neg (by simp only [Bool.or_eq_true, decide_eq_true_eq]; rintro ((g | g) | g); exact q (.inl g); exact q (.inr (.inl g)); exact q (.inr (.inr g)))]
  have ea : (∀ i, i < n + 1 → mkOut (gX l i, gR l i) = false) → l.any mkOut = false := fun h => by
    cases q : l.any mkOut with
    | false => rfl
    | true =>
      obtain ⟨i, hi, hp⟩ := anyq_at.1 q
      have := h i (by omega)
      unfold gX gR at this
      rw [show l.getD i (0, 0) = ((l.getD i (0, 0)).1, (l.getD i (0, 0)).2) from rfl, this] at hp
      cases hp
  have el : l.length - 1 = n := by omega
  rw [hn]
  refine rtbChk_core b off n cap tol l (tbE l tol) w (by omega) (by omega) hb (Lib.hid hn) (Lib.hid ?_) (Lib.hid ?_) (Lib.hid ?_) (Lib.hid ?_) (Lib.hid fun j hj => hc j (by omega))
  · rintro ⟨i, hi, hp⟩
    rw [e0, if_pos (.inr (.inr (anyq_at.2 ⟨i, by omega, hp⟩)))]
  · intro h ht
    rw [e0, if_pos (by rcases ht with ht | ht; exact .inl ht; exact .inr (.inl ht))]
  · rintro h ht ⟨i, hi, hp⟩
    rw [e0, if_neg (by rw [ea h]; simp; omega), if_pos]
    cases q : risB l (l.length - 1) with
    | false => rfl
    | true => exact absurd ((risB_iff l _).1 q i (by omega)) hp
  · intro h ht hr
    rw [e0, if_neg (by rw [ea h]; simp; omega), if_neg]
    rw [Bool.not_eq_false]
    exact (risB_iff l _).2 fun i hi => hr i (by omega)
end Go.Proofs.YtdpkochkpcjioabDoor

namespace Go.Proofs.YtdpkochkpcjioabDoor
open Go.RowKit

end Go.Proofs.YtdpkochkpcjioabDoor

namespace Go.Proofs.YtdpkochkpcjioabDoor
open Go.RowKit

/-- what stands in the reference's Wet -/
def WuI (w : World) (a : Option Addr) (n cap : Nat) (tol : Int) (W : World) : Prop := Below w.heap.size w W ∧ Two w.heap.size W (.slice a n cap) (.int .i64 tol) ∧ Two (w.heap.size + 1) W (.int .i64 0) (.int .i64 0)
theorem WuI.below {w : World} {a : Option Addr} {n cap : Nat} {tol : Int} {W W' : World} (h : WuI w a n cap tol W) (hb : Below W.heap.size W W') : WuI w a n cap tol W' := ⟨bel_trans h.1 hb, h.2.1.below hb, h.2.2.below hb⟩
theorem WuI.init (w : World) (a : Option Addr) (n cap : Nat) (tol : Int) : WuI w a n cap tol ((w.alloc (.cells #[.slice a n cap, .int .i64 tol] 24)).alloc (.cells #[.int .i64 0, .int .i64 0] 30)) := by
  have h3 := Two.new (w.alloc (.cells #[.slice a n cap, .int .i64 tol] 24)) (.int .i64 0) (.int .i64 0) 30
  rw [World.size_alloc] at h3
  exact ⟨bel_alloc (bel_alloc (Below.refl _ _)), (Two.new w _ _ _).alloc _, h3⟩
theorem WuI.put {w : World} {a : Option Addr} {n cap : Nat} {tol : Int} {W : World} (h : WuI w a n cap tol W) (p q : Value) :
    Two (w.heap.size + 1) ((W.setCell ⟨w.heap.size + 1, 0, none⟩ p).setCell ⟨w.heap.size + 1, 1, none⟩ q) p q ∧ Below w.heap.size w ((W.setCell ⟨w.heap.size + 1, 0, none⟩ p).setCell ⟨w.heap.size + 1, 1, none⟩ q) :=
  ⟨(h.2.2.set0 p).set1 q, (h.1.setCell (p := ⟨w.heap.size + 1, 0, none⟩) (Nat.le_succ _) _).setCell (p := ⟨w.heap.size + 1, 1, none⟩) (Nat.le_succ _) _⟩
set_option maxHeartbeats 8000000 in
theorem rWet_bad (a : Option Addr) (n cap : Nat) (tol x E : Int) (w : World) (e2 : (E != 0) = true)
    (H1 : Hid (∀ W, Below w.heap.size w W → Calls Tryd.prog 46 #[.agg #[.slice a n cap, .int .i64 tol]] W fun e w' => e = .returned (.int .i64 E) ∧ Below W.heap.size W w')) :
    Calls Tryd.prog 14 #[.agg #[.slice a n cap, .int .i64 tol], .int .i64 x] w fun e w' => e = .returned (.tuple #[.agg #[.int .i64 0, .int .i64 0], .int .i64 1]) ∧ Below w.heap.size w w' := by
  have S0 := Lib.hid (WuI.init w a n cap tol)
  obtain ⟨_, ⟨t0, t1, _, _, _⟩, _⟩ := S0.out
  go_enter Tryd.func14, Tryd.ntmps14
  go_wp2_with fail
  refine (H1.out _ S0.out.1).mono ?_
  rintro e w1 ⟨rfl, gg⟩
  replace S0 := Lib.hid (S0.out.below gg); clear gg t0 t1
  obtain ⟨_, _, z0, z1, f0, f1, _⟩ := S0.out
  go_wp2
  obtain ⟨⟨p0, p1, _, _, _⟩, BB⟩ := S0.out.put (.int .i64 0) (.int .i64 0)
  refine bodyPost_ret (v := .tuple #[.agg #[.int .i64 0, .int .i64 0], .int .i64 1]) (by simp [results, Tryd.results14, go_sem, p0, p1]) rfl ?_
  exact ⟨rfl, BB⟩
set_option maxHeartbeats 16000000 in
set_option maxRecDepth 100000 in
theorem rWet_core (b off m cap k : Nat) (tol x X0 X1 H V A Q L R E : Int) (l : List (Int × Int)) (w : World) (m1 : m ≤ 1000) (hb : b < w.heap.size) (hk : k < m + 1)
    (hc : Hid (∀ j, j < m + 1 → w.cell? ⟨b, off + j * 2, none⟩ = some (.int .i64 (gX l j)) ∧ w.cell? ⟨b, off + j * 2 + 1, none⟩ = some (.int .i64 (gR l j))))
    (hx : Hid (gX l 0 = X0 ∧ gX l m = X1)) (hk1 : Hid (gX l k = H ∧ gR l k = V)) (hk2 : Hid (k ≠ 0 → gX l (k - 1) = A ∧ gR l (k - 1) = Q)) (bt : 0 ≤ tol ∧ tol ≤ 4294967296) (bV : 0 ≤ V ∧ V ≤ 4294967296)
    (hlo : Hid (¬ x < X0 → ¬ X1 < x → (∀ j, j < k → gX l j < x) ∧ x ≤ H))
    (hE : (x < X0 ∧ L = 0 ∧ R = 0 ∧ E = 2) ∨ (¬ x < X0 ∧ X1 < x ∧ L = 0 ∧ R = 0 ∧ E = 2) ∨ (¬ x < X0 ∧ ¬ X1 < x ∧ R = V + tol ∧ E = 0 ∧ ((H ≤ x ∧ L = V) ∨ (x < H ∧ k ≠ 0 ∧ L = Q))))
    (H1 : Hid (∀ W, Below w.heap.size w W → Calls Tryd.prog 46 #[.agg #[.slice (some ⟨b, off, none⟩) (m + 1) cap, .int .i64 tol]] W fun e w' => e = .returned (.int .i64 0) ∧ Below W.heap.size W w')) :
    Calls Tryd.prog 14 #[.agg #[.slice (some ⟨b, off, none⟩) (m + 1) cap, .int .i64 tol], .int .i64 x] w fun e w' => e = .returned (.tuple #[.agg #[.int .i64 L, .int .i64 R], .int .i64 E]) ∧ Below w.heap.size w w' := by
  have S0 := Lib.hid (WuI.init w (some ⟨b, off, none⟩) (m + 1) cap tol)
  have CC : Hid (∀ W, Below w.heap.size w W → ∀ j, j < m + 1 → W.cell? ⟨b, off + j * 2, none⟩ = some (.int .i64 (gX l j)) ∧ W.cell? ⟨b, off + j * 2 + 1, none⟩ = some (.int .i64 (gR l j))) := Lib.hid fun W hW j hj => ⟨cell_bel (hc.out j hj).1 hW, cell_bel (hc.out j hj).2 hW⟩
  have wk : IntKind.i64.wrap (((m + 1 : Nat) : Int) - 1) = (m : Int) := by rw [wrap_in _ ⟨by omega, by omega⟩]; omega
  have wk1 : IntKind.i64.wrap ((m : Int) + 1 - 1) = (m : Int) := by rw [wrap_in _ ⟨by omega, by omega⟩]; omega
  have wk1' : IntKind.i64.wrap (m : Int) = (m : Int) := wrap_in _ ⟨by omega, by omega⟩
  have wk2 : (m : Int) < ((m + 1 : Nat) : Int) := by omega
  have wk3 : (m : Int) < (m : Int) + 1 := by omega
  have wk4 : (0 : Int) < (m : Int) + 1 := by omega
  have wk5 : (0 : Int) < ((m + 1 : Nat) : Int) := by omega
  clear hc
  obtain ⟨_, ⟨t0, t1, _, _, _⟩, _⟩ := S0.out
  go_enter Tryd.func14, Tryd.ntmps14
  go_wp2_with fail
  refine (H1.out _ S0.out.1).mono ?_
  rintro e w1 ⟨rfl, gg⟩
  replace S0 := Lib.hid (S0.out.below gg); clear gg t0 t1
  obtain ⟨_, ⟨t0, t1, _, _, _⟩, z0, z1, f0, f1, _⟩ := S0.out
  have d0 := (CC.out _ S0.out.1 0 (by omega)).1
  have d1 := (CC.out _ S0.out.1 m (by omega)).1
  rw [hx.out.1, show off + 0 * 2 = off by omega] at d0
  rw [hx.out.2] at d1
  rcases hE with ⟨h, rfl, rfl, rfl⟩ | ⟨h, h2, rfl, rfl, rfl⟩ | ⟨h, h2, rfl, rfl, hL⟩
  · have e1 : decide (x < X0) = true := decide_eq_true h
    go_wp2
    obtain ⟨⟨p0, p1, _, _, _⟩, BB⟩ := S0.out.put (.int .i64 0) (.int .i64 0)
    refine bodyPost_ret (v := .tuple #[.agg #[.int .i64 0, .int .i64 0], .int .i64 2]) (by simp [results, Tryd.results14, go_sem, p0, p1]) rfl ?_
    exact ⟨rfl, BB⟩
  · have e1 : decide (x < X0) = false := decide_eq_false (by omega)
    have e2 : decide (X1 < x) = true := decide_eq_true h2
    go_wp2
    obtain ⟨⟨p0, p1, _, _, _⟩, BB⟩ := S0.out.put (.int .i64 0) (.int .i64 0)
    refine bodyPost_ret (v := .tuple #[.agg #[.int .i64 0, .int .i64 0], .int .i64 2]) (by simp [results, Tryd.results14, go_sem, p0, p1]) rfl ?_
    exact ⟨rfl, BB⟩
  · have e1 : decide (x < X0) = false := decide_eq_false (by omega)
    have e2 : decide (X1 < x) = false := decide_eq_false (by omega)
    obtain ⟨lo, hi⟩ := hlo.out h h2
    replace lo := Lib.hid lo
    go_wp2_with fail
    clear t0 t1 z0 z1 f0 f1 d0 d1
    go_loopw [6] (fun ii wr => ∃ c : Nat, c ≤ k ∧ ii = .int .i64 (c : Int) ∧ Hid (WuI w (some ⟨b, off, none⟩) (m + 1) cap tol wr)) (fun ii _ => k - (intOf ii).toNat)
    case atStart => exact ⟨0, Nat.zero_le _, rfl, S0⟩
    case round =>
      clear S0
      obtain ⟨c, hck, rfl, S0⟩ := hrel
      obtain ⟨_, ⟨t0, t1, _, _, _⟩, z0, z1, f0, f1, _⟩ := S0.out
      have lc : (c : Int) < (m : Int) + 1 := by omega
      have lc0 : (0 : Int) ≤ (c : Int) := by omega
      have lc1 : c < m + 1 := by omega
      obtain ⟨d0, d1⟩ := CC.out _ S0.out.1 c (by omega)
      by_cases hq : c = k
      · subst hq
        rw [hk1.out.1] at d0
        rw [hk1.out.2] at d1
        have dl : decide (H < x) = false := decide_eq_false (by omega)
        have wV : IntKind.i64.wrap (V + tol) = V + tol := wrap_in _ ⟨by omega, by omega⟩
        have q1 : w.heap.size ≠ wr.heap.size := by have := S0.out.2.1.2.2.2.2; omega
        have q2 : wr.heap.size ≠ w.heap.size := by have := S0.out.2.1.2.2.2.2; omega
        have q3 : w.heap.size + 1 ≠ wr.heap.size := by have := S0.out.2.2.2.2.2.2; omega
        have q4 : wr.heap.size ≠ w.heap.size + 1 := by have := S0.out.2.2.2.2.2.2; omega
        have a0 : ∀ o, (wr.alloc o).cell? ⟨b, off + c * 2, none⟩ = some (.int .i64 H) := fun o => cell_bel d0 (bel_alloc (Below.refl _ _))
        have a1 : ∀ o, (wr.alloc o).cell? ⟨b, off + c * 2 + 1, none⟩ = some (.int .i64 V) := fun o => cell_bel d1 (bel_alloc (Below.refl _ _))
        have a4 : ∀ o, (wr.alloc o).cell? ⟨w.heap.size, 0, none⟩ = some (.slice (some ⟨b, off, none⟩) (m + 1) cap) := fun o => cell_bel t0 (bel_alloc (Below.refl _ _))
        have a5 : ∀ o, (wr.alloc o).cell? ⟨w.heap.size, 1, none⟩ = some (.int .i64 tol) := fun o => cell_bel t1 (bel_alloc (Below.refl _ _))
        rcases hL with ⟨g, rfl⟩ | ⟨g, k0, rfl⟩
        · have dg : decide (x < H) = false := decide_eq_false (by omega)
          go_wp2_with fail
          go_region
          all_goals go_wp2
          all_goals
            obtain ⟨TT, BB⟩ := S0.out.put (.int .i64 L) (.int .i64 (L + tol))
            obtain ⟨p0, p1, _, _, _⟩ := (TT.alloc (.cells #[.int .i64 L, .int .i64 (L + tol)] 30)).below (bel_drew _)
            replace BB := bel_trans BB (bel_trans (bel_alloc (o := .cells #[.int .i64 L, .int .i64 (L + tol)] 30) (Below.refl _ _)) (bel_drew _))
            refine bodyPost_ret (v := .tuple #[.agg #[.int .i64 L, .int .i64 (L + tol)], .int .i64 0]) (by simp [results, Tryd.results14, go_sem, p0, p1]) rfl ?_
            exact ⟨rfl, BB⟩
        · obtain ⟨j, rfl⟩ : ∃ j, c = j + 1 := ⟨c - 1, by omega⟩
          have dg : decide (x < H) = true := decide_eq_true g
          have hj := hk2.out (by omega)
          rw [Nat.add_sub_cancel] at hj
          obtain ⟨d2, d3⟩ := CC.out _ S0.out.1 j (by omega)
          rw [hj.1] at d2
          rw [hj.2] at d3
          have a2 : ∀ o, (wr.alloc o).cell? ⟨b, off + j * 2, none⟩ = some (.int .i64 A) := fun o => cell_bel d2 (bel_alloc (Below.refl _ _))
          have a3 : ∀ o, (wr.alloc o).cell? ⟨b, off + j * 2 + 1, none⟩ = some (.int .i64 L) := fun o => cell_bel d3 (bel_alloc (Below.refl _ _))
          have wj : IntKind.i64.wrap ((j : Int) + 1 - 1) = (j : Int) := by rw [wrap_in _ ⟨by omega, by omega⟩]; omega
          have wj2 : IntKind.i64.wrap (j : Int) = (j : Int) := wrap_in _ ⟨by omega, by omega⟩
          have l2 : (j : Int) < (m : Int) + 1 := by omega
          have l4 : 0 ≤ (j : Int) + 1 := by omega
          have l5 : ((j : Int) + 1).toNat = j + 1 := by omega
          have l6 : (j : Int) + 1 < (m : Int) + 1 := by omega
          clear hj
          go_wp2_with fail
          go_region
          all_goals go_wp2
          all_goals
            obtain ⟨TT, BB⟩ := S0.out.put (.int .i64 L) (.int .i64 (V + tol))
            obtain ⟨p0, p1, _, _, _⟩ := (TT.alloc (.cells #[.int .i64 L, .int .i64 (V + tol)] 30)).below (bel_drew _)
            replace BB := bel_trans BB (bel_trans (bel_alloc (o := .cells #[.int .i64 L, .int .i64 (V + tol)] 30) (Below.refl _ _)) (bel_drew _))
            refine bodyPost_ret (v := .tuple #[.agg #[.int .i64 L, .int .i64 (V + tol)], .int .i64 0]) (by simp [results, Tryd.results14, go_sem, p0, p1]) rfl ?_
            exact ⟨rfl, BB⟩
      · have h4 := lo.out c (by omega)
        have dl : decide (gX l c < x) = true := decide_eq_true h4
        have wc : IntKind.i64.wrap ((c : Int) + 1) = (c : Int) + 1 := wrap_in _ ⟨by omega, by omega⟩
        go_wp2
        go_roundw
        case rel => exact ⟨c + 1, by omega, by go_num, S0⟩
        case measure => simp [intOf]; omega
theorem rWet_any (v : Value) (l : List (Int × Int)) (tol x : Int) (w : World) (hv : TbV w v l tol) :
    Calls Tryd.prog 14 #[v, .int .i64 x] w fun e w' => e = .returned (.tuple #[.agg #[.int .i64 (wtL l tol x), .int .i64 (wtH l tol x)], .int .i64 (rdE l tol x)]) ∧ Below w.heap.size w w' := by
  have H1 : Hid (∀ W, Below w.heap.size w W → _) := Lib.hid fun W hW => rtbChk_any v l tol W (hv.below hW)
  obtain ⟨a, cap, rfl, hp⟩ := hv
  by_cases h : tbE l tol = 0
  · rw [h] at H1
    obtain ⟨hR, ht⟩ := tbE_iff.1 h
    have n0 := hR.n0
    have n1 := hR.n1
    have eE : rdE l tol x = if x < gX l 0 ∨ gX l (l.length - 1) < x then 2 else 0 := by unfold rdE; rw [if_neg (by omega)]
    obtain ⟨b, off, rfl, hb, hc⟩ := hp.at (by omega)
    obtain ⟨m, hm⟩ : ∃ m, l.length = m + 1 := ⟨l.length - 1, by omega⟩
    have el : l.length - 1 = m := by omega
    rw [el] at eE
    have hf := fun g : x ≤ gX l m => hR.find (x := x) (by rw [el]; exact g)
    rw [hm] at H1 ⊢
    by_cases g : x < gX l 0 ∨ gX l m < x
    · rw [if_pos g] at eE
      have eL : wtL l tol x = 0 := by unfold wtL; rw [eE]; rfl
      have eH : wtH l tol x = 0 := by unfold wtH; rw [eE]; rfl
      rw [eE, eH, eL]
      have bk := hR.bv 0 (by omega)
      refine rWet_core b off m cap 0 tol x (gX l 0) (gX l m) (gX l 0) (gR l 0) (gX l 0) (gR l 0) 0 0 2 l w (by omega) hb (by omega) (Lib.hid fun j hj => hc j (by omega)) (Lib.hid ⟨rfl, rfl⟩) (Lib.hid ⟨rfl, rfl⟩) (Lib.hid fun h => absurd rfl h) ht bk (Lib.hid fun g1 g2 => by omega) ?_ H1
      by_cases g1 : x < gX l 0
      · exact .inl ⟨g1, rfl, rfl, rfl⟩
      · exact .inr (.inl ⟨g1, by omega, rfl, rfl, rfl⟩)
    · rw [if_neg g] at eE
      have f := hf (by omega)
      have hle : wtK l x < m + 1 := by unfold wtK; have := f.1; omega
      have bk := hR.bv (wtK l x) (by omega)
      have eL : wtL l tol x = if gX l (wtK l x) ≤ x then gR l (wtK l x) else gR l (wtK l x - 1) := by unfold wtL; rw [if_pos eE]
      have eH : wtH l tol x = gR l (wtK l x) + tol := by unfold wtH; rw [if_pos eE]
      rw [eE, eH, eL]
      refine rWet_core b off m cap (wtK l x) tol x (gX l 0) (gX l m) (gX l (wtK l x)) (gR l (wtK l x)) (gX l (wtK l x - 1)) (gR l (wtK l x - 1)) _ _ 0 l w (by omega) hb hle (Lib.hid fun j hj => hc j (by omega)) (Lib.hid ⟨rfl, rfl⟩) (Lib.hid ⟨rfl, rfl⟩) (Lib.hid fun _ => ⟨rfl, rfl⟩) ht bk (Lib.hid fun _ _ => ?_) (.inr (.inr ⟨by omega, by omega, rfl, rfl, ?_⟩)) H1
      · exact ⟨f.2.2, f.2.1⟩
      · by_cases q : gX l (wtK l x) ≤ x
        · left; exact ⟨q, if_pos q⟩
        · right
          refine ⟨by omega, fun e => ?_, if_neg q⟩
          rw [e] at q
          omega
  · have e : rdE l tol x = 1 := by unfold rdE; rw [if_pos (by omega)]
    have eL : wtL l tol x = 0 := by unfold wtL; rw [e]; rfl
    have eH : wtH l tol x = 0 := by unfold wtH; rw [e]; rfl
    rw [e, eL, eH]
    exact rWet_bad a _ cap tol x (tbE l tol) w (by simpa using h) H1
end Go.Proofs.YtdpkochkpcjioabDoor

namespace Go.Proofs.YtdpkochkpcjioabDoor
open Go.RowKit

set_option maxHeartbeats 32000000 in
set_option maxRecDepth 100000 in
theorem rRep_core (a : Option Addr) (n cap : Nat) (tol d p h s rise E0 WL WH E1 G F BL BH E3 E R0 R1 R2 R3 R4 R5 R6 R7 : Int) (B : Bool) (w : World)
    (hR0 : Hid (E ≠ 0 → R0 = 0 ∧ R1 = 0 ∧ R2 = 0 ∧ R3 = 0 ∧ R4 = 0 ∧ R5 = 0 ∧ R6 = 0 ∧ R7 = 0)) (hR1 : Hid (E = 0 → R0 = d ∧ R1 = p ∧ R2 = h ∧ R3 = s ∧ R4 = BL ∧ R5 = BH ∧ R6 = BL * s ∧ R7 = BH * s))
    (hE : ((E0 != 0) = true ∧ E = 1) ∨ (E0 = 0 ∧ ((B = false ∧ E = 2) ∨ (B = true ∧ (F != 0) = true ∧ E = 2) ∨ (B = true ∧ F = 0 ∧ (E1 != 0) = true ∧ E = 2) ∨ (B = true ∧ F = 0 ∧ E1 = 0 ∧ E = 0 ∧ (-9223372036854775808 ≤ BL * s ∧ BL * s ≤ 9223372036854775807) ∧ -9223372036854775808 ≤ BH * s ∧ BH * s ≤ 9223372036854775807))))
    (H1 : Hid (∀ W, Below w.heap.size w W → Calls Tryd.prog 46 #[.agg #[.slice a n cap, .int .i64 tol]] W fun e w' => e = .returned (.int .i64 E0) ∧ Below W.heap.size W w'))
    (H2 : Hid (∀ W, Below w.heap.size w W → Calls Tryd.prog 14 #[.agg #[.slice a n cap, .int .i64 tol], .int .i64 p] W fun e w' => e = .returned (.tuple #[.agg #[.int .i64 WL, .int .i64 WH], .int .i64 E1]) ∧ Below W.heap.size W w'))
    (H3 : Hid (∀ W, Calls Tryd.prog 49 #[.int .i64 rise, .int .i64 h] W fun e w' => e = .returned (.tuple #[.int .i64 G, .int .i64 F]) ∧ W = w'))
    (HI : Hid (∀ W, Calls Tryd.prog 50 #[.agg #[.int .i64 d, .int .i64 p, .int .i64 h, .int .i64 s]] W fun e w' => e = .returned (.bool B) ∧ Below W.heap.size W w'))
    (H4 : Hid (∀ W, Calls Tryd.prog 51 #[.agg #[.int .i64 WL, .int .i64 WH], .agg #[.int .i64 h, .int .i64 h], .int .i64 rise] W fun e w' => e = .returned (.tuple #[.agg #[.int .i64 BL, .int .i64 BH], .int .i64 E3]) ∧ Below W.heap.size W w')) :
    Calls Tryd.prog 16 #[.agg #[.slice a n cap, .int .i64 tol], .agg #[.int .i64 d, .int .i64 p, .int .i64 h, .int .i64 s], .int .i64 rise] w fun e w' => e = .returned (.tuple #[.agg #[.int .i64 R0, .int .i64 R1, .int .i64 R2, .int .i64 R3, .int .i64 R4, .int .i64 R5, .int .i64 R6, .int .i64 R7], .int .i64 E]) ∧ Below w.heap.size w w' := by
  have S0 := Lib.hid (ReI.init w a n cap tol d p h s)
  obtain ⟨_, ⟨t0, t1, _, _, _⟩, ⟨q0, q1, q2, q3, _, _⟩, _⟩ := S0.out
  go_enter Tryd.func16, Tryd.ntmps16
  go_wp2_with fail
  have hz1 : w.heap.size ≤ w.heap.size + 1 + 1 := by omega
  have hz2 : w.heap.size + 1 < w.heap.size + 1 + 1 := by omega
  generalize w.heap.size + 1 + 1 = z at *
  replace hz1 := Lib.hid hz1
  replace hz2 := Lib.hid hz2
  refine (H1.out _ S0.out.1).mono ?_
  rintro e w1 ⟨rfl, gg⟩
  replace S0 := Lib.hid (S0.out.below gg); clear gg t0 t1 q0 q1 q2 q3
  rcases hE with ⟨q, rfl⟩ | ⟨rfl, hE⟩
  · obtain ⟨rfl, rfl, rfl, rfl, rfl, rfl, rfl, rfl⟩ := hR0.out (by simp)
    clear hR0 hR1
    obtain ⟨_, _, _, z0, z1, z2, z3, z4, z5, z6, z7, _, _⟩ := S0.out
    obtain ⟨f0, f1, f2, f3, f4, f5, f6, f7⟩ := S0.out.2.2.2.fr
    have P := Lib.hid (S0.out.2.2.2.put (.int .i64 0) (.int .i64 0) (.int .i64 0) (.int .i64 0) (.int .i64 0) (.int .i64 0) (.int .i64 0) (.int .i64 0))
    have BB := Lib.hid (Eig.putB S0.out.1 hz1.out (.int .i64 0) (.int .i64 0) (.int .i64 0) (.int .i64 0) (.int .i64 0) (.int .i64 0) (.int .i64 0) (.int .i64 0))
    go_wp2
    obtain ⟨p0, p1, p2, p3, p4, p5, p6, p7, _, _⟩ := P.out
    have BB2 := BB.out
    refine bodyPost_ret (v := .tuple #[.agg #[.int .i64 0, .int .i64 0, .int .i64 0, .int .i64 0, .int .i64 0, .int .i64 0, .int .i64 0, .int .i64 0], .int .i64 1]) (by simp [results, Tryd.results16, go_sem, p0, p1, p2, p3, p4, p5, p6, p7]) rfl ?_
    exact ⟨rfl, BB2⟩
  · obtain ⟨_, ⟨t0, t1, _, _, _⟩, ⟨q0, q1, q2, q3, _, _⟩, _⟩ := S0.out
    go_wp2_with fail
    refine (H2.out _ S0.out.1).mono ?_
    rintro e w2 ⟨rfl, gg⟩
    replace S0 := Lib.hid (S0.out.below gg); clear gg t0 t1 q0 q1 q2 q3
    have T1 := Lib.hid (Two.new w2 (.int .i64 WL) (.int .i64 WH) 30)
    have SZ := S0.out.2.2.2.2.2.2.2.2.2.2.2.2
    have m1 : z ≠ w2.heap.size := by omega
    have m2 : w2.heap.size ≠ z := by omega
    have zz := hz2.out
    have m3 : w.heap.size + 1 ≠ w2.heap.size := by omega
    have m4 : w2.heap.size ≠ w.heap.size + 1 := by omega
    clear zz SZ
    have S1 := Lib.hid (S0.out.below (bel_alloc (o := .cells #[.int .i64 WL, .int .i64 WH] 30) (Below.refl _ _)))
    obtain ⟨_, _, ⟨q0, q1, q2, q3, _, _⟩, _⟩ := S1.out
    go_wp2_with fail
    refine (H3.out _).mono ?_
    rintro e w3 ⟨rfl, rfl⟩
    go_wp2_with fail
    refine (HI.out _).mono ?_
    rintro e w4 ⟨rfl, gg⟩
    replace S1 := Lib.hid (S1.out.below gg)
    replace T1 := Lib.hid (T1.out.below gg); clear gg q0 q1 q2 q3 S0
    generalize hq1 : w2.heap.size = u1 at *
    replace hq1 := Lib.hid hq1
    have bad : E = 2 → Hid (R0 = 0 ∧ R1 = 0 ∧ R2 = 0 ∧ R3 = 0 ∧ R4 = 0 ∧ R5 = 0 ∧ R6 = 0 ∧ R7 = 0) := fun e => Lib.hid (hR0.out (by omega))
    rcases hE with ⟨rfl, rfl⟩ | ⟨rfl, q, rfl⟩ | ⟨rfl, rfl, q, rfl⟩ | ⟨rfl, rfl, rfl, rfl, hb1, hb2⟩
    · obtain ⟨rfl, rfl, rfl, rfl, rfl, rfl, rfl, rfl⟩ := (bad rfl).out
      clear hR0 hR1 bad
      obtain ⟨_, _, _, z0, z1, z2, z3, z4, z5, z6, z7, _, _⟩ := S1.out
      obtain ⟨f0, f1, f2, f3, f4, f5, f6, f7⟩ := S1.out.2.2.2.fr
      have P := Lib.hid (S1.out.2.2.2.put (.int .i64 0) (.int .i64 0) (.int .i64 0) (.int .i64 0) (.int .i64 0) (.int .i64 0) (.int .i64 0) (.int .i64 0))
      have BB := Lib.hid (Eig.putB S1.out.1 hz1.out (.int .i64 0) (.int .i64 0) (.int .i64 0) (.int .i64 0) (.int .i64 0) (.int .i64 0) (.int .i64 0) (.int .i64 0))
      go_wp2
      obtain ⟨p0, p1, p2, p3, p4, p5, p6, p7, _, _⟩ := P.out
      have BB2 := BB.out
      refine bodyPost_ret (v := .tuple #[.agg #[.int .i64 0, .int .i64 0, .int .i64 0, .int .i64 0, .int .i64 0, .int .i64 0, .int .i64 0, .int .i64 0], .int .i64 2]) (by simp [results, Tryd.results16, go_sem, p0, p1, p2, p3, p4, p5, p6, p7]) rfl ?_
      exact ⟨rfl, BB2⟩
    · obtain ⟨rfl, rfl, rfl, rfl, rfl, rfl, rfl, rfl⟩ := (bad rfl).out
      clear hR0 hR1 bad
      obtain ⟨_, _, _, z0, z1, z2, z3, z4, z5, z6, z7, _, _⟩ := S1.out
      obtain ⟨f0, f1, f2, f3, f4, f5, f6, f7⟩ := S1.out.2.2.2.fr
      have P := Lib.hid (S1.out.2.2.2.put (.int .i64 0) (.int .i64 0) (.int .i64 0) (.int .i64 0) (.int .i64 0) (.int .i64 0) (.int .i64 0) (.int .i64 0))
      have BB := Lib.hid (Eig.putB S1.out.1 hz1.out (.int .i64 0) (.int .i64 0) (.int .i64 0) (.int .i64 0) (.int .i64 0) (.int .i64 0) (.int .i64 0) (.int .i64 0))
      go_wp2
      obtain ⟨p0, p1, p2, p3, p4, p5, p6, p7, _, _⟩ := P.out
      have BB2 := BB.out
      refine bodyPost_ret (v := .tuple #[.agg #[.int .i64 0, .int .i64 0, .int .i64 0, .int .i64 0, .int .i64 0, .int .i64 0, .int .i64 0, .int .i64 0], .int .i64 2]) (by simp [results, Tryd.results16, go_sem, p0, p1, p2, p3, p4, p5, p6, p7]) rfl ?_
      exact ⟨rfl, BB2⟩
    · obtain ⟨rfl, rfl, rfl, rfl, rfl, rfl, rfl, rfl⟩ := (bad rfl).out
      clear hR0 hR1 bad
      obtain ⟨_, _, _, z0, z1, z2, z3, z4, z5, z6, z7, _, _⟩ := S1.out
      obtain ⟨f0, f1, f2, f3, f4, f5, f6, f7⟩ := S1.out.2.2.2.fr
      have P := Lib.hid (S1.out.2.2.2.put (.int .i64 0) (.int .i64 0) (.int .i64 0) (.int .i64 0) (.int .i64 0) (.int .i64 0) (.int .i64 0) (.int .i64 0))
      have BB := Lib.hid (Eig.putB S1.out.1 hz1.out (.int .i64 0) (.int .i64 0) (.int .i64 0) (.int .i64 0) (.int .i64 0) (.int .i64 0) (.int .i64 0) (.int .i64 0))
      go_wp2
      obtain ⟨p0, p1, p2, p3, p4, p5, p6, p7, _, _⟩ := P.out
      have BB2 := BB.out
      refine bodyPost_ret (v := .tuple #[.agg #[.int .i64 0, .int .i64 0, .int .i64 0, .int .i64 0, .int .i64 0, .int .i64 0, .int .i64 0, .int .i64 0], .int .i64 2]) (by simp [results, Tryd.results16, go_sem, p0, p1, p2, p3, p4, p5, p6, p7]) rfl ?_
      exact ⟨rfl, BB2⟩
    · clear bad
      obtain ⟨_, _, ⟨q0, q1, q2, q3, _, _⟩, _⟩ := S1.out
      obtain ⟨t0, t1, _, _, _⟩ := T1.out
      have X := Lib.hid S1.out.1
      go_wp2_with fail
      refine (H4.out _).mono ?_
      rintro e w5 ⟨rfl, gg⟩
      replace S1 := Lib.hid (S1.out.below gg); clear gg q0 q1 q2 q3 t0 t1 T1
      have SZ := S1.out.2.2.2.2.2.2.2.2.2.2.2.2
      have zz := hz2.out
      have k1 : z ≠ w5.heap.size := by omega
      have k2 : w5.heap.size ≠ z := by omega
      have k3 : w.heap.size + 1 ≠ w5.heap.size := by omega
      have k4 : w5.heap.size ≠ w.heap.size + 1 := by omega
      clear SZ zz
      have HT := Lib.hid (fun W => rTimes_any BL BH s W hb1 hb2)
      have S2 := Lib.hid ((S1.out.below (bel_alloc (o := .cells #[.int .i64 BL, .int .i64 BH] 30) (Below.refl _ _))).below (bel_drew _))
      have T3 := Lib.hid ((Two.new w5 (.int .i64 BL) (.int .i64 BH) 30).below (bel_drew _))
      obtain ⟨_, _, ⟨q0, q1, q2, q3, _, _⟩, _⟩ := S1.out.below (bel_alloc (o := .cells #[.int .i64 BL, .int .i64 BH] 30) (Below.refl _ _))
      obtain ⟨t0, t1, _, _, _⟩ := Two.new w5 (.int .i64 BL) (.int .i64 BH) 30
      have hR := Lib.hid (hR1.out (by first | rfl | trivial))
      have zz := hz2.out
      have y1 : w.heap.size + 1 ≠ z := by omega
      have y2 : z ≠ w.heap.size + 1 := by omega
      clear zz
      clear hb1 hb2 hR0 hR1
      go_upto_region 8 with fail
      go_region_held3 (fun w' => w'.cell? ⟨w.heap.size + 1, 0, none⟩ = some (.int .i64 d) ∧ w'.cell? ⟨w.heap.size + 1, 1, none⟩ = some (.int .i64 p) ∧ w'.cell? ⟨w.heap.size + 1, 2, none⟩ = some (.int .i64 h) ∧ w'.cell? ⟨w.heap.size + 1, 3, none⟩ = some (.int .i64 s) ∧ w'.cell? ⟨w5.heap.size, 0, none⟩ = some (.int .i64 BL) ∧ w'.cell? ⟨w5.heap.size, 1, none⟩ = some (.int .i64 BH)) (go_keep) (first
        | (go_at_call 52; (refine (HT.out _).mono ?_); rintro e w6 ⟨rfl, gg⟩; replace S2 := Lib.hid (S2.out.below gg); replace T3 := Lib.hid (T3.out.below gg); obtain ⟨_, _, ⟨q0, q1, q2, q3, _, _⟩, z0, z1, z2, z3, z4, z5, z6, z7, _, _⟩ := S2.out; obtain ⟨f0, f1, f2, f3, f4, f5, f6, f7⟩ := S2.out.2.2.2.fr; obtain ⟨t0, t1, _, _, _⟩ := T3.out; clear gg))
      have P := Lib.hid (S2.out.2.2.2.put (.int .i64 d) (.int .i64 p) (.int .i64 h) (.int .i64 s) (.int .i64 BL) (.int .i64 BH) (.int .i64 (BL * s)) (.int .i64 (BH * s)))
      have BB := Lib.hid (Eig.putB S2.out.1 hz1.out (.int .i64 d) (.int .i64 p) (.int .i64 h) (.int .i64 s) (.int .i64 BL) (.int .i64 BH) (.int .i64 (BL * s)) (.int .i64 (BH * s)))
      go_wp2
      obtain ⟨p0, p1, p2, p3, p4, p5, p6, p7, _, _⟩ := P.out
      refine bodyPost_ret (v := .tuple #[.agg #[.int .i64 d, .int .i64 p, .int .i64 h, .int .i64 s, .int .i64 BL, .int .i64 BH, .int .i64 (BL * s), .int .i64 (BH * s)], .int .i64 0]) (by simp [results, Tryd.results16, go_sem, p0, p1, p2, p3, p4, p5, p6, p7]) rfl ?_
      obtain ⟨r0, r1, r2, r3, r4, r5, r6, r7⟩ := hR.out
      exact ⟨by rw [r0, r1, r2, r3, r4, r5, r6, r7], BB.out⟩
/-- the bounds of the wet volume are in order -/
theorem wt_bd {l : List (Int × Int)} {tol x : Int} (h : rdE l tol x = 0) : 0 ≤ wtL l tol x ∧ wtL l tol x ≤ wtH l tol x ∧ wtH l tol x ≤ 8589934592 := by
  obtain ⟨h0, h1, h2⟩ := rdE_zero.1 h
  obtain ⟨hR, ht⟩ := tbE_iff.1 h0
  obtain ⟨f1, f2, f3⟩ := hR.find h2
  have f1' : wtK l x < l.length := f1
  have f2' : x ≤ gX l (wtK l x) := f2
  have b := hR.bv (wtK l x) f1'
  unfold wtL wtH
  rw [if_pos h, if_pos h]
  split
  · omega
  · rename_i g
    have k0 : wtK l x ≠ 0 := fun e => by rw [e] at g; omega
    have c := hR.bv (wtK l x - 1) (by omega)
    have u := hR.up (wtK l x - 1) (by omega)
    rw [Nat.sub_add_cancel (by omega)] at u
    omega
theorem toE_small {v rise heat rule : Int} (hr : 1 ≤ rule ∧ rule ≤ 4) (hf : facB rise heat = true) (hv : 0 ≤ v ∧ v ≤ 8589934592) : toE v rise heat rule = 0 := by
  have hb := fac_bd _ _ hf
  obtain ⟨g1, _⟩ := to_is (rdy_of (v := v) hr hf ⟨hv.1, by omega⟩)
  rw [g1, if_pos (rq_between rule (v * 10000000) (fac rise heat) 0 128849018880000 hr (by omega) (by omega) (by omega)).2]
/-- what Between answers for the wet volume -/
theorem bt_wet {l : List (Int × Int)} {tol x h rise : Int} (hE : rdE l tol x = 0) : btE (wtL l tol x) (wtH l tol x) h h rise = faE rise h := by
  obtain ⟨b0, b1, b2⟩ := wt_bd hE
  unfold btE faE
  rw [if_neg (by omega)]
  cases hf : facB rise h with
  | true =>
    rw [if_neg (by rw [rdy_of (by omega) hf ⟨b0, by omega⟩, rdy_of (by omega) hf ⟨by omega, by omega⟩]; simp), if_neg (by rw [toE_small (by omega) hf ⟨b0, by omega⟩, toE_small (by omega) hf ⟨by omega, b2⟩]; simp), if_pos rfl]
  | false =>
    have e : rdyE (wtL l tol x) rise h 2 ≠ 0 := fun q => by have := (rdy_ok q).2.1; rw [hf] at this; cases this
    rw [if_pos (.inl e), if_neg (by simp)]
theorem rRep_any (v : Value) (t : List (Int × Int)) (tol d p h s rise : Int) (w : World) (hv : TbV w v t tol) :
    Calls Tryd.prog 16 #[v, .agg #[.int .i64 d, .int .i64 p, .int .i64 h, .int .i64 s], .int .i64 rise] w fun e w' => e = .returned (.tuple #[.agg #[.int .i64 (rpR t tol d p h s rise).dy, .int .i64 (rpR t tol d p h s rise).dp, .int .i64 (rpR t tol d p h s rise).ht, .int .i64 (rpR t tol d p h s rise).st, .int .i64 (rpR t tol d p h s rise).vl, .int .i64 (rpR t tol d p h s rise).vh, .int .i64 (rpR t tol d p h s rise).al, .int .i64 (rpR t tol d p h s rise).ah], .int .i64 (rpE t tol d p h s rise)]) ∧ Below w.heap.size w w' := by
  have H1 : Hid (∀ W, Below w.heap.size w W → _) := Lib.hid fun W hW => rtbChk_any v t tol W (hv.below hW)
  have H2 : Hid (∀ W, Below w.heap.size w W → _) := Lib.hid fun W hW => rWet_any v t tol p W (hv.below hW)
  obtain ⟨a, cap, rfl, hp⟩ := hv
  refine rRep_core a _ cap tol d p h s rise (tbE t tol) (wtL t tol p) (wtH t tol p) (rdE t tol p) (faQ rise h) (faE rise h) (btL (wtL t tol p) (wtH t tol p) h h rise) (btH (wtL t tol p) (wtH t tol p) h h rise) (btE (wtL t tol p) (wtH t tol p) h h rise) (rpE t tol d p h s rise) _ _ _ _ _ _ _ _ (rdgB d p h s) w (Lib.hid fun h0 => ?_) (Lib.hid fun h0 => ?_) ?_ H1 H2 (Lib.hid fun W => refFactor_any rise h W) (Lib.hid fun W => rIsRdg_any d p h s W) (Lib.hid fun W => refBetween_any _ _ h h rise W)
  · unfold rpR; rw [if_neg h0]; exact ⟨rfl, rfl, rfl, rfl, rfl, rfl, rfl, rfl⟩
  · unfold rpR; rw [if_pos h0]; exact ⟨rfl, rfl, rfl, rfl, rfl, rfl, rfl, rfl⟩
  · by_cases e0 : tbE t tol = 0
    · right
      refine ⟨e0, ?_⟩
      have er : rdE t tol p = 0 ∨ rdE t tol p = 2 := by
        unfold rdE; rw [if_neg (by omega)]; split
        · exact .inr rfl
        · exact .inl rfl
      cases hB : rdgB d p h s with
      | false =>
        left
        refine ⟨rfl, ?_⟩
        unfold rpE rdgE
        rw [hB]
        rcases er with e | e <;> rw [e] <;> simp
      | true =>
        have eG : rdgE d p h s = 0 := rdgE_zero.2 hB
        rcases er with e | e
        · have eE : rpE t tol d p h s rise = faE rise h := by unfold rpE; rw [if_neg (by omega), if_neg (by omega), bt_wet e]
          rw [eE]
          by_cases f : faE rise h = 0
          · right; right; right
            have e3 := bt_wet (h := h) (rise := rise) e
            rw [f] at e3
            obtain ⟨_, _, t1, t2, t3, t4⟩ := bt_zero e3
            obtain ⟨_, q1, q2, q3⟩ := to_zero t1
            obtain ⟨_, r1, r2, r3⟩ := to_zero t2
            have hs := (rdgB_iff.1 hB).2.2.2
            rw [t3, t4]
            have m1 := Int.mul_nonneg q3 hs.1
            have m2 := Int.mul_nonneg r3 hs.1
            have m3 := Int.mul_le_mul (show toQ (wtL t tol p) rise h 1 ≤ 128849018880000 by omega) hs.2 hs.1 (by omega)
            have m4 := Int.mul_le_mul (show toQ (wtH t tol p) rise h 2 ≤ 128849018880000 by omega) hs.2 hs.1 (by omega)
            exact ⟨rfl, f, e, f, ⟨by omega, by omega⟩, by omega, by omega⟩
          · right; left
            refine ⟨rfl, by simpa using f, ?_⟩
            unfold faE at f ⊢
            split
            · rename_i g; rw [if_pos g] at f; exact absurd rfl f
            · rfl
        · have eE : rpE t tol d p h s rise = 2 := by unfold rpE; rw [if_pos (by omega), e]
          rw [eE]
          by_cases f : faE rise h = 0
          · right; right; left
            exact ⟨rfl, f, by rw [e]; rfl, rfl⟩
          · right; left
            exact ⟨rfl, by simpa using f, rfl⟩
    · left
      have e : rdE t tol p = 1 := by unfold rdE; rw [if_pos e0]
      exact ⟨by simpa using e0, by unfold rpE; rw [if_pos (by omega), e]⟩
end Go.Proofs.YtdpkochkpcjioabDoor

namespace Go.Proofs.YtdpkochkpcjioabDoor
open Go.RowKit

def samR (a b c d x y z u : Int) : Bool := a == x && (b == y && (c == z && d == u))
theorem run_same_rdg (a b c d x y z u : Int) (w : World) (k : Nat) :
    (Op.equalIn (k + 2) 26 (.agg #[.int .i64 a, .int .i64 b, .int .i64 c, .int .i64 d]) (.agg #[.int .i64 x, .int .i64 y, .int .i64 z, .int .i64 u])).run Tryd.prog w = .ok (samR a b c d x y z u) w := by
  rw [run_equalIn_agg w (k + 1) 26 _ _ (by kernel_rfl) (by kernel_rfl)]
  have hf : (Tryd.prog.fieldsOf 26).toList.map (fun f => (f.name, f.type, f.offset)) = [("Day", 3, 0), ("Dip", 3, 1), ("Heat", 3, 2), ("Strength", 3, 3)] := by kernel_rfl
  generalize (Tryd.prog.fieldsOf 26).toList = fs at *
  obtain ⟨f, g, h, i, rfl⟩ : ∃ f g h i, fs = [f, g, h, i] := by
    have hl := congrArg List.length hf
    rw [List.length_map] at hl
    rcases fs with _ | ⟨f, _ | ⟨g, _ | ⟨h, _ | ⟨i, _ | ⟨j, fs⟩⟩⟩⟩⟩ <;> simp at hl
    exact ⟨f, g, h, i, rfl⟩
  simp only [List.map_cons, List.map_nil, List.cons.injEq, Prod.mk.injEq, and_true] at hf
  obtain ⟨⟨f1, f2, f3⟩, ⟨g1, g2, g3⟩, ⟨h1, h2, h3⟩, i1, i2, i3⟩ := hf
  have eq : ∀ (u v : Int) (W : World), (Op.equalIn (k + 1) 3 (.int .i64 u) (.int .i64 v)).run Tryd.prog W = .ok (u == v) W := fun u v W => run_equalIn_int W k 3 .i64 .i64 u v Tryd.underlying3
  by_cases e1 : a = x <;> by_cases e2 : b = y <;> by_cases e3 : c = z <;> by_cases e4 : d = u <;> simp [Op.eqFields, f1, f2, f3, g1, g2, g3, h1, h2, h3, i1, i2, i3, go_sem, samR, eq, e1, e2, e3, e4]
theorem run_same_bnd (a b x y : Int) (w : World) (k : Nat) :
    (Op.equalIn (k + 2) 30 (.agg #[.int .i64 a, .int .i64 b]) (.agg #[.int .i64 x, .int .i64 y])).run Tryd.prog w = .ok (samB a b x y) w := by
  rw [run_equalIn_agg w (k + 1) 30 _ _ (by kernel_rfl) (by kernel_rfl)]
  have hf : (Tryd.prog.fieldsOf 30).toList.map (fun f => (f.name, f.type, f.offset)) = [("Low", 3, 0), ("High", 3, 1)] := by kernel_rfl
  generalize (Tryd.prog.fieldsOf 30).toList = fs at *
  obtain ⟨f, g, rfl⟩ : ∃ f g, fs = [f, g] := by
    have hl := congrArg List.length hf
    rw [List.length_map] at hl
    rcases fs with _ | ⟨f, _ | ⟨g, _ | ⟨h, fs⟩⟩⟩ <;> simp at hl
    exact ⟨f, g, rfl⟩
  simp only [List.map_cons, List.map_nil, List.cons.injEq, Prod.mk.injEq, and_true] at hf
  obtain ⟨⟨f1, f2, f3⟩, g1, g2, g3⟩ := hf
  have eq : ∀ (u v : Int) (W : World), (Op.equalIn (k + 1) 3 (.int .i64 u) (.int .i64 v)).run Tryd.prog W = .ok (u == v) W := fun u v W => run_equalIn_int W k 3 .i64 .i64 u v Tryd.underlying3
  by_cases e1 : a = x <;> by_cases e2 : b = y <;> simp [Op.eqFields, f1, f2, f3, g1, g2, g3, go_sem, samB, eq, e1, e2]
/-- a report is the same as itself -/
theorem same_rpt (a b c d e f g h : Int) (w : World) :
    (binOp .eql 36 (.agg #[.int .i64 a, .int .i64 b, .int .i64 c, .int .i64 d, .int .i64 e, .int .i64 f, .int .i64 g, .int .i64 h]) (.agg #[.int .i64 a, .int .i64 b, .int .i64 c, .int .i64 d, .int .i64 e, .int .i64 f, .int .i64 g, .int .i64 h])).run Tryd.prog w = .ok (.bool true) w := by
  rw [run_eql_struct, show (10000 : Nat) = 9999 + 1 from rfl, run_equalIn_agg w 9999 36 _ _ (by kernel_rfl) (by kernel_rfl)]
  have hf : (Tryd.prog.fieldsOf 36).toList.map (fun f => (f.name, f.type, f.offset)) = [("Reading", 26, 0), ("Volume", 30, 4), ("Alcohol", 30, 6)] := by kernel_rfl
  generalize (Tryd.prog.fieldsOf 36).toList = fs at *
  obtain ⟨F, G, K, rfl⟩ : ∃ F G K, fs = [F, G, K] := by
    have hl := congrArg List.length hf
    rw [List.length_map] at hl
    rcases fs with _ | ⟨F, _ | ⟨G, _ | ⟨K, _ | ⟨J, fs⟩⟩⟩⟩ <;> simp at hl
    exact ⟨F, G, K, rfl⟩
  simp only [List.map_cons, List.map_nil, List.cons.injEq, Prod.mk.injEq, and_true] at hf
  obtain ⟨⟨f1, f2, f3⟩, ⟨g1, g2, g3⟩, h1, h2, h3⟩ := hf
  have eR : ∀ W, (Op.equalIn 9999 26 (.agg #[.int .i64 a, .int .i64 b, .int .i64 c, .int .i64 d]) (.agg #[.int .i64 a, .int .i64 b, .int .i64 c, .int .i64 d])).run Tryd.prog W = .ok true W := fun W => by
    rw [show (9999 : Nat) = 9997 + 2 from rfl, run_same_rdg]; simp [samR]
  have eB : ∀ (u v : Int) W, (Op.equalIn 9999 30 (.agg #[.int .i64 u, .int .i64 v]) (.agg #[.int .i64 u, .int .i64 v])).run Tryd.prog W = .ok true W := fun u v W => by
    rw [show (9999 : Nat) = 9997 + 2 from rfl, run_same_bnd]; simp [samB]
  simp [Op.eqFields, f1, f2, f3, g1, g2, g3, h1, h2, h3, go_sem, eR, eB]
end Go.Proofs.YtdpkochkpcjioabDoor

namespace Go.Proofs.YtdpkochkpcjioabDoor.gaugeReports
open Go.ChangeShapes Go.WideShapes Go.ChangeAt Go.RowKit
open Go.ChangeMaps (open_string shut_string)
set_option linter.unusedVariables false

/-- what stands in GaugeReports -/
def GrI (w : World) (tv : Value) (tol d p h s : Int) (W : World) : Prop := Below w.heap.size w W ∧ Two w.heap.size W tv (.int .i64 tol) ∧ Quad (w.heap.size + 1) W (.int .i64 d) (.int .i64 p) (.int .i64 h) (.int .i64 s)
theorem GrI.below {w : World} {tv : Value} {tol d p h s : Int} {W W' : World} (hh : GrI w tv tol d p h s W) (hb : Below W.heap.size W W') : GrI w tv tol d p h s W' := ⟨bel_trans hh.1 hb, hh.2.1.below hb, hh.2.2.below hb⟩
theorem GrI.init (w : World) (tv : Value) (tol d p h s : Int) : GrI w tv tol d p h s ((w.alloc (.cells #[tv, .int .i64 tol] 24)).alloc (.cells #[.int .i64 d, .int .i64 p, .int .i64 h, .int .i64 s] 26)) := by
  have h2 := Quad.new (w.alloc (.cells #[tv, .int .i64 tol] 24)) (.int .i64 d) (.int .i64 p) (.int .i64 h) (.int .i64 s) 26
  rw [World.size_alloc] at h2
  exact ⟨bel_alloc (bel_alloc (Below.refl _ _)), (Two.new w _ _ _).alloc _, h2⟩
theorem bel_al2 {A B : World} (h : Below A.heap.size A B) (o : Obj) : Below A.heap.size A (B.alloc o) := h.alloc h.size o
set_option maxHeartbeats 32000000 in
set_option maxRecDepth 100000 in
theorem core (a : Option Addr) (n cap : Nat) (tol d p h s rise WL WH E1 E CK R0 R1 R2 R3 R4 R5 R6 R7 : Int) (t : List (Int × Int)) (w : World) (B1 : Bool) (hn : n = t.length) (hw : Hid (WordsIs w)) (hP : Hid (Pts w (.slice a n cap) t)) (hs : Hid (B1 = true → t.length ≤ 1000))
    (HF : Hid (∀ v W, TbV W v t tol → Calls Tryd.prog 11 #[v] W fun e w' => e = .returned (.bool B1) ∧ Below W.heap.size W w'))
    (HW : Hid (∀ v W, TbV W v t tol → Calls Tryd.prog 12 #[v, .int .i64 p] W fun e w' => e = .returned (.tuple #[.agg #[.int .i64 WL, .int .i64 WH], .int .i64 E1]) ∧ Below W.heap.size W w'))
    (HW2 : Hid (∀ v W, TbV W v t tol → Calls Tryd.prog 14 #[v, .int .i64 p] W fun e w' => e = .returned (.tuple #[.agg #[.int .i64 WL, .int .i64 WH], .int .i64 E1]) ∧ Below W.heap.size W w'))
    (HR : Hid (∀ v W, TbV W v t tol → WordsIs W → Calls Tryd.prog 15 #[v, .agg #[.int .i64 d, .int .i64 p, .int .i64 h, .int .i64 s], .int .i64 rise] W fun e w' => e = .returned (.tuple #[.agg #[.int .i64 R0, .int .i64 R1, .int .i64 R2, .int .i64 R3, .int .i64 R4, .int .i64 R5, .int .i64 R6, .int .i64 R7], .int .i64 E]) ∧ Below W.heap.size W w'))
    (HR2 : Hid (∀ v W, TbV W v t tol → Calls Tryd.prog 16 #[v, .agg #[.int .i64 d, .int .i64 p, .int .i64 h, .int .i64 s], .int .i64 rise] W fun e w' => e = .returned (.tuple #[.agg #[.int .i64 R0, .int .i64 R1, .int .i64 R2, .int .i64 R3, .int .i64 R4, .int .i64 R5, .int .i64 R6, .int .i64 R7], .int .i64 E]) ∧ Below W.heap.size W w'))
    (HK : Hid (∀ W, Calls Tryd.prog 17 #[.agg #[.int .i64 d, .int .i64 p, .int .i64 h, .int .i64 s]] W fun e w' => e = .returned (.int .i64 CK) ∧ Below W.heap.size W w'))
    (HK2 : Hid (∀ W, Calls Tryd.prog 18 #[.agg #[.int .i64 d, .int .i64 p, .int .i64 h, .int .i64 s]] W fun e w' => e = .returned (.int .i64 CK) ∧ Below W.heap.size W w')) :
    Calls Tryd.prog 3 #[.agg #[.slice a n cap, .int .i64 tol], .agg #[.int .i64 d, .int .i64 p, .int .i64 h, .int .i64 s], .int .i64 rise] w fun e w' => e = .returned (.bool true) ∧ Below w.heap.size w w' := by
  subst hn
  have Q1 : ∀ (p q : Int) W, (binOp .eql 30 (.agg #[.int .i64 p, .int .i64 q]) (.agg #[.int .i64 p, .int .i64 q])).run Tryd.prog W = .ok (.bool true) W := fun p q W => by rw [run_eql_bounds, show samB p q p q = true by simp [samB]]
  have Q8 := fun a b c d e f g h W => same_rpt a b c d e f g h W
  have S0 := Lib.hid (GrI.init w (.slice a t.length cap) tol d p h s)
  have HV : Hid (∀ W, Below w.heap.size w W → TbV W (.agg #[.slice a t.length cap, .int .i64 tol]) t tol) := Lib.hid fun W hW => ⟨a, cap, rfl, hP.out.below hW⟩
  have HA : Hid (∀ W, Below w.heap.size w W → _) := Lib.hid fun W hW => gawake_any W (hw.out.below hW)
  have HWD : Hid (∀ W, Below w.heap.size w W → WordsIs W) := Lib.hid fun W hW => hw.out.below hW
  have HC := Lib.hid (fun (hB : B1 = true) v W (h : TbV W v t tol) => copy_any v t tol W h (hs.out hB))
  clear hs hP hw
  generalize t.length = n at *
  go_enter Tryd.func3, Tryd.ntmps3
  go_wp2_with fail
  refine (HA.out _ S0.out.1).mono ?_
  rintro e w1 ⟨rfl, h1⟩
  replace S0 := Lib.hid (S0.out.below h1); clear h1
  obtain ⟨_, ⟨t0, t1, _, _, _⟩, q0, q1, q2, q3, _, _⟩ := S0.out
  go_wp2_with fail
  refine (HF.out _ _ (HV.out _ S0.out.1)).mono ?_
  rintro e w2 ⟨rfl, h1⟩
  replace S0 := Lib.hid (S0.out.below h1); clear h1 t0 t1 q0 q1 q2 q3
  cases B1 with
  | false =>
    have X := Lib.hid S0.out.1
    go_wp2
    go_returns
    exact ⟨rfl, X.out⟩
  | true =>
    replace HC := Lib.hid (HC.out rfl)
    obtain ⟨_, ⟨t0, t1, _, _, _⟩, q0, q1, q2, q3, _, _⟩ := S0.out
    have SZ : Hid (∀ k, w2.heap.size ≤ k → w.heap.size ≠ k ∧ k ≠ w.heap.size ∧ w.heap.size + 1 ≠ k ∧ k ≠ w.heap.size + 1) := Lib.hid fun k hk => by
      have h2 : w.heap.size + 1 < w2.heap.size := S0.out.2.2.2.2.2.2.2
      omega
    go_upto_region 5 with fail
    go_cut [7, 8] from 20 to 27 (fun s f wx => ∃ q : Nat, s = .pointer (some ⟨q, 0, none⟩) ∧ f = .int .i64 E1 ∧ Hid (Below w2.heap.size w2 wx) ∧ Hid (Two q wx (.int .i64 WL) (.int .i64 WH)))
    case first =>
      go_region_held3 (fun w' => w'.cell? ⟨w.heap.size, 0, none⟩ = some (.slice a n cap) ∧ w'.cell? ⟨w.heap.size, 1, none⟩ = some (.int .i64 tol) ∧ w'.cell? ⟨w.heap.size + 1, 1, none⟩ = some (.int .i64 p)) (go_keep) (first
        | (go_at_call 13; (refine (HC.out _ _ (HV.out _ (bel_trans S0.out.1 (bel_drew _)))).mono ?_); rintro e w3 ⟨V3, rfl, ho, gg⟩; have BX := Lib.hid (bel_trans (bel_drew w2) gg); obtain ⟨_, ⟨t0, t1, _, _, _⟩, q0, q1, q2, q3, _, _⟩ := S0.out.below BX.out; have N3 := Lib.hid ho; clear ho gg)
        | (go_at_call 13; (refine (HC.out _ _ (HV.out _ (bel_trans S0.out.1 (bel_alloc (bel_drew _))))).mono ?_); rintro e w3 ⟨V3, rfl, ho, gg⟩; have BX := Lib.hid (bel_trans (bel_alloc (bel_drew (w2.alloc (.cells #[.int .i64 0, .int .i64 0] 30)))) gg); obtain ⟨_, ⟨t0, t1, _, _, _⟩, q0, q1, q2, q3, _, _⟩ := S0.out.below BX.out; have P1 := Lib.hid ((Two.new w2 (.int .i64 0) (.int .i64 0) 30).below (bel_trans (bel_drew _) gg)); obtain ⟨p0, p1, p2, p3, _⟩ := P1.out; have PS := Lib.hid (Nat.le_refl w2.heap.size); obtain ⟨z1, z2, z3, z4⟩ := SZ.out _ PS.out; have N3 := Lib.hid ho; clear ho gg)
        | (go_at_call 12; (refine (HW.out _ _ N3.out).mono ?_); rintro e w4 ⟨rfl, gg⟩; replace BX := Lib.hid (bel_trans BX.out gg); clear t0 t1 q0 q1 q2 q3; obtain ⟨_, ⟨t0, t1, _, _, _⟩, q0, q1, q2, q3, _, _⟩ := S0.out.below BX.out; (try (replace P1 := Lib.hid (P1.out.below gg))); (try (clear p0 p1 p2 p3)); (try (obtain ⟨p0, p1, p2, p3, _⟩ := P1.out)); clear gg)
        | (go_at_call 12; (refine (HW.out _ _ (N3.out.below (bel_alloc (Below.refl _ _)))).mono ?_); rintro e w4 ⟨rfl, gg⟩; have PS := Lib.hid BX.out.size; obtain ⟨z1, z2, z3, z4⟩ := SZ.out _ PS.out; replace BX := Lib.hid (bel_trans (bel_al2 BX.out _) gg); clear t0 t1 q0 q1 q2 q3; obtain ⟨_, ⟨t0, t1, _, _, _⟩, q0, q1, q2, q3, _, _⟩ := S0.out.below BX.out; have P1 := Lib.hid ((Two.new _ (.int .i64 0) (.int .i64 0) 30).below gg); obtain ⟨p0, p1, p2, p3, _⟩ := P1.out; clear gg))
      all_goals go_wp2_with fail
      all_goals go_meet
      all_goals first
        | exact ⟨_, rfl, rfl, Lib.hid (bel_al2 BX.out _), Lib.hid (Two.new _ _ _ _)⟩
        | exact ⟨_, rfl, rfl, Lib.hid ((BX.out.setCell (p := ⟨_, 0, none⟩) PS.out _).setCell (p := ⟨_, 1, none⟩) PS.out _), Lib.hid ((P1.out.set0 _).set1 _)⟩
    case rest =>
      obtain ⟨q, rfl, rfl, hB, hT⟩ := hcut
      replace S0 := Lib.hid (S0.out.below hB.out)
      clear t0 t1 q0 q1 q2 q3 SZ
      obtain ⟨_, ⟨t0, t1, _, _, _⟩, q0, q1, q2, q3, _, _⟩ := S0.out
      go_wp2_with fail
      refine (HW2.out _ _ (HV.out _ S0.out.1)).mono ?_
      rintro e w5 ⟨rfl, h1⟩
      replace S0 := Lib.hid (S0.out.below (bel_trans h1 (bel_alloc (o := .cells #[.int .i64 WL, .int .i64 WH] 30) (Below.refl _ _))))
      replace hT := Lib.hid (hT.out.below (bel_trans h1 (bel_alloc (o := .cells #[.int .i64 WL, .int .i64 WH] 30) (Below.refl _ _)))); clear h1 hB t0 t1 q0 q1 q2 q3
      have T2 := Lib.hid (Two.new w5 (.int .i64 WL) (.int .i64 WH) 30)
      go_upto_region 7 with fail
      generalize w5.alloc (.cells #[.int .i64 WL, .int .i64 WH] 30) = w6 at *
      generalize w5.heap.size = r at *
      obtain ⟨_, ⟨t0, t1, _, _, _⟩, q0, q1, q2, q3, _, _⟩ := S0.out
      have SZ : Hid (∀ k, w6.heap.size ≤ k → w.heap.size ≠ k ∧ k ≠ w.heap.size ∧ w.heap.size + 1 ≠ k ∧ k ≠ w.heap.size + 1) := Lib.hid fun k hk => by
        have h2 : w.heap.size + 1 < w6.heap.size := S0.out.2.2.2.2.2.2.2
        omega
      go_cut [11, 12] from 35 to 42 (fun s f wx => ∃ u : Nat, s = .pointer (some ⟨u, 0, none⟩) ∧ f = .int .i64 E ∧ Hid (Below w6.heap.size w6 wx) ∧ Hid (Eig u wx (.int .i64 R0) (.int .i64 R1) (.int .i64 R2) (.int .i64 R3) (.int .i64 R4) (.int .i64 R5) (.int .i64 R6) (.int .i64 R7)))
      case first =>
        go_region_held3 (fun w' => w'.cell? ⟨w.heap.size, 0, none⟩ = some (.slice a n cap) ∧ w'.cell? ⟨w.heap.size, 1, none⟩ = some (.int .i64 tol) ∧ w'.cell? ⟨w.heap.size + 1, 0, none⟩ = some (.int .i64 d) ∧ w'.cell? ⟨w.heap.size + 1, 1, none⟩ = some (.int .i64 p) ∧ w'.cell? ⟨w.heap.size + 1, 2, none⟩ = some (.int .i64 h) ∧ w'.cell? ⟨w.heap.size + 1, 3, none⟩ = some (.int .i64 s)) (go_keep) (first
          | (go_at_call 13; (refine (HC.out _ _ (HV.out _ (bel_trans S0.out.1 (bel_drew _)))).mono ?_); rintro e w3 ⟨V3, rfl, ho, gg⟩; have BX := Lib.hid (bel_trans (bel_drew w6) gg); obtain ⟨_, ⟨t0, t1, _, _, _⟩, q0, q1, q2, q3, _, _⟩ := S0.out.below BX.out; have N3 := Lib.hid ho; clear ho gg)
          | (go_at_call 13; (refine (HC.out _ _ (HV.out _ (bel_trans S0.out.1 (bel_alloc (bel_drew _))))).mono ?_); rintro e w3 ⟨V3, rfl, ho, gg⟩; have BX := Lib.hid (bel_trans (bel_alloc (bel_drew (w6.alloc (.cells #[.int .i64 0, .int .i64 0, .int .i64 0, .int .i64 0, .int .i64 0, .int .i64 0, .int .i64 0, .int .i64 0] 36)))) gg); obtain ⟨_, ⟨t0, t1, _, _, _⟩, q0, q1, q2, q3, _, _⟩ := S0.out.below BX.out; have P1 := Lib.hid ((Eig.new w6 (.int .i64 0) (.int .i64 0) (.int .i64 0) (.int .i64 0) (.int .i64 0) (.int .i64 0) (.int .i64 0) (.int .i64 0) 36).below (bel_trans (bel_drew _) gg)); obtain ⟨p0, p1, p2, p3, p4, p5, p6, p7, _, _⟩ := P1.out; obtain ⟨f0, f1, f2, f3, f4, f5, f6, f7⟩ := P1.out.fr; have PS := Lib.hid (Nat.le_refl w6.heap.size); obtain ⟨z1, z2, z3, z4⟩ := SZ.out _ PS.out; have N3 := Lib.hid ho; clear ho gg)
          | (go_at_call 15; (refine (HR.out _ _ N3.out (HWD.out _ (bel_trans S0.out.1 BX.out))).mono ?_); rintro e w4 ⟨rfl, gg⟩; replace BX := Lib.hid (bel_trans BX.out gg); clear t0 t1 q0 q1 q2 q3; obtain ⟨_, ⟨t0, t1, _, _, _⟩, q0, q1, q2, q3, _, _⟩ := S0.out.below BX.out; (try (replace P1 := Lib.hid (P1.out.below gg))); (try (clear p0 p1 p2 p3 p4 p5 p6 p7 f0 f1 f2 f3 f4 f5 f6 f7)); (try (obtain ⟨p0, p1, p2, p3, p4, p5, p6, p7, _, _⟩ := P1.out)); (try (obtain ⟨f0, f1, f2, f3, f4, f5, f6, f7⟩ := P1.out.fr)); clear gg)
          | (go_at_call 15; (refine (HR.out _ _ (N3.out.below (bel_alloc (Below.refl _ _))) (HWD.out _ (bel_trans S0.out.1 (bel_al2 BX.out _)))).mono ?_); rintro e w4 ⟨rfl, gg⟩; have PS := Lib.hid BX.out.size; obtain ⟨z1, z2, z3, z4⟩ := SZ.out _ PS.out; replace BX := Lib.hid (bel_trans (bel_al2 BX.out _) gg); clear t0 t1 q0 q1 q2 q3; obtain ⟨_, ⟨t0, t1, _, _, _⟩, q0, q1, q2, q3, _, _⟩ := S0.out.below BX.out; have P1 := Lib.hid ((Eig.new _ (.int .i64 0) (.int .i64 0) (.int .i64 0) (.int .i64 0) (.int .i64 0) (.int .i64 0) (.int .i64 0) (.int .i64 0) 36).below gg); obtain ⟨p0, p1, p2, p3, p4, p5, p6, p7, _, _⟩ := P1.out; obtain ⟨f0, f1, f2, f3, f4, f5, f6, f7⟩ := P1.out.fr; clear gg))
        all_goals go_wp2_with fail
        all_goals go_meet
        all_goals first
          | with_reducible exact ⟨_, rfl, rfl, Lib.hid (bel_al2 BX.out _), Lib.hid (Eig.new _ _ _ _ _ _ _ _ _ _)⟩
          | with_reducible exact ⟨_, rfl, rfl, Lib.hid (Eig.putB BX.out PS.out _ _ _ _ _ _ _ _), Lib.hid (P1.out.put _ _ _ _ _ _ _ _)⟩
      case rest =>
        obtain ⟨u, rfl, rfl, hB, hE⟩ := hcut
        replace S0 := Lib.hid (S0.out.below hB.out)
        replace hT := Lib.hid (hT.out.below hB.out)
        replace T2 := Lib.hid (T2.out.below hB.out)
        clear t0 t1 q0 q1 q2 q3 SZ hB
        obtain ⟨_, ⟨t0, t1, _, _, _⟩, q0, q1, q2, q3, _, _⟩ := S0.out
        go_wp2_with fail
        refine (HR2.out _ _ (HV.out _ S0.out.1)).mono ?_
        rintro e w9 ⟨rfl, h1⟩
        have h2 := bel_trans h1 (bel_alloc (o := .cells #[.int .i64 R0, .int .i64 R1, .int .i64 R2, .int .i64 R3, .int .i64 R4, .int .i64 R5, .int .i64 R6, .int .i64 R7] 36) (Below.refl _ _))
        replace S0 := Lib.hid (S0.out.below h2)
        replace hT := Lib.hid (hT.out.below h2)
        replace T2 := Lib.hid (T2.out.below h2)
        replace hE := Lib.hid (hE.out.below h2); clear h1 h2 t0 t1 q0 q1 q2 q3
        have T3 := Lib.hid (Eig.new w9 (.int .i64 R0) (.int .i64 R1) (.int .i64 R2) (.int .i64 R3) (.int .i64 R4) (.int .i64 R5) (.int .i64 R6) (.int .i64 R7) 36)
        go_upto_region 9 with fail
        generalize w9.alloc (.cells #[.int .i64 R0, .int .i64 R1, .int .i64 R2, .int .i64 R3, .int .i64 R4, .int .i64 R5, .int .i64 R6, .int .i64 R7] 36) = w10 at *
        generalize w9.heap.size = v at *
        have e1 : (E1 == E1) = true := by simp
        have e2 : (E == E) = true := by simp
        have e3 : (CK == CK) = true := by simp
        obtain ⟨_, _, q0, q1, q2, q3, _, _⟩ := S0.out
        obtain ⟨a0, a1, _, _, _⟩ := hT.out
        obtain ⟨b0, b1, _, _, _⟩ := T2.out
        obtain ⟨c0, c1, c2, c3, c4, c5, c6, c7, _, _⟩ := hE.out
        obtain ⟨d0, d1, d2, d3, d4, d5, d6, d7, _, _⟩ := T3.out
        replace S0 := Lib.hid (S0.out.below (bel_drew _))
        replace hT := Lib.hid (hT.out.below (bel_drew _))
        replace T2 := Lib.hid (T2.out.below (bel_drew _))
        replace hE := Lib.hid (hE.out.below (bel_drew _))
        replace T3 := Lib.hid (T3.out.below (bel_drew _))
        go_region_held3 (fun w' => w'.cell? ⟨w.heap.size + 1, 0, none⟩ = some (.int .i64 d) ∧ w'.cell? ⟨w.heap.size + 1, 1, none⟩ = some (.int .i64 p) ∧ w'.cell? ⟨w.heap.size + 1, 2, none⟩ = some (.int .i64 h) ∧ w'.cell? ⟨w.heap.size + 1, 3, none⟩ = some (.int .i64 s) ∧ w'.cell? ⟨q, 0, none⟩ = some (.int .i64 WL) ∧ w'.cell? ⟨q, 1, none⟩ = some (.int .i64 WH) ∧ w'.cell? ⟨r, 0, none⟩ = some (.int .i64 WL) ∧ w'.cell? ⟨r, 1, none⟩ = some (.int .i64 WH) ∧ w'.cell? ⟨u, 0, none⟩ = some (.int .i64 R0) ∧ w'.cell? ⟨u, 1, none⟩ = some (.int .i64 R1) ∧ w'.cell? ⟨u, 2, none⟩ = some (.int .i64 R2) ∧ w'.cell? ⟨u, 3, none⟩ = some (.int .i64 R3) ∧ w'.cell? ⟨u, 4, none⟩ = some (.int .i64 R4) ∧ w'.cell? ⟨u, 5, none⟩ = some (.int .i64 R5) ∧ w'.cell? ⟨u, 6, none⟩ = some (.int .i64 R6) ∧ w'.cell? ⟨u, 7, none⟩ = some (.int .i64 R7) ∧ w'.cell? ⟨v, 0, none⟩ = some (.int .i64 R0) ∧ w'.cell? ⟨v, 1, none⟩ = some (.int .i64 R1) ∧ w'.cell? ⟨v, 2, none⟩ = some (.int .i64 R2) ∧ w'.cell? ⟨v, 3, none⟩ = some (.int .i64 R3) ∧ w'.cell? ⟨v, 4, none⟩ = some (.int .i64 R4) ∧ w'.cell? ⟨v, 5, none⟩ = some (.int .i64 R5) ∧ w'.cell? ⟨v, 6, none⟩ = some (.int .i64 R6) ∧ w'.cell? ⟨v, 7, none⟩ = some (.int .i64 R7)) (go_keep) (first
          | (go_at_call 17; (refine (HK.out _).mono ?_); rintro e w11 ⟨rfl, gg⟩; replace S0 := Lib.hid (S0.out.below gg); replace hT := Lib.hid (hT.out.below gg); replace T2 := Lib.hid (T2.out.below gg); replace hE := Lib.hid (hE.out.below gg); replace T3 := Lib.hid (T3.out.below gg); clear q0 q1 q2 q3 a0 a1 b0 b1 c0 c1 c2 c3 c4 c5 c6 c7 d0 d1 d2 d3 d4 d5 d6 d7; obtain ⟨_, _, q0, q1, q2, q3, _, _⟩ := S0.out; obtain ⟨a0, a1, _, _, _⟩ := hT.out; obtain ⟨b0, b1, _, _, _⟩ := T2.out; obtain ⟨c0, c1, c2, c3, c4, c5, c6, c7, _, _⟩ := hE.out; obtain ⟨d0, d1, d2, d3, d4, d5, d6, d7, _, _⟩ := T3.out; clear gg)
          | (go_at_call 18; (refine (HK2.out _).mono ?_); rintro e w11 ⟨rfl, gg⟩; replace S0 := Lib.hid (S0.out.below gg); replace hT := Lib.hid (hT.out.below gg); replace T2 := Lib.hid (T2.out.below gg); replace hE := Lib.hid (hE.out.below gg); replace T3 := Lib.hid (T3.out.below gg); clear q0 q1 q2 q3 a0 a1 b0 b1 c0 c1 c2 c3 c4 c5 c6 c7 d0 d1 d2 d3 d4 d5 d6 d7; obtain ⟨_, _, q0, q1, q2, q3, _, _⟩ := S0.out; obtain ⟨a0, a1, _, _, _⟩ := hT.out; obtain ⟨b0, b1, _, _, _⟩ := T2.out; obtain ⟨c0, c1, c2, c3, c4, c5, c6, c7, _, _⟩ := hE.out; obtain ⟨d0, d1, d2, d3, d4, d5, d6, d7, _, _⟩ := T3.out; clear gg))
        go_wp2
        go_returns
        exact ⟨rfl, S0.out.1⟩
theorem walk (v : Value) (tt : List (Int × Int) × Int) (d p h s rise : Int) (w : World) (hv : TbV w v tt.1 tt.2) (hb : (-9223372036854775808 ≤ d ∧ d ≤ 9223372036854775807) ∧ (-9223372036854775808 ≤ p ∧ p ≤ 9223372036854775807) ∧ (-9223372036854775808 ≤ h ∧ h ≤ 9223372036854775807) ∧ (-9223372036854775808 ≤ s ∧ s ≤ 9223372036854775807)) (hr : -9223372036854775808 ≤ rise ∧ rise ≤ 9223372036854775807) (hw : WordsIs w) :
    Calls Tryd.prog 3 #[v, .agg #[.int .i64 d, .int .i64 p, .int .i64 h, .int .i64 s], .int .i64 rise] w fun e w' => e = .returned (.bool true) ∧ Below w.heap.size w w' := by
  obtain ⟨t, tol⟩ := tt
  obtain ⟨a, cap, rfl, hp⟩ := hv
  exact core a _ cap tol d p h s rise (wtL t tol p) (wtH t tol p) (rdE t tol p) (rpE t tol d p h s rise) (rdgE d p h s) _ _ _ _ _ _ _ _ t w (decide (t.length ≤ 129)) rfl (Lib.hid hw) (Lib.hid hp) (Lib.hid fun h => by have := of_decide_eq_true h; omega) (Lib.hid fun v W h => few13_any v t tol W h) (Lib.hid fun v W h => gWet_any v t tol p W h) (Lib.hid fun v W h => rWet_any v t tol p W h) (Lib.hid fun v W hv hW => gRep_any v t tol d p h s rise W hv hW) (Lib.hid fun v W hv => rRep_any v t tol d p h s rise W hv) (Lib.hid fun W => gChk_any d p h s W) (Lib.hid fun W => rRdgChk_any d p h s W)

set_option maxRecDepth 100000 in
theorem contract (H : Type) (enc : TypeId × Value → H) (W : World) (base : Nat) (args : Array Value) (ds gs : List (DataW H)) (before : List MemPlace)
    (hval : ∀ (j : Nat) t v, Tryd.f3.params[j]? = some t → args[j]? = some v → Value.okWide Tryd.prog W .any base t v)
    (hW : DataW.Whole enc Tryd.prog Tryd.f3.params.toList Rows.gaugeReportsSpec.vars false W args.toList ds gs before) (hL : laidMetH Tryd.prog Rows.gaugeReportsRow.laid W) (hSh : W.ShapedOpen Tryd.prog) :
    Calls Tryd.prog 3 args W fun e W' => ∃ v, e = .returned v ∧ Rows.gaugeReportsSpec.post enc Tryd.prog Tryd.f3 false true false false W args v W' := by
  have hW' := hW
  obtain ⟨p, q, hA0, hV, rfl, hfz, hnd⟩ := hW
  have hA : DataW.TrodAll enc Tryd.prog W 0 (fun _ => true) true Tryd.f3.params.toList args.toList ds p := hA0
  rw [Tryd.params3] at hA hval
  obtain ⟨v0, vs0, d0, ds0, p0, q0, hargs, rfl, rfl, h0, r0⟩ := trodAll_cons hA
  obtain ⟨v1, vs1, d1, ds1, p1, q1, rfl, rfl, rfl, h1, r1⟩ := trodAll_cons r0
  obtain ⟨v2, vs2, d2, ds2, p2, q2, rfl, rfl, rfl, h2, r2⟩ := trodAll_cons r1
  obtain ⟨rfl, rfl, rfl⟩ := trodAll_nil r2
  obtain rfl : args = #[v0, v1, v2] := by cases args; simp_all
  obtain ⟨rfl, rfl⟩ := trodVars_none hV
  have k0 := h0
  have lt0 : ∀ x ∈ p0, x.block < W.heap.size := by obtain ⟨m, hm⟩ := k0; exact DataW.trod_lt m _ _ _ hm
  have k1 := h1
  have lt1 : ∀ x ∈ p1, x.block < W.heap.size := by obtain ⟨m, hm⟩ := k1; exact DataW.trod_lt m _ _ _ hm
  have k2 := h2
  have lt2 : ∀ x ∈ p2, x.block < W.heap.size := by obtain ⟨m, hm⟩ := k2; exact DataW.trod_lt m _ _ _ hm
  obtain ⟨z0, w0, wt0⟩ := open_tbl (hval 0 24 v0 rfl rfl) h0
  obtain ⟨za1, zb1, zc1, zd1, rfl, w1⟩ := open_rdg (hval 1 26 v1 rfl rfl) h1
  obtain ⟨a2, rfl, rfl, rfl, w2⟩ := open_int Tryd.underlying3 (hval 2 3 v2 rfl rfl) h2
  clear hA0
  refine (walk v0 z0 za1 zb1 zc1 zd1 a2 W w0 w1 (wf_bd w2) (laid_of rfl hL hSh)).mono fun e W' ⟨he, bel⟩ => ?_
  subst he
  exact ⟨_, rfl, _, _, _, [], _, [], hW', trodAll_mk1 (shut_bool Tryd.underlying4 _), (trodAll_cons_mk (Below.trod laidOut (by kernel_rfl) (of_decide_eq_true (by kernel_rfl)) k0 bel lt0) (trodAll_cons_mk (Below.trod laidOut (by kernel_rfl) (of_decide_eq_true (by kernel_rfl)) k1 bel lt1) (trodAll_cons_mk (Below.trod laidOut (by kernel_rfl) (of_decide_eq_true (by kernel_rfl)) k2 bel lt2) trodAll_mk0))), rfl, bel.frame _, fun h => by cases h⟩

noncomputable def laidWorld (os : Os) : World := World.laidAll Tryd.prog os Rows.gaugeReportsRow.laid
theorem laid_met (os : Os) : laidMet Tryd.prog Rows.gaugeReportsRow.laid ((laidWorld os).forCall (fun _ _ => 0) ⟨#[], #[.agg #[.slice none 0 0, .int .i64 0], .agg #[.int .i64 0, .int .i64 0, .int .i64 0, .int .i64 0], .int .i64 0], []⟩).memory :=
  laidMet_laidAll _ (by kernel_rfl) (by kernel_rfl)
theorem reads (os : Os) {H : Type} (enc : TypeId × Value → H) : ∃ places, DataW.whole enc Tryd.prog ((laidWorld os).forCall (fun _ _ => 0) ⟨#[], #[.agg #[.slice none 0 0, .int .i64 0], .agg #[.int .i64 0, .int .i64 0, .int .i64 0, .int .i64 0], .int .i64 0], []⟩).memory Tryd.f3.params.toList Rows.gaugeReportsSpec.vars false (#[.agg #[.slice none 0 0, .int .i64 0], .agg #[.int .i64 0, .int .i64 0, .int .i64 0, .int .i64 0], .int .i64 0] : Array Value).toList 8 = some ([.agg [.nil, .lit (.int .i64 0)], .agg [.lit (.int .i64 0), .lit (.int .i64 0), .lit (.int .i64 0), .lit (.int .i64 0)], .lit (.int .i64 0)], [], places) :=
  ⟨[], by kernel_rfl⟩

set_option maxRecDepth 100000 in
theorem lifted (os : Os) (started : os.Started) (H : Type) (enc : TypeId × Value → H) (F : Stop.Interp) :
    ReturnsInHanded {} Tryd.checked os 3 .any ((OpenSpec.ofChange Rows.gaugeReportsSpec).preRow enc Tryd.prog Tryd.f3 Rows.gaugeReportsRow.domain false Rows.gaugeReportsRow.laid) (((OpenSpec.ofChange Rows.gaugeReportsSpec).at F).post enc Tryd.prog Tryd.f3 false true false false) := by
  obtain ⟨places, hx⟩ := reads os enc
  refine returnsInHanded_of_row (C := Tryd.checked) (s := OpenSpec.ofChange Rows.gaugeReportsSpec) own started (by kernel_rfl) Tryd.func3
    (witness_row_at (enc := enc) (C := Tryd.checked) false (laidWorld os) #[.agg #[.slice none 0 0, .int .i64 0], .agg #[.int .i64 0, .int .i64 0, .int .i64 0, .int .i64 0], .int .i64 0] (World.laidAll_os _ _ _) (by kernel_rfl) (by kernel_rfl) (by kernel_rfl)
      (OpenSpec.preRow_of_cond 8 hx (by kernel_rfl) (fun k hk => by cases hk) (by kernel_rfl) (laid_met os))) ?_
  intro W base args ds gs before hval hW _ _ _ hL hSh _
  exact contract H enc W base args ds gs before hval hW hL hSh

theorem said : Rows.GaugeReportsSaid :=
  OpenClaim.holds_of_cond 3 Tryd.f3 rfl rfl rfl rfl rfl rfl rfl ⟨rfl, rfl, rfl, rfl, rfl⟩ rfl rfl rfl rfl rfl (by kernel_rfl) Tryd.func3 (by kernel_rfl)
    (of_decide_eq_true (by kernel_rfl)) (by unfold Func.isWrapper; first | (rw [if_pos (by decide +kernel)]; kernel_rfl) | (rw [if_neg (by decide +kernel)]; exact ⟨rfl, rfl⟩))
    (fun os started H enc _ F => by rw [OpenClaim.pre_eq_preRow]; exact lifted os started H enc F)

theorem plain (f : FuncId) (fn : Func) (hf : Tryd.pinned.checked.prog.funcNamed "spile/spilelaw15.GaugeReports" = some f) (hfn : Tryd.pinned.checked.prog.funcs[f]? = some fn) :
    false = Tryd.pinned.checked.prog.looks [] ∧ ∀ (j : Nat) t, fn.params[j]? = some t → Tryd.pinned.checked.prog.wantsStandIn t = false := by
  obtain rfl : f = 3 := Option.some.inj ((show Tryd.prog.funcNamed "spile/spilelaw15.GaugeReports" = some 3 by kernel_rfl).symm.trans hf) |>.symm
  obtain rfl : fn = Tryd.f3 := (Option.some.inj (Tryd.func3.symm.trans hfn)).symm
  refine ⟨by kernel_rfl, fun j t ht => ?_⟩
  rw [Tryd.params3] at ht
  rcases j with _ | _ | _ | j
  · obtain rfl : t = 24 := by simpa using ht.symm
    exact (show Tryd.prog.wantsStandIn 24 = false by kernel_rfl)
  · obtain rfl : t = 26 := by simpa using ht.symm
    exact (show Tryd.prog.wantsStandIn 26 = false by kernel_rfl)
  · obtain rfl : t = 3 := by simpa using ht.symm
    exact (show Tryd.prog.wantsStandIn 3 = false by kernel_rfl)
  · simp at ht

theorem proved : Rows.GaugeReportsCardSaid :=
  Claim7.holds_tied_plain_at .later [] _ _ _ _ said (fun _ h => by cases h) (by kernel_rfl) (fun _ h => by cases h) gaugeReports_row_tie rfl ⟨rfl, rfl⟩ (by kernel_rfl) rfl plain (by kernel_rfl)
#print axioms proved
end Go.Proofs.YtdpkochkpcjioabDoor.gaugeReports
