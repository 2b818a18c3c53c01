/- The reference of layer 1: products in halves, their order and difference. -/
import Derived.Test.YtigmpbipbkgnfaaDoorOf
import Derived.Test.YtigmpbipbkgnfaaDoorRnd
import Derived.Deep.RegionHeld3
namespace Go.Proofs.YtigmpbipbkgnfaaDoor.R1
open Go.RowKit

/-- the two parts of a wide number of the reference: 62 bits in the lower one -/
def hi62 (p : Int) : Int := p / 4611686018427387904
def lo62 (p : Int) : Int := p % 4611686018427387904
def lessB (h1 l1 h2 l2 : Int) : Bool := decide (h1 < h2) || (decide (h1 = h2) && decide (l1 < l2))
theorem lessB_eq (p q : Int) : lessB (hi62 p) (lo62 p) (hi62 q) (lo62 q) = decide (p < q) := by
  unfold lessB hi62 lo62
  rw [Bool.eq_iff_iff]; simp; omega

theorem ret_agg {k l : IntKind} {a b c d : Int} (h : a = b) (g : c = d) : Ending.returned (.agg #[.int k a, .int l c]) = .returned (.agg #[.int k b, .int l d]) := by rw [h, g]
theorem ret_bool {a b : Bool} (h : a = b) : Ending.returned (.bool a) = .returned (.bool b) := by rw [h]

def threeE (a b c : Int) : Int := if isAm a && isAm b && isAm c then (if c = 0 then 16 else 0) else 2

theorem bcell {W w1 : World} (hb : Below W.heap.size W w1) : (∀ b o, b < W.heap.size → w1.cell? ⟨b, o, none⟩ = W.cell? ⟨b, o, none⟩) ∧ (∀ b o, b < W.heap.size → w1.frozen? ⟨b, o, none⟩ = W.frozen? ⟨b, o, none⟩) :=
  ⟨fun b o h => hb.cell (p := ⟨b, o, none⟩) h, fun b o h => hb.frozen (p := ⟨b, o, none⟩) h⟩

theorem is_any (n : Int) (w : World) :
    Calls Tryd.prog 40 #[.int .i64 n] w fun e w' => e = .returned (.bool (isAm n)) ∧ w = w' := by
  go_enter Tryd.func40, Tryd.ntmps40
  go_wp2
  all_goals go_ret
  all_goals (refine ⟨ret_bool ?_, rfl⟩; unfold isAm; grind)

theorem less_any (h1 l1 h2 l2 : Int) (w : World) :
    Calls Tryd.prog 59 #[.agg #[.int .u64 h1, .int .u64 l1], .agg #[.int .u64 h2, .int .u64 l2]] w fun e w' => e = .returned (.bool (lessB h1 l1 h2 l2)) ∧ Below w.heap.size w w' := by
  go_enter Tryd.func59, Tryd.ntmps59
  go_wp2
  all_goals go_ret
  all_goals (refine ⟨ret_bool ?_, by go_grown⟩; unfold lessB; grind)

theorem and_31 (n : Int) (h0 : 0 ≤ n) (h1 : n ≤ 18446744073709551615) : bits .and .u64 n 2147483647 = n % 2147483648 := by
  obtain ⟨A, rfl⟩ := Int.eq_ofNat_of_zero_le h0
  have := u64_and_nat A 2147483647 (by omega) (by omega)
  rw [nat_mask31] at this
  simpa using this
theorem or_31 (h g : Int) (h0 : 0 ≤ h) (h1 : h < 2147483648) (g0 : 0 ≤ g) (g1 : g < 2147483648) : bits .or .u64 (h * 2147483648) g = h * 2147483648 + g :=
  or_add h g 31 h0 g0 g1 (by omega)

set_option maxHeartbeats 1000000 in
theorem product_core (a b A0 A1 B0 B1 P00 P01 P10 P11 M M0 O O0 L0 H L : Int) (w : World) (a0 : 0 ≤ a) (a1 : a ≤ 4611686018427387903) (b0 : 0 ≤ b) (b1 : b ≤ 4611686018427387903)
    (x1 : bits .and .u64 a 2147483647 = A0) (x2 : a / 2147483648 = A1) (x3 : bits .and .u64 b 2147483647 = B0) (x4 : b / 2147483648 = B1)
    (e00 : A0 * B0 = P00) (e01 : A0 * B1 = P01) (e10 : A1 * B0 = P10) (e11 : A1 * B1 = P11)
    (k0 : 0 ≤ P00) (k1 : P00 ≤ 4611686018427387904) (k2 : 0 ≤ P01) (k3 : P01 ≤ 4611686018427387904) (k4 : 0 ≤ P10) (k5 : P10 ≤ 4611686018427387904) (k6 : 0 ≤ P11) (k7 : P11 ≤ 4611686018427387904)
    (y1 : P01 + P00 / 2147483648 = M) (y2 : bits .and .u64 M 2147483647 = M0) (m0 : 0 ≤ M0) (m1 : M0 ≤ 2147483647) (y3 : P10 + M0 = O) (y4 : bits .and .u64 O 2147483647 = O0) (y5 : bits .and .u64 P00 2147483647 = L0)
    (o0 : 0 ≤ O0) (o1 : O0 ≤ 2147483647) (n0 : 0 ≤ M) (n1 : M ≤ 9223372036854775808) (n2 : 0 ≤ O) (n3 : O ≤ 9223372036854775808)
    (y6 : bits .or .u64 (O0 * 2147483648) L0 = L) (y7 : Hid (P11 + M / 2147483648 + O / 2147483648 = H)) :
    Calls Tryd.prog 58 #[.int .i64 a, .int .i64 b] w fun e w' => e = .returned (.agg #[.int .u64 H, .int .u64 L]) ∧ Below w.heap.size w w' := by
  go_enter Tryd.func58, Tryd.ntmps58
  go_wp2
  go_returns
  rw [← y7.out]
  exact ⟨rfl, by go_grown⟩

theorem product_any (a b : Int) (w : World) (a0 : 0 ≤ a) (a1 : a ≤ 4611686018427387903) (b0 : 0 ≤ b) (b1 : b ≤ 4611686018427387903) :
    Calls Tryd.prog 58 #[.int .i64 a, .int .i64 b] w fun e w' => e = .returned (.agg #[.int .u64 (hi62 (a * b)), .int .u64 (lo62 (a * b))]) ∧ Below w.heap.size w w' := by
  have e : a * b = (a / 2147483648) * (b / 2147483648) * 4611686018427387904 + (a / 2147483648 * (b % 2147483648) + a % 2147483648 * (b / 2147483648)) * 2147483648 + a % 2147483648 * (b % 2147483648) := by
    have ea : a = a / 2147483648 * 2147483648 + a % 2147483648 := by omega
    have eb : b = b / 2147483648 * 2147483648 + b % 2147483648 := by omega
    generalize a / 2147483648 = A1 at *
    generalize a % 2147483648 = A0 at *
    generalize b / 2147483648 = B1 at *
    generalize b % 2147483648 = B0 at *
    subst ea; subst eb
    grind
  have bd : ∀ x y : Int, 0 ≤ x → x ≤ 2147483647 → 0 ≤ y → y ≤ 2147483647 → 0 ≤ x * y ∧ x * y ≤ 4611686014132420609 := fun x y h1 h2 h3 h4 =>
    ⟨Int.mul_nonneg h1 h3, by have := Int.mul_le_mul h2 h4 h3 (by omega); omega⟩
  have f00 := bd (a % 2147483648) (b % 2147483648) (by omega) (by omega) (by omega) (by omega)
  have f01 := bd (a % 2147483648) (b / 2147483648) (by omega) (by omega) (by omega) (by omega)
  have f10 := bd (a / 2147483648) (b % 2147483648) (by omega) (by omega) (by omega) (by omega)
  have f11 := bd (a / 2147483648) (b / 2147483648) (by omega) (by omega) (by omega) (by omega)
  have x1 := and_31 a (by omega) (by omega)
  have x3 := and_31 b (by omega) (by omega)
  have core := product_core a b (a % 2147483648) (a / 2147483648) (b % 2147483648) (b / 2147483648)
  generalize a % 2147483648 * (b % 2147483648) = P00 at *
  generalize a % 2147483648 * (b / 2147483648) = P01 at *
  generalize a / 2147483648 * (b % 2147483648) = P10 at *
  generalize a / 2147483648 * (b / 2147483648) = P11 at *
  refine core P00 P01 P10 P11 (P01 + P00 / 2147483648) ((P01 + P00 / 2147483648) % 2147483648) (P10 + (P01 + P00 / 2147483648) % 2147483648) ((P10 + (P01 + P00 / 2147483648) % 2147483648) % 2147483648) (P00 % 2147483648) _ _ w a0 a1 b0 b1 x1 rfl x3 rfl rfl rfl rfl rfl
    (by omega) (by omega) (by omega) (by omega) (by omega) (by omega) (by omega) (by omega)
    rfl (and_31 _ (by omega) (by omega)) (by omega) (by omega) rfl (and_31 _ (by omega) (by omega)) (and_31 _ (by omega) (by omega)) (by omega) (by omega) (by omega) (by omega) (by omega) (by omega) ?_ ?_
  · rw [or_31 _ _ (by omega) (by omega) (by omega) (by omega)]
    unfold lo62; omega
  · show _ = _
    unfold hi62; omega

theorem minus_any (p q : Int) (w : World) (q0 : 0 ≤ q) (h : q ≤ p) (hp : p ≤ 19807040628566084398385987584) :
    Calls Tryd.prog 60 #[.agg #[.int .u64 (hi62 p), .int .u64 (lo62 p)], .agg #[.int .u64 (hi62 q), .int .u64 (lo62 q)]] w fun e w' => e = .returned (.agg #[.int .u64 (hi62 (p - q)), .int .u64 (lo62 (p - q))]) ∧ Below w.heap.size w w' := by
  go_enter Tryd.func60, Tryd.ntmps60
  go_wp2
  · have ht : lo62 p < lo62 q := by assumption
    go_returns
    refine ⟨ret_agg ?_ ?_, by go_grown⟩
    · simp only [IntKind.wrap_u64]; unfold hi62 lo62 at *; omega
    · simp only [IntKind.wrap_u64]; unfold hi62 lo62 at *; omega
  · have ht : lo62 q ≤ lo62 p := by assumption
    go_returns
    refine ⟨ret_agg ?_ ?_, by go_grown⟩
    · simp only [IntKind.wrap_u64]; unfold hi62 lo62 at *; omega
    · simp only [IntKind.wrap_u64]; unfold hi62 lo62 at *; omega

theorem three_any (a b c : Int) (w : World) :
    Calls Tryd.prog 49 #[.int .i64 a, .int .i64 b, .int .i64 c] w fun e w' => e = .returned (.int .i64 (threeE a b c)) ∧ w = w' := by
  go_enter Tryd.func49, Tryd.ntmps49
  go_wp2_with (go_at_call 40; refine (is_any _ _).mono ?_; rintro e w' ⟨rfl, rfl⟩)
  all_goals go_ret
  all_goals (refine ⟨ret_int ?_, rfl⟩; unfold threeE; grind)

end Go.Proofs.YtigmpbipbkgnfaaDoor.R1
