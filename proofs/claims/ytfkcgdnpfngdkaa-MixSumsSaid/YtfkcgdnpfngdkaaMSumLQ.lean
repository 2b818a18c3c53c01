/-
  The statement MixSums of spile/spilelaw21 holds: for every input the call returns true, and each argument reads afterwards as it read before.
-/
import Derived.Test.YtfkcgdnpfngdkaaM2
import Derived.Deep.RegionHeld3
import Derived.Deep.RegionWith
import Derived.Deep.DeepCutAuto
import Derived.StillTailTactics
import Derived.Laws.AppendOwn
import Derived.Maps.AppendAt
import Derived.Below
import Derived.Carry

set_option linter.unusedVariables false
set_option linter.unusedSimpArgs false

namespace Go.Proofs.Ytfkcgdnpfngdkaa
open Go.RowKit

theorem less_lit (p q : Int) (w : World) (r : Bool) (h : decide (p < q) = r) :
    Calls Try.prog 73 #[.agg #[.int .u64 (hi62 p), .int .u64 (lo62 p)], .agg #[.int .u64 (hi62 q), .int .u64 (lo62 q)]] w fun e w' => e = .returned (.bool r) ∧ Below w.heap.size w w' := by
  rw [← h, ← lessB_eq]; exact less_any _ _ _ _ w
theorem less_small (p c : Int) (w : World) (r : Bool) (c0 : 0 ≤ c) (c1 : c ≤ 4611686018427387903) (h : decide (p < c) = r) :
    Calls Try.prog 73 #[.agg #[.int .u64 (hi62 p), .int .u64 (lo62 p)], .agg #[.int .u64 0, .int .u64 c]] w fun e w' => e = .returned (.bool r) ∧ Below w.heap.size w w' := by
  have e0 : (0 : Int) = hi62 c := by unfold hi62; omega
  have e1 : c = lo62 c := by unfold lo62; omega
  rw [e0]
  conv in (Value.int .u64 c) => rw [e1]
  exact less_lit p c w r h

/-- the guess by bits: what its round has to be told -/
structure Bit (Q q bit : Int) (k : Nat) : Prop where
  le : q ≤ Q
  lt : Q < q + 2 ^ k
  bit : bit = 2 ^ k / 2
theorem Bit.start (Q : Int) (h0 : 0 ≤ Q) (h1 : Q < 4611686018427387904) : Bit Q 0 2305843009213693952 62 := ⟨h0, by omega, by omega⟩
theorem Bit.stop {Q q bit : Int} {k : Nat} (h : Bit Q q bit k) (hb : bit ≤ 0) : q = Q := by
  have := h.le; have := h.lt; have := h.bit
  cases k with
  | zero => simp at *; omega
  | succ k => have : (0 : Int) < 2 ^ k := Int.pow_pos (by omega); rw [Int.pow_succ] at *; omega
theorem Bit.up {Q q bit : Int} {k : Nat} (h : Bit Q q bit (k + 1)) (hb : q + bit ≤ Q) : Bit Q (q + bit) (bit / 2) k := by
  have := h.le; have h2 := h.lt; have h3 := h.bit
  rw [Int.pow_succ] at h2 h3
  exact ⟨hb, by omega, by omega⟩
theorem Bit.keep {Q q bit : Int} {k : Nat} (h : Bit Q q bit (k + 1)) (hb : Q < q + bit) : Bit Q q (bit / 2) k := by
  have := h.le; have h2 := h.lt; have h3 := h.bit
  rw [Int.pow_succ] at h2 h3
  exact ⟨by omega, by omega, by omega⟩
theorem Bit.pos {Q q bit : Int} {k : Nat} (h : Bit Q q bit k) (hb : 0 < bit) : ∃ j, k = j + 1 := by
  cases k with
  | zero => have := h.bit; simp at this; omega
  | succ k => exact ⟨k, rfl⟩

theorem field_low (h l : Int) (w : World) : (Instr.field 98 (.agg #[.int .u64 h, .int .u64 l]) 1).run Try.prog w = .ok (.int .u64 l) w := by kernel_rfl

/-- an operation that is not wanted, and whose slot is empty, is passed over -/
theorem wpAnyH_skip {P : Program} {ops : Array Oper} {Q : Exit → Act → World → Prop} {md : Region.Mode} {S : World → Prop} (i : Nat) {oi : Oper} {fuel : Nat} {listed : Array Bool} {a : Act} {w : World} (hi : ops[i]? = some oi)
    (hs : Region.noSelect ops = true) (hf : Region.free md ops listed i = true) (hr : (Region.ready md ops listed).contains i = true)
    (hQ : ∀ c a w, Q (.panic c) (a.put oi.dst undef) w → Q (.panic c) a w) (hw : Region.wanted oi (yielded ops a.tmps) = false) (hp : a.put oi.dst undef = a) (hS : S w)
    (h : wpAnyH P md ops Q S fuel (listed.setIfInBounds i true) a w) : wpAnyH P md ops Q S (fuel + 1) listed a w :=
  wpAnyH_take hi hs hf hr hQ (Or.inr ⟨hw, rfl⟩) hS (by rw [hp]; exact h)

/-- a call in a chain of worlds over 'w', beside a block B whose cells are read later -/
theorem chain {P : Program} {f : FuncId} {args : Array Value} {W w : World} {v : Value} (B : Nat) (h : Hid (Below w.heap.size w W)) (hB : B < W.heap.size)
    (c : Calls P f args W fun e w' => e = .returned v ∧ Below W.heap.size W w') :
    Calls P f args W fun e w' => e = .returned v ∧ Hid (Below w.heap.size w w') ∧ W.heap.size ≤ w'.heap.size ∧ ∀ o, w'.cell? ⟨B, o, none⟩ = W.cell? ⟨B, o, none⟩ :=
  c.mono fun _ _ g => ⟨g.1, bel_trans h.out g.2, g.2.size, fun o => (bcell g.2).1 B o hB⟩

set_option maxHeartbeats 1000000 in
theorem refOf_big (a b c : Int) (w : World) (h : (isAm a && isAm b && isAm c) = true) (hc : 1 ≤ c) (hq : 128849018880000 < a * b / c) :
    Calls Try.prog 60 #[.int .i64 a, .int .i64 b, .int .i64 c, .int .i64 128849018880000] w fun e w' => e = .returned (.tuple #[.int .i64 0, .int .i64 0, .bool false]) ∧ Below w.heap.size w w' := by
  have h' := h
  simp only [Bool.and_eq_true, isAm_iff] at h'
  obtain ⟨⟨⟨a0, a1⟩, b0, b1⟩, c0, c1⟩ := h'
  clear h
  have k0 : 128849018880001 * c ≤ a * b := by
    have : (128849018880000 + 1) * c ≤ a * b / c * c := Int.mul_le_mul_of_nonneg_right (by omega) c0
    have := Int.ediv_mul_le (a * b) (show c ≠ 0 by omega)
    omega
  have k4 : a * b ≤ 128849018880000 * 128849018880000 := Int.mul_le_mul a1 b1 b0 (by omega)
  have K1 := Lib.hid (show decide (128849018880000 * c < a * b) = true by simp; omega)
  have K2 := Lib.hid (show decide (a * b - 128849018880000 * c < c) = false by simp; omega)
  clear hq
  go_enter Try.func60, Try.ntmps60
  go_wp2_with fail
  refine (product_any a b _ a0 (by omega) b0 (by omega)).mono ?_
  rintro e w1 ⟨rfl, hb1⟩
  go_wp2_with fail
  have HC : Hid (Below w.heap.size w (w1.alloc (.cells #[.int .u64 (hi62 (a * b)), .int .u64 (lo62 (a * b))] 98)).drew) := (bel_trans hb1 (bel_alloc (Below.refl _ _))).drew
  clear hb1
  have hwc : IntKind.u64.wrap c = c := IntWalk.u64_in _ ⟨by omega, by omega⟩
  go_region_held3 (fun w' => w'.cell? ⟨w1.heap.size, 0, none⟩ = some (.int .u64 (hi62 (a * b))) ∧ w'.cell? ⟨w1.heap.size, 1, none⟩ = some (.int .u64 (lo62 (a * b)))) (go_keep)
    (first
      | (go_at_call 72; refine (chain w1.heap.size HC (by first | omega | (simp; done) | (simp; omega)) (product_any _ _ _ (by omega) (by omega) (by omega) (by omega))).mono ?_; rintro e w2 ⟨rfl, HC, hz2, hs2⟩; (try simp at hz2))
      | (go_at_call 73; (with_reducible refine (chain w1.heap.size HC (by first | omega | (simp; done) | (simp; omega)) (less_lit _ _ _ true K1.out)).mono ?_); rintro e w2 ⟨rfl, HC, hz2, hs2⟩; (try simp at hz2))
      | (go_at_call 73; (with_reducible refine (chain w1.heap.size HC (by first | omega | (simp; done) | (simp; omega)) (less_small _ _ _ false c0 (by omega) K2.out)).mono ?_); rintro e w2 ⟨rfl, HC, hz2, hs2⟩; (try simp at hz2))
      | (go_at_call 74; refine (chain w1.heap.size HC (by first | omega | (simp; done) | (simp; omega)) (minus_any _ _ _ (by omega) (by omega) (by omega))).mono ?_; rintro e w2 ⟨rfl, HC, hz2, hs2⟩; (try simp at hz2)))
  go_wp2
  go_returns
  exact ⟨rfl, HC.out⟩

set_option linter.unusedSimpArgs false in
set_option maxHeartbeats 2000000 in
theorem refOf_ok (a b c Q R : Int) (w : World) (h : (isAm a && isAm b && isAm c) = true) (hc : 1 ≤ c) (hQ : Hid (a * b / c = Q)) (hR : Hid (a * b % c = R)) (hq : Q ≤ 128849018880000) :
    Calls Try.prog 60 #[.int .i64 a, .int .i64 b, .int .i64 c, .int .i64 128849018880000] w fun e w' => e = .returned (.tuple #[.int .i64 Q, .int .i64 R, .bool true]) ∧ Below w.heap.size w w' := by
  have h' := h
  simp only [Bool.and_eq_true, isAm_iff] at h'
  obtain ⟨⟨⟨a0, a1⟩, b0, b1⟩, c0, c1⟩ := h'
  clear h
  have k4 : a * b ≤ 128849018880000 * 128849018880000 := Int.mul_le_mul a1 b1 b0 (by omega)
  have k5 : 0 ≤ a * b := Int.mul_nonneg a0 b0
  have k6 : Q * c ≤ a * b := by rw [← hQ.out]; exact Int.ediv_mul_le (a * b) (show c ≠ 0 by omega)
  have q0 : 0 ≤ Q := by rw [← hQ.out]; exact Int.ediv_nonneg k5 c0
  have k7 : 0 ≤ Q * c := Int.mul_nonneg q0 c0
  have r0 : 0 ≤ R := by rw [← hR.out]; exact Int.emod_nonneg _ (by omega)
  have r1 : R < c := by rw [← hR.out]; exact Int.emod_lt_of_pos _ (by omega)
  have k8 : a * b - Q * c = R := by
    have := Int.emod_add_mul_ediv (a * b) c; rw [hQ.out, hR.out, Int.mul_comm c Q] at this; omega
  have K8 := Lib.hid k8; clear k8
  go_enter Try.func60, Try.ntmps60
  go_wp2_with fail
  refine (product_any a b _ a0 (by omega) b0 (by omega)).mono ?_
  rintro e w1 ⟨rfl, hb1⟩
  go_upto_region 2 with fail
  have HC : Hid (Below w.heap.size w (w1.alloc (.cells #[.int .u64 (hi62 (a * b)), .int .u64 (lo62 (a * b))] 98)).drew) := (bel_trans hb1 (bel_alloc (Below.refl _ _))).drew
  clear hb1
  go_cut [33] (fun s33 wx => s33 = .bool false ∧ Hid (Below w.heap.size w wx) ∧ w1.heap.size < wx.heap.size ∧ wx.cell? ⟨w1.heap.size, 0, none⟩ = some (.int .u64 (hi62 (a * b))) ∧ wx.cell? ⟨w1.heap.size, 1, none⟩ = some (.int .u64 (lo62 (a * b))))
  case first =>
    have hwc : IntKind.u64.wrap c = c := IntWalk.u64_in _ ⟨by omega, by omega⟩
    by_cases t1 : 128849018880000 * c < a * b
    · have K1 := Lib.hid (show decide (128849018880000 * c < a * b) = true by simp; omega)
      have k9 : Q * c ≤ 128849018880000 * c := Int.mul_le_mul_of_nonneg_right hq c0
      have K2 := Lib.hid (show decide (a * b - 128849018880000 * c < c) = true by have := K8.out; simp; omega)
      go_region_held3 (fun w' => w'.cell? ⟨w1.heap.size, 0, none⟩ = some (.int .u64 (hi62 (a * b))) ∧ w'.cell? ⟨w1.heap.size, 1, none⟩ = some (.int .u64 (lo62 (a * b)))) (go_keep)
        (first
          | (go_at_call 72; refine (chain w1.heap.size HC (by first | omega | (simp; done) | (simp; omega)) (product_any _ _ _ (by omega) (by omega) (by omega) (by omega))).mono ?_; rintro e w2 ⟨rfl, HC, hz2, hs2⟩; (try simp at hz2))
          | (go_at_call 73; (with_reducible refine (chain w1.heap.size HC (by first | omega | (simp; done) | (simp; omega)) (less_lit _ _ _ true K1.out)).mono ?_); rintro e w2 ⟨rfl, HC, hz2, hs2⟩; (try simp at hz2))
          | (go_at_call 73; (with_reducible refine (chain w1.heap.size HC (by first | omega | (simp; done) | (simp; omega)) (less_small _ _ _ true c0 (by omega) K2.out)).mono ?_); rintro e w2 ⟨rfl, HC, hz2, hs2⟩; (try simp at hz2))
          | (go_at_call 74; refine (chain w1.heap.size HC (by first | omega | (simp; done) | (simp; omega)) (minus_any _ _ _ (by omega) (by omega) (by omega))).mono ?_; rintro e w2 ⟨rfl, HC, hz2, hs2⟩; (try simp at hz2)))
      go_wp2
      go_meet
      case rel => exact ⟨rfl, HC, by simp at *; omega, by simp [*], by simp [*]⟩
    · have K1 := Lib.hid (show decide (128849018880000 * c < a * b) = false by simp; omega)
      refine wp_region_held_drew (S := (fun w' => w'.cell? ⟨w1.heap.size, 0, none⟩ = some (.int .u64 (hi62 (a * b))) ∧ w'.cell? ⟨w1.heap.size, 1, none⟩ = some (.int .u64 (lo62 (a * b))))) (by kernel_rfl) (by go_keep) (fun hHeld => ?_)
      refine wpAnyH_take (i := 0) (v := ?_) rfl (by kernel_rfl) (by kernel_rfl) (by kernel_rfl) (fun _ _ _ h => h) (Or.inl ⟨by rfl, ?_⟩) (by assumption) ?_
      rotate_left
      · intro w hSw; (try dsimp only at hSw); go_simp; try (with_reducible rfl)
      try simp only [Act.put, List.setIfInBounds_toArray, List.set_cons_zero, List.set_cons_succ]
      refine wpAnyH_take (i := 1) (v := ?_) rfl (by kernel_rfl) (by kernel_rfl) (by kernel_rfl) (fun _ _ _ h => h) (Or.inl ⟨by rfl, ?_⟩) (by assumption) ?_
      rotate_left
      · intro w hSw; (try dsimp only at hSw); go_simp; try (with_reducible rfl)
      try simp only [Act.put, List.setIfInBounds_toArray, List.set_cons_zero, List.set_cons_succ]
      refine wpAnyH_take (i := 3) (v := ?_) rfl (by kernel_rfl) (by kernel_rfl) (by kernel_rfl) (fun _ _ _ h => h) (Or.inl ⟨by rfl, ?_⟩) (by assumption) ?_
      rotate_left
      · intro w hSw; (try dsimp only at hSw); go_simp; try (with_reducible rfl)
      try simp only [Act.put, List.setIfInBounds_toArray, List.set_cons_zero, List.set_cons_succ]
      refine wpAnyH_ready (rs := [2]) (by kernel_rfl) (by simp) ?_
      refine AllReadyH.cons rfl (fun K hK => ?_) AllReadyH.nil
      go_simp
      refine (chain w1.heap.size HC (by first | omega | (simp; done) | (simp; omega)) (product_any _ _ _ (by omega) (by omega) (by omega) (by omega))).mono ?_; rintro e w2 ⟨rfl, HC, hz2, hs2⟩; (try simp at hz2)
      refine hK.out _ _ (by first | go_keep | (simp [*])) (fun hHeld => ?_)
      clear hK K
      try simp only [Act.put, List.setIfInBounds_toArray, List.set_cons_zero, List.set_cons_succ]
      refine wpAnyH_ready (rs := [4]) (by kernel_rfl) (by simp) ?_
      refine AllReadyH.cons rfl (fun K hK => ?_) AllReadyH.nil
      go_simp
      refine (chain w1.heap.size HC (by first | omega | (simp; done) | (simp; omega)) (less_lit _ _ _ false K1.out)).mono ?_; rintro e w2 ⟨rfl, HC, hz2, hs2⟩; (try simp at hz2)
      refine hK.out _ _ (by first | go_keep | (simp [*])) (fun hHeld => ?_)
      clear hK K
      try simp only [Act.put, List.setIfInBounds_toArray, List.set_cons_zero, List.set_cons_succ]
      refine wpAnyH_take (i := 5) (v := ?_) rfl (by kernel_rfl) (by kernel_rfl) (by kernel_rfl) (fun _ _ _ h => h) (Or.inl ⟨by rfl, ?_⟩) (by assumption) ?_
      rotate_left
      · intro w hSw; (try dsimp only at hSw); go_simp; try (with_reducible rfl)
      try simp only [Act.put, List.setIfInBounds_toArray, List.set_cons_zero, List.set_cons_succ]
      refine wpAnyH_skip 6 rfl (by kernel_rfl) (by kernel_rfl) (by kernel_rfl) (fun _ _ _ h => h) (by rfl) rfl (by assumption) ?_
      try simp only [Act.put, List.setIfInBounds_toArray, List.set_cons_zero, List.set_cons_succ]
      refine wpAnyH_skip 7 rfl (by kernel_rfl) (by kernel_rfl) (by kernel_rfl) (fun _ _ _ h => h) (by rfl) rfl (by assumption) ?_
      try simp only [Act.put, List.setIfInBounds_toArray, List.set_cons_zero, List.set_cons_succ]
      refine wpAnyH_skip 8 rfl (by kernel_rfl) (by kernel_rfl) (by kernel_rfl) (fun _ _ _ h => h) (by rfl) rfl (by assumption) ?_
      try simp only [Act.put, List.setIfInBounds_toArray, List.set_cons_zero, List.set_cons_succ]
      refine wpAnyH_skip 9 rfl (by kernel_rfl) (by kernel_rfl) (by kernel_rfl) (fun _ _ _ h => h) (by rfl) rfl (by assumption) ?_
      try simp only [Act.put, List.setIfInBounds_toArray, List.set_cons_zero, List.set_cons_succ]
      refine wpAnyH_skip 10 rfl (by kernel_rfl) (by kernel_rfl) (by kernel_rfl) (fun _ _ _ h => h) (by rfl) rfl (by assumption) ?_
      try simp only [Act.put, List.setIfInBounds_toArray, List.set_cons_zero, List.set_cons_succ]
      refine wpAnyH_skip 11 rfl (by kernel_rfl) (by kernel_rfl) (by kernel_rfl) (fun _ _ _ h => h) (by rfl) rfl (by assumption) ?_
      try simp only [Act.put, List.setIfInBounds_toArray, List.set_cons_zero, List.set_cons_succ]
      refine wpAnyH_skip 12 rfl (by kernel_rfl) (by kernel_rfl) (by kernel_rfl) (fun _ _ _ h => h) (by rfl) rfl (by assumption) ?_
      try simp only [Act.put, List.setIfInBounds_toArray, List.set_cons_zero, List.set_cons_succ]
      refine wpAnyH_skip 13 rfl (by kernel_rfl) (by kernel_rfl) (by kernel_rfl) (fun _ _ _ h => h) (by rfl) rfl (by assumption) ?_
      try simp only [Act.put, List.setIfInBounds_toArray, List.set_cons_zero, List.set_cons_succ]
      refine wpAnyH_skip 14 rfl (by kernel_rfl) (by kernel_rfl) (by kernel_rfl) (fun _ _ _ h => h) (by rfl) rfl (by assumption) ?_
      try simp only [Act.put, List.setIfInBounds_toArray, List.set_cons_zero, List.set_cons_succ]
      refine wpAnyH_skip 15 rfl (by kernel_rfl) (by kernel_rfl) (by kernel_rfl) (fun _ _ _ h => h) (by rfl) rfl (by assumption) ?_
      try simp only [Act.put, List.setIfInBounds_toArray, List.set_cons_zero, List.set_cons_succ]
      refine wpAnyH_take (i := 16) (v := ?_) rfl (by kernel_rfl) (by kernel_rfl) (by kernel_rfl) (fun _ _ _ h => h) (Or.inl ⟨by rfl, ?_⟩) (by assumption) ?_
      rotate_left
      · intro w hSw; (try dsimp only at hSw); go_simp; try (with_reducible rfl)
      try simp only [Act.put, List.setIfInBounds_toArray, List.set_cons_zero, List.set_cons_succ]
      refine wpAnyH_done (by kernel_rfl) ?_ _
      go_wp2
      go_meet
      case rel => exact ⟨rfl, HC, by simp at *; omega, by simp [*], by simp [*]⟩
  case rest =>
  obtain ⟨rfl, HC, hz, s0, s1⟩ := hcut
  go_wp2_with fail
  go_loopw [12, 13] (fun q bit wr => ∃ q1 b1 : Int, ∃ k : Nat, q = .int .i64 q1 ∧ bit = .int .i64 b1 ∧ Hid (Bit Q q1 b1 k) ∧ 0 ≤ q1 ∧ q1 ≤ 128849018880000 ∧ 0 ≤ b1 ∧ b1 ≤ 2305843009213693952 ∧ Hid (Below w.heap.size w wr) ∧ w1.heap.size < wr.heap.size ∧ wr.cell? ⟨w1.heap.size, 0, none⟩ = some (.int .u64 (hi62 (a * b))) ∧ wr.cell? ⟨w1.heap.size, 1, none⟩ = some (.int .u64 (lo62 (a * b)))) (fun _ bit _ => (intOf bit).toNat)
  case atStart => exact ⟨0, 2305843009213693952, 62, rfl, rfl, Bit.start Q q0 (by omega), by omega, by omega, by omega, by omega, HC, hz, s0, s1⟩
  case round =>
    clear s0 s1 hz HC
    obtain ⟨q1, b1, k, rfl, rfl, HK, g0, g1, g2, g3, HC0, hz, s0, s1⟩ := hrel
    by_cases hb : 0 < b1
    · obtain ⟨j, rfl⟩ := HK.out.pos hb
      by_cases t1 : q1 + b1 ≤ 128849018880000
      · have p0 : 0 ≤ (q1 + b1) * c := Int.mul_nonneg (by omega) c0
        by_cases t2 : a * b < (q1 + b1) * c
        · have K1 := Lib.hid (show decide (a * b < (q1 + b1) * c) = true by simp; omega)
          have HN := Lib.hid (HK.out.keep (Int.not_le.1 fun hge => by have := Int.mul_le_mul_of_nonneg_right hge c0; omega))
          go_wp2_with fail
          have HC : Hid (Below w.heap.size w wr.drew) := HC0.out.drew
          have hs1 : IntKind.i64.wrap (q1 + b1) = q1 + b1 := IntWalk.i64_in _ ⟨by omega, by omega⟩
          have hs2 : decide (q1 + b1 ≤ 128849018880000) = true := by simp; omega
          go_region_held3 (fun w' => w'.cell? ⟨w1.heap.size, 0, none⟩ = some (.int .u64 (hi62 (a * b))) ∧ w'.cell? ⟨w1.heap.size, 1, none⟩ = some (.int .u64 (lo62 (a * b)))) (go_keep)
            (first
              | (go_at_call 72; refine (chain w1.heap.size HC (by first | omega | (simp; done) | (simp; omega)) (product_any _ _ _ (by omega) (by omega) (by omega) (by omega))).mono ?_; rintro e w2 ⟨rfl, HC, hz2, hs2⟩; (try simp at hz2))
              | (go_at_call 73; (with_reducible refine (chain w1.heap.size HC (by first | omega | (simp; done) | (simp; omega)) (less_lit _ _ _ true K1.out)).mono ?_); rintro e w2 ⟨rfl, HC, hz2, hs2⟩; (try simp at hz2)))
          go_wp2
          go_roundw
          case rel => exact ⟨q1, b1 / 2, j, rfl, rfl, HN.out, by omega, by omega, by omega, by omega, HC, by simp at *; omega, by simp [*], by simp [*]⟩
          case measure => simp [intOf]; omega

        · have K1 := Lib.hid (show decide (a * b < (q1 + b1) * c) = false by simp; omega)
          have HN := Lib.hid (HK.out.up (by rw [← hQ.out]; exact Int.le_ediv_of_mul_le (by omega) (by omega)))
          go_wp2_with fail
          have HC : Hid (Below w.heap.size w wr.drew) := HC0.out.drew
          have hs1 : IntKind.i64.wrap (q1 + b1) = q1 + b1 := IntWalk.i64_in _ ⟨by omega, by omega⟩
          have hs2 : decide (q1 + b1 ≤ 128849018880000) = true := by simp; omega
          go_region_held3 (fun w' => w'.cell? ⟨w1.heap.size, 0, none⟩ = some (.int .u64 (hi62 (a * b))) ∧ w'.cell? ⟨w1.heap.size, 1, none⟩ = some (.int .u64 (lo62 (a * b)))) (go_keep)
            (first
              | (go_at_call 72; refine (chain w1.heap.size HC (by first | omega | (simp; done) | (simp; omega)) (product_any _ _ _ (by omega) (by omega) (by omega) (by omega))).mono ?_; rintro e w2 ⟨rfl, HC, hz2, hs2⟩; (try simp at hz2))
              | (go_at_call 73; (with_reducible refine (chain w1.heap.size HC (by first | omega | (simp; done) | (simp; omega)) (less_lit _ _ _ false K1.out)).mono ?_); rintro e w2 ⟨rfl, HC, hz2, hs2⟩; (try simp at hz2)))
          go_wp2
          go_roundw
          case rel => exact ⟨q1 + b1, b1 / 2, j, rfl, rfl, HN.out, by omega, by omega, by omega, by omega, HC, by simp at *; omega, by simp [*], by simp [*]⟩
          case measure => simp [intOf]; omega

      · have HN := Lib.hid (HK.out.keep (by omega))
        have ht : decide (q1 + b1 ≤ 128849018880000) = false := by simp; omega
        have hs1 : IntKind.i64.wrap (q1 + b1) = q1 + b1 := IntWalk.i64_in _ ⟨by omega, by omega⟩
        go_wp2_with fail
        go_quiet (fail)
        go_wp2
        go_roundw
        case rel => exact ⟨q1, b1 / 2, j, rfl, rfl, HN.out, by omega, by omega, by omega, by omega, bel_trans HC0.out (bel_drewN _ _), by simp at *; omega, by simp [*], by simp [*]⟩
        case measure => simp [intOf]; omega
    · have HE := Lib.hid (HK.out.stop (by omega))
      obtain rfl : q1 = Q := HE.out
      go_wp2_with fail
      have HC : Hid (Below w.heap.size w wr.drew) := HC0.out.drew
      have hm : lo62 (a * b - q1 * c) = R := by rw [K8.out]; unfold lo62; omega
      have hf1 := field_low
      have hwr : IntKind.i64.wrap R = R := IntWalk.i64_in _ ⟨by omega, by omega⟩
      go_region_held3 (fun w' => w'.cell? ⟨w1.heap.size, 0, none⟩ = some (.int .u64 (hi62 (a * b))) ∧ w'.cell? ⟨w1.heap.size, 1, none⟩ = some (.int .u64 (lo62 (a * b)))) (go_keep)
        (first
          | (go_at_call 72; refine (chain w1.heap.size HC (by first | omega | (simp; done) | (simp; omega)) (product_any _ _ _ (by omega) (by omega) (by omega) (by omega))).mono ?_; rintro e w2 ⟨rfl, HC, hz2, hs2⟩; (try simp at hz2))
          | (go_at_call 74; refine (chain w1.heap.size HC (by first | omega | (simp; done) | (simp; omega)) (minus_any _ _ _ (by omega) (by omega) (by omega))).mono ?_; rintro e w2 ⟨rfl, HC, hz2, hs2⟩; (try simp at hz2)))
      go_wp2
      go_returns
      exact ⟨rfl, HC.out⟩

end Go.Proofs.Ytfkcgdnpfngdkaa

namespace Go.Proofs.Ytfkcgdnpfngdkaa
open Go.RowKit

set_option maxHeartbeats 4000000 in
theorem rxPl_any (A M : Int) (w : World) :
    Calls Try.prog 28 #[.agg #[.int .i64 A, .int .i64 M]] w fun e w' => e = .returned (.bool (plB A M)) ∧ Below w.heap.size w w' := by
  have X := Lib.hid (bel_alloc (o := .cells #[.int .i64 A, .int .i64 M] 24) (Below.refl _ (w.alloc (.cells #[.int .i64 A, .int .i64 M] 24))))
  have E : plB A M = (decide (0 ≤ A) && decide (A ≤ 10737418240000) && decide (0 ≤ M) && decide (M ≤ 128849018880000) && (decide (0 < M) || (A == 0))) := by
    rw [Bool.eq_iff_iff, plB_iff]
    simp only [Bool.and_eq_true, Bool.or_eq_true, decide_eq_true_eq, beq_iff_eq]
    omega
  rw [E]; clear E
  by_cases g0 : ¬ (0 ≤ A)
  · have d0 : decide (0 ≤ A) = false := decide_eq_false g0
    simp only [d0, Bool.true_and, Bool.false_and]
    clear g0
    go_enter Try.func28, Try.ntmps28
    go_wp2
    go_returns
    exact ⟨rfl, X.out⟩
  have h0 : 0 ≤ A := Classical.not_not.1 g0
  have d0 : decide (0 ≤ A) = true := decide_eq_true h0
  clear g0
  by_cases g1 : ¬ (A ≤ 10737418240000)
  · have d1 : decide (A ≤ 10737418240000) = false := decide_eq_false g1
    simp only [d0, d1, Bool.true_and, Bool.false_and]
    clear h0 g1
    go_enter Try.func28, Try.ntmps28
    go_wp2
    go_returns
    exact ⟨rfl, X.out⟩
  have h1 : A ≤ 10737418240000 := Classical.not_not.1 g1
  have d1 : decide (A ≤ 10737418240000) = true := decide_eq_true h1
  clear g1
  by_cases g2 : ¬ (0 ≤ M)
  · have d2 : decide (0 ≤ M) = false := decide_eq_false g2
    simp only [d0, d1, d2, Bool.true_and, Bool.false_and]
    clear h0 h1 g2
    go_enter Try.func28, Try.ntmps28
    go_wp2
    go_returns
    exact ⟨rfl, X.out⟩
  have h2 : 0 ≤ M := Classical.not_not.1 g2
  have d2 : decide (0 ≤ M) = true := decide_eq_true h2
  clear g2
  by_cases g3 : ¬ (M ≤ 128849018880000)
  · have d3 : decide (M ≤ 128849018880000) = false := decide_eq_false g3
    simp only [d0, d1, d2, d3, Bool.true_and, Bool.false_and]
    clear h0 h1 h2 g3
    go_enter Try.func28, Try.ntmps28
    go_wp2
    go_returns
    exact ⟨rfl, X.out⟩
  have h3 : M ≤ 128849018880000 := Classical.not_not.1 g3
  have d3 : decide (M ≤ 128849018880000) = true := decide_eq_true h3
  clear g3
  simp only [d0, d1, d2, d3, Bool.true_and]
  clear h0 h1 h2 h3
  by_cases h4 : 0 < M
  · have d4 : decide (0 < M) = true := decide_eq_true h4
    simp only [d4, Bool.true_or]
    clear h4
    go_enter Try.func28, Try.ntmps28
    go_wp2
    go_returns
    exact ⟨rfl, X.out⟩
  · have d4 : decide (0 < M) = false := decide_eq_false h4
    simp only [d4, Bool.false_or]
    clear h4
    generalize hB : (A == 0) = B
    go_enter Try.func28, Try.ntmps28
    go_wp2
    go_returns
    exact ⟨rfl, X.out⟩
set_option maxHeartbeats 4000000 in
set_option maxRecDepth 100000 in
theorem rxPlus_any (a b p q : Int) (w : World) (wa : IntKind.i64.wrap (a + p) = a + p) (wb : IntKind.i64.wrap (b + q) = b + q) :
    Calls Try.prog 41 #[.agg #[.int .i64 a, .int .i64 b], .agg #[.int .i64 p, .int .i64 q]] w fun e w' => e = .returned (.agg #[.int .i64 (a + p), .int .i64 (b + q)]) ∧ Below w.heap.size w w' := by
  go_enter Try.func41, Try.ntmps41
  go_wp2
  go_returns
  exact ⟨rfl, by go_grown⟩
set_option maxHeartbeats 16000000 in
set_option maxRecDepth 100000 in
theorem rxTot_any (v : Value) (l : List (Int × Int)) (w : World) (hv : Pts w v l) (hn : l.length ≤ 8) (hp : allP l = true) :
    Calls Try.prog 29 #[v] w fun e w' => e = .returned (.agg #[.int .i64 (sm fA l), .int .i64 (sm fM l)]) ∧ Below w.heap.size w w' := by
  obtain ⟨a, cap, rfl, hcap, hh⟩ := hv
  have NV0 : Hid (Pts w (.slice a l.length cap) l) := ⟨a, cap, rfl, hcap, hh⟩
  clear hh hcap
  have HS := Lib.hid (sm_step fA l)
  have HT := Lib.hid (sm_step fM l)
  have FS := Lib.hid (sm_full fA l)
  have FT := Lib.hid (sm_full fM l)
  have HX := Lib.hid (fun k (hk : k < l.length) => plB_iff.1 (allP_at hp hk))
  have HY := Lib.hid (fun k => mix_bd (allP_take hp k))
  have HL := Lib.hid (fun k => List.length_take_le k l)
  generalize sm fA l = SA at *
  generalize sm fM l = SM at *
  generalize hN : l.length = n at *
  have HB : Hid (Below w.heap.size w ((w.alloc (.cells #[.int .i64 0, .int .i64 0] 24)).alloc (.cells #[.int .i64 0, .int .i64 0] 24))) := Lib.hid (bel_alloc (bel_alloc (Below.refl _ _)))
  have T0 : Hid (Two w.heap.size ((w.alloc (.cells #[.int .i64 0, .int .i64 0] 24)).alloc (.cells #[.int .i64 0, .int .i64 0] 24)) (.int .i64 0) (.int .i64 0)) := Lib.hid ((Two.new w _ _ _).alloc _)
  have T1 := Lib.hid (two_new1 w (.cells #[.int .i64 0, .int .i64 0] 24) (.int .i64 0) (.int .i64 0) 24)
  go_enter Try.func29, Try.ntmps29
  go_wp2_with fail
  go_loopw [4] (fun i wr => ∃ k : Nat, k ≤ n ∧ i = .int .i64 k ∧ Hid (Below w.heap.size w wr) ∧ Hid (Two w.heap.size wr (.int .i64 0) (.int .i64 0)) ∧ Hid (Two (w.heap.size + 1) wr (.int .i64 (sm fA (l.take k))) (.int .i64 (sm fM (l.take k))))) (fun i _ => n - (intOf i).toNat)
  case atStart => exact ⟨0, Nat.zero_le _, rfl, HB, T0, T1⟩
  case round =>
    clear HB T0 T1
    obtain ⟨k, hk, rfl, X, T0, T1⟩ := hrel
    by_cases hlt : k < n
    · have NV := Lib.hid (NV0.out.below X.out)
      have x := HX.out k hlt
      have y := HY.out k
      have yl := HL.out k
      have S1 := Lib.hid (HS.out k hlt)
      have S2 := Lib.hid (HT.out k hlt)
      change Hid (sm fA (l.take (k + 1)) = sm fA (l.take k) + gX l k) at S1
      change Hid (sm fM (l.take (k + 1)) = sm fM (l.take k) + gR l k) at S2
      have bd : 0 ≤ sm fA (l.take k) ∧ sm fA (l.take k) ≤ 85899345920000 ∧ 0 ≤ sm fM (l.take k) ∧ sm fM (l.take k) ≤ 1030792151040000 := by omega
      clear y yl
      obtain ⟨b, off, rfl, hb, hc⟩ := NV.out.at (by omega)
      obtain ⟨c0, c1⟩ := hc k hlt
      clear hc
      generalize gX l k = A at *
      generalize gR l k = M at *
      generalize sm fA (l.take k) = S at *
      generalize sm fM (l.take k) = R at *
      have HP := Lib.hid (fun W => rxPlus_any S R A M W (wrap_in _ ⟨by omega, by omega⟩) (wrap_in _ ⟨by omega, by omega⟩))
      have l9 : (k : Int) < (n : Int) := by omega
      obtain ⟨t0, t1, t2, t3, t4⟩ := T1.out
      go_upto_region 5 with fail
      go_still_tail 5, (by kernel_rfl)
      change wpList _ _ _ _ _ wr.drew
      replace X := Lib.hid (bel_trans X.out (bel_drew wr))
      replace T0 := Lib.hid (T0.out.below (bel_drew wr))
      replace T1 := Lib.hid (T1.out.below (bel_drew wr))
      clear t0 t1 t2 t3 t4 c0 c1 NV
      generalize wr.drew = wq at *
      go_wp2_with fail
      refine (HP.out _).mono ?_
      rintro e w2 ⟨rfl, gg⟩
      replace X := Lib.hid (bel_trans X.out gg)
      replace T0 := Lib.hid (T0.out.below gg)
      replace T1 := Lib.hid (T1.out.below gg)
      clear gg
      have n1 : w.heap.size + 1 ≠ w.heap.size := by omega
      have n2 : w.heap.size ≤ w.heap.size + 1 := by omega
      have N0 := Lib.hid ((T0.out.other ⟨w.heap.size + 1, 0, none⟩ n1 (.int .i64 (S + A))).other ⟨w.heap.size + 1, 1, none⟩ n1 (.int .i64 (R + M)))
      have N1 := Lib.hid ((T1.out.set0 (.int .i64 (S + A))).set1 (.int .i64 (R + M)))
      have NX := Lib.hid ((X.out.setCell (p := ⟨w.heap.size + 1, 0, none⟩) n2 (.int .i64 (S + A))).setCell (p := ⟨w.heap.size + 1, 1, none⟩) n2 (.int .i64 (R + M)))
      obtain ⟨t0, t1, t2, t3, t4⟩ := T1.out
      go_wp2
      go_roundw
      case rel => exact ⟨k + 1, by omega, by go_num, NX, N0, by rw [S1.out, S2.out]; exact N1⟩
      case measure => simp [intOf]; omega
    · obtain rfl : k = n := by omega
      rw [FS.out, FT.out] at T1
      obtain ⟨t0, t1, t2, t3, t4⟩ := T1.out
      obtain ⟨z0, z1, z2, z3, z4⟩ := T0.out
      go_wp2
      obtain ⟨r0, r1⟩ := two_read wr w.heap.size (.int .i64 SA) (.int .i64 SM) z0 z1
      refine bodyPost_ret (v := .agg #[.int .i64 SA, .int .i64 SM]) (by simp [results, Try.results29, go_sem, r0, r1]) rfl ?_
      exact ⟨rfl, (X.out.setCell (Nat.le_refl _) _).setCell (Nat.le_refl _) _⟩
set_option maxHeartbeats 8000000 in
set_option maxRecDepth 100000 in
theorem rxSu_long (a : Option Addr) (n cap : Nat) (w : World) (h : 8 < n) (hn : n ≤ 9223372036854775807) :
    Calls Try.prog 12 #[.slice a n cap] w fun e w' => e = .returned (.tuple #[.agg #[.int .i64 0, .int .i64 0], .int .i64 8]) ∧ Below w.heap.size w w' := by
  have q : decide (8 < (n : Int)) = true := decide_eq_true (by omega)
  go_enter Try.func12, Try.ntmps12
  go_wp2
  go_returns
  exact ⟨rfl, by go_grown⟩
set_option maxHeartbeats 16000000 in
set_option maxRecDepth 100000 in
theorem rxSu_bad (a : Option Addr) (n cap m : Nat) (l : List (Int × Int)) (w : World) (NV : Hid (Pts w (.slice a n cap) l)) (hn : n ≤ 8) (hm : m < n) (hp : Hid (∀ j, j < m → plB (gX l j) (gR l j) = true)) (hq : plB (gX l m) (gR l m) = false) :
    Calls Try.prog 12 #[.slice a n cap] w fun e w' => e = .returned (.tuple #[.agg #[.int .i64 0, .int .i64 0], .int .i64 1]) ∧ Below w.heap.size w w' := by
  have q : decide (8 < (n : Int)) = false := decide_eq_false (by omega)
  have X := Lib.hid (bel_alloc (w := w) (o := .cells #[.int .i64 0, .int .i64 0] 24) (Below.refl _ _))
  have T0 := Lib.hid (Two.new w (.int .i64 0) (.int .i64 0) 24)
  have NV0 := Lib.hid NV.out
  clear NV
  go_enter Try.func12, Try.ntmps12
  go_wp2_with fail
  go_loopw [4] (fun i wr => ∃ k : Nat, k ≤ m ∧ i = .int .i64 k ∧ Hid (Below w.heap.size w wr) ∧ Hid (Two w.heap.size wr (.int .i64 0) (.int .i64 0))) (fun i _ => n - (intOf i).toNat)
  case atStart => exact ⟨0, Nat.zero_le _, rfl, X, T0⟩
  case round =>
    clear X T0
    obtain ⟨k, hk, rfl, X, T0⟩ := hrel
    have NV := Lib.hid (NV0.out.below X.out)
    by_cases hlt : k < m
    · have HP := Lib.hid (fun W => rxPl_any (gX l k) (gR l k) W)
      rw [hp.out k hlt] at HP
      have l9 : (k : Int) < (n : Int) := by omega
      obtain ⟨b, off, rfl, hb, hc⟩ := NV.out.at (by omega)
      obtain ⟨c0, c1⟩ := hc k (by omega)
      clear hc
      generalize gX l k = x at *
      generalize gR l k = y at *
      go_wp2_with fail
      refine (HP.out _).mono ?_
      rintro e w3 ⟨rfl, hb⟩
      replace X := Lib.hid (bel_trans X.out hb)
      replace T0 := Lib.hid (T0.out.below hb)
      clear hb
      go_wp2
      go_roundw
      case rel => exact ⟨k + 1, by omega, by go_num, X, T0⟩
      case measure => simp [intOf]; omega
    · obtain rfl : k = m := by omega
      have HP := Lib.hid (fun W => rxPl_any (gX l k) (gR l k) W)
      rw [hq] at HP
      clear hp hq
      have l9 : (k : Int) < (n : Int) := by omega
      obtain ⟨b, off, rfl, hb, hc⟩ := NV.out.at (by omega)
      obtain ⟨c0, c1⟩ := hc k (by omega)
      clear hc
      generalize gX l k = x at *
      generalize gR l k = y at *
      go_wp2_with fail
      refine (HP.out _).mono ?_
      rintro e w3 ⟨rfl, hb⟩
      replace X := Lib.hid (bel_trans X.out hb)
      replace T0 := Lib.hid (T0.out.below hb)
      clear hb
      obtain ⟨z0, z1, z2, z3, z4⟩ := T0.out
      go_wp2
      obtain ⟨r0, r1⟩ := two_read w3 w.heap.size (.int .i64 0) (.int .i64 0) z0 z1
      refine bodyPost_ret (v := .tuple #[.agg #[.int .i64 0, .int .i64 0], .int .i64 1]) (by simp [results, Try.results12, go_sem, r0, r1]) rfl ?_
      exact ⟨rfl, (X.out.setCell (Nat.le_refl _) _).setCell (Nat.le_refl _) _⟩
set_option maxHeartbeats 16000000 in
set_option maxRecDepth 100000 in
theorem rxSu_over (a : Option Addr) (n cap : Nat) (l : List (Int × Int)) (w : World) (NV : Hid (Pts w (.slice a n cap) l)) (hn : n ≤ 8) (hl : Hid (l.length = n)) (ha : allP l = true) (hp : Hid (∀ j, j < n → plB (gX l j) (gR l j) = true)) (hB : plB (sm fA l) (sm fM l) = false) :
    Calls Try.prog 12 #[.slice a n cap] w fun e w' => e = .returned (.tuple #[.agg #[.int .i64 0, .int .i64 0], .int .i64 15]) ∧ Below w.heap.size w w' := by
  have q : decide (8 < (n : Int)) = false := decide_eq_false (by omega)
  have X := Lib.hid (bel_alloc (w := w) (o := .cells #[.int .i64 0, .int .i64 0] 24) (Below.refl _ _))
  have T0 := Lib.hid (Two.new w (.int .i64 0) (.int .i64 0) 24)
  have NV0 := Lib.hid NV.out
  clear NV
  go_enter Try.func12, Try.ntmps12
  go_wp2_with fail
  go_loopw [4] (fun i wr => ∃ k : Nat, k ≤ n ∧ i = .int .i64 k ∧ Hid (Below w.heap.size w wr) ∧ Hid (Two w.heap.size wr (.int .i64 0) (.int .i64 0))) (fun i _ => n - (intOf i).toNat)
  case atStart => exact ⟨0, Nat.zero_le _, rfl, X, T0⟩
  case round =>
    clear X T0
    obtain ⟨k, hk, rfl, X, T0⟩ := hrel
    have NV := Lib.hid (NV0.out.below X.out)
    by_cases hlt : k < n
    · have HP := Lib.hid (fun W => rxPl_any (gX l k) (gR l k) W)
      rw [hp.out k hlt] at HP
      have l9 : (k : Int) < (n : Int) := by omega
      obtain ⟨b, off, rfl, hb, hc⟩ := NV.out.at (by omega)
      obtain ⟨c0, c1⟩ := hc k (by omega)
      clear hc
      generalize gX l k = x at *
      generalize gR l k = y at *
      go_wp2_with fail
      refine (HP.out _).mono ?_
      rintro e w3 ⟨rfl, hb⟩
      replace X := Lib.hid (bel_trans X.out hb)
      replace T0 := Lib.hid (T0.out.below hb)
      clear hb
      go_wp2
      go_roundw
      case rel => exact ⟨k + 1, by omega, by go_num, X, T0⟩
      case measure => simp [intOf]; omega
    · obtain rfl : k = n := by omega
      have HM := Lib.hid (fun W h => rxTot_any (.slice a k cap) l W h (by rw [hl.out]; exact hn) ha)
      have HP := Lib.hid (fun W => rxPl_any (sm fA l) (sm fM l) W)
      rw [hB] at HP
      generalize hx : sm fA l = x at *
      generalize hy : sm fM l = y at *
      replace hx := Lib.hid hx
      replace hy := Lib.hid hy
      go_wp2_with fail
      refine (HM.out _ NV.out).mono ?_
      rintro e w3 ⟨rfl, hb⟩
      have P0 := Lib.hid (Two.new w3 (.int .i64 x) (.int .i64 y) 24)
      replace X := Lib.hid (bel_trans (bel_trans X.out hb) (bel_alloc (o := .cells #[.int .i64 x, .int .i64 y] 24) (Below.refl _ _)))
      replace T0 := Lib.hid ((T0.out.below hb).alloc (.cells #[.int .i64 x, .int .i64 y] 24))
      clear hb
      obtain ⟨p0, p1, _, _, _⟩ := P0.out
      go_wp2_with fail
      refine (HP.out _).mono ?_
      rintro e w4 ⟨rfl, hb⟩
      replace P0 := Lib.hid (P0.out.below hb)
      replace X := Lib.hid (bel_trans X.out hb)
      replace T0 := Lib.hid (T0.out.below hb)
      clear hb p0 p1
      obtain ⟨p0, p1, _, _, _⟩ := P0.out
      obtain ⟨z0, z1, z2, z3, z4⟩ := T0.out
      go_wp2
      obtain ⟨r0, r1⟩ := two_read w4 w.heap.size (.int .i64 0) (.int .i64 0) z0 z1
      refine bodyPost_ret (v := .tuple #[.agg #[.int .i64 0, .int .i64 0], .int .i64 15]) (by simp [results, Try.results12, go_sem, r0, r1]) rfl ?_
      exact ⟨rfl, (X.out.setCell (Nat.le_refl _) _).setCell (Nat.le_refl _) _⟩
set_option maxHeartbeats 16000000 in
set_option maxRecDepth 100000 in
theorem rxSu_ok (a : Option Addr) (n cap : Nat) (l : List (Int × Int)) (w : World) (NV : Hid (Pts w (.slice a n cap) l)) (hn : n ≤ 8) (hl : Hid (l.length = n)) (ha : allP l = true) (hp : Hid (∀ j, j < n → plB (gX l j) (gR l j) = true)) (hB : plB (sm fA l) (sm fM l) = true) :
    Calls Try.prog 12 #[.slice a n cap] w fun e w' => e = .returned (.tuple #[.agg #[.int .i64 (sm fA l), .int .i64 (sm fM l)], .int .i64 0]) ∧ Below w.heap.size w w' := by
  have q : decide (8 < (n : Int)) = false := decide_eq_false (by omega)
  have X := Lib.hid (bel_alloc (w := w) (o := .cells #[.int .i64 0, .int .i64 0] 24) (Below.refl _ _))
  have T0 := Lib.hid (Two.new w (.int .i64 0) (.int .i64 0) 24)
  have NV0 := Lib.hid NV.out
  clear NV
  go_enter Try.func12, Try.ntmps12
  go_wp2_with fail
  go_loopw [4] (fun i wr => ∃ k : Nat, k ≤ n ∧ i = .int .i64 k ∧ Hid (Below w.heap.size w wr) ∧ Hid (Two w.heap.size wr (.int .i64 0) (.int .i64 0))) (fun i _ => n - (intOf i).toNat)
  case atStart => exact ⟨0, Nat.zero_le _, rfl, X, T0⟩
  case round =>
    clear X T0
    obtain ⟨k, hk, rfl, X, T0⟩ := hrel
    have NV := Lib.hid (NV0.out.below X.out)
    by_cases hlt : k < n
    · have HP := Lib.hid (fun W => rxPl_any (gX l k) (gR l k) W)
      rw [hp.out k hlt] at HP
      have l9 : (k : Int) < (n : Int) := by omega
      obtain ⟨b, off, rfl, hb, hc⟩ := NV.out.at (by omega)
      obtain ⟨c0, c1⟩ := hc k (by omega)
      clear hc
      generalize gX l k = x at *
      generalize gR l k = y at *
      go_wp2_with fail
      refine (HP.out _).mono ?_
      rintro e w3 ⟨rfl, hb⟩
      replace X := Lib.hid (bel_trans X.out hb)
      replace T0 := Lib.hid (T0.out.below hb)
      clear hb
      go_wp2
      go_roundw
      case rel => exact ⟨k + 1, by omega, by go_num, X, T0⟩
      case measure => simp [intOf]; omega
    · obtain rfl : k = n := by omega
      have HM := Lib.hid (fun W h => rxTot_any (.slice a k cap) l W h (by rw [hl.out]; exact hn) ha)
      have HP := Lib.hid (fun W => rxPl_any (sm fA l) (sm fM l) W)
      rw [hB] at HP
      generalize hx : sm fA l = x at *
      generalize hy : sm fM l = y at *
      replace hx := Lib.hid hx
      replace hy := Lib.hid hy
      go_wp2_with fail
      refine (HM.out _ NV.out).mono ?_
      rintro e w3 ⟨rfl, hb⟩
      have P0 := Lib.hid (Two.new w3 (.int .i64 x) (.int .i64 y) 24)
      replace X := Lib.hid (bel_trans (bel_trans X.out hb) (bel_alloc (o := .cells #[.int .i64 x, .int .i64 y] 24) (Below.refl _ _)))
      replace T0 := Lib.hid ((T0.out.below hb).alloc (.cells #[.int .i64 x, .int .i64 y] 24))
      clear hb
      obtain ⟨p0, p1, _, _, _⟩ := P0.out
      go_wp2_with fail
      refine (HP.out _).mono ?_
      rintro e w4 ⟨rfl, hb⟩
      replace P0 := Lib.hid (P0.out.below hb)
      replace X := Lib.hid (bel_trans X.out hb)
      replace T0 := Lib.hid (T0.out.below hb)
      clear hb p0 p1
      obtain ⟨p0, p1, _, _, _⟩ := P0.out
      obtain ⟨z0, z1, z2, z3, z4⟩ := T0.out
      go_wp2
      obtain ⟨r0, r1⟩ := two_read w4 w.heap.size (.int .i64 x) (.int .i64 y) z0 z1
      refine bodyPost_ret (v := .tuple #[.agg #[.int .i64 x, .int .i64 y], .int .i64 0]) (by simp [results, Try.results12, go_sem, r0, r1]) rfl ?_
      exact ⟨by rw [hx.out, hy.out], (X.out.setCell (Nat.le_refl _) _).setCell (Nat.le_refl _) _⟩
theorem rxSu_any (v : Value) (l : List (Int × Int)) (w : World) (hv : Pts w v l) :
    Calls Try.prog 12 #[v] w fun e w' => e = .returned (.tuple #[.agg #[.int .i64 (suA l), .int .i64 (suM l)], .int .i64 (suE l)]) ∧ Below w.heap.size w w' := by
  obtain ⟨a, cap, rfl, hcap, hh⟩ := id hv
  unfold suA suM
  by_cases h : 8 < l.length
  · have e : suE l = 8 := by unfold suE; rw [if_pos h]
    rw [e]; exact rxSu_long a _ cap w h (by omega)
  · cases ha : allP l with
    | false =>
      have e : suE l = 1 := by unfold suE; rw [if_neg h, if_pos ha]
      obtain ⟨k, hk, h1, h2⟩ := allP_bad ha
      rw [e]; exact rxSu_bad a _ cap k l w hv (by omega) hk h2 h1
    | true =>
      cases hB : plB (sm fA l) (sm fM l) with
      | false =>
        have e : suE l = 15 := by unfold suE; rw [if_neg h, if_neg (by simp [ha]), if_pos hB]
        rw [e]; exact rxSu_over a _ cap l w hv (by omega) rfl ha (fun j hj => allP_at ha hj) hB
      | true =>
        have e : suE l = 0 := suE_zero.2 ⟨by omega, ha, hB⟩
        rw [e]; exact rxSu_ok a _ cap l w hv (by omega) rfl ha (fun j hj => allP_at ha hj) hB
end Go.Proofs.Ytfkcgdnpfngdkaa

namespace Go.Proofs.Ytfkcgdnpfngdkaa
open Go.RowKit

set_option maxHeartbeats 4000000 in
theorem rPr_any (a b c Q R : Int) (w : World) (h : (isAm a && isAm b && isAm c) = true) (hc : 1 ≤ c) (hQ : Hid (a * b / c = Q)) (hR : Hid (a * b % c = R)) (hq : Q ≤ 128849018880000) :
    Calls Try.prog 45 #[.int .i64 a, .int .i64 b, .int .i64 c] w fun e w' => e = .returned (.tuple #[.int .i64 Q, .int .i64 R]) ∧ Below w.heap.size w w' := by
  have HO := Lib.hid (fun W => refOf_ok a b c Q R W h hc hQ hR hq)
  clear h hQ hR
  go_enter Try.func45, Try.ntmps45
  go_wp2_with fail
  refine (HO.out _).mono ?_
  rintro e w1 ⟨rfl, h1⟩
  have X := Lib.hid h1; clear h1
  go_wp2
  go_returns
  exact ⟨rfl, X.out⟩
set_option maxHeartbeats 8000000 in
set_option maxRecDepth 100000 in
theorem rWe_neg (a : Int) (ad : Option Addr) (n cap : Nat) (w : World) (ha : isAm a = false) :
    Calls Try.prog 48 #[.int .i64 a, .slice ad n cap] w fun e w' => e = .returned (.tuple #[.int .i64 0, .int .i64 2]) ∧ Below w.heap.size w w' := by
  have HI := Lib.hid (fun n W => is_any n W)
  have H1 := Lib.hid (fun W => is_any a W)
  rw [ha] at H1
  clear ha
  go_enter Try.func48, Try.ntmps48
  go_wp2_with fail
  refine (H1.out _).mono ?_
  rintro e w1 ⟨rfl, hw⟩
  subst hw
  go_wp2
  go_returns
  exact ⟨rfl, Below.refl _ _⟩
set_option maxHeartbeats 8000000 in
set_option maxRecDepth 100000 in
theorem rWe_nil (a : Int) (ad : Option Addr) (cap : Nat) (w : World) (ha : isAm a = true) :
    Calls Try.prog 48 #[.int .i64 a, .slice ad 0 cap] w fun e w' => e = .returned (.tuple #[.int .i64 0, .int .i64 9]) ∧ Below w.heap.size w w' := by
  have HI := Lib.hid (fun n W => is_any n W)
  have H1 := Lib.hid (fun W => is_any a W)
  rw [ha] at H1
  clear ha
  go_enter Try.func48, Try.ntmps48
  go_wp2_with fail
  refine (H1.out _).mono ?_
  rintro e w1 ⟨rfl, hw⟩
  subst hw
  go_wp2
  go_returns
  exact ⟨rfl, Below.refl _ _⟩
set_option maxHeartbeats 8000000 in
set_option maxRecDepth 100000 in
theorem rWe_long (a : Int) (ad : Option Addr) (n cap : Nat) (w : World) (ha : isAm a = true) (h1 : 64 < n) (h2 : n ≤ 9223372036854775807) :
    Calls Try.prog 48 #[.int .i64 a, .slice ad n cap] w fun e w' => e = .returned (.tuple #[.int .i64 0, .int .i64 8]) ∧ Below w.heap.size w w' := by
  have q0 : ((n : Int) == 0) = false := by rw [beq_eq_false_iff_ne]; omega
  have q1 : decide (64 < (n : Int)) = true := decide_eq_true (by omega)
  have HI := Lib.hid (fun n W => is_any n W)
  have H1 := Lib.hid (fun W => is_any a W)
  rw [ha] at H1
  clear ha
  go_enter Try.func48, Try.ntmps48
  go_wp2_with fail
  refine (H1.out _).mono ?_
  rintro e w1 ⟨rfl, hw⟩
  subst hw
  go_wp2
  go_returns
  exact ⟨rfl, Below.refl _ _⟩
/-- the weight at which it is seen that they are wrong -/
def wgB (ws : List Int) (j : Nat) : Bool := !isAm (ws.getD j 0) || !isAm ((ws.take j).sum + ws.getD j 0)
set_option maxHeartbeats 8000000 in
set_option maxRecDepth 100000 in
theorem rWe_bad (a : Int) (b off n cap : Nat) (ws : List Int) (m : Nat) (w : World) (ha : isAm a = true) (h0 : 0 < n) (h64 : n ≤ 64) (hl : Hid (ws.length = n)) (hc : Hid (∀ j, j < n → w.cell? ⟨b, off + j, none⟩ = some (.int .i64 (ws.getD j 0)))) (hm : m < n) (hp : Hid (∀ j, j < m → wgB ws j = false)) (hq : wgB ws m = true) (hS : ∀ j, 0 ≤ j → j = m → 0 ≤ (ws.take j).sum ∧ (ws.take j).sum ≤ 128849018880000) :
    Calls Try.prog 48 #[.int .i64 a, .slice (some ⟨b, off, none⟩) n cap] w fun e w' => e = .returned (.tuple #[.int .i64 0, .int .i64 2]) ∧ Below w.heap.size w w' := by
  have q0 : ((n : Int) == 0) = false := by rw [beq_eq_false_iff_ne]; omega
  have q1 : decide (64 < (n : Int)) = false := decide_eq_false (by omega)
  have HI := Lib.hid (fun n W => is_any n W)
  have H1 := Lib.hid (fun W => is_any a W)
  rw [ha] at H1
  clear ha
  go_enter Try.func48, Try.ntmps48
  go_wp2_with fail
  refine (H1.out _).mono ?_
  rintro e w1 ⟨rfl, hw⟩
  subst hw
  go_wp2_with fail
  go_loopw [6, 7] (fun s i wr => ∃ k : Nat, k ≤ m ∧ i = .int .i64 k ∧ s = .int .i64 ((ws.take k).sum) ∧ wr = w) (fun _ i _ => n - (intOf i).toNat)
  case atStart => exact ⟨0, Nat.zero_le _, rfl, rfl, rfl⟩
  case round =>
    obtain ⟨k, hk, rfl, rfl, rfl⟩ := hrel
    by_cases hlt : k < m
    · have l9 : (k : Int) < (n : Int) := by omega
      have hp1 := hp.out k hlt
      have hs := Lib.hid (sum_take_succ ws k (by rw [hl.out]; omega))
      unfold wgB at hp1
      rw [Bool.or_eq_false_iff, Bool.not_eq_false', Bool.not_eq_false'] at hp1
      obtain ⟨i1, i2⟩ := hp1
      have c0 := hc.out k (by omega)
      generalize ws.getD k 0 = x at *
      generalize (ws.take k).sum = S at *
      have HX := Lib.hid (HI.out x)
      have HY := Lib.hid (HI.out (S + x))
      rw [i1] at HX
      rw [i2] at HY
      have b1 := (isAm_iff _).1 i1
      have b2 := (isAm_iff _).1 i2
      have w1 : IntKind.i64.wrap (S + x) = S + x := wrap_in _ ⟨by omega, by omega⟩
      clear i1 i2
      go_wp2_with fail
      refine (HX.out _).mono ?_
      rintro e w2 ⟨rfl, hw⟩
      subst hw
      go_wp2_with fail
      refine (HY.out _).mono ?_
      rintro e w2 ⟨rfl, hw⟩
      subst hw
      go_wp2
      go_roundw
      case rel => exact ⟨k + 1, by omega, by go_num, by rw [hs.out], by trivial⟩
      case measure => simp [intOf]; omega
    · obtain rfl : k = m := by omega
      have l9 : (k : Int) < (n : Int) := by omega
      have c0 := hc.out k (by omega)
      unfold wgB at hq
      cases i1 : isAm (ws.getD k 0) with
      | false =>
        clear hq
        generalize ws.getD k 0 = x at *
        generalize (ws.take k).sum = S at *
        have HX := Lib.hid (HI.out x)
        rw [i1] at HX
        clear i1
        go_wp2_with fail
        refine (HX.out _).mono ?_
        rintro e w2 ⟨rfl, hw⟩
        subst hw
        go_wp2
        go_returns
        exact ⟨rfl, Below.refl _ _⟩
      | true =>
        rw [i1, Bool.not_true, Bool.false_or, Bool.not_eq_true'] at hq
        have b1 := (isAm_iff _).1 i1
        have b2 := hS k (Nat.zero_le _) rfl
        generalize ws.getD k 0 = x at *
        generalize (ws.take k).sum = S at *
        have HX := Lib.hid (HI.out x)
        have HY := Lib.hid (HI.out (S + x))
        rw [i1] at HX
        rw [hq] at HY
        have w1 : IntKind.i64.wrap (S + x) = S + x := wrap_in _ ⟨by omega, by omega⟩
        clear i1 hq
        go_wp2_with fail
        refine (HX.out _).mono ?_
        rintro e w2 ⟨rfl, hw⟩
        subst hw
        go_wp2_with fail
        refine (HY.out _).mono ?_
        rintro e w2 ⟨rfl, hw⟩
        subst hw
        go_wp2
        go_returns
        exact ⟨rfl, Below.refl _ _⟩
set_option maxHeartbeats 8000000 in
set_option maxRecDepth 100000 in
theorem rWe_zero (a : Int) (b off n cap : Nat) (ws : List Int) (w : World) (ha : isAm a = true) (h0 : 0 < n) (h64 : n ≤ 64) (hl : Hid (ws.length = n)) (hc : Hid (∀ j, j < n → w.cell? ⟨b, off + j, none⟩ = some (.int .i64 (ws.getD j 0)))) (hp : Hid (∀ j, j < n → wgB ws j = false)) (hz : Hid (ws.sum = 0)) :
    Calls Try.prog 48 #[.int .i64 a, .slice (some ⟨b, off, none⟩) n cap] w fun e w' => e = .returned (.tuple #[.int .i64 0, .int .i64 16]) ∧ Below w.heap.size w w' := by
  have q0 : ((n : Int) == 0) = false := by rw [beq_eq_false_iff_ne]; omega
  have q1 : decide (64 < (n : Int)) = false := decide_eq_false (by omega)
  have HI := Lib.hid (fun n W => is_any n W)
  have H1 := Lib.hid (fun W => is_any a W)
  rw [ha] at H1
  clear ha
  go_enter Try.func48, Try.ntmps48
  go_wp2_with fail
  refine (H1.out _).mono ?_
  rintro e w1 ⟨rfl, hw⟩
  subst hw
  go_wp2_with fail
  go_loopw [6, 7] (fun s i wr => ∃ k : Nat, k ≤ n ∧ i = .int .i64 k ∧ s = .int .i64 ((ws.take k).sum) ∧ wr = w) (fun _ i _ => n - (intOf i).toNat)
  case atStart => exact ⟨0, Nat.zero_le _, rfl, rfl, rfl⟩
  case round =>
    obtain ⟨k, hk, rfl, rfl, rfl⟩ := hrel
    by_cases hlt : k < n
    · have l9 : (k : Int) < (n : Int) := by omega
      have hp1 := hp.out k hlt
      have hs := Lib.hid (sum_take_succ ws k (by rw [hl.out]; omega))
      unfold wgB at hp1
      rw [Bool.or_eq_false_iff, Bool.not_eq_false', Bool.not_eq_false'] at hp1
      obtain ⟨i1, i2⟩ := hp1
      have c0 := hc.out k (by omega)
      generalize ws.getD k 0 = x at *
      generalize (ws.take k).sum = S at *
      have HX := Lib.hid (HI.out x)
      have HY := Lib.hid (HI.out (S + x))
      rw [i1] at HX
      rw [i2] at HY
      have b1 := (isAm_iff _).1 i1
      have b2 := (isAm_iff _).1 i2
      have w1 : IntKind.i64.wrap (S + x) = S + x := wrap_in _ ⟨by omega, by omega⟩
      clear i1 i2
      go_wp2_with fail
      refine (HX.out _).mono ?_
      rintro e w2 ⟨rfl, hw⟩
      subst hw
      go_wp2_with fail
      refine (HY.out _).mono ?_
      rintro e w2 ⟨rfl, hw⟩
      subst hw
      go_wp2
      go_roundw
      case rel => exact ⟨k + 1, by omega, by go_num, by rw [hs.out], by trivial⟩
      case measure => simp [intOf]; omega
    · obtain rfl : k = n := by omega
      have ef : ws.take k = ws := List.take_of_length_le (by rw [hl.out]; exact Nat.le_refl _)
      rw [ef, hz.out]
      go_wp2
      go_returns
      exact ⟨rfl, Below.refl _ _⟩
set_option maxHeartbeats 8000000 in
set_option maxRecDepth 100000 in
theorem rWe_ok (a : Int) (b off n cap : Nat) (ws : List Int) (T : Int) (w : World) (ha : isAm a = true) (h0 : 0 < n) (h64 : n ≤ 64) (hl : Hid (ws.length = n)) (hc : Hid (∀ j, j < n → w.cell? ⟨b, off + j, none⟩ = some (.int .i64 (ws.getD j 0)))) (hp : Hid (∀ j, j < n → wgB ws j = false)) (hz : Hid (ws.sum = T)) (hT : (T == 0) = false) :
    Calls Try.prog 48 #[.int .i64 a, .slice (some ⟨b, off, none⟩) n cap] w fun e w' => e = .returned (.tuple #[.int .i64 T, .int .i64 0]) ∧ Below w.heap.size w w' := by
  have q0 : ((n : Int) == 0) = false := by rw [beq_eq_false_iff_ne]; omega
  have q1 : decide (64 < (n : Int)) = false := decide_eq_false (by omega)
  have HI := Lib.hid (fun n W => is_any n W)
  have H1 := Lib.hid (fun W => is_any a W)
  rw [ha] at H1
  clear ha
  go_enter Try.func48, Try.ntmps48
  go_wp2_with fail
  refine (H1.out _).mono ?_
  rintro e w1 ⟨rfl, hw⟩
  subst hw
  go_wp2_with fail
  go_loopw [6, 7] (fun s i wr => ∃ k : Nat, k ≤ n ∧ i = .int .i64 k ∧ s = .int .i64 ((ws.take k).sum) ∧ wr = w) (fun _ i _ => n - (intOf i).toNat)
  case atStart => exact ⟨0, Nat.zero_le _, rfl, rfl, rfl⟩
  case round =>
    obtain ⟨k, hk, rfl, rfl, rfl⟩ := hrel
    by_cases hlt : k < n
    · have l9 : (k : Int) < (n : Int) := by omega
      have hp1 := hp.out k hlt
      have hs := Lib.hid (sum_take_succ ws k (by rw [hl.out]; omega))
      unfold wgB at hp1
      rw [Bool.or_eq_false_iff, Bool.not_eq_false', Bool.not_eq_false'] at hp1
      obtain ⟨i1, i2⟩ := hp1
      have c0 := hc.out k (by omega)
      generalize ws.getD k 0 = x at *
      generalize (ws.take k).sum = S at *
      have HX := Lib.hid (HI.out x)
      have HY := Lib.hid (HI.out (S + x))
      rw [i1] at HX
      rw [i2] at HY
      have b1 := (isAm_iff _).1 i1
      have b2 := (isAm_iff _).1 i2
      have w1 : IntKind.i64.wrap (S + x) = S + x := wrap_in _ ⟨by omega, by omega⟩
      clear i1 i2
      go_wp2_with fail
      refine (HX.out _).mono ?_
      rintro e w2 ⟨rfl, hw⟩
      subst hw
      go_wp2_with fail
      refine (HY.out _).mono ?_
      rintro e w2 ⟨rfl, hw⟩
      subst hw
      go_wp2
      go_roundw
      case rel => exact ⟨k + 1, by omega, by go_num, by rw [hs.out], by trivial⟩
      case measure => simp [intOf]; omega
    · obtain rfl : k = n := by omega
      have ef : ws.take k = ws := List.take_of_length_le (by rw [hl.out]; exact Nat.le_refl _)
      rw [ef, hz.out]
      go_wp2
      go_returns
      exact ⟨rfl, Below.refl _ _⟩
theorem wgB_none {ws : List Int} (h : ∀ j, j < ws.length → wgB ws j = false) : ws.all isAm = true ∧ (ws ≠ [] → isAm ws.sum = true) := by
  have h1 : ∀ j, j < ws.length → isAm (ws.getD j 0) = true ∧ isAm ((ws.take j).sum + ws.getD j 0) = true := fun j hj => by
    have := h j hj
    unfold wgB at this
    rwa [Bool.or_eq_false_iff, Bool.not_eq_false', Bool.not_eq_false'] at this
  constructor
  · rw [List.all_eq_true]
    intro x hx
    obtain ⟨i, hi, e⟩ := List.getElem_of_mem hx
    have := (h1 i hi).1
    rwa [List.getD_eq_getElem?_getD, List.getElem?_eq_getElem hi, Option.getD_some, e] at this
  · intro hne
    have hl : 0 < ws.length := List.length_pos_iff.2 hne
    have := (h1 (ws.length - 1) (by omega)).2
    rw [← sum_take_succ ws (ws.length - 1) (by omega), List.take_of_length_le (by omega)] at this
    exact this
theorem wgB_some {ws : List Int} (ha : ws.all isAm = true) {m : Nat} (hm : m < ws.length) (h : wgB ws m = true) : isAm ws.sum = false := by
  have hx := all_get ws ha m hm
  unfold wgB at h
  rw [hx, Bool.not_true, Bool.false_or, Bool.not_eq_true'] at h
  rw [← sum_take_succ ws m hm] at h
  have nn : ∀ x ∈ ws, 0 ≤ x := fun x hx => ((isAm_iff x).1 (List.all_eq_true.1 ha x hx)).1
  have s := sum_take_le ws nn (m + 1)
  rcases (isAm_not _).1 h with g | g
  · omega
  · exact (isAm_not _).2 (.inr (by omega))
theorem rWe_any (a : Int) (v : Value) (ws : List Int) (w : World) (hv : Ins w v ws) :
    Calls Try.prog 48 #[.int .i64 a, v] w fun e w' => e = .returned (.tuple #[.int .i64 (if divE a ws = 0 then ws.sum else 0), .int .i64 (divE a ws)]) ∧ Below w.heap.size w w' := by
  obtain ⟨ad, cap, rfl, hln, hh⟩ := id hv
  cases ha : isAm a with
  | false =>
    have e : divE a ws = 2 := by unfold divE; rw [ha]; rfl
    rw [e]; exact rWe_neg a ad _ cap w ha
  | true =>
    have eT : divE a ws = totE ws := by unfold divE; rw [ha]; rfl
    rw [eT]
    by_cases h0 : ws.length = 0
    · have e : totE ws = 9 := by unfold totE; rw [if_pos h0]
      rw [e, h0]; exact rWe_nil a ad cap w ha
    · by_cases h64 : 64 < ws.length
      · have e : totE ws = 8 := by unfold totE; rw [if_neg h0, if_pos h64]
        rw [e]; exact rWe_long a ad _ cap w ha h64 hln
      · rcases hh with hh | ⟨b, off, rfl, hb, hc⟩
        · exact absurd hh h0
        obtain ⟨s1, s2⟩ := fst_spec (wgB ws) ws.length
        have le := fst_le (wgB ws) ws.length
        generalize fst (wgB ws) ws.length = m at *
        rcases Nat.lt_or_ge m ws.length with g | g
        · have hm := s2 g
          have e : totE ws = 2 := by
            unfold totE
            rw [if_neg h0, if_neg h64]
            cases hall : ws.all isAm with
            | false => rfl
            | true => rw [wgB_some hall g hm]; rfl
          have hS : ∀ j, 0 ≤ j → j = m → 0 ≤ (ws.take j).sum ∧ (ws.take j).sum ≤ 128849018880000 := by
            rintro j _ rfl
            cases j with
            | zero => simp
            | succ j =>
              have := s1 j (by omega)
              unfold wgB at this
              rw [Bool.or_eq_false_iff, Bool.not_eq_false', Bool.not_eq_false'] at this
              rw [sum_take_succ ws j (by omega)]
              exact (isAm_iff _).1 this.2
          rw [e]; exact rWe_bad a b off _ cap ws m w ha (by omega) (by omega) rfl hc g s1 hm hS
        · obtain ⟨hall, hsum⟩ := wgB_none (ws := ws) (fun j hj => s1 j (by omega))
          have hs := hsum (by intro e; rw [e] at h0; exact h0 rfl)
          by_cases hz : ws.sum = 0
          · have e : totE ws = 16 := by unfold totE; rw [if_neg h0, if_neg h64, hall, hs, if_pos rfl, if_pos rfl, if_pos hz]
            rw [e]; exact rWe_zero a b off _ cap ws w ha (by omega) (by omega) rfl hc (Lib.hid fun j hj => s1 j (by omega)) hz
          · have e : totE ws = 0 := by unfold totE; rw [if_neg h0, if_neg h64, hall, hs, if_pos rfl, if_pos rfl, if_neg hz]
            rw [e]; exact rWe_ok a b off _ cap ws _ w ha (by omega) (by omega) rfl hc (Lib.hid fun j hj => s1 j (by omega)) rfl (by simpa using hz)
end Go.Proofs.Ytfkcgdnpfngdkaa

namespace Go.Proofs.Ytfkcgdnpfngdkaa

/-- the first one of the greatest of the first numbers -/
def fm (ts : List Int) : Nat → Nat
  | 0 => 0
  | k + 1 => if ts.getD (fm ts k) 0 < ts.getD k 0 then k else fm ts k
theorem fm_spec (ts : List Int) : ∀ k, 0 < k → fm ts k < k ∧ (∀ j, j < k → ts.getD j 0 ≤ ts.getD (fm ts k) 0) ∧ ∀ j, j < fm ts k → ts.getD j 0 < ts.getD (fm ts k) 0
  | 0, h => by omega
  | 1, _ => by
    have e : fm ts 1 = 0 := by unfold fm; split <;> rfl
    rw [e]
    exact ⟨by omega, fun j hj => by obtain rfl : j = 0 := by omega
                                    exact Int.le_refl _, fun j hj => by omega⟩
  | k + 2, _ => by
    obtain ⟨i1, i2, i3⟩ := fm_spec ts (k + 1) (by omega)
    have e : fm ts (k + 2) = if ts.getD (fm ts (k + 1)) 0 < ts.getD (k + 1) 0 then k + 1 else fm ts (k + 1) := rfl
    rw [e]
    generalize fm ts (k + 1) = p at *
    by_cases h : ts.getD p 0 < ts.getD (k + 1) 0
    · rw [if_pos h]
      refine ⟨by omega, fun j hj => ?_, fun j hj => ?_⟩
      · by_cases e : j = k + 1
        · rw [e]; exact Int.le_refl _
        · have := i2 j (by omega); omega
      · have := i2 j (by omega); omega
    · rw [if_neg h]
      refine ⟨by omega, fun j hj => ?_, i3⟩
      by_cases e : j = k + 1
      · rw [e]; omega
      · exact i2 j (by omega)
theorem pick_is {ts : List Int} {p : Nat} (hp : p < ts.length) (h1 : ∀ j, j < ts.length → ts.getD j 0 ≤ ts.getD p 0) (h2 : ∀ j, j < p → ts.getD j 0 < ts.getD p 0) : pick ts = p := by
  have hne : ts ≠ [] := by intro e; rw [e] at hp; simp at hp
  obtain ⟨m1, m2⟩ := maxOf_spec ts hne
  obtain ⟨k, k1, k2, k3, k4⟩ := idxFrom_spec _ ts 0 m1
  have pk : pick ts = k := by unfold pick Lib.idxOf; rw [k3]; omega
  have hm : ts.getD p 0 = Lib.maxOf ts := by
    have a := m2 (ts.getD p 0) (by simp [List.getD_eq_getElem?_getD, List.getElem?_eq_getElem hp])
    have b := h1 k k1
    omega
  rw [pk]
  rcases Nat.lt_trichotomy k p with g | g | g
  · have := h2 k g; omega
  · exact g
  · exact absurd hm (k4 p g)
/-- remainders, once with nothing and once with -1 where one was given -/
def RL (ts us : List Int) : Prop := us.length = ts.length ∧ ∀ i, i < ts.length → us.getD i 0 = ts.getD i 0 ∨ (ts.getD i 0 = 0 ∧ us.getD i 0 = -1)
theorem RL.refl (ts : List Int) : RL ts ts := ⟨rfl, fun _ _ => .inl rfl⟩
theorem RL.pick {ts us : List Int} (h : RL ts us) (hx : ∃ x ∈ ts, 0 < x) : pick ts = fm us ts.length := by
  obtain ⟨hl, hr⟩ := h
  obtain ⟨x, hx1, hx0⟩ := hx
  obtain ⟨i, hi, e⟩ := List.getElem_of_mem hx1
  have ei : ts.getD i 0 = x := by rw [List.getD_eq_getElem?_getD, List.getElem?_eq_getElem hi, Option.getD_some, e]
  obtain ⟨f1, f2, f3⟩ := fm_spec us ts.length (by omega)
  generalize fm us ts.length = p at *
  have hp : us.getD p 0 = ts.getD p 0 := by
    rcases hr p f1 with g | ⟨_, g⟩
    · exact g
    · have a := f2 i hi
      rcases hr i hi with b | ⟨b, _⟩ <;> omega
  have pos : 0 < ts.getD p 0 := by
    have a := f2 i hi
    rcases hr i hi with b | ⟨b, _⟩ <;> omega
  refine pick_is f1 (fun j hj => ?_) (fun j hj => ?_)
  · have a := f2 j hj
    rcases hr j hj with b | ⟨b, _⟩ <;> omega
  · have a := f3 j hj
    rcases hr j (by omega) with b | ⟨b, _⟩ <;> omega
theorem RL.step {ts us : List Int} (h : RL ts us) {p : Nat} (hp : p < ts.length) : RL (ts.set p 0) (us.set p (-1)) := by
  obtain ⟨hl, hr⟩ := h
  refine ⟨by simp [hl], fun i hi => ?_⟩
  rw [List.length_set] at hi
  rw [get_set ts p i 0 hp, get_set us p i (-1) (by omega)]
  by_cases e : p = i
  · rw [if_pos e, if_pos e]; exact .inr ⟨rfl, rfl⟩
  · rw [if_neg e, if_neg e]; exact hr i hi
/-- a round of giving: the place, what is given, what is left to give -/
theorem give_round {a : Int} {ws : List Int} (h : divE a ws = 0) {j : Nat} (hj : j < divL a ws) {us : List Int} (hu : RL (give j (divQ a ws, divR a ws)).2 us) :
    fm us ws.length < ws.length ∧ (give (j + 1) (divQ a ws, divR a ws)).1 = (give j (divQ a ws, divR a ws)).1.set (fm us ws.length) ((give j (divQ a ws, divR a ws)).1.getD (fm us ws.length) 0 + 1) ∧ RL (give (j + 1) (divQ a ws, divR a ws)).2 (us.set (fm us ws.length) (-1)) := by
  have hd := divL_pos a ws h
  have I := inv_give (divQ a ws) (divR a ws) (by simp [divQ, divR]) j (by omega)
  have hp : 0 < posN (give j (divQ a ws, divR a ws)).2 := by have := I.cnt; omega
  have hl : (give j (divQ a ws, divR a ws)).2.length = ws.length := by rw [I.l2]; simp [divR]
  have hx := posN_pos _ hp
  have pk := hu.pick hx
  rw [hl] at pk
  have hlt : fm us ws.length < ws.length := (fm_spec us ws.length (by
    obtain ⟨x, hx1, _⟩ := hx
    have := List.length_pos_of_mem hx1
    omega)).1
  refine ⟨hlt, ?_, ?_⟩
  · simp only [give, giveStep]; rw [pk]
  · have := hu.step (p := fm us ws.length) (by omega)
    simp only [give, giveStep]; rw [pk]; exact this
end Go.Proofs.Ytfkcgdnpfngdkaa

namespace Go.Proofs.Ytfkcgdnpfngdkaa
open Go.RowKit

theorem at_mem {l : List Int} {k : Nat} (hk : k < l.length) : l.getD k 0 ∈ l := by simp [List.getD_eq_getElem?_getD, List.getElem?_eq_getElem hk]
theorem cell_oneE (w : World) (v : Value) (T : TypeId) (j : Nat) (u : Value) (hj : [v][j]? = some u) : (w.alloc (.cells #[v] T)).cell? ((⟨w.heap.size, 0, none⟩ : Addr).add j) = some u := by
  match j, hj with
  | 0, hj => simp at hj; rw [Go.WideShapes.add_plain, Nat.zero_add, ← hj, World.cell?_alloc_new]; rfl
  | j + 1, hj => simp at hj
def OwnI (w : World) (B : Nat) (v : Value) (zs : List Int) : Prop := w.ownsRow B 3 1 v zs.length (zs.map (Value.int .i64))
theorem OwnI.alloc {w : World} {B : Nat} {v : Value} {zs : List Int} (h : OwnI w B v zs) (o : Obj) : OwnI (w.alloc o) B v zs := World.ownsRow.alloc h o
theorem OwnI.below {w w' : World} {B : Nat} {v : Value} {zs : List Int} (h : OwnI w B v zs) (hb : Below w.heap.size w w') : OwnI w' B v zs := row_belB h hb
theorem OwnI.nil (w : World) (B : Nat) : OwnI w B (.slice none 0 0) [] := ⟨rfl, .inl ⟨rfl, rfl⟩⟩
theorem OwnI.push {w' : World} {B n : Nat} {v' : Value} {zs : List Int} {x : Int} (hn : n = zs.length) (h : w'.ownsRow B 3 1 v' (n + 1) (zs.map (Value.int .i64) ++ [.int .i64 x])) : OwnI w' B v' (zs ++ [x]) := by
  subst hn
  unfold OwnI
  rw [List.length_append, List.map_append]
  exact h
theorem OwnI.own {w : World} {B : Nat} {v : Value} {zs : List Int} {n : Nat} (h : OwnI w B v zs) (hn : zs.length = n) (h0 : 0 < n) : ∃ g cap, v = .slice (some ⟨g, 0, none⟩) n cap ∧ Own w B g n cap zs := by
  subst hn
  have h' := h
  obtain ⟨_, h2⟩ := h
  rcases h2 with ⟨_, e⟩ | ⟨g, cap, cur, e, _⟩
  · omega
  · subst e; exact ⟨g, cap, rfl, h'⟩
/-- two rows do not lie in one block -/
def Apart (u v : Value) : Prop := ∀ g, u.ownBlock = some g → v.ownBlock ≠ some g
theorem Apart.ne {u v : Value} (h : Apart u v) : u.ownBlock = none ∨ u.ownBlock ≠ v.ownBlock := by
  cases e : u.ownBlock with
  | none => exact .inl rfl
  | some g => exact .inr fun e2 => h g e e2.symm
theorem Apart.symm {u v : Value} (h : Apart u v) : Apart v u := fun g e e2 => h g e2 e
theorem Apart.step {u u' v : Value} {W : World} {B n N : Nat} {xs : List Value} (h : Apart u v) (hu : u'.ownBlock = u.ownBlock ∨ u'.ownBlock = some N) (hv : W.ownsRow B 3 1 v n xs) (hN : W.heap.size ≤ N := by simp) : Apart u' v := fun g e e2 => by
  rcases hu with hu | hu
  · exact h g (hu ▸ e) e2
  · rw [hu] at e
    have := (World.ownsRow.lt hv g e2).2
    simp only [Option.some.injEq] at e
    omega
set_option maxHeartbeats 4000000 in
theorem rDv_err (a E : Int) (v : Value) (w : World) (hE : (E != 0) = true)
    (HW : Hid (Calls Try.prog 48 #[.int .i64 a, v] w fun e w' => e = .returned (.tuple #[.int .i64 0, .int .i64 E]) ∧ Below w.heap.size w w')) :
    Calls Try.prog 34 #[.int .i64 a, v] w fun e w' => e = .returned (.tuple #[.slice none 0 0, .int .i64 E]) ∧ Below w.heap.size w w' := by
  go_enter Try.func34, Try.ntmps34
  go_wp2_with fail
  refine HW.out.mono ?_
  rintro e w1 ⟨rfl, h1⟩
  have X := Lib.hid h1; clear h1
  go_wp2
  go_returns
  exact ⟨rfl, X.out⟩
set_option maxHeartbeats 32000000 in
set_option maxRecDepth 100000 in
theorem rDv_ok (a T : Int) (b off n cap L : Nat) (ws Q R P : List Int) (w : World) (n0 : 0 < n) (n1 : n ≤ 64) (hL1 : L ≤ 64) (ba : 0 ≤ a ∧ a ≤ 128849018880000) (hb : b < w.heap.size)
    (hc : Hid (∀ j, j < n → w.cell? ⟨b, off + j, none⟩ = some (.int .i64 (ws.getD j 0)))) (hQ : Hid (Q.length = n)) (hR : Hid (R.length = n))
    (HW : Hid (Calls Try.prog 48 #[.int .i64 a, .slice (some ⟨b, off, none⟩) n cap] w fun e w' => e = .returned (.tuple #[.int .i64 T, .int .i64 0]) ∧ Below w.heap.size w w'))
    (HP : Hid (∀ k, k < n → ∀ W, Calls Try.prog 45 #[.int .i64 a, .int .i64 (ws.getD k 0), .int .i64 T] W fun e w' => e = .returned (.tuple #[.int .i64 (Q.getD k 0), .int .i64 (R.getD k 0)]) ∧ Below W.heap.size W w'))
    (hS : Hid (∀ k, 0 ≤ (Q.take k).sum ∧ (Q.take k).sum ≤ a)) (hq : Hid (∀ k, k < n → 0 ≤ Q.getD k 0 ∧ Q.getD k 0 ≤ a)) (hL : Hid (a - Q.sum = (L : Int)))
    (GR : Hid (∀ j us, j < L → RL (give j (Q, R)).2 us → fm us n < n ∧ (give (j + 1) (Q, R)).1 = (give j (Q, R)).1.set (fm us n) ((give j (Q, R)).1.getD (fm us n) 0 + 1) ∧ RL (give (j + 1) (Q, R)).2 (us.set (fm us n) (-1))))
    (GL : Hid (∀ j, (give j (Q, R)).1.length = n ∧ (give j (Q, R)).2.length = n)) (GB : Hid (∀ j i, 0 ≤ (give j (Q, R)).1.getD i 0 ∧ (give j (Q, R)).1.getD i 0 ≤ a + j)) (GE : Hid ((give L (Q, R)).1 = P)) :
    Calls Try.prog 34 #[.int .i64 a, .slice (some ⟨b, off, none⟩) n cap] w fun e w' => ∃ g c, e = .returned (.tuple #[.slice (some ⟨g, 0, none⟩) n c, .int .i64 0]) ∧ Own w' w.heap.size g n c P ∧ Below w.heap.size w w' := by
  obtain ⟨i0, hi, hz0, hz1, hz2⟩ := info_parts Try.info3
  replace hi := Lib.hid hi
  replace hz0 := Lib.hid hz0
  replace hz1 := Lib.hid hz1
  replace hz2 := Lib.hid hz2
  have HS := Lib.hid (fun k (hk : k < n) => sum_take_succ Q k (by rw [hQ.out]; exact hk))
  have HTQ : Hid (∀ k, k < n → Q.take (k + 1) = Q.take k ++ [Q.getD k 0]) := Lib.hid fun k hk => by
    rw [List.take_succ_eq_append_getElem (by rw [hQ.out]; exact hk)]; simp [List.getD_eq_getElem?_getD, List.getElem?_eq_getElem (show k < Q.length by rw [hQ.out]; exact hk)]
  have HTR : Hid (∀ k, k < n → R.take (k + 1) = R.take k ++ [R.getD k 0]) := Lib.hid fun k hk => by
    rw [List.take_succ_eq_append_getElem (by rw [hR.out]; exact hk)]; simp [List.getD_eq_getElem?_getD, List.getElem?_eq_getElem (show k < R.length by rw [hR.out]; exact hk)]
  have HLQ : Hid (∀ k, k ≤ n → (Q.take k).length = k) := Lib.hid fun k hk => by rw [List.length_take, hQ.out]; omega
  have HLR : Hid (∀ k, k ≤ n → (R.take k).length = k) := Lib.hid fun k hk => by rw [List.length_take, hR.out]; omega
  go_enter Try.func34, Try.ntmps34
  go_wp2_with fail
  refine HW.out.mono ?_
  rintro e w1 ⟨rfl, h1⟩
  have X := Lib.hid h1; clear h1 HW
  go_wp2_with fail
  go_loopw [8, 9, 10, 11] (fun p r lf i wr => ∃ k : Nat, k ≤ n ∧ i = .int .i64 k ∧ lf = .int .i64 (a - (Q.take k).sum) ∧ Hid (OwnI wr w.heap.size p (Q.take k)) ∧ Hid (OwnI wr w.heap.size r (R.take k)) ∧ Hid (Apart p r) ∧ Hid (Below w.heap.size w wr)) (fun _ _ _ i _ => n - (intOf i).toNat)
  case atStart => exact ⟨0, Nat.zero_le _, rfl, by simp, Lib.hid (OwnI.nil _ _), Lib.hid (OwnI.nil _ _), Lib.hid (fun g e => by simp [Value.ownBlock] at e), X⟩
  case round =>
    clear X
    obtain ⟨k, hk, rfl, rfl, O8, O9, AP, X⟩ := hrel
    by_cases hlt : k < n
    · have l9 : (k : Int) < (n : Int) := by omega
      have c0 : wr.cell? ⟨b, off + k, none⟩ = some (.int .i64 (ws.getD k 0)) := by rw [(bcell X.out).1 _ _ hb]; exact hc.out k hlt
      have HPk := Lib.hid (HP.out k hlt)
      have s1 := Lib.hid (HS.out k hlt)
      have t1 := Lib.hid (HTQ.out k hlt)
      have t2 := Lib.hid (HTR.out k hlt)
      have m1 := HLQ.out k hk
      have m2 := HLR.out k hk
      have b1 := hS.out k
      have b2 := hS.out (k + 1)
      rw [s1.out] at b2
      have b3 := hq.out k hlt
      generalize ws.getD k 0 = x at *
      generalize Q.getD k 0 = q at *
      generalize R.getD k 0 = r0 at *
      generalize (Q.take k).sum = S at *
      generalize hQk : Q.take k = QK at *
      generalize hRk : R.take k = RK at *
      replace hQk := Lib.hid hQk
      replace hRk := Lib.hid hRk
      have e1 : IntKind.i64.wrap (a - S - q) = a - S - q := wrap_in _ ⟨by omega, by omega⟩
      go_wp2_with fail
      refine (HPk.out _).mono ?_
      rintro e w2 ⟨rfl, h1⟩
      replace O8 := Lib.hid (O8.out.below h1)
      replace O9 := Lib.hid (O9.out.below h1)
      replace X := Lib.hid (bel_trans X.out h1)
      clear h1 c0 HPk
      have CN := Lib.hid (cell_oneE w2 (.int .i64 q) 3)
      have OA := Lib.hid (O8.out.alloc (.cells #[.int .i64 q] 3))
      have OB := Lib.hid (O9.out.alloc (.cells #[.int .i64 q] 3))
      have XA := Lib.hid (bel_trans X.out (bel_alloc (o := .cells #[.int .i64 q] 3) (Below.refl _ _)))
      have HZ : Hid (w.heap.size ≤ (w2.alloc (.cells #[.int .i64 q] 3)).heap.size) := Lib.hid XA.out.size
      unfold OwnI at OA
      rw [m1] at OA
      go_wp2_with (at_builtin; refine wpList_append_own_at _ rfl _ _ 25 rfl w.heap.size 3 i0 (.int .i64 0) 1 8 Try.underlying25 hi.out hz0.out hz1.out hz2.out rfl (by omega) _ _ _ rfl OA.out ⟨w2.heap.size, 0, none⟩ 1 1 [.int .i64 q] rfl rfl CN.out (by intro u hu; rw [List.mem_singleton] at hu; rw [hu]; rfl) ?qd4 ?qd5 HZ.out ?_)
      case qd4 => unfold maxLen; omega
      case qd5 => omega
      intro v2 w3 hown3 hgrow _ hob
      have N8 : Hid (OwnI w3 w.heap.size v2 (QK ++ [q])) := Lib.hid (OwnI.push m1.symm hown3)
      have N9 : Hid (OwnI w3 w.heap.size _ RK) := Lib.hid (World.ownsRow.kept OB.out hgrow AP.out.symm.ne)
      have AP2 := Lib.hid (AP.out.step hob OB.out)
      have X3 := Lib.hid (XA.out.grown hgrow HZ.out (fun g hg => (World.ownsRow.lt OA.out g hg).1))
      clear hown3 hgrow hob OA OB CN HZ XA X O8 O9 AP
      have CN := Lib.hid (cell_oneE w3 (.int .i64 r0) 3)
      have OA := Lib.hid (N9.out.alloc (.cells #[.int .i64 r0] 3))
      have OB := Lib.hid (N8.out.alloc (.cells #[.int .i64 r0] 3))
      have XA := Lib.hid (bel_trans X3.out (bel_alloc (o := .cells #[.int .i64 r0] 3) (Below.refl _ _)))
      have HZ : Hid (w.heap.size ≤ (w3.alloc (.cells #[.int .i64 r0] 3)).heap.size) := Lib.hid XA.out.size
      unfold OwnI at OA
      rw [m2] at OA
      go_wp2_with (at_builtin; refine wpList_append_own_at _ rfl _ _ 25 rfl w.heap.size 3 i0 (.int .i64 0) 1 8 Try.underlying25 hi.out hz0.out hz1.out hz2.out rfl (by omega) _ _ _ rfl OA.out ⟨w3.heap.size, 0, none⟩ 1 1 [.int .i64 r0] rfl rfl CN.out (by intro u hu; rw [List.mem_singleton] at hu; rw [hu]; rfl) ?qd4 ?qd5 HZ.out ?_)
      case qd4 => unfold maxLen; omega
      case qd5 => omega
      intro v3 w4 hown3 hgrow _ hob
      have M9 : Hid (OwnI w4 w.heap.size v3 (RK ++ [r0])) := Lib.hid (OwnI.push m2.symm hown3)
      have M8 : Hid (OwnI w4 w.heap.size _ (QK ++ [q])) := Lib.hid (World.ownsRow.kept OB.out hgrow AP2.out.ne)
      have AP3 := Lib.hid (AP2.out.symm.step hob OB.out).symm
      have X4 := Lib.hid (XA.out.grown hgrow HZ.out (fun g hg => (World.ownsRow.lt OA.out g hg).1))
      clear hown3 hgrow hob OA OB CN HZ XA X3 N8 N9 AP2
      go_wp2
      go_roundw
      case rel => exact ⟨k + 1, by omega, by go_num, by rw [s1.out]; go_num, by rw [t1.out]; exact M8, by rw [t2.out]; exact M9, Lib.hid AP3, X4⟩
      case measure => simp [intOf]; omega
    · obtain rfl : n = k := by omega
      have eQ : Q.take n = Q := List.take_of_length_le (by rw [hQ.out]; exact Nat.le_refl _)
      have eR : R.take n = R := List.take_of_length_le (by rw [hR.out]; exact Nat.le_refl _)
      rw [eQ] at O8
      rw [eR] at O9
      rw [eQ, hL.out]
      obtain ⟨g8, c8, rfl, o8⟩ := O8.out.own hQ.out n0
      obtain ⟨g9, c9, rfl, o9⟩ := O9.out.own hR.out n0
      have n89 : g8 ≠ g9 := fun e => AP.out g8 rfl (by rw [e]; rfl)
      have n98 : g9 ≠ g8 := fun e => n89 e.symm
      have R8 := Lib.hid o8
      have R9 := Lib.hid o9
      clear o8 o9 O8 O9 AP eQ eR HS HTQ HTR HLQ HLR HP hS hq hL hc
      go_wp2_with fail
      go_loopw [10] (fun lf wr => ∃ (j : Nat) (us : List Int), j ≤ L ∧ lf = .int .i64 ((L : Int) - j) ∧ Hid (Own wr w.heap.size g8 n c8 (give j (Q, R)).1) ∧ Hid (Own wr w.heap.size g9 n c9 us) ∧ Hid (RL (give j (Q, R)).2 us) ∧ Hid (Below w.heap.size w wr)) (fun lf _ => (intOf lf).toNat)
      case atStart => exact ⟨0, R, Nat.zero_le _, by simp, R8, R9, Lib.hid (RL.refl _), X⟩
      case round =>
        clear R8 R9 X
        obtain ⟨j, us, hj, rfl, R8, R9, HR, X⟩ := hrel
        by_cases hlt : j < L
        · have l9 : (0 : Int) < (L : Int) - j := by omega
          have d0 : decide (0 < (L : Int) - (j : Int)) = true := decide_eq_true l9
          have w1 : IntKind.i64.wrap ((L : Int) - j - 1) = (L : Int) - j - 1 := wrap_in _ ⟨by omega, by omega⟩
          obtain ⟨p1, p2, p3⟩ := GR.out j us hlt HR.out
          have HP2 := Lib.hid p2
          have HP3 := Lib.hid p3
          have HF := Lib.hid (fm_spec us)
          have gb := GB.out j (fm us n)
          clear p2 p3 HR
          generalize (give j (Q, R)).1 = ps at *
          go_wp2_with fail
          go_loopw [14, 15] (fun bs i wi => ∃ k : Nat, k ≤ n ∧ i = .int .i64 k ∧ bs = .int .i64 (fm us k : Nat) ∧ Hid (Own wi w.heap.size g8 n c8 ps) ∧ Hid (Own wi w.heap.size g9 n c9 us) ∧ Hid (Below w.heap.size w wi)) (fun _ i _ => n - (intOf i).toNat)
          case atStart => exact ⟨0, Nat.zero_le _, rfl, rfl, R8, R9, X⟩
          case round =>
            clear R8 R9 X
            obtain ⟨k, hk, rfl, rfl, R8, R9, X⟩ := hrel
            by_cases hkn : k < n
            · have l8 : (k : Int) < (n : Int) := by omega
              have hf : fm us k < n := by
                by_cases e : 0 < k
                · have := (HF.out k e).1; omega
                · obtain rfl : k = 0 := by omega
                  exact n0
              have fs : fm us (k + 1) = if us.getD (fm us k) 0 < us.getD k 0 then k else fm us k := rfl
              have r1 := R9.out.cell k hkn
              have r2 := R9.out.cell (fm us k) hf
              have l7 : ((fm us k : Nat) : Int) < (n : Int) := by omega
              generalize us.getD k 0 = y at *
              generalize us.getD (fm us k) 0 = z at *
              generalize hfk : fm us k = f at *
              clear hfk
              by_cases hzy : z < y
              · have d : decide (z < y) = true := decide_eq_true hzy
                rw [if_pos hzy] at fs
                replace fs := Lib.hid fs
                go_wp2_with fail
                go_region
                all_goals go_wp2
                all_goals go_roundw
                all_goals try (case rel => exact ⟨k + 1, by omega, by go_num, by rw [fs.out], Lib.hid R8.out, Lib.hid R9.out, by first | exact X | exact Lib.hid (bel_trans X.out (bel_drew _)) | exact Lib.hid (bel_trans X.out (bel_drewN _ _))⟩)
                all_goals (case measure => simp [intOf]; omega)
              · have d : decide (z < y) = false := decide_eq_false hzy
                rw [if_neg hzy] at fs
                replace fs := Lib.hid fs
                go_wp2_with fail
                go_region
                all_goals go_wp2
                all_goals go_roundw
                all_goals try (case rel => exact ⟨k + 1, by omega, by go_num, by rw [fs.out], Lib.hid R8.out, Lib.hid R9.out, by first | exact X | exact Lib.hid (bel_trans X.out (bel_drew _)) | exact Lib.hid (bel_trans X.out (bel_drewN _ _))⟩)
                all_goals (case measure => simp [intOf]; omega)
            · obtain rfl : n = k := by omega
              generalize fm us n = f at *
              have l7 : ((f : Nat) : Int) < (n : Int) := by omega
              have r8 := R8.out.cell f p1
              have f8 := World.ownsRow.frozenAt R8.out f
              have r9 := R9.out.cell f p1
              have f9 := World.ownsRow.frozenAt R9.out f
              have b8 := R8.out.lt.1
              have b9 := R9.out.lt.1
              have w2 : IntKind.i64.wrap (ps.getD f 0 + 1) = ps.getD f 0 + 1 := wrap_in _ ⟨by omega, by omega⟩
              have N8 := Lib.hid ((R8.out.set f (ps.getD f 0 + 1)).other ⟨g9, f, none⟩ n98 (.int .i64 (-1)))
              have N9 := Lib.hid ((R9.out.other ⟨g8, f, none⟩ n89 (.int .i64 (ps.getD f 0 + 1))).set f (-1))
              have NX := Lib.hid ((X.out.setCell (p := ⟨g8, f, none⟩) b8 (.int .i64 (ps.getD f 0 + 1))).setCell (p := ⟨g9, f, none⟩) b9 (.int .i64 (-1)))
              generalize us.getD f 0 = y at *
              rw [← HP2.out] at N8
              generalize ps.getD f 0 = z at *
              go_wp2
              go_roundw
              case rel => exact ⟨j + 1, _, by omega, by go_num, N8, N9, HP3, NX⟩
              case measure => simp [intOf]; omega
        · obtain rfl : L = j := by omega
          have d0 : decide (0 < (L : Int) - (L : Int)) = false := decide_eq_false (by omega)
          rw [GE.out] at R8
          go_wp2
          go_returns
          exact ⟨g8, c8, rfl, R8.out, X.out⟩
theorem rDv_any (a : Int) (v : Value) (ws : List Int) (w : World) (hv : Ins w v ws) :
    (divE a ws ≠ 0 → Calls Try.prog 34 #[.int .i64 a, v] w fun e w' => e = .returned (.tuple #[.slice none 0 0, .int .i64 (divE a ws)]) ∧ Below w.heap.size w w') ∧
    (divE a ws = 0 → Calls Try.prog 34 #[.int .i64 a, v] w fun e w' => ∃ g c, e = .returned (.tuple #[.slice (some ⟨g, 0, none⟩) ws.length c, .int .i64 0]) ∧ Own w' w.heap.size g ws.length c (divP a ws) ∧ Below w.heap.size w w') := by
  have HW := rWe_any a v ws w hv
  constructor
  · intro h
    rw [if_neg h] at HW
    exact rDv_err a _ v w (by rw [bne_iff_ne]; exact h) HW
  · intro h
    rw [if_pos h, h] at HW
    obtain ⟨ha, ht⟩ := divE_zero h
    obtain ⟨t1, t2, t3, t4, t5⟩ := totE_zero ht
    obtain ⟨d1, d2, d3⟩ := div_left a ws ha ht
    have ba := (isAm_iff a).1 ha
    obtain ⟨ad, cap, rfl, hln, hh⟩ := id hv
    rcases hh with hh | ⟨b, off, rfl, hb, hc⟩
    · omega
    have q0 : ∀ x ∈ divQ a ws, 0 ≤ x := fun x hx => by
      unfold divQ at hx
      obtain ⟨y, hy, rfl⟩ := List.mem_map.1 hx
      exact (of_weight a y ws ha ht hy).2.2.2.1
    have lQ : (divQ a ws).length = ws.length := by simp [divQ]
    have lR : (divR a ws).length = ws.length := by simp [divR]
    refine rDv_ok a ws.sum b off ws.length cap (divL a ws) ws (divQ a ws) (divR a ws) (divP a ws) w t1 t2 (by omega) ba hb hc lQ lR HW (Lib.hid fun k hk W => ?_) (Lib.hid fun k => ?_) (Lib.hid fun k hk => ?_) (by show _ = _; omega) (Lib.hid fun j us hj hu => give_round h hj hu) (Lib.hid fun j => ?_) (Lib.hid fun j i => ?_) (by show _ = _; unfold divP; rw [if_pos h])
    · have hx : ws.getD k 0 ∈ ws := at_mem hk
      obtain ⟨_, _, _, o4, o5, _, _⟩ := of_weight a _ ws ha ht hx
      rw [divQ_get a ws k hk, divR_get a ws k hk]
      exact rPr_any a _ _ _ _ W (by rw [ha, all_get ws t3 k hk, t4]; rfl) (by omega) rfl rfl (by omega)
    · have := sum_take_le (divQ a ws) q0 k; omega
    · have hx : ws.getD k 0 ∈ ws := at_mem hk
      obtain ⟨_, _, _, o4, o5, _, _⟩ := of_weight a _ ws ha ht hx
      rw [divQ_get a ws k hk]; exact ⟨o4, o5⟩
    · have := give_len j (divQ a ws, divR a ws)
      exact ⟨this.1.trans lQ, this.2.trans lR⟩
    · refine give_bd j (divQ a ws) (divR a ws) a (fun j => ?_) i
      by_cases hj : j < ws.length
      · have hx : ws.getD j 0 ∈ ws := at_mem hj
        obtain ⟨_, _, _, o4, o5, _, _⟩ := of_weight a _ ws ha ht hx
        rw [divQ_get a ws j hj]; exact ⟨o4, o5⟩
      · rw [List.getD_eq_getElem?_getD, List.getElem?_eq_none (by omega)]; simp; exact ba.1
end Go.Proofs.Ytfkcgdnpfngdkaa

namespace Go.Proofs.Ytfkcgdnpfngdkaa
open Go.RowKit

set_option maxHeartbeats 4000000 in
set_option maxRecDepth 100000 in
theorem rxMinus_any (a b p q : Int) (w : World) (wa : IntKind.i64.wrap (a - p) = a - p) (wb : IntKind.i64.wrap (b - q) = b - q) :
    Calls Try.prog 32 #[.agg #[.int .i64 a, .int .i64 b], .agg #[.int .i64 p, .int .i64 q]] w fun e w' => e = .returned (.agg #[.int .i64 (a - p), .int .i64 (b - q)]) ∧ Below w.heap.size w w' := by
  go_enter Try.func32, Try.ntmps32
  go_wp2
  go_returns
  exact ⟨rfl, by go_grown⟩
set_option maxHeartbeats 4000000 in
set_option maxRecDepth 100000 in
theorem rxTake_dry (A M m : Int) (w : World) (h : (M == 0) = true) :
    Calls Try.prog 31 #[.agg #[.int .i64 A, .int .i64 M], .int .i64 m] w fun e w' => e = .returned (.agg #[.int .i64 0, .int .i64 0]) ∧ Below w.heap.size w w' := by
  go_enter Try.func31, Try.ntmps31
  go_wp2
  go_returns
  exact ⟨rfl, by go_grown⟩
set_option maxHeartbeats 8000000 in
set_option maxRecDepth 100000 in
theorem rxTake_ok (A M m q r : Int) (w : World) (h : (M == 0) = false) (HP : Hid (∀ W, Calls Try.prog 45 #[.int .i64 A, .int .i64 m, .int .i64 M] W fun e w' => e = .returned (.tuple #[.int .i64 q, .int .i64 r]) ∧ Below W.heap.size W w')) :
    Calls Try.prog 31 #[.agg #[.int .i64 A, .int .i64 M], .int .i64 m] w fun e w' => e = .returned (.agg #[.int .i64 q, .int .i64 m]) ∧ Below w.heap.size w w' := by
  have T0 := Lib.hid ((Two.new w (.int .i64 A) (.int .i64 M) 24).alloc (.cells #[.int .i64 0, .int .i64 0] 24))
  have T1 := Lib.hid (two_new1 w (.cells #[.int .i64 A, .int .i64 M] 24) (.int .i64 0) (.int .i64 0) 24)
  have X : Hid (Below w.heap.size w ((w.alloc (.cells #[.int .i64 A, .int .i64 M] 24)).alloc (.cells #[.int .i64 0, .int .i64 0] 24))) := Lib.hid (bel_alloc (bel_alloc (Below.refl _ _)))
  obtain ⟨b0, b1, b2, b3, b4⟩ := T0.out
  go_enter Try.func31, Try.ntmps31
  go_wp2_with fail
  refine (HP.out _).mono ?_
  rintro e w1 ⟨rfl, h1⟩
  clear b0 b1 b2 b3 b4
  replace T1 := Lib.hid (T1.out.below h1)
  replace X := Lib.hid (bel_trans X.out h1)
  clear h1
  obtain ⟨z0, z1, z2, z3, z4⟩ := T1.out
  have l1 : w.heap.size ≤ w.heap.size + 1 := by omega
  go_wp2
  obtain ⟨r0, r1⟩ := two_read w1 (w.heap.size + 1) (.int .i64 q) (.int .i64 m) z0 z1
  refine bodyPost_ret (v := .agg #[.int .i64 q, .int .i64 m]) (by simp [results, Try.results31, go_sem, r0, r1]) rfl ?_
  exact ⟨rfl, (X.out.setCell l1 _).setCell l1 _⟩
theorem rxTake_any (A M m : Int) (w : World) (hP : plB A M = true) (h0 : 0 ≤ m) (h1 : m ≤ M) :
    Calls Try.prog 31 #[.agg #[.int .i64 A, .int .i64 M], .int .i64 m] w fun e w' => e = .returned (.agg #[.int .i64 (A * m / M), .int .i64 m]) ∧ Below w.heap.size w w' := by
  obtain ⟨p1, p2, p3, p4, p5⟩ := plB_iff.1 hP
  by_cases e : M = 0
  · obtain rfl : m = 0 := by omega
    rw [Int.mul_zero, Int.zero_ediv]
    exact rxTake_dry A M 0 w (by simpa using e)
  · have b := draw_bd hP h0 h1
    exact rxTake_ok A M m _ _ w (by simpa using e) (Lib.hid fun W => rPr_any A m M _ _ W (by rw [(isAm_iff A).2 ⟨p1, by omega⟩, (isAm_iff m).2 ⟨h0, by omega⟩, (isAm_iff M).2 ⟨p3, p4⟩]; rfl) (by omega) rfl rfl (by omega))
set_option maxHeartbeats 16000000 in
set_option maxRecDepth 100000 in
theorem rxDr_bad (A M m : Int) (w : World) (hP : plB A M = false) :
    Calls Try.prog 14 #[.agg #[.int .i64 A, .int .i64 M], .int .i64 m] w fun e w' => e = .returned (.tuple #[.agg #[.int .i64 0, .int .i64 0], .agg #[.int .i64 0, .int .i64 0], .int .i64 1]) ∧ Below w.heap.size w w' := by
  have HP := Lib.hid (fun W => rxPl_any A M W)
  rw [hP] at HP
  clear hP
  have T0 := Lib.hid (((Two.new w (.int .i64 A) (.int .i64 M) 24).alloc (.cells #[.int .i64 0, .int .i64 0] 24)).alloc (.cells #[.int .i64 0, .int .i64 0] 24))
  have T1 := Lib.hid ((two_new1 w (.cells #[.int .i64 A, .int .i64 M] 24) (.int .i64 0) (.int .i64 0) 24).alloc (.cells #[.int .i64 0, .int .i64 0] 24))
  have T2 := Lib.hid (two_new2 w (.cells #[.int .i64 A, .int .i64 M] 24) (.cells #[.int .i64 0, .int .i64 0] 24) (.int .i64 0) (.int .i64 0) 24)
  have HB : Hid (Below w.heap.size w (((w.alloc (.cells #[.int .i64 A, .int .i64 M] 24)).alloc (.cells #[.int .i64 0, .int .i64 0] 24)).alloc (.cells #[.int .i64 0, .int .i64 0] 24))) := Lib.hid (bel_alloc (bel_alloc (bel_alloc (Below.refl _ _))))
  obtain ⟨b0, b1, b2, b3, b4⟩ := T0.out
  go_enter Try.func14, Try.ntmps14
  go_wp2_with fail
  refine (HP.out _).mono ?_
  rintro e w1 ⟨rfl, h1⟩
  clear b0 b1 b2 b3 b4
  replace T0 := Lib.hid (T0.out.below h1)
  replace T1 := Lib.hid (T1.out.below h1)
  replace T2 := Lib.hid (T2.out.below h1)
  replace HB := Lib.hid (bel_trans HB.out h1)
  clear h1
  obtain ⟨b0, b1, b2, b3, b4⟩ := T0.out
  obtain ⟨c0, c1, c2, c3, c4⟩ := T1.out
  obtain ⟨d0, d1, d2, d3, d4⟩ := T2.out
  go_wp2
  obtain ⟨⟨r0, r1⟩, r2, r3⟩ := two_read2 w1 (w.heap.size + 1) (w.heap.size + 1 + 1) (.int .i64 0) (.int .i64 0) (.int .i64 0) (.int .i64 0) (by omega) c0 c1 d0 d1
  have l1 : w.heap.size ≤ w.heap.size + 1 := by omega
  have l2 : w.heap.size ≤ w.heap.size + 1 + 1 := by omega
  generalize w.heap.size + 1 + 1 = D at *
  generalize w.heap.size + 1 = C at *
  refine bodyPost_ret (v := .tuple #[.agg #[.int .i64 0, .int .i64 0], .agg #[.int .i64 0, .int .i64 0], .int .i64 1]) (by simp [results, Try.results14, go_sem, r0, r1, r2, r3]) rfl ?_
  exact ⟨rfl, (((HB.out.setCell l1 _).setCell l1 _).setCell l2 _).setCell l2 _⟩
set_option maxHeartbeats 16000000 in
set_option maxRecDepth 100000 in
theorem rxDr_neg (A M m : Int) (w : World) (hP : plB A M = true) (h : m < 0) :
    Calls Try.prog 14 #[.agg #[.int .i64 A, .int .i64 M], .int .i64 m] w fun e w' => e = .returned (.tuple #[.agg #[.int .i64 0, .int .i64 0], .agg #[.int .i64 0, .int .i64 0], .int .i64 2]) ∧ Below w.heap.size w w' := by
  have HP := Lib.hid (fun W => rxPl_any A M W)
  rw [hP] at HP
  clear hP
  have T0 := Lib.hid (((Two.new w (.int .i64 A) (.int .i64 M) 24).alloc (.cells #[.int .i64 0, .int .i64 0] 24)).alloc (.cells #[.int .i64 0, .int .i64 0] 24))
  have T1 := Lib.hid ((two_new1 w (.cells #[.int .i64 A, .int .i64 M] 24) (.int .i64 0) (.int .i64 0) 24).alloc (.cells #[.int .i64 0, .int .i64 0] 24))
  have T2 := Lib.hid (two_new2 w (.cells #[.int .i64 A, .int .i64 M] 24) (.cells #[.int .i64 0, .int .i64 0] 24) (.int .i64 0) (.int .i64 0) 24)
  have HB : Hid (Below w.heap.size w (((w.alloc (.cells #[.int .i64 A, .int .i64 M] 24)).alloc (.cells #[.int .i64 0, .int .i64 0] 24)).alloc (.cells #[.int .i64 0, .int .i64 0] 24))) := Lib.hid (bel_alloc (bel_alloc (bel_alloc (Below.refl _ _))))
  obtain ⟨b0, b1, b2, b3, b4⟩ := T0.out
  go_enter Try.func14, Try.ntmps14
  go_wp2_with fail
  refine (HP.out _).mono ?_
  rintro e w1 ⟨rfl, h1⟩
  clear b0 b1 b2 b3 b4
  replace T0 := Lib.hid (T0.out.below h1)
  replace T1 := Lib.hid (T1.out.below h1)
  replace T2 := Lib.hid (T2.out.below h1)
  replace HB := Lib.hid (bel_trans HB.out h1)
  clear h1
  obtain ⟨b0, b1, b2, b3, b4⟩ := T0.out
  have q : decide (m < 0) = true := decide_eq_true h
  obtain ⟨c0, c1, c2, c3, c4⟩ := T1.out
  obtain ⟨d0, d1, d2, d3, d4⟩ := T2.out
  go_wp2
  obtain ⟨⟨r0, r1⟩, r2, r3⟩ := two_read2 w1 (w.heap.size + 1) (w.heap.size + 1 + 1) (.int .i64 0) (.int .i64 0) (.int .i64 0) (.int .i64 0) (by omega) c0 c1 d0 d1
  have l1 : w.heap.size ≤ w.heap.size + 1 := by omega
  have l2 : w.heap.size ≤ w.heap.size + 1 + 1 := by omega
  generalize w.heap.size + 1 + 1 = D at *
  generalize w.heap.size + 1 = C at *
  refine bodyPost_ret (v := .tuple #[.agg #[.int .i64 0, .int .i64 0], .agg #[.int .i64 0, .int .i64 0], .int .i64 2]) (by simp [results, Try.results14, go_sem, r0, r1, r2, r3]) rfl ?_
  exact ⟨rfl, (((HB.out.setCell l1 _).setCell l1 _).setCell l2 _).setCell l2 _⟩
set_option maxHeartbeats 16000000 in
set_option maxRecDepth 100000 in
theorem rxDr_short (A M m : Int) (w : World) (hP : plB A M = true) (h : 0 ≤ m) (g : M < m) :
    Calls Try.prog 14 #[.agg #[.int .i64 A, .int .i64 M], .int .i64 m] w fun e w' => e = .returned (.tuple #[.agg #[.int .i64 0, .int .i64 0], .agg #[.int .i64 0, .int .i64 0], .int .i64 17]) ∧ Below w.heap.size w w' := by
  have HP := Lib.hid (fun W => rxPl_any A M W)
  rw [hP] at HP
  clear hP
  have T0 := Lib.hid (((Two.new w (.int .i64 A) (.int .i64 M) 24).alloc (.cells #[.int .i64 0, .int .i64 0] 24)).alloc (.cells #[.int .i64 0, .int .i64 0] 24))
  have T1 := Lib.hid ((two_new1 w (.cells #[.int .i64 A, .int .i64 M] 24) (.int .i64 0) (.int .i64 0) 24).alloc (.cells #[.int .i64 0, .int .i64 0] 24))
  have T2 := Lib.hid (two_new2 w (.cells #[.int .i64 A, .int .i64 M] 24) (.cells #[.int .i64 0, .int .i64 0] 24) (.int .i64 0) (.int .i64 0) 24)
  have HB : Hid (Below w.heap.size w (((w.alloc (.cells #[.int .i64 A, .int .i64 M] 24)).alloc (.cells #[.int .i64 0, .int .i64 0] 24)).alloc (.cells #[.int .i64 0, .int .i64 0] 24))) := Lib.hid (bel_alloc (bel_alloc (bel_alloc (Below.refl _ _))))
  obtain ⟨b0, b1, b2, b3, b4⟩ := T0.out
  go_enter Try.func14, Try.ntmps14
  go_wp2_with fail
  refine (HP.out _).mono ?_
  rintro e w1 ⟨rfl, h1⟩
  clear b0 b1 b2 b3 b4
  replace T0 := Lib.hid (T0.out.below h1)
  replace T1 := Lib.hid (T1.out.below h1)
  replace T2 := Lib.hid (T2.out.below h1)
  replace HB := Lib.hid (bel_trans HB.out h1)
  clear h1
  obtain ⟨b0, b1, b2, b3, b4⟩ := T0.out
  have q : decide (m < 0) = false := decide_eq_false (by omega)
  have q2 : decide (M < m) = true := decide_eq_true g
  obtain ⟨c0, c1, c2, c3, c4⟩ := T1.out
  obtain ⟨d0, d1, d2, d3, d4⟩ := T2.out
  go_wp2
  obtain ⟨⟨r0, r1⟩, r2, r3⟩ := two_read2 w1 (w.heap.size + 1) (w.heap.size + 1 + 1) (.int .i64 0) (.int .i64 0) (.int .i64 0) (.int .i64 0) (by omega) c0 c1 d0 d1
  have l1 : w.heap.size ≤ w.heap.size + 1 := by omega
  have l2 : w.heap.size ≤ w.heap.size + 1 + 1 := by omega
  generalize w.heap.size + 1 + 1 = D at *
  generalize w.heap.size + 1 = C at *
  refine bodyPost_ret (v := .tuple #[.agg #[.int .i64 0, .int .i64 0], .agg #[.int .i64 0, .int .i64 0], .int .i64 17]) (by simp [results, Try.results14, go_sem, r0, r1, r2, r3]) rfl ?_
  exact ⟨rfl, (((HB.out.setCell l1 _).setCell l1 _).setCell l2 _).setCell l2 _⟩
set_option maxHeartbeats 16000000 in
set_option maxRecDepth 100000 in
theorem rxDr_ok (A M m : Int) (q : Int) (w : World) (hP : plB A M = true) (h : 0 ≤ m) (g : m ≤ M) (HT : Hid (∀ W, Calls Try.prog 31 #[.agg #[.int .i64 A, .int .i64 M], .int .i64 m] W fun e w' => e = .returned (.agg #[.int .i64 q, .int .i64 m]) ∧ Below W.heap.size W w')) (HM : Hid (∀ W, Calls Try.prog 32 #[.agg #[.int .i64 A, .int .i64 M], .agg #[.int .i64 q, .int .i64 m]] W fun e w' => e = .returned (.agg #[.int .i64 (A - q), .int .i64 (M - m)]) ∧ Below W.heap.size W w')) :
    Calls Try.prog 14 #[.agg #[.int .i64 A, .int .i64 M], .int .i64 m] w fun e w' => e = .returned (.tuple #[.agg #[.int .i64 q, .int .i64 m], .agg #[.int .i64 (A - q), .int .i64 (M - m)], .int .i64 0]) ∧ Below w.heap.size w w' := by
  have HP := Lib.hid (fun W => rxPl_any A M W)
  rw [hP] at HP
  clear hP
  have T0 := Lib.hid (((Two.new w (.int .i64 A) (.int .i64 M) 24).alloc (.cells #[.int .i64 0, .int .i64 0] 24)).alloc (.cells #[.int .i64 0, .int .i64 0] 24))
  have T1 := Lib.hid ((two_new1 w (.cells #[.int .i64 A, .int .i64 M] 24) (.int .i64 0) (.int .i64 0) 24).alloc (.cells #[.int .i64 0, .int .i64 0] 24))
  have T2 := Lib.hid (two_new2 w (.cells #[.int .i64 A, .int .i64 M] 24) (.cells #[.int .i64 0, .int .i64 0] 24) (.int .i64 0) (.int .i64 0) 24)
  have HB : Hid (Below w.heap.size w (((w.alloc (.cells #[.int .i64 A, .int .i64 M] 24)).alloc (.cells #[.int .i64 0, .int .i64 0] 24)).alloc (.cells #[.int .i64 0, .int .i64 0] 24))) := Lib.hid (bel_alloc (bel_alloc (bel_alloc (Below.refl _ _))))
  obtain ⟨b0, b1, b2, b3, b4⟩ := T0.out
  go_enter Try.func14, Try.ntmps14
  go_wp2_with fail
  refine (HP.out _).mono ?_
  rintro e w1 ⟨rfl, h1⟩
  clear b0 b1 b2 b3 b4
  replace T0 := Lib.hid (T0.out.below h1)
  replace T1 := Lib.hid (T1.out.below h1)
  replace T2 := Lib.hid (T2.out.below h1)
  replace HB := Lib.hid (bel_trans HB.out h1)
  clear h1
  obtain ⟨b0, b1, b2, b3, b4⟩ := T0.out
  have q1 : decide (m < 0) = false := decide_eq_false (by omega)
  have q2 : decide (M < m) = false := decide_eq_false (by omega)
  go_wp2_with fail
  refine (HT.out _).mono ?_
  rintro e w2 ⟨rfl, h1⟩
  clear b0 b1 b2 b3 b4
  have T7 := Lib.hid (Two.new w2 (.int .i64 q) (.int .i64 m) 24)
  replace T0 := Lib.hid ((T0.out.below h1).alloc (.cells #[.int .i64 q, .int .i64 m] 24))
  replace T1 := Lib.hid ((T1.out.below h1).alloc (.cells #[.int .i64 q, .int .i64 m] 24))
  replace T2 := Lib.hid ((T2.out.below h1).alloc (.cells #[.int .i64 q, .int .i64 m] 24))
  replace HB := Lib.hid (bel_trans (bel_trans HB.out h1) (bel_alloc (Below.refl _ (w2.alloc (.cells #[.int .i64 q, .int .i64 m] 24)))))
  clear h1
  go_upto_region 8 with fail
  generalize w2.alloc (.cells #[.int .i64 q, .int .i64 m] 24) = W at *
  generalize w2.heap.size = g7 at *
  have D0 := Lib.hid (T0.out.below (bel_drew W))
  have D7 := Lib.hid (T7.out.below (bel_drew W))
  have D1 := Lib.hid (T1.out.below (bel_drew W))
  have D2 := Lib.hid (T2.out.below (bel_drew W))
  have DB := Lib.hid (bel_trans HB.out (bel_drew W))
  obtain ⟨b0, b1, b2, b3, b4⟩ := T0.out
  obtain ⟨a0, a1, a2, a3, a4⟩ := T7.out
  have l1 : w.heap.size ≤ w.heap.size + 1 := by omega
  have l2 : w.heap.size ≤ w.heap.size + 1 + 1 := by omega
  clear T0 T1 T2 T7 HB
  go_region_with (go_at_call 32; refine (HM.out _).mono ?_; rintro e w3 ⟨rfl, h1⟩; have B3 := Lib.hid (bel_trans DB.out h1); obtain ⟨e0, e1, e2, e3, e4⟩ := (D7.out.below h1); obtain ⟨c0, c1, c2, c3, c4⟩ := (D1.out.below h1); obtain ⟨d0, d1, d2, d3, d4⟩ := (D2.out.below h1); clear h1)
  all_goals go_wp2
  all_goals
    obtain ⟨⟨r0, r1⟩, r2, r3⟩ := two_read2 w3 (w.heap.size + 1) (w.heap.size + 1 + 1) (.int .i64 q) (.int .i64 m) (.int .i64 (A - q)) (.int .i64 (M - m)) (by omega) c0 c1 d0 d1
    obtain ⟨⟨s0, s1⟩, s2, s3⟩ := two_read2 w3 (w.heap.size + 1 + 1) (w.heap.size + 1) (.int .i64 (A - q)) (.int .i64 (M - m)) (.int .i64 q) (.int .i64 m) (by omega) d0 d1 c0 c1
    generalize w.heap.size + 1 + 1 = D at *
    generalize w.heap.size + 1 = C at *
    refine bodyPost_ret (v := .tuple #[.agg #[.int .i64 q, .int .i64 m], .agg #[.int .i64 (A - q), .int .i64 (M - m)], .int .i64 0]) (by simp [results, Try.results14, go_sem, r0, r1, r2, r3, s0, s1, s2, s3]) rfl ?_
    exact ⟨rfl, by first | exact (((B3.out.setCell l1 _).setCell l1 _).setCell l2 _).setCell l2 _ | exact (((B3.out.setCell l2 _).setCell l2 _).setCell l1 _).setCell l1 _ | exact bel_trans ((((B3.out.setCell l1 _).setCell l1 _).setCell l2 _).setCell l2 _) (bel_drew _)⟩
theorem rxDr_any (A M m : Int) (w : World) :
    Calls Try.prog 14 #[.agg #[.int .i64 A, .int .i64 M], .int .i64 m] w fun e w' => e = .returned (.tuple #[.agg #[.int .i64 (drA A M m), .int .i64 (drM A M m)], .agg #[.int .i64 (rsA A M m), .int .i64 (rsM A M m)], .int .i64 (drE A M m)]) ∧ Below w.heap.size w w' := by
  unfold drA drM rsA rsM
  cases hP : plB A M with
  | false =>
    have e : drE A M m = 1 := by unfold drE; rw [if_pos hP]
    rw [e]; exact rxDr_bad A M m w hP
  | true =>
    by_cases h : m < 0
    · have e : drE A M m = 2 := by unfold drE; rw [hP, if_neg (by simp), if_pos h]
      rw [e]; exact rxDr_neg A M m w hP h
    · by_cases g : M < m
      · have e : drE A M m = 17 := by unfold drE; rw [hP, if_neg (by simp), if_neg h, if_pos g]
        rw [e]; exact rxDr_short A M m w hP (by omega) g
      · have e : drE A M m = 0 := drE_zero.2 ⟨hP, by omega, by omega⟩
        rw [e]
        have b := draw_bd hP (show 0 ≤ m by omega) (show m ≤ M by omega)
        have p := plB_iff.1 hP
        exact rxDr_ok A M m _ w hP (by omega) (by omega) (Lib.hid fun W => rxTake_any A M m W hP (by omega) (by omega)) (Lib.hid fun W => rxMinus_any A M _ m W (wrap_in _ ⟨by omega, by omega⟩) (wrap_in _ ⟨by omega, by omega⟩))
end Go.Proofs.Ytfkcgdnpfngdkaa

namespace Go.Proofs.Ytfkcgdnpfngdkaa
open Go.RowKit

set_option maxHeartbeats 4000000 in
set_option maxRecDepth 100000 in
theorem rxDv_bad (A M : Int) (v : Value) (w : World) (hP : plB A M = false) :
    Calls Try.prog 16 #[.agg #[.int .i64 A, .int .i64 M], v] w fun e w' => e = .returned (.tuple #[.slice none 0 0, .int .i64 1]) ∧ Below w.heap.size w w' := by
  have HP := Lib.hid (fun W => rxPl_any A M W)
  rw [hP] at HP
  have X := Lib.hid (bel_alloc (w := w) (o := .cells #[.int .i64 A, .int .i64 M] 24) (Below.refl _ _))
  go_enter Try.func16, Try.ntmps16
  go_wp2_with fail
  refine (HP.out _).mono ?_
  rintro e w1 ⟨rfl, h1⟩
  replace X := Lib.hid (bel_trans X.out h1); clear h1
  go_wp2
  go_returns
  exact ⟨rfl, X.out⟩
set_option maxHeartbeats 4000000 in
set_option maxRecDepth 100000 in
theorem rxDv_err (A M E : Int) (v : Value) (ws : List Int) (w : World) (hv : Ins w v ws) (hP : plB A M = true) (hE : (E != 0) = true) (hd : Hid (divE M ws = E)) :
    Calls Try.prog 16 #[.agg #[.int .i64 A, .int .i64 M], v] w fun e w' => e = .returned (.tuple #[.slice none 0 0, .int .i64 E]) ∧ Below w.heap.size w w' := by
  have HP := Lib.hid (fun W => rxPl_any A M W)
  rw [hP] at HP
  have T0 := Lib.hid (Two.new w (.int .i64 A) (.int .i64 M) 24)
  have X := Lib.hid (bel_alloc (w := w) (o := .cells #[.int .i64 A, .int .i64 M] 24) (Below.refl _ _))
  have HV := Lib.hid (hv.alloc (.cells #[.int .i64 A, .int .i64 M] 24))
  have hne : divE M ws ≠ 0 := by rw [hd.out]; simpa using hE
  have HD := Lib.hid (fun W h => (rDv_any M v ws W h).1 hne)
  rw [hd.out] at HD
  clear hv hd
  go_enter Try.func16, Try.ntmps16
  go_wp2_with fail
  refine (HP.out _).mono ?_
  rintro e w1 ⟨rfl, h1⟩
  replace T0 := Lib.hid (T0.out.below h1)
  replace HV := Lib.hid (HV.out.below h1)
  replace X := Lib.hid (bel_trans X.out h1); clear h1
  obtain ⟨t0, t1, t2, t3, t4⟩ := T0.out
  go_wp2_with fail
  refine (HD.out _ HV.out).mono ?_
  rintro e w2 ⟨rfl, h1⟩
  replace X := Lib.hid (bel_trans X.out h1); clear h1
  go_wp2
  go_returns
  exact ⟨rfl, X.out⟩
set_option maxHeartbeats 16000000 in
set_option maxRecDepth 100000 in
theorem rxDv_good (A M : Int) (v : Value) (ws ps qs : List Int) (n : Nat) (w : World) (hv : Ins w v ws) (hP : plB A M = true) (hn : n ≤ 64) (h1 : 0 < n) (hp : Hid (ps.length = n)) (hq : Hid (qs.length = n)) (hM : (M == 0) = false)
    (HD : Hid (∀ W, Ins W v ws → Calls Try.prog 34 #[.int .i64 M, v] W fun e w' => ∃ g c, e = .returned (.tuple #[.slice (some ⟨g, 0, none⟩) n c, .int .i64 0]) ∧ Own w' W.heap.size g n c ps ∧ Below W.heap.size W w'))
    (HE : Hid (∀ a cap W, Ins W (.slice a n cap) ps → Calls Try.prog 34 #[.int .i64 A, .slice a n cap] W fun e w' => ∃ g c, e = .returned (.tuple #[.slice (some ⟨g, 0, none⟩) n c, .int .i64 0]) ∧ Own w' W.heap.size g n c qs ∧ Below W.heap.size W w')) :
    Calls Try.prog 16 #[.agg #[.int .i64 A, .int .i64 M], v] w fun e w' => ∃ u, e = .returned (.tuple #[u, .int .i64 0]) ∧ Pts w' u (qs.zip ps) ∧ Below w.heap.size w w' := by
  obtain ⟨i0, hi, hz0, hz1, hz2⟩ := info_parts lq_info
  have HP := Lib.hid (fun W => rxPl_any A M W)
  rw [hP] at HP
  have HZ : Hid ((qs.zip ps).length = n) := by show _ = _; rw [List.length_zip, hp.out, hq.out]; omega
  have HZA := Lib.hid (fun k (hk : k < n) => zip_at qs ps k (by rw [hq.out]; exact hk) (by rw [hp.out]; exact hk))
  have T0 := Lib.hid (Two.new w (.int .i64 A) (.int .i64 M) 24)
  have X := Lib.hid (bel_alloc (w := w) (o := .cells #[.int .i64 A, .int .i64 M] 24) (Below.refl _ _))
  have HV := Lib.hid (hv.alloc (.cells #[.int .i64 A, .int .i64 M] 24))
  clear hv
  generalize hL : qs.zip ps = L at *
  clear hL
  go_enter Try.func16, Try.ntmps16
  go_wp2_with fail
  refine (HP.out _).mono ?_
  rintro e w1 ⟨rfl, hb⟩
  replace T0 := Lib.hid (T0.out.below hb)
  replace HV := Lib.hid (HV.out.below hb)
  replace X := Lib.hid (bel_trans X.out hb); clear hb
  obtain ⟨t0, t1, t2, t3, t4⟩ := T0.out
  go_wp2_with fail
  refine (HD.out _ HV.out).mono ?_
  rintro e w2 ⟨g1, c1, rfl, hu, hb⟩
  have O1 := Lib.hid hu
  have y1 := O1.out.lt
  clear t0 t1 t2 t3 t4 hu
  replace T0 := Lib.hid (T0.out.below hb)
  replace X := Lib.hid (bel_trans X.out hb); clear hb
  have Z2 : w.heap.size ≤ w2.heap.size := X.out.size
  obtain ⟨t0, t1, t2, t3, t4⟩ := T0.out
  go_upto_region 7 with (at_make; refine wpList_make_full _ rfl _ _ 22 rfl w2.heap.size 24 i0 (.agg #[.int .i64 0, .int .i64 0]) 2 Try.underlying22 hi hz0 hz1 .i64 .i64 _ _ n rfl rfl (by omega) (by omega) (by rw [hz2]; omega) (by unfold maxLen; omega) (Nat.le_refl _) ?_; intro w3 ho3 hg3)
  rw [madeLq] at ho3
  have hb3 : Below w2.heap.size w2 w3 := (Below.refl _ _).grown hg3 (Nat.le_refl _) (by simp)
  have O3 : Hid (OwnL w3 w2.heap.size (.slice (some ⟨w2.heap.size, 0, none⟩) n n) (filL L 0)) := Lib.hid (by
    show OwnL _ _ _ _
    rw [filL_zero, HZ.out]
    unfold OwnL
    rw [List.length_replicate]
    exact ho3)
  have G3 : w2.heap.size < w3.heap.size := (World.ownsRow.lt ho3 _ rfl).2
  clear ho3 hg3 t0 t1 t2 t3 t4
  replace T0 := Lib.hid (T0.out.below hb3)
  replace O1 := Lib.hid (O1.out.below hb3)
  replace X := Lib.hid (bel_trans X.out hb3)
  clear hb3 hi hz0 hz1 hz2
  generalize w2.heap.size = g at *
  obtain ⟨t0, t1, t2, t3, t4⟩ := T0.out
  have HU := Lib.hid (O1.out.ins (by omega))
  go_wp2_with fail
  refine (HE.out _ _ _ HU.out).mono ?_
  rintro e w4 ⟨g2, c2, rfl, hu, hb⟩
  have O2 := Lib.hid hu
  have y2 := O2.out.lt
  clear hu t0 t1 t2 t3 t4 HU T0 HP HD HE HV
  replace O1 := Lib.hid (O1.out.below hb)
  replace X := Lib.hid (bel_trans X.out hb)
  replace O3 : Hid (OwnL w4 g (.slice (some ⟨g, 0, none⟩) n n) (filL L 0)) := Lib.hid (row_belB O3.out hb)
  clear hb
  have n1 : g ≠ g1 := by omega
  have n2 : g ≠ g2 := by omega
  have z3 : w.heap.size ≤ g := Z2
  have z4 := y1.1
  generalize w1.heap.size = B1 at *
  generalize w3.heap.size = B2 at *
  clear y1 y2 G3 Z2
  go_wp2_with fail
  go_loopw [11] (fun i wr => ∃ k : Nat, k ≤ n ∧ i = .int .i64 k ∧ Hid (Below w.heap.size w wr) ∧ Hid (Own wr B1 g1 n c1 ps) ∧ Hid (Own wr B2 g2 n c2 qs) ∧ Hid (OwnL wr g (.slice (some ⟨g, 0, none⟩) n n) (filL L k))) (fun i _ => n - (intOf i).toNat)
  case atStart => exact ⟨0, Nat.zero_le _, rfl, X, O1, O2, O3⟩
  case round =>
    clear X O1 O2 O3
    obtain ⟨k, hk, rfl, X, O1, O2, O3⟩ := hrel
    by_cases hlt : k < n
    · have l9 : (k : Int) < (n : Int) := by omega
      have p0 := O1.out.cell k hlt
      have q0 := O2.out.cell k hlt
      have hl := filL_len L k (by rw [HZ.out]; omega)
      rw [HZ.out] at hl
      obtain ⟨z0, z1, s0, s1, s2, s3, _⟩ := OwnL.cell hl O3.out hlt
      have ez := HZA.out k hlt
      have es := filL_set L k (by rw [HZ.out]; exact hlt)
      rw [ez.1, ez.2] at es
      have N3 := Lib.hid (OwnL.put hl O3.out k (qs.getD k 0) (ps.getD k 0))
      rw [es] at N3
      clear es ez hl
      generalize ps.getD k 0 = y at *
      generalize qs.getD k 0 = x at *
      have N1 := Lib.hid ((O1.out.other ⟨g, k * 2, none⟩ n1 (.int .i64 x)).other ⟨g, k * 2 + 1, none⟩ n1 (.int .i64 y))
      have N2 := Lib.hid ((O2.out.other ⟨g, k * 2, none⟩ n2 (.int .i64 x)).other ⟨g, k * 2 + 1, none⟩ n2 (.int .i64 y))
      have NX := Lib.hid ((X.out.setCell (p := ⟨g, k * 2, none⟩) z3 (.int .i64 x)).setCell (p := ⟨g, k * 2 + 1, none⟩) z3 (.int .i64 y))
      go_wp2_with fail
      go_region
      all_goals go_wp2
      all_goals go_roundw
      all_goals try (case rel => exact ⟨k + 1, by omega, by go_num, by first | exact NX | exact Lib.hid (bel_trans NX.out (bel_drew _)) | exact Lib.hid (bel_trans NX.out (bel_drewN _ _)), Lib.hid N1.out, Lib.hid N2.out, Lib.hid N3.out⟩)
      all_goals (case measure => simp [intOf]; omega)
    · obtain rfl : k = n := by omega
      have ef := filL_all L
      rw [HZ.out] at ef
      rw [ef] at O3
      go_wp2
      go_returns
      exact ⟨_, rfl, OwnL.pts (by have := O3.out; exact this), X.out⟩
set_option maxHeartbeats 8000000 in
set_option maxRecDepth 100000 in
theorem rxDv_dry (A M : Int) (v : Value) (ws ps : List Int) (n : Nat) (w : World) (hv : Ins w v ws) (hP : plB A M = true) (hn : n ≤ 64) (h1 : 0 < n) (hM : (M == 0) = true)
    (HD : Hid (∀ W, Ins W v ws → Calls Try.prog 34 #[.int .i64 M, v] W fun e w' => ∃ g c, e = .returned (.tuple #[.slice (some ⟨g, 0, none⟩) n c, .int .i64 0]) ∧ Own w' W.heap.size g n c ps ∧ Below W.heap.size W w')) :
    Calls Try.prog 16 #[.agg #[.int .i64 A, .int .i64 M], v] w fun e w' => ∃ u, e = .returned (.tuple #[u, .int .i64 0]) ∧ Pts w' u (List.replicate n (0, 0)) ∧ Below w.heap.size w w' := by
  obtain ⟨i0, hi, hz0, hz1, hz2⟩ := info_parts lq_info
  have HP := Lib.hid (fun W => rxPl_any A M W)
  rw [hP] at HP
  have T0 := Lib.hid (Two.new w (.int .i64 A) (.int .i64 M) 24)
  have X := Lib.hid (bel_alloc (w := w) (o := .cells #[.int .i64 A, .int .i64 M] 24) (Below.refl _ _))
  have HV := Lib.hid (hv.alloc (.cells #[.int .i64 A, .int .i64 M] 24))
  clear hv
  go_enter Try.func16, Try.ntmps16
  go_wp2_with fail
  refine (HP.out _).mono ?_
  rintro e w1 ⟨rfl, hb⟩
  replace T0 := Lib.hid (T0.out.below hb)
  replace HV := Lib.hid (HV.out.below hb)
  replace X := Lib.hid (bel_trans X.out hb); clear hb
  obtain ⟨t0, t1, t2, t3, t4⟩ := T0.out
  go_wp2_with fail
  refine (HD.out _ HV.out).mono ?_
  rintro e w2 ⟨g1, c1, rfl, hu, hb⟩
  clear t0 t1 t2 t3 t4 hu
  replace T0 := Lib.hid (T0.out.below hb)
  replace X := Lib.hid (bel_trans X.out hb); clear hb
  go_upto_region 7 with (at_make; refine wpList_make_full _ rfl _ _ 22 rfl w2.heap.size 24 i0 (.agg #[.int .i64 0, .int .i64 0]) 2 Try.underlying22 hi hz0 hz1 .i64 .i64 _ _ n rfl rfl (by omega) (by omega) (by rw [hz2]; omega) (by unfold maxLen; omega) (Nat.le_refl _) ?_; intro w3 ho3 hg3)
  rw [madeLq] at ho3
  have hb3 : Below w2.heap.size w2 w3 := (Below.refl _ _).grown hg3 (Nat.le_refl _) (by simp)
  have O3 : Hid (OwnL w3 w2.heap.size (.slice (some ⟨w2.heap.size, 0, none⟩) n n) (List.replicate n (0, 0))) := Lib.hid (by
    show OwnL _ _ _ _
    unfold OwnL
    rw [List.length_replicate]
    exact ho3)
  clear ho3 hg3
  replace T0 := Lib.hid (T0.out.below hb3)
  replace X := Lib.hid (bel_trans X.out hb3)
  clear hb3 hi hz0 hz1 hz2
  generalize w2.heap.size = g at *
  obtain ⟨t0, t1, t2, t3, t4⟩ := T0.out
  go_wp2
  go_returns
  exact ⟨_, rfl, OwnL.pts O3.out, X.out⟩
theorem rxDv_any (A M : Int) (v : Value) (ws : List Int) (w : World) (hv : Ins w v ws) :
    Calls Try.prog 16 #[.agg #[.int .i64 A, .int .i64 M], v] w fun e w' => ∃ u, e = .returned (.tuple #[u, .int .i64 (dvE A M ws)]) ∧ Pts w' u (dvL A M ws) ∧ Below w.heap.size w w' := by
  cases hP : plB A M with
  | false =>
    have e : dvE A M ws = 1 := by unfold dvE; rw [if_pos hP]
    refine (rxDv_bad A M v w hP).mono fun _ w' g => ⟨_, by rw [e]; exact g.1, ?_, g.2⟩
    unfold dvL; rw [e]; exact pts_nil w'
  | true =>
    have e : dvE A M ws = divE M ws := by unfold dvE; rw [hP, if_neg (by simp)]
    by_cases hd : divE M ws = 0
    · obtain ⟨t1, t2, _⟩ := totE_zero (divE_zero hd).2
      have hl := divP_len _ _ hd
      by_cases hM : M = 0
      · refine (rxDv_dry A M v ws (divP M ws) ws.length w hv hP t2 t1 (by simpa using hM) (Lib.hid fun W h => (rDv_any _ _ _ _ h).2 hd)).mono ?_
        rintro _ w' ⟨u, rfl, hu, hb⟩
        refine ⟨u, by rw [e, hd], ?_, hb⟩
        unfold dvL; rw [e, hd, if_neg (by simp), if_pos hM]; exact hu
      · have ha := div_again hP hM hd
        have hl2 := divP_len _ _ ha
        refine (rxDv_good A M v ws (divP M ws) (divP A (divP M ws)) ws.length w hv hP t2 t1 hl (by show _ = _; omega) (by simpa using hM) (Lib.hid fun W h => (rDv_any _ _ _ _ h).2 hd) (Lib.hid fun a cap W h => by have := (rDv_any _ _ _ _ h).2 ha; rw [hl] at this; exact this)).mono ?_
        rintro _ w' ⟨u, rfl, hu, hb⟩
        refine ⟨u, by rw [e, hd], ?_, hb⟩
        unfold dvL; rw [e, hd, if_neg (by simp), if_neg hM]; exact hu
    · refine (rxDv_err A M _ v ws w hv hP (by rw [bne_iff_ne]; exact hd) rfl).mono fun _ w' g => ⟨_, by rw [e]; exact g.1, ?_, g.2⟩
      unfold dvL; rw [e, if_pos hd]; exact pts_nil w'
end Go.Proofs.Ytfkcgdnpfngdkaa

namespace Go.Proofs.Ytfkcgdnpfngdkaa
open Go.RowKit

theorem Lsame_lens (a c : Option Addr) (n cap m cap2 : Nat) (w : World) (h : ((n : Int) != (m : Int)) = true) :
    Calls Try.prog 17 #[.slice a n cap, .slice c m cap2] w fun e w' => e = .returned (.bool false) ∧ Below w.heap.size w w' := by
  go_enter Try.func17, Try.ntmps17
  go_wp2
  go_returns
  exact ⟨rfl, Below.refl _ _⟩
theorem Lsame_nil (a c : Option Addr) (cap cap2 : Nat) (w : World) :
    Calls Try.prog 17 #[.slice a 0 cap, .slice c 0 cap2] w fun e w' => e = .returned (.bool true) ∧ Below w.heap.size w w' := by
  go_enter Try.func17, Try.ntmps17
  go_wp2_with fail
  go_loopw [5] (fun ii wr => ii = .int .i64 0 ∧ Hid (Below w.heap.size w wr)) (fun _ _ => 0)
  case atStart => exact ⟨rfl, Below.refl _ _⟩
  case round =>
    obtain ⟨rfl, hB⟩ := hrel
    go_wp2
    go_returns
    exact ⟨rfl, hB.out⟩
set_option maxHeartbeats 4000000 in
theorem Lsame_some (b off b2 off2 n cap cap2 : Nat) (f g f2 g2 : Nat → Int) (S : Bool) (w : World) (n1 : n ≤ 1000) (hb : b < w.heap.size) (hb2 : b2 < w.heap.size)
    (hc : Hid (∀ j, j < n → w.cell? ⟨b, off + j * 2, none⟩ = some (.int .i64 (f j)) ∧ w.cell? ⟨b, off + j * 2 + 1, none⟩ = some (.int .i64 (g j))))
    (hc2 : Hid (∀ j, j < n → w.cell? ⟨b2, off2 + j * 2, none⟩ = some (.int .i64 (f2 j)) ∧ w.cell? ⟨b2, off2 + j * 2 + 1, none⟩ = some (.int .i64 (g2 j))))
    (h1 : Hid ((∃ j, j < n ∧ samP (f j) (g j) (f2 j) (g2 j) = false) → S = false)) (h2 : Hid ((∀ j, j < n → samP (f j) (g j) (f2 j) (g2 j) = true) → S = true)) :
    Calls Try.prog 17 #[.slice (some ⟨b, off, none⟩) n cap, .slice (some ⟨b2, off2, none⟩) n cap2] w fun e w' => e = .returned (.bool S) ∧ Below w.heap.size w w' := by
  go_enter Try.func17, Try.ntmps17
  go_wp2_with fail
  go_loopw [5] (fun ii wr => ∃ k : Nat, k ≤ n ∧ ii = .int .i64 k ∧ Hid (Below w.heap.size w wr) ∧ Hid (∀ j, j < k → samP (f j) (g j) (f2 j) (g2 j) = true)) (fun ii _ => n - (intOf ii).toNat)
  case atStart => exact ⟨0, Nat.zero_le _, rfl, Below.refl _ _, fun j hj => by omega⟩
  case round =>
    obtain ⟨k, hk, rfl, hB, ha⟩ := hrel
    by_cases hlt : k < n
    · have c0 : wr.cell? ⟨b, off + k * 2, none⟩ = some (.int .i64 (f k)) := by rw [(bcell hB.out).1 _ _ hb]; exact (hc.out k hlt).1
      have c1 : wr.cell? ⟨b, off + k * 2 + 1, none⟩ = some (.int .i64 (g k)) := by rw [(bcell hB.out).1 _ _ hb]; exact (hc.out k hlt).2
      have d0 : wr.cell? ⟨b2, off2 + k * 2, none⟩ = some (.int .i64 (f2 k)) := by rw [(bcell hB.out).1 _ _ hb2]; exact (hc2.out k hlt).1
      have d1 : wr.cell? ⟨b2, off2 + k * 2 + 1, none⟩ = some (.int .i64 (g2 k)) := by rw [(bcell hB.out).1 _ _ hb2]; exact (hc2.out k hlt).2
      have HF : Hid (samP (f k) (g k) (f2 k) (g2 k) = false → S = false) := fun h => h1.out ⟨k, hlt, h⟩
      have HT : Hid (samP (f k) (g k) (f2 k) (g2 k) = true → ∀ j, j < k + 1 → samP (f j) (g j) (f2 j) (g2 j) = true) := fun h j hj => by
        by_cases e : j = k
        · rw [e]; exact h
        · exact ha.out j (by omega)
      have l1 : (k : Int) < (n : Int) := by omega
      generalize f k = x at *
      generalize g k = y at *
      generalize f2 k = u at *
      generalize g2 k = v at *
      cases hq : samP x y u v with
      | false =>
        obtain rfl := HF.out hq
        have q1 : ∀ W, (binOp .neq 24 (.agg #[.int .i64 x, .int .i64 y]) (.agg #[.int .i64 u, .int .i64 v])).run Try.prog W = .ok (.bool true) W := fun W => by rw [run_neq_liq, hq]; rfl
        clear HF HT hq
        go_wp2_with fail
        go_quiet (fail)
        go_wp2
        go_returns
        exact ⟨rfl, bel_trans hB.out (bel_drewN _ _)⟩
      | true =>
        have ha2 := Lib.hid (HT.out hq)
        have q1 : ∀ W, (binOp .neq 24 (.agg #[.int .i64 x, .int .i64 y]) (.agg #[.int .i64 u, .int .i64 v])).run Try.prog W = .ok (.bool false) W := fun W => by rw [run_neq_liq, hq]; rfl
        clear HF HT hq
        go_wp2_with fail
        go_quiet (fail)
        go_wp2
        go_roundw
        case rel => exact ⟨k + 1, by omega, by go_num, bel_trans hB.out (bel_drewN _ _), ha2⟩
        case measure => simp [intOf]; omega
    · obtain rfl : k = n := by omega
      have hS := h2.out ha.out
      subst hS
      go_wp2
      go_returns
      exact ⟨rfl, hB.out⟩
/-- Same says whether two lists are equal -/
theorem Lsame_any (v u : Value) (l m : List (Int × Int)) (w : World) (hv : Pts w v l) (hu : Pts w u m) (hn : l.length ≤ 1000) :
    Calls Try.prog 17 #[v, u] w fun e w' => e = .returned (.bool (l == m)) ∧ Below w.heap.size w w' := by
  obtain ⟨a, cap, rfl, hl, hh⟩ := hv
  obtain ⟨c, cap2, rfl, hl2, hh2⟩ := hu
  by_cases hlen : l.length = m.length
  · rcases hh with hh | ⟨b, off, rfl, hb, hc⟩
    · have e1 := List.length_eq_zero_iff.1 hh
      have e2 := List.length_eq_zero_iff.1 (hlen ▸ hh)
      subst e1 e2
      exact Lsame_nil a c cap cap2 w
    · rcases hh2 with hh2 | ⟨b2, off2, rfl, hb2, hc2⟩
      · have e2 := List.length_eq_zero_iff.1 hh2
        have e1 := List.length_eq_zero_iff.1 (hlen.trans hh2)
        subst e1 e2
        exact Lsame_nil _ c cap cap2 w
      · rw [← hlen] at hc2 ⊢
        refine Lsame_some b off b2 off2 l.length cap cap2 (gX l) (gR l) (gX m) (gR m) _ w hn hb hb2 hc hc2 (fun ⟨j, hj, h⟩ => ?_) (fun h => ?_)
        · rw [beq_eq_false_iff_ne]
          intro e
          subst e
          simp [samP] at h
        · rw [beq_iff_eq]; exact sam_eq hlen h
  · have := Lsame_lens a c l.length cap m.length cap2 w (by simpa using fun e : (l.length : Int) = m.length => hlen (by omega))
    refine this.mono fun _ _ g => ⟨?_, g.2⟩
    rw [g.1]
    congr 2
    symm
    rw [beq_eq_false_iff_ne]
    intro e; exact hlen (by rw [e])
end Go.Proofs.Ytfkcgdnpfngdkaa

namespace Go.Proofs.Ytfkcgdnpfngdkaa.mixSums
open Go.ChangeShapes Go.WideShapes Go.ChangeAt Go.RowKit
open Go.ChangeMaps (open_string shut_string)
set_option linter.unusedVariables false

set_option maxHeartbeats 16000000 in
set_option maxRecDepth 100000 in
theorem long1 (b : Option Addr) (n cap : Nat) (wa : Option Addr) (wn wc : Nat) (l : List (Int × Int)) (ws : List Int) (A M m : Int) (w : World) (LV : Hid (Pts w (.slice b n cap) l)) (WV : Hid (Ins w (.slice wa wn wc) ws)) (d : decide (12 < (n : Int)) = true) :
    Calls Try.prog 3 #[.slice b n cap, .agg #[.int .i64 A, .int .i64 M], .int .i64 m, .slice wa wn wc] w fun e w' => e = .returned (.bool true) ∧ Below w.heap.size w w' := by
  have HA := Lib.hid (fun W => awakeM_any W)
  have HB := Lib.hid (Below.refl w.heap.size w)
  have T0 := Lib.hid (Two.new w (.int .i64 A) (.int .i64 M) 24)
  replace HB := Lib.hid (bel_alloc (w := w) (o := .cells #[.int .i64 A, .int .i64 M] 24) (Below.refl _ _))
  replace LV := Lib.hid (LV.out.alloc (.cells #[.int .i64 A, .int .i64 M] 24))
  replace WV := Lib.hid (WV.out.alloc (.cells #[.int .i64 A, .int .i64 M] 24))
  obtain ⟨T00, T01, T02, T03, T04⟩ := T0.out
  go_enter Try.func3, Try.ntmps3
  go_wp2_with fail
  refine (HA.out _).mono ?_
  rintro e w4 ⟨rfl, h1⟩
  replace LV := Lib.hid (LV.out.below h1)
  replace WV := Lib.hid (WV.out.below h1)
  replace T0 := Lib.hid (T0.out.below h1)
  replace HB := Lib.hid (bel_trans HB.out h1); clear h1
  clear HA
  go_wp2
  go_returns
  exact ⟨rfl, HB.out⟩
set_option maxHeartbeats 16000000 in
set_option maxRecDepth 100000 in
theorem long2 (b : Option Addr) (n cap : Nat) (wa : Option Addr) (wn wc : Nat) (l : List (Int × Int)) (ws : List Int) (A M m : Int) (w : World) (LV : Hid (Pts w (.slice b n cap) l)) (WV : Hid (Ins w (.slice wa wn wc) ws)) (d : decide (12 < (n : Int)) = false) (d2 : decide (70 < (wn : Int)) = true) :
    Calls Try.prog 3 #[.slice b n cap, .agg #[.int .i64 A, .int .i64 M], .int .i64 m, .slice wa wn wc] w fun e w' => e = .returned (.bool true) ∧ Below w.heap.size w w' := by
  have HA := Lib.hid (fun W => awakeM_any W)
  have HB := Lib.hid (Below.refl w.heap.size w)
  have T0 := Lib.hid (Two.new w (.int .i64 A) (.int .i64 M) 24)
  replace HB := Lib.hid (bel_alloc (w := w) (o := .cells #[.int .i64 A, .int .i64 M] 24) (Below.refl _ _))
  replace LV := Lib.hid (LV.out.alloc (.cells #[.int .i64 A, .int .i64 M] 24))
  replace WV := Lib.hid (WV.out.alloc (.cells #[.int .i64 A, .int .i64 M] 24))
  obtain ⟨T00, T01, T02, T03, T04⟩ := T0.out
  go_enter Try.func3, Try.ntmps3
  go_wp2_with fail
  refine (HA.out _).mono ?_
  rintro e w8 ⟨rfl, h1⟩
  replace LV := Lib.hid (LV.out.below h1)
  replace WV := Lib.hid (WV.out.below h1)
  replace T0 := Lib.hid (T0.out.below h1)
  replace HB := Lib.hid (bel_trans HB.out h1); clear h1
  clear HA
  go_wp2
  go_returns
  exact ⟨rfl, HB.out⟩
set_option maxHeartbeats 32000000 in
set_option maxRecDepth 100000 in
theorem good (b : Option Addr) (n cap : Nat) (wa : Option Addr) (wn wc : Nat) (l : List (Int × Int)) (ws : List Int) (A M m sA sM sE p q r s dE vE : Int) (D : List (Int × Int)) (w : World) (LV : Hid (Pts w (.slice b n cap) l)) (WV : Hid (Ins w (.slice wa wn wc) ws)) (d : decide (12 < (n : Int)) = false) (d2 : decide (70 < (wn : Int)) = false) (hD : D.length ≤ 1000)
    (C1 : Hid (∀ W, Pts W (.slice b n cap) l → Calls Try.prog 11 #[.slice b n cap] W fun e w' => e = .returned (.tuple #[.agg #[.int .i64 sA, .int .i64 sM], .int .i64 sE]) ∧ Below W.heap.size W w')) (C2 : Hid (∀ W, Pts W (.slice b n cap) l → Calls Try.prog 12 #[.slice b n cap] W fun e w' => e = .returned (.tuple #[.agg #[.int .i64 sA, .int .i64 sM], .int .i64 sE]) ∧ Below W.heap.size W w')) (C3 : Hid (∀ W, Calls Try.prog 13 #[.agg #[.int .i64 A, .int .i64 M], .int .i64 m] W fun e w' => e = .returned (.tuple #[.agg #[.int .i64 p, .int .i64 q], .agg #[.int .i64 r, .int .i64 s], .int .i64 dE]) ∧ Below W.heap.size W w')) (C4 : Hid (∀ W, Calls Try.prog 14 #[.agg #[.int .i64 A, .int .i64 M], .int .i64 m] W fun e w' => e = .returned (.tuple #[.agg #[.int .i64 p, .int .i64 q], .agg #[.int .i64 r, .int .i64 s], .int .i64 dE]) ∧ Below W.heap.size W w')) (C5 : Hid (∀ W, Ins W (.slice wa wn wc) ws → Calls Try.prog 15 #[.agg #[.int .i64 A, .int .i64 M], .slice wa wn wc] W fun e w' => ∃ u, e = .returned (.tuple #[u, .int .i64 vE]) ∧ Pts w' u D ∧ Below W.heap.size W w')) (C6 : Hid (∀ W, Ins W (.slice wa wn wc) ws → Calls Try.prog 16 #[.agg #[.int .i64 A, .int .i64 M], .slice wa wn wc] W fun e w' => ∃ u, e = .returned (.tuple #[u, .int .i64 vE]) ∧ Pts w' u D ∧ Below W.heap.size W w')) :
    Calls Try.prog 3 #[.slice b n cap, .agg #[.int .i64 A, .int .i64 M], .int .i64 m, .slice wa wn wc] w fun e w' => e = .returned (.bool true) ∧ Below w.heap.size w w' := by
  have q1 : ∀ W, (binOp .eql 24 (.agg #[.int .i64 sA, .int .i64 sM]) (.agg #[.int .i64 sA, .int .i64 sM])).run Try.prog W = .ok (.bool true) W := fun W => by rw [run_eql_liq]; simp [samP, samB]
  have q2 : ∀ W, (binOp .eql 24 (.agg #[.int .i64 p, .int .i64 q]) (.agg #[.int .i64 p, .int .i64 q])).run Try.prog W = .ok (.bool true) W := fun W => by rw [run_eql_liq]; simp [samP, samB]
  have q3 : ∀ W, (binOp .eql 24 (.agg #[.int .i64 r, .int .i64 s]) (.agg #[.int .i64 r, .int .i64 s])).run Try.prog W = .ok (.bool true) W := fun W => by rw [run_eql_liq]; simp [samP, samB]
  have HS := Lib.hid (fun v u W h g => Lsame_any v u D D W h g hD)
  have HA := Lib.hid (fun W => awakeM_any W)
  have HB := Lib.hid (Below.refl w.heap.size w)
  have T0 := Lib.hid (Two.new w (.int .i64 A) (.int .i64 M) 24)
  replace HB := Lib.hid (bel_alloc (w := w) (o := .cells #[.int .i64 A, .int .i64 M] 24) (Below.refl _ _))
  replace LV := Lib.hid (LV.out.alloc (.cells #[.int .i64 A, .int .i64 M] 24))
  replace WV := Lib.hid (WV.out.alloc (.cells #[.int .i64 A, .int .i64 M] 24))
  obtain ⟨T00, T01, T02, T03, T04⟩ := T0.out
  go_enter Try.func3, Try.ntmps3
  go_wp2_with fail
  refine (HA.out _).mono ?_
  rintro e w12 ⟨rfl, h1⟩
  replace LV := Lib.hid (LV.out.below h1)
  replace WV := Lib.hid (WV.out.below h1)
  replace T0 := Lib.hid (T0.out.below h1)
  replace HB := Lib.hid (bel_trans HB.out h1); clear h1
  clear HA
  go_wp2_with fail
  refine (C1.out _ LV.out).mono ?_
  rintro e w13 ⟨rfl, h1⟩
  replace LV := Lib.hid (LV.out.below h1)
  replace WV := Lib.hid (WV.out.below h1)
  replace T0 := Lib.hid (T0.out.below h1)
  replace HB := Lib.hid (bel_trans HB.out h1); clear h1
  clear C1
  have T1 := Lib.hid (Two.new (w13) (.int .i64 sA) (.int .i64 sM) 24)
  replace T0 := Lib.hid (T0.out.alloc (.cells #[.int .i64 sA, .int .i64 sM] 24))
  replace LV := Lib.hid (LV.out.alloc (.cells #[.int .i64 sA, .int .i64 sM] 24))
  replace WV := Lib.hid (WV.out.alloc (.cells #[.int .i64 sA, .int .i64 sM] 24))
  replace HB := Lib.hid (bel_trans HB.out (bel_alloc (Below.refl _ ((w13).alloc (.cells #[.int .i64 sA, .int .i64 sM] 24)))))
  go_wp2_with fail
  refine (C2.out _ LV.out).mono ?_
  rintro e w15 ⟨rfl, h1⟩
  replace LV := Lib.hid (LV.out.below h1)
  replace WV := Lib.hid (WV.out.below h1)
  replace T0 := Lib.hid (T0.out.below h1)
  replace T1 := Lib.hid (T1.out.below h1)
  replace HB := Lib.hid (bel_trans HB.out h1); clear h1
  clear C2
  have T2 := Lib.hid (Two.new (w15) (.int .i64 sA) (.int .i64 sM) 24)
  replace T0 := Lib.hid (T0.out.alloc (.cells #[.int .i64 sA, .int .i64 sM] 24))
  replace LV := Lib.hid (LV.out.alloc (.cells #[.int .i64 sA, .int .i64 sM] 24))
  replace WV := Lib.hid (WV.out.alloc (.cells #[.int .i64 sA, .int .i64 sM] 24))
  replace T1 := Lib.hid (T1.out.alloc (.cells #[.int .i64 sA, .int .i64 sM] 24))
  replace HB := Lib.hid (bel_trans HB.out (bel_alloc (Below.refl _ ((w15).alloc (.cells #[.int .i64 sA, .int .i64 sM] 24)))))
  clear T00 T01 T02 T03 T04
  obtain ⟨T00, T01, T02, T03, T04⟩ := T0.out
  go_wp2_with fail
  refine (C3.out _).mono ?_
  rintro e w18 ⟨rfl, h1⟩
  replace LV := Lib.hid (LV.out.below h1)
  replace WV := Lib.hid (WV.out.below h1)
  replace T0 := Lib.hid (T0.out.below h1)
  replace T1 := Lib.hid (T1.out.below h1)
  replace T2 := Lib.hid (T2.out.below h1)
  replace HB := Lib.hid (bel_trans HB.out h1); clear h1
  clear C3
  have T3 := Lib.hid ((Two.new (w18) (.int .i64 p) (.int .i64 q) 24).alloc (.cells #[.int .i64 r, .int .i64 s] 24))
  have T4 := Lib.hid (two_new1 (w18) (.cells #[.int .i64 p, .int .i64 q] 24) (.int .i64 r) (.int .i64 s) 24)
  replace T0 := Lib.hid ((T0.out.alloc (.cells #[.int .i64 p, .int .i64 q] 24)).alloc (.cells #[.int .i64 r, .int .i64 s] 24))
  replace LV := Lib.hid ((LV.out.alloc (.cells #[.int .i64 p, .int .i64 q] 24)).alloc (.cells #[.int .i64 r, .int .i64 s] 24))
  replace WV := Lib.hid ((WV.out.alloc (.cells #[.int .i64 p, .int .i64 q] 24)).alloc (.cells #[.int .i64 r, .int .i64 s] 24))
  replace T1 := Lib.hid ((T1.out.alloc (.cells #[.int .i64 p, .int .i64 q] 24)).alloc (.cells #[.int .i64 r, .int .i64 s] 24))
  replace T2 := Lib.hid ((T2.out.alloc (.cells #[.int .i64 p, .int .i64 q] 24)).alloc (.cells #[.int .i64 r, .int .i64 s] 24))
  replace HB := Lib.hid (bel_trans HB.out (bel_alloc (bel_alloc (Below.refl _ (((w18).alloc (.cells #[.int .i64 p, .int .i64 q] 24)).alloc (.cells #[.int .i64 r, .int .i64 s] 24))))))
  clear T00 T01 T02 T03 T04
  obtain ⟨T00, T01, T02, T03, T04⟩ := T0.out
  go_wp2_with fail
  refine (C4.out _).mono ?_
  rintro e w21 ⟨rfl, h1⟩
  replace LV := Lib.hid (LV.out.below h1)
  replace WV := Lib.hid (WV.out.below h1)
  replace T0 := Lib.hid (T0.out.below h1)
  replace T1 := Lib.hid (T1.out.below h1)
  replace T2 := Lib.hid (T2.out.below h1)
  replace T3 := Lib.hid (T3.out.below h1)
  replace T4 := Lib.hid (T4.out.below h1)
  replace HB := Lib.hid (bel_trans HB.out h1); clear h1
  clear C4
  have T5 := Lib.hid ((Two.new (w21) (.int .i64 p) (.int .i64 q) 24).alloc (.cells #[.int .i64 r, .int .i64 s] 24))
  have T6 := Lib.hid (two_new1 (w21) (.cells #[.int .i64 p, .int .i64 q] 24) (.int .i64 r) (.int .i64 s) 24)
  replace T0 := Lib.hid ((T0.out.alloc (.cells #[.int .i64 p, .int .i64 q] 24)).alloc (.cells #[.int .i64 r, .int .i64 s] 24))
  replace LV := Lib.hid ((LV.out.alloc (.cells #[.int .i64 p, .int .i64 q] 24)).alloc (.cells #[.int .i64 r, .int .i64 s] 24))
  replace WV := Lib.hid ((WV.out.alloc (.cells #[.int .i64 p, .int .i64 q] 24)).alloc (.cells #[.int .i64 r, .int .i64 s] 24))
  replace T1 := Lib.hid ((T1.out.alloc (.cells #[.int .i64 p, .int .i64 q] 24)).alloc (.cells #[.int .i64 r, .int .i64 s] 24))
  replace T2 := Lib.hid ((T2.out.alloc (.cells #[.int .i64 p, .int .i64 q] 24)).alloc (.cells #[.int .i64 r, .int .i64 s] 24))
  replace T3 := Lib.hid ((T3.out.alloc (.cells #[.int .i64 p, .int .i64 q] 24)).alloc (.cells #[.int .i64 r, .int .i64 s] 24))
  replace T4 := Lib.hid ((T4.out.alloc (.cells #[.int .i64 p, .int .i64 q] 24)).alloc (.cells #[.int .i64 r, .int .i64 s] 24))
  replace HB := Lib.hid (bel_trans HB.out (bel_alloc (bel_alloc (Below.refl _ (((w21).alloc (.cells #[.int .i64 p, .int .i64 q] 24)).alloc (.cells #[.int .i64 r, .int .i64 s] 24))))))
  clear T00 T01 T02 T03 T04
  obtain ⟨T00, T01, T02, T03, T04⟩ := T0.out
  go_wp2_with fail
  refine (C5.out _ WV.out).mono ?_
  rintro e w24 ⟨u1, rfl, hx, h1⟩
  replace LV := Lib.hid (LV.out.below h1)
  replace WV := Lib.hid (WV.out.below h1)
  replace T0 := Lib.hid (T0.out.below h1)
  replace T1 := Lib.hid (T1.out.below h1)
  replace T2 := Lib.hid (T2.out.below h1)
  replace T3 := Lib.hid (T3.out.below h1)
  replace T4 := Lib.hid (T4.out.below h1)
  replace T5 := Lib.hid (T5.out.below h1)
  replace T6 := Lib.hid (T6.out.below h1)
  replace HB := Lib.hid (bel_trans HB.out h1); clear h1
  have U1 := Lib.hid hx; clear hx
  clear C5
  clear T00 T01 T02 T03 T04
  obtain ⟨T00, T01, T02, T03, T04⟩ := T0.out
  go_wp2_with fail
  refine (C6.out _ WV.out).mono ?_
  rintro e w26 ⟨u2, rfl, hx, h1⟩
  replace LV := Lib.hid (LV.out.below h1)
  replace WV := Lib.hid (WV.out.below h1)
  replace T0 := Lib.hid (T0.out.below h1)
  replace T1 := Lib.hid (T1.out.below h1)
  replace T2 := Lib.hid (T2.out.below h1)
  replace T3 := Lib.hid (T3.out.below h1)
  replace T4 := Lib.hid (T4.out.below h1)
  replace T5 := Lib.hid (T5.out.below h1)
  replace T6 := Lib.hid (T6.out.below h1)
  replace U1 := Lib.hid (U1.out.below h1)
  replace HB := Lib.hid (bel_trans HB.out h1); clear h1
  have U2 := Lib.hid hx; clear hx
  clear C6
  clear T00 T01 T02 T03 T04
  clear T0 LV WV
  obtain ⟨T10, T11, T12, T13, T14⟩ := T1.out
  obtain ⟨T20, T21, T22, T23, T24⟩ := T2.out
  obtain ⟨T30, T31, T32, T33, T34⟩ := T3.out
  obtain ⟨T40, T41, T42, T43, T44⟩ := T4.out
  obtain ⟨T50, T51, T52, T53, T54⟩ := T5.out
  obtain ⟨T60, T61, T62, T63, T64⟩ := T6.out
  have HSS := Lib.hid (HS.out u1 u2 (w26) U1.out U2.out)
  rw [beq_self_eq_true] at HSS
  clear HS
  go_wp2_with fail
  refine HSS.out.mono ?_
  rintro e w99 ⟨rfl, h1⟩
  replace HB := Lib.hid (bel_trans HB.out h1)
  go_wp2
  go_returns
  exact ⟨rfl, HB.out⟩
theorem walk (v : Value) (l : List (Int × Int)) (A M m : Int) (u : Value) (ws : List Int) (w : World) (hv : Pts w v l) (_ : -9223372036854775808 ≤ A ∧ A ≤ 9223372036854775807) (_ : -9223372036854775808 ≤ M ∧ M ≤ 9223372036854775807) (_ : -9223372036854775808 ≤ m ∧ m ≤ 9223372036854775807) (hu : Ins w u ws) (_ : ∀ z ∈ ws, (Lit.int .i64 z).wf = true) :
    Calls Try.prog 3 #[v, .agg #[.int .i64 A, .int .i64 M], .int .i64 m, u] w fun e w' => e = .returned (.bool true) ∧ Below w.heap.size w w' := by
  obtain ⟨b, cap, rfl, hcl, _⟩ := id hv
  obtain ⟨wa, wc, rfl, hln, _⟩ := id hu
  by_cases h1 : 12 < l.length
  · exact long1 b _ cap wa _ wc l ws A M m w hv hu (decide_eq_true (by omega))
  · by_cases h2 : 70 < ws.length
    · exact long2 b _ cap wa _ wc l ws A M m w hv hu (decide_eq_false (by omega)) (decide_eq_true (by omega))
    · have hD : (dvL A M ws).length ≤ 1000 := by
        by_cases e : dvE A M ws = 0
        · have hd : divE M ws = 0 := by
            have hP : plB A M = true := by
              cases g : plB A M with
              | true => rfl
              | false => unfold dvE at e; rw [if_pos g] at e; cases e
            unfold dvE at e; rwa [hP, if_neg (by simp)] at e
          unfold dvL
          rw [if_neg (by omega)]
          split
          · rw [List.length_replicate]; omega
          · rw [List.length_zip, divP_len _ _ hd]; omega
        · unfold dvL; rw [if_pos e]; simp
      exact good b _ cap wa _ wc l ws A M m _ _ _ _ _ _ _ _ _ _ w hv hu (decide_eq_false (by omega)) (decide_eq_false (by omega)) hD (Lib.hid fun W h => mxSu_any _ l W h) (Lib.hid fun W h => rxSu_any _ l W h) (Lib.hid fun W => mxDr_any A M m W) (Lib.hid fun W => rxDr_any A M m W) (Lib.hid fun W h => mxDv_any A M _ ws W h) (Lib.hid fun W h => rxDv_any A M _ ws W h)

set_option maxRecDepth 100000 in
theorem lifted (os : Os) (started : os.Started) (H : Type) (enc : TypeId × Value → H) :
    ReturnsInHanded {} Try.checked os 3 .any (Rows.mixSumsSpec.pre6 enc Try.prog Try.f3 Rows.mixSumsRow.domain false) (Rows.mixSumsSpec.post enc Try.prog Try.f3 false true false false) := by
  refine returnsInHanded_of_change (C := Try.checked) own started (by kernel_rfl) Try.func3
    (ChangeSpec.witness6 (enc := enc) (C := Try.checked) false ⟨#[], #[.slice none 0 0, .agg #[.int .i64 0, .int .i64 0], .int .i64 0, .slice none 0 0], []⟩ 8 (by kernel_rfl) (by kernel_rfl) (by kernel_rfl) (by kernel_rfl)) ?_
  intro W base args ds gs before hval0 hW hcnd _
  have hval : ∀ (j : Nat) t v, Try.f3.params[j]? = some t → args[j]? = some v → Value.okWide Try.prog W .any base t v := hval0
  clear hval0
  have hW' := hW
  obtain ⟨p, q, hA0, hV, rfl, hfz, hnd⟩ := hW
  have hA : DataW.TrodAll enc Try.prog W 0 (fun _ => true) true Try.f3.params.toList args.toList ds p := hA0
  rw [Try.params3] at hA hval
  obtain ⟨v0, vs0, d0, ds0, p0, q0, hargs, rfl, rfl, h0, r0⟩ := trodAll_cons hA
  obtain ⟨v1, vs1, d1, ds1, p1, q1, rfl, rfl, rfl, h1, r1⟩ := trodAll_cons r0
  obtain ⟨v2, vs2, d2, ds2, p2, q2, rfl, rfl, rfl, h2, r2⟩ := trodAll_cons r1
  obtain ⟨v3, vs3, d3, ds3, p3, q3, rfl, rfl, rfl, h3, r3⟩ := trodAll_cons r2
  obtain ⟨rfl, rfl, rfl⟩ := trodAll_nil r3
  obtain rfl : args = #[v0, v1, v2, v3] := by cases args; simp_all
  obtain ⟨rfl, rfl⟩ := trodVars_none hV
  have k0 := h0
  have lt0 : ∀ x ∈ p0, x.block < W.heap.size := by obtain ⟨m, hm⟩ := k0; exact DataW.trod_lt m _ _ _ hm
  have k1 := h1
  have lt1 : ∀ x ∈ p1, x.block < W.heap.size := by obtain ⟨m, hm⟩ := k1; exact DataW.trod_lt m _ _ _ hm
  have k2 := h2
  have lt2 : ∀ x ∈ p2, x.block < W.heap.size := by obtain ⟨m, hm⟩ := k2; exact DataW.trod_lt m _ _ _ hm
  have k3 := h3
  have lt3 : ∀ x ∈ p3, x.block < W.heap.size := by obtain ⟨m, hm⟩ := k3; exact DataW.trod_lt m _ _ _ hm
  obtain ⟨z0, w0⟩ := open_lqs (hval 0 22 v0 rfl rfl) h0
  obtain ⟨y1, m1, rfl, wy1, wm1⟩ := open_liq (hval 1 24 v1 rfl rfl) h1
  obtain ⟨a2, rfl, rfl, rfl, w2⟩ := open_int Try.underlying3 (hval 2 3 v2 rfl rfl) h2
  obtain ⟨z3, w3, b3⟩ := open_intSlice Try.underlying25 Try.underlying3 (by kernel_rfl) (hval 3 25 v3 rfl rfl) h3
  clear hA0
  refine (walk v0 z0 y1 m1 a2 v3 z3 W w0 wy1 wm1 (wf_bd w2) w3 b3).mono fun e W' ⟨he, bel⟩ => ?_
  subst he
  exact ⟨_, rfl, _, _, _, [], _, [], hW', trodAll_mk1 (shut_bool Try.underlying4 _), (trodAll_cons_mk (Below.trod laidOut (by kernel_rfl) (of_decide_eq_true (by kernel_rfl)) k0 bel lt0) (trodAll_cons_mk (Below.trod laidOut (by kernel_rfl) (of_decide_eq_true (by kernel_rfl)) k1 bel lt1) (trodAll_cons_mk (Below.trod laidOut (by kernel_rfl) (of_decide_eq_true (by kernel_rfl)) k2 bel lt2) (trodAll_cons_mk (Below.trod laidOut (by kernel_rfl) (of_decide_eq_true (by kernel_rfl)) k3 bel lt3) trodAll_mk0)))), rfl, bel.frame _, fun h => by cases h⟩

theorem over : Rows.mixSumsRow.holds Try.pinned (OpenSpec.ofChange Rows.mixSumsSpec) :=
  OpenClaim.holds_of_wide 3 Try.f3 rfl rfl rfl rfl rfl rfl rfl ⟨rfl, rfl, rfl, rfl, rfl⟩ rfl rfl rfl rfl rfl (by kernel_rfl) Try.func3 (by kernel_rfl)
    (of_decide_eq_true (by kernel_rfl)) (by unfold Func.isWrapper; first | (rw [if_pos (by decide +kernel)]; kernel_rfl) | (rw [if_neg (by decide +kernel)]; exact ⟨rfl, rfl⟩))
    (fun os started H enc _ => lifted os started H enc)

theorem proved : Rows.MixSumsSaid := over
#print axioms proved
end Go.Proofs.Ytfkcgdnpfngdkaa.mixSums
