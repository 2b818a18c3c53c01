/- The reference of layer 1: its Of, by bits. -/
import Derived.Test.YtigmpbipbkgnfaaDoorRefP1
import Derived.Deep.RegionHeld3
import Derived.Deep.RegionWith
import Derived.Deep.DeepCutAuto
namespace Go.Proofs.YtigmpbipbkgnfaaDoor.R1
open Go.RowKit

theorem less_lit (p q : Int) (w : World) (r : Bool) (h : decide (p < q) = r) :
    Calls Tryd.prog 59 #[.agg #[.int .u64 (hi62 p), .int .u64 (lo62 p)], .agg #[.int .u64 (hi62 q), .int .u64 (lo62 q)]] w fun e w' => e = .returned (.bool r) ∧ Below w.heap.size w w' := by
  rw [← h, ← lessB_eq]; exact less_any _ _ _ _ w
theorem less_small (p c : Int) (w : World) (r : Bool) (c0 : 0 ≤ c) (c1 : c ≤ 4611686018427387903) (h : decide (p < c) = r) :
    Calls Tryd.prog 59 #[.agg #[.int .u64 (hi62 p), .int .u64 (lo62 p)], .agg #[.int .u64 0, .int .u64 c]] w fun e w' => e = .returned (.bool r) ∧ Below w.heap.size w w' := by
  have e0 : (0 : Int) = hi62 c := by unfold hi62; omega
  have e1 : c = lo62 c := by unfold lo62; omega
  rw [e0]
  conv in (Value.int .u64 c) => rw [e1]
  exact less_lit p c w r h

/-- the guess by bits: what its round has to be told -/
structure Bit (Q q bit : Int) (k : Nat) : Prop where
  le : q ≤ Q
  lt : Q < q + 2 ^ k
  bit : bit = 2 ^ k / 2
theorem Bit.start (Q : Int) (h0 : 0 ≤ Q) (h1 : Q < 4611686018427387904) : Bit Q 0 2305843009213693952 62 := ⟨h0, by omega, by omega⟩
theorem Bit.stop {Q q bit : Int} {k : Nat} (h : Bit Q q bit k) (hb : bit ≤ 0) : q = Q := by
  have := h.le; have := h.lt; have := h.bit
  cases k with
  | zero => simp at *; omega
  | succ k => have : (0 : Int) < 2 ^ k := Int.pow_pos (by omega); rw [Int.pow_succ] at *; omega
theorem Bit.up {Q q bit : Int} {k : Nat} (h : Bit Q q bit (k + 1)) (hb : q + bit ≤ Q) : Bit Q (q + bit) (bit / 2) k := by
  have := h.le; have h2 := h.lt; have h3 := h.bit
  rw [Int.pow_succ] at h2 h3
  exact ⟨hb, by omega, by omega⟩
theorem Bit.keep {Q q bit : Int} {k : Nat} (h : Bit Q q bit (k + 1)) (hb : Q < q + bit) : Bit Q q (bit / 2) k := by
  have := h.le; have h2 := h.lt; have h3 := h.bit
  rw [Int.pow_succ] at h2 h3
  exact ⟨by omega, by omega, by omega⟩
theorem Bit.pos {Q q bit : Int} {k : Nat} (h : Bit Q q bit k) (hb : 0 < bit) : ∃ j, k = j + 1 := by
  cases k with
  | zero => have := h.bit; simp at this; omega
  | succ k => exact ⟨k, rfl⟩

theorem field_low (h l : Int) (w : World) : (Instr.field 79 (.agg #[.int .u64 h, .int .u64 l]) 1).run Tryd.prog w = .ok (.int .u64 l) w := by kernel_rfl

/-- an operation that is not wanted, and whose slot is empty, is passed over -/
theorem wpAnyH_skip {P : Program} {ops : Array Oper} {Q : Exit → Act → World → Prop} {md : Region.Mode} {S : World → Prop} (i : Nat) {oi : Oper} {fuel : Nat} {listed : Array Bool} {a : Act} {w : World} (hi : ops[i]? = some oi)
    (hs : Region.noSelect ops = true) (hf : Region.free md ops listed i = true) (hr : (Region.ready md ops listed).contains i = true)
    (hQ : ∀ c a w, Q (.panic c) (a.put oi.dst undef) w → Q (.panic c) a w) (hw : Region.wanted oi (yielded ops a.tmps) = false) (hp : a.put oi.dst undef = a) (hS : S w)
    (h : wpAnyH P md ops Q S fuel (listed.setIfInBounds i true) a w) : wpAnyH P md ops Q S (fuel + 1) listed a w :=
  wpAnyH_take hi hs hf hr hQ (Or.inr ⟨hw, rfl⟩) hS (by rw [hp]; exact h)

/-- a call in a chain of worlds over 'w', beside a block B whose cells are read later -/
theorem chain {P : Program} {f : FuncId} {args : Array Value} {W w : World} {v : Value} (B : Nat) (h : Hid (Below w.heap.size w W)) (hB : B < W.heap.size)
    (c : Calls P f args W fun e w' => e = .returned v ∧ Below W.heap.size W w') :
    Calls P f args W fun e w' => e = .returned v ∧ Hid (Below w.heap.size w w') ∧ W.heap.size ≤ w'.heap.size ∧ ∀ o, w'.cell? ⟨B, o, none⟩ = W.cell? ⟨B, o, none⟩ :=
  c.mono fun _ _ g => ⟨g.1, bel_trans h.out g.2, g.2.size, fun o => (bcell g.2).1 B o hB⟩

set_option maxHeartbeats 1000000 in
theorem refOf_big (a b c : Int) (w : World) (h : (isAm a && isAm b && isAm c) = true) (hc : 1 ≤ c) (hq : 128849018880000 < a * b / c) :
    Calls Tryd.prog 50 #[.int .i64 a, .int .i64 b, .int .i64 c, .int .i64 128849018880000] w fun e w' => e = .returned (.tuple #[.int .i64 0, .int .i64 0, .bool false]) ∧ Below w.heap.size w w' := by
  have h' := h
  simp only [Bool.and_eq_true, isAm_iff] at h'
  obtain ⟨⟨⟨a0, a1⟩, b0, b1⟩, c0, c1⟩ := h'
  clear h
  have k0 : 128849018880001 * c ≤ a * b := by
    have : (128849018880000 + 1) * c ≤ a * b / c * c := Int.mul_le_mul_of_nonneg_right (by omega) c0
    have := Int.ediv_mul_le (a * b) (show c ≠ 0 by omega)
    omega
  have k4 : a * b ≤ 128849018880000 * 128849018880000 := Int.mul_le_mul a1 b1 b0 (by omega)
  have K1 := Lib.hid (show decide (128849018880000 * c < a * b) = true by simp; omega)
  have K2 := Lib.hid (show decide (a * b - 128849018880000 * c < c) = false by simp; omega)
  clear hq
  go_enter Tryd.func50, Tryd.ntmps50
  go_wp2_with fail
  refine (product_any a b _ a0 (by omega) b0 (by omega)).mono ?_
  rintro e w1 ⟨rfl, hb1⟩
  go_wp2_with fail
  have HC : Hid (Below w.heap.size w (w1.alloc (.cells #[.int .u64 (hi62 (a * b)), .int .u64 (lo62 (a * b))] 79)).drew) := (bel_trans hb1 (bel_alloc (Below.refl _ _))).drew
  clear hb1
  have hwc : IntKind.u64.wrap c = c := IntWalk.u64_in _ ⟨by omega, by omega⟩
  go_region_held3 (fun w' => w'.cell? ⟨w1.heap.size, 0, none⟩ = some (.int .u64 (hi62 (a * b))) ∧ w'.cell? ⟨w1.heap.size, 1, none⟩ = some (.int .u64 (lo62 (a * b)))) (go_keep)
    (first
      | (go_at_call 58; refine (chain w1.heap.size HC (by first | omega | (simp; done) | (simp; omega)) (product_any _ _ _ (by omega) (by omega) (by omega) (by omega))).mono ?_; rintro e w2 ⟨rfl, HC, hz2, hs2⟩; (try simp at hz2))
      | (go_at_call 59; (with_reducible refine (chain w1.heap.size HC (by first | omega | (simp; done) | (simp; omega)) (less_lit _ _ _ true K1.out)).mono ?_); rintro e w2 ⟨rfl, HC, hz2, hs2⟩; (try simp at hz2))
      | (go_at_call 59; (with_reducible refine (chain w1.heap.size HC (by first | omega | (simp; done) | (simp; omega)) (less_small _ _ _ false c0 (by omega) K2.out)).mono ?_); rintro e w2 ⟨rfl, HC, hz2, hs2⟩; (try simp at hz2))
      | (go_at_call 60; refine (chain w1.heap.size HC (by first | omega | (simp; done) | (simp; omega)) (minus_any _ _ _ (by omega) (by omega) (by omega))).mono ?_; rintro e w2 ⟨rfl, HC, hz2, hs2⟩; (try simp at hz2)))
  go_wp2
  go_returns
  exact ⟨rfl, HC.out⟩

set_option linter.unusedSimpArgs false in
set_option maxHeartbeats 2000000 in
theorem refOf_ok (a b c Q R : Int) (w : World) (h : (isAm a && isAm b && isAm c) = true) (hc : 1 ≤ c) (hQ : Hid (a * b / c = Q)) (hR : Hid (a * b % c = R)) (hq : Q ≤ 128849018880000) :
    Calls Tryd.prog 50 #[.int .i64 a, .int .i64 b, .int .i64 c, .int .i64 128849018880000] w fun e w' => e = .returned (.tuple #[.int .i64 Q, .int .i64 R, .bool true]) ∧ Below w.heap.size w w' := by
  have h' := h
  simp only [Bool.and_eq_true, isAm_iff] at h'
  obtain ⟨⟨⟨a0, a1⟩, b0, b1⟩, c0, c1⟩ := h'
  clear h
  have k4 : a * b ≤ 128849018880000 * 128849018880000 := Int.mul_le_mul a1 b1 b0 (by omega)
  have k5 : 0 ≤ a * b := Int.mul_nonneg a0 b0
  have k6 : Q * c ≤ a * b := by rw [← hQ.out]; exact Int.ediv_mul_le (a * b) (show c ≠ 0 by omega)
  have q0 : 0 ≤ Q := by rw [← hQ.out]; exact Int.ediv_nonneg k5 c0
  have k7 : 0 ≤ Q * c := Int.mul_nonneg q0 c0
  have r0 : 0 ≤ R := by rw [← hR.out]; exact Int.emod_nonneg _ (by omega)
  have r1 : R < c := by rw [← hR.out]; exact Int.emod_lt_of_pos _ (by omega)
  have k8 : a * b - Q * c = R := by
    have := Int.emod_add_mul_ediv (a * b) c; rw [hQ.out, hR.out, Int.mul_comm c Q] at this; omega
  have K8 := Lib.hid k8; clear k8
  go_enter Tryd.func50, Tryd.ntmps50
  go_wp2_with fail
  refine (product_any a b _ a0 (by omega) b0 (by omega)).mono ?_
  rintro e w1 ⟨rfl, hb1⟩
  go_upto_region 2 with fail
  have HC : Hid (Below w.heap.size w (w1.alloc (.cells #[.int .u64 (hi62 (a * b)), .int .u64 (lo62 (a * b))] 79)).drew) := (bel_trans hb1 (bel_alloc (Below.refl _ _))).drew
  clear hb1
  go_cut [33] (fun s33 wx => s33 = .bool false ∧ Hid (Below w.heap.size w wx) ∧ w1.heap.size < wx.heap.size ∧ wx.cell? ⟨w1.heap.size, 0, none⟩ = some (.int .u64 (hi62 (a * b))) ∧ wx.cell? ⟨w1.heap.size, 1, none⟩ = some (.int .u64 (lo62 (a * b))))
  case first =>
    have hwc : IntKind.u64.wrap c = c := IntWalk.u64_in _ ⟨by omega, by omega⟩
    by_cases t1 : 128849018880000 * c < a * b
    · have K1 := Lib.hid (show decide (128849018880000 * c < a * b) = true by simp; omega)
      have k9 : Q * c ≤ 128849018880000 * c := Int.mul_le_mul_of_nonneg_right hq c0
      have K2 := Lib.hid (show decide (a * b - 128849018880000 * c < c) = true by have := K8.out; simp; omega)
      go_region_held3 (fun w' => w'.cell? ⟨w1.heap.size, 0, none⟩ = some (.int .u64 (hi62 (a * b))) ∧ w'.cell? ⟨w1.heap.size, 1, none⟩ = some (.int .u64 (lo62 (a * b)))) (go_keep)
        (first
          | (go_at_call 58; refine (chain w1.heap.size HC (by first | omega | (simp; done) | (simp; omega)) (product_any _ _ _ (by omega) (by omega) (by omega) (by omega))).mono ?_; rintro e w2 ⟨rfl, HC, hz2, hs2⟩; (try simp at hz2))
          | (go_at_call 59; (with_reducible refine (chain w1.heap.size HC (by first | omega | (simp; done) | (simp; omega)) (less_lit _ _ _ true K1.out)).mono ?_); rintro e w2 ⟨rfl, HC, hz2, hs2⟩; (try simp at hz2))
          | (go_at_call 59; (with_reducible refine (chain w1.heap.size HC (by first | omega | (simp; done) | (simp; omega)) (less_small _ _ _ true c0 (by omega) K2.out)).mono ?_); rintro e w2 ⟨rfl, HC, hz2, hs2⟩; (try simp at hz2))
          | (go_at_call 60; refine (chain w1.heap.size HC (by first | omega | (simp; done) | (simp; omega)) (minus_any _ _ _ (by omega) (by omega) (by omega))).mono ?_; rintro e w2 ⟨rfl, HC, hz2, hs2⟩; (try simp at hz2)))
      go_wp2
      go_meet
      case rel => exact ⟨rfl, HC, by simp at *; omega, by simp [*], by simp [*]⟩
    · have K1 := Lib.hid (show decide (128849018880000 * c < a * b) = false by simp; omega)
      refine wp_region_held_drew (S := (fun w' => w'.cell? ⟨w1.heap.size, 0, none⟩ = some (.int .u64 (hi62 (a * b))) ∧ w'.cell? ⟨w1.heap.size, 1, none⟩ = some (.int .u64 (lo62 (a * b))))) (by kernel_rfl) (by go_keep) (fun hHeld => ?_)
      refine wpAnyH_take (i := 0) (v := ?_) rfl (by kernel_rfl) (by kernel_rfl) (by kernel_rfl) (fun _ _ _ h => h) (Or.inl ⟨by rfl, ?_⟩) (by assumption) ?_
      rotate_left
      · intro w hSw; (try dsimp only at hSw); go_simp; try (with_reducible rfl)
      try simp only [Act.put, List.setIfInBounds_toArray, List.set_cons_zero, List.set_cons_succ]
      refine wpAnyH_take (i := 1) (v := ?_) rfl (by kernel_rfl) (by kernel_rfl) (by kernel_rfl) (fun _ _ _ h => h) (Or.inl ⟨by rfl, ?_⟩) (by assumption) ?_
      rotate_left
      · intro w hSw; (try dsimp only at hSw); go_simp; try (with_reducible rfl)
      try simp only [Act.put, List.setIfInBounds_toArray, List.set_cons_zero, List.set_cons_succ]
      refine wpAnyH_take (i := 3) (v := ?_) rfl (by kernel_rfl) (by kernel_rfl) (by kernel_rfl) (fun _ _ _ h => h) (Or.inl ⟨by rfl, ?_⟩) (by assumption) ?_
      rotate_left
      · intro w hSw; (try dsimp only at hSw); go_simp; try (with_reducible rfl)
      try simp only [Act.put, List.setIfInBounds_toArray, List.set_cons_zero, List.set_cons_succ]
      refine wpAnyH_ready (rs := [2]) (by kernel_rfl) (by simp) ?_
      refine AllReadyH.cons rfl (fun K hK => ?_) AllReadyH.nil
      go_simp
      refine (chain w1.heap.size HC (by first | omega | (simp; done) | (simp; omega)) (product_any _ _ _ (by omega) (by omega) (by omega) (by omega))).mono ?_; rintro e w2 ⟨rfl, HC, hz2, hs2⟩; (try simp at hz2)
      refine hK.out _ _ (by first | go_keep | (simp [*])) (fun hHeld => ?_)
      clear hK K
      try simp only [Act.put, List.setIfInBounds_toArray, List.set_cons_zero, List.set_cons_succ]
      refine wpAnyH_ready (rs := [4]) (by kernel_rfl) (by simp) ?_
      refine AllReadyH.cons rfl (fun K hK => ?_) AllReadyH.nil
      go_simp
      refine (chain w1.heap.size HC (by first | omega | (simp; done) | (simp; omega)) (less_lit _ _ _ false K1.out)).mono ?_; rintro e w2 ⟨rfl, HC, hz2, hs2⟩; (try simp at hz2)
      refine hK.out _ _ (by first | go_keep | (simp [*])) (fun hHeld => ?_)
      clear hK K
      try simp only [Act.put, List.setIfInBounds_toArray, List.set_cons_zero, List.set_cons_succ]
      refine wpAnyH_take (i := 5) (v := ?_) rfl (by kernel_rfl) (by kernel_rfl) (by kernel_rfl) (fun _ _ _ h => h) (Or.inl ⟨by rfl, ?_⟩) (by assumption) ?_
      rotate_left
      · intro w hSw; (try dsimp only at hSw); go_simp; try (with_reducible rfl)
      try simp only [Act.put, List.setIfInBounds_toArray, List.set_cons_zero, List.set_cons_succ]
      refine wpAnyH_skip 6 rfl (by kernel_rfl) (by kernel_rfl) (by kernel_rfl) (fun _ _ _ h => h) (by rfl) rfl (by assumption) ?_
      try simp only [Act.put, List.setIfInBounds_toArray, List.set_cons_zero, List.set_cons_succ]
      refine wpAnyH_skip 7 rfl (by kernel_rfl) (by kernel_rfl) (by kernel_rfl) (fun _ _ _ h => h) (by rfl) rfl (by assumption) ?_
      try simp only [Act.put, List.setIfInBounds_toArray, List.set_cons_zero, List.set_cons_succ]
      refine wpAnyH_skip 8 rfl (by kernel_rfl) (by kernel_rfl) (by kernel_rfl) (fun _ _ _ h => h) (by rfl) rfl (by assumption) ?_
      try simp only [Act.put, List.setIfInBounds_toArray, List.set_cons_zero, List.set_cons_succ]
      refine wpAnyH_skip 9 rfl (by kernel_rfl) (by kernel_rfl) (by kernel_rfl) (fun _ _ _ h => h) (by rfl) rfl (by assumption) ?_
      try simp only [Act.put, List.setIfInBounds_toArray, List.set_cons_zero, List.set_cons_succ]
      refine wpAnyH_skip 10 rfl (by kernel_rfl) (by kernel_rfl) (by kernel_rfl) (fun _ _ _ h => h) (by rfl) rfl (by assumption) ?_
      try simp only [Act.put, List.setIfInBounds_toArray, List.set_cons_zero, List.set_cons_succ]
      refine wpAnyH_skip 11 rfl (by kernel_rfl) (by kernel_rfl) (by kernel_rfl) (fun _ _ _ h => h) (by rfl) rfl (by assumption) ?_
      try simp only [Act.put, List.setIfInBounds_toArray, List.set_cons_zero, List.set_cons_succ]
      refine wpAnyH_skip 12 rfl (by kernel_rfl) (by kernel_rfl) (by kernel_rfl) (fun _ _ _ h => h) (by rfl) rfl (by assumption) ?_
      try simp only [Act.put, List.setIfInBounds_toArray, List.set_cons_zero, List.set_cons_succ]
      refine wpAnyH_skip 13 rfl (by kernel_rfl) (by kernel_rfl) (by kernel_rfl) (fun _ _ _ h => h) (by rfl) rfl (by assumption) ?_
      try simp only [Act.put, List.setIfInBounds_toArray, List.set_cons_zero, List.set_cons_succ]
      refine wpAnyH_skip 14 rfl (by kernel_rfl) (by kernel_rfl) (by kernel_rfl) (fun _ _ _ h => h) (by rfl) rfl (by assumption) ?_
      try simp only [Act.put, List.setIfInBounds_toArray, List.set_cons_zero, List.set_cons_succ]
      refine wpAnyH_skip 15 rfl (by kernel_rfl) (by kernel_rfl) (by kernel_rfl) (fun _ _ _ h => h) (by rfl) rfl (by assumption) ?_
      try simp only [Act.put, List.setIfInBounds_toArray, List.set_cons_zero, List.set_cons_succ]
      refine wpAnyH_take (i := 16) (v := ?_) rfl (by kernel_rfl) (by kernel_rfl) (by kernel_rfl) (fun _ _ _ h => h) (Or.inl ⟨by rfl, ?_⟩) (by assumption) ?_
      rotate_left
      · intro w hSw; (try dsimp only at hSw); go_simp; try (with_reducible rfl)
      try simp only [Act.put, List.setIfInBounds_toArray, List.set_cons_zero, List.set_cons_succ]
      refine wpAnyH_done (by kernel_rfl) ?_ _
      go_wp2
      go_meet
      case rel => exact ⟨rfl, HC, by simp at *; omega, by simp [*], by simp [*]⟩
  case rest =>
  obtain ⟨rfl, HC, hz, s0, s1⟩ := hcut
  go_wp2_with fail
  go_loopw [12, 13] (fun q bit wr => ∃ q1 b1 : Int, ∃ k : Nat, q = .int .i64 q1 ∧ bit = .int .i64 b1 ∧ Hid (Bit Q q1 b1 k) ∧ 0 ≤ q1 ∧ q1 ≤ 128849018880000 ∧ 0 ≤ b1 ∧ b1 ≤ 2305843009213693952 ∧ Hid (Below w.heap.size w wr) ∧ w1.heap.size < wr.heap.size ∧ wr.cell? ⟨w1.heap.size, 0, none⟩ = some (.int .u64 (hi62 (a * b))) ∧ wr.cell? ⟨w1.heap.size, 1, none⟩ = some (.int .u64 (lo62 (a * b)))) (fun _ bit _ => (intOf bit).toNat)
  case atStart => exact ⟨0, 2305843009213693952, 62, rfl, rfl, Bit.start Q q0 (by omega), by omega, by omega, by omega, by omega, HC, hz, s0, s1⟩
  case round =>
    clear s0 s1 hz HC
    obtain ⟨q1, b1, k, rfl, rfl, HK, g0, g1, g2, g3, HC0, hz, s0, s1⟩ := hrel
    by_cases hb : 0 < b1
    · obtain ⟨j, rfl⟩ := HK.out.pos hb
      by_cases t1 : q1 + b1 ≤ 128849018880000
      · have p0 : 0 ≤ (q1 + b1) * c := Int.mul_nonneg (by omega) c0
        by_cases t2 : a * b < (q1 + b1) * c
        · have K1 := Lib.hid (show decide (a * b < (q1 + b1) * c) = true by simp; omega)
          have HN := Lib.hid (HK.out.keep (Int.not_le.1 fun hge => by have := Int.mul_le_mul_of_nonneg_right hge c0; omega))
          go_wp2_with fail
          have HC : Hid (Below w.heap.size w wr.drew) := HC0.out.drew
          have hs1 : IntKind.i64.wrap (q1 + b1) = q1 + b1 := IntWalk.i64_in _ ⟨by omega, by omega⟩
          have hs2 : decide (q1 + b1 ≤ 128849018880000) = true := by simp; omega
          go_region_held3 (fun w' => w'.cell? ⟨w1.heap.size, 0, none⟩ = some (.int .u64 (hi62 (a * b))) ∧ w'.cell? ⟨w1.heap.size, 1, none⟩ = some (.int .u64 (lo62 (a * b)))) (go_keep)
            (first
              | (go_at_call 58; refine (chain w1.heap.size HC (by first | omega | (simp; done) | (simp; omega)) (product_any _ _ _ (by omega) (by omega) (by omega) (by omega))).mono ?_; rintro e w2 ⟨rfl, HC, hz2, hs2⟩; (try simp at hz2))
              | (go_at_call 59; (with_reducible refine (chain w1.heap.size HC (by first | omega | (simp; done) | (simp; omega)) (less_lit _ _ _ true K1.out)).mono ?_); rintro e w2 ⟨rfl, HC, hz2, hs2⟩; (try simp at hz2)))
          go_wp2
          go_roundw
          case rel => exact ⟨q1, b1 / 2, j, rfl, rfl, HN.out, by omega, by omega, by omega, by omega, HC, by simp at *; omega, by simp [*], by simp [*]⟩
          case measure => simp [intOf]; omega

        · have K1 := Lib.hid (show decide (a * b < (q1 + b1) * c) = false by simp; omega)
          have HN := Lib.hid (HK.out.up (by rw [← hQ.out]; exact Int.le_ediv_of_mul_le (by omega) (by omega)))
          go_wp2_with fail
          have HC : Hid (Below w.heap.size w wr.drew) := HC0.out.drew
          have hs1 : IntKind.i64.wrap (q1 + b1) = q1 + b1 := IntWalk.i64_in _ ⟨by omega, by omega⟩
          have hs2 : decide (q1 + b1 ≤ 128849018880000) = true := by simp; omega
          go_region_held3 (fun w' => w'.cell? ⟨w1.heap.size, 0, none⟩ = some (.int .u64 (hi62 (a * b))) ∧ w'.cell? ⟨w1.heap.size, 1, none⟩ = some (.int .u64 (lo62 (a * b)))) (go_keep)
            (first
              | (go_at_call 58; refine (chain w1.heap.size HC (by first | omega | (simp; done) | (simp; omega)) (product_any _ _ _ (by omega) (by omega) (by omega) (by omega))).mono ?_; rintro e w2 ⟨rfl, HC, hz2, hs2⟩; (try simp at hz2))
              | (go_at_call 59; (with_reducible refine (chain w1.heap.size HC (by first | omega | (simp; done) | (simp; omega)) (less_lit _ _ _ false K1.out)).mono ?_); rintro e w2 ⟨rfl, HC, hz2, hs2⟩; (try simp at hz2)))
          go_wp2
          go_roundw
          case rel => exact ⟨q1 + b1, b1 / 2, j, rfl, rfl, HN.out, by omega, by omega, by omega, by omega, HC, by simp at *; omega, by simp [*], by simp [*]⟩
          case measure => simp [intOf]; omega

      · have HN := Lib.hid (HK.out.keep (by omega))
        have ht : decide (q1 + b1 ≤ 128849018880000) = false := by simp; omega
        have hs1 : IntKind.i64.wrap (q1 + b1) = q1 + b1 := IntWalk.i64_in _ ⟨by omega, by omega⟩
        go_wp2_with fail
        go_quiet (fail)
        go_wp2
        go_roundw
        case rel => exact ⟨q1, b1 / 2, j, rfl, rfl, HN.out, by omega, by omega, by omega, by omega, bel_trans HC0.out (bel_drewN _ _), by simp at *; omega, by simp [*], by simp [*]⟩
        case measure => simp [intOf]; omega
    · have HE := Lib.hid (HK.out.stop (by omega))
      obtain rfl : q1 = Q := HE.out
      go_wp2_with fail
      have HC : Hid (Below w.heap.size w wr.drew) := HC0.out.drew
      have hm : lo62 (a * b - q1 * c) = R := by rw [K8.out]; unfold lo62; omega
      have hf1 := field_low
      have hwr : IntKind.i64.wrap R = R := IntWalk.i64_in _ ⟨by omega, by omega⟩
      go_region_held3 (fun w' => w'.cell? ⟨w1.heap.size, 0, none⟩ = some (.int .u64 (hi62 (a * b))) ∧ w'.cell? ⟨w1.heap.size, 1, none⟩ = some (.int .u64 (lo62 (a * b)))) (go_keep)
        (first
          | (go_at_call 58; refine (chain w1.heap.size HC (by first | omega | (simp; done) | (simp; omega)) (product_any _ _ _ (by omega) (by omega) (by omega) (by omega))).mono ?_; rintro e w2 ⟨rfl, HC, hz2, hs2⟩; (try simp at hz2))
          | (go_at_call 60; refine (chain w1.heap.size HC (by first | omega | (simp; done) | (simp; omega)) (minus_any _ _ _ (by omega) (by omega) (by omega))).mono ?_; rintro e w2 ⟨rfl, HC, hz2, hs2⟩; (try simp at hz2)))
      go_wp2
      go_returns
      exact ⟨rfl, HC.out⟩

end Go.Proofs.YtigmpbipbkgnfaaDoor.R1
