/- The reference of layer 22: SameLot. -/
import Derived.Test.YtfpdanjhlepckaaDoorLRH2
namespace Go.Proofs.YtfpdanjhlepckaaDoor
open Go.RowKit

set_option maxHeartbeats 8000000 in
set_option maxRecDepth 100000 in
theorem rlSl_id (d A M d' A' M' : Int) (a a' : Option Addr) (n n' cap cap' : Nat) (s t : List (Int × Int)) (w : World) (NV : Hid (Pts w (.slice a n cap) s)) (NV' : Hid (Pts w (.slice a' n' cap') t)) (hn : Hid (s.length ≤ 1000)) (h0 : (d == d') = false) :
    Calls Tryd.prog 20 #[.agg #[.int .i64 d, .int .i64 A, .int .i64 M, .slice a n cap], .agg #[.int .i64 d', .int .i64 A', .int .i64 M', .slice a' n' cap']] w fun e w' => e = .returned (.bool false) ∧ Below w.heap.size w w' := by
  have HS := Lib.hid (fun W h h' => rlSs_any (.slice a n cap) (.slice a' n' cap') s t W h h' hn.out)
  have T1 := Lib.hid ((Quad.new w (.int .i64 d) (.int .i64 A) (.int .i64 M) (.slice a n cap) 32).alloc (.cells #[.int .i64 d', .int .i64 A', .int .i64 M', .slice a' n' cap'] 32))
  have T2 := Lib.hid (Quad.new (w.alloc (.cells #[.int .i64 d, .int .i64 A, .int .i64 M, .slice a n cap] 32)) (.int .i64 d') (.int .i64 A') (.int .i64 M') (.slice a' n' cap') 32)
  simp only [World.size_alloc] at T2
  have X : Hid (Below w.heap.size w ((w.alloc (.cells #[.int .i64 d, .int .i64 A, .int .i64 M, .slice a n cap] 32)).alloc (.cells #[.int .i64 d', .int .i64 A', .int .i64 M', .slice a' n' cap'] 32))) := Lib.hid (bel_alloc (bel_alloc (Below.refl _ _)))
  replace NV := Lib.hid (NV.out.below X.out)
  replace NV' := Lib.hid (NV'.out.below X.out)
  obtain ⟨b0, b1, b2, b3, _, _⟩ := T1.out
  obtain ⟨c0, c1, c2, c3, _, _⟩ := T2.out
  go_enter Tryd.func20, Tryd.ntmps20
  go_wp2
  go_returns
  exact ⟨rfl, X.out⟩
set_option maxHeartbeats 8000000 in
set_option maxRecDepth 100000 in
theorem rlSl_liq (d A M d' A' M' : Int) (a a' : Option Addr) (n n' cap cap' : Nat) (s t : List (Int × Int)) (w : World) (NV : Hid (Pts w (.slice a n cap) s)) (NV' : Hid (Pts w (.slice a' n' cap') t)) (hn : Hid (s.length ≤ 1000)) (h0 : (d == d') = true) (h1 : samP A M A' M' = false) :
    Calls Tryd.prog 20 #[.agg #[.int .i64 d, .int .i64 A, .int .i64 M, .slice a n cap], .agg #[.int .i64 d', .int .i64 A', .int .i64 M', .slice a' n' cap']] w fun e w' => e = .returned (.bool false) ∧ Below w.heap.size w w' := by
  have HS := Lib.hid (fun W h h' => rlSs_any (.slice a n cap) (.slice a' n' cap') s t W h h' hn.out)
  have T1 := Lib.hid ((Quad.new w (.int .i64 d) (.int .i64 A) (.int .i64 M) (.slice a n cap) 32).alloc (.cells #[.int .i64 d', .int .i64 A', .int .i64 M', .slice a' n' cap'] 32))
  have T2 := Lib.hid (Quad.new (w.alloc (.cells #[.int .i64 d, .int .i64 A, .int .i64 M, .slice a n cap] 32)) (.int .i64 d') (.int .i64 A') (.int .i64 M') (.slice a' n' cap') 32)
  simp only [World.size_alloc] at T2
  have X : Hid (Below w.heap.size w ((w.alloc (.cells #[.int .i64 d, .int .i64 A, .int .i64 M, .slice a n cap] 32)).alloc (.cells #[.int .i64 d', .int .i64 A', .int .i64 M', .slice a' n' cap'] 32))) := Lib.hid (bel_alloc (bel_alloc (Below.refl _ _)))
  replace NV := Lib.hid (NV.out.below X.out)
  replace NV' := Lib.hid (NV'.out.below X.out)
  obtain ⟨b0, b1, b2, b3, _, _⟩ := T1.out
  obtain ⟨c0, c1, c2, c3, _, _⟩ := T2.out
  have q1 : ∀ W, (binOp .eql 29 (.agg #[.int .i64 A, .int .i64 M]) (.agg #[.int .i64 A', .int .i64 M'])).run Tryd.prog W = .ok (.bool false) W := fun W => by rw [run_eql_liq, h1]
  go_enter Tryd.func20, Tryd.ntmps20
  go_wp2
  go_returns
  exact ⟨rfl, X.out⟩
set_option maxHeartbeats 8000000 in
set_option maxRecDepth 100000 in
theorem rlSl_sh (d A M d' A' M' : Int) (a a' : Option Addr) (n n' cap cap' : Nat) (s t : List (Int × Int)) (w : World) (NV : Hid (Pts w (.slice a n cap) s)) (NV' : Hid (Pts w (.slice a' n' cap') t)) (hn : Hid (s.length ≤ 1000)) (h0 : (d == d') = true) (h1 : samP A M A' M' = true) :
    Calls Tryd.prog 20 #[.agg #[.int .i64 d, .int .i64 A, .int .i64 M, .slice a n cap], .agg #[.int .i64 d', .int .i64 A', .int .i64 M', .slice a' n' cap']] w fun e w' => e = .returned (.bool (s == t)) ∧ Below w.heap.size w w' := by
  have HS := Lib.hid (fun W h h' => rlSs_any (.slice a n cap) (.slice a' n' cap') s t W h h' hn.out)
  have T1 := Lib.hid ((Quad.new w (.int .i64 d) (.int .i64 A) (.int .i64 M) (.slice a n cap) 32).alloc (.cells #[.int .i64 d', .int .i64 A', .int .i64 M', .slice a' n' cap'] 32))
  have T2 := Lib.hid (Quad.new (w.alloc (.cells #[.int .i64 d, .int .i64 A, .int .i64 M, .slice a n cap] 32)) (.int .i64 d') (.int .i64 A') (.int .i64 M') (.slice a' n' cap') 32)
  simp only [World.size_alloc] at T2
  have X : Hid (Below w.heap.size w ((w.alloc (.cells #[.int .i64 d, .int .i64 A, .int .i64 M, .slice a n cap] 32)).alloc (.cells #[.int .i64 d', .int .i64 A', .int .i64 M', .slice a' n' cap'] 32))) := Lib.hid (bel_alloc (bel_alloc (Below.refl _ _)))
  replace NV := Lib.hid (NV.out.below X.out)
  replace NV' := Lib.hid (NV'.out.below X.out)
  obtain ⟨b0, b1, b2, b3, _, _⟩ := T1.out
  obtain ⟨c0, c1, c2, c3, _, _⟩ := T2.out
  have q1 : ∀ W, (binOp .eql 29 (.agg #[.int .i64 A, .int .i64 M]) (.agg #[.int .i64 A', .int .i64 M'])).run Tryd.prog W = .ok (.bool true) W := fun W => by rw [run_eql_liq, h1]
  clear h1
  generalize (s == t) = B at *
  go_enter Tryd.func20, Tryd.ntmps20
  go_wp2_with fail
  refine (HS.out _ NV.out NV'.out).mono ?_
  rintro e w1 ⟨rfl, h1⟩
  replace X := Lib.hid (bel_trans X.out h1)
  clear h1
  go_wp2
  go_returns
  exact ⟨rfl, X.out⟩
def ltSame (c d : Lt) : Bool := (c.id == d.id) && samP c.al c.ms d.al d.ms && (c.sh == d.sh)
theorem rlSl_any (c d : Lt) (a a' : Option Addr) (cap cap' : Nat) (w : World) (hv : Pts w (.slice a c.sh.length cap) c.sh) (hu : Pts w (.slice a' d.sh.length cap') d.sh) (hn : c.sh.length ≤ 1000) :
    Calls Tryd.prog 20 #[ltV c a cap, ltV d a' cap'] w fun e w' => e = .returned (.bool (ltSame c d)) ∧ Below w.heap.size w w' := by
  unfold ltSame ltV
  cases h0 : (c.id == d.id) with
  | false => exact rlSl_id _ _ _ _ _ _ a a' _ _ cap cap' c.sh d.sh w hv hu hn h0
  | true =>
    cases h1 : samP c.al c.ms d.al d.ms with
    | false => exact rlSl_liq _ _ _ _ _ _ a a' _ _ cap cap' c.sh d.sh w hv hu hn h0 h1
    | true => exact rlSl_sh _ _ _ _ _ _ a a' _ _ cap cap' c.sh d.sh w hv hu hn h0 h1
end Go.Proofs.YtfpdanjhlepckaaDoor

