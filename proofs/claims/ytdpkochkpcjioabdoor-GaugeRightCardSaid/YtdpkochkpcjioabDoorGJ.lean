/- Package gauge: Total. -/
import Derived.Test.YtdpkochkpcjioabDoorGI
namespace Go.Proofs.YtdpkochkpcjioabDoor
open Go.RowKit

set_option maxHeartbeats 16000000 in
set_option maxRecDepth 100000 in
theorem gTot1_any (a b c d : Int) (r : Rp) (w : World) (h1 : -9223372036854775808 ≤ a + r.vl ∧ a + r.vl ≤ 9223372036854775807) (h2 : -9223372036854775808 ≤ b + r.vh ∧ b + r.vh ≤ 9223372036854775807) (h3 : -9223372036854775808 ≤ c + r.al ∧ c + r.al ≤ 9223372036854775807) (h4 : -9223372036854775808 ≤ d + r.ah ∧ d + r.ah ≤ 9223372036854775807) :
    Calls Tryd.prog 58 #[.agg #[.int .i64 a, .int .i64 b, .int .i64 c, .int .i64 d], .agg #[.int .i64 r.dy, .int .i64 r.dp, .int .i64 r.ht, .int .i64 r.st, .int .i64 r.vl, .int .i64 r.vh, .int .i64 r.al, .int .i64 r.ah]] w fun e w' => e = .returned (.agg #[.int .i64 (a + r.vl), .int .i64 (b + r.vh), .int .i64 (c + r.al), .int .i64 (d + r.ah)]) ∧ Below w.heap.size w w' := by
  have H1 := Lib.hid (fun W => gSum_any a b r.vl r.vh W h1 h2)
  have H2 := Lib.hid (fun W => gSum_any c d r.al r.ah W h3 h4)
  clear h1 h2 h3 h4
  obtain ⟨d', p, h, s, vl, vh, al, ah⟩ := r
  show Calls _ _ _ _ fun e w' => e = .returned (.agg #[.int .i64 (a + vl), .int .i64 (b + vh), .int .i64 (c + al), .int .i64 (d + ah)]) ∧ _
  have S0 := Lib.hid (CbI.init w a b c d d' p h s vl vh al ah)
  generalize a + vl = R0 at *
  generalize b + vh = R1 at *
  generalize c + al = R2 at *
  generalize d + ah = R3 at *
  obtain ⟨_, ⟨q0, q1, q2, q3, _, _⟩, ⟨e0, e1, e2, e3, e4, e5, e6, e7, _, _⟩, z0, z1, z2, z3, zf, _⟩ := S0.out
  go_enter Tryd.func58, Tryd.ntmps58
  go_upto_region 1 with fail
  have hz1 : w.heap.size ≤ w.heap.size + 1 + 1 := by omega
  have hz2 : w.heap.size + 1 < w.heap.size + 1 + 1 := by omega
  generalize w.heap.size + 1 + 1 = z at *
  replace S0 := Lib.hid (S0.out.below (bel_drew _))
  have y1 : w.heap.size + 1 ≠ z := by omega
  have y2 : z ≠ w.heap.size + 1 := by omega
  have y3 : w.heap.size ≠ z := by omega
  have y4 : z ≠ w.heap.size := by omega
  have f0 := zf 0 (by omega); have f1 := zf 1 (by omega); have f2 := zf 2 (by omega); have f3 := zf 3 (by omega)
  clear zf
  go_region_held3 (fun w' => w'.cell? ⟨w.heap.size, 0, none⟩ = some (.int .i64 a) ∧ w'.cell? ⟨w.heap.size, 1, none⟩ = some (.int .i64 b) ∧ w'.cell? ⟨w.heap.size, 2, none⟩ = some (.int .i64 c) ∧ w'.cell? ⟨w.heap.size, 3, none⟩ = some (.int .i64 d) ∧ w'.cell? ⟨w.heap.size + 1, 4, none⟩ = some (.int .i64 vl) ∧ w'.cell? ⟨w.heap.size + 1, 5, none⟩ = some (.int .i64 vh) ∧ w'.cell? ⟨w.heap.size + 1, 6, none⟩ = some (.int .i64 al) ∧ w'.cell? ⟨w.heap.size + 1, 7, none⟩ = some (.int .i64 ah)) (go_keep) (first
    | (go_at_call 59; (with_reducible refine (H1.out _).mono ?_); rintro e w4 ⟨rfl, gg⟩; replace S0 := Lib.hid (S0.out.below gg); obtain ⟨_, ⟨q0, q1, q2, q3, _, _⟩, ⟨e0, e1, e2, e3, e4, e5, e6, e7, _, _⟩, z0, z1, z2, z3, zf, _⟩ := S0.out; have f0 := zf 0 (by omega); have f1 := zf 1 (by omega); have f2 := zf 2 (by omega); have f3 := zf 3 (by omega); clear gg zf)
    | (go_at_call 59; (with_reducible refine (H2.out _).mono ?_); rintro e w5 ⟨rfl, gg⟩; replace S0 := Lib.hid (S0.out.below gg); obtain ⟨_, ⟨q0, q1, q2, q3, _, _⟩, ⟨e0, e1, e2, e3, e4, e5, e6, e7, _, _⟩, z0, z1, z2, z3, zf, _⟩ := S0.out; have f0 := zf 0 (by omega); have f1 := zf 1 (by omega); have f2 := zf 2 (by omega); have f3 := zf 3 (by omega); clear gg zf))
  all_goals
    have P := Lib.hid (S0.out.2.2.2.put (.int .i64 R0) (.int .i64 R1) (.int .i64 R2) (.int .i64 R3))
    have BB := Lib.hid (Quad.putB S0.out.1 hz1 (.int .i64 R0) (.int .i64 R1) (.int .i64 R2) (.int .i64 R3))
    go_wp2
    obtain ⟨p0, p1, p2, p3, _, _⟩ := P.out
    refine bodyPost_ret (v := .agg #[.int .i64 R0, .int .i64 R1, .int .i64 R2, .int .i64 R3]) (by simp [results, Tryd.results58, go_sem, p0, p1, p2, p3]) rfl ?_
    exact ⟨rfl, BB.out⟩
set_option maxHeartbeats 32000000 in
set_option maxRecDepth 100000 in
theorem gTot_core (a : Option Addr) (n cap : Nat) (R0 R1 R2 R3 T0 T1 T2 T3 E V : Int) (w : World)
    (hV : ((E != 0) = true ∧ V = E ∧ T0 = 0 ∧ T1 = 0 ∧ T2 = 0 ∧ T3 = 0) ∨ (E = 0 ∧ V = 0 ∧ T0 = R0 ∧ T1 = R1 ∧ T2 = R2 ∧ T3 = R3))
    (H1 : Hid (∀ W, Below w.heap.size w W → Calls Tryd.prog 53 #[.slice a n cap] W fun e w' => e = .returned (.int .i64 E) ∧ Below W.heap.size W w'))
    (H3 : Hid (E = 0 → ∀ W, Below w.heap.size w W → Calls Tryd.prog 55 #[.slice a n cap, .agg #[.int .i64 0, .int .i64 0, .int .i64 0, .int .i64 0], .func (.func 58) #[] #[]] W fun e w' => e = .returned (.agg #[.int .i64 R0, .int .i64 R1, .int .i64 R2, .int .i64 R3]) ∧ Below W.heap.size W w')) :
    Calls Tryd.prog 22 #[.slice a n cap] w fun e w' => e = .returned (.tuple #[.agg #[.int .i64 T0, .int .i64 T1], .agg #[.int .i64 T2, .int .i64 T3], .int .i64 V]) ∧ Below w.heap.size w w' := by
  have S0 := Lib.hid (TgI.init w)
  go_enter Tryd.func22, Tryd.ntmps22
  go_wp2_with fail
  refine (H1.out _ S0.out.1).mono ?_
  rintro e w1 ⟨rfl, gg⟩
  replace S0 := Lib.hid (S0.out.below gg); clear gg
  rcases hV with ⟨q, rfl, rfl, rfl, rfl, rfl⟩ | ⟨rfl, rfl, rfl, rfl, rfl, rfl⟩
  · have BB := Lib.hid (S0.out.put (.int .i64 0) (.int .i64 0) (.int .i64 0) (.int .i64 0))
    obtain ⟨_, ⟨z0, z1, f0, f1, _⟩, y0, y1, g0, g1, _⟩ := S0.out
    go_wp2
    obtain ⟨⟨⟨p0, p1, _, _, _⟩, r0, r1, _, _, _⟩, B⟩ := BB.out
    refine bodyPost_ret (v := .tuple #[.agg #[.int .i64 0, .int .i64 0], .agg #[.int .i64 0, .int .i64 0], .int .i64 V]) (by simp [results, Tryd.results22, go_sem, p0, p1, r0, r1]) rfl ?_
    exact ⟨rfl, B⟩
  · replace H3 := Lib.hid (H3.out rfl)
    go_wp2_with fail
    refine (H3.out _ S0.out.1).mono ?_
    rintro e w3 ⟨rfl, gg⟩
    have BS := (S0.out.below gg).2.2.2.2.2.2
    have S1 := Lib.hid ((S0.out.below gg).below (bel_alloc (o := .cells #[.int .i64 T0, .int .i64 T1, .int .i64 T2, .int .i64 T3] 79) (Below.refl _ _))); clear gg S0
    have Q1 := Lib.hid (Quad.new w3 (.int .i64 T0) (.int .i64 T1) (.int .i64 T2) (.int .i64 T3) 79)
    go_upto_region 5 with fail
    generalize w3.alloc (.cells #[.int .i64 T0, .int .i64 T1, .int .i64 T2, .int .i64 T3] 79) = WW at *
    have n1 : w.heap.size ≠ w3.heap.size := by omega
    have n2 : w3.heap.size ≠ w.heap.size := by omega
    have n3 : w.heap.size + 1 ≠ w3.heap.size := by omega
    have n4 : w3.heap.size ≠ w.heap.size + 1 := by omega
    generalize hq3 : w3.heap.size = u3 at *
    replace hq3 := Lib.hid hq3
    have BB := Lib.hid (S1.out.put (.int .i64 T0) (.int .i64 T1) (.int .i64 T2) (.int .i64 T3))
    obtain ⟨_, ⟨z0, z1, f0, f1, _⟩, y0, y1, g0, g1, _⟩ := S1.out
    obtain ⟨q0, q1, q2, q3, _, _⟩ := Q1.out
    go_region
    all_goals go_wp2
    all_goals obtain ⟨⟨⟨p0, p1, _, _, _⟩, r0, r1, _, _, _⟩, B⟩ := BB.out
    all_goals refine bodyPost_ret (v := .tuple #[.agg #[.int .i64 T0, .int .i64 T1], .agg #[.int .i64 T2, .int .i64 T3], .int .i64 0]) (by simp [results, Tryd.results22, go_sem, p0, p1, r0, r1]) rfl ?_
    all_goals exact ⟨rfl, by first | exact B | exact bel_trans B (bel_drew _)⟩
def smS (f : Rp → Int) (l : List Rp) : Nat → Int
  | 0 => 0
  | k + 1 => smS f l k + f (gP l k)
theorem smS_bd {f : Rp → Int} {l : List Rp} {M : Int} {n : Nat} (h : ∀ j, j < n → 0 ≤ f (gP l j) ∧ f (gP l j) ≤ M) (hM : 0 ≤ M) (k : Nat) (hk : k ≤ n) : 0 ≤ smS f l k ∧ smS f l k ≤ k * M := by
  induction k with
  | zero => simp [smS]
  | succ k ih =>
    have := ih (by omega)
    have := h k (by omega)
    have e : ((k + 1 : Nat) : Int) * M = k * M + M := by rw [Int.natCast_add, Int.add_mul]; simp
    show 0 ≤ smS f l k + f (gP l k) ∧ smS f l k + f (gP l k) ≤ _
    omega
/-- what Total returns -/
def tt (x : Int) (l : List Rp) : Int := if glE l = 0 then x else 0
theorem gTot_any (v : Value) (l : List Rp) (w : World) (hv : Rps w v l) :
    Calls Tryd.prog 22 #[v] w fun e w' => e = .returned (.tuple #[.agg #[.int .i64 (tt (smS Rp.vl l l.length) l), .int .i64 (tt (smS Rp.vh l l.length) l)], .agg #[.int .i64 (tt (smS Rp.al l l.length) l), .int .i64 (tt (smS Rp.ah l l.length) l)], .int .i64 (glE l)]) ∧ Below w.heap.size w w' := by
  have H1 : Hid (∀ W, Below w.heap.size w W → _) := Lib.hid fun W hW => gchk_any v l W (hv.below hW)
  obtain ⟨a, cap, rfl, ⟨hc1, hc2⟩, hh⟩ := hv
  have good : glE l = 0 → l.length ≤ 64 ∧ ∀ j, j < l.length → rgtB (gP l j) = true := fun h => by
    unfold glE at h
    split at h
    · omega
    · split at h
      · omega
      · rename_i q; exact ⟨by omega, alB_iff.1 (by simpa using q)⟩
  have H3 : Hid (glE l = 0 → ∀ W, Below w.heap.size w W → _) := Lib.hid fun he W hW => foldF_some 58 (enters_of Tryd.func58 (by kernel_rfl) rfl) a l.length cap l (smS Rp.vl l) (smS Rp.vh l) (smS Rp.al l) (smS Rp.ah l) W (by have := (good he).1; omega) (Lib.hid fun h0 => by
      rcases hh with h | ⟨b, off, ha, hb, hc⟩
      · omega
      · exact ⟨b, off, ha, Nat.lt_of_lt_of_le hb hW.size, fun j hj => (hc j hj).below hW⟩) (Lib.hid fun k W2 hk => by
      obtain ⟨h64, hg⟩ := good he
      have v : ∀ j, j < l.length → (0 ≤ (gP l j).vl ∧ (gP l j).vl ≤ 343597383680000) ∧ (0 ≤ (gP l j).vh ∧ (gP l j).vh ≤ 343597383680000) ∧ (0 ≤ (gP l j).al ∧ (gP l j).al ≤ 343597383680000) ∧ (0 ≤ (gP l j).ah ∧ (gP l j).ah ≤ 343597383680000) := fun j hj => by
        have r := rgtB_iff.1 (hg j hj)
        have q := rgt_bd (hg j hj)
        omega
      have b0 := smS_bd (f := Rp.vl) (n := l.length) (fun j hj => (v j hj).1) (by omega) k (by omega)
      have b1 := smS_bd (f := Rp.vh) (n := l.length) (fun j hj => (v j hj).2.1) (by omega) k (by omega)
      have b2 := smS_bd (f := Rp.al) (n := l.length) (fun j hj => (v j hj).2.2.1) (by omega) k (by omega)
      have b3 := smS_bd (f := Rp.ah) (n := l.length) (fun j hj => (v j hj).2.2.2) (by omega) k (by omega)
      have vk := v k hk
      have hk64 : (k : Int) * 343597383680000 ≤ 64 * 343597383680000 := Int.mul_le_mul_of_nonneg_right (by omega) (by omega)
      exact gTot1_any _ _ _ _ (gP l k) W2 ⟨by omega, by omega⟩ ⟨by omega, by omega⟩ ⟨by omega, by omega⟩ ⟨by omega, by omega⟩)
  refine gTot_core a _ cap _ _ _ _ _ _ _ _ (glE l) _ w ?_ H1 H3
  by_cases g : glE l = 0
  · right
    have h : ∀ x, tt x l = x := fun x => by unfold tt; rw [if_pos g]
    exact ⟨g, g, h _, h _, h _, h _⟩
  · left
    have h : ∀ x, tt x l = 0 := fun x => by unfold tt; rw [if_neg g]
    exact ⟨by simpa using g, rfl, h _, h _, h _, h _⟩
end Go.Proofs.YtdpkochkpcjioabDoor

