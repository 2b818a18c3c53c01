/- The reference of layer 22: One. -/
import Derived.Test.YtfpdanjhlepckaaDoorLRB2
import Derived.Test.YtfpdanjhlepckaaDoorLTC
namespace Go.Proofs.YtfpdanjhlepckaaDoor
open Go.RowKit

set_option maxHeartbeats 8000000 in
set_option maxRecDepth 100000 in
theorem rlOne_pl (d A M : Int) (a : Option Addr) (n cap : Nat) (s : List (Int × Int)) (w : World) (NV : Hid (Pts w (.slice a n cap) s)) (hn : Hid (s.length = n)) (h0 : plB A M = false) :
    Calls Tryd.prog 36 #[.agg #[.int .i64 d, .int .i64 A, .int .i64 M, .slice a n cap]] w fun e w' => e = .returned (.int .i64 1) ∧ Below w.heap.size w w' := by
  have HP := Lib.hid (fun W => rxPl_any A M W)
  have HS := Lib.hid (fun W h => rlSh_any (.slice a n cap) s W h)
  have T0 := Lib.hid (Quad.new w (.int .i64 d) (.int .i64 A) (.int .i64 M) (.slice a n cap) 32)
  have X := Lib.hid (bel_alloc (w := w) (o := (.cells #[.int .i64 d, .int .i64 A, .int .i64 M, .slice a n cap] 32)) (Below.refl _ _))
  replace NV := Lib.hid (NV.out.alloc (.cells #[.int .i64 d, .int .i64 A, .int .i64 M, .slice a n cap] 32))
  obtain ⟨b0, b1, b2, b3, _, _⟩ := T0.out
  rw [h0] at HP
  go_enter Tryd.func36, Tryd.ntmps36
  go_wp2_with fail
  refine (HP.out _).mono ?_
  rintro e w1 ⟨rfl, h1⟩
  replace T0 := Lib.hid (T0.out.below h1)
  replace X := Lib.hid (bel_trans X.out h1)
  replace NV := Lib.hid (NV.out.below h1)
  clear h1 b0 b1 b2 b3
  obtain ⟨b0, b1, b2, b3, _, _⟩ := T0.out
  go_wp2
  go_returns
  exact ⟨rfl, X.out⟩
set_option maxHeartbeats 8000000 in
set_option maxRecDepth 100000 in
theorem rlOne_zero (d A M : Int) (a : Option Addr) (n cap : Nat) (s : List (Int × Int)) (w : World) (NV : Hid (Pts w (.slice a n cap) s)) (hn : Hid (s.length = n)) (h0 : plB A M = true) (g1 : (M == 0) = true) :
    Calls Tryd.prog 36 #[.agg #[.int .i64 d, .int .i64 A, .int .i64 M, .slice a n cap]] w fun e w' => e = .returned (.int .i64 1) ∧ Below w.heap.size w w' := by
  have HP := Lib.hid (fun W => rxPl_any A M W)
  have HS := Lib.hid (fun W h => rlSh_any (.slice a n cap) s W h)
  have T0 := Lib.hid (Quad.new w (.int .i64 d) (.int .i64 A) (.int .i64 M) (.slice a n cap) 32)
  have X := Lib.hid (bel_alloc (w := w) (o := (.cells #[.int .i64 d, .int .i64 A, .int .i64 M, .slice a n cap] 32)) (Below.refl _ _))
  replace NV := Lib.hid (NV.out.alloc (.cells #[.int .i64 d, .int .i64 A, .int .i64 M, .slice a n cap] 32))
  obtain ⟨b0, b1, b2, b3, _, _⟩ := T0.out
  rw [h0] at HP
  go_enter Tryd.func36, Tryd.ntmps36
  go_wp2_with fail
  refine (HP.out _).mono ?_
  rintro e w1 ⟨rfl, h1⟩
  replace T0 := Lib.hid (T0.out.below h1)
  replace X := Lib.hid (bel_trans X.out h1)
  replace NV := Lib.hid (NV.out.below h1)
  clear h1 b0 b1 b2 b3
  obtain ⟨b0, b1, b2, b3, _, _⟩ := T0.out
  go_wp2
  go_returns
  exact ⟨rfl, X.out⟩
set_option maxHeartbeats 8000000 in
set_option maxRecDepth 100000 in
theorem rlOne_sh (d A M : Int) (a : Option Addr) (n cap : Nat) (s : List (Int × Int)) (w : World) (NV : Hid (Pts w (.slice a n cap) s)) (hn : Hid (s.length = n)) (h0 : plB A M = true) (g1 : (M == 0) = false) (F : Int) (hF : Hid (rsF s = F)) (g2 : (F != 0) = true) :
    Calls Tryd.prog 36 #[.agg #[.int .i64 d, .int .i64 A, .int .i64 M, .slice a n cap]] w fun e w' => e = .returned (.int .i64 F) ∧ Below w.heap.size w w' := by
  have HP := Lib.hid (fun W => rxPl_any A M W)
  have HS := Lib.hid (fun W h => rlSh_any (.slice a n cap) s W h)
  have T0 := Lib.hid (Quad.new w (.int .i64 d) (.int .i64 A) (.int .i64 M) (.slice a n cap) 32)
  have X := Lib.hid (bel_alloc (w := w) (o := (.cells #[.int .i64 d, .int .i64 A, .int .i64 M, .slice a n cap] 32)) (Below.refl _ _))
  replace NV := Lib.hid (NV.out.alloc (.cells #[.int .i64 d, .int .i64 A, .int .i64 M, .slice a n cap] 32))
  obtain ⟨b0, b1, b2, b3, _, _⟩ := T0.out
  rw [h0] at HP
  rw [hF.out] at HS
  go_enter Tryd.func36, Tryd.ntmps36
  go_wp2_with fail
  refine (HP.out _).mono ?_
  rintro e w1 ⟨rfl, h1⟩
  replace T0 := Lib.hid (T0.out.below h1)
  replace X := Lib.hid (bel_trans X.out h1)
  replace NV := Lib.hid (NV.out.below h1)
  clear h1 b0 b1 b2 b3
  obtain ⟨b0, b1, b2, b3, _, _⟩ := T0.out
  go_wp2_with fail
  refine (HS.out _ NV.out).mono ?_
  rintro e w2 ⟨rfl, h1⟩
  replace T0 := Lib.hid (T0.out.below h1)
  replace X := Lib.hid (bel_trans X.out h1)
  replace NV := Lib.hid (NV.out.below h1)
  clear h1 b0 b1 b2 b3
  obtain ⟨b0, b1, b2, b3, _, _⟩ := T0.out
  go_wp2
  go_returns
  exact ⟨rfl, X.out⟩
set_option maxHeartbeats 8000000 in
set_option maxRecDepth 100000 in
theorem rlOne_sum (d A M : Int) (a : Option Addr) (n cap : Nat) (s : List (Int × Int)) (w : World) (NV : Hid (Pts w (.slice a n cap) s)) (hn : Hid (s.length = n)) (hl : n ≤ 32) (h0 : plB A M = true) (g1 : (M == 0) = false) (h4 : shO s = true) (S : Int) (hS : Hid (sm fM s = S)) (h5 : (S != A) = true) :
    Calls Tryd.prog 36 #[.agg #[.int .i64 d, .int .i64 A, .int .i64 M, .slice a n cap]] w fun e w' => e = .returned (.int .i64 14) ∧ Below w.heap.size w w' := by
  have HP := Lib.hid (fun W => rxPl_any A M W)
  have HS := Lib.hid (fun W h => rlSh_any (.slice a n cap) s W h)
  have T0 := Lib.hid (Quad.new w (.int .i64 d) (.int .i64 A) (.int .i64 M) (.slice a n cap) 32)
  have X := Lib.hid (bel_alloc (w := w) (o := (.cells #[.int .i64 d, .int .i64 A, .int .i64 M, .slice a n cap] 32)) (Below.refl _ _))
  replace NV := Lib.hid (NV.out.alloc (.cells #[.int .i64 d, .int .i64 A, .int .i64 M, .slice a n cap] 32))
  obtain ⟨b0, b1, b2, b3, _, _⟩ := T0.out
  have HM := Lib.hid (fun W h => rlAl_any (.slice a n cap) s W h (by rw [hn.out]; exact hl) h4)
  rw [hS.out] at HM
  rw [h0] at HP
  have hF : rsF s = 0 := by unfold rsF; rw [if_neg (by rw [hn.out]; omega), if_pos h4]
  rw [hF] at HS
  clear hF
  go_enter Tryd.func36, Tryd.ntmps36
  go_wp2_with fail
  refine (HP.out _).mono ?_
  rintro e w1 ⟨rfl, h1⟩
  replace T0 := Lib.hid (T0.out.below h1)
  replace X := Lib.hid (bel_trans X.out h1)
  replace NV := Lib.hid (NV.out.below h1)
  clear h1 b0 b1 b2 b3
  obtain ⟨b0, b1, b2, b3, _, _⟩ := T0.out
  go_wp2_with fail
  refine (HS.out _ NV.out).mono ?_
  rintro e w2 ⟨rfl, h1⟩
  replace T0 := Lib.hid (T0.out.below h1)
  replace X := Lib.hid (bel_trans X.out h1)
  replace NV := Lib.hid (NV.out.below h1)
  clear h1 b0 b1 b2 b3
  obtain ⟨b0, b1, b2, b3, _, _⟩ := T0.out
  go_upto_region 6 with fail
  have NVd := Lib.hid (NV.out.below (bel_drew w2))
  have Td := Lib.hid (T0.out.below (bel_drew w2))
  have Xd := Lib.hid (bel_trans X.out (bel_drew w2))
  go_region_with (go_at_call 65; refine (HM.out _ NVd.out).mono ?_; rintro e w4 ⟨rfl, h1⟩; obtain ⟨e0, e1, e2, e3, _, _⟩ := Td.out.below h1; have X4 := Lib.hid (bel_trans Xd.out h1); clear h1)
  all_goals go_wp2
  all_goals go_returns
  all_goals exact ⟨rfl, X4.out⟩
set_option maxHeartbeats 8000000 in
set_option maxRecDepth 100000 in
theorem rlOne_ok (d A M : Int) (a : Option Addr) (n cap : Nat) (s : List (Int × Int)) (w : World) (NV : Hid (Pts w (.slice a n cap) s)) (hn : Hid (s.length = n)) (hl : n ≤ 32) (h0 : plB A M = true) (g1 : (M == 0) = false) (h4 : shO s = true) (S : Int) (hS : Hid (sm fM s = S)) (h5 : (S != A) = false) :
    Calls Tryd.prog 36 #[.agg #[.int .i64 d, .int .i64 A, .int .i64 M, .slice a n cap]] w fun e w' => e = .returned (.int .i64 0) ∧ Below w.heap.size w w' := by
  have HP := Lib.hid (fun W => rxPl_any A M W)
  have HS := Lib.hid (fun W h => rlSh_any (.slice a n cap) s W h)
  have T0 := Lib.hid (Quad.new w (.int .i64 d) (.int .i64 A) (.int .i64 M) (.slice a n cap) 32)
  have X := Lib.hid (bel_alloc (w := w) (o := (.cells #[.int .i64 d, .int .i64 A, .int .i64 M, .slice a n cap] 32)) (Below.refl _ _))
  replace NV := Lib.hid (NV.out.alloc (.cells #[.int .i64 d, .int .i64 A, .int .i64 M, .slice a n cap] 32))
  obtain ⟨b0, b1, b2, b3, _, _⟩ := T0.out
  have HM := Lib.hid (fun W h => rlAl_any (.slice a n cap) s W h (by rw [hn.out]; exact hl) h4)
  rw [hS.out] at HM
  rw [h0] at HP
  have hF : rsF s = 0 := by unfold rsF; rw [if_neg (by rw [hn.out]; omega), if_pos h4]
  rw [hF] at HS
  clear hF
  go_enter Tryd.func36, Tryd.ntmps36
  go_wp2_with fail
  refine (HP.out _).mono ?_
  rintro e w1 ⟨rfl, h1⟩
  replace T0 := Lib.hid (T0.out.below h1)
  replace X := Lib.hid (bel_trans X.out h1)
  replace NV := Lib.hid (NV.out.below h1)
  clear h1 b0 b1 b2 b3
  obtain ⟨b0, b1, b2, b3, _, _⟩ := T0.out
  go_wp2_with fail
  refine (HS.out _ NV.out).mono ?_
  rintro e w2 ⟨rfl, h1⟩
  replace T0 := Lib.hid (T0.out.below h1)
  replace X := Lib.hid (bel_trans X.out h1)
  replace NV := Lib.hid (NV.out.below h1)
  clear h1 b0 b1 b2 b3
  obtain ⟨b0, b1, b2, b3, _, _⟩ := T0.out
  go_upto_region 6 with fail
  have NVd := Lib.hid (NV.out.below (bel_drew w2))
  have Td := Lib.hid (T0.out.below (bel_drew w2))
  have Xd := Lib.hid (bel_trans X.out (bel_drew w2))
  go_region_with (go_at_call 65; refine (HM.out _ NVd.out).mono ?_; rintro e w4 ⟨rfl, h1⟩; obtain ⟨e0, e1, e2, e3, _, _⟩ := Td.out.below h1; have X4 := Lib.hid (bel_trans Xd.out h1); clear h1)
  all_goals go_wp2
  all_goals go_returns
  all_goals exact ⟨rfl, X4.out⟩

/-- the fault of a lot alone -/
def roF (c : Lt) : Int := if fiB c.al c.ms = false then 1 else if 32 < c.sh.length then 12 else if shO c.sh = false then 10 else if sm fM c.sh ≠ c.al then 14 else 0
theorem ltF_roF (c : Lt) (bef : Int) : ltF c bef = if idB c.id = false then 2 else if c.id ≤ bef then 5 else roF c := rfl
theorem rlOne_any (c : Lt) (a : Option Addr) (cap : Nat) (w : World) (hv : Pts w (.slice a c.sh.length cap) c.sh) :
    Calls Tryd.prog 36 #[ltV c a cap] w fun e w' => e = .returned (.int .i64 (roF c)) ∧ Below w.heap.size w w' := by
  unfold roF ltV
  cases h0 : plB c.al c.ms with
  | false =>
    have : fiB c.al c.ms = false := by unfold fiB; rw [h0]; rfl
    rw [if_pos this]; exact rlOne_pl _ _ _ a _ cap c.sh w hv rfl h0
  | true =>
    have hm := plB_iff.1 h0
    by_cases g : c.ms = 0
    · have : fiB c.al c.ms = false := by unfold fiB; rw [h0, g]; rfl
      rw [if_pos this]; exact rlOne_zero _ _ _ a _ cap c.sh w hv rfl h0 (by rw [g]; rfl)
    · have : fiB c.al c.ms = true := by unfold fiB; rw [h0]; simp; omega
      have g1 : (c.ms == 0) = false := by simpa using g
      rw [this, if_neg (by simp)]
      by_cases h3 : 32 < c.sh.length
      · rw [if_pos h3]; exact rlOne_sh _ _ _ a _ cap c.sh w hv rfl h0 g1 12 (Lib.hid (by unfold rsF; rw [if_pos h3])) rfl
      · rw [if_neg h3]
        cases h4 : shO c.sh with
        | false => rw [if_pos rfl]; exact rlOne_sh _ _ _ a _ cap c.sh w hv rfl h0 g1 10 (Lib.hid (by unfold rsF; rw [if_neg h3, h4]; rfl)) rfl
        | true =>
          rw [if_neg (by simp)]
          by_cases h5 : sm fM c.sh ≠ c.al
          · rw [if_pos h5]; exact rlOne_sum _ _ _ a _ cap c.sh w hv rfl (by omega) h0 g1 h4 _ rfl (by simpa using h5)
          · rw [if_neg h5]; exact rlOne_ok _ _ _ a _ cap c.sh w hv rfl (by omega) h0 g1 h4 _ rfl (by simpa using h5)
end Go.Proofs.YtfpdanjhlepckaaDoor

