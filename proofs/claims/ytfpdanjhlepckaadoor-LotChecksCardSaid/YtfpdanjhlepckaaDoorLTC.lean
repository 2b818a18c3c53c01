/- Package lot: the fault of a lot. -/
import Derived.Test.YtfpdanjhlepckaaDoorLTB
import Derived.BigQuiet
import Derived.Deep.RegionWith
namespace Go.Proofs.YtfpdanjhlepckaaDoor
open Go.RowKit

/-- the value of a lot -/
def ltV (c : Lt) (a : Option Addr) (cap : Nat) : Value := .agg #[.int .i64 c.id, .int .i64 c.al, .int .i64 c.ms, .slice a c.sh.length cap]
set_option maxHeartbeats 8000000 in
set_option maxRecDepth 100000 in
theorem ltFa_id (d A M bef : Int) (a : Option Addr) (n cap : Nat) (s : List (Int × Int)) (w : World) (NV : Hid (Pts w (.slice a n cap) s)) (hn : Hid (s.length = n)) (hbig : n ≤ 1000) (h0 : idB d = false) :
    Calls Tryd.prog 34 #[.agg #[.int .i64 d, .int .i64 A, .int .i64 M, .slice a n cap], .int .i64 bef] w fun e w' => e = .returned (.int .i64 2) ∧ Below w.heap.size w w' := by
  have HI := Lib.hid (fun W => ltId_any d W)
  have HF := Lib.hid (fun W => ltFi_any A M W)
  have HR := Lib.hid (fun W h => ltRi_any (.slice a n cap) s W h (by rw [hn.out]; exact hbig))
  have T0 := Lib.hid (Quad.new w (.int .i64 d) (.int .i64 A) (.int .i64 M) (.slice a n cap) 32)
  have X := Lib.hid (bel_alloc (w := w) (o := (.cells #[.int .i64 d, .int .i64 A, .int .i64 M, .slice a n cap] 32)) (Below.refl _ _))
  replace NV := Lib.hid (NV.out.alloc (.cells #[.int .i64 d, .int .i64 A, .int .i64 M, .slice a n cap] 32))
  obtain ⟨b0, b1, b2, b3, _, _⟩ := T0.out
  rw [h0] at HI
  go_enter Tryd.func34, Tryd.ntmps34
  go_wp2_with fail
  refine (HI.out _).mono ?_
  rintro e w1 ⟨rfl, hw⟩
  subst hw
  go_wp2
  go_returns
  exact ⟨rfl, X.out⟩
set_option maxHeartbeats 8000000 in
set_option maxRecDepth 100000 in
theorem ltFa_ord (d A M bef : Int) (a : Option Addr) (n cap : Nat) (s : List (Int × Int)) (w : World) (NV : Hid (Pts w (.slice a n cap) s)) (hn : Hid (s.length = n)) (hbig : n ≤ 1000) (h0 : idB d = true) (h1 : decide (d ≤ bef) = true) :
    Calls Tryd.prog 34 #[.agg #[.int .i64 d, .int .i64 A, .int .i64 M, .slice a n cap], .int .i64 bef] w fun e w' => e = .returned (.int .i64 5) ∧ Below w.heap.size w w' := by
  have HI := Lib.hid (fun W => ltId_any d W)
  have HF := Lib.hid (fun W => ltFi_any A M W)
  have HR := Lib.hid (fun W h => ltRi_any (.slice a n cap) s W h (by rw [hn.out]; exact hbig))
  have T0 := Lib.hid (Quad.new w (.int .i64 d) (.int .i64 A) (.int .i64 M) (.slice a n cap) 32)
  have X := Lib.hid (bel_alloc (w := w) (o := (.cells #[.int .i64 d, .int .i64 A, .int .i64 M, .slice a n cap] 32)) (Below.refl _ _))
  replace NV := Lib.hid (NV.out.alloc (.cells #[.int .i64 d, .int .i64 A, .int .i64 M, .slice a n cap] 32))
  obtain ⟨b0, b1, b2, b3, _, _⟩ := T0.out
  rw [h0] at HI
  go_enter Tryd.func34, Tryd.ntmps34
  go_wp2_with fail
  refine (HI.out _).mono ?_
  rintro e w1 ⟨rfl, hw⟩
  subst hw
  go_wp2
  go_returns
  exact ⟨rfl, X.out⟩
set_option maxHeartbeats 8000000 in
set_option maxRecDepth 100000 in
theorem ltFa_fil (d A M bef : Int) (a : Option Addr) (n cap : Nat) (s : List (Int × Int)) (w : World) (NV : Hid (Pts w (.slice a n cap) s)) (hn : Hid (s.length = n)) (hbig : n ≤ 1000) (h0 : idB d = true) (h1 : decide (d ≤ bef) = false) (h2 : fiB A M = false) :
    Calls Tryd.prog 34 #[.agg #[.int .i64 d, .int .i64 A, .int .i64 M, .slice a n cap], .int .i64 bef] w fun e w' => e = .returned (.int .i64 1) ∧ Below w.heap.size w w' := by
  have HI := Lib.hid (fun W => ltId_any d W)
  have HF := Lib.hid (fun W => ltFi_any A M W)
  have HR := Lib.hid (fun W h => ltRi_any (.slice a n cap) s W h (by rw [hn.out]; exact hbig))
  have T0 := Lib.hid (Quad.new w (.int .i64 d) (.int .i64 A) (.int .i64 M) (.slice a n cap) 32)
  have X := Lib.hid (bel_alloc (w := w) (o := (.cells #[.int .i64 d, .int .i64 A, .int .i64 M, .slice a n cap] 32)) (Below.refl _ _))
  replace NV := Lib.hid (NV.out.alloc (.cells #[.int .i64 d, .int .i64 A, .int .i64 M, .slice a n cap] 32))
  obtain ⟨b0, b1, b2, b3, _, _⟩ := T0.out
  rw [h0] at HI
  rw [h2] at HF
  go_enter Tryd.func34, Tryd.ntmps34
  go_wp2_with fail
  refine (HI.out _).mono ?_
  rintro e w1 ⟨rfl, hw⟩
  subst hw
  go_wp2_with fail
  refine (HF.out _).mono ?_
  rintro e w2 ⟨rfl, h1⟩
  replace T0 := Lib.hid (T0.out.below h1)
  replace X := Lib.hid (bel_trans X.out h1)
  replace NV := Lib.hid (NV.out.below h1)
  clear h1 b0 b1 b2 b3
  obtain ⟨b0, b1, b2, b3, _, _⟩ := T0.out
  go_wp2
  go_returns
  exact ⟨rfl, X.out⟩
set_option maxHeartbeats 8000000 in
set_option maxRecDepth 100000 in
theorem ltFa_full (d A M bef : Int) (a : Option Addr) (n cap : Nat) (s : List (Int × Int)) (w : World) (NV : Hid (Pts w (.slice a n cap) s)) (hn : Hid (s.length = n)) (hbig : n ≤ 1000) (h0 : idB d = true) (h1 : decide (d ≤ bef) = false) (h2 : fiB A M = true) (h3 : decide (32 < (n : Int)) = true) :
    Calls Tryd.prog 34 #[.agg #[.int .i64 d, .int .i64 A, .int .i64 M, .slice a n cap], .int .i64 bef] w fun e w' => e = .returned (.int .i64 12) ∧ Below w.heap.size w w' := by
  have HI := Lib.hid (fun W => ltId_any d W)
  have HF := Lib.hid (fun W => ltFi_any A M W)
  have HR := Lib.hid (fun W h => ltRi_any (.slice a n cap) s W h (by rw [hn.out]; exact hbig))
  have T0 := Lib.hid (Quad.new w (.int .i64 d) (.int .i64 A) (.int .i64 M) (.slice a n cap) 32)
  have X := Lib.hid (bel_alloc (w := w) (o := (.cells #[.int .i64 d, .int .i64 A, .int .i64 M, .slice a n cap] 32)) (Below.refl _ _))
  replace NV := Lib.hid (NV.out.alloc (.cells #[.int .i64 d, .int .i64 A, .int .i64 M, .slice a n cap] 32))
  obtain ⟨b0, b1, b2, b3, _, _⟩ := T0.out
  rw [h0] at HI
  rw [h2] at HF
  go_enter Tryd.func34, Tryd.ntmps34
  go_wp2_with fail
  refine (HI.out _).mono ?_
  rintro e w1 ⟨rfl, hw⟩
  subst hw
  go_wp2_with fail
  refine (HF.out _).mono ?_
  rintro e w2 ⟨rfl, h1⟩
  replace T0 := Lib.hid (T0.out.below h1)
  replace X := Lib.hid (bel_trans X.out h1)
  replace NV := Lib.hid (NV.out.below h1)
  clear h1 b0 b1 b2 b3
  obtain ⟨b0, b1, b2, b3, _, _⟩ := T0.out
  go_wp2
  go_returns
  exact ⟨rfl, X.out⟩
set_option maxHeartbeats 8000000 in
set_option maxRecDepth 100000 in
theorem ltFa_sh (d A M bef : Int) (a : Option Addr) (n cap : Nat) (s : List (Int × Int)) (w : World) (NV : Hid (Pts w (.slice a n cap) s)) (hn : Hid (s.length = n)) (hbig : n ≤ 1000) (h0 : idB d = true) (h1 : decide (d ≤ bef) = false) (h2 : fiB A M = true) (h3 : decide (32 < (n : Int)) = false) (h4 : shO s = false) :
    Calls Tryd.prog 34 #[.agg #[.int .i64 d, .int .i64 A, .int .i64 M, .slice a n cap], .int .i64 bef] w fun e w' => e = .returned (.int .i64 10) ∧ Below w.heap.size w w' := by
  have HI := Lib.hid (fun W => ltId_any d W)
  have HF := Lib.hid (fun W => ltFi_any A M W)
  have HR := Lib.hid (fun W h => ltRi_any (.slice a n cap) s W h (by rw [hn.out]; exact hbig))
  have T0 := Lib.hid (Quad.new w (.int .i64 d) (.int .i64 A) (.int .i64 M) (.slice a n cap) 32)
  have X := Lib.hid (bel_alloc (w := w) (o := (.cells #[.int .i64 d, .int .i64 A, .int .i64 M, .slice a n cap] 32)) (Below.refl _ _))
  replace NV := Lib.hid (NV.out.alloc (.cells #[.int .i64 d, .int .i64 A, .int .i64 M, .slice a n cap] 32))
  obtain ⟨b0, b1, b2, b3, _, _⟩ := T0.out
  rw [h0] at HI
  rw [h2] at HF
  rw [h4] at HR
  go_enter Tryd.func34, Tryd.ntmps34
  go_wp2_with fail
  refine (HI.out _).mono ?_
  rintro e w1 ⟨rfl, hw⟩
  subst hw
  go_wp2_with fail
  refine (HF.out _).mono ?_
  rintro e w2 ⟨rfl, h1⟩
  replace T0 := Lib.hid (T0.out.below h1)
  replace X := Lib.hid (bel_trans X.out h1)
  replace NV := Lib.hid (NV.out.below h1)
  clear h1 b0 b1 b2 b3
  obtain ⟨b0, b1, b2, b3, _, _⟩ := T0.out
  go_wp2_with fail
  refine (HR.out _ NV.out).mono ?_
  rintro e w3 ⟨rfl, h1⟩
  replace T0 := Lib.hid (T0.out.below h1)
  replace X := Lib.hid (bel_trans X.out h1)
  replace NV := Lib.hid (NV.out.below h1)
  clear h1 b0 b1 b2 b3
  obtain ⟨b0, b1, b2, b3, _, _⟩ := T0.out
  go_wp2
  go_returns
  exact ⟨rfl, X.out⟩
set_option maxHeartbeats 8000000 in
set_option maxRecDepth 100000 in
theorem ltFa_sum (d A M bef : Int) (a : Option Addr) (n cap : Nat) (s : List (Int × Int)) (w : World) (NV : Hid (Pts w (.slice a n cap) s)) (hn : Hid (s.length = n)) (hbig : n ≤ 1000) (h0 : idB d = true) (h1 : decide (d ≤ bef) = false) (h2 : fiB A M = true) (h3 : decide (32 < (n : Int)) = false) (h4 : shO s = true) (S : Int) (hS : Hid (sm fM s = S)) (h5 : (S != A) = true) :
    Calls Tryd.prog 34 #[.agg #[.int .i64 d, .int .i64 A, .int .i64 M, .slice a n cap], .int .i64 bef] w fun e w' => e = .returned (.int .i64 14) ∧ Below w.heap.size w w' := by
  have HI := Lib.hid (fun W => ltId_any d W)
  have HF := Lib.hid (fun W => ltFi_any A M W)
  have HR := Lib.hid (fun W h => ltRi_any (.slice a n cap) s W h (by rw [hn.out]; exact hbig))
  have T0 := Lib.hid (Quad.new w (.int .i64 d) (.int .i64 A) (.int .i64 M) (.slice a n cap) 32)
  have X := Lib.hid (bel_alloc (w := w) (o := (.cells #[.int .i64 d, .int .i64 A, .int .i64 M, .slice a n cap] 32)) (Below.refl _ _))
  replace NV := Lib.hid (NV.out.alloc (.cells #[.int .i64 d, .int .i64 A, .int .i64 M, .slice a n cap] 32))
  obtain ⟨b0, b1, b2, b3, _, _⟩ := T0.out
  have HM := Lib.hid (fun W h => ltSm_any (.slice a n cap) s W h (by rw [hn.out]; have := of_decide_eq_false h3; omega) h4)
  rw [hS.out] at HM
  rw [h0] at HI
  rw [h2] at HF
  rw [h4] at HR
  go_enter Tryd.func34, Tryd.ntmps34
  go_wp2_with fail
  refine (HI.out _).mono ?_
  rintro e w1 ⟨rfl, hw⟩
  subst hw
  go_wp2_with fail
  refine (HF.out _).mono ?_
  rintro e w2 ⟨rfl, h1⟩
  replace T0 := Lib.hid (T0.out.below h1)
  replace X := Lib.hid (bel_trans X.out h1)
  replace NV := Lib.hid (NV.out.below h1)
  clear h1 b0 b1 b2 b3
  obtain ⟨b0, b1, b2, b3, _, _⟩ := T0.out
  go_wp2_with fail
  refine (HR.out _ NV.out).mono ?_
  rintro e w3 ⟨rfl, h1⟩
  replace T0 := Lib.hid (T0.out.below h1)
  replace X := Lib.hid (bel_trans X.out h1)
  replace NV := Lib.hid (NV.out.below h1)
  clear h1 b0 b1 b2 b3
  obtain ⟨b0, b1, b2, b3, _, _⟩ := T0.out
  go_upto_region 11 with fail
  have NVd := Lib.hid (NV.out.below (bel_drew w3))
  have Td := Lib.hid (T0.out.below (bel_drew w3))
  have Xd := Lib.hid (bel_trans X.out (bel_drew w3))
  go_region_with (go_at_call 63; refine (HM.out _ NVd.out).mono ?_; rintro e w4 ⟨rfl, h1⟩; obtain ⟨e0, e1, e2, e3, _, _⟩ := Td.out.below h1; have X4 := Lib.hid (bel_trans Xd.out h1); clear h1)
  all_goals go_wp2
  all_goals go_returns
  all_goals exact ⟨rfl, X4.out⟩
set_option maxHeartbeats 8000000 in
set_option maxRecDepth 100000 in
theorem ltFa_ok (d A M bef : Int) (a : Option Addr) (n cap : Nat) (s : List (Int × Int)) (w : World) (NV : Hid (Pts w (.slice a n cap) s)) (hn : Hid (s.length = n)) (hbig : n ≤ 1000) (h0 : idB d = true) (h1 : decide (d ≤ bef) = false) (h2 : fiB A M = true) (h3 : decide (32 < (n : Int)) = false) (h4 : shO s = true) (S : Int) (hS : Hid (sm fM s = S)) (h5 : (S != A) = false) :
    Calls Tryd.prog 34 #[.agg #[.int .i64 d, .int .i64 A, .int .i64 M, .slice a n cap], .int .i64 bef] w fun e w' => e = .returned (.int .i64 0) ∧ Below w.heap.size w w' := by
  have HI := Lib.hid (fun W => ltId_any d W)
  have HF := Lib.hid (fun W => ltFi_any A M W)
  have HR := Lib.hid (fun W h => ltRi_any (.slice a n cap) s W h (by rw [hn.out]; exact hbig))
  have T0 := Lib.hid (Quad.new w (.int .i64 d) (.int .i64 A) (.int .i64 M) (.slice a n cap) 32)
  have X := Lib.hid (bel_alloc (w := w) (o := (.cells #[.int .i64 d, .int .i64 A, .int .i64 M, .slice a n cap] 32)) (Below.refl _ _))
  replace NV := Lib.hid (NV.out.alloc (.cells #[.int .i64 d, .int .i64 A, .int .i64 M, .slice a n cap] 32))
  obtain ⟨b0, b1, b2, b3, _, _⟩ := T0.out
  have HM := Lib.hid (fun W h => ltSm_any (.slice a n cap) s W h (by rw [hn.out]; have := of_decide_eq_false h3; omega) h4)
  rw [hS.out] at HM
  rw [h0] at HI
  rw [h2] at HF
  rw [h4] at HR
  go_enter Tryd.func34, Tryd.ntmps34
  go_wp2_with fail
  refine (HI.out _).mono ?_
  rintro e w1 ⟨rfl, hw⟩
  subst hw
  go_wp2_with fail
  refine (HF.out _).mono ?_
  rintro e w2 ⟨rfl, h1⟩
  replace T0 := Lib.hid (T0.out.below h1)
  replace X := Lib.hid (bel_trans X.out h1)
  replace NV := Lib.hid (NV.out.below h1)
  clear h1 b0 b1 b2 b3
  obtain ⟨b0, b1, b2, b3, _, _⟩ := T0.out
  go_wp2_with fail
  refine (HR.out _ NV.out).mono ?_
  rintro e w3 ⟨rfl, h1⟩
  replace T0 := Lib.hid (T0.out.below h1)
  replace X := Lib.hid (bel_trans X.out h1)
  replace NV := Lib.hid (NV.out.below h1)
  clear h1 b0 b1 b2 b3
  obtain ⟨b0, b1, b2, b3, _, _⟩ := T0.out
  go_upto_region 11 with fail
  have NVd := Lib.hid (NV.out.below (bel_drew w3))
  have Td := Lib.hid (T0.out.below (bel_drew w3))
  have Xd := Lib.hid (bel_trans X.out (bel_drew w3))
  go_region_with (go_at_call 63; refine (HM.out _ NVd.out).mono ?_; rintro e w4 ⟨rfl, h1⟩; obtain ⟨e0, e1, e2, e3, _, _⟩ := Td.out.below h1; have X4 := Lib.hid (bel_trans Xd.out h1); clear h1)
  all_goals go_wp2
  all_goals go_returns
  all_goals exact ⟨rfl, X4.out⟩
theorem ltFa_any (c : Lt) (bef : Int) (a : Option Addr) (cap : Nat) (w : World) (hv : Pts w (.slice a c.sh.length cap) c.sh) (hn : c.sh.length ≤ 1000) :
    Calls Tryd.prog 34 #[ltV c a cap, .int .i64 bef] w fun e w' => e = .returned (.int .i64 (ltF c bef)) ∧ Below w.heap.size w w' := by
  unfold ltF ltV
  cases h0 : idB c.id with
  | false => rw [if_pos rfl]; exact ltFa_id _ _ _ _ a _ cap c.sh w hv rfl hn h0
  | true =>
    rw [if_neg (by simp)]
    by_cases h1 : c.id ≤ bef
    · rw [if_pos h1]; exact ltFa_ord _ _ _ _ a _ cap c.sh w hv rfl hn h0 (decide_eq_true h1)
    · rw [if_neg h1]
      cases h2 : fiB c.al c.ms with
      | false => rw [if_pos rfl]; exact ltFa_fil _ _ _ _ a _ cap c.sh w hv rfl hn h0 (decide_eq_false h1) h2
      | true =>
        rw [if_neg (by simp)]
        by_cases h3 : 32 < c.sh.length
        · rw [if_pos h3]; exact ltFa_full _ _ _ _ a _ cap c.sh w hv rfl hn h0 (decide_eq_false h1) h2 (decide_eq_true (by omega))
        · rw [if_neg h3]
          cases h4 : shO c.sh with
          | false => rw [if_pos rfl]; exact ltFa_sh _ _ _ _ a _ cap c.sh w hv rfl hn h0 (decide_eq_false h1) h2 (decide_eq_false (by omega)) h4
          | true =>
            rw [if_neg (by simp)]
            by_cases h5 : sm fM c.sh ≠ c.al
            · rw [if_pos h5]; exact ltFa_sum _ _ _ _ a _ cap c.sh w hv rfl hn h0 (decide_eq_false h1) h2 (decide_eq_false (by omega)) h4 _ rfl (by simpa using h5)
            · rw [if_neg h5]; exact ltFa_ok _ _ _ _ a _ cap c.sh w hv rfl hn h0 (decide_eq_false h1) h2 (decide_eq_false (by omega)) h4 _ rfl (by simpa using h5)
end Go.Proofs.YtfpdanjhlepckaaDoor

