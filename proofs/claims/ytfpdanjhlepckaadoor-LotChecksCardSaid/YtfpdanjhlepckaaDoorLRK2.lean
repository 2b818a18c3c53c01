/- The reference of layer 22: Find. -/
import Derived.Test.YtfpdanjhlepckaaDoorLRJ2
namespace Go.Proofs.YtfpdanjhlepckaaDoor
open Go.RowKit

set_option maxHeartbeats 16000000 in
set_option maxRecDepth 100000 in
theorem rlFd_no (a : Option Addr) (n cap : Nat) (l : List Lt) (id : Int) (w : World) (NV0 : Hid (Lts w (.slice a n cap) l)) (n1 : n ≤ 1000) (hp : Hid (∀ j, j < n → ((gL l j).id == id) = false)) :
    Calls Tryd.prog 15 #[.slice a n cap, .int .i64 id] w fun e w' => ∃ u, e = .returned (.tuple #[.agg #[.int .i64 0, .int .i64 0, .int .i64 0, u], .bool false]) ∧ RH.Sh w' w.heap.size u [] ∧ Below w.heap.size w w' := by
  have T0 := Lib.hid (Quad.new w (.int .i64 0) (.int .i64 0) (.int .i64 0) (.slice none 0 0) 32)
  have X : Hid (Below w.heap.size w (w.alloc (.cells #[.int .i64 0, .int .i64 0, .int .i64 0, .slice none 0 0] 32))) := Lib.hid (bel_alloc (Below.refl _ _))
  go_enter Tryd.func15, Tryd.ntmps15
  go_wp2_with fail
  go_loopw [6] (fun i wr => ∃ k : Nat, k ≤ n ∧ i = .int .i64 k ∧ wr = w.alloc (.cells #[.int .i64 0, .int .i64 0, .int .i64 0, .slice none 0 0] 32)) (fun i _ => n - (intOf i).toNat)
  case atStart => exact ⟨0, Nat.zero_le _, rfl, rfl⟩
  case round =>
    obtain ⟨k, hk, rfl, rfl⟩ := hrel
    by_cases hlt : k < n
    · have NV := Lib.hid (NV0.out.below X.out)
      have l9 : (k : Int) < (n : Int) := by omega
      obtain ⟨b, off, rfl, hb, hnl, hc⟩ := NV.out.at (by omega)
      clear hnl
      obtain ⟨sa, sc, c0, c1, c2, c3, _⟩ := hc k (by omega)
      clear hc
      have hq := hp.out k hlt
      go_wp2
      go_roundw
      case rel => exact ⟨k + 1, by omega, by go_num, trivial⟩
      case measure => simp [intOf]; omega
    · obtain rfl : k = n := by omega
      go_wp2
      go_returns
      exact ⟨_, rfl, World.ownsRow_nil _ _ _ _, X.out⟩
set_option maxHeartbeats 16000000 in
set_option maxRecDepth 100000 in
theorem rlFd_yes (a : Option Addr) (n cap m : Nat) (l : List Lt) (id : Int) (w : World) (NV0 : Hid (Lts w (.slice a n cap) l)) (n1 : n ≤ 1000) (hm : m < n) (hp : Hid (∀ j, j < m → ((gL l j).id == id) = false)) (he : ((gL l m).id == id) = true) (hs : (gL l m).sh.length ≤ 1000) :
    Calls Tryd.prog 15 #[.slice a n cap, .int .i64 id] w fun e w' => ∃ u, e = .returned (.tuple #[.agg #[.int .i64 (gL l m).id, .int .i64 (gL l m).al, .int .i64 (gL l m).ms, u], .bool true]) ∧ RH.Sh w' w.heap.size u (gL l m).sh ∧ Below w.heap.size w w' := by
  have T0 := Lib.hid (Quad.new w (.int .i64 0) (.int .i64 0) (.int .i64 0) (.slice none 0 0) 32)
  have X : Hid (Below w.heap.size w (w.alloc (.cells #[.int .i64 0, .int .i64 0, .int .i64 0, .slice none 0 0] 32))) := Lib.hid (bel_alloc (Below.refl _ _))
  go_enter Tryd.func15, Tryd.ntmps15
  go_wp2_with fail
  go_loopw [6] (fun i wr => ∃ k : Nat, k ≤ m ∧ i = .int .i64 k ∧ wr = w.alloc (.cells #[.int .i64 0, .int .i64 0, .int .i64 0, .slice none 0 0] 32)) (fun i _ => n - (intOf i).toNat)
  case atStart => exact ⟨0, Nat.zero_le _, rfl, rfl⟩
  case round =>
    obtain ⟨k, hk, rfl, rfl⟩ := hrel
    have NV := Lib.hid (NV0.out.below X.out)
    have l9 : (k : Int) < (n : Int) := by omega
    obtain ⟨b, off, rfl, hb, hnl, hc⟩ := NV.out.at (by omega)
    clear hnl
    obtain ⟨sa, sc, c0, c1, c2, c3, hP⟩ := hc k (by omega)
    clear hc
    by_cases hlt : k < m
    · have hq := hp.out k hlt
      go_wp2
      go_roundw
      case rel => exact ⟨k + 1, by omega, by go_num, trivial⟩
      case measure => simp [intOf]; omega
    · obtain rfl : k = m := by omega
      have HC := Lib.hid (rlCp_any (gL l k) sa sc _ hP hs)
      clear hP NV hp NV0 hb
      generalize hgl : gL l k = c at *
      obtain ⟨cd, cA, cM, cS⟩ := c
      simp only at c0 c1 c2 c3 he
      replace HC : Hid (Calls Tryd.prog 33 #[.agg #[.int .i64 cd, .int .i64 cA, .int .i64 cM, .slice sa cS.length sc]] (w.alloc (.cells #[.int .i64 0, .int .i64 0, .int .i64 0, .slice none 0 0] 32)) fun e w' => ∃ u, e = .returned (.agg #[.int .i64 cd, .int .i64 cA, .int .i64 cM, u]) ∧ RH.Sh w' (w.alloc (.cells #[.int .i64 0, .int .i64 0, .int .i64 0, .slice none 0 0] 32)).heap.size u cS ∧ Below (w.alloc (.cells #[.int .i64 0, .int .i64 0, .int .i64 0, .slice none 0 0] 32)).heap.size (w.alloc (.cells #[.int .i64 0, .int .i64 0, .int .i64 0, .slice none 0 0] 32)) w') := HC
      generalize hcn : cS.length = cn at *
      go_wp2_with fail
      refine HC.out.mono ?_
      rintro e w2 ⟨u, rfl, hu, h2⟩
      obtain ⟨ua, uc, hue⟩ := hu.shape
      rw [hcn] at hue
      subst hue
      have X2 := Lib.hid (bel_trans X.out h2)
      have N1 := Lib.hid (sh_not hu (c := w.heap.size) (by simp))
      have U := Lib.hid (hu.base (B' := w.heap.size) (by simp))
      obtain ⟨b0, b1, b2, b3, z, _⟩ := T0.out.below h2
      clear hu h2 HC c0 c1 c2 c3 X T0
      have z0 := z 0 (by omega)
      have z1 := z 1 (by omega)
      have z2 := z 2 (by omega)
      have z3 := z 3 (by omega)
      clear z
      obtain ⟨t0, t1, t2, t3⟩ := quad_read w2 w.heap.size (.int .i64 cd) (.int .i64 cA) (.int .i64 cM) (.slice ua cn uc) b0 b1 b2 b3
      go_wp2
      refine bodyPost_ret (v := .tuple #[.agg #[.int .i64 cd, .int .i64 cA, .int .i64 cM, .slice ua cn uc], .bool true]) (by simp [results, Tryd.results15, go_sem, t0, t1, t2, t3]) rfl ?_
      rw [hgl]
      exact ⟨_, rfl, sh_setOther (sh_setOther (sh_setOther (sh_setOther U.out _ N1.out _) _ N1.out _) _ N1.out _) _ N1.out _, ((((X2.out.setCell (Nat.le_refl _) _).setCell (Nat.le_refl _) _).setCell (Nat.le_refl _) _).setCell (Nat.le_refl _) _)⟩
theorem rlFd_any (v : Value) (l : List Lt) (id : Int) (w : World) (hv : Lts w v l) (hn : l.length ≤ 1000) (hs : ∀ j, j < l.length → (gL l j).sh.length ≤ 1000) :
    Calls Tryd.prog 15 #[v, .int .i64 id] w fun e w' => ∃ u, e = .returned (.tuple #[.agg #[.int .i64 (fdL l id).id, .int .i64 (fdL l id).al, .int .i64 (fdL l id).ms, u], .bool (fdB l id)]) ∧ RH.Sh w' w.heap.size u (fdL l id).sh ∧ Below w.heap.size w w' := by
  obtain ⟨a, cap, rfl, ⟨hc1, hc2⟩, _⟩ := _root_.id hv
  obtain ⟨s1, s2⟩ := fst_spec (fun k => (gL l k).id == id) l.length
  have le := fst_le (fun k => (gL l k).id == id) l.length
  change fdK l id ≤ l.length at le
  by_cases h : fdK l id < l.length
  · rw [show fdB l id = true from decide_eq_true h, show fdL l id = gL l (fdK l id) by unfold fdL; rw [if_pos h]]
    exact rlFd_yes a _ cap (fdK l id) l id w (Lib.hid hv) hn h (Lib.hid s1) (s2 h) (hs _ h)
  · rw [show fdB l id = false from decide_eq_false h, show fdL l id = zL by unfold fdL; rw [if_neg h]]
    exact rlFd_no a _ cap l id w (Lib.hid hv) hn (Lib.hid fun j hj => s1 j (show j < fdK l id by omega))
end Go.Proofs.YtfpdanjhlepckaaDoor

