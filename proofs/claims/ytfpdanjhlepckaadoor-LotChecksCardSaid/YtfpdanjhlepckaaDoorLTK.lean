/- Package lot: Find. -/
import Derived.Test.YtfpdanjhlepckaaDoorLTJ
namespace Go.Proofs.YtfpdanjhlepckaaDoor
open Go.RowKit

/-- the place of the lot with an ID -/
def fdK (l : List Lt) (id : Int) : Nat := fst (fun k => (gL l k).id == id) l.length
def fdB (l : List Lt) (id : Int) : Bool := decide (fdK l id < l.length)
def fdL (l : List Lt) (id : Int) : Lt := if fdK l id < l.length then gL l (fdK l id) else zL
theorem Lts.one {W : World} {b off n cap : Nat} {l : List Lt} (h : Lts W (.slice (some ⟨b, off, none⟩) n cap) l) (k : Nat) (hk : k < n) : Lts W (.slice (some ⟨b, off + k * 4, none⟩) 1 (cap - k)) [gL l k] := by
  obtain ⟨_, _, e, hcap, _⟩ := id h
  obtain ⟨b', off', e', hb, hn, hc⟩ := h.at (by omega)
  simp only [Value.slice.injEq] at e
  obtain ⟨_, rfl, rfl⟩ := e
  simp only [Option.some.injEq, Addr.mk.injEq] at e'
  obtain ⟨rfl, rfl, _⟩ := e'
  refine ⟨_, _, rfl, by simp; omega, .inr ⟨b, off + k * 4, rfl, hb, fun j hj => ?_⟩⟩
  have : j = 0 := by simpa using hj
  subst this
  rw [Nat.zero_mul, Nat.add_zero]
  exact hc k hk
set_option maxHeartbeats 16000000 in
set_option maxRecDepth 100000 in
theorem ltFd_no (a : Option Addr) (n cap : Nat) (l : List Lt) (id : Int) (w : World) (NV0 : Hid (Lts w (.slice a n cap) l)) (n1 : n ≤ 1000) (hx : ixR (fun k => (gL l k).id == id) n = -1) :
    Calls Tryd.prog 14 #[.slice a n cap, .int .i64 id] w fun e w' => ∃ u, e = .returned (.tuple #[.agg #[.int .i64 0, .int .i64 0, .int .i64 0, u], .bool false]) ∧ RH.Sh w' w.heap.size u [] ∧ Below w.heap.size w w' := by
  have X : Hid (Below w.heap.size w ((w.alloc (.cells #[.int .i64 id] 3)).alloc (.cells #[.int .i64 0, .int .i64 0, .int .i64 0, .slice none 0 0] 32))) := Lib.hid (bel_alloc (bel_alloc (Below.refl _ _)))
  have HI := Lib.hid (idxl_some 38 #[.pointer (some ⟨w.heap.size, 0, none⟩)] (fun k => (gL l k).id == id) (by intro args w; rfl) a n cap l ((w.alloc (.cells #[.int .i64 id] 3)).alloc (.cells #[.int .i64 0, .int .i64 0, .int .i64 0, .slice none 0 0] 32)) n1 (Lib.hid (NV0.out.below X.out)) (Lib.hid fun j W a c hj hW => by
    refine ltFc_any (gL l j) a c ⟨w.heap.size, 0, none⟩ id W (cell_bel ?_ hW) rfl
    rw [World.cell?_alloc_lt _ _ _ (by simp)]
    simp [go_sem]))
  rw [hx] at HI
  have T0 := Lib.hid (Quad.new (w.alloc (.cells #[.int .i64 id] 3)) (.int .i64 0) (.int .i64 0) (.int .i64 0) (.slice none 0 0) 32)
  simp only [World.size_alloc] at T0
  clear NV0 hx
  go_enter Tryd.func14, Tryd.ntmps14
  go_wp2_with fail
  refine HI.out.mono ?_
  rintro e w1 ⟨rfl, h1⟩
  replace X := Lib.hid (bel_trans X.out h1)
  replace T0 := Lib.hid (T0.out.below h1)
  clear h1 HI
  obtain ⟨b0, b1, b2, b3, z, _⟩ := T0.out
  have z0 := z 0 (by omega)
  have z1 := z 1 (by omega)
  have z2 := z 2 (by omega)
  have z3 := z 3 (by omega)
  clear z
  obtain ⟨t0, t1, t2, t3⟩ := quad_read w1 (w.heap.size + 1) (.int .i64 0) (.int .i64 0) (.int .i64 0) (.slice none 0 0) b0 b1 b2 b3
  go_wp2
  refine bodyPost_ret (v := .tuple #[.agg #[.int .i64 0, .int .i64 0, .int .i64 0, .slice none 0 0], .bool false]) (by simp [results, Tryd.results14, go_sem, t0, t1, t2, t3]) rfl ?_
  exact ⟨_, rfl, World.ownsRow_nil _ _ _ _, ((((X.out.setCell (by show w.heap.size ≤ w.heap.size + 1; omega) _).setCell (by show w.heap.size ≤ w.heap.size + 1; omega) _).setCell (by show w.heap.size ≤ w.heap.size + 1; omega) _).setCell (by show w.heap.size ≤ w.heap.size + 1; omega) _)⟩
theorem sh_setOther {W : World} {B : Nat} {v : Value} {l : List (Int × Int)} (h : RH.Sh W B v l) (p : Addr) (hp : ∀ b, v.ownBlock = some b → b ≠ p.block) (u : Value) : RH.Sh (W.setCell p u) B v l := by
  obtain ⟨h1, h2⟩ := h
  refine ⟨h1, ?_⟩
  rcases h2 with ⟨h2, h4⟩ | ⟨b, cap, cur, h2, hg, hh, r⟩
  · exact .inl ⟨h2, h4⟩
  · refine .inr ⟨b, cap, cur, h2, hg, ?_, r⟩
    rw [Go.Deep.blk_setCell_other _ _ _ _ (by subst h2; exact hp b rfl)]
    exact hh
theorem RH.Sh.base {W : World} {B B' : Nat} {v : Value} {l : List (Int × Int)} (h : RH.Sh W B v l) (hb : B' ≤ B) : RH.Sh W B' v l := by
  obtain ⟨h1, h2⟩ := h
  refine ⟨h1, ?_⟩
  rcases h2 with h2 | ⟨b, cap, cur, h2, hg, r⟩
  · exact .inl h2
  · exact .inr ⟨b, cap, cur, h2, Nat.le_trans hb hg, r⟩
set_option maxHeartbeats 16000000 in
set_option maxRecDepth 100000 in
theorem ltFd_yes (b off n cap k : Nat) (l : List Lt) (id : Int) (w : World) (NV0 : Hid (Lts w (.slice (some ⟨b, off, none⟩) n cap) l)) (n1 : n ≤ 1000) (hk : k < n) (hc1 : n ≤ cap) (hc2 : cap ≤ 9223372036854775807) (hx : ixR (fun k => (gL l k).id == id) n = (k : Int)) (hs : Hid ((gL l k).sh.length ≤ 1000)) :
    Calls Tryd.prog 14 #[.slice (some ⟨b, off, none⟩) n cap, .int .i64 id] w fun e w' => ∃ u, e = .returned (.tuple #[.agg #[.int .i64 (gL l k).id, .int .i64 (gL l k).al, .int .i64 (gL l k).ms, u], .bool true]) ∧ RH.Sh w' w.heap.size u (gL l k).sh ∧ Below w.heap.size w w' := by
  have X : Hid (Below w.heap.size w ((w.alloc (.cells #[.int .i64 id] 3)).alloc (.cells #[.int .i64 0, .int .i64 0, .int .i64 0, .slice none 0 0] 32))) := Lib.hid (bel_alloc (bel_alloc (Below.refl _ _)))
  have HI := Lib.hid (idxl_some 38 #[.pointer (some ⟨w.heap.size, 0, none⟩)] (fun k => (gL l k).id == id) (by intro args w; rfl) (some ⟨b, off, none⟩) n cap l ((w.alloc (.cells #[.int .i64 id] 3)).alloc (.cells #[.int .i64 0, .int .i64 0, .int .i64 0, .slice none 0 0] 32)) n1 (Lib.hid (NV0.out.below X.out)) (Lib.hid fun j W a c hj hW => by
    refine ltFc_any (gL l j) a c ⟨w.heap.size, 0, none⟩ id W (cell_bel ?_ hW) rfl
    rw [World.cell?_alloc_lt _ _ _ (by simp)]
    simp [go_sem]))
  rw [hx] at HI
  have T0 := Lib.hid (Quad.new (w.alloc (.cells #[.int .i64 id] 3)) (.int .i64 0) (.int .i64 0) (.int .i64 0) (.slice none 0 0) 32)
  simp only [World.size_alloc] at T0
  have NV1 := Lib.hid (fun W h => (NV0.out.below (w' := W) h).one k hk)
  clear NV0 hx
  obtain ⟨z, hz⟩ : ∃ z, k + 1 = z := ⟨_, rfl⟩
  have l0 : ¬ (k : Int) < 0 := by omega
  have l1 : (k : Int) < (n : Int) := by omega
  have l2 : (z : Int) ≤ (n : Int) := by omega
  have l3 : (z : Int) ≤ (cap : Int) := by omega
  have l4 : z ≤ cap := by omega
  have l5 : (k : Int) ≤ (z : Int) := by omega
  have l6 : k ≤ z := by omega
  have wz : IntKind.i64.wrap ((k : Int) + 1) = (z : Int) := by rw [wrap_in _ ⟨by omega, by omega⟩]; omega
  have e1 : z - k = 1 := by omega
  go_enter Tryd.func14, Tryd.ntmps14
  go_wp2_with fail
  refine HI.out.mono ?_
  rintro e w1 ⟨rfl, h1⟩
  replace X := Lib.hid (bel_trans X.out h1)
  replace T0 := Lib.hid (T0.out.below h1)
  clear h1 HI
  have HO := Lib.hid (ltOw_any _ [gL l k] w1 (NV1.out _ X.out) (by simp) (fun j hj => by
    obtain rfl : j = 0 := by simpa using hj
    exact hs.out))
  have SZ : Hid (w.heap.size + 1 < w1.heap.size) := Lib.hid T0.out.2.2.2.2.2
  clear NV1 hs
  go_wp2_with fail
  refine HO.out.mono ?_
  rintro e w2 ⟨u, rfl, ⟨g, cp, f, rfl, ⟨hp1, hp2⟩, hg0, hg1, hLO, hSO⟩, h2⟩
  replace X := Lib.hid (bel_trans X.out h2)
  replace T0 := Lib.hid (T0.out.below h2)
  clear h2 HO
  have c0 := (hLO 0 (by simp) 0 (by omega)).1
  have c1 := (hLO 0 (by simp) 1 (by omega)).1
  have c2 := (hLO 0 (by simp) 2 (by omega)).1
  have c3 := (hLO 0 (by simp) 3 (by omega)).1
  have hS := hSO 0 (by simp)
  rw [show gL [gL l k] 0 = gL l k from rfl] at c0 c1 c2 c3 hS
  simp only [ltCell, Nat.zero_mul, Nat.zero_add, if_true, if_false, show ¬ (1 : Nat) = 0 by omega, show ¬ (2 : Nat) = 0 by omega, show ¬ (2 : Nat) = 1 by omega, show ¬ (3 : Nat) = 0 by omega, show ¬ (3 : Nat) = 1 by omega, show ¬ (3 : Nat) = 2 by omega] at c0 c1 c2 c3
  obtain ⟨fa, fc, hfe⟩ := hS.1.shape
  rw [hfe] at hS c3
  have SH := Lib.hid hS.1
  clear hS hSO hLO hfe
  generalize hgl : gL l k = c at *
  obtain ⟨cd, cA, cM, cS⟩ := c
  simp only at c0 c1 c2 c3 SH ⊢
  simp only [List.length_cons, List.length_nil] at hp1 ⊢
  generalize hcn : cS.length = cn at *
  obtain ⟨b0, b1, b2, b3, z, _⟩ := T0.out
  have z0 := z 0 (by omega)
  have z1 := z 1 (by omega)
  have z2 := z 2 (by omega)
  have z3 := z 3 (by omega)
  clear z
  obtain ⟨t0, t1, t2, t3⟩ := quad_read w2 (w.heap.size + 1) (.int .i64 cd) (.int .i64 cA) (.int .i64 cM) (.slice fa cn fc) b0 b1 b2 b3
  have hgne : g ≠ w.heap.size + 1 := by have := SZ.out; omega
  go_wp2
  refine bodyPost_ret (v := .tuple #[.agg #[.int .i64 cd, .int .i64 cA, .int .i64 cM, .slice fa cn fc], .bool true]) (by simp [results, Tryd.results14, go_sem, t0, t1, t2, t3]) rfl ?_
  have NB : ∀ b, (Value.slice fa cn fc).ownBlock = some b → b ≠ w.heap.size + 1 := by
    intro b hb
    obtain ⟨_, h2⟩ := SH.out
    rcases h2 with ⟨h2, _⟩ | ⟨b', cap', cur, h2, hg, _⟩
    · rw [h2] at hb; cases hb
    · rw [h2] at hb
      simp [Value.ownBlock] at hb
      have := SZ.out
      omega
  rw [hgl]
  refine ⟨_, rfl, ?_, ((((X.out.setCell (by show w.heap.size ≤ w.heap.size + 1; omega) _).setCell (by show w.heap.size ≤ w.heap.size + 1; omega) _).setCell (by show w.heap.size ≤ w.heap.size + 1; omega) _).setCell (by show w.heap.size ≤ w.heap.size + 1; omega) _)⟩
  exact sh_setOther (sh_setOther (sh_setOther (sh_setOther (SH.out.base (by have := SZ.out; omega)) _ NB _) _ NB _) _ NB _) _ NB _
theorem fd_ix (l : List Lt) (id : Int) : ixR (fun k => (gL l k).id == id) l.length = if fdK l id < l.length then (fdK l id : Int) else -1 := rfl
theorem ltFd_any (v : Value) (l : List Lt) (id : Int) (w : World) (hv : Lts w v l) (hn : l.length ≤ 1000) (hs : ∀ j, j < l.length → (gL l j).sh.length ≤ 1000) :
    Calls Tryd.prog 14 #[v, .int .i64 id] w fun e w' => ∃ u, e = .returned (.tuple #[.agg #[.int .i64 (fdL l id).id, .int .i64 (fdL l id).al, .int .i64 (fdL l id).ms, u], .bool (fdB l id)]) ∧ RH.Sh w' w.heap.size u (fdL l id).sh ∧ Below w.heap.size w w' := by
  obtain ⟨a, cap, rfl, ⟨hc1, hc2⟩, _⟩ := _root_.id hv
  have hx := fd_ix l id
  by_cases h : fdK l id < l.length
  · rw [if_pos h] at hx
    obtain ⟨b, off, rfl, _, _, _⟩ := hv.at (by omega)
    rw [show fdB l id = true from decide_eq_true h, show fdL l id = gL l (fdK l id) by unfold fdL; rw [if_pos h]]
    exact ltFd_yes b off _ cap (fdK l id) l id w (Lib.hid hv) hn h hc1 hc2 hx (Lib.hid (hs _ h))
  · rw [if_neg h] at hx
    rw [show fdB l id = false from decide_eq_false h, show fdL l id = zL by unfold fdL; rw [if_neg h]]
    exact ltFd_no a _ cap l id w (Lib.hid hv) hn hx
end Go.Proofs.YtfpdanjhlepckaaDoor

