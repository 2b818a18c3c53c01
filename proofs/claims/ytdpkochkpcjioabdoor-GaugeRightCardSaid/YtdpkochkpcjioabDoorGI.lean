/- Package gauge: Together. -/
import Derived.Test.YtdpkochkpcjioabDoorGH
namespace Go.Proofs.YtdpkochkpcjioabDoor
open Go.RowKit

/-- what stands in Together and in Total -/
def TgI (w W : World) : Prop := Below w.heap.size w W ∧ Two w.heap.size W (.int .i64 0) (.int .i64 0) ∧ Two (w.heap.size + 1) W (.int .i64 0) (.int .i64 0)
theorem TgI.below {w W W' : World} (h : TgI w W) (hb : Below W.heap.size W W') : TgI w W' := ⟨bel_trans h.1 hb, h.2.1.below hb, h.2.2.below hb⟩
theorem TgI.init (w : World) : TgI w ((w.alloc (.cells #[.int .i64 0, .int .i64 0] 30)).alloc (.cells #[.int .i64 0, .int .i64 0] 30)) := by
  have h3 := Two.new (w.alloc (.cells #[.int .i64 0, .int .i64 0] 30)) (.int .i64 0) (.int .i64 0) 30
  rw [World.size_alloc] at h3
  exact ⟨bel_alloc (bel_alloc (Below.refl _ _)), (Two.new w _ _ _).alloc _, h3⟩
theorem TgI.put {w W : World} (h : TgI w W) (a b c d : Value) :
    (Two w.heap.size ((((W.setCell ⟨w.heap.size, 0, none⟩ a).setCell ⟨w.heap.size, 1, none⟩ b).setCell ⟨w.heap.size + 1, 0, none⟩ c).setCell ⟨w.heap.size + 1, 1, none⟩ d) a b ∧ Two (w.heap.size + 1) ((((W.setCell ⟨w.heap.size, 0, none⟩ a).setCell ⟨w.heap.size, 1, none⟩ b).setCell ⟨w.heap.size + 1, 0, none⟩ c).setCell ⟨w.heap.size + 1, 1, none⟩ d) c d) ∧
    Below w.heap.size w ((((W.setCell ⟨w.heap.size, 0, none⟩ a).setCell ⟨w.heap.size, 1, none⟩ b).setCell ⟨w.heap.size + 1, 0, none⟩ c).setCell ⟨w.heap.size + 1, 1, none⟩ d) := by
  refine ⟨⟨?_, ?_⟩, ?_⟩
  · exact (((h.2.1.set0 a).set1 b).other ⟨w.heap.size + 1, 0, none⟩ (by show w.heap.size + 1 ≠ w.heap.size; omega) c).other ⟨w.heap.size + 1, 1, none⟩ (by show w.heap.size + 1 ≠ w.heap.size; omega) d
  · exact (((h.2.2.other ⟨w.heap.size, 0, none⟩ (by show w.heap.size ≠ w.heap.size + 1; omega) a).other ⟨w.heap.size, 1, none⟩ (by show w.heap.size ≠ w.heap.size + 1; omega) b).set0 c).set1 d
  · exact (((h.1.setCell (p := ⟨w.heap.size, 0, none⟩) (Nat.le_refl _) _).setCell (p := ⟨w.heap.size, 1, none⟩) (Nat.le_refl _) _).setCell (p := ⟨w.heap.size + 1, 0, none⟩) (Nat.le_succ _) _).setCell (p := ⟨w.heap.size + 1, 1, none⟩) (Nat.le_succ _) _
set_option maxHeartbeats 8000000 in
theorem gTog_nil (a : Option Addr) (cap : Nat) (w : World) :
    Calls Tryd.prog 19 #[.slice a 0 cap] w fun e w' => e = .returned (.tuple #[.agg #[.int .i64 0, .int .i64 0], .agg #[.int .i64 0, .int .i64 0], .int .i64 9]) ∧ Below w.heap.size w w' := by
  have S0 := Lib.hid (TgI.init w)
  go_enter Tryd.func19, Tryd.ntmps19
  go_upto_region 2 with fail
  have BB := Lib.hid (S0.out.put (.int .i64 0) (.int .i64 0) (.int .i64 0) (.int .i64 0))
  obtain ⟨_, ⟨z0, z1, f0, f1, _⟩, y0, y1, g0, g1, _⟩ := S0.out
  generalize (w.alloc (.cells #[.int .i64 0, .int .i64 0] 30)).alloc (.cells #[.int .i64 0, .int .i64 0] 30) = WW at *
  go_wp2
  obtain ⟨⟨⟨p0, p1, _, _, _⟩, r0, r1, _, _, _⟩, B⟩ := BB.out
  refine bodyPost_ret (v := .tuple #[.agg #[.int .i64 0, .int .i64 0], .agg #[.int .i64 0, .int .i64 0], .int .i64 9]) (by simp [results, Tryd.results19, go_sem, p0, p1, r0, r1]) rfl ?_
  exact ⟨rfl, B⟩
set_option maxHeartbeats 32000000 in
set_option maxRecDepth 100000 in
theorem gTog_core (b off m cap : Nat) (d p h s vl vh al ah R0 R1 R2 R3 T0 T1 T2 T3 E V : Int) (B : Bool) (w : World) (hb : b < w.heap.size)
    (hc : Hid (RpC w b off ⟨d, p, h, s, vl, vh, al, ah⟩))
    (hV : ((E != 0) = true ∧ V = E ∧ T0 = 0 ∧ T1 = 0 ∧ T2 = 0 ∧ T3 = 0) ∨ (E = 0 ∧ B = true ∧ V = 10 ∧ T0 = 0 ∧ T1 = 0 ∧ T2 = 0 ∧ T3 = 0) ∨ (E = 0 ∧ B = false ∧ R1 < R0 ∧ V = 18 ∧ T0 = 0 ∧ T1 = 0 ∧ T2 = 0 ∧ T3 = 0) ∨ (E = 0 ∧ B = false ∧ R0 ≤ R1 ∧ V = 0 ∧ T0 = R0 ∧ T1 = R1 ∧ T2 = R2 ∧ T3 = R3))
    (H1 : Hid (∀ W, Below w.heap.size w W → Calls Tryd.prog 53 #[.slice (some ⟨b, off, none⟩) (m + 1) cap] W fun e w' => e = .returned (.int .i64 E) ∧ Below W.heap.size W w'))
    (H2 : Hid (E = 0 → ∀ W q, Below w.heap.size w W → Eig q W (.int .i64 d) (.int .i64 p) (.int .i64 h) (.int .i64 s) (.int .i64 vl) (.int .i64 vh) (.int .i64 al) (.int .i64 ah) → Calls Tryd.prog 24 #[.slice (some ⟨b, off, none⟩) (m + 1) cap, .func (.func 54) #[] #[.pointer (some ⟨q, 0, none⟩)]] W fun e w' => e = .returned (.bool B) ∧ Below W.heap.size W w'))
    (H3 : Hid (E = 0 → ∀ W, Below w.heap.size w W → Calls Tryd.prog 55 #[.slice (some ⟨b, off, none⟩) (m + 1) cap, .agg #[.int .i64 vl, .int .i64 vh, .int .i64 al, .int .i64 ah], .func (.func 56) #[] #[]] W fun e w' => e = .returned (.agg #[.int .i64 R0, .int .i64 R1, .int .i64 R2, .int .i64 R3]) ∧ Below W.heap.size W w')) :
    Calls Tryd.prog 19 #[.slice (some ⟨b, off, none⟩) (m + 1) cap] w fun e w' => e = .returned (.tuple #[.agg #[.int .i64 T0, .int .i64 T1], .agg #[.int .i64 T2, .int .i64 T3], .int .i64 V]) ∧ Below w.heap.size w w' := by
  have hmf : ∀ (fn : Fn) (first cap : Array Value) (w : World), (Instr.makeFunc fn first cap).run Tryd.prog w = .ok (.func fn first cap) w := fun _ _ _ _ => rfl
  have S0 := Lib.hid (TgI.init w)
  have nz : (((m : Int) + 1) == 0) = false := by simp; omega
  have wk4 : (0 : Int) < (m : Int) + 1 := by omega
  have CC := Lib.hid (fun W (hW : Below w.heap.size w W) => hc.out.below hW)
  clear hc
  go_enter Tryd.func19, Tryd.ntmps19
  go_wp2_with fail
  refine (H1.out _ S0.out.1).mono ?_
  rintro e w1 ⟨rfl, gg⟩
  replace S0 := Lib.hid (S0.out.below gg); clear gg
  by_cases e1 : E = 0
  · subst e1
    have hV' : (B = true ∧ V = 10 ∧ T0 = 0 ∧ T1 = 0 ∧ T2 = 0 ∧ T3 = 0) ∨ (B = false ∧ R1 < R0 ∧ V = 18 ∧ T0 = 0 ∧ T1 = 0 ∧ T2 = 0 ∧ T3 = 0) ∨ (B = false ∧ R0 ≤ R1 ∧ V = 0 ∧ T0 = R0 ∧ T1 = R1 ∧ T2 = R2 ∧ T3 = R3) := by
      rcases hV with ⟨q, _⟩ | ⟨_, q⟩ | ⟨_, q⟩ | ⟨_, q⟩
      · simp at q
      · exact .inl q
      · exact .inr (.inl q)
      · exact .inr (.inr q)
    clear hV
    replace H2 := Lib.hid (H2.out rfl)
    replace H3 := Lib.hid (H3.out rfl)
    obtain ⟨c0, c1, c2, c3, c4, c5, c6, c7⟩ := CC.out _ S0.out.1
    have S1 := Lib.hid (S0.out.below (bel_alloc (o := .cells #[.int .i64 d, .int .i64 p, .int .i64 h, .int .i64 s, .int .i64 vl, .int .i64 vh, .int .i64 al, .int .i64 ah] 36) (Below.refl _ _)))
    have P1 := Lib.hid (Eig.new w1 (.int .i64 d) (.int .i64 p) (.int .i64 h) (.int .i64 s) (.int .i64 vl) (.int .i64 vh) (.int .i64 al) (.int .i64 ah) 36)
    have HQ := Lib.hid (H2.out _ _ S1.out.1 P1.out)
    clear S0
    go_wp2_with fail
    refine HQ.out.mono ?_
    rintro e w2 ⟨rfl, gg⟩
    replace S1 := Lib.hid (S1.out.below gg)
    replace P1 := Lib.hid (P1.out.below gg); clear gg c0 c1 c2 c3 c4 c5 c6 c7 HQ
    generalize hq1 : w1.heap.size = u1 at *
    replace hq1 := Lib.hid hq1
    rcases hV' with ⟨rfl, rfl, rfl, rfl, rfl, rfl⟩ | hV'
    · have BB := Lib.hid (S1.out.put (.int .i64 0) (.int .i64 0) (.int .i64 0) (.int .i64 0))
      obtain ⟨_, ⟨z0, z1, f0, f1, _⟩, y0, y1, g0, g1, _⟩ := S1.out
      go_wp2
      obtain ⟨⟨⟨p0, p1, _, _, _⟩, r0, r1, _, _, _⟩, B⟩ := BB.out
      refine bodyPost_ret (v := .tuple #[.agg #[.int .i64 0, .int .i64 0], .agg #[.int .i64 0, .int .i64 0], .int .i64 10]) (by simp [results, Tryd.results19, go_sem, p0, p1, r0, r1]) rfl ?_
      exact ⟨rfl, B⟩
    · obtain rfl : B = false := by
        rcases hV' with ⟨q, _⟩ | ⟨q, _⟩
        · exact q
        · exact q
      have hV2 : (R1 < R0 ∧ V = 18 ∧ T0 = 0 ∧ T1 = 0 ∧ T2 = 0 ∧ T3 = 0) ∨ (R0 ≤ R1 ∧ V = 0 ∧ T0 = R0 ∧ T1 = R1 ∧ T2 = R2 ∧ T3 = R3) := by
        rcases hV' with ⟨_, q⟩ | ⟨_, q⟩
        · exact .inl q
        · exact .inr q
      clear hV'
      have HQ := Lib.hid (H3.out _ S1.out.1)
      obtain ⟨d0, d1, d2, d3, d4, d5, d6, d7, _, _⟩ := P1.out
      go_wp2_with fail
      refine HQ.out.mono ?_
      rintro e w3 ⟨rfl, gg⟩
      have BS := (S1.out.below gg).2.2.2.2.2.2
      replace S1 := Lib.hid ((S1.out.below gg).below (bel_alloc (o := .cells #[.int .i64 R0, .int .i64 R1, .int .i64 R2, .int .i64 R3] 79) (Below.refl _ _))); clear gg d0 d1 d2 d3 d4 d5 d6 d7 HQ
      have Q1 := Lib.hid (Quad.new w3 (.int .i64 R0) (.int .i64 R1) (.int .i64 R2) (.int .i64 R3) 79)
      go_upto_region 11 with fail
      generalize w3.alloc (.cells #[.int .i64 R0, .int .i64 R1, .int .i64 R2, .int .i64 R3] 79) = WW at *
      have n1 : w.heap.size ≠ w3.heap.size := by omega
      have n2 : w3.heap.size ≠ w.heap.size := by omega
      generalize hq3 : w3.heap.size = u3 at *
      replace hq3 := Lib.hid hq3
      rcases hV2 with ⟨g, rfl, rfl, rfl, rfl, rfl⟩ | ⟨g, rfl, rfl, rfl, rfl, rfl⟩
      · have dg : decide (R1 < R0) = true := decide_eq_true (by omega)
        have BB := Lib.hid (S1.out.put (.int .i64 0) (.int .i64 0) (.int .i64 0) (.int .i64 0))
        obtain ⟨_, ⟨z0, z1, f0, f1, _⟩, y0, y1, g0, g1, _⟩ := S1.out
        obtain ⟨q0, q1, q2, q3, _, _⟩ := Q1.out
        go_wp2
        obtain ⟨⟨⟨p0, p1, _, _, _⟩, r0, r1, _, _, _⟩, B⟩ := BB.out
        refine bodyPost_ret (v := .tuple #[.agg #[.int .i64 0, .int .i64 0], .agg #[.int .i64 0, .int .i64 0], .int .i64 18]) (by simp [results, Tryd.results19, go_sem, p0, p1, r0, r1]) rfl ?_
        exact ⟨rfl, B⟩
      · have dg : decide (T1 < T0) = false := decide_eq_false (by omega)
        have BB := Lib.hid (S1.out.put (.int .i64 T0) (.int .i64 T1) (.int .i64 T2) (.int .i64 T3))
        obtain ⟨_, ⟨z0, z1, f0, f1, _⟩, y0, y1, g0, g1, _⟩ := S1.out
        obtain ⟨q0, q1, q2, q3, _, _⟩ := Q1.out
        have n3 : w.heap.size + 1 ≠ u3 := by omega
        have n4 : u3 ≠ w.heap.size + 1 := by omega
        go_upto_region 13 with fail
        go_region
        all_goals go_wp2
        all_goals obtain ⟨⟨⟨p0, p1, _, _, _⟩, r0, r1, _, _, _⟩, B⟩ := BB.out
        all_goals refine bodyPost_ret (v := .tuple #[.agg #[.int .i64 T0, .int .i64 T1], .agg #[.int .i64 T2, .int .i64 T3], .int .i64 0]) (by simp [results, Tryd.results19, go_sem, p0, p1, r0, r1]) rfl ?_
        all_goals exact ⟨rfl, by first | exact B | exact bel_trans B (bel_drew _)⟩
  · have q : (E != 0) = true := by simpa using e1
    obtain ⟨rfl, rfl, rfl, rfl, rfl⟩ : V = E ∧ T0 = 0 ∧ T1 = 0 ∧ T2 = 0 ∧ T3 = 0 := by
      rcases hV with ⟨_, r⟩ | ⟨r, _⟩ | ⟨r, _⟩ | ⟨r, _⟩
      · exact r
      · exact absurd r e1
      · exact absurd r e1
      · exact absurd r e1
    clear hV
    have BB := Lib.hid (S0.out.put (.int .i64 0) (.int .i64 0) (.int .i64 0) (.int .i64 0))
    obtain ⟨_, ⟨z0, z1, f0, f1, _⟩, y0, y1, g0, g1, _⟩ := S0.out
    go_wp2
    obtain ⟨⟨⟨p0, p1, _, _, _⟩, r0, r1, _, _, _⟩, B⟩ := BB.out
    refine bodyPost_ret (v := .tuple #[.agg #[.int .i64 0, .int .i64 0], .agg #[.int .i64 0, .int .i64 0], .int .i64 V]) (by simp [results, Tryd.results19, go_sem, p0, p1, r0, r1]) rfl ?_
    exact ⟨rfl, B⟩
set_option maxHeartbeats 4000000 in
theorem gTog1_any (d p h s vl vh al ah : Int) (r : Rp) (q : Nat) (w : World) (hq : Eig q w (.int .i64 d) (.int .i64 p) (.int .i64 h) (.int .i64 s) (.int .i64 vl) (.int .i64 vh) (.int .i64 al) (.int .i64 ah)) :
    Calls Tryd.prog 54 #[.agg #[.int .i64 r.dy, .int .i64 r.dp, .int .i64 r.ht, .int .i64 r.st, .int .i64 r.vl, .int .i64 r.vh, .int .i64 r.al, .int .i64 r.ah], .pointer (some ⟨q, 0, none⟩)] w fun e w' => e = .returned (.bool (decide (r.dy ≠ d) || decide (r.st ≠ s))) ∧ Below w.heap.size w w' := by
  obtain ⟨d', p', h', s', vl', vh', al', ah'⟩ := r
  have hl := hq.2.2.2.2.2.2.2.2.2
  have X0 := Lib.hid (bel_alloc (w := w) (o := .cells #[.int .i64 d', .int .i64 p', .int .i64 h', .int .i64 s', .int .i64 vl', .int .i64 vh', .int .i64 al', .int .i64 ah'] 36) (Below.refl _ _))
  obtain ⟨c0, c1, c2, c3, c4, c5, c6, c7, _, _⟩ := Eig.new w (.int .i64 d') (.int .i64 p') (.int .i64 h') (.int .i64 s') (.int .i64 vl') (.int .i64 vh') (.int .i64 al') (.int .i64 ah') 36
  obtain ⟨e0, e1, e2, e3, e4, e5, e6, e7, _, _⟩ := hq.alloc (.cells #[.int .i64 d', .int .i64 p', .int .i64 h', .int .i64 s', .int .i64 vl', .int .i64 vh', .int .i64 al', .int .i64 ah'] 36)
  have n1 : q ≠ w.heap.size := by omega
  have n2 : w.heap.size ≠ q := by omega
  clear hq hl
  show Calls _ _ _ _ fun e w' => e = .returned (.bool (decide (d' ≠ d) || decide (s' ≠ s))) ∧ _
  by_cases g : d' = d
  · have g1 : (d' != d) = false := by simpa using g
    have g3 : (decide (d' ≠ d) || decide (s' ≠ s)) = (s' != s) := by rw [decide_eq_false (by simpa using g), Bool.false_or]; rw [Bool.eq_iff_iff]; simp
    rw [g3]
    clear g3 g1
    subst g
    have g1 : (d' != d') = false := by simp
    generalize hB : (s' != s) = B
    go_enter Tryd.func54, Tryd.ntmps54
    go_wp2
    go_returns
    exact ⟨by first | rfl | simp_all, X0.out⟩
  · have g1 : (d' != d) = true := by simpa using g
    have g3 : (decide (d' ≠ d) || decide (s' ≠ s)) = true := by rw [decide_eq_true g, Bool.true_or]
    rw [g3]
    clear g3
    go_enter Tryd.func54, Tryd.ntmps54
    go_wp2
    go_returns
    exact ⟨by first | rfl | simp_all, X0.out⟩
/-- greatest and least values of the first reports -/
def mxS (f : Rp → Int) (l : List Rp) : Nat → Int
  | 0 => f (gP l 0)
  | k + 1 => max (mxS f l k) (f (gP l k))
def mnS (f : Rp → Int) (l : List Rp) : Nat → Int
  | 0 => f (gP l 0)
  | k + 1 => min (mnS f l k) (f (gP l k))
def otB (l : List Rp) : Bool := (List.range l.length).any fun j => decide ((gP l j).dy ≠ (gP l 0).dy) || decide ((gP l j).st ≠ (gP l 0).st)
theorem otB_iff {l : List Rp} : otB l = true ↔ ∃ j, j < l.length ∧ (decide ((gP l j).dy ≠ (gP l 0).dy) || decide ((gP l j).st ≠ (gP l 0).st)) = true := by
  unfold otB; rw [List.any_eq_true]; simp
/-- what Together returns -/
def tgE (l : List Rp) : Int := if l.length = 0 then 9 else if glE l ≠ 0 then glE l else if otB l = true then 10 else if mnS Rp.vh l l.length < mxS Rp.vl l l.length then 18 else 0
def tg (x : Int) (l : List Rp) : Int := if tgE l = 0 then x else 0
theorem gTog_any (v : Value) (l : List Rp) (w : World) (hv : Rps w v l) :
    Calls Tryd.prog 19 #[v] w fun e w' => e = .returned (.tuple #[.agg #[.int .i64 (tg (mxS Rp.vl l l.length) l), .int .i64 (tg (mnS Rp.vh l l.length) l)], .agg #[.int .i64 (tg (mxS Rp.al l l.length) l), .int .i64 (tg (mnS Rp.ah l l.length) l)], .int .i64 (tgE l)]) ∧ Below w.heap.size w w' := by
  have H1 : Hid (∀ W, Below w.heap.size w W → _) := Lib.hid fun W hW => gchk_any v l W (hv.below hW)
  obtain ⟨a, cap, rfl, ⟨hc1, hc2⟩, hh⟩ := hv
  by_cases h0 : l.length = 0
  · have e : tgE l = 9 := by unfold tgE; rw [if_pos h0]
    have e2 : ∀ x, tg x l = 0 := fun x => by unfold tg; rw [e]; rfl
    rw [e, e2, e2, e2, e2, h0]
    exact gTog_nil a cap w
  · rcases hh with h | ⟨b, off, rfl, hb, hc⟩
    · exact absurd h h0
    obtain ⟨m, hm⟩ : ∃ m, l.length = m + 1 := ⟨l.length - 1, by omega⟩
    have eE : tgE l = if glE l ≠ 0 then glE l else if otB l = true then 10 else if mnS Rp.vh l l.length < mxS Rp.vl l l.length then 18 else 0 := by unfold tgE; rw [if_neg h0]
    have small : glE l = 0 → l.length ≤ 64 := fun h => by
      unfold glE at h
      split at h
      · omega
      · omega
    have hz : tgE l ≠ 0 → ∀ x, tg x l = 0 := fun h x => by unfold tg; rw [if_neg h]
    have hz2 : tgE l = 0 → ∀ x, tg x l = x := fun h x => by unfold tg; rw [if_pos h]
    have H2 : Hid (glE l = 0 → ∀ W q, Below w.heap.size w W → Eig q W (.int .i64 (gP l 0).dy) (.int .i64 (gP l 0).dp) (.int .i64 (gP l 0).ht) (.int .i64 (gP l 0).st) (.int .i64 (gP l 0).vl) (.int .i64 (gP l 0).vh) (.int .i64 (gP l 0).al) (.int .i64 (gP l 0).ah) → _) := Lib.hid fun he W q hW hq =>
      conr_of (.func (.func 54) #[] #[.pointer (some ⟨q, 0, none⟩)]) (.slice (some ⟨b, off, none⟩) l.length cap) (some ⟨b, off, none⟩) l.length cap rfl (fun j => decide ((gP l j).dy ≠ (gP l 0).dy) || decide ((gP l j).st ≠ (gP l 0).st)) (otB l) W (Lib.hid (idxr_some 54 #[.pointer (some ⟨q, 0, none⟩)] _ (enters_of Tryd.func54 (by kernel_rfl) rfl) b off _ cap l W (by have := small he; omega) (Nat.lt_of_lt_of_le hb hW.size) (Lib.hid fun j hj => (hc j hj).below hW) (Lib.hid fun j W2 hj hW2 => gTog1_any _ _ _ _ _ _ _ _ (gP l j) q W2 (hq.below hW2)))) (Lib.hid otB_iff)
    have H3 : Hid (glE l = 0 → ∀ W, Below w.heap.size w W → _) := Lib.hid fun he W hW => foldF_some 56 (enters_of Tryd.func56 (by kernel_rfl) rfl) (some ⟨b, off, none⟩) l.length cap l (mxS Rp.vl l) (mnS Rp.vh l) (mxS Rp.al l) (mnS Rp.ah l) W (by have := small he; omega) (Lib.hid fun _ => ⟨b, off, rfl, Nat.lt_of_lt_of_le hb hW.size, fun j hj => (hc j hj).below hW⟩) (Lib.hid fun k W2 hk => gTog2_any _ _ _ _ (gP l k) W2)
    have c0 := hc 0 (by omega)
    rw [show off + 0 * 8 = off by omega] at c0
    rw [hm] at H1 H2 H3
    have e8 : l.length = m + 1 := hm
    generalize hR0 : mxS Rp.vl l (m + 1) = R0 at *
    generalize hR1 : mnS Rp.vh l (m + 1) = R1 at *
    generalize hR2 : mxS Rp.al l (m + 1) = R2 at *
    generalize hR3 : mnS Rp.ah l (m + 1) = R3 at *
    rw [hm, hR0, hR1] at eE
    rw [hm, hR0, hR1, hR2, hR3]
    refine gTog_core b off m cap (gP l 0).dy (gP l 0).dp (gP l 0).ht (gP l 0).st (gP l 0).vl (gP l 0).vh (gP l 0).al (gP l 0).ah R0 R1 R2 R3 _ _ _ _ (glE l) _ (otB l) w hb (Lib.hid c0) ?_ H1 H2 H3
    by_cases g : glE l = 0
    · right
      rw [if_neg (by simpa using g)] at eE
      cases q : otB l with
      | true =>
        left
        rw [if_pos q] at eE
        have h := hz (by omega)
        exact ⟨g, rfl, eE, h _, h _, h _, h _⟩
      | false =>
        right
        rw [if_neg (by rw [q]; simp)] at eE
        by_cases r : R1 < R0
        · left
          rw [if_pos r] at eE
          have h := hz (by omega)
          exact ⟨g, rfl, r, eE, h _, h _, h _, h _⟩
        · right
          rw [if_neg r] at eE
          have h := hz2 eE
          exact ⟨g, rfl, by omega, eE, h _, h _, h _, h _⟩
    · left
      rw [if_pos g] at eE
      have h := hz (by omega)
      exact ⟨by simpa using g, eE, h _, h _, h _, h _⟩
end Go.Proofs.YtdpkochkpcjioabDoor

