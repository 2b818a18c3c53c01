/- Package thermal: Between. -/
import Derived.Test.YtdpkochkpcjioabDoorTC
import Derived.Test.YtdpkochkpcjioabDoorTwo
import Derived.BigQuiet
namespace Go.Proofs.YtdpkochkpcjioabDoor
open Go.RowKit

/-- a block with one cell -/
def One (b : Nat) (W : World) (x : Value) : Prop := W.cell? ⟨b, 0, none⟩ = some x ∧ W.frozen? ⟨b, 0, none⟩ = false ∧ b < W.heap.size
theorem One.below {b : Nat} {W W' : World} {x : Value} (h : One b W x) (hb : Below W.heap.size W W') : One b W' x := by
  obtain ⟨h0, h1, h2⟩ := h
  exact ⟨by rw [(bcell hb).1 _ _ h2]; exact h0, by rw [(bcell hb).2 _ _ h2]; exact h1, Nat.lt_of_lt_of_le h2 hb.size⟩
theorem One.alloc {b : Nat} {W : World} {x : Value} (h : One b W x) (o : Obj) : One b (W.alloc o) x := h.below (bel_alloc (Below.refl _ _))
theorem One.new (W : World) (x : Value) (T : TypeId) : One W.heap.size (W.alloc (.cells #[x] T)) x := ⟨by simp [go_sem], by simp [go_sem], by simp⟩
theorem One.set {b : Nat} {W : World} {x : Value} (h : One b W x) (z : Value) : One b (W.setCell ⟨b, 0, none⟩ z) z := by
  obtain ⟨h0, h1, h2⟩ := h
  exact ⟨World.cell?_setCell_same _ _ _ h0, by rw [World.frozen?_setCell]; exact h1, by simpa [World.setCell] using h2⟩
theorem One.other {b : Nat} {W : World} {x : Value} (h : One b W x) (p : Addr) (hp : p.block ≠ b) (z : Value) : One b (W.setCell p z) x := by
  obtain ⟨h0, h1, h2⟩ := h
  exact ⟨by rw [World.cell?_setCell_other _ _ _ _ (by intro e; apply hp; rw [e])]; exact h0, by rw [World.frozen?_setCell]; exact h1, by simpa [World.setCell] using h2⟩

/-- what the closure does to the error so far -/
def EndW (bf : Nat) (E : Int) (c : Bool) (w w' : World) : Prop := ∃ w1, Below w.heap.size w w1 ∧ w' = if c = true then w1.setCell ⟨bf, 0, none⟩ (.int .i64 E) else w1
theorem EndW.keep {bf : Nat} {E : Int} {c : Bool} {w w' : World} (h : EndW bf E c w w') {F : Int} (hf : One bf w (.int .i64 F)) :
    One bf w' (.int .i64 (if c = true then E else F)) ∧ (∀ b x y, b ≠ bf → Two b w x y → Two b w' x y) ∧ (∀ b x, b ≠ bf → One b w x → One b w' x) ∧ (∀ n, n ≤ bf → n ≤ w.heap.size → Below n w w') := by
  obtain ⟨u, hb, rfl⟩ := h
  cases c with
  | true =>
    rw [if_pos rfl, if_pos rfl]
    exact ⟨(hf.below hb).set _, fun b x y hn t => (t.below hb).other _ (Ne.symm hn) _, fun b x hn t => (t.below hb).other _ (Ne.symm hn) _, fun n h1 h2 => (hb.mono h2).setCell h1 _⟩
  | false =>
    rw [if_neg (by simp), if_neg (by simp)]
    exact ⟨hf.below hb, fun b x y hn t => t.below hb, fun b x hn t => t.below hb, fun n h1 h2 => hb.mono h2⟩

theorem end_core (v heat rule rise F Q E : Int) (c : Bool) (br bf : Nat) (w : World)
    (HT : Hid (Calls Tryd.prog 74 #[.int .i64 v, .int .i64 rise, .int .i64 heat, .int .i64 rule] w fun e w' => e = .returned (.tuple #[.int .i64 Q, .int .i64 E]) ∧ Below w.heap.size w w'))
    (h1 : w.cell? ⟨br, 0, none⟩ = some (.int .i64 rise)) (h2 : Hid (One bf w (.int .i64 F))) (hc : ((F == 0) = true ∧ c = true) ∨ ((F == 0) = false ∧ (E == 2) = c)) :
    Calls Tryd.prog 73 #[.int .i64 v, .int .i64 heat, .int .i64 rule, .pointer (some ⟨br, 0, none⟩), .pointer (some ⟨bf, 0, none⟩)] w fun e w' => e = .returned (.int .i64 Q) ∧ EndW bf E c w w' := by
  rcases hc with ⟨hc, rfl⟩ | ⟨hc, hd⟩
  · go_enter Tryd.func73, Tryd.ntmps73
    go_wp2_with fail
    refine HT.out.mono ?_
    rintro e w1 ⟨rfl, gg⟩
    obtain ⟨g0, g1, g2⟩ := h2.out.below gg
    have X1 := Lib.hid gg; clear gg
    go_wp2
    go_returns
    exact ⟨rfl, w1, X1.out, by simp⟩
  · cases c with
    | true =>
      go_enter Tryd.func73, Tryd.ntmps73
      go_wp2_with fail
      refine HT.out.mono ?_
      rintro e w1 ⟨rfl, gg⟩
      obtain ⟨g0, g1, g2⟩ := h2.out.below gg
      have X1 := Lib.hid gg; clear gg
      go_wp2
      go_returns
      exact ⟨rfl, w1, X1.out, by simp⟩
    | false =>
      go_enter Tryd.func73, Tryd.ntmps73
      go_wp2_with fail
      refine HT.out.mono ?_
      rintro e w1 ⟨rfl, gg⟩
      obtain ⟨g0, g1, g2⟩ := h2.out.below gg
      have X1 := Lib.hid gg; clear gg
      go_wp2
      go_returns
      exact ⟨rfl, w1, X1.out, by simp⟩
/-- what the closure needs, and does: F is the error so far -/
def EndIs (v heat rule rise Q E : Int) : Prop := ∀ (F : Int) (br bf : Nat) (w : World), WordsIs w → One br w (.int .i64 rise) → One bf w (.int .i64 F) →
    Calls Tryd.prog 73 #[.int .i64 v, .int .i64 heat, .int .i64 rule, .pointer (some ⟨br, 0, none⟩), .pointer (some ⟨bf, 0, none⟩)] w fun e w' => e = .returned (.int .i64 Q) ∧ EndW bf E (F == 0 || E == 2) w w'
theorem end_any (v heat rule rise : Int) : EndIs v heat rule rise (toQ v rise heat rule) (toE v rise heat rule) := by
  intro F br bf w hw h1 h2
  refine end_core v heat rule rise F _ _ _ br bf w (thTo_any v rise heat rule w hw) h1.1 h2 ?_
  cases h : (F == 0) with
  | true => exact .inl ⟨rfl, rfl⟩
  | false => exact .inr ⟨rfl, rfl⟩

set_option maxHeartbeats 4000000 in
theorem between_order (vl vh hl hh rise : Int) (w : World) (h : vh < vl ∨ (vl ≤ vh ∧ hh < hl)) :
    Calls Tryd.prog 47 #[.agg #[.int .i64 vl, .int .i64 vh], .agg #[.int .i64 hl, .int .i64 hh], .int .i64 rise] w fun e w' => e = .returned (.tuple #[.agg #[.int .i64 0, .int .i64 0], .int .i64 1]) ∧ Below w.heap.size w w' := by
  rcases h with h | ⟨h, h2⟩
  all_goals
    go_enter Tryd.func47, Tryd.ntmps47
    go_wp2
    refine bodyPost_ret (v := .tuple #[.agg #[.int .i64 0, .int .i64 0], .int .i64 1]) (by simp [results, Tryd.results47, go_sem]) rfl ?_
    exact ⟨rfl, bel_alloc (bel_alloc (bel_alloc (bel_alloc (Below.refl _ _))))⟩
set_option maxHeartbeats 4000000 in
theorem between_core (vl vh hl hh rise Q1 E1 Q2 E2 X A B : Int) (w : World) (hw : Hid (WordsIs w)) (h : vl ≤ vh) (h2 : hl ≤ hh) (HE1 : Hid (EndIs vl hh 1 rise Q1 E1)) (HE2 : Hid (EndIs vh hl 2 rise Q2 E2))
    (hX : Hid ((if (E1 == 0 || E2 == 2) = true then E2 else E1) = X)) (hR : Hid (((X != 0) = true ∧ A = 0 ∧ B = 0) ∨ ((X != 0) = false ∧ X = 0 ∧ A = Q1 ∧ B = Q2))) :
    Calls Tryd.prog 47 #[.agg #[.int .i64 vl, .int .i64 vh], .agg #[.int .i64 hl, .int .i64 hh], .int .i64 rise] w fun e w' => e = .returned (.tuple #[.agg #[.int .i64 A, .int .i64 B], .int .i64 X]) ∧ Below w.heap.size w w' := by
  have TV := Lib.hid (((((Two.new w (.int .i64 vl) (.int .i64 vh) 30).alloc (.cells #[.int .i64 hl, .int .i64 hh] 30)).alloc (.cells #[.int .i64 rise] 3)).alloc (.cells #[.int .i64 0, .int .i64 0] 30)).alloc (.cells #[.int .i64 0] 31))
  have TH := Lib.hid ((((Two.new (w.alloc (.cells #[.int .i64 vl, .int .i64 vh] 30)) (.int .i64 hl) (.int .i64 hh) 30).alloc (.cells #[.int .i64 rise] 3)).alloc (.cells #[.int .i64 0, .int .i64 0] 30)).alloc (.cells #[.int .i64 0] 31))
  have OR := Lib.hid (((One.new ((w.alloc (.cells #[.int .i64 vl, .int .i64 vh] 30)).alloc (.cells #[.int .i64 hl, .int .i64 hh] 30)) (.int .i64 rise) 3).alloc (.cells #[.int .i64 0, .int .i64 0] 30)).alloc (.cells #[.int .i64 0] 31))
  have TZ := Lib.hid ((Two.new (((w.alloc (.cells #[.int .i64 vl, .int .i64 vh] 30)).alloc (.cells #[.int .i64 hl, .int .i64 hh] 30)).alloc (.cells #[.int .i64 rise] 3)) (.int .i64 0) (.int .i64 0) 30).alloc (.cells #[.int .i64 0] 31))
  have OF := Lib.hid (One.new ((((w.alloc (.cells #[.int .i64 vl, .int .i64 vh] 30)).alloc (.cells #[.int .i64 hl, .int .i64 hh] 30)).alloc (.cells #[.int .i64 rise] 3)).alloc (.cells #[.int .i64 0, .int .i64 0] 30)) (.int .i64 0) 31)
  simp only [World.size_alloc] at TH TZ OR OF
  have B5 := Lib.hid (bel_alloc (bel_alloc (bel_alloc (bel_alloc (bel_alloc (Below.refl (((((w.alloc (.cells #[.int .i64 vl, .int .i64 vh] 30)).alloc (.cells #[.int .i64 hl, .int .i64 hh] 30)).alloc (.cells #[.int .i64 rise] 3)).alloc (.cells #[.int .i64 0, .int .i64 0] 30)).alloc (.cells #[.int .i64 0] 31)).heap.size _))))))
  have hmf : ∀ (fn : Fn) (first cap : Array Value) (w : World), (Instr.makeFunc fn first cap).run Tryd.prog w = .ok (.func fn first cap) w := fun _ _ _ _ => rfl
  go_enter Tryd.func47, Tryd.ntmps47
  go_wp2_with fail
  have K1 := Lib.hid ((HE1.out 0 _ _ _ (((((hw.out.alloc (.cells #[.int .i64 vl, .int .i64 vh] 30)).alloc (.cells #[.int .i64 hl, .int .i64 hh] 30)).alloc (.cells #[.int .i64 rise] 3)).alloc (.cells #[.int .i64 0, .int .i64 0] 30)).alloc (.cells #[.int .i64 0] 31)) OR.out OF.out))
  refine K1.out.mono ?_
  rintro e w1 ⟨rfl, gg⟩
  obtain ⟨o1, o2, o3, o4⟩ := gg.keep OF.out
  rw [if_pos (by rfl)] at o1
  replace OF := Lib.hid o1
  replace OR := Lib.hid (o3 _ _ (by omega) OR.out)
  replace TV := Lib.hid (o2 _ _ _ (by omega) TV.out)
  replace TH := Lib.hid (o2 _ _ _ (by omega) TH.out)
  replace TZ := Lib.hid (o2 _ _ _ (by omega) TZ.out)
  have X1 := Lib.hid (B5.out.trans (o4 w.heap.size (by omega) (by simp only [World.size_alloc]; omega)))
  have Z1 := Lib.hid (show w.heap.size + 1 + 1 + 1 + 1 < w1.heap.size from OF.out.2.2)
  clear o1 o2 o3 o4 gg B5 K1
  replace hw := Lib.hid (hw.out.below X1.out)
  obtain ⟨v0, v1, _, _, _⟩ := TV.out
  obtain ⟨t0, t1, _, _, _⟩ := TH.out
  go_wp2_with fail
  refine (HE2.out E1 _ _ _ hw.out OR.out OF.out).mono ?_
  rintro e w2 ⟨rfl, gg⟩
  obtain ⟨o1, o2, o3, o4⟩ := gg.keep OF.out
  rw [hX.out] at o1
  replace OF := Lib.hid o1
  replace TZ := Lib.hid (o2 _ _ _ (by omega) TZ.out)
  replace X1 := Lib.hid (X1.out.trans (o4 w.heap.size (by omega) (by have := Z1.out; omega)))
  clear o1 o2 o3 o4 gg v0 v1 t0 t1 TV TH OR
  obtain ⟨f0, f1, _⟩ := OF.out
  obtain ⟨z0, z1, _, _, _⟩ := TZ.out
  have B0 : ∀ o, w.heap.size ≤ (⟨w.heap.size + 1 + 1 + 1, o, none⟩ : Addr).block := fun o => by show w.heap.size ≤ w.heap.size + 1 + 1 + 1; omega
  rcases hR.out with ⟨hx, rfl, rfl⟩ | ⟨hx, rfl, rfl, rfl⟩
  · clear hX hR
    go_wp2
    go_region
    all_goals go_wp2
    all_goals
      obtain ⟨t0, t1⟩ := two_read w2 (w.heap.size + 1 + 1 + 1) (.int .i64 0) (.int .i64 0) z0 z1
      refine bodyPost_ret (v := .tuple #[.agg #[.int .i64 0, .int .i64 0], .int .i64 X]) (by simp [results, Tryd.results47, go_sem, t0, t1]) rfl ?_
      exact ⟨rfl, by first | exact ((X1.out.setCell (B0 0) _).setCell (B0 1) _).drew | exact (X1.out.setCell (B0 0) _).setCell (B0 1) _⟩
  · clear hX hR
    go_wp2
    obtain ⟨t0, t1⟩ := two_read w2 (w.heap.size + 1 + 1 + 1) (.int .i64 A) (.int .i64 B) z0 z1
    refine bodyPost_ret (v := .tuple #[.agg #[.int .i64 A, .int .i64 B], .int .i64 0]) (by simp [results, Tryd.results47, go_sem, t0, t1]) rfl ?_
    exact ⟨rfl, (X1.out.setCell (B0 0) _).setCell (B0 1) _⟩

theorem to_cases (v rise heat rule : Int) (h : 1 ≤ rule ∧ rule ≤ 4) : (toE v rise heat rule = 2 ↔ rdyE v rise heat rule ≠ 0) ∧ (toE v rise heat rule = 0 ∨ toE v rise heat rule = 2 ∨ toE v rise heat rule = 15) := by
  by_cases hz : rdyE v rise heat rule = 0
  · obtain ⟨g, _⟩ := to_is hz
    rw [g]
    split
    · exact ⟨⟨fun h => by omega, fun h => absurd hz h⟩, .inl rfl⟩
    · exact ⟨⟨fun h => by omega, fun h => absurd hz h⟩, .inr (.inr rfl)⟩
  · have e : toE v rise heat rule = rdyE v rise heat rule := by unfold toE; rw [if_neg hz]
    have h2 : rdyE v rise heat rule = 2 := by
      have hr := (isRuleB_iff rule).2 h
      unfold rdyE at hz ⊢
      rw [if_pos hr] at hz ⊢
      split at hz
      · exact absurd rfl hz
      · rename_i hn; rw [if_neg hn]
    rw [e, h2]
    exact ⟨⟨fun _ => by omega, fun _ => rfl⟩, .inr (.inl rfl)⟩
/-- the error of Between, as the code finds it -/
theorem bt_err (vl vh hl hh rise : Int) (h : vl ≤ vh) (h2 : hl ≤ hh) :
    (if (toE vl rise hh 1 == 0 || toE vh rise hl 2 == 2) = true then toE vh rise hl 2 else toE vl rise hh 1) = btE vl vh hl hh rise := by
  have c1 := to_cases vl rise hh 1 (by omega)
  have c2 := to_cases vh rise hl 2 (by omega)
  have hd : rdyE vl rise hl 2 ≠ 0 ∨ rdyE vh rise hh 2 ≠ 0 ↔ rdyE vl rise hh 1 ≠ 0 ∨ rdyE vh rise hl 2 ≠ 0 := by
    have r1 : isRuleB 1 = true := by decide
    have r2 : isRuleB 2 = true := by decide
    unfold rdyE
    rw [if_pos r1, if_pos r2, if_pos r2, if_pos r2]
    cases facB rise hl <;> cases facB rise hh <;> cases isAm vl <;> cases isAm vh <;> simp
  have hb : btE vl vh hl hh rise = if rdyE vl rise hl 2 ≠ 0 ∨ rdyE vh rise hh 2 ≠ 0 then 2 else if toE vl rise hh 1 ≠ 0 ∨ toE vh rise hl 2 ≠ 0 then 15 else 0 := by
    unfold btE; rw [if_neg (by omega)]
  rw [hb]
  by_cases g : rdyE vl rise hl 2 ≠ 0 ∨ rdyE vh rise hh 2 ≠ 0
  · rw [if_pos g]
    rw [hd, ← c1.1, ← c2.1] at g
    by_cases g2 : toE vh rise hl 2 = 2
    · rw [if_pos (by simp [g2]), g2]
    · have g1 : toE vl rise hh 1 = 2 := by omega
      rw [if_neg (by simp [g2, g1]), g1]
  · rw [if_neg g]
    rw [hd, ← c1.1, ← c2.1] at g
    generalize toE vl rise hh 1 = E1 at *
    generalize toE vh rise hl 2 = E2 at *
    by_cases g1 : E1 = 0
    · rw [if_pos (by simp [g1])]
      by_cases g2 : E2 = 0
      · rw [if_neg (by omega), g2]
      · rw [if_pos (by omega)]; omega
    · rw [if_neg (by simp [g1]; omega), if_pos (by omega)]; omega
theorem thBetween_any (vl vh hl hh rise : Int) (w : World) (hw : WordsIs w) :
    Calls Tryd.prog 47 #[.agg #[.int .i64 vl, .int .i64 vh], .agg #[.int .i64 hl, .int .i64 hh], .int .i64 rise] w fun e w' => e = .returned (.tuple #[.agg #[.int .i64 (btL vl vh hl hh rise), .int .i64 (btH vl vh hl hh rise)], .int .i64 (btE vl vh hl hh rise)]) ∧ Below w.heap.size w w' := by
  by_cases h : vl ≤ vh ∧ hl ≤ hh
  · refine between_core vl vh hl hh rise _ _ _ _ _ _ _ w hw h.1 h.2 (end_any vl hh 1 rise) (end_any vh hl 2 rise) (bt_err vl vh hl hh rise h.1 h.2) ?_
    show _ ∨ _
    unfold btL btH
    by_cases e : btE vl vh hl hh rise = 0
    · right; rw [e]; exact ⟨by decide, rfl, rfl, rfl⟩
    · left; rw [if_neg e, if_neg e]; exact ⟨by simpa using e, rfl, rfl⟩
  · have e : btE vl vh hl hh rise = 1 := by unfold btE; rw [if_pos (by omega)]
    unfold btL btH
    rw [e]
    exact between_order vl vh hl hh rise w (by omega)
end Go.Proofs.YtdpkochkpcjioabDoor

