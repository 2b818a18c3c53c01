/- Package unit: Parse. -/
import Derived.Test.YtdhckbjebccdbaaDoorUReadA
namespace Go.Proofs.YtdhckbjebccdbaaDoor
open Go.RowKit

/-- a block with two cells -/
def Two (b : Nat) (W : World) (x y : Value) : Prop := W.cell? ⟨b, 0, none⟩ = some x ∧ W.cell? ⟨b, 1, none⟩ = some y ∧ W.frozen? ⟨b, 0, none⟩ = false ∧ W.frozen? ⟨b, 1, none⟩ = false ∧ b < W.heap.size
theorem Two.below {b : Nat} {W W' : World} {x y : Value} (h : Two b W x y) (hb : Below W.heap.size W W') : Two b W' x y := by
  obtain ⟨h0, h1, h2, h3, h4⟩ := h
  exact ⟨by rw [(bcell hb).1 _ _ h4]; exact h0, by rw [(bcell hb).1 _ _ h4]; exact h1, by rw [(bcell hb).2 _ _ h4]; exact h2, by rw [(bcell hb).2 _ _ h4]; exact h3, Nat.lt_of_lt_of_le h4 hb.size⟩
theorem Two.alloc {b : Nat} {W : World} {x y : Value} (h : Two b W x y) (o : Obj) : Two b (W.alloc o) x y := h.below (bel_alloc (Below.refl _ _))
theorem Two.new (W : World) (x y : Value) (T : TypeId) : Two W.heap.size (W.alloc (.cells #[x, y] T)) x y := ⟨by simp [go_sem], by simp [go_sem], by simp [go_sem], by simp [go_sem], by simp⟩
theorem two_read (w : World) (b : Nat) (u v : Value) {a c : Value} (h0 : w.cell? ⟨b, 0, none⟩ = some a) (h1 : w.cell? ⟨b, 1, none⟩ = some c) :
    ((w.setCell ⟨b, 0, none⟩ u).setCell ⟨b, 1, none⟩ v).cell? ⟨b, 0, none⟩ = some u ∧ ((w.setCell ⟨b, 0, none⟩ u).setCell ⟨b, 1, none⟩ v).cell? ⟨b, 1, none⟩ = some v := by
  refine ⟨?_, ?_⟩
  · rw [World.cell?_setCell_other _ _ _ _ (by simp), World.cell?_setCell_same _ _ _ h0]
  · rw [World.cell?_setCell_same (u := c)]
    rw [World.cell?_setCell_other _ _ _ _ (by simp), h1]

/-- the parts of a text -/
def psN (l : List UInt8) : List UInt8 := (Lib.cut l [32]).1
def psU (l : List UInt8) : List UInt8 := (Lib.cut l [32]).2.1
def psV (l : List UInt8) : Int := tiV (dcG (psN l)) (dcN (psN l)) (dcC (psN l)) (uF (psU l))
def psE (l : List UInt8) : Int := if 64 < l.length then 8 else if isU (psU l) = false then 3 else if dcB (psN l) = false then 3 else if tiB (dcC (psN l)) (uF (psU l)) = false then 2 else if qE (uK (psU l)) (psV l) = 0 then 0 else 2
def psK (l : List UInt8) : Int := if psE l = 0 then uK (psU l) else 0
def psA (l : List UInt8) : Int := if psE l = 0 then psV l else 0

theorem units_look (U : ByteArray) (w : World) : Calls Tryd.prog 28 #[] w fun e w' => ∃ g, e = .returned (.map (some g)) ∧ Below w.heap.size w w' ∧
    (Instr.lookup 51 (.map (some g)) (.string U) true).run Tryd.prog w' = .ok (.tuple #[.agg #[.int .i64 (uK U.data.toList), .int .i64 (uF U.data.toList)], .bool (isU U.data.toList)]) w' := by
  refine (units_any w).mono ?_
  rintro e w' ⟨rfl, rfl⟩
  exact ⟨w.heap.size, rfl, bel_alloc (Below.refl _ _), run_look U _ _ (heap_alloc_new w _)⟩

theorem parse_long (s : ByteArray) (w : World) (hs : 64 < s.size) (hz : s.size ≤ 9223372036854775807) :
    Calls Tryd.prog 19 #[.string s] w fun e w' => e = .returned (.tuple #[.agg #[.int .i64 0, .int .i64 0], .int .i64 8]) ∧ Below w.heap.size w w' := by
  go_enter Tryd.func19, Tryd.ntmps19
  go_wp2
  go_returns
  exact ⟨rfl, bel_alloc (Below.refl _ _)⟩

set_option maxHeartbeats 4000000 in
theorem parse_core (s N U : ByteArray) (k f n C V Q K A E : Int) (pt b G d t : Bool) (w : World) (hs : s.size ≤ 64)
    (H1 : Hid (∀ W, Below w.heap.size w W → Calls Tryd.prog 26 #[.string s, .string ⟨#[32]⟩] W fun e w' => e = .returned (.tuple #[.string N, .string U, .bool pt]) ∧ Below W.heap.size W w'))
    (H2 : Hid (∀ W, Calls Tryd.prog 28 #[] W fun e w' => ∃ g, e = .returned (.map (some g)) ∧ Below W.heap.size W w' ∧ (Instr.lookup 51 (.map (some g)) (.string U) true).run Tryd.prog w' = .ok (.tuple #[.agg #[.int .i64 k, .int .i64 f], .bool b]) w'))
    (H3 : Hid (∀ W, Below w.heap.size w W → Calls Tryd.prog 35 #[.string N] W fun e w' => e = .returned (.tuple #[.agg #[.bool G, .int .i64 n, .int .i64 C], .bool d]) ∧ Below W.heap.size W w'))
    (H4 : Hid (b = true → d = true → ∀ W, Calls Tryd.prog 36 #[.agg #[.bool G, .int .i64 n, .int .i64 C], .int .i64 f] W fun e w' => e = .returned (.tuple #[.int .i64 V, .bool t]) ∧ Below W.heap.size W w'))
    (H5 : Hid (∀ W, Below w.heap.size w W → Calls Tryd.prog 15 #[.agg #[.int .i64 k, .int .i64 V]] W fun e w' => e = .returned (.int .i64 Q) ∧ Below W.heap.size W w'))
    (h : (b = false ∧ K = 0 ∧ A = 0 ∧ E = 3) ∨ (b = true ∧ d = false ∧ K = 0 ∧ A = 0 ∧ E = 3) ∨ (b = true ∧ d = true ∧ t = false ∧ K = 0 ∧ A = 0 ∧ E = 2) ∨
      (b = true ∧ d = true ∧ t = true ∧ ((Q == 0) = false ∧ (Q != 0) = true) ∧ K = 0 ∧ A = 0 ∧ E = 2) ∨ (b = true ∧ d = true ∧ t = true ∧ Q = 0 ∧ K = k ∧ A = V ∧ E = 0)) :
    Calls Tryd.prog 19 #[.string s] w fun e w' => e = .returned (.tuple #[.agg #[.int .i64 K, .int .i64 A], .int .i64 E]) ∧ Below w.heap.size w w' := by
  have HH := Lib.hid h; clear h
  go_enter Tryd.func19, Tryd.ntmps19
  go_wp2_with fail
  have T0 := Lib.hid (Two.new w (.int .i64 0) (.int .i64 0) 23)
  have X1 := Lib.hid (bel_alloc (Below.refl (w.alloc (.cells #[.int .i64 0, .int .i64 0] 23)).heap.size _))
  refine (H1.out _ X1.out).mono ?_
  rintro e w1 ⟨rfl, g⟩
  replace T0 := Lib.hid (T0.out.below g)
  replace X1 := Lib.hid (bel_trans X1.out g); clear g
  go_wp2_with fail
  refine (H2.out _).mono ?_
  rintro e w2 ⟨m, rfl, g, hl⟩
  replace T0 := Lib.hid (T0.out.below g)
  replace X1 := Lib.hid (bel_trans X1.out g); clear g
  rcases HH.out with ⟨rfl, rfl, rfl, rfl⟩ | HH
  · obtain ⟨r0, r1, f0, f1, _⟩ := T0.out.alloc (.cells #[.int .i64 k, .int .i64 f] 49)
    go_wp2
    obtain ⟨t0, t1⟩ := two_read _ w.heap.size (.int .i64 0) (.int .i64 0) r0 r1
    refine bodyPost_ret (v := .tuple #[.agg #[.int .i64 0, .int .i64 0], .int .i64 3]) (by simp [results, Tryd.results19, go_sem, t0, t1]) rfl ?_
    exact ⟨rfl, ((bel_trans X1.out (bel_alloc (Below.refl _ _))).setCell (Nat.le_refl _) _).setCell (Nat.le_refl _) _⟩
  obtain rfl : b = true := by rcases HH with ⟨h, _⟩ | ⟨h, _⟩ | ⟨h, _⟩ | ⟨h, _⟩ <;> exact h
  replace HH := Lib.hid HH
  go_wp2_with fail
  refine (H3.out _ (bel_trans X1.out (bel_alloc (Below.refl _ _)))).mono ?_
  rintro e w3 ⟨rfl, g⟩
  have TM := Lib.hid ((Two.new w2 (.int .i64 k) (.int .i64 f) 49).below g)
  replace T0 := Lib.hid ((T0.out.alloc _).below g)
  replace X1 := Lib.hid (bel_trans X1.out (bel_alloc g)); clear g hl
  rcases HH.out with ⟨_, rfl, rfl, rfl, rfl⟩ | HH2
  · obtain ⟨r0, r1, f0, f1, _⟩ := T0.out.alloc (.cells #[.bool G, .int .i64 n, .int .i64 C] 62)
    go_wp2
    obtain ⟨t0, t1⟩ := two_read _ w.heap.size (.int .i64 0) (.int .i64 0) r0 r1
    refine bodyPost_ret (v := .tuple #[.agg #[.int .i64 0, .int .i64 0], .int .i64 3]) (by simp [results, Tryd.results19, go_sem, t0, t1]) rfl ?_
    exact ⟨rfl, ((bel_trans X1.out (bel_alloc (Below.refl _ _))).setCell (Nat.le_refl _) _).setCell (Nat.le_refl _) _⟩
  obtain rfl : d = true := by rcases HH2 with ⟨_, h, _⟩ | ⟨_, h, _⟩ | ⟨_, h, _⟩ <;> exact h
  clear HH
  replace HH := Lib.hid HH2
  clear HH2
  obtain ⟨m0, m1, _, _, _⟩ := TM.out.alloc (.cells #[.bool G, .int .i64 n, .int .i64 C] 62)
  go_wp2_with fail
  refine (H4.out (by first | rfl | trivial) (by first | rfl | trivial) _).mono ?_
  rintro e w4 ⟨rfl, g⟩
  clear m0 m1
  replace TM := Lib.hid ((TM.out.alloc _).below g)
  replace T0 := Lib.hid ((T0.out.alloc _).below g)
  replace X1 := Lib.hid (bel_trans X1.out (bel_alloc g)); clear g
  obtain ⟨m0, m1, _, _, _⟩ := TM.out
  rcases HH.out with ⟨_, _, rfl, rfl, rfl, rfl⟩ | HH2
  · obtain ⟨r0, r1, f0, f1, _⟩ := T0.out.alloc (.cells #[.int .i64 k, .int .i64 V] 23)
    go_wp2
    obtain ⟨t0, t1⟩ := two_read _ w.heap.size (.int .i64 0) (.int .i64 0) r0 r1
    refine bodyPost_ret (v := .tuple #[.agg #[.int .i64 0, .int .i64 0], .int .i64 2]) (by simp [results, Tryd.results19, go_sem, t0, t1]) rfl ?_
    exact ⟨rfl, ((bel_trans X1.out (bel_alloc (Below.refl _ _))).setCell (Nat.le_refl _) _).setCell (Nat.le_refl _) _⟩
  obtain rfl : t = true := by rcases HH2 with ⟨_, _, h, _⟩ | ⟨_, _, h, _⟩ <;> exact h
  clear HH
  replace HH := Lib.hid HH2
  clear HH2
  go_wp2_with fail
  refine (H5.out _ (bel_trans X1.out (bel_alloc (Below.refl _ _)))).mono ?_
  rintro e w5 ⟨rfl, g⟩
  have TQ := Lib.hid ((Two.new w4 (.int .i64 k) (.int .i64 V) 23).below g)
  replace T0 := Lib.hid ((T0.out.alloc _).below g)
  replace X1 := Lib.hid (bel_trans X1.out (bel_alloc g)); clear g
  obtain ⟨q0, q1, _, _, _⟩ := TQ.out
  rcases HH.out with ⟨_, _, _, ⟨e1, e2⟩, rfl, rfl, rfl⟩ | ⟨_, _, _, rfl, rfl, rfl, rfl⟩
  · obtain ⟨r0, r1, f0, f1, _⟩ := T0.out
    go_wp2
    obtain ⟨t0, t1⟩ := two_read _ w.heap.size (.int .i64 0) (.int .i64 0) r0 r1
    refine bodyPost_ret (v := .tuple #[.agg #[.int .i64 0, .int .i64 0], .int .i64 2]) (by simp [results, Tryd.results19, go_sem, t0, t1]) rfl ?_
    exact ⟨rfl, ((X1.out).setCell (Nat.le_refl _) _).setCell (Nat.le_refl _) _⟩
  · obtain ⟨r0, r1, f0, f1, _⟩ := T0.out
    go_wp2
    obtain ⟨t0, t1⟩ := two_read _ w.heap.size (.int .i64 K) (.int .i64 A) r0 r1
    refine bodyPost_ret (v := .tuple #[.agg #[.int .i64 K, .int .i64 A], .int .i64 0]) (by simp [results, Tryd.results19, go_sem, t0, t1]) rfl ?_
    exact ⟨rfl, ((X1.out).setCell (Nat.le_refl _) _).setCell (Nat.le_refl _) _⟩

theorem psN_len (l : List UInt8) : (psN l).length ≤ l.length ∧ (psU l).length ≤ l.length := cut_len l [32]
theorem parse_any (s : ByteArray) (w : World) (hw : LaidU w) (hz : s.size ≤ 9223372036854775807) :
    Calls Tryd.prog 19 #[.string s] w fun e w' => e = .returned (.tuple #[.agg #[.int .i64 (psK s.data.toList), .int .i64 (psA s.data.toList)], .int .i64 (psE s.data.toList)]) ∧ Below w.heap.size w w' := by
  have hl : s.data.toList.length = s.size := by rw [Array.length_toList]; rfl
  by_cases hs : 64 < s.size
  · have e : psE s.data.toList = 8 := by unfold psE; rw [if_pos (by omega)]
    unfold psK psA
    rw [e]
    exact parse_long s w hs hz
  · have hn := psN_len s.data.toList
    have zN : (⟨(psN s.data.toList).toArray⟩ : ByteArray).size = (psN s.data.toList).length := List.size_toArray
    have hd := dc_bd (psN s.data.toList) (by omega)
    refine parse_core s ⟨(psN s.data.toList).toArray⟩ ⟨(psU s.data.toList).toArray⟩ (uK (psU s.data.toList)) (uF (psU s.data.toList)) (dcN (psN s.data.toList)) (dcC (psN s.data.toList)) (psV s.data.toList) (qE (uK (psU s.data.toList)) (psV s.data.toList)) _ _ _ (Lib.cut s.data.toList [32]).2.2 (isU (psU s.data.toList)) (dcG (psN s.data.toList)) (dcB (psN s.data.toList)) (tiB (dcC (psN s.data.toList)) (uF (psU s.data.toList))) w (by omega) (fun W hW => ?_) (fun W => ?_) (fun W hW => ?_) (fun h1 h2 W => ?_) (fun W hW => ?_) ?_
    · obtain ⟨m, hm⟩ := (hw.below hW).2.2
      refine (Tryd.strings_Cut s ⟨#[32]⟩ m W (by omega) hm).mono ?_
      rintro e w' ⟨rfl, n, rfl⟩
      exact ⟨rfl, bel_drewN _ _⟩
    · refine (units_look ⟨(psU s.data.toList).toArray⟩ W).mono ?_
      rintro e w' ⟨g, rfl, hb, hg⟩
      exact ⟨g, rfl, hb, hg⟩
    · exact read_any ⟨(psN s.data.toList).toArray⟩ W (hw.below hW) (by omega)
    · have hu := unit_bd _ h1
      exact times_any _ _ _ _ W hd.2.2.1 (by omega) (by omega) (by omega) hd.1 hd.2.1
    · exact check_any _ _ W (hw.below hW)
    · unfold psK psA psE
      rw [if_neg (by omega : ¬ 64 < s.data.toList.length)]
      cases h1 : isU (psU s.data.toList) with
      | false => left; exact ⟨rfl, rfl, rfl, rfl⟩
      | true =>
        right
        cases h2 : dcB (psN s.data.toList) with
        | false => left; exact ⟨rfl, rfl, rfl, rfl, rfl⟩
        | true =>
          right
          cases h3 : tiB (dcC (psN s.data.toList)) (uF (psU s.data.toList)) with
          | false => left; exact ⟨rfl, rfl, rfl, rfl, rfl, rfl⟩
          | true =>
            right
            by_cases h4 : qE (uK (psU s.data.toList)) (psV s.data.toList) = 0
            · right; simp [h4]
            · left; simp [h4]
end Go.Proofs.YtdhckbjebccdbaaDoor
