/- Package gauge: lists of reports; check. -/
import Derived.Test.YtdpkochkpcjioabDoorGE
namespace Go.Proofs.YtdpkochkpcjioabDoor
open Go.RowKit

instance : Inhabited Rp := ⟨⟨0, 0, 0, 0, 0, 0, 0, 0⟩⟩
def gP (l : List Rp) (j : Nat) : Rp := l.getD j default
/-- the eight cells of a report at a place -/
def RpC (W : World) (b o : Nat) (r : Rp) : Prop := W.cell? ⟨b, o, none⟩ = some (.int .i64 r.dy) ∧ W.cell? ⟨b, o + 1, none⟩ = some (.int .i64 r.dp) ∧ W.cell? ⟨b, o + 2, none⟩ = some (.int .i64 r.ht) ∧ W.cell? ⟨b, o + 3, none⟩ = some (.int .i64 r.st) ∧ W.cell? ⟨b, o + 4, none⟩ = some (.int .i64 r.vl) ∧ W.cell? ⟨b, o + 5, none⟩ = some (.int .i64 r.vh) ∧ W.cell? ⟨b, o + 6, none⟩ = some (.int .i64 r.al) ∧ W.cell? ⟨b, o + 7, none⟩ = some (.int .i64 r.ah)
theorem RpC.below {w W : World} {b o : Nat} {r : Rp} (h : RpC w b o r) (hb : Below w.heap.size w W) : RpC W b o r := by
  obtain ⟨h0, h1, h2, h3, h4, h5, h6, h7⟩ := h
  exact ⟨cell_bel h0 hb, cell_bel h1 hb, cell_bel h2 hb, cell_bel h3 hb, cell_bel h4 hb, cell_bel h5 hb, cell_bel h6 hb, cell_bel h7 hb⟩
/-- a slice that reads as reports -/
def Rps (w : World) (v : Value) (l : List Rp) : Prop :=
  ∃ a cap, v = .slice a l.length cap ∧ (l.length ≤ cap ∧ cap ≤ 9223372036854775807) ∧
    (l.length = 0 ∨ ∃ b off, a = some ⟨b, off, none⟩ ∧ b < w.heap.size ∧ ∀ j, j < l.length → RpC w b (off + j * 8) (gP l j))
theorem Rps.below {w w' : World} {v : Value} {l : List Rp} (h : Rps w v l) (hb : Below w.heap.size w w') : Rps w' v l := by
  obtain ⟨a, cap, rfl, hl, h | ⟨b, off, rfl, hlt, hc⟩⟩ := h
  · exact ⟨a, cap, rfl, hl, .inl h⟩
  · exact ⟨_, cap, rfl, hl, .inr ⟨b, off, rfl, Nat.lt_of_lt_of_le hlt hb.size, fun j hj => (hc j hj).below hb⟩⟩
/-- the closure of check -/
theorem gChk1_any (B : Bool) (r : Rp) (w : World) :
    Calls Tryd.prog 80 #[.bool B, .agg #[.int .i64 r.dy, .int .i64 r.dp, .int .i64 r.ht, .int .i64 r.st, .int .i64 r.vl, .int .i64 r.vh, .int .i64 r.al, .int .i64 r.ah]] w fun e w' => e = .returned (.bool (B && rgtB r)) ∧ Below w.heap.size w w' := by
  have HR := Lib.hid (fun W => gRight_any r W)
  generalize rgtB r = Q at *
  obtain ⟨d, p, h, s, vl, vh, al, ah⟩ := r
  have X0 := Lib.hid (bel_alloc (w := w) (o := .cells #[.int .i64 d, .int .i64 p, .int .i64 h, .int .i64 s, .int .i64 vl, .int .i64 vh, .int .i64 al, .int .i64 ah] 36) (Below.refl _ _))
  obtain ⟨c0, c1, c2, c3, c4, c5, c6, c7, _, _⟩ := Eig.new w (.int .i64 d) (.int .i64 p) (.int .i64 h) (.int .i64 s) (.int .i64 vl) (.int .i64 vh) (.int .i64 al) (.int .i64 ah) 36
  cases B with
  | false =>
    go_enter Tryd.func80, Tryd.ntmps80
    go_wp2
    go_returns
    exact ⟨rfl, X0.out⟩
  | true =>
    go_enter Tryd.func80, Tryd.ntmps80
    go_wp2_with fail
    refine (HR.out _).mono ?_
    rintro e w1 ⟨rfl, gg⟩
    replace X0 := Lib.hid (bel_trans X0.out gg); clear gg
    go_wp2
    go_returns
    exact ⟨by simp, X0.out⟩
def alB (l : List Rp) (k : Nat) : Bool := (List.range k).all fun j => rgtB (gP l j)
theorem alB_succ (l : List Rp) (k : Nat) : alB l (k + 1) = (alB l k && rgtB (gP l k)) := by
  unfold alB; rw [List.range_succ, List.all_append]; simp
theorem alB_iff {l : List Rp} {k : Nat} : alB l k = true ↔ ∀ j, j < k → rgtB (gP l j) = true := by
  unfold alB; rw [List.all_eq_true]; simp
set_option maxHeartbeats 8000000 in
set_option maxRecDepth 100000 in
theorem foldB_some (b off n cap : Nat) (l : List Rp) (w : World) (n1 : n ≤ 1000000) (hb : b < w.heap.size) (hc : Hid (∀ j, j < n → RpC w b (off + j * 8) (gP l j))) :
    Calls Tryd.prog 79 #[.slice (some ⟨b, off, none⟩) n cap, .bool true, .func (.func 80) #[] #[]] w fun e w' => e = .returned (.bool (alB l n)) ∧ Below w.heap.size w w' := by
  have eg := enters_of Tryd.func80 (by kernel_rfl) rfl
  have HK := Lib.hid (fun B r W => gChk1_any B r W)
  go_enter Tryd.func79, Tryd.ntmps79
  go_wp2_with fail
  go_loopw [1, 11] (fun bb ii wr => ∃ k : Nat, k ≤ n ∧ ii = .int .i64 (k : Int) ∧ bb = .bool (alB l k) ∧ Hid (Below w.heap.size w wr)) (fun _ ii _ => n - (intOf ii).toNat)
  case atStart => exact ⟨0, by omega, rfl, rfl, Lib.hid (Below.refl _ _)⟩
  case round =>
    obtain ⟨k, hk, rfl, rfl, hB⟩ := hrel
    by_cases hlt : k < n
    · obtain ⟨c0, c1, c2, c3, c4, c5, c6, c7⟩ := (hc.out k hlt).below hB.out
      have lk : (k : Int) < (n : Int) := by omega
      have HP := Lib.hid (fun W => HK.out (alB l k) (gP l k) W)
      have eN : Hid (alB l (k + 1) = (alB l k && rgtB (gP l k))) := Lib.hid (alB_succ l k)
      rw [← eN.out] at HP
      generalize eA1 : alB l (k + 1) = A1 at *
      replace eA1 := Lib.hid eA1
      generalize alB l k = A0 at *
      generalize gP l k = r at *
      obtain ⟨d, p, h, s, vl, vh, al, ah⟩ := r
      clear eN HK
      have X1 := Lib.hid (bel_trans hB.out (bel_alloc (o := .cells #[.int .i64 d, .int .i64 p, .int .i64 h, .int .i64 s, .int .i64 vl, .int .i64 vh, .int .i64 al, .int .i64 ah] 36) (Below.refl _ _)))
      obtain ⟨d0, d1, d2, d3, d4, d5, d6, d7, _, _⟩ := Eig.new wr (.int .i64 d) (.int .i64 p) (.int .i64 h) (.int .i64 s) (.int .i64 vl) (.int .i64 vh) (.int .i64 al) (.int .i64 ah) 36
      go_wp2_with fail
      refine (HP.out _).mono ?_
      rintro e w1 ⟨rfl, gg⟩
      replace X1 := Lib.hid (bel_trans X1.out gg); clear gg
      go_wp2
      go_roundw
      case rel => exact ⟨k + 1, by omega, by go_num, by rw [eA1.out], X1⟩
      case measure => simp [intOf]; omega
    · obtain rfl : k = n := by omega
      go_wp2
      go_returns
      exact ⟨rfl, hB.out⟩
theorem foldB_nil (a : Option Addr) (cap : Nat) (f : Value) (w : World) :
    Calls Tryd.prog 79 #[.slice a 0 cap, .bool true, f] w fun e w' => e = .returned (.bool true) ∧ Below w.heap.size w w' := by
  go_enter Tryd.func79, Tryd.ntmps79
  go_wp2_with fail
  go_loopw [1, 11] (fun bb ii wr => bb = .bool true ∧ ii = .int .i64 0 ∧ Hid (Below w.heap.size w wr)) (fun _ _ _ => 0)
  case atStart => exact ⟨rfl, rfl, Lib.hid (Below.refl _ _)⟩
  case round =>
    obtain ⟨rfl, rfl, hB⟩ := hrel
    go_wp2
    go_returns
    exact ⟨rfl, hB.out⟩
/-- the first error of a list of reports -/
def glE (l : List Rp) : Int := if 64 < l.length then 8 else if alB l l.length = false then 1 else 0
theorem gchk_core (a : Option Addr) (n cap : Nat) (B : Bool) (E : Int) (w : World) (hE : (64 < n ∧ n ≤ 9223372036854775807 ∧ E = 8) ∨ (¬ 64 < n ∧ B = false ∧ E = 1) ∨ (¬ 64 < n ∧ B = true ∧ E = 0))
    (H1 : Hid (¬ 64 < n → ∀ W, Below w.heap.size w W → Calls Tryd.prog 79 #[.slice a n cap, .bool true, .func (.func 80) #[] #[]] W fun e w' => e = .returned (.bool B) ∧ Below W.heap.size W w')) :
    Calls Tryd.prog 53 #[.slice a n cap] w fun e w' => e = .returned (.int .i64 E) ∧ Below w.heap.size w w' := by
  have X0 := Lib.hid (Below.refl w.heap.size w)
  by_cases g : 64 < n
  · have d : decide (64 < (n : Int)) = true := decide_eq_true (by omega)
    have eE : E = 8 := by
      rcases hE with ⟨_, _, h⟩ | ⟨h, _⟩ | ⟨h, _⟩
      · exact h
      · exact absurd g h
      · exact absurd g h
    subst eE
    go_enter Tryd.func53, Tryd.ntmps53
    go_wp2
    go_returns
    exact ⟨rfl, X0.out⟩
  · have d : decide (64 < (n : Int)) = false := decide_eq_false (by omega)
    replace H1 := Lib.hid (H1.out g)
    go_enter Tryd.func53, Tryd.ntmps53
    go_wp2_with fail
    refine (H1.out _ X0.out).mono ?_
    rintro e w1 ⟨rfl, gg⟩
    replace X0 := Lib.hid gg; clear gg
    rcases hE with ⟨h, _⟩ | ⟨_, rfl, rfl⟩ | ⟨_, rfl, rfl⟩
    · exact absurd h g
    all_goals
      go_wp2
      go_returns
      exact ⟨rfl, X0.out⟩
theorem gchk_any (v : Value) (l : List Rp) (w : World) (hv : Rps w v l) :
    Calls Tryd.prog 53 #[v] w fun e w' => e = .returned (.int .i64 (glE l)) ∧ Below w.heap.size w w' := by
  obtain ⟨a, cap, rfl, ⟨hc1, hc2⟩, hh⟩ := hv
  refine gchk_core a _ cap (alB l l.length) _ w ?_ (Lib.hid fun g W hW => ?_)
  · by_cases g : 64 < l.length
    · left; exact ⟨g, by omega, by unfold glE; rw [if_pos g]⟩
    · right
      cases q : alB l l.length with
      | false => left; exact ⟨g, rfl, by unfold glE; rw [if_neg g, if_pos q]⟩
      | true => right; exact ⟨g, rfl, by unfold glE; rw [if_neg g, if_neg (by rw [q]; simp)]⟩
  · rcases hh with h0 | ⟨b, off, rfl, hb, hc⟩
    · rw [h0]
      exact foldB_nil a cap _ W
    · exact foldB_some b off _ cap l W (by omega) (Nat.lt_of_lt_of_le hb hW.size) (Lib.hid fun j hj => (hc j hj).below hW)
end Go.Proofs.YtdpkochkpcjioabDoor

