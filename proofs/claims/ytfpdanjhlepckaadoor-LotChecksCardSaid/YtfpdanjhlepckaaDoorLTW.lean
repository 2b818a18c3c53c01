/- Package lot: the example. -/
import Derived.Test.YtfpdanjhlepckaaDoorLTP
namespace Go.Proofs.YtfpdanjhlepckaaDoor
open Go.RowKit

def lwS : List (Int × Int) := [(2, 10), (5, 20)]
def lwT : List (Int × Int) := [(2, 10), (5, 21)]
def lwX : List Lt := [⟨7, 30, 100, lwS⟩]
def lwY : List Lt := [⟨7, 30, 100, lwT⟩]
theorem lw_txt : ptS lwX = [108, 111, 116, 32, 55, 32, 109, 97, 115, 115, 32, 49, 48, 48, 32, 102, 105, 108, 108, 32, 50, 32, 97, 108, 99, 111, 104, 111, 108, 32, 49, 48, 32, 102, 105, 108, 108, 32, 53, 32, 97, 108, 99, 111, 104, 111, 108, 32, 50, 48, 10] ∧ ptE lwX = 0 := by decide +kernel
theorem lw_of : ofV lwX 5 = 20 ∧ ofE lwX 5 = 0 := by decide +kernel
theorem lw_ch : ltI lwY = 0 ∧ ltE lwY = 14 := by decide +kernel
theorem lw_sh (l : List Lt) (h : l = lwX ∨ l = lwY) : ∀ j, j < l.length → (gL l j).sh.length ≤ 1000 := by
  rintro j hj
  rcases h with rfl | rfl
  · obtain rfl : j = 0 := by simp [lwX] at hj; omega
    decide
  · obtain rfl : j = 0 := by simp [lwY] at hj; omega
    decide
/-- one lot with two shares, in blocks of its own -/
structure Ex (W : World) (p q : Nat) (x : Int) : Prop where
  s0 : W.cell? ⟨p, 0, none⟩ = some (.int .i64 2)
  s1 : W.cell? ⟨p, 1, none⟩ = some (.int .i64 10)
  s2 : W.cell? ⟨p, 2, none⟩ = some (.int .i64 5)
  s3 : W.cell? ⟨p, 3, none⟩ = some (.int .i64 x)
  fz : W.frozen? ⟨p, 3, none⟩ = false
  c0 : W.cell? ⟨q, 0, none⟩ = some (.int .i64 7)
  c1 : W.cell? ⟨q, 1, none⟩ = some (.int .i64 30)
  c2 : W.cell? ⟨q, 2, none⟩ = some (.int .i64 100)
  c3 : W.cell? ⟨q, 3, none⟩ = some (.slice (some ⟨p, 0, none⟩) 2 2)
  lp : p < W.heap.size
  lq : q < W.heap.size
theorem Ex.below {W W' : World} {p q : Nat} {x : Int} (h : Ex W p q x) (hb : Below W.heap.size W W') : Ex W' p q x := by
  obtain ⟨h0, h1, h2, h3, h4, h5, h6, h7, h8, h9, h10⟩ := h
  exact ⟨by rw [(bcell hb).1 _ _ h9]; exact h0, by rw [(bcell hb).1 _ _ h9]; exact h1, by rw [(bcell hb).1 _ _ h9]; exact h2, by rw [(bcell hb).1 _ _ h9]; exact h3, by rw [(bcell hb).2 _ _ h9]; exact h4, by rw [(bcell hb).1 _ _ h10]; exact h5, by rw [(bcell hb).1 _ _ h10]; exact h6, by rw [(bcell hb).1 _ _ h10]; exact h7, by rw [(bcell hb).1 _ _ h10]; exact h8, Nat.lt_of_lt_of_le h9 hb.size, Nat.lt_of_lt_of_le h10 hb.size⟩
theorem Ex.pts {W : World} {p q : Nat} {x : Int} (h : Ex W p q x) : Pts W (.slice (some ⟨p, 0, none⟩) 2 2) [(2, 10), (5, x)] := by
  refine ⟨_, _, rfl, by simp, .inr ⟨p, 0, rfl, h.lp, fun j hj => ?_⟩⟩
  rcases j with _ | _ | j
  · exact ⟨h.s0, h.s1⟩
  · exact ⟨h.s2, h.s3⟩
  · simp at hj; omega
theorem Ex.lts {W : World} {p q : Nat} {x : Int} (h : Ex W p q x) : Lts W (.slice (some ⟨q, 0, none⟩) 1 1) [⟨7, 30, 100, [(2, 10), (5, x)]⟩] := by
  refine ⟨_, _, rfl, by simp, .inr ⟨q, 0, rfl, h.lq, fun j hj => ?_⟩⟩
  obtain rfl : j = 0 := by simp at hj; omega
  exact ⟨_, 2, h.c0, h.c1, h.c2, h.c3, h.pts⟩
theorem Ex.set {W : World} {p q : Nat} {x : Int} (h : Ex W p q x) (hn : p ≠ q) (y : Int) : Ex (W.setCell ⟨p, 3, none⟩ (.int .i64 y)) p q y := by
  obtain ⟨h0, h1, h2, h3, h4, h5, h6, h7, h8, h9, h10⟩ := h
  have o : ∀ (b i : Nat), (b ≠ p ∨ i ≠ 3) → (W.setCell ⟨p, 3, none⟩ (.int .i64 y)).cell? ⟨b, i, none⟩ = W.cell? ⟨b, i, none⟩ := fun b i hb => World.cell?_setCell_other _ _ _ _ (by simp; omega)
  refine ⟨by rw [o _ _ (by omega)]; exact h0, by rw [o _ _ (by omega)]; exact h1, by rw [o _ _ (by omega)]; exact h2, World.cell?_setCell_same _ _ _ h3, by rw [World.frozen?_setCell]; exact h4, by rw [o _ _ (by omega)]; exact h5, by rw [o _ _ (by omega)]; exact h6, by rw [o _ _ (by omega)]; exact h7, by rw [o _ _ (by omega)]; exact h8, by simpa [World.setCell] using h9, by simpa [World.setCell] using h10⟩
theorem Ex.new (w : World) : Ex ((w.alloc (.cells #[.int .i64 2, .int .i64 10, .int .i64 5, .int .i64 20] 52)).alloc (.cells #[.int .i64 7, .int .i64 30, .int .i64 100, .slice (some ⟨w.heap.size, 0, none⟩) 2 2] 32)) w.heap.size (w.heap.size + 1) 20 := by
  refine ⟨?_, ?_, ?_, ?_, ?_, ?_, ?_, ?_, ?_, ?_, ?_⟩ <;> simp [go_sem]
set_option maxHeartbeats 32000000 in
set_option maxRecDepth 100000 in
theorem awakeL_any (w : World) (hw : CV w) : Calls Tryd.prog 10 #[] w fun e w' => e = .returned (.bool true) ∧ Below w.heap.size w w' := by
  have EX := Lib.hid (Ex.new w)
  have X : Hid (Below w.heap.size w ((w.alloc (.cells #[.int .i64 2, .int .i64 10, .int .i64 5, .int .i64 20] 52)).alloc (.cells #[.int .i64 7, .int .i64 30, .int .i64 100, .slice (some ⟨w.heap.size, 0, none⟩) 2 2] 32))) := Lib.hid (bel_alloc (bel_alloc (Below.refl _ _)))
  have HW := Lib.hid (hw.below X.out)
  have C1 := Lib.hid (fun W (h : CV W) g => ltPr_any (.slice (some ⟨w.heap.size + 1, 0, none⟩) 1 1) lwX W h g (lw_sh _ (.inl rfl)))
  have C2 := Lib.hid (fun W g => ltOf_any (.slice (some ⟨w.heap.size + 1, 0, none⟩) 1 1) lwX 5 W g (lw_sh _ (.inl rfl)))
  have C3 := Lib.hid (fun W g => ltCh_any (.slice (some ⟨w.heap.size + 1, 0, none⟩) 1 1) lwY W g (lw_sh _ (.inr rfl)))
  rw [lw_txt.1, lw_txt.2] at C1
  change Hid (∀ W, CV W → Lts W (.slice (some ⟨w.heap.size + 1, 0, none⟩) 1 1) lwX → Calls Tryd.prog 25 #[.slice (some ⟨w.heap.size + 1, 0, none⟩) 1 1] W fun e w' => e = .returned (.tuple #[.string ⟨#[108, 111, 116, 32, 55, 32, 109, 97, 115, 115, 32, 49, 48, 48, 32, 102, 105, 108, 108, 32, 50, 32, 97, 108, 99, 111, 104, 111, 108, 32, 49, 48, 32, 102, 105, 108, 108, 32, 53, 32, 97, 108, 99, 111, 104, 111, 108, 32, 50, 48, 10]⟩, .int .i64 0]) ∧ Below W.heap.size W w') at C1
  have qs : ∀ W, (binOp .eql 9 (.string ⟨#[108, 111, 116, 32, 55, 32, 109, 97, 115, 115, 32, 49, 48, 48, 32, 102, 105, 108, 108, 32, 50, 32, 97, 108, 99, 111, 104, 111, 108, 32, 49, 48, 32, 102, 105, 108, 108, 32, 53, 32, 97, 108, 99, 111, 104, 111, 108, 32, 50, 48, 10]⟩) (.string ⟨#[108, 111, 116, 32, 55, 32, 109, 97, 115, 115, 32, 49, 48, 48, 32, 102, 105, 108, 108, 32, 50, 32, 97, 108, 99, 111, 104, 111, 108, 32, 49, 48, 32, 102, 105, 108, 108, 32, 53, 32, 97, 108, 99, 111, 104, 111, 108, 32, 50, 48, 10]⟩)).run Tryd.prog W = .ok (.bool true) W := fun W => by kernel_rfl
  rw [lw_of.1, lw_of.2] at C2
  rw [lw_ch.1, lw_ch.2] at C3
  clear hw
  go_enter Tryd.func10, Tryd.ntmps10
  go_wp2_with fail
  refine (C1.out _ HW.out EX.out.lts).mono ?_
  rintro e w1 ⟨rfl, h1⟩
  replace EX := Lib.hid (EX.out.below h1)
  replace X := Lib.hid (bel_trans X.out h1)
  clear h1 HW C1
  go_wp2_with fail
  refine (C2.out _ EX.out.lts).mono ?_
  rintro e w2 ⟨rfl, h1⟩
  replace EX := Lib.hid (EX.out.below h1)
  replace X := Lib.hid (bel_trans X.out h1)
  clear h1 C2
  obtain ⟨h0, h1, h2, h3, h4, h5, h6, h7, h8, h9, h10⟩ := EX.out
  have E2 := Lib.hid (EX.out.set (by omega) 21)
  have X2 := Lib.hid (X.out.setCell (p := ⟨w.heap.size, 3, none⟩) (Nat.le_refl _) (.int .i64 21))
  clear EX X
  go_wp2_with fail
  refine (C3.out _ E2.out.lts).mono ?_
  rintro e w3 ⟨rfl, h1⟩
  replace X2 := Lib.hid (bel_trans X2.out h1)
  clear h1 C3 E2
  go_wp2
  go_returns
  exact ⟨rfl, X2.out⟩
end Go.Proofs.YtfpdanjhlepckaaDoor

