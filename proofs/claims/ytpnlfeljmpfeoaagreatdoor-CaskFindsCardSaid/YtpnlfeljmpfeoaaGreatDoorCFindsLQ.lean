/-
  The statement CaskFinds of spile/spilelaw09 holds: for every input the call returns true, and each argument reads afterwards as it read before. (The listed package variables hold what the program lays: the card ties them.)
-/
import Derived.Test.YtpnlfeljmpfeoaaGreatDoorM4
import Derived.FnLit
import Derived.StillTailTactics
import Derived.Deep.RegionHeld3
import Derived.Deep.DeepCutAuto
import Derived.Test.YtpnlfeljmpfeoaaGreatDoorCards
import Derived.Test.YtpnlfeljmpfeoaaGreatDoorTie
import Derived.Below
import Derived.Carry
import Derived.Lib.LaidTab
import Derived.Deep.DeepHandedRow
import Derived.SevenTiedPlain
import Derived.Lay

set_option linter.unusedVariables false
set_option linter.unusedSimpArgs false

namespace Go.Proofs.YtpnlfeljmpfeoaaGreatDoor
open Go.RowKit

theorem two_put {b : Nat} {W : World} {x y : Value} (h : Two b W x y) (u v : Value) : Two b ((W.setCell ⟨b, 0, none⟩ u).setCell ⟨b, 1, none⟩ v) u v := by
  obtain ⟨h0, h1, h2, h3, h4⟩ := h
  obtain ⟨r0, r1⟩ := two_read W b u v h0 h1
  exact ⟨r0, r1, by rw [World.frozen?_setCell, World.frozen?_setCell]; exact h2, by rw [World.frozen?_setCell, World.frozen?_setCell]; exact h3, by simpa [World.setCell] using h4⟩
theorem cmpR_any (x r y s : Int) (w : World) (h : IntKind.i64.wrap (r - s) = r - s) :
    Calls Tryz.prog 28 #[.agg #[.int .i64 x, .int .i64 r], .agg #[.int .i64 y, .int .i64 s]] w fun e w' => e = .returned (.int .i64 (r - s)) ∧ Below w.heap.size w w' := by
  go_enter Tryz.func28, Tryz.ntmps28
  go_wp2
  go_ret
  exact ⟨rfl, bel_alloc (bel_alloc (Below.refl _ _))⟩
set_option maxRecDepth 100000 in
set_option maxHeartbeats 8000000 in
theorem maxP_any (b off n cap : Nat) (l : List (Int × Int)) (w : World) (n0 : 0 < n) (n1 : n ≤ 1000) (hb : b < w.heap.size)
    (hr : Hid (∀ i, i < n → 1 ≤ gR l i ∧ gR l i ≤ 100000))
    (hc : Hid (∀ j, j < n → w.cell? ⟨b, off + j * 2, none⟩ = some (.int .i64 (gX l j)) ∧ w.cell? ⟨b, off + j * 2 + 1, none⟩ = some (.int .i64 (gR l j)))) :
    Calls Tryz.prog 27 #[.slice (some ⟨b, off, none⟩) n cap, .func (.func 28) #[] #[]] w fun e w' => e = .returned (.agg #[.int .i64 (gX l (bg l n)), .int .i64 (gR l (bg l n))]) ∧ Below w.heap.size w w' := by
  have k0 := hc.out 0 n0
  simp only [Nat.zero_mul, Nat.add_zero] at k0
  obtain ⟨c0, c1⟩ := k0
  have e1 : bg l 1 = 0 := by show (if gR l 0 < gR l 0 then 0 else 0) = 0; simp
  have l1 : ¬ (n : Int) < 1 := by omega
  go_enter Tryz.func27, Tryz.ntmps27
  go_wp2_with fail
  go_loopw [6] (fun i wr => ∃ k : Nat, 1 ≤ k ∧ k ≤ n ∧ i = .int .i64 k ∧ Hid (Below w.heap.size w wr) ∧ Hid (Two w.heap.size wr (.int .i64 0) (.int .i64 0)) ∧ Hid (Two (w.heap.size + 1) wr (.int .i64 (gX l (bg l k))) (.int .i64 (gR l (bg l k))))) (fun i _ => n - (intOf i).toNat)
  case atStart =>
    refine ⟨1, by omega, by omega, rfl, Lib.hid (bel_alloc (bel_alloc (Below.refl _ _))), Lib.hid ((Two.new _ _ _ _).alloc _), Lib.hid ?_⟩
    rw [e1]
    have := Two.new (w.alloc (.cells #[.int .i64 0, .int .i64 0] 46)) (.int .i64 (gX l 0)) (.int .i64 (gR l 0)) 46
    simpa using this
  case round =>
    obtain ⟨k, hk1, hk, rfl, hB, hT0, hT1⟩ := hrel
    clear c0 c1
    by_cases hlt : k < n
    · have c0 : wr.cell? ⟨b, off + k * 2, none⟩ = some (.int .i64 (gX l k)) := by rw [(bcell hB.out).1 _ _ hb]; exact (hc.out k hlt).1
      have c1 : wr.cell? ⟨b, off + k * 2 + 1, none⟩ = some (.int .i64 (gR l k)) := by rw [(bcell hB.out).1 _ _ hb]; exact (hc.out k hlt).2
      have r0 := hr.out k hlt
      have r1 := hr.out (bg l k) (by rcases bg_lt l k with h | h <;> omega)
      have l2 : (k : Int) < (n : Int) := by omega
      have HP := Lib.hid (fun W => cmpR_any (gX l k) (gR l k) (gX l (bg l k)) (gR l (bg l k)) W (wrap_in _ ⟨by omega, by omega⟩))
      have eb : Hid (bg l (k + 1) = if gR l (bg l k) < gR l k then k else bg l k) := Lib.hid rfl
      obtain ⟨m0, m1, _, _, hm⟩ := hT1.out
      have A0 : Hid (Below w.heap.size w wr.drew ∧ Two w.heap.size wr.drew (.int .i64 0) (.int .i64 0) ∧ Two (w.heap.size + 1) wr.drew (.int .i64 (gX l (bg l k))) (.int .i64 (gR l (bg l k)))) := Lib.hid ⟨bel_trans hB.out (bel_drew _), hT0.out.below (bel_drew _), hT1.out.below (bel_drew _)⟩
      by_cases hg : gR l (bg l k) < gR l k
      · replace eb : Hid (bg l (k + 1) = k) := Lib.hid (by rw [eb.out, if_pos hg])
        have hpos : 0 < gR l k - gR l (bg l k) := by omega
        generalize hX : gX l k = x at *
        generalize hR : gR l k = r at *
        generalize gX l (bg l k) = y at *
        generalize gR l (bg l k) = s at *
        generalize hd : r - s = d at *
        have hX := Lib.hid hX
        have hR := Lib.hid hR
        go_wp2_with fail
        go_region_held3 (fun w' => w'.cell? ⟨w.heap.size + 1, 0, none⟩ = some (.int .i64 y) ∧ w'.cell? ⟨w.heap.size + 1, 1, none⟩ = some (.int .i64 s) ∧ w'.cell? ⟨b, off + k * 2, none⟩ = some (.int .i64 x) ∧ w'.cell? ⟨b, off + k * 2 + 1, none⟩ = some (.int .i64 r)) (go_keep)
          (first | (go_at_call 28; (with_reducible refine (HP.out _).mono ?_); rintro e w2 ⟨rfl, gg⟩; have A2 := Lib.hid (And.intro (bel_trans A0.out.1 gg) (And.intro (A0.out.2.1.below gg) (A0.out.2.2.below gg))); have d0 := cell_bel (w := wr.drew) c0 gg; have d1 := cell_bel (w := wr.drew) c1 gg; have d2 := cell_bel (w := wr.drew) m0 gg; have d3 := cell_bel (w := wr.drew) m1 gg; clear gg))
        obtain ⟨_, _, f0, f1, hm2⟩ := A2.out.2.2
        go_wp2
        go_roundw
        case rel =>
          refine ⟨k + 1, by omega, by omega, by go_num, Lib.hid ((A2.out.1.setCell (Nat.le_succ _) _).setCell (Nat.le_succ _) _), Lib.hid ((A2.out.2.1.other _ (by simp) _).other _ (by simp) _), Lib.hid ?_⟩
          rw [eb.out, hX.out, hR.out]
          exact two_put A2.out.2.2 _ _
        case measure => simp [intOf]; omega
      · replace eb : Hid (bg l (k + 1) = bg l k) := Lib.hid (by rw [eb.out, if_neg hg])
        have hpos : ¬ 0 < gR l k - gR l (bg l k) := by omega
        generalize hX : gX l k = x at *
        generalize hR : gR l k = r at *
        generalize hY : gX l (bg l k) = y at *
        generalize hS : gR l (bg l k) = s at *
        generalize hd : r - s = d at *
        have hX := Lib.hid hX
        have hR := Lib.hid hR
        have hY := Lib.hid hY
        have hS := Lib.hid hS
        go_wp2_with fail
        go_region_held3 (fun w' => w'.cell? ⟨w.heap.size + 1, 0, none⟩ = some (.int .i64 y) ∧ w'.cell? ⟨w.heap.size + 1, 1, none⟩ = some (.int .i64 s) ∧ w'.cell? ⟨b, off + k * 2, none⟩ = some (.int .i64 x) ∧ w'.cell? ⟨b, off + k * 2 + 1, none⟩ = some (.int .i64 r)) (go_keep)
          (first | (go_at_call 28; (with_reducible refine (HP.out _).mono ?_); rintro e w2 ⟨rfl, gg⟩; have A2 := Lib.hid (And.intro (bel_trans A0.out.1 gg) (And.intro (A0.out.2.1.below gg) (A0.out.2.2.below gg))); have d0 := cell_bel (w := wr.drew) c0 gg; have d1 := cell_bel (w := wr.drew) c1 gg; have d2 := cell_bel (w := wr.drew) m0 gg; have d3 := cell_bel (w := wr.drew) m1 gg; clear gg))
        obtain ⟨_, _, f0, f1, hm2⟩ := A2.out.2.2
        go_wp2
        go_roundw
        case rel =>
          refine ⟨k + 1, by omega, by omega, by go_num, Lib.hid A2.out.1, Lib.hid A2.out.2.1, Lib.hid ?_⟩
          rw [eb.out, hY.out, hS.out]
          exact A2.out.2.2
        case measure => simp [intOf]; omega
    · obtain rfl : k = n := by omega
      obtain ⟨m0, m1, _, _, hm⟩ := hT1.out
      obtain ⟨q0, q1, qf0, qf1, hq⟩ := hT0.out
      go_wp2
      obtain ⟨t0, t1⟩ := two_read wr w.heap.size (.int .i64 (gX l (bg l k))) (.int .i64 (gR l (bg l k))) q0 q1
      refine bodyPost_ret (v := .agg #[.int .i64 (gX l (bg l k)), .int .i64 (gR l (bg l k))]) (by simp [results, Tryz.results27, go_sem, t0, t1]) rfl ?_
      exact ⟨rfl, (hB.out.setCell (Nat.le_refl _) _).setCell (Nat.le_refl _) _⟩
end Go.Proofs.YtpnlfeljmpfeoaaGreatDoor

namespace Go.Proofs.YtpnlfeljmpfeoaaGreatDoor
open Go.RowKit

set_option maxHeartbeats 4000000 in
theorem hasN_any (s nm : ByteArray) (ps dc : Int) (v : Value) (q : Nat) (w : World) (h : w.cell? ⟨q, 0, none⟩ = some (.string nm)) (hq : q < w.heap.size) :
    Calls Tryz.prog 30 #[.agg #[.string s, .int .i64 ps, v, .int .i64 dc], .pointer (some ⟨q, 0, none⟩)] w fun e w' => e = .returned (.bool (s.toList == nm.toList)) ∧ Below w.heap.size w w' := by
  have c0 : ∀ o, (w.alloc o).cell? ⟨q, 0, none⟩ = some (.string nm) := fun o => by rw [World.cell?_alloc_lt w o _ hq]; exact h
  go_enter Tryz.func30, Tryz.ntmps30
  go_wp2
  go_ret
  exact ⟨rfl, bel_alloc (Below.refl _ _)⟩
set_option maxRecDepth 100000 in
set_option maxHeartbeats 8000000 in
theorem index_n (nm : ByteArray) (q : Nat) (b off n cap : Nat) (l : List Ck) (B : Bool) (w : World) (n1 : n ≤ 1000) (hn : Hid (n = l.length)) (hb : b < w.heap.size)
    (hq : q < w.heap.size) (hx : Hid (w.cell? ⟨q, 0, none⟩ = some (.string nm)))
    (hc : Hid (∀ j (hj : j < l.length), CkAt w b off j l[j]))
    (h1 : Hid ((∃ j, ∃ hj : j < l.length, (l[j].nm.toList == nm.toList) = true) → B = true)) (h2 : Hid ((∀ j (hj : j < l.length), (l[j].nm.toList == nm.toList) = false) → B = false)) :
    Calls Tryz.prog 56 #[.slice (some ⟨b, off, none⟩) n cap, .func (.func 30) #[] #[.pointer (some ⟨q, 0, none⟩)]] w fun e w' => ∃ k : Int, e = .returned (.int .i64 k) ∧ decide (0 ≤ k) = B ∧ Below w.heap.size w w' := by
  go_enter Tryz.func56, Tryz.ntmps56
  go_wp2_with fail
  go_loopw [5, 8] (fun _ i wr => ∃ k : Nat, k ≤ n ∧ i = .int .i64 k ∧ Hid (Below w.heap.size w wr) ∧ Hid (∀ j (hj : j < l.length), j < k → (l[j].nm.toList == nm.toList) = false)) (fun _ i _ => n - (intOf i).toNat)
  case atStart => exact ⟨0, Nat.zero_le _, rfl, Below.refl _ _, fun j _ hj => by omega⟩
  case round =>
    obtain ⟨k, hk, rfl, hB, ha⟩ := hrel
    by_cases hlt : k < n
    · have hkl : k < l.length := by rw [← hn.out]; exact hlt
      obtain ⟨a, cp, c0, c1, c2, c3, _⟩ := (hc.out k hkl).below hb hB.out
      have HP : Hid (∀ W, Below wr.heap.size wr W → Calls Tryz.prog 30 #[.agg #[.string l[k].nm, .int .i64 l[k].ps, .slice a l[k].pf.length cp, .int .i64 l[k].dc], .pointer (some ⟨q, 0, none⟩)] W fun e w' => e = .returned (.bool (l[k].nm.toList == nm.toList)) ∧ Below W.heap.size W w') := fun W hW => by
        have hW2 := bel_trans hB.out hW
        exact hasN_any _ nm _ _ _ q W (by rw [(bcell hW2).1 _ _ hq]; exact hx.out) (Nat.lt_of_lt_of_le hq hW2.size)
      obtain ⟨Q, hp⟩ : ∃ Q, (l[k].nm.toList == nm.toList) = Q := ⟨_, rfl⟩
      rw [hp] at HP
      have hkl := Lib.hid hkl
      cases Q with
      | true =>
        have hBt := h1.out ⟨k, hkl.out, hp⟩
        clear hp
        generalize l[k] = d at *
        go_wp2_with fail
        refine (HP.out _ (by first | exact Below.refl _ _ | exact bel_alloc (Below.refl _ _) | exact bel_drew _ | exact bel_alloc (bel_alloc (Below.refl _ _)))).mono ?_
        rintro e w2 ⟨rfl, gg⟩
        have X := Lib.hid (bel_trans hB.out gg); clear gg
        go_wp2
        go_returns
        exact ⟨k, rfl, by rw [hBt]; simp, X.out⟩
      | false =>
        have ha2 : Hid (∀ j (hj : j < l.length), j < k + 1 → (l[j].nm.toList == nm.toList) = false) := fun j hj hj2 => by
          by_cases e : j = k
          · subst e; exact hp
          · exact ha.out j hj (by omega)
        clear hp ha
        generalize l[k] = d at c0 c1 c2 c3 HP
        go_wp2_with fail
        refine (HP.out _ (by first | exact Below.refl _ _ | exact bel_alloc (Below.refl _ _) | exact bel_drew _ | exact bel_alloc (bel_alloc (Below.refl _ _)))).mono ?_
        rintro e w2 ⟨rfl, gg⟩
        have X := Lib.hid (bel_trans hB.out gg); clear gg
        go_wp2
        go_roundw
        case rel => exact ⟨k + 1, by omega, by go_num, X, ha2⟩
        case measure => simp [intOf]; omega
    · obtain rfl : k = n := by omega
      have hBf := h2.out (fun j hj => ha.out j hj (by rw [hn.out]; exact hj))
      go_wp2
      go_returns
      exact ⟨-1, rfl, by rw [hBf]; simp, hB.out⟩
theorem index_0 (nm : ByteArray) (q : Nat) (a : Option Addr) (cap : Nat) (w : World) :
    Calls Tryz.prog 56 #[.slice a 0 cap, .func (.func 30) #[] #[.pointer (some ⟨q, 0, none⟩)]] w fun e w' => ∃ k : Int, e = .returned (.int .i64 k) ∧ decide (0 ≤ k) = false ∧ Below w.heap.size w w' := by
  go_enter Tryz.func56, Tryz.ntmps56
  go_wp2_with fail
  go_loopw [5, 8] (fun _ i wr => i = .int .i64 0 ∧ wr = w) (fun _ _ _ => 0)
  case atStart => exact ⟨rfl, rfl⟩
  case round =>
    obtain ⟨rfl, rfl⟩ := hrel
    go_wp2
    go_returns
    exact ⟨-1, rfl, by simp, Below.refl _ _⟩
/-- a cask of this name is in the list -/
def hasN (l : List Ck) (nm : ByteArray) : Bool := l.any (fun c => c.nm.toList == nm.toList)
theorem contains_n (nm : ByteArray) (q : Nat) (v : Value) (l : List Ck) (w : World) (hv : Cks w v l) (n1 : l.length ≤ 1000)
    (hq : q < w.heap.size) (hx : w.cell? ⟨q, 0, none⟩ = some (.string nm)) :
    Calls Tryz.prog 29 #[v, .func (.func 30) #[] #[.pointer (some ⟨q, 0, none⟩)]] w fun e w' => e = .returned (.bool (hasN l nm)) ∧ Below w.heap.size w w' := by
  have HI : ∃ a cap, v = .slice a l.length cap ∧ Calls Tryz.prog 56 #[v, .func (.func 30) #[] #[.pointer (some ⟨q, 0, none⟩)]] w fun e w' => ∃ k : Int, e = .returned (.int .i64 k) ∧ decide (0 ≤ k) = hasN l nm ∧ Below w.heap.size w w' := by
    by_cases h0 : 0 < l.length
    · obtain ⟨b, off, cap, rfl, hb, _, hc⟩ := hv.cks h0
      refine ⟨_, cap, rfl, index_n nm q b off l.length cap l (hasN l nm) w n1 (Lib.hid rfl) hb hq (Lib.hid hx) (Lib.hid hc) (Lib.hid ?_) (Lib.hid ?_)⟩
      · rintro ⟨j, hj, e⟩
        exact List.any_eq_true.2 ⟨_, List.getElem_mem hj, e⟩
      · intro h
        refine List.any_eq_false.2 fun c hc => ?_
        obtain ⟨j, hj, rfl⟩ := List.getElem_of_mem hc
        rw [h j hj]; simp
    · obtain ⟨a, cap, rfl, _⟩ := hv
      have hl : l = [] := List.length_eq_zero_iff.1 (by omega)
      subst hl
      exact ⟨a, cap, rfl, index_0 nm q a cap w⟩
  obtain ⟨a, cap, rfl, HI⟩ := HI
  replace HI := Lib.hid HI
  generalize hasN l nm = B at *
  generalize l.length = n at *
  clear hx hv
  go_enter Tryz.func29, Tryz.ntmps29
  go_wp2_with fail
  refine HI.out.mono ?_
  rintro e w1 ⟨k, rfl, hk, hb⟩
  have HB := Lib.hid hb; clear hb
  subst hk
  go_wp2
  all_goals
    go_ret
    exact ⟨by simp_all, HB.out⟩
end Go.Proofs.YtpnlfeljmpfeoaaGreatDoor

namespace Go.Proofs.YtpnlfeljmpfeoaaGreatDoor
open Go.RowKit

theorem find_self {l : List Ck} (h : liE l = 0) {j : Nat} (hj : j < l.length) : fiE l l[j].nm = 0 ∧ fiC l l[j].nm = l[j] := by
  unfold fiE fiC
  rw [if_pos h, if_pos ⟨_, List.getElem_mem hj, by rw [nm_beq, decide_eq_true_eq]⟩, if_pos h, find_last (liE_dup h) hj rfl]
  exact ⟨rfl, rfl⟩
theorem find_has {l : List Ck} (h : liE l = 0) (nm : ByteArray) : (hasN l nm = true → fiE l nm = 0) ∧ (hasN l nm = false → fiE l nm = 7 ∧ fiC l nm = zCk) := by
  unfold fiE fiC hasN
  rw [if_pos h, if_pos h]
  constructor
  · intro hb
    rw [List.any_eq_true] at hb
    rw [if_pos hb]
  · intro hb
    rw [List.any_eq_false] at hb
    rw [if_neg (by rintro ⟨c, hc, e⟩; exact hb c hc e), List.find?_eq_none.2 (fun c hc => hb c hc)]
    exact ⟨rfl, rfl⟩
theorem find_len {l : List Ck} (h : liE l = 0) (nm : ByteArray) : (fiC l nm).pf.length = 0 ∨ 2 ≤ (fiC l nm).pf.length := by
  unfold fiC
  rw [if_pos h]
  cases e : l.find? (fun c => c.nm.toList == nm.toList) with
  | none => exact .inl rfl
  | some c => exact .inr (ccE_pf ((liE_len h).2 c (List.mem_of_find?_eq_some e))).2.2.2.n0
theorem deep_is {c : Ck} (h : ccE c = 0) : 2 ≤ c.pf.length ∧ c.pf.length ≤ 32 ∧ (c.ps = 1 ∨ c.ps = 2) ∧ (1 ≤ gR c.pf (bg c.pf c.pf.length) ∧ gR c.pf (bg c.pf c.pf.length) ≤ 100000) ∧ deQ c = if c.ps = 1 then 2 * gR c.pf (bg c.pf c.pf.length) else gX c.pf (c.pf.length - 1) := by
  obtain ⟨_, hps, _, hR⟩ := ccE_pf h
  have n0 := hR.n0
  have hl : bg c.pf c.pf.length < c.pf.length := by have := bg_lt c.pf c.pf.length; omega
  refine ⟨n0, hR.n1, hps, hR.br _ hl, ?_⟩
  unfold deQ brQ
  rw [if_pos h]
/-- the greatest point of a right cask's profile -/
theorem max_any {c : Ck} (h : ccE c = 0) (a : Option Addr) (cap : Nat) (W : World) (hp : Pts W (.slice a c.pf.length cap) c.pf) :
    Calls Tryz.prog 27 #[.slice a c.pf.length cap, .func (.func 28) #[] #[]] W fun e w' => e = .returned (.agg #[.int .i64 (gX c.pf (bg c.pf c.pf.length)), .int .i64 (gR c.pf (bg c.pf c.pf.length))]) ∧ Below W.heap.size W w' := by
  obtain ⟨_, _, _, hR⟩ := ccE_pf h
  have n0 := hR.n0
  have n1 := hR.n1
  obtain ⟨b, off, rfl, hb, hc⟩ := hp.at (by omega)
  exact maxP_any b off _ cap c.pf W (by omega) (by omega) hb (Lib.hid hR.br) (Lib.hid hc)
/-- what the walk of CaskFinds keeps: the argument, the copy, the name's box -/
def GS (w : World) (v u : Value) (l : List Ck) (nm : ByteArray) (W : World) : Prop :=
  Below w.heap.size w W ∧ Cks W v l ∧ Cks W u l ∧ W.cell? ⟨w.heap.size, 0, none⟩ = some (.string nm) ∧ w.heap.size < W.heap.size
theorem GS.below {w : World} {v u : Value} {l : List Ck} {nm : ByteArray} {W W' : World} (h : GS w v u l nm W) (hb : Below W.heap.size W W') : GS w v u l nm W' := by
  obtain ⟨h1, h2, h3, h4, h5⟩ := h
  exact ⟨bel_trans h1 hb, h2.below hb, h3.below hb, cell_bel h4 hb, Nat.lt_of_lt_of_le h5 hb.size⟩
/-- a cask's box, and the cask that it holds -/
def BX (b : Nat) (W : World) (c : Ck) (a : Option Addr) (n cap : Nat) : Prop :=
  Quad b W (.string c.nm) (.int .i64 c.ps) (.slice a n cap) (.int .i64 c.dc) ∧ CkV W (.agg #[.string c.nm, .int .i64 c.ps, .slice a n cap, .int .i64 c.dc]) c
theorem BX.below {b : Nat} {W W' : World} {c : Ck} {a : Option Addr} {n cap : Nat} (h : BX b W c a n cap) (hb : Below W.heap.size W W') : BX b W' c a n cap := ⟨h.1.below hb, h.2.below hb⟩
theorem BX.new {W : World} {c : Ck} {a : Option Addr} {n cap : Nat} (h : CkV W (.agg #[.string c.nm, .int .i64 c.ps, .slice a n cap, .int .i64 c.dc]) c) (T : TypeId) : BX W.heap.size (W.alloc (.cells #[.string c.nm, .int .i64 c.ps, .slice a n cap, .int .i64 c.dc] T)) c a n cap :=
  ⟨Quad.new W _ _ _ _ T, h.alloc _⟩
/-- a right cask's box: the cells of its last point, too -/
def BY (b : Nat) (W : World) (c : Ck) (b7 o7 m cap : Nat) (X : Int) : Prop :=
  BX b W c (some ⟨b7, o7, none⟩) (m + 1) cap ∧ Pts W (.slice (some ⟨b7, o7, none⟩) (m + 1) cap) c.pf ∧ W.cell? ⟨b7, o7 + m * 2, none⟩ = some (.int .i64 X) ∧ b7 < W.heap.size
theorem BY.below {b : Nat} {W W' : World} {c : Ck} {b7 o7 m cap : Nat} {X : Int} (h : BY b W c b7 o7 m cap X) (hb : Below W.heap.size W W') : BY b W' c b7 o7 m cap X :=
  ⟨h.1.below hb, h.2.1.below hb, cell_bel h.2.2.1 hb, Nat.lt_of_lt_of_le h.2.2.2 hb.size⟩
theorem BY.new {W : World} {c : Ck} {a : Option Addr} {n cap m : Nat} (h : CkV W (.agg #[.string c.nm, .int .i64 c.ps, .slice a n cap, .int .i64 c.dc]) c) (hn : n = c.pf.length) (hm : n = m + 1) (T : TypeId) :
    ∃ b7 o7, a = some ⟨b7, o7, none⟩ ∧ BY W.heap.size (W.alloc (.cells #[.string c.nm, .int .i64 c.ps, .slice a n cap, .int .i64 c.dc] T)) c b7 o7 m cap (gX c.pf m) := by
  have h' := h
  obtain ⟨a', cap', e, hp, _⟩ := h'
  simp only [Value.agg.injEq, Array.mk.injEq, List.cons.injEq, and_true, Value.slice.injEq, true_and] at e
  obtain ⟨rfl, _, rfl⟩ := e
  rw [← hn] at hp
  have hp' := hp
  obtain ⟨b7, o7, rfl, hb, hc⟩ := hp'.at (by omega)
  subst hm
  refine ⟨b7, o7, rfl, BX.new h T, hp.below (bel_alloc (Below.refl _ _)), cell_bel (hc m (by omega)).1 (bel_alloc (Below.refl _ _)), ?_⟩
  simp only [World.size_alloc]
  omega
/-- a stored cask -/
theorem quad_put {b : Nat} {W : World} {x y z u : Value} (h : Quad b W x y z u) (x' y' z' u' : Value) :
    Quad b ((((W.setCell ⟨b, 0, none⟩ x').setCell ⟨b, 1, none⟩ y').setCell ⟨b, 2, none⟩ z').setCell ⟨b, 3, none⟩ u') x' y' z' u' := by
  obtain ⟨h0, h1, h2, h3, h4, h5⟩ := h
  obtain ⟨r0, r1, r2, r3⟩ := quad_read W b x' y' z' u' h0 h1 h2 h3
  exact ⟨r0, r1, r2, r3, fun k hk => by rw [World.frozen?_setCell, World.frozen?_setCell, World.frozen?_setCell, World.frozen?_setCell]; exact h4 k hk, by simpa [World.setCell] using h5⟩
/-- a block of four cells and no more -/
def Qd (b : Nat) (W : World) (x y z u : Value) : Prop := Quad b W x y z u ∧ ∀ k, 4 ≤ k → W.cell? ⟨b, k, none⟩ = none
theorem Qd.below {b : Nat} {W W' : World} {x y z u : Value} (h : Qd b W x y z u) (hb : Below W.heap.size W W') : Qd b W' x y z u :=
  ⟨h.1.below hb, fun k hk => by rw [(bcell hb).1 _ _ h.1.2.2.2.2.2]; exact h.2 k hk⟩
theorem Qd.new (W : World) (x y z u : Value) (T : TypeId) : Qd W.heap.size (W.alloc (.cells #[x, y, z, u] T)) x y z u :=
  ⟨Quad.new W x y z u T, fun k hk => by simp [go_sem]; omega⟩
theorem pts_other {W : World} {a : Option Addr} {n cap : Nat} {l : List (Int × Int)} (h : Pts W (.slice a n cap) l) (p : Addr) (z : Value) (hp : ∀ b o, a = some ⟨b, o, none⟩ → b ≠ p.block) : Pts (W.setCell p z) (.slice a n cap) l := by
  obtain ⟨a', cap', e, hl, hh⟩ := h
  simp only [Value.slice.injEq] at e
  obtain ⟨rfl, rfl, rfl⟩ := e
  refine ⟨a, cap, rfl, hl, ?_⟩
  rcases hh with hh | ⟨b, o, rfl, hb, hc⟩
  · exact .inl hh
  · have hne := hp b o rfl
    refine .inr ⟨b, o, rfl, by simpa [World.setCell] using hb, fun j hj => ?_⟩
    obtain ⟨c0, c1⟩ := hc j hj
    exact ⟨by rw [World.cell?_setCell_other _ _ _ _ (by intro e; apply hne; rw [e])]; exact c0, by rw [World.cell?_setCell_other _ _ _ _ (by intro e; apply hne; rw [e])]; exact c1⟩
/-- a cask that was found, stored into a block that held none -/
theorem BX.put {b : Nat} {W : World} {c : Ck} {a : Option Addr} {n cap : Nat} {s : ByteArray} {x y : Int} {sl : Value} (hsl : sl = .slice none 0 0) (hq : Qd b W (.string s) (.int .i64 x) sl (.int .i64 y)) (hn : n = 0 ∨ 2 ≤ n)
    (h : CkV W (.agg #[.string c.nm, .int .i64 c.ps, .slice a n cap, .int .i64 c.dc]) c) :
    BX b ((((W.setCell ⟨b, 0, none⟩ (.string c.nm)).setCell ⟨b, 1, none⟩ (.int .i64 c.ps)).setCell ⟨b, 2, none⟩ (.slice a n cap)).setCell ⟨b, 3, none⟩ (.int .i64 c.dc)) c a n cap := by
  refine ⟨quad_put hq.1 _ _ _ _, ?_⟩
  obtain ⟨a', cap', e, hp, hr⟩ := h
  simp only [Value.agg.injEq, Array.mk.injEq, List.cons.injEq, and_true, Value.slice.injEq, true_and] at e
  obtain ⟨rfl, hn2, rfl⟩ := e
  by_cases hz : n = 0
  · subst hz
    refine ⟨a, cap, by rw [hn2], ?_, hr⟩
    obtain ⟨a', cap', e, hl, hh⟩ := hp
    simp only [Value.slice.injEq] at e
    obtain ⟨rfl, _, rfl⟩ := e
    exact ⟨a, cap, by rw [← hn2], hl, .inl hn2.symm⟩
  have hne : ∀ b' o, a = some ⟨b', o, none⟩ → b' ≠ b := by
    rintro b' o rfl rfl
    subst hsl
    obtain ⟨⟨h0, h1, h2, h3, _, _⟩, h4⟩ := hq
    obtain ⟨b2, o2, e, hb, hc⟩ := hp.at (by omega)
    simp only [Option.some.injEq, Addr.mk.injEq, and_true] at e
    obtain ⟨rfl, rfl⟩ := e
    obtain ⟨c0, c1⟩ := hc 0 (by omega)
    obtain ⟨c2, c3⟩ := hc 1 (by omega)
    simp only [Nat.zero_mul, Nat.add_zero, Nat.one_mul] at c0 c1 c2 c3
    by_cases g : 4 ≤ o
    · rw [h4 o g] at c0; cases c0
    · have : o = 0 ∨ o = 1 ∨ o = 2 ∨ o = 3 := by omega
      rcases this with rfl | rfl | rfl | rfl
      · rw [h0] at c0; cases c0
      · rw [h2] at c1; cases c1
      · rw [h2] at c0; cases c0
      · rw [h4 4 (by omega)] at c1; cases c1
  refine ⟨a, cap, by rw [hn2], ?_, hr⟩
  exact pts_other (pts_other (pts_other (pts_other hp _ _ hne) _ _ hne) _ _ hne) _ _ hne
theorem zck_v (W : World) : CkV W (.agg #[.string ⟨#[]⟩, .int .i64 0, .slice none 0 0, .int .i64 0]) zCk := ⟨none, 0, rfl, pts_nil _, by decide, by decide, by decide⟩
end Go.Proofs.YtpnlfeljmpfeoaaGreatDoor

namespace Go.Proofs.YtpnlfeljmpfeoaaGreatDoor.caskFinds
open Go.ChangeShapes Go.WideShapes Go.ChangeAt Go.RowKit
open Go.ChangeMaps (open_string shut_string)
set_option linter.unusedVariables false

theorem field_rad (a b : Int) (w : World) : (Instr.field 46 (.agg #[.int .i64 a, .int .i64 b]) 1).run Tryz.prog w = .ok (.int .i64 b) w := by kernel_rfl
set_option maxRecDepth 100000 in
set_option maxHeartbeats 16000000 in
theorem core (a : Option Addr) (n cap : Nat) (nm : ByteArray) (B1 : Bool) (E F : Int) (HAS : Bool) (c : Ck) (l : List Ck) (w : World)
    (hn : Hid (n = l.length)) (hB : Hid (B1 = true → n ≤ 33)) (hmx : nm.size ≤ 9223372036854775807)
    (HV : Hid (Cks w (.slice a n cap) l))
    (HA : Hid (∀ W, Below w.heap.size w W → Calls Tryz.prog 10 #[] W fun e w' => e = .returned (.bool true) ∧ Below W.heap.size W w'))
    (HF : Hid (∀ W, Below w.heap.size w W → Calls Tryz.prog 11 #[.slice a n cap] W fun e w' => e = .returned (.bool B1) ∧ w' = W))
    (HC : Hid (B1 = true → ∀ W, Below w.heap.size w W → Calls Tryz.prog 13 #[.slice a n cap] W fun e w' => ∃ u, e = .returned u ∧ Cks w' u l ∧ Below W.heap.size W w'))
    (H4 : Hid (∀ v W, Cks W v l → Calls Tryz.prog 16 #[v] W fun e w' => e = .returned (.int .i64 E) ∧ Below W.heap.size W w'))
    (hE : Hid (E = 0 → ∀ d ∈ l, 2 ≤ d.pf.length ∧ d.pf.length ≤ 32 ∧ (d.ps = 1 ∨ d.ps = 2) ∧ (1 ≤ gR d.pf (bg d.pf d.pf.length) ∧ gR d.pf (bg d.pf d.pf.length) ≤ 100000)))
    (HR : Hid (E = 0 → ∀ k (hk : k < l.length) v W, Cks W v l → Calls Tryz.prog 12 #[v, .string l[k].nm] W fun e w' => ∃ a cap, e = .returned (.tuple #[.agg #[.string l[k].nm, .int .i64 l[k].ps, .slice a l[k].pf.length cap, .int .i64 l[k].dc], .int .i64 0]) ∧ CkV w' (.agg #[.string l[k].nm, .int .i64 l[k].ps, .slice a l[k].pf.length cap, .int .i64 l[k].dc]) l[k] ∧ Below W.heap.size W w'))
    (HD : Hid (E = 0 → ∀ d ∈ l, ∀ v W, CkV W v d → Calls Tryz.prog 18 #[v] W fun e w' => e = .returned (.tuple #[.int .i64 (if d.ps = 1 then 2 * gR d.pf (bg d.pf d.pf.length) else gX d.pf (d.pf.length - 1)), .int .i64 0]) ∧ Below W.heap.size W w'))
    (HM : Hid (E = 0 → ∀ d ∈ l, ∀ a cap W, Pts W (.slice a d.pf.length cap) d.pf → Calls Tryz.prog 27 #[.slice a d.pf.length cap, .func (.func 28) #[] #[]] W fun e w' => e = .returned (.agg #[.int .i64 (gX d.pf (bg d.pf d.pf.length)), .int .i64 (gR d.pf (bg d.pf d.pf.length))]) ∧ Below W.heap.size W w'))
    (HS : Hid (∀ d : Ck, d.pf.length ≤ 1000 → ∀ v u W, CkV W v d → CkV W u d → Calls Tryz.prog 15 #[v, u] W fun e w' => e = .returned (.bool true) ∧ Below W.heap.size W w'))
    (H1 : Hid (E = 0 → nm.size ≤ 70 → ∀ v W, Cks W v l → Calls Tryz.prog 12 #[v, .string nm] W fun e w' => ∃ a cap, e = .returned (.tuple #[.agg #[.string c.nm, .int .i64 c.ps, .slice a c.pf.length cap, .int .i64 c.dc], .int .i64 F]) ∧ CkV w' (.agg #[.string c.nm, .int .i64 c.ps, .slice a c.pf.length cap, .int .i64 c.dc]) c ∧ Below W.heap.size W w'))
    (hcl : Hid (E = 0 → c.pf.length = 0 ∨ 2 ≤ c.pf.length))
    (hH : Hid (E = 0 → (HAS = true → F = 0) ∧ (HAS = false → F = 7 ∧ c = zCk)))
    (HN : Hid (∀ q v W, Cks W v l → q < W.heap.size → W.cell? ⟨q, 0, none⟩ = some (.string nm) → l.length ≤ 1000 → Calls Tryz.prog 29 #[v, .func (.func 30) #[] #[.pointer (some ⟨q, 0, none⟩)]] W fun e w' => e = .returned (.bool HAS) ∧ Below W.heap.size W w')) :
    Calls Tryz.prog 9 #[.slice a n cap, .string nm] w fun e w' => e = .returned (.bool true) ∧ Below w.heap.size w w' := by
  have n0 : (w.alloc (.cells #[.string nm] 9)).cell? ⟨w.heap.size, 0, none⟩ = some (.string nm) := by simp [go_sem]
  have X0 : Hid (Below w.heap.size w (w.alloc (.cells #[.string nm] 9)) ∧ (w.alloc (.cells #[.string nm] 9)).cell? ⟨w.heap.size, 0, none⟩ = some (.string nm) ∧ w.heap.size < (w.alloc (.cells #[.string nm] 9)).heap.size) := Lib.hid ⟨bel_alloc (Below.refl _ _), n0, by simp⟩
  clear n0
  go_enter Tryz.func9, Tryz.ntmps9
  go_wp2_with fail
  refine (HA.out _ X0.out.1).mono ?_
  rintro e w1 ⟨rfl, gg⟩
  have X : Hid (Below w.heap.size w w1 ∧ w1.cell? ⟨w.heap.size, 0, none⟩ = some (.string nm) ∧ w.heap.size < w1.heap.size) := Lib.hid ⟨bel_trans X0.out.1 gg, cell_bel X0.out.2.1 gg, Nat.lt_of_lt_of_le X0.out.2.2 gg.size⟩
  clear gg HA X0
  obtain ⟨x1, x2, x3⟩ := X.out
  have x1 := Lib.hid x1
  go_wp2_with fail
  refine (HF.out _ X.out.1).mono ?_
  rintro e w2 ⟨rfl, hw⟩
  subst hw
  clear HF
  cases B1 with
  | false =>
    go_wp2
    go_returns
    exact ⟨rfl, X.out.1⟩
  | true =>
    have K0 := Lib.hid (fun W => HC.out rfl W)
    replace hB := Lib.hid (hB.out rfl)
    clear HC
    by_cases h70 : (70 : Int) < (nm.size : Int)
    · go_wp2
      go_returns
      exact ⟨rfl, X.out.1⟩
    · go_wp2_with fail
      refine (K0.out _ X.out.1).mono ?_
      rintro e w3 ⟨u, rfl, hu, gg⟩
      clear x2 x3
      replace X : Hid (Below w.heap.size w w3 ∧ w3.cell? ⟨w.heap.size, 0, none⟩ = some (.string nm) ∧ w.heap.size < w3.heap.size) := Lib.hid ⟨bel_trans X.out.1 gg, cell_bel X.out.2.1 gg, Nat.lt_of_lt_of_le X.out.2.2 gg.size⟩
      clear gg x1
      have C1 := Lib.hid hu
      clear hu
      go_wp2_with fail
      refine (H4.out _ _ C1.out).mono ?_
      rintro e w4 ⟨rfl, gg⟩
      replace X : Hid (Below w.heap.size w w4 ∧ w4.cell? ⟨w.heap.size, 0, none⟩ = some (.string nm) ∧ w.heap.size < w4.heap.size) := Lib.hid ⟨bel_trans X.out.1 gg, cell_bel X.out.2.1 gg, Nat.lt_of_lt_of_le X.out.2.2 gg.size⟩
      clear gg C1 H4
      by_cases h0 : E = 0
      · have g0 : (E != 0) = false := by simp [h0]
        replace hE := Lib.hid (hE.out h0)
        replace HR := Lib.hid (HR.out h0)
        replace HD := Lib.hid (HD.out h0)
        replace HM := Lib.hid (HM.out h0)
        replace H1 := Lib.hid (H1.out h0 (by omega))
        replace hH := Lib.hid (hH.out h0)
        replace hcl := Lib.hid (hcl.out h0)
        have hl33 : l.length ≤ 33 := by have := hB.out; have := hn.out; omega
        go_wp2_with fail
        refine (K0.out _ X.out.1).mono ?_
        rintro e w5 ⟨u, rfl, hu, gg⟩
        have G0 : Hid (GS w (.slice a n cap) u l nm w5) := Lib.hid ⟨bel_trans X.out.1 gg, HV.out.below (bel_trans X.out.1 gg), hu, cell_bel X.out.2.1 gg, Nat.lt_of_lt_of_le X.out.2.2 gg.size⟩
        clear gg X
        obtain ⟨a6, cap6, rfl, hz⟩ := hu
        clear hz
        go_wp2_with fail
        go_loopw [34] (fun ii wr => ∃ k : Nat, k ≤ l.length ∧ ii = .int .i64 k ∧ Hid (GS w (.slice a n cap) (.slice a6 l.length cap6) l nm wr)) (fun ii _ => l.length - (intOf ii).toNat)
        case atStart => exact ⟨0, by omega, rfl, G0⟩
        case round =>
          obtain ⟨k, hk, rfl, hG⟩ := hrel
          clear G0
          by_cases hlt : k < l.length
          · obtain ⟨a', cap', ea, hcap, hh⟩ := hG.out.2.2.1
            simp only [Value.slice.injEq, true_and] at ea
            obtain ⟨rfl, rfl⟩ := ea
            rcases hh with hh | ⟨b, off, rfl, hb, hcs⟩
            · omega
            · obtain ⟨x0, x1, x2, x3, c0, c1, c2, c3, hv⟩ := hcs k hlt
              obtain ⟨a7, cap7, ev, hrest⟩ := hv
              have hv : CkV wr (.agg #[.string l[k].nm, .int .i64 l[k].ps, .slice a7 l[k].pf.length cap7, .int .i64 l[k].dc]) l[k] := ⟨a7, cap7, rfl, hrest⟩
              simp only [Value.agg.injEq, Array.mk.injEq, List.cons.injEq, and_true] at ev
              obtain ⟨rfl, rfl, rfl, rfl⟩ := ev
              clear hrest hcs hcap
              have hd := hE.out l[k] (List.getElem_mem hlt)
              have KR := Lib.hid (HR.out k hlt)
              have KD := Lib.hid (HD.out l[k] (List.getElem_mem hlt))
              have KM := Lib.hid (HM.out l[k] (List.getElem_mem hlt))
              clear hE HR HD HM
              generalize l[k] = d at *
              obtain ⟨dn0, dn1, hps, hrad⟩ := hd
              obtain ⟨m, hm⟩ : ∃ m, d.pf.length = m + 1 := ⟨d.pf.length - 1, by omega⟩
              obtain ⟨b7, o7, rfl, hby⟩ := BY.new (m := m) hv rfl hm 27
              rw [show d.pf.length - 1 = m by omega] at KD
              rw [hm] at c2 hby KR KD KM dn1 hrad
              generalize gX d.pf m = X at *
              generalize gR d.pf (bg d.pf (m + 1)) = R at *
              generalize gX d.pf (bg d.pf (m + 1)) = Y at *
              have hm := Lib.hid hm
              have l2 : (k : Int) < (l.length : Int) := by omega
              have B0 : Hid (GS w (.slice a n cap) (.slice (some ⟨b, off, none⟩) l.length cap6) l nm (wr.alloc (.cells #[.string d.nm, .int .i64 d.ps, .slice (some ⟨b7, o7, none⟩) (m + 1) cap7, .int .i64 d.dc] 27)) ∧ BY wr.heap.size (wr.alloc (.cells #[.string d.nm, .int .i64 d.ps, .slice (some ⟨b7, o7, none⟩) (m + 1) cap7, .int .i64 d.dc] 27)) d b7 o7 m cap7 X) := Lib.hid ⟨hG.out.below (bel_alloc (Below.refl _ _)), hby⟩
              clear hv hG hby
              obtain ⟨y0, y1, y2, y3, yf, ylt⟩ := B0.out.2.1.1
              clear yf
              have KF : Hid (∀ W, GS w (.slice a n cap) (.slice (some ⟨b, off, none⟩) l.length cap6) l nm W ∧ BY wr.heap.size W d b7 o7 m cap7 X → Calls Tryz.prog 13 #[.slice a n cap] W fun e w' => ∃ a2 cap2, e = .returned (.slice a2 l.length cap2) ∧ Cks w' (.slice a2 l.length cap2) l ∧ Below W.heap.size W w') := Lib.hid fun W h => (K0.out W h.1.1).mono fun e w' ⟨u, h1, h2, h3⟩ => by
                have h2' := h2
                obtain ⟨a2, cap2, rfl, _⟩ := h2
                exact ⟨a2, cap2, h1, h2', h3⟩
              have A0 : Hid (GS w (.slice a n cap) (.slice (some ⟨b, off, none⟩) l.length cap6) l nm (wr.alloc (.cells #[.string d.nm, .int .i64 d.ps, .slice (some ⟨b7, o7, none⟩) (m + 1) cap7, .int .i64 d.dc] 27)).drew ∧ BY wr.heap.size (wr.alloc (.cells #[.string d.nm, .int .i64 d.ps, .slice (some ⟨b7, o7, none⟩) (m + 1) cap7, .int .i64 d.dc] 27)).drew d b7 o7 m cap7 X) := Lib.hid ⟨B0.out.1.below (bel_drew _), B0.out.2.below (bel_drew _)⟩
              have A0' : Hid (GS w (.slice a n cap) (.slice (some ⟨b, off, none⟩) l.length cap6) l nm ((wr.alloc (.cells #[.string d.nm, .int .i64 d.ps, .slice (some ⟨b7, o7, none⟩) (m + 1) cap7, .int .i64 d.dc] 27)).alloc (.cells #[.string ⟨#[]⟩, .int .i64 0, .slice none 0 0, .int .i64 0] 27)).drew ∧ BY wr.heap.size ((wr.alloc (.cells #[.string d.nm, .int .i64 d.ps, .slice (some ⟨b7, o7, none⟩) (m + 1) cap7, .int .i64 d.dc] 27)).alloc (.cells #[.string ⟨#[]⟩, .int .i64 0, .slice none 0 0, .int .i64 0] 27)).drew d b7 o7 m cap7 X) := Lib.hid ⟨B0.out.1.below (bel_alloc (bel_drew _)), B0.out.2.below (bel_alloc (bel_drew _))⟩
              have Qn : Hid (∀ W, Below ((wr.alloc (.cells #[.string d.nm, .int .i64 d.ps, .slice (some ⟨b7, o7, none⟩) (m + 1) cap7, .int .i64 d.dc] 27)).alloc (.cells #[.string ⟨#[]⟩, .int .i64 0, .slice none 0 0, .int .i64 0] 27)).drew.heap.size ((wr.alloc (.cells #[.string d.nm, .int .i64 d.ps, .slice (some ⟨b7, o7, none⟩) (m + 1) cap7, .int .i64 d.dc] 27)).alloc (.cells #[.string ⟨#[]⟩, .int .i64 0, .slice none 0 0, .int .i64 0] 27)).drew W → Qd (wr.heap.size + 1) W (.string ⟨#[]⟩) (.int .i64 0) (.slice none 0 0) (.int .i64 0)) := Lib.hid fun W h => by
                have h := ((Qd.new (wr.alloc (.cells #[.string d.nm, .int .i64 d.ps, .slice (some ⟨b7, o7, none⟩) (m + 1) cap7, .int .i64 d.dc] 27)) (.string ⟨#[]⟩) (.int .i64 0) (.slice none 0 0) (.int .i64 0) 27).below (bel_drew _)).below h
                rwa [show (wr.alloc (.cells #[.string d.nm, .int .i64 d.ps, .slice (some ⟨b7, o7, none⟩) (m + 1) cap7, .int .i64 d.dc] 27)).heap.size = wr.heap.size + 1 from World.size_alloc _ _] at h
              go_wp2_with fail
              go_region_held3 (fun w' => w'.cell? ⟨wr.heap.size, 0, none⟩ = some (.string d.nm)) (go_keep)
                (first
                  | (go_at_call 13; (with_reducible refine (KF.out _ A0.out).mono ?_); rintro e w20 ⟨a2, cap2, rfl, hq, gg⟩; have A1 := Lib.hid (And.intro (A0.out.1.below gg) (A0.out.2.below gg)); have C1 := Lib.hid hq; have s2 := A1.out.2.1.1.1; have z20 : wr.heap.size < w20.heap.size := A1.out.2.1.1.2.2.2.2.2; have ne1 : wr.heap.size ≠ w20.heap.size := Nat.ne_of_lt z20; have ne2 : w20.heap.size ≠ wr.heap.size := Nat.ne_of_gt z20; clear gg hq)
                  | (go_at_call 13; (with_reducible refine (KF.out _ A0'.out).mono ?_); rintro e w20 ⟨a2, cap2, rfl, hq, gg⟩; have A1 := Lib.hid (And.intro (A0'.out.1.below gg) (A0'.out.2.below gg)); have C1 := Lib.hid hq; have Q7 := Lib.hid (Qn.out _ gg); have BB := Lib.hid (bel_trans (bel_alloc (bel_drew ((wr.alloc (.cells #[.string d.nm, .int .i64 d.ps, .slice (some ⟨b7, o7, none⟩) (m + 1) cap7, .int .i64 d.dc] 27)).alloc (.cells #[.string ⟨#[]⟩, .int .i64 0, .slice none 0 0, .int .i64 0] 27)))) gg); have s2 := A1.out.2.1.1.1; have z20 : wr.heap.size < w20.heap.size := A1.out.2.1.1.2.2.2.2.2; have ne1 : wr.heap.size ≠ w20.heap.size := Nat.ne_of_lt z20; have ne2 : w20.heap.size ≠ wr.heap.size := Nat.ne_of_gt z20; clear gg hq)
                  | (go_at_call 12; (with_reducible refine (KR.out _ _ C1.out).mono ?_); rintro e w21 ⟨a3, cap3, rfl, hq, gg⟩; have A2 := Lib.hid (And.intro (A1.out.1.below gg) (A1.out.2.below gg)); have C2 := Lib.hid hq; have s3 := A2.out.2.1.1.1; have z21 : wr.heap.size < w21.heap.size := A2.out.2.1.1.2.2.2.2.2; have ne3 : wr.heap.size ≠ w21.heap.size := Nat.ne_of_lt z21; have ne4 : w21.heap.size ≠ wr.heap.size := Nat.ne_of_gt z21; (try (replace Q7 := Lib.hid (Q7.out.below gg); replace BB := Lib.hid (bel_trans BB.out gg); obtain ⟨⟨t0, t1, t2, t3, tf, _⟩, _⟩ := Q7.out; have tf0 := tf 0 (by omega); have tf1 := tf 1 (by omega); have tf2 := tf 2 (by omega); have tf3 := tf 3 (by omega); clear tf)); clear gg hq)
                  | (go_at_call 12; (with_reducible refine (KR.out _ _ (C1.out.below (bel_alloc (Below.refl _ _)))).mono ?_); rintro e w21 ⟨a3, cap3, rfl, hq, gg⟩; have A2 := Lib.hid (And.intro (A1.out.1.below (bel_alloc gg)) (A1.out.2.below (bel_alloc gg))); have C2 := Lib.hid hq; have Q7 := Lib.hid ((Qd.new w20 (.string ⟨#[]⟩) (.int .i64 0) (.slice none 0 0) (.int .i64 0) 27).below gg); have BB := Lib.hid (bel_alloc gg); obtain ⟨⟨t0, t1, t2, t3, tf, _⟩, _⟩ := Q7.out; have tf0 := tf 0 (by omega); have tf1 := tf 1 (by omega); have tf2 := tf 2 (by omega); have tf3 := tf 3 (by omega); clear tf; have s3 := A2.out.2.1.1.1; have z21 : wr.heap.size < w21.heap.size := A2.out.2.1.1.2.2.2.2.2; have ne3 : wr.heap.size ≠ w21.heap.size := Nat.ne_of_lt z21; have ne4 : w21.heap.size ≠ wr.heap.size := Nat.ne_of_gt z21; clear gg hq))
              have E : Hid (GS w (.slice a n cap) (.slice (some ⟨b, off, none⟩) l.length cap6) l nm (w21.alloc (.cells #[.string d.nm, .int .i64 d.ps, .slice a3 (m + 1) cap3, .int .i64 d.dc] 27)) ∧ BY wr.heap.size (w21.alloc (.cells #[.string d.nm, .int .i64 d.ps, .slice a3 (m + 1) cap3, .int .i64 d.dc] 27)) d b7 o7 m cap7 X ∧ BX w21.heap.size (w21.alloc (.cells #[.string d.nm, .int .i64 d.ps, .slice a3 (m + 1) cap3, .int .i64 d.dc] 27)) d a3 (m + 1) cap3) := Lib.hid ⟨A2.out.1.below (bel_alloc (Below.refl _ _)), A2.out.2.below (bel_alloc (Below.refl _ _)), BX.new C2.out _⟩
              clear A1 A2 C1 C2 B0 A0 A0' Qn KF KR c0 c1 c2 c3 s2 s3 z20 z21 ne1 ne2 ne3 ne4
              generalize w21.alloc (.cells #[.string d.nm, .int .i64 d.ps, .slice a3 (m + 1) cap3, .int .i64 d.dc] 27) = WF at *
              generalize w21.heap.size = bq at *
              rotate_left
              have E : Hid (GS w (.slice a n cap) (.slice (some ⟨b, off, none⟩) l.length cap6) l nm ((((w21.setCell ⟨w20.heap.size, 0, none⟩ (.string d.nm)).setCell ⟨w20.heap.size, 1, none⟩ (.int .i64 d.ps)).setCell ⟨w20.heap.size, 2, none⟩ (.slice a3 (m + 1) cap3)).setCell ⟨w20.heap.size, 3, none⟩ (.int .i64 d.dc)) ∧ BY wr.heap.size ((((w21.setCell ⟨w20.heap.size, 0, none⟩ (.string d.nm)).setCell ⟨w20.heap.size, 1, none⟩ (.int .i64 d.ps)).setCell ⟨w20.heap.size, 2, none⟩ (.slice a3 (m + 1) cap3)).setCell ⟨w20.heap.size, 3, none⟩ (.int .i64 d.dc)) d b7 o7 m cap7 X ∧ BX w20.heap.size ((((w21.setCell ⟨w20.heap.size, 0, none⟩ (.string d.nm)).setCell ⟨w20.heap.size, 1, none⟩ (.int .i64 d.ps)).setCell ⟨w20.heap.size, 2, none⟩ (.slice a3 (m + 1) cap3)).setCell ⟨w20.heap.size, 3, none⟩ (.int .i64 d.dc)) d a3 (m + 1) cap3) := Lib.hid ⟨A1.out.1.below ((((BB.out.setCell (Nat.le_refl _) _).setCell (Nat.le_refl _) _).setCell (Nat.le_refl _) _).setCell (Nat.le_refl _) _), A1.out.2.below ((((BB.out.setCell (Nat.le_refl _) _).setCell (Nat.le_refl _) _).setCell (Nat.le_refl _) _).setCell (Nat.le_refl _) _), BX.put rfl Q7.out (.inr (by omega)) C2.out⟩
              clear A1 A2 C1 C2 B0 A0 A0' Qn KF KR c0 c1 c2 c3 s2 s3 z20 z21 ne1 ne2 ne3 ne4 Q7 BB t0 t1 t2 t3 tf0 tf1 tf2 tf3
              generalize ((((w21.setCell ⟨w20.heap.size, 0, none⟩ (.string d.nm)).setCell ⟨w20.heap.size, 1, none⟩ (.int .i64 d.ps)).setCell ⟨w20.heap.size, 2, none⟩ (.slice a3 (m + 1) cap3)).setCell ⟨w20.heap.size, 3, none⟩ (.int .i64 d.dc)) = WF at *
              generalize w20.heap.size = bq at *
              rotate_left
              have E : Hid (GS w (.slice a n cap) (.slice (some ⟨b, off, none⟩) l.length cap6) l nm ((((w21.setCell ⟨wr.heap.size + 1, 0, none⟩ (.string d.nm)).setCell ⟨wr.heap.size + 1, 1, none⟩ (.int .i64 d.ps)).setCell ⟨wr.heap.size + 1, 2, none⟩ (.slice a3 (m + 1) cap3)).setCell ⟨wr.heap.size + 1, 3, none⟩ (.int .i64 d.dc)) ∧ BY wr.heap.size ((((w21.setCell ⟨wr.heap.size + 1, 0, none⟩ (.string d.nm)).setCell ⟨wr.heap.size + 1, 1, none⟩ (.int .i64 d.ps)).setCell ⟨wr.heap.size + 1, 2, none⟩ (.slice a3 (m + 1) cap3)).setCell ⟨wr.heap.size + 1, 3, none⟩ (.int .i64 d.dc)) d b7 o7 m cap7 X ∧ BX (wr.heap.size + 1) ((((w21.setCell ⟨wr.heap.size + 1, 0, none⟩ (.string d.nm)).setCell ⟨wr.heap.size + 1, 1, none⟩ (.int .i64 d.ps)).setCell ⟨wr.heap.size + 1, 2, none⟩ (.slice a3 (m + 1) cap3)).setCell ⟨wr.heap.size + 1, 3, none⟩ (.int .i64 d.dc)) d a3 (m + 1) cap3) := Lib.hid ⟨B0.out.1.below ((((BB.out.setCell (by simp) _).setCell (by simp) _).setCell (by simp) _).setCell (by simp) _), B0.out.2.below ((((BB.out.setCell (by simp) _).setCell (by simp) _).setCell (by simp) _).setCell (by simp) _), BX.put rfl Q7.out (.inr (by omega)) C2.out⟩
              clear A1 A2 C1 C2 B0 A0 A0' Qn KF KR c0 c1 c2 c3 s2 s3 z20 z21 ne1 ne2 ne3 ne4 Q7 BB t0 t1 t2 t3 tf0 tf1 tf2 tf3
              generalize ((((w21.setCell ⟨wr.heap.size + 1, 0, none⟩ (.string d.nm)).setCell ⟨wr.heap.size + 1, 1, none⟩ (.int .i64 d.ps)).setCell ⟨wr.heap.size + 1, 2, none⟩ (.slice a3 (m + 1) cap3)).setCell ⟨wr.heap.size + 1, 3, none⟩ (.int .i64 d.dc)) = WF at *
              generalize wr.heap.size + 1 = bq at *
              rotate_left
              all_goals
                have wk : IntKind.i64.wrap ((m : Int) + 1 - 1) = (m : Int) := by simp only [IntKind.wrap_i64]; omega
                have wk2 : IntKind.i64.wrap (m : Int) = (m : Int) := by simp only [IntKind.wrap_i64]; omega
                have w2R : IntKind.i64.wrap (2 * R) = 2 * R := wrap_in _ ⟨by omega, by omega⟩
                have gR1 : (2 * R != 2 * R) = false := by simp
                have gX1 : (X != X) = false := by simp
                obtain ⟨y0, y1, y2, y3, _, _⟩ := E.out.2.1.1.1
                go_wp2_with fail
                refine (KD.out _ _ E.out.2.1.1.2).mono ?_
                rintro e w22 ⟨rfl, gg⟩
                clear y0 y1 y2 y3
                replace E := Lib.hid (And.intro (E.out.1.below gg) (And.intro (E.out.2.1.below gg) (E.out.2.2.below gg)))
                clear gg
                obtain ⟨y0, y1, y2, y3, _, _⟩ := E.out.2.1.1.1
                have yl := E.out.2.1.2.2.1
                by_cases h1 : d.ps = 1
                · have q1 : (d.ps == 1) = true := by simp [h1]
                  rw [if_pos h1]
                  clear h1 hps
                  go_wp2_with fail
                  refine (KM.out _ _ _ E.out.2.1.2.1).mono ?_
                  rintro e w23 ⟨rfl, gg⟩
                  have fr := field_rad Y R w23
                  clear y0 y1 y2 y3 yl
                  replace E := Lib.hid (And.intro (E.out.1.below gg) (And.intro (E.out.2.1.below gg) (E.out.2.2.below gg)))
                  clear gg
                  obtain ⟨y0, y1, y2, y3, _, _⟩ := E.out.2.1.1.1
                  obtain ⟨x0, x1, x2, x3, _, _⟩ := E.out.2.2.1
                  go_wp2_with fail
                  refine (HS.out d (by rw [hm.out]; omega) _ _ _ E.out.2.2.2 E.out.2.1.1.2).mono ?_
                  rintro e w24 ⟨rfl, gg⟩
                  have Y := Lib.hid (E.out.1.below gg)
                  clear gg y0 y1 y2 y3 x0 x1 x2 x3
                  go_wp2
                  go_roundw
                  case rel => exact ⟨k + 1, by omega, by go_num, Y⟩
                  case measure => simp [intOf]; omega
                · have q1 : (d.ps == 1) = false := by simp [h1]
                  rw [if_neg h1]
                  clear h1 hps
                  obtain ⟨x0, x1, x2, x3, _, _⟩ := E.out.2.2.1
                  go_wp2_with fail
                  refine (HS.out d (by rw [hm.out]; omega) _ _ _ E.out.2.2.2 E.out.2.1.1.2).mono ?_
                  rintro e w24 ⟨rfl, gg⟩
                  have Y := Lib.hid (E.out.1.below gg)
                  clear gg y0 y1 y2 y3 x0 x1 x2 x3 yl
                  go_wp2
                  go_roundw
                  case rel => exact ⟨k + 1, by omega, by go_num, Y⟩
                  case measure => simp [intOf]; omega
          · obtain rfl : k = l.length := by omega
            clear hk hlt hE HR HD HM
            obtain ⟨_, _, _, n4, n5⟩ := hG.out
            have n5 := Lib.hid n5
            have KF : Hid (∀ W, GS w (.slice a n cap) (.slice a6 l.length cap6) l nm W → Calls Tryz.prog 13 #[.slice a n cap] W fun e w' => ∃ a2 cap2, e = .returned (.slice a2 l.length cap2) ∧ Cks w' (.slice a2 l.length cap2) l ∧ Below W.heap.size W w') := Lib.hid fun W h => (K0.out W h.1).mono fun e w' ⟨u, h1, h2, h3⟩ => by
              have h2' := h2
              obtain ⟨a2, cap2, rfl, _⟩ := h2
              exact ⟨a2, cap2, h1, h2', h3⟩
            have A0 : Hid (GS w (.slice a n cap) (.slice a6 l.length cap6) l nm wr.drew) := Lib.hid (hG.out.below (bel_drew _))
            have A0' : Hid (GS w (.slice a n cap) (.slice a6 l.length cap6) l nm (wr.alloc (.cells #[.string ⟨#[]⟩, .int .i64 0, .slice none 0 0, .int .i64 0] 27)).drew) := Lib.hid (hG.out.below (bel_alloc (bel_drew _)))
            have Qn : Hid (∀ W, Below (wr.alloc (.cells #[.string ⟨#[]⟩, .int .i64 0, .slice none 0 0, .int .i64 0] 27)).drew.heap.size (wr.alloc (.cells #[.string ⟨#[]⟩, .int .i64 0, .slice none 0 0, .int .i64 0] 27)).drew W → Qd wr.heap.size W (.string ⟨#[]⟩) (.int .i64 0) (.slice none 0 0) (.int .i64 0)) := Lib.hid fun W h => ((Qd.new wr (.string ⟨#[]⟩) (.int .i64 0) (.slice none 0 0) (.int .i64 0) 27).below (bel_drew _)).below h
            have ne5 : w.heap.size ≠ wr.heap.size := Nat.ne_of_lt n5.out
            have ne6 : wr.heap.size ≠ w.heap.size := Nat.ne_of_gt n5.out
            go_wp2_with fail
            go_region_held3 (fun w' => w'.cell? ⟨w.heap.size, 0, none⟩ = some (.string nm)) (go_keep)
              (first
                | (go_at_call 13; (with_reducible refine (KF.out _ A0.out).mono ?_); rintro e w20 ⟨a2, cap2, rfl, hq, gg⟩; have A1 := Lib.hid (A0.out.below gg); have C1 := Lib.hid hq; have s2 := A1.out.2.2.2.1; have z20 : w.heap.size < w20.heap.size := A1.out.2.2.2.2; have ne1 : w.heap.size ≠ w20.heap.size := Nat.ne_of_lt z20; have ne2 : w20.heap.size ≠ w.heap.size := Nat.ne_of_gt z20; clear gg hq)
                | (go_at_call 13; (with_reducible refine (KF.out _ A0'.out).mono ?_); rintro e w20 ⟨a2, cap2, rfl, hq, gg⟩; have A1 := Lib.hid (A0'.out.below gg); have C1 := Lib.hid hq; have Q7 := Lib.hid (Qn.out _ gg); have BB := Lib.hid (bel_trans (bel_alloc (bel_drew (wr.alloc (.cells #[.string ⟨#[]⟩, .int .i64 0, .slice none 0 0, .int .i64 0] 27)))) gg); have s2 := A1.out.2.2.2.1; have z20 : w.heap.size < w20.heap.size := A1.out.2.2.2.2; have ne1 : w.heap.size ≠ w20.heap.size := Nat.ne_of_lt z20; have ne2 : w20.heap.size ≠ w.heap.size := Nat.ne_of_gt z20; clear gg hq)
                | (go_at_call 12; (with_reducible refine (H1.out _ _ C1.out).mono ?_); rintro e w21 ⟨a3, cap3, rfl, hq, gg⟩; have A2 := Lib.hid (A1.out.below gg); have C2 := Lib.hid hq; have s3 := A2.out.2.2.2.1; have z21 : w.heap.size < w21.heap.size := A2.out.2.2.2.2; have ne3 : w.heap.size ≠ w21.heap.size := Nat.ne_of_lt z21; have ne4 : w21.heap.size ≠ w.heap.size := Nat.ne_of_gt z21; (try (replace Q7 := Lib.hid (Q7.out.below gg); replace BB := Lib.hid (bel_trans BB.out gg); obtain ⟨⟨t0, t1, t2, t3, tf, _⟩, _⟩ := Q7.out; have tf0 := tf 0 (by omega); have tf1 := tf 1 (by omega); have tf2 := tf 2 (by omega); have tf3 := tf 3 (by omega); clear tf)); clear gg hq)
                | (go_at_call 12; (with_reducible refine (H1.out _ _ (C1.out.below (bel_alloc (Below.refl _ _)))).mono ?_); rintro e w21 ⟨a3, cap3, rfl, hq, gg⟩; have A2 := Lib.hid (A1.out.below (bel_alloc gg)); have C2 := Lib.hid hq; have Q7 := Lib.hid ((Qd.new w20 (.string ⟨#[]⟩) (.int .i64 0) (.slice none 0 0) (.int .i64 0) 27).below gg); have BB := Lib.hid (bel_alloc gg); obtain ⟨⟨t0, t1, t2, t3, tf, _⟩, _⟩ := Q7.out; have tf0 := tf 0 (by omega); have tf1 := tf 1 (by omega); have tf2 := tf 2 (by omega); have tf3 := tf 3 (by omega); clear tf; have s3 := A2.out.2.2.2.1; have z21 : w.heap.size < w21.heap.size := A2.out.2.2.2.2; have ne3 : w.heap.size ≠ w21.heap.size := Nat.ne_of_lt z21; have ne4 : w21.heap.size ≠ w.heap.size := Nat.ne_of_gt z21; clear gg hq))
            have E : Hid (GS w (.slice a n cap) (.slice a6 l.length cap6) l nm (w21.alloc (.cells #[.string c.nm, .int .i64 c.ps, .slice a3 c.pf.length cap3, .int .i64 c.dc] 27)) ∧ BX w21.heap.size (w21.alloc (.cells #[.string c.nm, .int .i64 c.ps, .slice a3 c.pf.length cap3, .int .i64 c.dc] 27)) c a3 c.pf.length cap3) := Lib.hid ⟨A2.out.below (bel_alloc (Below.refl _ _)), BX.new C2.out _⟩
            clear A1 A2 C1 C2 A0 A0' Qn KF s2 s3 z20 z21 ne1 ne2 ne3 ne4 ne5 ne6 n4 n5
            generalize w21.alloc (.cells #[.string c.nm, .int .i64 c.ps, .slice a3 c.pf.length cap3, .int .i64 c.dc] 27) = WF at *
            generalize w21.heap.size = bq at *
            rotate_left
            have E : Hid (GS w (.slice a n cap) (.slice a6 l.length cap6) l nm ((((w21.setCell ⟨w20.heap.size, 0, none⟩ (.string c.nm)).setCell ⟨w20.heap.size, 1, none⟩ (.int .i64 c.ps)).setCell ⟨w20.heap.size, 2, none⟩ (.slice a3 c.pf.length cap3)).setCell ⟨w20.heap.size, 3, none⟩ (.int .i64 c.dc)) ∧ BX w20.heap.size ((((w21.setCell ⟨w20.heap.size, 0, none⟩ (.string c.nm)).setCell ⟨w20.heap.size, 1, none⟩ (.int .i64 c.ps)).setCell ⟨w20.heap.size, 2, none⟩ (.slice a3 c.pf.length cap3)).setCell ⟨w20.heap.size, 3, none⟩ (.int .i64 c.dc)) c a3 c.pf.length cap3) := Lib.hid ⟨A1.out.below ((((BB.out.setCell (Nat.le_refl _) _).setCell (Nat.le_refl _) _).setCell (Nat.le_refl _) _).setCell (Nat.le_refl _) _), BX.put rfl Q7.out hcl.out C2.out⟩
            clear A1 A2 C1 C2 A0 A0' Qn KF s2 s3 z20 z21 ne1 ne2 ne3 ne4 ne5 ne6 n4 n5 Q7 BB t0 t1 t2 t3 tf0 tf1 tf2 tf3
            generalize ((((w21.setCell ⟨w20.heap.size, 0, none⟩ (.string c.nm)).setCell ⟨w20.heap.size, 1, none⟩ (.int .i64 c.ps)).setCell ⟨w20.heap.size, 2, none⟩ (.slice a3 c.pf.length cap3)).setCell ⟨w20.heap.size, 3, none⟩ (.int .i64 c.dc)) = WF at *
            generalize w20.heap.size = bq at *
            rotate_left
            have E : Hid (GS w (.slice a n cap) (.slice a6 l.length cap6) l nm ((((w21.setCell ⟨wr.heap.size, 0, none⟩ (.string c.nm)).setCell ⟨wr.heap.size, 1, none⟩ (.int .i64 c.ps)).setCell ⟨wr.heap.size, 2, none⟩ (.slice a3 c.pf.length cap3)).setCell ⟨wr.heap.size, 3, none⟩ (.int .i64 c.dc)) ∧ BX wr.heap.size ((((w21.setCell ⟨wr.heap.size, 0, none⟩ (.string c.nm)).setCell ⟨wr.heap.size, 1, none⟩ (.int .i64 c.ps)).setCell ⟨wr.heap.size, 2, none⟩ (.slice a3 c.pf.length cap3)).setCell ⟨wr.heap.size, 3, none⟩ (.int .i64 c.dc)) c a3 c.pf.length cap3) := Lib.hid ⟨hG.out.below ((((BB.out.setCell (Nat.le_refl _) _).setCell (Nat.le_refl _) _).setCell (Nat.le_refl _) _).setCell (Nat.le_refl _) _), BX.put rfl Q7.out hcl.out C2.out⟩
            clear A1 A2 C1 C2 A0 A0' Qn KF s2 s3 z20 z21 ne1 ne2 ne3 ne4 ne5 ne6 n4 n5 Q7 BB t0 t1 t2 t3 tf0 tf1 tf2 tf3
            generalize ((((w21.setCell ⟨wr.heap.size, 0, none⟩ (.string c.nm)).setCell ⟨wr.heap.size, 1, none⟩ (.int .i64 c.ps)).setCell ⟨wr.heap.size, 2, none⟩ (.slice a3 c.pf.length cap3)).setCell ⟨wr.heap.size, 3, none⟩ (.int .i64 c.dc)) = WF at *
            generalize wr.heap.size = bq at *
            rotate_left
            all_goals
              obtain ⟨n1, n2, n3, n4, n5⟩ := E.out.1
              clear n1 n2 n3 n5
              go_wp2_with fail
              refine (HN.out _ _ _ E.out.1.2.1 E.out.1.2.2.2.2 E.out.1.2.2.2.1 (by omega)).mono ?_
              rintro e w22 ⟨rfl, gg⟩
              clear n4
              replace E := Lib.hid (And.intro (E.out.1.below gg) (E.out.2.below gg))
              clear gg
              cases HAS with
              | true =>
                obtain rfl := hH.out.1 rfl
                go_wp2
                go_returns
                exact ⟨rfl, E.out.1.1⟩
              | false =>
                obtain ⟨hF, hc⟩ := hH.out.2 rfl
                subst hF
                have ZC := Lib.hid (fun W => zck_v W)
                rw [← hc] at ZC
                replace hc := Lib.hid hc
                obtain ⟨x0, x1, x2, x3, _, _⟩ := E.out.2.1
                go_wp2_with fail
                refine (HS.out c (by rw [hc.out]; decide) _ _ _ E.out.2.2 (ZC.out _)).mono ?_
                rintro e w23 ⟨rfl, gg⟩
                have Y := Lib.hid (bel_trans E.out.1.1 gg)
                clear gg x0 x1 x2 x3
                go_wp2
                go_returns
                exact ⟨rfl, Y.out⟩
      · have g0 : (E != 0) = true := by simpa using h0
        go_wp2
        go_returns
        exact ⟨rfl, X.out.1⟩
theorem walk (v : Value) (l : List Ck) (nm : ByteArray) (w : World) (hv : Cks w v l) (hn : nm.size ≤ maxLen) (hw : CV w) :
    Calls Tryz.prog 9 #[v, .string nm] w fun e w' => e = .returned (.bool true) ∧ Below w.heap.size w w' := by
  have hv' := hv
  obtain ⟨a, cap, rfl, _⟩ := hv'
  refine core a l.length cap nm (fewB l) (liE l) (fiE l nm) (hasN l nm) (fiC l nm) l w (Lib.hid rfl) (Lib.hid fun h => (fewB_small h).1) (by unfold maxLen at hn; omega) (Lib.hid hv) (Lib.hid fun W hW => awake_any W (hw.below hW)) (Lib.hid fun W hW => refFew_any _ l W (hv.below hW)) (Lib.hid fun h W hW => copy_is _ l W (hv.below hW) h)
    (Lib.hid fun u W hu => cLi_any u l W hu) (Lib.hid fun h d hd => ?_) (Lib.hid fun h k hk u W hu => ?_) (Lib.hid fun h d hd u W hu => ?_) (Lib.hid fun h d hd a cap W hp => max_any ((liE_len h).2 d hd) a cap W hp) (Lib.hid fun d h u1 u2 W h1 h2 => ?_) (Lib.hid fun h h70 u W hu => (cFi_any u l nm W hu (by omega)).mono ?_) (Lib.hid fun h => find_len h nm) (Lib.hid fun h => find_has h nm) (Lib.hid fun q u W hu hq hx h1 => contains_n nm q u l W hu h1 hq hx)
  · obtain ⟨g1, g2, g3, g4, _⟩ := deep_is ((liE_len h).2 d hd)
    exact ⟨g1, g2, g3, g4⟩
  · obtain ⟨e1, e2⟩ := find_self h hk
    have := cFi_any u l l[k].nm W hu (by have := isNm_size (ccE_nm ((liE_len h).2 _ (List.getElem_mem hk))); omega)
    rw [e1, e2] at this
    refine this.mono ?_
    rintro e w' ⟨x, h1, ⟨a2, cap2, rfl, hr⟩, h3⟩
    exact ⟨a2, cap2, h1, ⟨a2, cap2, rfl, hr⟩, h3⟩
  · have hc := (liE_len h).2 d hd
    have := cDe_any u d W hu
    rw [hc, (deep_is hc).2.2.2.2] at this
    exact this
  · have := refSC_any u1 u2 _ _ W h1 h2 h
    rwa [show sameK d d = true by simp [sameK]] at this
  · rintro e w' ⟨x, h1, ⟨a2, cap2, rfl, hr⟩, h3⟩
    exact ⟨a2, cap2, h1, ⟨a2, cap2, rfl, hr⟩, h3⟩

set_option maxRecDepth 100000 in
theorem contract (H : Type) (enc : TypeId × Value → H) (W : World) (base : Nat) (args : Array Value) (ds gs : List (DataW H)) (before : List MemPlace)
    (hval : ∀ (j : Nat) t v, Tryz.f9.params[j]? = some t → args[j]? = some v → Value.okWide Tryz.prog W .any base t v)
    (hW : DataW.Whole enc Tryz.prog Tryz.f9.params.toList Rows.caskFindsSpec.vars false W args.toList ds gs before) (hL : laidMetH Tryz.prog Rows.caskFindsRow.laid W) (hSh : W.ShapedOpen Tryz.prog) :
    Calls Tryz.prog 9 args W fun e W' => ∃ v, e = .returned v ∧ Rows.caskFindsSpec.post enc Tryz.prog Tryz.f9 false true false false W args v W' := by
  have hW' := hW
  obtain ⟨p, q, hA0, hV, rfl, hfz, hnd⟩ := hW
  have hA : DataW.TrodAll enc Tryz.prog W 0 (fun _ => true) true Tryz.f9.params.toList args.toList ds p := hA0
  rw [Tryz.params9] at hA hval
  obtain ⟨v0, vs0, d0, ds0, p0, q0, hargs, rfl, rfl, h0, r0⟩ := trodAll_cons hA
  obtain ⟨v1, vs1, d1, ds1, p1, q1, rfl, rfl, rfl, h1, r1⟩ := trodAll_cons r0
  obtain ⟨rfl, rfl, rfl⟩ := trodAll_nil r1
  obtain rfl : args = #[v0, v1] := by cases args; simp_all
  obtain ⟨rfl, rfl⟩ := trodVars_none hV
  have k0 := h0
  have lt0 : ∀ x ∈ p0, x.block < W.heap.size := by obtain ⟨m, hm⟩ := k0; exact DataW.trod_lt m _ _ _ hm
  have k1 := h1
  have lt1 : ∀ x ∈ p1, x.block < W.heap.size := by obtain ⟨m, hm⟩ := k1; exact DataW.trod_lt m _ _ _ hm
  obtain ⟨z0, w0⟩ := open_cks (hval 0 22 v0 rfl rfl) h0
  obtain ⟨a1, rfl, rfl, rfl, w1⟩ := open_string Tryz.underlying9 (hval 1 9 v1 rfl rfl) h1
  clear hA0
  refine (walk v0 z0 a1 W w0 w1 (laid_of rfl hL hSh)).mono fun e W' ⟨he, bel⟩ => ?_
  subst he
  exact ⟨_, rfl, _, _, _, [], _, [], hW', trodAll_mk1 (shut_bool Tryz.underlying4 _), (trodAll_cons_mk (Below.trod laidOut (by kernel_rfl) (of_decide_eq_true (by kernel_rfl)) k0 bel lt0) (trodAll_cons_mk (Below.trod laidOut (by kernel_rfl) (of_decide_eq_true (by kernel_rfl)) k1 bel lt1) trodAll_mk0)), rfl, bel.frame _, fun h => by cases h⟩

noncomputable def laidWorld (os : Os) : World := World.laidAll Tryz.prog os Rows.caskFindsRow.laid
theorem laid_met (os : Os) : laidMet Tryz.prog Rows.caskFindsRow.laid ((laidWorld os).forCall (fun _ _ => 0) ⟨#[], #[.slice none 0 0, .string ByteArray.empty], []⟩).memory :=
  laidMet_laidAll _ (by kernel_rfl) (by kernel_rfl)
theorem reads (os : Os) {H : Type} (enc : TypeId × Value → H) : ∃ places, DataW.whole enc Tryz.prog ((laidWorld os).forCall (fun _ _ => 0) ⟨#[], #[.slice none 0 0, .string ByteArray.empty], []⟩).memory Tryz.f9.params.toList Rows.caskFindsSpec.vars false (#[.slice none 0 0, .string ByteArray.empty] : Array Value).toList 8 = some ([.nil, .lit (.string [])], [], places) :=
  ⟨[], by kernel_rfl⟩

set_option maxRecDepth 100000 in
theorem lifted (os : Os) (started : os.Started) (H : Type) (enc : TypeId × Value → H) (F : Stop.Interp) :
    ReturnsInHanded {} Tryz.checked os 9 .any ((OpenSpec.ofChange Rows.caskFindsSpec).preRow enc Tryz.prog Tryz.f9 Rows.caskFindsRow.domain false Rows.caskFindsRow.laid) (((OpenSpec.ofChange Rows.caskFindsSpec).at F).post enc Tryz.prog Tryz.f9 false true false false) := by
  obtain ⟨places, hx⟩ := reads os enc
  refine returnsInHanded_of_row (C := Tryz.checked) (s := OpenSpec.ofChange Rows.caskFindsSpec) own started (by kernel_rfl) Tryz.func9
    (witness_row_at (enc := enc) (C := Tryz.checked) false (laidWorld os) #[.slice none 0 0, .string ByteArray.empty] (World.laidAll_os _ _ _) (by kernel_rfl) (by kernel_rfl) (by kernel_rfl)
      (OpenSpec.preRow_of_cond 8 hx (by kernel_rfl) (fun k hk => by cases hk) (by kernel_rfl) (laid_met os))) ?_
  intro W base args ds gs before hval hW _ _ _ hL hSh _
  exact contract H enc W base args ds gs before hval hW hL hSh

theorem said : Rows.CaskFindsSaid :=
  OpenClaim.holds_of_cond 9 Tryz.f9 rfl rfl rfl rfl rfl rfl rfl ⟨rfl, rfl, rfl, rfl, rfl⟩ rfl rfl rfl rfl rfl (by kernel_rfl) Tryz.func9 (by kernel_rfl)
    (of_decide_eq_true (by kernel_rfl)) (by unfold Func.isWrapper; first | (rw [if_pos (by decide +kernel)]; kernel_rfl) | (rw [if_neg (by decide +kernel)]; exact ⟨rfl, rfl⟩))
    (fun os started H enc _ F => by rw [OpenClaim.pre_eq_preRow]; exact lifted os started H enc F)

theorem plain (f : FuncId) (fn : Func) (hf : Tryz.pinned.checked.prog.funcNamed "spile/spilelaw09.CaskFinds" = some f) (hfn : Tryz.pinned.checked.prog.funcs[f]? = some fn) :
    true = Tryz.pinned.checked.prog.looks [] ∧ ∀ (j : Nat) t, fn.params[j]? = some t → Tryz.pinned.checked.prog.wantsStandIn t = false := by
  obtain rfl : f = 9 := Option.some.inj ((show Tryz.prog.funcNamed "spile/spilelaw09.CaskFinds" = some 9 by kernel_rfl).symm.trans hf) |>.symm
  obtain rfl : fn = Tryz.f9 := (Option.some.inj (Tryz.func9.symm.trans hfn)).symm
  refine ⟨by kernel_rfl, fun j t ht => ?_⟩
  rw [Tryz.params9] at ht
  rcases j with _ | _ | j
  · obtain rfl : t = 22 := by simpa using ht.symm
    exact (show Tryz.prog.wantsStandIn 22 = false by kernel_rfl)
  · obtain rfl : t = 9 := by simpa using ht.symm
    exact (show Tryz.prog.wantsStandIn 9 = false by kernel_rfl)
  · simp at ht

theorem proved : Rows.CaskFindsCardSaid :=
  Claim7.holds_tied_plain_at .later [] _ _ _ _ said (fun _ h => by cases h) (by kernel_rfl) (fun _ h => by cases h) caskFinds_row_tie rfl ⟨rfl, rfl⟩ (by kernel_rfl) rfl plain (by kernel_rfl)
#print axioms proved
end Go.Proofs.YtpnlfeljmpfeoaaGreatDoor.caskFinds
