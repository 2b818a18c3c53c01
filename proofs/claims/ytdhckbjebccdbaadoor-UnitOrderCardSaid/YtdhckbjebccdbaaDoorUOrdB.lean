/- UnitOrder: two quantities that are joined. -/
import Derived.Test.YtdhckbjebccdbaaDoorULaw
import Derived.Test.YtdhckbjebccdbaaDoorUOM
import Derived.Test.YtdhckbjebccdbaaDoorUClone
import Derived.Deep.RegionHeld3
import Derived.Deep.DrawnRows
import Derived.Deep.RegionLaw
namespace Go.Proofs.YtdhckbjebccdbaaDoor.unitOrder
open Go.ChangeShapes Go.WideShapes Go.ChangeAt Go.RowKit
theorem step_append_own {P : Program} (w : World) {ops : Array Oper} {o : Oper} {a : Act} {K : Act → World → Prop} {Q : Exit → Act → World → Prop} {E : Prop} (hgd : o.guard = none) (s x : Operand) (t : TypeId)
    (ho : o.op = .call { callee := .builtin .append, args := #[s, x], argTypes := #[t, t] })
    (base : Nat) (e : TypeId) (i : TypeInfo) (z : Value) (size bytes : Nat) (ht : P.underlying t = some (.slice e)) (hi : P.info? e = some i) (hz : i.zero = some z)
    (hsize : i.size = size) (hby : i.bytes = bytes) (hzs : z.cells.size = size) (hsz : 0 < size)
    (v : Value) (n : Nat) (xs : List Value) (hs : a.eval s = v) (hown : w.ownsRow base e size v n xs)
    (ad : Addr) (m c : Nat) (news : List Value) (hx : a.eval x = .slice (some ad) m c) (hl : news.length = m * size) (hnews : ∀ j u, news[j]? = some u → w.cell? (ad.add j) = some u) (h1 : ∀ u ∈ news, u.oneCell' = true)
    (h63 : n + m ≤ maxLen) (hbytes : (n + m) * bytes ≤ 140737488355328) (hbase : base ≤ w.heap.size)
    (h : ∀ v' w', w'.ownsRow base e size v' (n + m) (xs ++ news) → w.grownBy w' v.ownBlock → K (a.put o.dst v') w') :
    if Region.wanted o (yielded ops a.tmps) = true then Oper.wp P o a w K Q else E := by
  rw [if_pos (by simp [Region.wanted, hgd])]
  exact wp_append_own w s x t ho base e i z size bytes ht hi hz hsize hby hzs hsz v n xs hs hown ad m c news hx hl hnews h1 h63 hbytes hbase fun v' w' g1 g2 _ => h v' w' g1 g2

theorem own_cons {w : World} {B m : Nat} {v : Value} {k a : Int} {l : List (Int × Int)} (h : w.ownsRow B 23 2 v (1 + m) ([.int .i64 k, .int .i64 a] ++ flat l)) (hm : l.length = m) : Own2 w B v ((k, a) :: l) := by
  unfold Own2
  rw [List.length_cons, hm, Nat.add_comm]
  exact h
theorem two_far {w w' : World} {z : Nat} {x y : Value} {row : Option Nat} (h : Two z w x y) (hg : w.grownBy w' row) (hne : some z ≠ row) : Two z w' x y := by
  obtain ⟨h0, h1, h2, h3, h4⟩ := h
  have e := hg.block z h4 hne
  refine ⟨?_, ?_, ?_, ?_, Nat.lt_of_lt_of_le h4 hg.size⟩
  · rw [World.cell?_of_block (w := w) (a := ⟨z, 0, none⟩) e]; exact h0
  · rw [World.cell?_of_block (w := w) (a := ⟨z, 1, none⟩) e]; exact h1
  · rw [World.frozen?_of_block (w := w) (a := ⟨z, 0, none⟩) e]; exact h2
  · rw [World.frozen?_of_block (w := w) (a := ⟨z, 1, none⟩) e]; exact h3
theorem own_one (W : World) (B : Nat) (k a : Int) (hb : B ≤ W.heap.size) : (W.alloc (.cells #[.int .i64 k, .int .i64 a] 23)).ownsRow B 23 2 (.slice (some ⟨W.heap.size, 0, none⟩) 1 1) 1 [.int .i64 k, .int .i64 a] :=
  ⟨rfl, .inr ⟨W.heap.size, 1, #[.int .i64 k, .int .i64 a], rfl, hb, heap_alloc_new W _, by omega, by unfold maxLen; omega, rfl, rfl⟩⟩

set_option maxRecDepth 100000 in
set_option maxHeartbeats 8000000 in
theorem order_b (b off n cap : Nat) (l : List (Int × Int)) (K A K2 A2 E2 K3 A3 : Int) (w : World) (h : n ≤ 65) (hn2 : 2 ≤ n) (hcap3 : ¬ cap = 2) (hcap : n ≤ cap) (hcap2 : cap ≤ 9223372036854775807)
    (hv : Hid (Qs w (.slice (some ⟨b, off, none⟩) n cap) l))
    (HA : Hid (∀ W, Below w.heap.size w W → Calls Tryd.prog 10 #[] W fun e w' => e = .returned (.bool true) ∧ Below W.heap.size W w'))
    (HC : Hid (∀ W, Qs W (.slice (some ⟨b, off, none⟩) n cap) l → Calls Tryd.prog 22 #[.slice (some ⟨b, off, none⟩) n cap] W fun e w' => ∃ u, e = .returned u ∧ Own2 w' W.heap.size u l ∧ Below W.heap.size W w'))
    (HS : Hid (∀ u W, Below w.heap.size w W → Qs W u l → Calls Tryd.prog 21 #[u] W fun e w' => e = .returned (.tuple #[.agg #[.int .i64 K, .int .i64 A], .int .i64 0]) ∧ Below W.heap.size W w'))
    (HV : Hid (∀ u W0 W B, Own2 W B u l → Below B W0 W → Calls Tryd.prog 27 #[u] W fun e w' => e = .returned (.tuple #[]) ∧ Qs w' u l.reverse ∧ Below B W0 w'))
    (HT : Hid (∀ u W, Below w.heap.size w W → Qs W u l.reverse → Calls Tryd.prog 21 #[u] W fun e w' => e = .returned (.tuple #[.agg #[.int .i64 K2, .int .i64 A2], .int .i64 E2]) ∧ Below W.heap.size W w'))
    (HC2 : Hid (∀ W, Qs W (.slice (some ⟨b, off, none⟩) 2 cap) (l.take 2) → Calls Tryd.prog 22 #[.slice (some ⟨b, off, none⟩) 2 cap] W fun e w' => ∃ u, e = .returned u ∧ Qs w' u (l.take 2) ∧ Below W.heap.size W w'))
    (HS2 : Hid (∀ u W, Below w.heap.size w W → Qs W u (l.take 2) → Calls Tryd.prog 21 #[u] W fun e w' => e = .returned (.tuple #[.agg #[.int .i64 K3, .int .i64 A3], .int .i64 0]) ∧ Below W.heap.size W w'))
    (HS3 : Hid (∀ u W, Below w.heap.size w W → Qs W u ((K3, A3) :: l.drop 2) → Calls Tryd.prog 21 #[u] W fun e w' => e = .returned (.tuple #[.agg #[.int .i64 K, .int .i64 A], .int .i64 0]) ∧ Below W.heap.size W w'))
    (hv2 : Hid (Qs w (.slice (some ⟨b, off, none⟩) 2 cap) (l.take 2))) (hb : b < w.heap.size)
    (hc : Hid (∀ j u, (flat (l.drop 2))[j]? = some u → w.cell? ⟨b, off + 4 + j, none⟩ = some u)) (hl : l.length = n)
    (h1 : Hid ((E2 = 0 ∧ K2 = K ∧ A2 = A) ∨ E2 = 15)) :
    Calls Tryd.prog 9 #[.slice (some ⟨b, off, none⟩) n cap] w fun e w' => e = .returned (.bool true) ∧ Below w.heap.size w w' := by
  have hl2 : (flat (l.drop 2)).length = (n - 2) * 2 := by rw [flat_len, List.length_drop, hl]
  have HL := Lib.hid hl2
  clear hl2
  go_enter Tryd.func9, Tryd.ntmps9
  go_wp2_with fail
  refine (HA.out _ (Below.refl _ _)).mono ?_
  rintro e w1 ⟨rfl, gg⟩
  have X1 := Lib.hid gg; clear gg
  go_wp2_with fail
  refine (HC.out _ (hv.out.below X1.out)).mono ?_
  rintro e w2 ⟨u1, rfl, hu, gg⟩
  replace X1 := Lib.hid (bel_trans X1.out gg); clear gg
  have HU := Lib.hid hu.qs; clear hu
  go_wp2_with fail
  refine (HS.out _ _ X1.out HU.out).mono ?_
  rintro e w3 ⟨rfl, gg⟩
  replace X1 := Lib.hid (bel_trans X1.out gg); clear gg HU
  go_wp2_with fail
  have T1 := Lib.hid (Two.new w3 (.int .i64 K) (.int .i64 A) 23)
  replace X1 := Lib.hid (bel_trans X1.out (bel_alloc (Below.refl (w3.alloc (.cells #[.int .i64 K, .int .i64 A] 23)).heap.size _)))
  refine (HC.out _ (hv.out.below X1.out)).mono ?_
  rintro e w4 ⟨u2, rfl, hu, gg⟩
  have HU := Lib.hid (HV.out u2 _ w4 _ hu gg)
  clear hu gg
  go_wp2_with fail
  refine HU.out.mono ?_
  rintro e w5 ⟨rfl, hq, gg⟩
  clear HU
  have HU := Lib.hid hq
  replace T1 := Lib.hid (T1.out.below gg)
  replace X1 := Lib.hid (bel_trans X1.out gg); clear gg hq
  go_wp2_with fail
  refine (HT.out _ _ X1.out HU.out).mono ?_
  rintro e w6 ⟨rfl, gg⟩
  clear HU
  replace T1 := Lib.hid (T1.out.below gg)
  replace X1 := Lib.hid (bel_trans X1.out gg); clear gg HC HS HV HT HA
  have HQ1 := fun W => run_neq_qty K A K A W
  rw [show (!samQ K A K A) = false by simp [samQ]] at HQ1
  have HQ3 := fun W => run_eql_qty K A K A W
  rw [show samQ K A K A = true by simp [samQ]] at HQ3
  rcases h1.out with ⟨rfl, rfl, rfl⟩ | rfl
  all_goals
    clear h1
    obtain ⟨p0, p1, _, _, hlt⟩ := T1.out
    go_wp2_with fail
    have T1' := Lib.hid (T1.out.alloc (.cells #[.int .i64 K2, .int .i64 A2] 23))
    replace X1 := Lib.hid (bel_trans X1.out (bel_alloc (Below.refl (w6.alloc (.cells #[.int .i64 K2, .int .i64 A2] 23)).heap.size _)))
    clear p0 p1 hlt T1
    refine (HC2.out _ (hv2.out.below X1.out)).mono ?_
    rintro e w7 ⟨u3, rfl, hu, gg⟩
    replace T1' := Lib.hid (T1'.out.below gg)
    replace X1 := Lib.hid (bel_trans X1.out gg); clear gg
    have HU := Lib.hid hu; clear hu
    go_wp2_with fail
    refine (HS2.out _ _ X1.out HU.out).mono ?_
    rintro e w8 ⟨rfl, gg⟩
    replace T1' := Lib.hid (T1'.out.below gg)
    replace X1 := Lib.hid (bel_trans X1.out gg); clear gg HU HS2 HC2
    go_wp2_with fail
    have T3 := Lib.hid (Two.new w8 (.int .i64 K3) (.int .i64 A3) 23)
    have T1a := Lib.hid (T1'.out.alloc (.cells #[.int .i64 K3, .int .i64 A3] 23))
    have X9 := Lib.hid (bel_trans X1.out (bel_alloc (Below.refl (w8.alloc (.cells #[.int .i64 K3, .int .i64 A3] 23)).heap.size _)))
    obtain ⟨i0, hi0, hz0, hz1, hz2⟩ := info_parts qty_info
    have hmx : 1 + (n - 2) ≤ maxLen := by unfold maxLen; omega
    have hbx : (1 + (n - 2)) * 16 ≤ 140737488355328 := by omega
    have HF := Lib.hid (flat_one (l.drop 2))
    have hw8 : w.heap.size ≤ w8.heap.size := X1.out.size
    have hln : Hid ((l.drop 2).length = n - 2) := by show _ = _; rw [List.length_drop, hl]
    have hbsa : w.heap.size ≤ ((w8.alloc (.cells #[.int .i64 K3, .int .i64 A3] 23)).drew.alloc (.cells #[.int .i64 K3, .int .i64 A3] 23)).heap.size := by simp; omega
    have XDa : Hid (Below (w8.alloc (.cells #[.int .i64 K3, .int .i64 A3] 23)).heap.size (w8.alloc (.cells #[.int .i64 K3, .int .i64 A3] 23)) ((w8.alloc (.cells #[.int .i64 K3, .int .i64 A3] 23)).drew.alloc (.cells #[.int .i64 K3, .int .i64 A3] 23))) := bel_trans (bel_drew _) (bel_alloc (Below.refl ((w8.alloc (.cells #[.int .i64 K3, .int .i64 A3] 23)).drew.alloc (.cells #[.int .i64 K3, .int .i64 A3] 23)).heap.size ((w8.alloc (.cells #[.int .i64 K3, .int .i64 A3] 23)).drew.alloc (.cells #[.int .i64 K3, .int .i64 A3] 23))))
    have HOa : Hid (((w8.alloc (.cells #[.int .i64 K3, .int .i64 A3] 23)).drew.alloc (.cells #[.int .i64 K3, .int .i64 A3] 23)).ownsRow w.heap.size 23 2 (.slice (some ⟨w8.heap.size + 1, 0, none⟩) 1 1) 1 [.int .i64 K3, .int .i64 A3]) := by
      have := own_one (w8.alloc (.cells #[.int .i64 K3, .int .i64 A3] 23)).drew w.heap.size K3 A3 (by simp; omega)
      show World.ownsRow _ _ _ _ _ _ _
      simpa using this
    have XBa := Lib.hid (bel_trans X9.out XDa.out)
    have HNa : Hid (∀ j u, (flat (l.drop 2))[j]? = some u → ((w8.alloc (.cells #[.int .i64 K3, .int .i64 A3] 23)).drew.alloc (.cells #[.int .i64 K3, .int .i64 A3] 23)).cell? ((⟨b, off + 4, none⟩ : Addr).add j) = some u) := fun j u hj => by
      rw [Go.WideShapes.add_plain, (bcell XBa.out).1 _ _ hb]
      exact hc.out j u hj
    have Hk0a : Hid (((w8.alloc (.cells #[.int .i64 K3, .int .i64 A3] 23)).drew.alloc (.cells #[.int .i64 K3, .int .i64 A3] 23)).cell? ⟨w8.heap.size, 0, none⟩ = some (.int .i64 K3)) := by show _ = _; rw [(bcell XDa.out).1 _ _ (by simp)]; exact T3.out.1
    have Hk1a : Hid (((w8.alloc (.cells #[.int .i64 K3, .int .i64 A3] 23)).drew.alloc (.cells #[.int .i64 K3, .int .i64 A3] 23)).cell? ⟨w8.heap.size, 1, none⟩ = some (.int .i64 A3)) := by show _ = _; rw [(bcell XDa.out).1 _ _ (by simp)]; exact T3.out.2.1
    have hbsb : w.heap.size ≤ (((w8.alloc (.cells #[.int .i64 K3, .int .i64 A3] 23)).drew.alloc (.cells #[.int .i64 0, .int .i64 0] 23)).alloc (.cells #[.int .i64 K3, .int .i64 A3] 23)).heap.size := by simp; omega
    have XDb : Hid (Below (w8.alloc (.cells #[.int .i64 K3, .int .i64 A3] 23)).heap.size (w8.alloc (.cells #[.int .i64 K3, .int .i64 A3] 23)) (((w8.alloc (.cells #[.int .i64 K3, .int .i64 A3] 23)).drew.alloc (.cells #[.int .i64 0, .int .i64 0] 23)).alloc (.cells #[.int .i64 K3, .int .i64 A3] 23))) := bel_trans (bel_drew _) (bel_alloc (bel_alloc (Below.refl (((w8.alloc (.cells #[.int .i64 K3, .int .i64 A3] 23)).drew.alloc (.cells #[.int .i64 0, .int .i64 0] 23)).alloc (.cells #[.int .i64 K3, .int .i64 A3] 23)).heap.size (((w8.alloc (.cells #[.int .i64 K3, .int .i64 A3] 23)).drew.alloc (.cells #[.int .i64 0, .int .i64 0] 23)).alloc (.cells #[.int .i64 K3, .int .i64 A3] 23)))))
    have HOb : Hid ((((w8.alloc (.cells #[.int .i64 K3, .int .i64 A3] 23)).drew.alloc (.cells #[.int .i64 0, .int .i64 0] 23)).alloc (.cells #[.int .i64 K3, .int .i64 A3] 23)).ownsRow w.heap.size 23 2 (.slice (some ⟨w8.heap.size + 1 + 1, 0, none⟩) 1 1) 1 [.int .i64 K3, .int .i64 A3]) := by
      have := own_one ((w8.alloc (.cells #[.int .i64 K3, .int .i64 A3] 23)).drew.alloc (.cells #[.int .i64 0, .int .i64 0] 23)) w.heap.size K3 A3 (by simp; omega)
      show World.ownsRow _ _ _ _ _ _ _
      simpa using this
    have XBb := Lib.hid (bel_trans X9.out XDb.out)
    have HNb : Hid (∀ j u, (flat (l.drop 2))[j]? = some u → (((w8.alloc (.cells #[.int .i64 K3, .int .i64 A3] 23)).drew.alloc (.cells #[.int .i64 0, .int .i64 0] 23)).alloc (.cells #[.int .i64 K3, .int .i64 A3] 23)).cell? ((⟨b, off + 4, none⟩ : Addr).add j) = some u) := fun j u hj => by
      rw [Go.WideShapes.add_plain, (bcell XBb.out).1 _ _ hb]
      exact hc.out j u hj
    have Hk0b : Hid ((((w8.alloc (.cells #[.int .i64 K3, .int .i64 A3] 23)).drew.alloc (.cells #[.int .i64 0, .int .i64 0] 23)).alloc (.cells #[.int .i64 K3, .int .i64 A3] 23)).cell? ⟨w8.heap.size, 0, none⟩ = some (.int .i64 K3)) := by show _ = _; rw [(bcell XDb.out).1 _ _ (by simp)]; exact T3.out.1
    have Hk1b : Hid ((((w8.alloc (.cells #[.int .i64 K3, .int .i64 A3] 23)).drew.alloc (.cells #[.int .i64 0, .int .i64 0] 23)).alloc (.cells #[.int .i64 K3, .int .i64 A3] 23)).cell? ⟨w8.heap.size, 1, none⟩ = some (.int .i64 A3)) := by show _ = _; rw [(bcell XDb.out).1 _ _ (by simp)]; exact T3.out.2.1
    have hbsc : w.heap.size ≤ (((w8.alloc (.cells #[.int .i64 K3, .int .i64 A3] 23)).drew.alloc (.cells #[.int .i64 K3, .int .i64 A3] 23)).alloc (.cells #[.int .i64 0, .int .i64 0] 23)).heap.size := by simp; omega
    have XDc : Hid (Below (w8.alloc (.cells #[.int .i64 K3, .int .i64 A3] 23)).heap.size (w8.alloc (.cells #[.int .i64 K3, .int .i64 A3] 23)) (((w8.alloc (.cells #[.int .i64 K3, .int .i64 A3] 23)).drew.alloc (.cells #[.int .i64 K3, .int .i64 A3] 23)).alloc (.cells #[.int .i64 0, .int .i64 0] 23))) := bel_trans (bel_drew _) (bel_alloc (bel_alloc (Below.refl (((w8.alloc (.cells #[.int .i64 K3, .int .i64 A3] 23)).drew.alloc (.cells #[.int .i64 K3, .int .i64 A3] 23)).alloc (.cells #[.int .i64 0, .int .i64 0] 23)).heap.size (((w8.alloc (.cells #[.int .i64 K3, .int .i64 A3] 23)).drew.alloc (.cells #[.int .i64 K3, .int .i64 A3] 23)).alloc (.cells #[.int .i64 0, .int .i64 0] 23)))))
    have HOc : Hid ((((w8.alloc (.cells #[.int .i64 K3, .int .i64 A3] 23)).drew.alloc (.cells #[.int .i64 K3, .int .i64 A3] 23)).alloc (.cells #[.int .i64 0, .int .i64 0] 23)).ownsRow w.heap.size 23 2 (.slice (some ⟨w8.heap.size + 1, 0, none⟩) 1 1) 1 [.int .i64 K3, .int .i64 A3]) := HOa.out.alloc _
    have XBc := Lib.hid (bel_trans X9.out XDc.out)
    have HNc : Hid (∀ j u, (flat (l.drop 2))[j]? = some u → (((w8.alloc (.cells #[.int .i64 K3, .int .i64 A3] 23)).drew.alloc (.cells #[.int .i64 K3, .int .i64 A3] 23)).alloc (.cells #[.int .i64 0, .int .i64 0] 23)).cell? ((⟨b, off + 4, none⟩ : Addr).add j) = some u) := fun j u hj => by
      rw [Go.WideShapes.add_plain, (bcell XBc.out).1 _ _ hb]
      exact hc.out j u hj
    have Hk0c : Hid ((((w8.alloc (.cells #[.int .i64 K3, .int .i64 A3] 23)).drew.alloc (.cells #[.int .i64 K3, .int .i64 A3] 23)).alloc (.cells #[.int .i64 0, .int .i64 0] 23)).cell? ⟨w8.heap.size, 0, none⟩ = some (.int .i64 K3)) := by show _ = _; rw [(bcell XDc.out).1 _ _ (by simp)]; exact T3.out.1
    have Hk1c : Hid ((((w8.alloc (.cells #[.int .i64 K3, .int .i64 A3] 23)).drew.alloc (.cells #[.int .i64 K3, .int .i64 A3] 23)).alloc (.cells #[.int .i64 0, .int .i64 0] 23)).cell? ⟨w8.heap.size, 1, none⟩ = some (.int .i64 A3)) := by show _ = _; rw [(bcell XDc.out).1 _ _ (by simp)]; exact T3.out.2.1
    have Yb : Hid (Two (w8.heap.size + 1) (((w8.alloc (.cells #[.int .i64 K3, .int .i64 A3] 23)).drew.alloc (.cells #[.int .i64 0, .int .i64 0] 23)).alloc (.cells #[.int .i64 K3, .int .i64 A3] 23)) (.int .i64 0) (.int .i64 0)) := by
      have := (Two.new (w8.alloc (.cells #[.int .i64 K3, .int .i64 A3] 23)).drew (.int .i64 0) (.int .i64 0) 23).alloc (.cells #[.int .i64 K3, .int .i64 A3] 23)
      show Two _ _ _ _
      simpa using this
    have Yc : Hid (Two (w8.heap.size + 1 + 1) (((w8.alloc (.cells #[.int .i64 K3, .int .i64 A3] 23)).drew.alloc (.cells #[.int .i64 K3, .int .i64 A3] 23)).alloc (.cells #[.int .i64 0, .int .i64 0] 23)) (.int .i64 0) (.int .i64 0)) := by
      have := Two.new ((w8.alloc (.cells #[.int .i64 K3, .int .i64 A3] 23)).drew.alloc (.cells #[.int .i64 K3, .int .i64 A3] 23)) (.int .i64 0) (.int .i64 0) 23
      show Two _ _ _ _
      simpa using this
    have hne2 : ¬ cap = 2 := hcap3
    have hn3 : ((n : Int) - 2).toNat = n - 2 := by omega
    have hnA : w8.heap.size ≠ w8.heap.size + 1 + 1 := by omega
    have hnB : w8.heap.size + 1 + 1 ≠ w8.heap.size := by omega
    have z3 : w3.heap.size < w8.heap.size := T1'.out.2.2.2.2
    have d0 := T3.out.1
    have d1 := T3.out.2.1
    go_region_held3 (fun w' => w'.cell? ⟨w8.heap.size, 0, none⟩ = some (.int .i64 K3) ∧ w'.cell? ⟨w8.heap.size, 1, none⟩ = some (.int .i64 A3)) (first | go_keep | exact ⟨c0.out, c1.out⟩)
      (first
        | (refine step_append_own _ rfl (.tmp 80) (.tmp 82) 36 rfl w.heap.size 23 i0 (.agg #[.int .i64 0, .int .i64 0]) 2 16 Tryd.underlying36 hi0 hz0 hz1 hz2 rfl (by omega) (.slice (some ⟨w8.heap.size + 1, 0, none⟩) 1 1) 1 [.int .i64 K3, .int .i64 A3] (by rfl) HOa.out ⟨b, off + 4, none⟩ (n - 2) (cap - 2) (flat (l.drop 2)) (by rfl) HL.out HNa.out HF.out hmx hbx hbsa ?_; intro v' w9 ho hg; have HQ9 := Lib.hid (own_cons ho hln.out).qs; have HB9 := Lib.hid (Below.grown (Below.refl (w8.heap.size + 1) _) hg (by simp) (by intro k hk; simp [Value.ownBlock] at hk; omega)); have c0 := Lib.hid ((HB9.out.cell (p := ⟨w8.heap.size, 0, none⟩) (by simp; try omega)).trans Hk0a.out); have c1 := Lib.hid ((HB9.out.cell (p := ⟨w8.heap.size, 1, none⟩) (by simp; try omega)).trans Hk1a.out); have X9b := Lib.hid (XBa.out.trans (HB9.out.mono (by omega))); have T9 := Lib.hid (T1a.out.below (XDa.out.trans (HB9.out.mono (by simp; try omega)))); have z9 := HB9.out.size; clear ho hg)
        | (refine step_append_own _ rfl (.tmp 80) (.tmp 82) 36 rfl w.heap.size 23 i0 (.agg #[.int .i64 0, .int .i64 0]) 2 16 Tryd.underlying36 hi0 hz0 hz1 hz2 rfl (by omega) (.slice (some ⟨w8.heap.size + 1 + 1, 0, none⟩) 1 1) 1 [.int .i64 K3, .int .i64 A3] (by rfl) HOb.out ⟨b, off + 4, none⟩ (n - 2) (cap - 2) (flat (l.drop 2)) (by rfl) HL.out HNb.out HF.out hmx hbx hbsb ?_; intro v' w9 ho hg; have HQ9 := Lib.hid (own_cons ho hln.out).qs; have HB9 := Lib.hid (Below.grown (Below.refl (w8.heap.size + 1 + 1) _) hg (by simp) (by intro k hk; simp [Value.ownBlock] at hk; omega)); have c0 := Lib.hid ((HB9.out.cell (p := ⟨w8.heap.size, 0, none⟩) (by simp; try omega)).trans Hk0b.out); have c1 := Lib.hid ((HB9.out.cell (p := ⟨w8.heap.size, 1, none⟩) (by simp; try omega)).trans Hk1b.out); have X9b := Lib.hid (XBb.out.trans (HB9.out.mono (by omega))); have T9 := Lib.hid (T1a.out.below (XDb.out.trans (HB9.out.mono (by simp; try omega)))); have z9 := HB9.out.size; have Y9 := Lib.hid (two_far Yb.out hg (by simp [Value.ownBlock])); clear ho hg)
        | (refine step_append_own _ rfl (.tmp 80) (.tmp 82) 36 rfl w.heap.size 23 i0 (.agg #[.int .i64 0, .int .i64 0]) 2 16 Tryd.underlying36 hi0 hz0 hz1 hz2 rfl (by omega) (.slice (some ⟨w8.heap.size + 1, 0, none⟩) 1 1) 1 [.int .i64 K3, .int .i64 A3] (by rfl) HOc.out ⟨b, off + 4, none⟩ (n - 2) (cap - 2) (flat (l.drop 2)) (by rfl) HL.out HNc.out HF.out hmx hbx hbsc ?_; intro v' w9 ho hg; have HQ9 := Lib.hid (own_cons ho hln.out).qs; have HB9 := Lib.hid (Below.grown (Below.refl (w8.heap.size + 1) _) hg (by simp) (by intro k hk; simp [Value.ownBlock] at hk; omega)); have c0 := Lib.hid ((HB9.out.cell (p := ⟨w8.heap.size, 0, none⟩) (by simp; try omega)).trans Hk0c.out); have c1 := Lib.hid ((HB9.out.cell (p := ⟨w8.heap.size, 1, none⟩) (by simp; try omega)).trans Hk1c.out); have X9b := Lib.hid (XBc.out.trans (HB9.out.mono (by omega))); have T9 := Lib.hid (T1a.out.below (XDc.out.trans (HB9.out.mono (by simp; try omega)))); have z9 := HB9.out.size; have Y9 := Lib.hid (two_far Yc.out hg (by simp [Value.ownBlock])); clear ho hg)
        | (go_at_call 21; (with_reducible refine (HS3.out _ _ X9b.out HQ9.out).mono ?_); rintro e w10 ⟨rfl, gg10⟩; have z8 : w8.heap.size < w9.heap.size := Nat.lt_of_lt_of_le (by simp; try omega) z9; have hne89 : w8.heap.size ≠ w9.heap.size := Nat.ne_of_lt z8; have hne98 : w9.heap.size ≠ w8.heap.size := Nat.ne_of_gt z8; have d0 := (gg10.cell (p := ⟨w8.heap.size, 0, none⟩) z8).trans c0.out; have d1 := (gg10.cell (p := ⟨w8.heap.size, 1, none⟩) z8).trans c1.out; have z10 : w8.heap.size < w10.heap.size := Nat.lt_of_lt_of_le z8 gg10.size; have Tz := Lib.hid (T9.out.below gg10); have Xz := Lib.hid (bel_trans X9b.out gg10); (try (obtain ⟨y0, y1, y2, y3, y4⟩ := Y9.out.below gg10)); clear c0 c1)
        | (go_at_call 21; (with_reducible refine (HS3.out _ _ (bel_trans X9b.out (bel_alloc (Below.refl (w9.alloc (.cells #[.int .i64 0, .int .i64 0] 23)).heap.size _))) (HQ9.out.below (bel_alloc (Below.refl (w9.alloc (.cells #[.int .i64 0, .int .i64 0] 23)).heap.size _)))).mono ?_); rintro e w10 ⟨rfl, gg10⟩; have gg9 := bel_alloc gg10; have z8 : w8.heap.size < w9.heap.size := Nat.lt_of_lt_of_le (by simp; try omega) z9; have hne89 : w8.heap.size ≠ w9.heap.size := Nat.ne_of_lt z8; have hne98 : w9.heap.size ≠ w8.heap.size := Nat.ne_of_gt z8; have d0 := (gg9.cell (p := ⟨w8.heap.size, 0, none⟩) z8).trans c0.out; have d1 := (gg9.cell (p := ⟨w8.heap.size, 1, none⟩) z8).trans c1.out; have z10 : w8.heap.size < w10.heap.size := Nat.lt_of_lt_of_le z8 gg9.size; have Tz := Lib.hid (T9.out.below gg9); have Xz := Lib.hid (bel_trans X9b.out gg9); obtain ⟨y0, y1, y2, y3, y4⟩ := (Two.new w9 (.int .i64 0) (.int .i64 0) 23).below gg10; clear c0 c1))
    all_goals
      obtain ⟨p0, p1, _, _, hlt⟩ := Tz.out
      have q1 : w3.heap.size ≠ w8.heap.size + 1 := by omega
      have q2 : w3.heap.size ≠ w8.heap.size + 1 + 1 := by omega
      have q3 : w3.heap.size ≠ w9.heap.size := by omega
      go_wp2
      go_ret
      first
        | exact ⟨rfl, bel_trans Xz.out (bel_alloc (Below.refl _ _))⟩
        | exact ⟨rfl, (Xz.out.setCell (Nat.le_trans hw8 (Nat.le_of_lt z8)) _).setCell (Nat.le_trans hw8 (Nat.le_of_lt z8)) _⟩
        | exact ⟨rfl, (Xz.out.setCell (by simp; omega) _).setCell (by simp; omega) _⟩
end Go.Proofs.YtdhckbjebccdbaaDoor.unitOrder
