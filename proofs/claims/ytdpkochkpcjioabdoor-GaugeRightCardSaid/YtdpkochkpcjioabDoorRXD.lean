/- The reference of layer 13: Copy. -/
import Derived.Test.YtdpkochkpcjioabDoorRXC
import Derived.Deep.RegionHeld3
import Derived.Deep.RegionLaw
namespace Go.Proofs.YtdpkochkpcjioabDoor
open Go.RowKit Go.Sort

theorem step_append_ownM {P : Program} (w : World) {ops : Array Oper} {o : Oper} {a : Act} {K : Act → World → Prop} {Q : Exit → Act → World → Prop} {E : Prop} (hgd : o.guard = none) (s x : Operand) (t : TypeId)
    (ho : o.op = .call { callee := .builtin .append, args := #[s, x], argTypes := #[t, t] })
    (base : Nat) (e : TypeId) (i : TypeInfo) (z : Value) (size bytes : Nat) (ht : P.underlying t = some (.slice e)) (hi : P.info? e = some i) (hz : i.zero = some z)
    (hsize : i.size = size) (hby : i.bytes = bytes) (hzs : z.cells.size = size) (hsz : 0 < size)
    (v : Value) (n : Nat) (xs : List Value) (hs : a.eval s = v) (hown : w.ownsRow base e size v n xs)
    (ad : Addr) (m c : Nat) (news : List Value) (hx : a.eval x = .slice (some ad) m c) (hl : news.length = m * size) (hnews : ∀ j u, news[j]? = some u → w.cell? (ad.add j) = some u) (h1 : ∀ u ∈ news, u.oneCell' = true)
    (h63 : n + m ≤ maxLen) (hbytes : (n + m) * bytes ≤ 140737488355328) (hbase : base ≤ w.heap.size)
    (h : ∀ v' w', w'.ownsRow base e size v' (n + m) (xs ++ news) → w.grownBy w' v.ownBlock → K (a.put o.dst v') w') :
    if Region.wanted o (yielded ops a.tmps) = true then Oper.wp P o a w K Q else E := by
  rw [if_pos (by simp [Region.wanted, hgd])]
  exact wp_append_own w s x t ho base e i z size bytes ht hi hz hsize hby hzs hsz v n xs hs hown ad m c news hx hl hnews h1 h63 hbytes hbase fun v' w' g1 g2 _ => h v' w' g1 g2

/-- what Copy keeps -/
def CpI (w : World) (x y : Value) (W : World) : Prop :=
  Two w.heap.size W x y ∧ Two (w.heap.size + 1) W (.slice none 0 0) (.int .i64 0) ∧ Below w.heap.size w W
theorem CpI.below {w : World} {x y : Value} {W W' : World} (h : CpI w x y W) (hb : Below W.heap.size W W') : CpI w x y W' := ⟨h.1.below hb, h.2.1.below hb, bel_trans h.2.2 hb⟩
theorem CpI.init (w : World) (x y : Value) (T U : TypeId) : CpI w x y ((w.alloc (.cells #[x, y] T)).alloc (.cells #[.slice none 0 0, .int .i64 0] U)) := by
  have h2 := Two.new (w.alloc (.cells #[x, y] T)) (.slice none 0 0) (.int .i64 0) U
  rw [World.size_alloc] at h2
  exact ⟨(Two.new w x y T).alloc _, h2, bel_alloc (bel_alloc (Below.refl _ _))⟩
theorem CpI.put {w : World} {x y : Value} {W : World} (h : CpI w x y W) (p q : Value) :
    Two (w.heap.size + 1) ((W.setCell ⟨w.heap.size + 1, 0, none⟩ p).setCell ⟨w.heap.size + 1, 1, none⟩ q) p q ∧ Below w.heap.size w ((W.setCell ⟨w.heap.size + 1, 0, none⟩ p).setCell ⟨w.heap.size + 1, 1, none⟩ q) :=
  ⟨(h.2.1.set0 p).set1 q, (h.2.2.setCell (p := ⟨w.heap.size + 1, 0, none⟩) (by show w.heap.size ≤ w.heap.size + 1; omega) _).setCell (p := ⟨w.heap.size + 1, 1, none⟩) (by show w.heap.size ≤ w.heap.size + 1; omega) _⟩
theorem two_grownM {w w' : World} {b : Nat} {o : Option Nat} {x y : Value} (h : Two b w x y) (hg : w.grownBy w' o) (hne : some b ≠ o) : Two b w' x y := by
  obtain ⟨h0, h1, h2, h3, h4⟩ := h
  have hb := hg.block b h4 hne
  exact ⟨(World.cell?_of_block hb).trans h0, (World.cell?_of_block hb).trans h1, (World.frozen?_of_block hb).trans h2, (World.frozen?_of_block hb).trans h3, Nat.lt_of_lt_of_le h4 hg.size⟩
theorem ownM_set {W : World} {B : Nat} {v : Value} {l : List (Int × Int)} (h : RM.OwnM W B v l) (p : Addr) (hp : p.block < B) (z : Value) : RM.OwnM (W.setCell p z) B v l := by
  obtain ⟨h1, h2⟩ := h
  refine ⟨h1, ?_⟩
  rcases h2 with ⟨h2, h3⟩ | ⟨g, cap, cur, h2, hg, hh, r⟩
  · exact .inl ⟨h2, h3⟩
  · refine .inr ⟨g, cap, cur, h2, hg, ?_, r⟩
    rw [Below.heap_setCell _ _ _ _ (by omega)]
    exact hh
set_option maxRecDepth 100000 in
set_option maxHeartbeats 8000000 in
theorem copy_some (ad : Addr) (n cap : Nat) (tol : Int) (l : List (Int × Int)) (w : World) (hn : Hid (n = l.length)) (n1 : n ≤ 1000)
    (hc : Hid (∀ W, Below w.heap.size w W → ∀ j u, (flat l)[j]? = some u → W.cell? (ad.add j) = some u)) :
    Calls Tryd.prog 13 #[.agg #[.slice (some ad) n cap, .int .i64 tol]] w fun e w' => ∃ u, e = .returned u ∧ TbV w' u l tol ∧ Below w.heap.size w w' := by
  obtain ⟨i0, hi, hz0, hz1, hz2⟩ := RM.info_parts RM.mk_info
  replace hi := Lib.hid hi
  replace hz0 := Lib.hid hz0
  replace hz1 := Lib.hid hz1
  replace hz2 := Lib.hid hz2
  have S00 := Lib.hid (CpI.init w (.slice (some ad) n cap) (.int .i64 tol) 24 24)
  have hl : (flat l).length = n * 2 := by rw [flat_len, hn.out]
  have M1 : Hid (0 + n ≤ maxLen) := Lib.hid (by unfold maxLen; omega)
  have M2 : Hid ((0 + n) * 16 ≤ 140737488355328) := Lib.hid (by omega)
  go_enter Tryd.func13, Tryd.ntmps13
  go_wp2_with fail
  obtain ⟨WA, hWA⟩ : ∃ WA, ((w.alloc (.cells #[.slice (some ad) n cap, .int .i64 tol] 24)).alloc (.cells #[.slice none 0 0, .int .i64 0] 24)) = WA := ⟨_, rfl⟩
  rw [hWA] at S00 ⊢
  have S0 := Lib.hid (S00.out.below (bel_drew _))
  have hsz : WA.heap.size = w.heap.size + 2 := by rw [← hWA]; simp
  clear hWA
  have SE : Hid (CpI w (.slice (some ad) n cap) (.int .i64 tol) (WA.alloc (.cells #[] 54)).drew) := Lib.hid (S00.out.below (bel_alloc (bel_drew _)))
  have OM : Hid ((WA.alloc (.cells #[] 54)).drew.ownsRow WA.heap.size 54 2 (.slice (some ⟨WA.heap.size, 0, none⟩) 0 0) 0 []) := Lib.hid (show (WA.alloc (.cells #[] 54)).ownsRow _ _ _ _ _ _ from World.ownsRow_made WA #[] 0 (Nat.le_refl _) (Nat.zero_le _) (by simp))
  have HB : Hid (WA.heap.size ≤ (WA.alloc (.cells #[] 54)).drew.heap.size) := Lib.hid (show WA.heap.size ≤ (WA.alloc (.cells #[] 54)).heap.size by simp)
  obtain ⟨⟨a0, a1, _, _, _⟩, ⟨z0, z1, zf0, zf1, _⟩, _⟩ := S0.out
  obtain ⟨⟨c0, c1, _, _, _⟩, ⟨y0, y1, yf0, yf1, _⟩, _⟩ := SE.out
  have nb0 : w.heap.size ≠ WA.heap.size := by omega
  have nb1 : w.heap.size + 1 ≠ WA.heap.size := by omega
  have nb2 : WA.heap.size ≠ w.heap.size := by omega
  have nb3 : WA.heap.size ≠ w.heap.size + 1 := by omega
  have nb5 : w.heap.size < WA.heap.size := by omega
  have nb6 : w.heap.size + 1 < WA.heap.size := by omega
  replace hsz := Lib.hid hsz
  go_region_held3 (fun w' => w'.cell? ⟨w.heap.size, 0, none⟩ = some (.slice (some ad) n cap) ∧ w'.cell? ⟨w.heap.size, 1, none⟩ = some (.int .i64 tol)) (go_keep) (first
    | (refine step_append_ownM _ rfl (.tmp 3) (.tmp 5) 22 rfl WA.heap.size 54 i0 (.agg #[.int .i64 0, .int .i64 0]) 2 16 Tryd.underlying22 hi.out hz0.out hz1.out hz2.out rfl (by omega) (.slice (some ⟨WA.heap.size, 0, none⟩) 0 0) 0 [] (by rfl) OM.out ad n cap (flat l) (by rfl) hl (hc.out _ SE.out.2.2) (flat_one l) M1.out M2.out HB.out ?_; intro v2 w4 hown hgrow; have HG : Hid (RM.OwnM w4 WA.heap.size v2 l) := Lib.hid (by unfold RM.OwnM; rw [← hn.out]; rw [Nat.zero_add] at hown; exact hown); have T4 := Lib.hid (two_grownM SE.out.1 hgrow (fun e => by simp [Value.ownBlock] at e; omega)); have T5 := Lib.hid (two_grownM SE.out.2.1 hgrow (fun e => by simp [Value.ownBlock] at e; omega)); have X4 := Lib.hid (SE.out.2.2.grown hgrow SE.out.2.2.size (fun r e => by simp [Value.ownBlock] at e; omega)); obtain ⟨d0, d1, _, _, _⟩ := T4.out; obtain ⟨x0, x1, xf0, xf1, _⟩ := T5.out; obtain ⟨av, cv, hv2⟩ := RM.shape HG.out; subst hv2; clear hown hgrow))
  all_goals
    go_wp2
    obtain ⟨⟨p0, p1, _, _, _⟩, BB⟩ := (show CpI w (.slice (some ad) n cap) (.int .i64 tol) w4 from ⟨T4.out, T5.out, X4.out⟩).put (.slice av l.length cv) (.int .i64 tol)
    refine bodyPost_ret (v := .agg #[.slice av l.length cv, .int .i64 tol]) (by simp [results, Tryd.results13, go_sem, p0, p1]) rfl ?_
    exact ⟨_, rfl, ⟨av, cv, rfl, RM.pts (ownM_set (ownM_set HG.out ⟨w.heap.size + 1, 0, none⟩ (by show w.heap.size + 1 < WA.heap.size; omega) _) ⟨w.heap.size + 1, 1, none⟩ (by show w.heap.size + 1 < WA.heap.size; omega) _)⟩, BB⟩
set_option maxRecDepth 100000 in
set_option maxHeartbeats 8000000 in
theorem copy_none (cap : Nat) (tol : Int) (w : World) :
    Calls Tryd.prog 13 #[.agg #[.slice none 0 cap, .int .i64 tol]] w fun e w' => ∃ u, e = .returned u ∧ TbV w' u [] tol ∧ Below w.heap.size w w' := by
  obtain ⟨i0, hi, hz0, hz1, hz2⟩ := RM.info_parts RM.mk_info
  have S00 := Lib.hid (CpI.init w (.slice none 0 cap) (.int .i64 tol) 24 24)
  go_enter Tryd.func13, Tryd.ntmps13
  go_wp2_with fail
  obtain ⟨WA, hWA⟩ : ∃ WA, ((w.alloc (.cells #[.slice none 0 cap, .int .i64 tol] 24)).alloc (.cells #[.slice none 0 0, .int .i64 0] 24)) = WA := ⟨_, rfl⟩
  rw [hWA] at S00 ⊢
  have hsz : WA.heap.size = w.heap.size + 2 := by rw [← hWA]; simp
  clear hWA
  have S0 := Lib.hid (S00.out.below (bel_drew _))
  have SE : Hid (CpI w (.slice none 0 cap) (.int .i64 tol) (WA.alloc (.cells #[] 54)).drew) := Lib.hid (S00.out.below (bel_alloc (bel_drew _)))
  obtain ⟨⟨a0, a1, _, _, _⟩, ⟨z0, z1, zf0, zf1, _⟩, _⟩ := S0.out
  obtain ⟨⟨c0, c1, _, _, _⟩, ⟨y0, y1, yf0, yf1, _⟩, _⟩ := SE.out
  have SG : Hid (CpI w (.slice none 0 cap) (.int .i64 tol) (WA.alloc (.cells #[] 54))) := Lib.hid (S00.out.below (bel_alloc (Below.refl _ _)))
  obtain ⟨⟨g0, g1, _, _, _⟩, ⟨h0, h1, hf0, hf1, _⟩, _⟩ := SG.out
  have nb0 : w.heap.size ≠ WA.heap.size := by omega
  have nb1 : w.heap.size + 1 ≠ WA.heap.size := by omega
  have nb2 : WA.heap.size ≠ w.heap.size := by omega
  have nb3 : WA.heap.size ≠ w.heap.size + 1 := by omega
  replace hsz := Lib.hid hsz
  have AP : ∀ (W : World) (ty : TypeId), (Builtin.append_ #[22, 22] ty #[.slice (some ⟨WA.heap.size, 0, none⟩) 0 0, .slice none 0 cap]).run Tryd.prog W = .ok (.slice (some ⟨WA.heap.size, 0, none⟩) 0 0) W := fun W ty => by
    simp [Builtin.append_, run_underlying Tryd.underlying22, sizeOf, typeInfo, hi, Builtin.lenOf, Builtin.firstCells, storeCells]
  go_region
  go_wp2
  obtain ⟨⟨p0, p1, _, _, _⟩, BB⟩ := SG.out.put (.slice (some ⟨WA.heap.size, 0, none⟩) 0 0) (.int .i64 tol)
  have q0 := p0
  have q1 := p1
  refine bodyPost_ret (v := .agg #[.slice (some ⟨WA.heap.size, 0, none⟩) 0 0, .int .i64 tol]) (by simp [results, Tryd.results13, go_sem, p0, p1]) rfl ?_
  exact ⟨_, rfl, ⟨_, 0, rfl, some ⟨WA.heap.size, 0, none⟩, 0, rfl, ⟨by simp, by omega⟩, .inl rfl⟩, bel_trans BB (bel_drew _)⟩
theorem copy_any (v : Value) (l : List (Int × Int)) (tol : Int) (w : World) (hv : TbV w v l tol) (n1 : l.length ≤ 1000) :
    Calls Tryd.prog 13 #[v] w fun e w' => ∃ u, e = .returned u ∧ TbV w' u l tol ∧ Below w.heap.size w w' := by
  obtain ⟨a, cap, rfl, hp⟩ := hv
  cases a with
  | none =>
    have hl : l = [] := by
      obtain ⟨_, _, e, _, h | ⟨b, off, hx, _⟩⟩ := hp
      · exact List.length_eq_zero_iff.1 h
      · simp only [Value.slice.injEq] at e; rw [← e.1] at hx; cases hx
    subst hl
    exact copy_none cap tol w
  | some ad =>
    obtain ⟨a', c', e, hcap, h⟩ := hp
    simp only [Value.slice.injEq, true_and] at e
    obtain ⟨rfl, rfl⟩ := e
    rcases h with h | ⟨b, off, hx, hb, hc⟩
    · refine copy_some ad _ cap tol l w (Lib.hid rfl) n1 (Lib.hid fun W hW j u hj => ?_)
      obtain rfl := List.length_eq_zero_iff.1 h
      simp [flat] at hj
    · obtain rfl := Option.some.inj hx
      refine copy_some ⟨b, off, none⟩ _ cap tol l w (Lib.hid rfl) n1 (Lib.hid fun W hW j u hj => ?_)
      obtain ⟨i, hi, ⟨rfl, rfl⟩ | ⟨rfl, rfl⟩⟩ := flat_inv l j u hj
      · rw [Go.WideShapes.add_plain]; exact cell_bel (hc i hi).1 hW
      · rw [Go.WideShapes.add_plain, ← Nat.add_assoc]; exact cell_bel (hc i hi).2 hW
end Go.Proofs.YtdpkochkpcjioabDoor

