/- Package proportion: Divide. -/
import Derived.Test.YtlpngfngdigchaaGive
namespace Go.Proofs.Ytlpngfngdigchaa
open Go.RowKit

/-! ### what Divide returns -/
def divQ (a : Int) (ws : List Int) : List Int := ws.map fun x => a * x / ws.sum
def divR (a : Int) (ws : List Int) : List Int := ws.map fun x => a * x % ws.sum
def divL (a : Int) (ws : List Int) : Nat := (a - (divQ a ws).sum).toNat
def divE (a : Int) (ws : List Int) : Int := if isAm a then totE ws else 2
def divP (a : Int) (ws : List Int) : List Int := if divE a ws = 0 then (give (divL a ws) (divQ a ws, divR a ws)).1 else []

theorem totE_zero {ws : List Int} (h : totE ws = 0) : 0 < ws.length ∧ ws.length ≤ 64 ∧ ws.all isAm = true ∧ isAm ws.sum = true ∧ 0 < ws.sum := by
  unfold totE at h
  split at h
  · omega
  · split at h
    · omega
    · split at h
      · rename_i h3
        split at h
        · rename_i h4
          split at h
          · omega
          · have := (isAm_iff _).1 h4
            exact ⟨by omega, by omega, h3, h4, by omega⟩
        · omega
      · omega

theorem div_sums (a s : Int) (ws : List Int) : (ws.map fun x => a * x / s).sum * s + (ws.map fun x => a * x % s).sum = a * ws.sum := by
  induction ws with
  | nil => simp
  | cons x ws ih =>
    simp only [List.map_cons, List.sum_cons, Int.mul_add, Int.add_mul]
    have := Int.emod_add_mul_ediv (a * x) s
    rw [Int.mul_comm s] at this
    omega

theorem mem_le_sum (ws : List Int) (h : ws.all isAm = true) (x : Int) (hx : x ∈ ws) : x ≤ ws.sum := by
  induction ws with
  | nil => cases hx
  | cons z ws ih =>
    simp only [List.all_cons, Bool.and_eq_true, isAm_iff] at h
    have := (sum_bd ws h.2).1
    simp only [List.sum_cons]
    rcases List.mem_cons.1 hx with rfl | hx
    · omega
    · have := ih h.2 hx; omega

/-- one weight's proportion is no error -/
theorem of_weight (a x : Int) (ws : List Int) (ha : isAm a = true) (ht : totE ws = 0) (hx : x ∈ ws) :
    ofE a x ws.sum = 0 ∧ ofQ a x ws.sum = a * x / ws.sum ∧ ofR a x ws.sum = a * x % ws.sum ∧ 0 ≤ a * x / ws.sum ∧ a * x / ws.sum ≤ a ∧ 0 ≤ a * x % ws.sum ∧ a * x % ws.sum < ws.sum := by
  obtain ⟨t1, t2, t3, t4, t5⟩ := totE_zero ht
  have hxa : isAm x = true := by rw [List.all_eq_true] at t3; exact t3 x hx
  have hxs := mem_le_sum ws t3 x hx
  obtain ⟨a0, a1⟩ := (isAm_iff a).1 ha
  obtain ⟨x0, x1⟩ := (isAm_iff x).1 hxa
  have hq : a * x / ws.sum ≤ a := by
    apply Int.le_of_lt_add_one
    apply Int.ediv_lt_of_lt_mul t5
    have : a * x ≤ a * ws.sum := Int.mul_le_mul_of_nonneg_left hxs a0
    rw [Int.add_mul]; omega
  have e : ofE a x ws.sum = 0 := by
    unfold ofE; rw [ha, hxa, t4]; simp only [Bool.and_self, if_true]
    rw [if_neg (by omega), if_pos (by omega)]
  exact ⟨e, by unfold ofQ; rw [if_pos e], by unfold ofR; rw [if_pos e], Int.ediv_nonneg (Int.mul_nonneg a0 x0) (by omega), hq, Int.emod_nonneg _ (by omega), Int.emod_lt_of_pos _ t5⟩

theorem sum_nonneg (l : List Int) (h : ∀ x ∈ l, 0 ≤ x) : 0 ≤ l.sum := by
  induction l with
  | nil => simp
  | cons z l ih => simp only [List.sum_cons]; have := h z (by simp); have := ih (fun x hx => h x (by simp [hx])); omega
theorem sum_lt (l : List Int) (s : Int) (h : ∀ x ∈ l, x < s) (hne : l ≠ []) : l.sum < s * l.length := by
  induction l with
  | nil => exact absurd rfl hne
  | cons z l ih =>
    simp only [List.sum_cons, List.length_cons]
    have h1 := h z (by simp)
    by_cases hl : l = []
    · subst hl; simp; omega
    · have := ih (fun x hx => h x (by simp [hx])) hl
      have e : s * ((l.length + 1 : Nat) : Int) = s * l.length + s := by
        rw [Int.natCast_add, Int.mul_add]; simp
      rw [e]; omega

/-- what is left is less than there are weights -/
theorem div_left (a : Int) (ws : List Int) (ha : isAm a = true) (ht : totE ws = 0) : (divQ a ws).sum ≤ a ∧ a - (divQ a ws).sum < ws.length ∧ (divL a ws : Int) = a - (divQ a ws).sum := by
  obtain ⟨t1, t2, t3, t4, t5⟩ := totE_zero ht
  have e := div_sums a ws.sum ws
  have r0 : 0 ≤ (divR a ws).sum := by
    apply sum_nonneg; intro x hx; unfold divR at hx
    obtain ⟨y, hy, rfl⟩ := List.mem_map.1 hx
    exact (of_weight a y ws ha ht hy).2.2.2.2.2.1
  have r1 : (divR a ws).sum < ws.sum * ws.length := by
    have := sum_lt (divR a ws) ws.sum (by
      intro x hx; unfold divR at hx
      obtain ⟨y, hy, rfl⟩ := List.mem_map.1 hx
      exact (of_weight a y ws ha ht hy).2.2.2.2.2.2) (by unfold divR; intro h; rw [List.map_eq_nil_iff] at h; subst h; simp at t1)
    simpa [divR] using this
  have e' : (divQ a ws).sum * ws.sum + (divR a ws).sum = a * ws.sum := e
  have h1 : (divQ a ws).sum ≤ a := by
    apply Int.not_lt.1; intro hlt
    have := Int.mul_lt_mul_of_pos_right hlt t5
    omega
  have h2 : a - (divQ a ws).sum < ws.length := by
    apply Int.not_le.1; intro hge
    have := Int.mul_le_mul_of_nonneg_right hge (show 0 ≤ ws.sum by omega)
    rw [Int.sub_mul, Int.mul_comm (ws.length : Int)] at this
    omega
  exact ⟨h1, h2, by unfold divL; omega⟩

theorem sum_take_le (l : List Int) (h : ∀ x ∈ l, 0 ≤ x) (k : Nat) : 0 ≤ (l.take k).sum ∧ (l.take k).sum ≤ l.sum := by
  have e : l.sum = (l.take k).sum + (l.drop k).sum := by rw [← List.sum_append, List.take_append_drop]
  have := sum_nonneg (l.take k) (fun x hx => h x (List.mem_of_mem_take hx))
  have := sum_nonneg (l.drop k) (fun x hx => h x (List.mem_of_mem_drop hx))
  omega

/-! ### a row that is filled from the left -/
def fillTo (qs : List Int) (k : Nat) : List Int := qs.take k ++ List.replicate (qs.length - k) 0
theorem fillTo_zero (qs : List Int) : fillTo qs 0 = List.replicate qs.length 0 := by simp [fillTo]
theorem fillTo_all (qs : List Int) (k : Nat) (h : qs.length ≤ k) : fillTo qs k = qs := by
  unfold fillTo; rw [List.take_of_length_le h, show qs.length - k = 0 by omega]; simp
theorem fillTo_set (qs : List Int) (k : Nat) (h : k < qs.length) : (fillTo qs k).set k (qs.getD k 0) = fillTo qs (k + 1) := by
  apply List.ext_getElem?
  intro i
  unfold fillTo
  rw [List.getElem?_set]
  have m1 : min k qs.length = k := by omega
  have m2 : min (k + 1) qs.length = k + 1 := by omega
  simp only [List.getElem?_append, List.length_append, List.length_take, List.length_replicate, List.getElem?_take, List.getElem?_replicate, m1, m2]
  by_cases h1 : k = i
  · subst h1
    rw [if_pos rfl, if_pos (by omega), if_pos (by omega), if_pos (by omega)]
    simp [List.getD, List.getElem?_eq_getElem h]
  · rw [if_neg h1]
    by_cases h2 : i < k
    · rw [if_pos (by omega), if_pos h2, if_pos (by omega), if_pos (by omega)]
    · rw [if_neg h2, if_neg (show ¬ i < k + 1 by omega)]
      congr 1
      rw [eq_iff_iff]; omega

theorem divQ_get (a : Int) (ws : List Int) (k : Nat) (h : k < ws.length) : (divQ a ws).getD k 0 = a * ws.getD k 0 / ws.sum := by
  simp [divQ, List.getD, List.getElem?_eq_getElem h]
theorem divR_get (a : Int) (ws : List Int) (k : Nat) (h : k < ws.length) : (divR a ws).getD k 0 = a * ws.getD k 0 % ws.sum := by
  simp [divR, List.getD, List.getElem?_eq_getElem h]

theorem divide_bad (a : Int) (v : Value) (w : World) (h : isAm a = false) :
    Calls Try.prog 23 #[.int .i64 a, v] w fun e w' => e = .returned (.tuple #[.slice none 0 0, .int .i64 2]) ∧ Below w.heap.size w w' := by
  have H := Lib.hid h; clear h
  go_enter Try.func23, Try.ntmps23
  go_wp2_with (go_at_call 25; refine (amounts1 _ _ _ H.out).mono ?_; rintro e w' ⟨rfl, rfl⟩)
  go_returns
  exact ⟨rfl, by go_grown⟩

theorem divide_err (a E : Int) (v : Value) (ws : List Int) (w : World) (h : isAm a = true) (hv : Ins w v ws) (hE : Hid (totE ws = E)) (hne : (E != 0) = true) :
    Calls Try.prog 23 #[.int .i64 a, v] w fun e w' => e = .returned (.tuple #[.slice none 0 0, .int .i64 E]) ∧ Below w.heap.size w w' := by
  have H := Lib.hid h; clear h
  have HV := Lib.hid hv; clear hv
  go_enter Try.func23, Try.ntmps23
  go_wp2_with (go_at_call 25; refine (amounts1 _ _ _ H.out).mono ?_; rintro e w' ⟨rfl, rfl⟩)
  refine (total_any v ws _ (HV.out.alloc _)).mono ?_
  rw [hE.out]
  rintro e w1 ⟨rfl, hb⟩
  go_wp2
  go_returns
  exact ⟨rfl, bel_alloc hb⟩

theorem Try.info3 : (Try.prog.info? 3).map (fun i => (i.zero, i.size, i.bytes)) = some (some (.int .i64 0), 1, 8) := by kernel_rfl

theorem madeZeros (n : Nat) : (madeCells (Value.int .i64 0).cells (n * 1)).toList = (List.replicate n (0 : Int)).map (Value.int .i64) := by
  rw [Nat.mul_one]; simp [Value.cells, toList_madeCells_one]

set_option maxHeartbeats 2000000 in
theorem divide_good (a : Int) (ad : Option Addr) (n cap : Nat) (ws : List Int) (w : World) (h : isAm a = true) (hn : n = ws.length) (hv : Ins w (.slice ad n cap) ws) (ht : totE ws = 0) :
    Calls Try.prog 23 #[.int .i64 a, .slice ad n cap] w fun e w' => ∃ g c, e = .returned (.tuple #[.slice (some ⟨g, 0, none⟩) n c, .int .i64 0]) ∧ Own w' w.heap.size g n c (divP a ws) ∧ Below w.heap.size w w' := by
  obtain ⟨t1, t2, t3, t4, t5⟩ := totE_zero ht
  obtain ⟨a0, a1⟩ := (isAm_iff a).1 h
  obtain ⟨s0, s1⟩ := (isAm_iff _).1 t4
  obtain ⟨d1, d2, d3⟩ := div_left a ws h ht
  have hn0 : 0 < n := by omega
  have hn1 : n ≤ 64 := by omega
  have HW := Lib.hid (of_weight a · ws h ht)
  have HSum := Lib.hid (show totS ws = ws.sum by unfold totS; rw [if_pos ht])
  have HP : Hid (divP a ws = (give (divL a ws) (divQ a ws, divR a ws)).1) := by show _ = _; unfold divP divE; rw [h, if_pos rfl, if_pos ht]
  have HQ0 : Hid (∀ x ∈ divQ a ws, 0 ≤ x ∧ x ≤ a) := by
    intro x hx; unfold divQ at hx
    obtain ⟨y, hy, rfl⟩ := List.mem_map.1 hx
    exact ⟨(HW.out y hy).2.2.2.1, (HW.out y hy).2.2.2.2.1⟩
  have lq : (divQ a ws).length = n := by unfold divQ; rw [List.length_map, hn]
  have lr : (divR a ws).length = n := by unfold divR; rw [List.length_map, hn]
  have HLQ := Lib.hid lq
  have HLR := Lib.hid lr
  have HN := Lib.hid hn
  have HA := Lib.hid h
  have HT := Lib.hid ht
  have HV := Lib.hid hv
  have HD1 := Lib.hid d1
  have HD3 := Lib.hid d3
  have HD2 := Lib.hid d2
  have HB : Hid (Below w.heap.size w w) := Below.refl _ _
  obtain ⟨i0, hi, hz0, hz1, hz2⟩ := info_parts Try.info3
  have HI := Lib.hid hi; have HZ0 := Lib.hid hz0; have HZ1 := Lib.hid hz1; have HZ2 := Lib.hid hz2
  clear hi hz0 hz1 hz2 h hn hv ht lq lr d1 d2 d3 t1 t2 t3 t4
  go_enter Try.func23, Try.ntmps23
  go_wp2_with (go_at_call 25; refine (amounts1 _ _ _ HA.out).mono ?_; rintro e w' ⟨rfl, rfl⟩)
  refine (total_any _ ws _ (HV.out.alloc _)).mono ?_
  rw [HT.out, HSum.out]
  rintro e w1 ⟨rfl, hb⟩
  have HB1 := Lib.hid (bel_alloc hb); clear hb
  have z1 := HB1.out.size
  go_upto_region 7 with (at_make; refine wpList_make_full _ rfl _ _ 36 rfl w.heap.size 3 i0 (.int .i64 0) 1 Try.underlying36 HI.out HZ0.out HZ1.out .i64 .i64 _ _ n rfl rfl rfl rfl (by rw [HZ2.out]; omega) (by unfold maxLen; omega) (by omega) ?_; intro w2 ho2 hg2)
  rw [madeZeros] at ho2
  have hb2 : Below w1.heap.size w1 w2 := (Below.refl _ _).grown hg2 (Nat.le_refl _) (by simp)
  have O2 : Hid (Own w2 w.heap.size w1.heap.size n n (List.replicate n 0)) := ho2
  have HB2 := Lib.hid (bel_trans HB1.out hb2)
  have z2 := hg2.size
  clear ho2 hg2
  go_upto_region 8 with (at_make; refine wpList_make_full _ rfl _ _ 36 rfl w.heap.size 3 i0 (.int .i64 0) 1 Try.underlying36 HI.out HZ0.out HZ1.out .i64 .i64 _ _ n rfl rfl rfl rfl (by rw [HZ2.out]; omega) (by unfold maxLen; omega) (by omega) ?_; intro w3 ho3 hg3)
  rw [madeZeros] at ho3
  have hb3 : Below w2.heap.size w2 w3 := (Below.refl _ _).grown hg3 (Nat.le_refl _) (by simp)
  have O3 : Hid (Own w3 w.heap.size w2.heap.size n n (List.replicate n 0)) := ho3
  have HB3 := Lib.hid (bel_trans HB2.out hb3)
  have z3 := hg3.size
  have O4 : Hid (Own w3 w.heap.size w1.heap.size n n (List.replicate n 0)) := O2.out.below hb3
  have hne : w1.heap.size ≠ w2.heap.size := by have := O2.out.lt.2; omega
  have HG := Lib.hid (giveOut_any w.heap.size w1.heap.size w2.heap.size n n n (divL a ws) (divQ a ws) (divR a ws))
  clear ho3 hg3 O2
  generalize w1.heap.size = gp at *
  generalize w2.heap.size = gr at *
  clear hb2 hb3 HB1 HB2 z1 z2 z3
  go_upto_block 0 with fail
  go_cut [10] (fun s10 wx => s10 = .int .i64 (divL a ws) ∧ Hid (Own wx w.heap.size gp n n (divQ a ws)) ∧ Hid (Own wx w.heap.size gr n n (divR a ws)) ∧ Hid (Below w.heap.size w wx))
  case first =>
    go_wp2_with fail
    go_loopw [10, 34] (fun l i wr => ∃ k : Nat, k ≤ n ∧ i = .int .i64 k ∧ l = .int .i64 (a - ((divQ a ws).take k).sum) ∧ Hid (Own wr w.heap.size gp n n (fillTo (divQ a ws) k)) ∧ Hid (Own wr w.heap.size gr n n (fillTo (divR a ws) k)) ∧ Hid (Below w.heap.size w wr)) (fun _ i _ => n - (intOf i).toNat)
    case atStart => exact ⟨0, Nat.zero_le _, rfl, by simp, by rw [fillTo_zero, HLQ.out]; exact O4, by rw [fillTo_zero, HLR.out]; exact O3, HB3⟩
    case round =>
      obtain ⟨k, hk, rfl, rfl, P1, P2, P3⟩ := hrel
      have htk := sum_take_le (divQ a ws) (fun x hx => (HQ0.out x hx).1) k
      have hta : ((divQ a ws).take k).sum ≤ a := by have := HD1.out; omega
      replace htk := htk.1
      by_cases hlt : k < n
      · have hkz : k < ws.length := by rw [← HN.out]; exact hlt
        obtain ⟨ad', cap', hveq, _, hin⟩ := HV.out.below P3.out
        have hcell : ∃ b off, ad = some ⟨b, off, none⟩ ∧ wr.cell? ⟨b, off + k, none⟩ = some (.int .i64 (ws.getD k 0)) := by
          simp only [Value.slice.injEq] at hveq
          rcases hin with hin | ⟨b, off, e, _, hc⟩
          · omega
          · exact ⟨b, off, by rw [hveq.1, e], hc k hkz⟩
        clear hveq hin ad' cap'
        obtain ⟨b, off, rfl, hcell⟩ := hcell
        have hx : ws.getD k 0 ∈ ws := by simp [List.getD, List.getElem?_eq_getElem hkz]
        obtain ⟨w1', w2', w3', w4', w5', w6', w7'⟩ := HW.out _ hx
        have hof := of_any a (ws.getD k 0) ws.sum wr
        rw [w1', w2', w3', ← divQ_get a ws k hkz, ← divR_get a ws k hkz] at hof
        rw [← divQ_get a ws k hkz] at w4' w5'
        rw [← divR_get a ws k hkz] at w6' w7'
        have HOF := Lib.hid hof
        have HS := Lib.hid (sum_take_succ (divQ a ws) k (by have := HLQ.out; omega))
        have hS2 := (sum_take_le (divQ a ws) (fun x hx => (HQ0.out x hx).1) (k + 1)).2
        rw [HS.out] at hS2
        have hS3 : ((divQ a ws).take k).sum + (divQ a ws).getD k 0 ≤ a := by have := HD1.out; omega
        have F1 := Lib.hid (fillTo_set (divQ a ws) k (by have := HLQ.out; omega))
        have F2 := Lib.hid (fillTo_set (divR a ws) k (by have := HLR.out; omega))
        clear w1' w2' w3' hof hS2 hx hkz
        generalize ws.getD k 0 = x at *
        generalize (divQ a ws).getD k 0 = q at *
        generalize (divR a ws).getD k 0 = r at *
        generalize ((divQ a ws).take k).sum = t at *
        go_wp2_with fail
        refine HOF.out.mono ?_
        rintro e wn ⟨rfl, hbn⟩
        have N1 := P1.out.below hbn
        have N2 := P2.out.below hbn
        have lp := N1.lt.1
        have lr := N2.lt.1
        have c1 := N1.cell k hlt
        have f1 := World.ownsRow.frozenAt N1 k
        have c2 := N2.cell k hlt
        have f2 := World.ownsRow.frozenAt N2 k
        have S1 := Lib.hid ((N1.set k q).other ⟨gr, k, none⟩ (by simp; omega) (.int .i64 r))
        have S2 := Lib.hid ((N2.other ⟨gp, k, none⟩ hne (.int .i64 q)).set k r)
        have S3 := Lib.hid (((P3.out.trans (hbn.mono (P3.out.size))).setCell (p := ⟨gp, k, none⟩) lp (.int .i64 q)).setCell (p := ⟨gr, k, none⟩) lr (.int .i64 r))
        rw [F1.out] at S1
        rw [F2.out] at S2
        clear N1 N2
        clear hbn
        go_wp2
        go_roundw
        case rel => exact ⟨k + 1, by omega, by go_num, by rw [HS.out]; go_num, S1, S2, S3⟩
        case measure => simp [intOf]; omega
      · obtain rfl : k = n := by omega
        have HE : Hid (((divQ a ws).take k).sum = (divQ a ws).sum) := by
          show _ = _
          rw [List.take_of_length_le (by have := HLQ.out; omega)]
        have E1 := fillTo_all (divQ a ws) k (by have := HLQ.out; omega)
        have E2 := fillTo_all (divR a ws) k (by have := HLR.out; omega)
        rw [E1] at P1
        rw [E2] at P2
        clear E1 E2
        generalize ((divQ a ws).take k).sum = t at *
        go_wp2
        go_meet
        case rel => exact ⟨by rw [HE.out, HD3.out], P1, P2, P3⟩
  case rest =>
  obtain ⟨rfl, P1, P2, P3⟩ := hcut
  have hL : divL a ws ≤ 64 := by have := HD2.out; have := HD3.out; have := HN.out; omega
  have hQb : ∀ j, 0 ≤ (divQ a ws).getD j 0 ∧ (divQ a ws).getD j 0 ≤ 128849018880000 := by
    intro j
    by_cases hj : j < (divQ a ws).length
    · have := HQ0.out ((divQ a ws).getD j 0) (by simp [List.getD, List.getElem?_eq_getElem hj])
      omega
    · rw [List.getD_eq_getElem?_getD, List.getElem?_eq_none (by omega)]; simp
  have HG2 := Lib.hid (HG.out wc hne hn0 (by omega) (by omega) P1.out P2.out hQb)
  have z4 := P3.out.size
  clear hQb HG
  go_wp2_with fail
  refine HG2.out.mono ?_
  rintro e w5 ⟨rfl, G1, G2⟩
  have G3 := Lib.hid G1
  have G4 := Lib.hid G2
  clear G1 G2
  go_wp2
  go_returns
  exact ⟨gp, n, rfl, by rw [HP.out]; exact G3.out, P3.out.trans G4.out⟩

theorem divide_any (a : Int) (v : Value) (ws : List Int) (w : World) (hv : Ins w v ws) :
    Calls Try.prog 23 #[.int .i64 a, v] w fun e w' => ∃ v', e = .returned (.tuple #[v', .int .i64 (divE a ws)]) ∧ Ins w' v' (divP a ws) ∧ Below w.heap.size w w' := by
  cases h : isAm a with
  | false =>
    have e : divE a ws = 2 := by unfold divE; rw [h]; rfl
    refine (divide_bad a v w h).mono fun _ w' g => ⟨_, by rw [e]; exact g.1, ?_, g.2⟩
    unfold divP; rw [e]; exact ⟨none, 0, rfl, by simp, .inl rfl⟩
  | true =>
    have e : divE a ws = totE ws := by unfold divE; rw [h]; rfl
    by_cases ht : totE ws = 0
    · have hv0 := hv
      obtain ⟨ad, cap, rfl, hl, _⟩ := hv0
      have l64 := (totE_zero ht).2.1
      refine (divide_good a ad _ cap ws w h rfl hv ht).mono ?_
      rintro _ w' ⟨g, c, rfl, ho, hb⟩
      exact ⟨_, by rw [e, ht], ho.ins (by omega), hb⟩
    · refine (divide_err a _ v ws w h hv rfl (by rw [bne_iff_ne]; exact ht)).mono fun _ w' g => ⟨_, by rw [e]; exact g.1, ?_, g.2⟩
      unfold divP; rw [e, if_neg ht]; exact ⟨none, 0, rfl, by simp, .inl rfl⟩

end Go.Proofs.Ytlpngfngdigchaa
