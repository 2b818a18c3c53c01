/- Package lot: Print. -/
import Derived.Test.YtfpdanjhlepckaaDoorLTF
import Derived.Test.YtfpdanjhlepckaaDoorNPL
import Derived.Test.YtfpdanjhlepckaaDoorPKept
import Derived.Deep.RegionHeld3
namespace Go.Proofs.YtfpdanjhlepckaaDoor
open Go.RowKit

/-- the words of a line -/
def wLt : List UInt8 := [108, 111, 116, 32]
def wMa : List UInt8 := [32, 109, 97, 115, 115, 32]
def wFi : List UInt8 := [32, 102, 105, 108, 108, 32]
def wAl : List UInt8 := [32, 97, 108, 99, 111, 104, 111, 108, 32]
def hdN (c : Lt) : List UInt8 := wLt ++ Lib.itoa c.id ++ wMa ++ Lib.itoa c.ms
def shN (x y : Int) : List UInt8 := wFi ++ Lib.itoa x ++ wAl ++ Lib.itoa y
def shK (s : List (Int × Int)) (k : Nat) : List UInt8 := (List.range k).flatMap fun j => shN (gX s j) (gR s j)
def liN (c : Lt) : List UInt8 := hdN c ++ shK c.sh c.sh.length ++ [10]
def loK (l : List Lt) (k : Nat) : List UInt8 := (List.range k).flatMap fun j => liN (gL l j)
theorem shK_succ (s : List (Int × Int)) (k : Nat) : shK s (k + 1) = shK s k ++ shN (gX s k) (gR s k) := by
  unfold shK; rw [List.range_succ, List.flatMap_append]; simp
theorem loK_succ (l : List Lt) (k : Nat) : loK l (k + 1) = loK l k ++ liN (gL l k) := by
  unfold loK; rw [List.range_succ, List.flatMap_append]; simp
theorem itoa_len {n : Int} (h : -9223372036854775808 ≤ n ∧ n ≤ 9223372036854775807) : (Lib.itoa n).length ≤ 21 := Lib.itoa_length_le n h.1 h.2
theorem shN_len {x y : Int} (hx : -9223372036854775808 ≤ x ∧ x ≤ 9223372036854775807) (hy : -9223372036854775808 ≤ y ∧ y ≤ 9223372036854775807) : (shN x y).length ≤ 57 := by
  have a := itoa_len hx
  have b := itoa_len hy
  unfold shN wFi wAl
  simp only [List.length_append, List.length_cons, List.length_nil]
  omega
theorem shK_len {s : List (Int × Int)} (h : shO s = true) : ∀ k, k ≤ s.length → (shK s k).length ≤ 57 * k
  | 0, _ => by simp [shK]
  | k + 1, hk => by
    have i := shK_len h k (by omega)
    have x := shB_false.1 (shO_iff.1 h k (by omega))
    have m := shN_len (x := gX s k) (y := gR s k) (by omega) (by omega)
    rw [shK_succ, List.length_append]; omega
theorem hdN_len {c : Lt} {p : Int} (h : L1 c p) : (hdN c).length ≤ 52 := by
  have a := itoa_len (n := c.id) (by have := h.idb; omega)
  have b := itoa_len (n := c.ms) (by have := plB_iff.1 h.pl; omega)
  unfold hdN wLt wMa
  simp only [List.length_append, List.length_cons, List.length_nil]
  omega
theorem loK_len {l : List Lt} (h : LS l) : ∀ k, k ≤ l.length → (loK l k).length ≤ 1877 * k
  | 0, _ => by simp [loK]
  | k + 1, hk => by
    have i := loK_len h k (by omega)
    have o := h.one (j := k) (by omega)
    have a := hdN_len o
    have b := shK_len o.sh (gL l k).sh.length (Nat.le_refl _)
    have ln := o.len
    rw [loK_succ, List.length_append]
    unfold liN
    simp only [List.length_append, List.length_cons, List.length_nil]
    omega
namespace RW
/-- what stands while Print writes: the builder in block b with the bytes tx; block q -/
def PS (w W : World) (b q : Nat) (tx : List UInt8) (o : Obj) : Prop := Below w.heap.size w W ∧ Bld W b b tx ∧ w.heap.size ≤ b ∧ b < q ∧ W.heap[q]? = some o
theorem PS.below {w W W' : World} {b q : Nat} {tx : List UInt8} {o : Obj} (h : PS w W b q tx o) (hb : Below W.heap.size W W') : PS w W' b q tx o := by
  obtain ⟨h1, h2, h3, h4, h5⟩ := h
  exact ⟨bel_trans h1 hb, h2.below hb, h3, h4, by rw [hb.block _ (Array.getElem?_eq_some_iff.1 h5).1]; exact h5⟩
theorem PS.new {w W : World} {b : Nat} {tx : List UInt8} (h1 : Below w.heap.size w W) (h2 : Bld W b b tx) (h3 : w.heap.size ≤ b) (o : Obj) : PS w (W.alloc o) b W.heap.size tx o :=
  ⟨h1.alloc h1.size o, h2.alloc o, h3, h2.lt, (MapKept.heap_alloc W _).1⟩
theorem PS.cells {w W : World} {b q : Nat} {tx : List UInt8} {cs : Array Value} {T : TypeId} (h : PS w W b q tx (.cells cs T)) (j : Nat) : W.cell? ⟨q, j, none⟩ = cs[j]? := Lib.cell_of_heap h.2.2.2.2 j
theorem PS.write {w W : World} {b q : Nat} {tx : List UInt8} {o : Obj} (h : PS w W b q tx o) (ho : ∀ c fz, o ≠ .cells c 5 fz) (s : ByteArray) (hs : tx.length + s.size ≤ 100000000000000) :
    Calls Tryd.prog 53 #[.pointer (some ⟨b, 0, none⟩), .string s] W fun e w' => e = .returned (.tuple #[.int .i64 s.size, .nilIface]) ∧ PS w w' b q (tx ++ s.data.toList) o := by
  obtain ⟨h1, h2, h3, h4, h5⟩ := h
  refine (writeS_any b b tx s W h2 hs (Nat.le_of_lt h2.lt)).mono ?_
  rintro e w' ⟨rfl, g1, g2, g3⟩
  exact ⟨rfl, h1.trans (g2.mono h3), g1, h3, h4, g3 q o h5 (by intro e; injection e; omega) ho⟩
/-- the builder alone -/
def PB (w W : World) (b : Nat) (tx : List UInt8) : Prop := Below w.heap.size w W ∧ Bld W b b tx ∧ w.heap.size ≤ b
theorem PS.bld {w W : World} {b q : Nat} {tx : List UInt8} {o : Obj} (h : PS w W b q tx o) : PB w W b tx := ⟨h.1, h.2.1, h.2.2.1⟩
end RW
open RW
theorem RW.PB.write {w W : World} {b : Nat} {tx : List UInt8} (h : PB w W b tx) (s : ByteArray) (hs : tx.length + s.size ≤ 100000000000000) :
    Calls Tryd.prog 53 #[.pointer (some ⟨b, 0, none⟩), .string s] W fun e w' => e = .returned (.tuple #[.int .i64 s.size, .nilIface]) ∧ PB w w' b (tx ++ s.data.toList) := by
  obtain ⟨h1, h2, h3⟩ := h
  refine (writeS_any b b tx s W h2 hs (Nat.le_of_lt h2.lt)).mono ?_
  rintro e w' ⟨rfl, g1, g2, g3⟩
  exact ⟨rfl, h1.trans (g2.mono h3), g1, h3⟩
set_option maxHeartbeats 4000000 in
theorem ltPr_bad (v : Value) (w : World)
    (H1 : Hid (Calls Tryd.prog 40 #[v] w fun e w' => e = .returned (.bool false) ∧ Below w.heap.size w w')) :
    Calls Tryd.prog 25 #[v] w fun e w' => e = .returned (.tuple #[str [], .int .i64 1]) ∧ Below w.heap.size w w' := by
  go_enter Tryd.func25, Tryd.ntmps25
  go_wp2_with fail
  refine H1.out.mono ?_
  rintro e w1 ⟨rfl, gg⟩
  have X1 := Lib.hid gg; clear gg
  go_wp2
  go_returns
  exact ⟨rfl, X1.out⟩
set_option maxHeartbeats 64000000 in
set_option maxRecDepth 100000 in
theorem ltPr_some (a : Option Addr) (n cap : Nat) (l : List Lt) (w : World) (hw : CV w) (NV0 : Hid (Lts w (.slice a n cap) l)) (hn : n ≤ 32) (HO : Hid (∀ k, k < n → L1 (gL l k) (pvI l k))) (HL : Hid (∀ k, k ≤ n → (loK l k).length ≤ 1877 * k))
    (H1 : Hid (Calls Tryd.prog 40 #[.slice a n cap] w fun e w' => e = .returned (.bool true) ∧ Below w.heap.size w w')) :
    Calls Tryd.prog 25 #[.slice a n cap] w fun e w' => e = .returned (.tuple #[str (loK l n), .int .i64 0]) ∧ Below w.heap.size w w' := by
  have HW := Lib.hid hw
  clear hw
  go_enter Tryd.func25, Tryd.ntmps25
  go_wp2_with fail
  refine H1.out.mono ?_
  rintro e w1 ⟨rfl, gg⟩
  have P0 : Hid (PB w (w1.alloc (.cells #[.pointer none, .slice none 0 0] 72)) w1.heap.size (loK l 0)) := ⟨gg.alloc gg.size _, bld_new w1, gg.size⟩
  clear gg H1
  go_wp2_with fail
  generalize w1.heap.size = b at *
  go_loopw [14] (fun ii wr => ∃ k : Nat, k ≤ n ∧ ii = .int .i64 k ∧ Hid (PB w wr b (loK l k))) (fun ii _ => n - (intOf ii).toNat)
  case atStart => exact ⟨0, Nat.zero_le _, rfl, P0⟩
  case round =>
    clear P0
    obtain ⟨k, hk, rfl, hQ⟩ := hrel
    by_cases hlt : k < n
    · have l2 : (k : Int) < (n : Int) := by omega
      have o := HO.out k hlt
      have tl := HL.out k hk
      have eP := Lib.hid (loK_succ l k)
      obtain ⟨bs, off, rfl, hb, hnl, hc⟩ := NV0.out.at (by omega)
      clear hnl
      obtain ⟨sa, sc, c0, c1, c2, c3, hP⟩ := hc k hlt
      have PS0 := Lib.hid hP
      clear hc hP
      replace c0 := cell_bel c0 hQ.out.1
      replace c1 := cell_bel c1 hQ.out.1
      replace c2 := cell_bel c2 hQ.out.1
      replace c3 := cell_bel c3 hQ.out.1
      generalize gL l k = c at *
      obtain ⟨cd, cA, cM, cS⟩ := c
      have hdl := hdN_len o
      have b1 := o.idb
      have b2 := plB_iff.1 o.pl
      have oln := o.len
      have HK := Lib.hid (shK_len o.sh)
      have HX := Lib.hid (fun j hj => shB_false.1 (shO_iff.1 o.sh j hj))
      simp only at c0 c1 c2 c3 b1 b2 oln HK HX
      replace PS0 : Hid (Pts w (.slice sa cS.length sc) cS) := PS0
      replace eP : Hid (loK l (k + 1) = loK l k ++ (hdN ⟨cd, cA, cM, cS⟩ ++ shK cS cS.length ++ [10])) := eP
      clear o
      have hlh : (loK l k ++ hdN ⟨cd, cA, cM, cS⟩).length ≤ 1877 * k + 52 := by rw [List.length_append]; omega
      generalize loK l k = tx at *
      generalize hcn : cS.length = cn at *
      obtain ⟨D1, hD1⟩ : ∃ D : ByteArray, D = ⟨(Lib.itoa cd).toArray⟩ := ⟨_, rfl⟩
      obtain ⟨D2, hD2⟩ : ∃ D : ByteArray, D = ⟨(Lib.itoa cM).toArray⟩ := ⟨_, rfl⟩
      have s1 : D1.size ≤ 21 := by rw [hD1, str_size]; exact itoa_len (by omega)
      have s2 : D2.size ≤ 21 := by rw [hD2, str_size]; exact itoa_len (by omega)
      have z1 : (⟨#[108, 111, 116, 32]⟩ : ByteArray).size = 4 := rfl
      have z2 : (⟨#[32, 109, 97, 115, 115, 32]⟩ : ByteArray).size = 6 := rfl
      have s3 : ((⟨#[108, 111, 116, 32]⟩ : ByteArray) ++ D1).size = 4 + D1.size := by rw [ByteArray.size_append, z1]
      have s4 : ((⟨#[108, 111, 116, 32]⟩ : ByteArray) ++ D1 ++ (⟨#[32, 109, 97, 115, 115, 32]⟩ : ByteArray)).size = 4 + D1.size + 6 := by rw [ByteArray.size_append, s3, z2]
      have s5 : ((⟨#[108, 111, 116, 32]⟩ : ByteArray) ++ D1 ++ (⟨#[32, 109, 97, 115, 115, 32]⟩ : ByteArray) ++ D2).size = 4 + D1.size + 6 + D2.size := by rw [ByteArray.size_append, s4]
      have eL : ((⟨#[108, 111, 116, 32]⟩ : ByteArray) ++ D1 ++ (⟨#[32, 109, 97, 115, 115, 32]⟩ : ByteArray) ++ D2).data.toList = hdN ⟨cd, cA, cM, cS⟩ := by rw [hD1, hD2]; simp [ByteArray.data_append, hdN, shN, wLt, wMa, wFi, wAl]
      have K1 : Hid (∀ W tx o q, PS w W b q tx o → Calls Tryd.prog 54 #[.int .i64 cd] W fun e w' => e = .returned (.string D1) ∧ PS w w' b q tx o) := fun W tx o q h =>
        (itoa_any cd W (by omega) (HW.out.below h.1)).mono fun _ _ g => ⟨by rw [hD1]; exact g.1, h.below g.2⟩
      have K2 : Hid (∀ W tx o q, PS w W b q tx o → Calls Tryd.prog 54 #[.int .i64 cM] W fun e w' => e = .returned (.string D2) ∧ PS w w' b q tx o) := fun W tx o q h =>
        (itoa_any cM W (by omega) (HW.out.below h.1)).mono fun _ _ g => ⟨by rw [hD2]; exact g.1, h.below g.2⟩
      have K4 : Hid (∀ W cs q, PS w W b q tx (.cells cs 32) → Calls Tryd.prog 53 #[.pointer (some ⟨b, 0, none⟩), .string ((⟨#[108, 111, 116, 32]⟩ : ByteArray) ++ D1 ++ (⟨#[32, 109, 97, 115, 115, 32]⟩ : ByteArray) ++ D2)] W fun e w' => e = .returned (.tuple #[.int .i64 ((⟨#[108, 111, 116, 32]⟩ : ByteArray) ++ D1 ++ (⟨#[32, 109, 97, 115, 115, 32]⟩ : ByteArray) ++ D2).size, .nilIface]) ∧ PS w w' b q (tx ++ hdN ⟨cd, cA, cM, cS⟩) (.cells cs 32)) := fun W cs q h => by
        have := h.write (by intro c fz e; injection e with _ e2 _; revert e2; decide) ((⟨#[108, 111, 116, 32]⟩ : ByteArray) ++ D1 ++ (⟨#[32, 109, 97, 115, 115, 32]⟩ : ByteArray) ++ D2) (by omega)
        rwa [eL] at this
      have B1 := Lib.hid ((PS.new hQ.out.1 hQ.out.2.1 hQ.out.2.2 (.cells #[.int .i64 cd, .int .i64 cA, .int .i64 cM, .slice sa cn sc] 32)).below (bel_drew _))
      have HS : Hid (∀ W tx, PS w W b wr.heap.size tx (.cells #[.int .i64 cd, .int .i64 cA, .int .i64 cM, .slice sa cn sc] 32) → W.cell? ⟨wr.heap.size, 0, none⟩ = some (.int .i64 cd) ∧ W.cell? ⟨wr.heap.size, 2, none⟩ = some (.int .i64 cM)) := fun W tx h => ⟨h.cells 0, h.cells 2⟩
      have HC3 : Hid (∀ W tx, PS w W b wr.heap.size tx (.cells #[.int .i64 cd, .int .i64 cA, .int .i64 cM, .slice sa cn sc] 32) → W.cell? ⟨wr.heap.size, 3, none⟩ = some (.slice sa cn sc)) := fun W tx h => h.cells 3
      have q1 : 4 + D1.size ≤ 9223372036854775807 := by omega
      have q2 : 4 + D1.size + 6 ≤ 9223372036854775807 := by omega
      have q3 : 4 + D1.size + 6 + D2.size ≤ 9223372036854775807 := by omega
      have r1 : ¬ 4 + D1.size > 9223372036854775807 := by omega
      have r2 : ¬ 4 + D1.size + 6 > 9223372036854775807 := by omega
      have r3 : ¬ 4 + D1.size + 6 + D2.size > 9223372036854775807 := by omega
      have u1 : ¬ (⟨#[108, 111, 116, 32]⟩ : ByteArray).size + D1.size > 9223372036854775807 := by rw [z1]; omega
      have u2 : ¬ ((⟨#[108, 111, 116, 32]⟩ : ByteArray) ++ D1).size + (⟨#[32, 109, 97, 115, 115, 32]⟩ : ByteArray).size > 9223372036854775807 := by rw [s3, z2]; omega
      have u3 : ¬ ((⟨#[108, 111, 116, 32]⟩ : ByteArray) ++ D1 ++ (⟨#[32, 109, 97, 115, 115, 32]⟩ : ByteArray)).size + D2.size > 9223372036854775807 := by rw [s4]; omega
      clear hD1 hD2 eL
      go_wp2_with fail
      go_region_held3 (fun w' => w'.cell? ⟨wr.heap.size, 0, none⟩ = some (.int .i64 cd) ∧ w'.cell? ⟨wr.heap.size, 2, none⟩ = some (.int .i64 cM)) (go_keep)
        (first | (go_at_call 54; (with_reducible refine (K1.out _ _ _ _ B1.out).mono ?_); rintro e w5 ⟨rfl, B2⟩; obtain ⟨x0, x1⟩ := HS.out _ _ B2; replace B2 := Lib.hid B2) | (go_at_call 54; (with_reducible refine (K2.out _ _ _ _ B2.out).mono ?_); rintro e w6 ⟨rfl, B3⟩; obtain ⟨y0, y1⟩ := HS.out _ _ B3; replace B3 := Lib.hid B3) | (go_at_call 53; (with_reducible refine (K4.out _ _ _ B3.out).mono ?_); rintro e w8 ⟨rfl, B5⟩; obtain ⟨u0, u1⟩ := HS.out _ _ B5; replace B5 := Lib.hid B5))
      all_goals
        have e3 := HC3.out _ _ B5.out
        have Z := Lib.hid B5.out.bld
        clear K1 K2 K4 B1 B2 B3 B5 HS HC3 s1 s2 z1 z2 s3 s4 s5 q1 q2 q3 r1 r2 r3 u1 u2 u3 x0 x1 y0 y1 u0 c0 c1 c2 c3 hQ
        generalize wr.heap.size = g at *
        have eP2 : Hid (loK l (k + 1) = tx ++ hdN ⟨cd, cA, cM, cS⟩ ++ shK cS cn ++ [10]) := Lib.hid (by rw [eP.out]; simp)
        clear eP
        generalize tx ++ hdN ⟨cd, cA, cM, cS⟩ = t9 at *
        go_wp2_with fail
        clear e3
        go_loopw [32] (fun ii wi => ∃ j : Nat, j ≤ cn ∧ ii = .int .i64 j ∧ Hid (PB w wi b (t9 ++ shK cS j))) (fun ii _ => cn - (intOf ii).toNat)
        case atStart => exact ⟨0, Nat.zero_le _, rfl, by rw [show shK cS 0 = [] from rfl, List.append_nil]; exact Z⟩
        case round =>
          clear Z
          obtain ⟨j, hj, rfl, hQ⟩ := hrel
          by_cases hjn : j < cn
          · have l3 : (j : Int) < (cn : Int) := by omega
            obtain ⟨bp, op, rfl, hbp, hcp⟩ := PS0.out.at (by omega)
            obtain ⟨c0, c1⟩ := hcp j hjn
            clear hcp
            replace c0 := cell_bel c0 hQ.out.1
            replace c1 := cell_bel c1 hQ.out.1
            have hx := HX.out j hjn
            have tk := HK.out j hj
            have eS : Hid (t9 ++ shK cS (j + 1) = t9 ++ shK cS j ++ shN (gX cS j) (gR cS j)) := Lib.hid (by rw [shK_succ, List.append_assoc])
            have tl2 : (t9 ++ shK cS j).length ≤ 1877 * k + 52 + 57 * j := by rw [List.length_append]; omega
            have sl := shN_len (x := gX cS j) (y := gR cS j) (by omega) (by omega)
            generalize gX cS j = x at *
            generalize gR cS j = y at *
            generalize t9 ++ shK cS j = ty at *
            obtain ⟨D1, hD1⟩ : ∃ D : ByteArray, D = ⟨(Lib.itoa x).toArray⟩ := ⟨_, rfl⟩
            obtain ⟨D2, hD2⟩ : ∃ D : ByteArray, D = ⟨(Lib.itoa y).toArray⟩ := ⟨_, rfl⟩
            have s1 : D1.size ≤ 21 := by rw [hD1, str_size]; exact itoa_len (by omega)
            have s2 : D2.size ≤ 21 := by rw [hD2, str_size]; exact itoa_len (by omega)
            have z1 : (⟨#[32, 102, 105, 108, 108, 32]⟩ : ByteArray).size = 6 := rfl
            have z2 : (⟨#[32, 97, 108, 99, 111, 104, 111, 108, 32]⟩ : ByteArray).size = 9 := rfl
            have s3 : ((⟨#[32, 102, 105, 108, 108, 32]⟩ : ByteArray) ++ D1).size = 6 + D1.size := by rw [ByteArray.size_append, z1]
            have s4 : ((⟨#[32, 102, 105, 108, 108, 32]⟩ : ByteArray) ++ D1 ++ (⟨#[32, 97, 108, 99, 111, 104, 111, 108, 32]⟩ : ByteArray)).size = 6 + D1.size + 9 := by rw [ByteArray.size_append, s3, z2]
            have s5 : ((⟨#[32, 102, 105, 108, 108, 32]⟩ : ByteArray) ++ D1 ++ (⟨#[32, 97, 108, 99, 111, 104, 111, 108, 32]⟩ : ByteArray) ++ D2).size = 6 + D1.size + 9 + D2.size := by rw [ByteArray.size_append, s4]
            have eL : ((⟨#[32, 102, 105, 108, 108, 32]⟩ : ByteArray) ++ D1 ++ (⟨#[32, 97, 108, 99, 111, 104, 111, 108, 32]⟩ : ByteArray) ++ D2).data.toList = shN x y := by rw [hD1, hD2]; simp [ByteArray.data_append, hdN, shN, wLt, wMa, wFi, wAl]
            have K1 : Hid (∀ W tx o q, PS w W b q tx o → Calls Tryd.prog 54 #[.int .i64 x] W fun e w' => e = .returned (.string D1) ∧ PS w w' b q tx o) := fun W tx o q h =>
              (itoa_any x W (by omega) (HW.out.below h.1)).mono fun _ _ g => ⟨by rw [hD1]; exact g.1, h.below g.2⟩
            have K2 : Hid (∀ W tx o q, PS w W b q tx o → Calls Tryd.prog 54 #[.int .i64 y] W fun e w' => e = .returned (.string D2) ∧ PS w w' b q tx o) := fun W tx o q h =>
              (itoa_any y W (by omega) (HW.out.below h.1)).mono fun _ _ g => ⟨by rw [hD2]; exact g.1, h.below g.2⟩
            have K4 : Hid (∀ W cs q, PS w W b q ty (.cells cs 52) → Calls Tryd.prog 53 #[.pointer (some ⟨b, 0, none⟩), .string ((⟨#[32, 102, 105, 108, 108, 32]⟩ : ByteArray) ++ D1 ++ (⟨#[32, 97, 108, 99, 111, 104, 111, 108, 32]⟩ : ByteArray) ++ D2)] W fun e w' => e = .returned (.tuple #[.int .i64 ((⟨#[32, 102, 105, 108, 108, 32]⟩ : ByteArray) ++ D1 ++ (⟨#[32, 97, 108, 99, 111, 104, 111, 108, 32]⟩ : ByteArray) ++ D2).size, .nilIface]) ∧ PS w w' b q (ty ++ shN x y) (.cells cs 52)) := fun W cs q h => by
              have := h.write (by intro c fz e; injection e with _ e2 _; revert e2; decide) ((⟨#[32, 102, 105, 108, 108, 32]⟩ : ByteArray) ++ D1 ++ (⟨#[32, 97, 108, 99, 111, 104, 111, 108, 32]⟩ : ByteArray) ++ D2) (by omega)
              rwa [eL] at this
            have B1 := Lib.hid ((PS.new hQ.out.1 hQ.out.2.1 hQ.out.2.2 (.cells #[.int .i64 x, .int .i64 y] 52)).below (bel_drew _))
            have HS : Hid (∀ W tx, PS w W b wr.heap.size tx (.cells #[.int .i64 x, .int .i64 y] 52) → W.cell? ⟨wr.heap.size, 0, none⟩ = some (.int .i64 x) ∧ W.cell? ⟨wr.heap.size, 1, none⟩ = some (.int .i64 y)) := fun W tx h => ⟨h.cells 0, h.cells 1⟩
            have q1 : 6 + D1.size ≤ 9223372036854775807 := by omega
            have q2 : 6 + D1.size + 9 ≤ 9223372036854775807 := by omega
            have q3 : 6 + D1.size + 9 + D2.size ≤ 9223372036854775807 := by omega
            have r1 : ¬ 6 + D1.size > 9223372036854775807 := by omega
            have r2 : ¬ 6 + D1.size + 9 > 9223372036854775807 := by omega
            have r3 : ¬ 6 + D1.size + 9 + D2.size > 9223372036854775807 := by omega
            have u1 : ¬ (⟨#[32, 102, 105, 108, 108, 32]⟩ : ByteArray).size + D1.size > 9223372036854775807 := by rw [z1]; omega
            have u2 : ¬ ((⟨#[32, 102, 105, 108, 108, 32]⟩ : ByteArray) ++ D1).size + (⟨#[32, 97, 108, 99, 111, 104, 111, 108, 32]⟩ : ByteArray).size > 9223372036854775807 := by rw [s3, z2]; omega
            have u3 : ¬ ((⟨#[32, 102, 105, 108, 108, 32]⟩ : ByteArray) ++ D1 ++ (⟨#[32, 97, 108, 99, 111, 104, 111, 108, 32]⟩ : ByteArray)).size + D2.size > 9223372036854775807 := by rw [s4]; omega
            clear hD1 hD2 eL
            go_wp2_with fail
            go_region_held3 (fun w' => w'.cell? ⟨wr.heap.size, 0, none⟩ = some (.int .i64 x) ∧ w'.cell? ⟨wr.heap.size, 1, none⟩ = some (.int .i64 y)) (go_keep)
              (first | (go_at_call 54; (with_reducible refine (K1.out _ _ _ _ B1.out).mono ?_); rintro e w5 ⟨rfl, B2⟩; obtain ⟨x0, x1⟩ := HS.out _ _ B2; replace B2 := Lib.hid B2) | (go_at_call 54; (with_reducible refine (K2.out _ _ _ _ B2.out).mono ?_); rintro e w6 ⟨rfl, B3⟩; obtain ⟨y0, y1⟩ := HS.out _ _ B3; replace B3 := Lib.hid B3) | (go_at_call 53; (with_reducible refine (K4.out _ _ _ B3.out).mono ?_); rintro e w8 ⟨rfl, B5⟩; obtain ⟨u0, u1⟩ := HS.out _ _ B5; replace B5 := Lib.hid B5))
            all_goals
              have Z := Lib.hid B5.out.bld
              go_wp2
              go_roundw
              case rel => exact ⟨j + 1, by omega, by go_num, by rw [eS.out]; exact Z⟩
              case measure => simp [intOf]; omega
          · obtain rfl : cn = j := by omega
            have tk := HK.out cn (Nat.le_refl _)
            have tl2 : (t9 ++ shK cS cn).length ≤ 1877 * k + 52 + 57 * cn := by rw [List.length_append]; omega
            have HZ := Lib.hid (RW.PB.write hQ.out ⟨#[10]⟩ (by show _ + 1 ≤ _; omega))
            go_wp2_with fail
            refine HZ.out.mono ?_
            rintro e w9 ⟨rfl, hz⟩
            have Z := Lib.hid hz
            clear hz HZ
            go_wp2
            go_roundw
            case rel => exact ⟨k + 1, by omega, by go_num, by rw [eP2.out]; exact Z⟩
            case measure => simp [intOf]; omega
    · obtain rfl : k = n := by omega
      have HF := Lib.hid (string_any b b (loK l k) wr hQ.out.2.1 (Nat.le_of_lt hQ.out.2.1.lt))
      go_wp2_with fail
      refine HF.out.mono ?_
      rintro e w2 ⟨rfl, gg⟩
      have X := Lib.hid (hQ.out.1.trans (gg.mono hQ.out.2.2))
      clear gg
      go_wp2
      go_returns
      exact ⟨rfl, X.out⟩
/-- what Print answers -/
def ptE (l : List Lt) : Int := if ltE l = 0 then 0 else 1
def ptS (l : List Lt) : List UInt8 := if ltE l = 0 then loK l l.length else []
theorem ltPr_any (v : Value) (l : List Lt) (w : World) (hw : CV w) (hv : Lts w v l) (hs : ∀ j, j < l.length → (gL l j).sh.length ≤ 1000) :
    Calls Tryd.prog 25 #[v] w fun e w' => e = .returned (.tuple #[str (ptS l), .int .i64 (ptE l)]) ∧ Below w.heap.size w w' := by
  obtain ⟨a, cap, rfl, hcap, _⟩ := id hv
  have HC := ltSo_any (.slice a l.length cap) l w hv hs
  unfold ptS ptE
  by_cases h : ltE l = 0
  · have L := ltE_zero.1 h
    rw [show (ltE l == 0) = true by simpa using h] at HC
    rw [if_pos h, if_pos h]
    exact ltPr_some a _ cap l w hw hv L.len (Lib.hid fun k hk => L.one hk) (Lib.hid fun k hk => loK_len L k hk) HC
  · rw [show (ltE l == 0) = false by simpa using h] at HC
    rw [if_neg h, if_neg h]
    exact ltPr_bad _ w HC
end Go.Proofs.YtfpdanjhlepckaaDoor

