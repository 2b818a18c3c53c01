/- Texts that the proofs of this seat share, one behind the other: EPM, EMG, ELV, EBW, EAX, LEB, SC, EAW, EFO, PO0, KO, EOZ, LTQ, LIN, EFQ, KRA, KPA, KPB. -/
import Derived.Test.YtmdpdpbkbakidaaM3
import Derived.Lib.JoinLaws
import Derived.Test.YtmdpdpbkbakidaaM2
import Derived.Sort.OwnSortedInts
import Derived.Test.YtmdpdpbkbakidaaM1
import Derived.BigQuiet
import Derived.Test.YtmdpdpbkbakidaaShelf
import Derived.Laws.IdiomCopy
import Derived.Test.YtmdpdpbkbakidaaRows
import Derived.ProofKit
import Derived.OpenShut
import Derived.ShutString
import Derived.ChangeOld
import Derived.Lib.SmallJoins
import Derived.MakeChecks
import Derived.Deep.Slices
import Derived.Deep.Fields
import Derived.ChangeSame
import Derived.Deep.SlicePairs
import Derived.Deep.RegionHeld3
import Derived.Test.YtmdpdpbkbakidaaShelfI
import Derived.Laws.OwnMore
import Derived.Shelf.Spec.SlicesInsert
import Derived.Shelf.Spec.SlicesInsertGrow

set_option linter.unusedVariables false
set_option linter.unusedSimpArgs false

/- slices.Concat of two lists that hold something. -/
namespace Go.Proofs.Ytmdpdpbkbakidaa
open Go.RowKit

theorem nums_cell (w : World) (b o m k : Nat) (zs : List Int) (hc : ∀ j, j < zs.length → w.cell? ⟨b, o + j, none⟩ = some (.int .i64 (zs.getD j 0))) : ∀ j u, (zs.map (Value.int .i64))[j]? = some u → w.cell? ((⟨b, o, none⟩ : Addr).add j) = some u := by
  intro j u hj
  have hl : j < zs.length := by
    rcases Nat.lt_or_ge j zs.length with h' | h'
    · exact h'
    · rw [List.getElem?_eq_none (by simpa using h')] at hj; cases hj
  rw [List.getElem?_map, List.getElem?_eq_getElem hl] at hj
  simp only [Option.map_some, Option.some.injEq] at hj
  rw [Go.WideShapes.add_plain, hc j hl, ← hj, List.getD_eq_getElem?_getD, List.getElem?_eq_getElem hl, Option.getD_some]
theorem map_one (zs : List Int) : ∀ u ∈ zs.map (Value.int .i64), u.oneCell' = true := by
  intro u hu
  obtain ⟨z, _, rfl⟩ := List.mem_map.1 hu
  rfl
theorem own_joined {w' : World} {B n m : Nat} {v' : Value} {zs xs : List Int} (hn : zs.length = n) (hm : xs.length = m) (h : w'.ownsRow B 3 1 v' (n + m) (zs.map (Value.int .i64) ++ xs.map (Value.int .i64))) : OwnI w' B v' (zs ++ xs) := by
  unfold OwnI
  rw [List.length_append, List.map_append, hn, hm]
  exact h
set_option maxRecDepth 100000 in
set_option maxHeartbeats 16000000 in
theorem concat_some (bk ok ck b1 o1 m1 k1 b2 o2 m2 k2 : Nat) (z1 z2 : List Int) (w : World) (hbk : bk < w.heap.size) (hb1 : b1 < w.heap.size) (hb2 : b2 < w.heap.size) (l1 : z1.length = m1) (l2 : z2.length = m2) (m10 : 1 ≤ m1) (m11 : m1 ≤ 1000) (m21 : m2 ≤ 1000)
    (c0 : w.cell? ⟨bk, ok, none⟩ = some (.slice (some ⟨b1, o1, none⟩) m1 k1)) (c1 : w.cell? ⟨bk, ok + 1, none⟩ = some (.slice (some ⟨b2, o2, none⟩) m2 k2))
    (h1 : Hid (∀ j, j < z1.length → w.cell? ⟨b1, o1 + j, none⟩ = some (.int .i64 (z1.getD j 0)))) (h2 : Hid (∀ j, j < z2.length → w.cell? ⟨b2, o2 + j, none⟩ = some (.int .i64 (z2.getD j 0)))) :
    Calls Try.prog 57 #[.slice (some ⟨bk, ok, none⟩) 2 ck] w fun e w' => ∃ u, e = .returned u ∧ OwnI w' w.heap.size u (z1 ++ z2) ∧ Below w.heap.size w w' := by
  obtain ⟨i0, hi, hz0, hz1, hz2⟩ := info_parts info_int
  replace hi := Lib.hid hi
  replace hz0 := Lib.hid hz0
  replace hz1 := Lib.hid hz1
  replace hz2 := Lib.hid hz2
  have e1 : IntKind.i64.wrap (m1 : Int) = (m1 : Int) := wrap_in _ ⟨by omega, by omega⟩
  have e2 : IntKind.i64.wrap ((m1 : Int) + (m2 : Int)) = (m1 : Int) + (m2 : Int) := wrap_in _ ⟨by omega, by omega⟩
  have p1 : decide ((m1 : Int) < 0) = false := decide_eq_false (by omega)
  have p2 : decide ((m1 : Int) + (m2 : Int) < 0) = false := decide_eq_false (by omega)
  have q1 : ¬ (m1 : Int) < 0 := by omega
  have q2 : ¬ (m1 : Int) + (m2 : Int) < 0 := by omega
  have HG := grow_nil (m1 + m2) w (by omega) (by omega)
  rw [show ((m1 + m2 : Nat) : Int) = (m1 : Int) + (m2 : Int) from by omega] at HG
  replace HG := Lib.hid HG
  replace l1 := Lib.hid l1
  replace l2 := Lib.hid l2
  go_enter Try.func57, Try.ntmps57
  go_wp2_with fail
  go_loopw [3, 5, 11] (fun s _ ii wr => w = wr ∧ ((ii = .int .i64 0 ∧ s = .int .i64 0) ∨ (ii = .int .i64 1 ∧ s = .int .i64 m1) ∨ (ii = .int .i64 2 ∧ s = .int .i64 ((m1 : Int) + (m2 : Int))))) (fun _ _ ii _ => 2 - (intOf ii).toNat)
  case atStart => exact ⟨rfl, .inl ⟨rfl, rfl⟩⟩
  case round =>
    obtain ⟨rfl, ⟨rfl, rfl⟩ | ⟨rfl, rfl⟩ | ⟨rfl, rfl⟩⟩ := hrel
    · go_wp2
      go_roundw
      case rel => exact ⟨by first | rfl | trivial, .inr (.inl ⟨by go_num, by first | rfl | simp⟩)⟩
      case measure => simp [intOf]
    · go_wp2
      go_roundw
      case rel => exact ⟨by first | rfl | trivial, .inr (.inr ⟨by go_num, by first | rfl | simp⟩)⟩
      case measure => simp [intOf]
    · go_wp2_with fail
      refine HG.out.mono ?_
      rintro e w3 ⟨u3, rfl, ho, hb⟩
      have O3 := Lib.hid ho
      have B3 := Lib.hid hb
      clear ho hb HG
      go_wp2_with fail
      go_loopw [6, 8, 27] (fun v _ ii wr => Hid (Below w.heap.size w wr) ∧ ((ii = .int .i64 0 ∧ Hid (OwnI wr w.heap.size v [])) ∨ (ii = .int .i64 1 ∧ Hid (OwnI wr w.heap.size v z1)) ∨ (ii = .int .i64 2 ∧ Hid (OwnI wr w.heap.size v (z1 ++ z2))))) (fun _ _ ii _ => 2 - (intOf ii).toNat)
      case atStart => exact ⟨B3, .inl ⟨rfl, O3⟩⟩
      case round =>
        obtain ⟨hB, ⟨rfl, hO⟩ | ⟨rfl, hO⟩ | ⟨rfl, hO⟩⟩ := hrel
        · have d0 : wr.cell? ⟨bk, ok, none⟩ = some (.slice (some ⟨b1, o1, none⟩) m1 k1) := by rw [(bcell hB.out).1 _ _ hbk]; exact c0
          have CN := Lib.hid (nums_cell wr b1 o1 m1 k1 z1 (fun j hj => by rw [(bcell hB.out).1 _ _ hb1]; exact h1.out j hj))
          have OA := hO
          unfold OwnI at OA
          have HS := Lib.hid hB.out.size
          go_wp2_with (at_builtin; refine wpList_append_own_at _ rfl _ _ 25 rfl w.heap.size 3 i0 (.int .i64 0) 1 8 Try.underlying25 hi.out hz0.out hz1.out hz2.out rfl (by omega) _ _ _ rfl OA.out ⟨b1, o1, none⟩ m1 k1 (z1.map (Value.int .i64)) rfl ?qd3 CN.out (map_one z1) ?qd4 ?qd5 HS.out ?_)
          case qd3 => rw [List.length_map, l1.out]; omega
          case qd4 => simp; unfold maxLen; omega
          case qd5 => simp; omega
          intro v2 w2 hown3 hgrow _ _
          have SN : Hid (OwnI w2 w.heap.size v2 z1) := Lib.hid (by unfold OwnI; rw [l1.out]; exact hown3)
          have B2 := Lib.hid (hB.out.grown hgrow HS.out (fun q hq => (World.ownsRow.lt hO.out q hq).1))
          clear hown3 hgrow OA CN
          go_wp2
          go_roundw
          case rel => exact ⟨B2, .inr (.inl ⟨by go_num, SN⟩)⟩
          case measure => simp [intOf]
        · have d0 : wr.cell? ⟨bk, ok + 1, none⟩ = some (.slice (some ⟨b2, o2, none⟩) m2 k2) := by rw [(bcell hB.out).1 _ _ hbk]; exact c1
          have CN := Lib.hid (nums_cell wr b2 o2 m2 k2 z2 (fun j hj => by rw [(bcell hB.out).1 _ _ hb2]; exact h2.out j hj))
          have OA := hO
          unfold OwnI at OA
          rw [l1.out] at OA
          have HS := Lib.hid hB.out.size
          go_wp2_with (at_builtin; refine wpList_append_own_at _ rfl _ _ 25 rfl w.heap.size 3 i0 (.int .i64 0) 1 8 Try.underlying25 hi.out hz0.out hz1.out hz2.out rfl (by omega) _ _ _ rfl OA.out ⟨b2, o2, none⟩ m2 k2 (z2.map (Value.int .i64)) rfl ?qd3 CN.out (map_one z2) ?qd4 ?qd5 HS.out ?_)
          case qd3 => rw [List.length_map, l2.out]; omega
          case qd4 => unfold maxLen; omega
          case qd5 => omega
          intro v2 w2 hown3 hgrow _ _
          have SN : Hid (OwnI w2 w.heap.size v2 (z1 ++ z2)) := Lib.hid (own_joined l1.out l2.out hown3)
          have B2 := Lib.hid (hB.out.grown hgrow HS.out (fun q hq => (World.ownsRow.lt hO.out q hq).1))
          clear hown3 hgrow OA CN
          go_wp2
          go_roundw
          case rel => exact ⟨B2, .inr (.inr ⟨by go_num, SN⟩)⟩
          case measure => simp [intOf]
        · go_wp2
          go_returns
          exact ⟨_, rfl, hO.out, hB.out⟩
set_option maxRecDepth 100000 in
set_option maxHeartbeats 16000000 in
theorem concat_nil (bk ok ck b1 o1 m1 k1 k2 : Nat) (z1 : List Int) (w : World) (hbk : bk < w.heap.size) (hb1 : b1 < w.heap.size) (l1 : z1.length = m1) (m10 : 1 ≤ m1) (m11 : m1 ≤ 1000)
    (c0 : w.cell? ⟨bk, ok, none⟩ = some (.slice (some ⟨b1, o1, none⟩) m1 k1)) (c1 : w.cell? ⟨bk, ok + 1, none⟩ = some (.slice none 0 k2))
    (h1 : Hid (∀ j, j < z1.length → w.cell? ⟨b1, o1 + j, none⟩ = some (.int .i64 (z1.getD j 0)))) :
    Calls Try.prog 57 #[.slice (some ⟨bk, ok, none⟩) 2 ck] w fun e w' => ∃ u, e = .returned u ∧ OwnI w' w.heap.size u z1 ∧ Below w.heap.size w w' := by
  obtain ⟨i0, hi, hz0, hz1, hz2⟩ := info_parts info_int
  replace hi := Lib.hid hi
  replace hz0 := Lib.hid hz0
  replace hz1 := Lib.hid hz1
  replace hz2 := Lib.hid hz2
  have e1 : IntKind.i64.wrap (m1 : Int) = (m1 : Int) := wrap_in _ ⟨by omega, by omega⟩
  have p1 : decide ((m1 : Int) < 0) = false := decide_eq_false (by omega)
  have q1 : ¬ (m1 : Int) < 0 := by omega
  have HG := grow_nil m1 w (by omega) (by omega)
  replace HG := Lib.hid HG
  replace l1 := Lib.hid l1
  go_enter Try.func57, Try.ntmps57
  go_wp2_with fail
  go_loopw [3, 5, 11] (fun s _ ii wr => w = wr ∧ ((ii = .int .i64 0 ∧ s = .int .i64 0) ∨ (ii = .int .i64 1 ∧ s = .int .i64 m1) ∨ (ii = .int .i64 2 ∧ s = .int .i64 (m1 : Int)))) (fun _ _ ii _ => 2 - (intOf ii).toNat)
  case atStart => exact ⟨rfl, .inl ⟨rfl, rfl⟩⟩
  case round =>
    obtain ⟨rfl, ⟨rfl, rfl⟩ | ⟨rfl, rfl⟩ | ⟨rfl, rfl⟩⟩ := hrel
    · go_wp2
      go_roundw
      case rel => exact ⟨by first | rfl | trivial, .inr (.inl ⟨by go_num, by first | rfl | simp⟩)⟩
      case measure => simp [intOf]
    · go_wp2
      go_roundw
      case rel => exact ⟨by first | rfl | trivial, .inr (.inr ⟨by go_num, by first | rfl | simp⟩)⟩
      case measure => simp [intOf]
    · go_wp2_with fail
      refine HG.out.mono ?_
      rintro e w3 ⟨u3, rfl, ho, hb⟩
      have O3 := Lib.hid ho
      have B3 := Lib.hid hb
      clear ho hb HG
      go_wp2_with fail
      go_loopw [6, 8, 27] (fun v _ ii wr => Hid (Below w.heap.size w wr) ∧ ((ii = .int .i64 0 ∧ Hid (OwnI wr w.heap.size v [])) ∨ (ii = .int .i64 1 ∧ Hid (OwnI wr w.heap.size v z1)) ∨ (ii = .int .i64 2 ∧ Hid (OwnI wr w.heap.size v z1)))) (fun _ _ ii _ => 2 - (intOf ii).toNat)
      case atStart => exact ⟨B3, .inl ⟨rfl, O3⟩⟩
      case round =>
        obtain ⟨hB, ⟨rfl, hO⟩ | ⟨rfl, hO⟩ | ⟨rfl, hO⟩⟩ := hrel
        · have d0 : wr.cell? ⟨bk, ok, none⟩ = some (.slice (some ⟨b1, o1, none⟩) m1 k1) := by rw [(bcell hB.out).1 _ _ hbk]; exact c0
          have CN := Lib.hid (nums_cell wr b1 o1 m1 k1 z1 (fun j hj => by rw [(bcell hB.out).1 _ _ hb1]; exact h1.out j hj))
          have OA := hO
          unfold OwnI at OA
          have HS := Lib.hid hB.out.size
          go_wp2_with (at_builtin; refine wpList_append_own_at _ rfl _ _ 25 rfl w.heap.size 3 i0 (.int .i64 0) 1 8 Try.underlying25 hi.out hz0.out hz1.out hz2.out rfl (by omega) _ _ _ rfl OA.out ⟨b1, o1, none⟩ m1 k1 (z1.map (Value.int .i64)) rfl ?qd3 CN.out (map_one z1) ?qd4 ?qd5 HS.out ?_)
          case qd3 => rw [List.length_map, l1.out]; omega
          case qd4 => simp; unfold maxLen; omega
          case qd5 => simp; omega
          intro v2 w2 hown3 hgrow _ _
          have SN : Hid (OwnI w2 w.heap.size v2 z1) := Lib.hid (by unfold OwnI; rw [l1.out]; exact hown3)
          have B2 := Lib.hid (hB.out.grown hgrow HS.out (fun q hq => (World.ownsRow.lt hO.out q hq).1))
          clear hown3 hgrow OA CN
          go_wp2
          go_roundw
          case rel => exact ⟨B2, .inr (.inl ⟨by go_num, SN⟩)⟩
          case measure => simp [intOf]
        · have d0 : wr.cell? ⟨bk, ok + 1, none⟩ = some (.slice none 0 k2) := by rw [(bcell hB.out).1 _ _ hbk]; exact c1
          have hz := l1.out
          obtain ⟨g, cp, rfl, hg, hgs, hcp, hcp2, _⟩ := hO.out.form (by omega)
          rw [hz] at hO hcp ⊢
          clear hz
          go_wp2_with (at_builtin; refine wpList_append_room1 _ rfl _ _ 25 25 rfl 3 (.int .i64 0) 8 Try.underlying25 info_int g 0 m1 cp rfl _ rfl 0 [] (Src.ofNil Try.underlying25 _) (by omega) (fun j hj => by simp at hj) (fun j hj => by simp at hj) ?_)
          go_wp2
          go_roundw
          case rel => exact ⟨hB, .inr (.inr ⟨by go_num, hO⟩)⟩
          case measure => simp [intOf]
        · go_wp2
          go_returns
          exact ⟨_, rfl, hO.out, hB.out⟩
end Go.Proofs.Ytmdpdpbkbakidaa

/- Package standing: merge. -/
namespace Go.Proofs.Ytmdpdpbkbakidaa
open Go.RowKit Go.Sort Go.Lib

theorem own_put {w : World} {B g cap k q : Nat} {e : TypeId} {cur : Array Value} {ts : List Int} (hbase : B ≤ g) (hb : w.heap[g]? = some (.cells cur e (0, 0))) (h1 : ts.length ≤ cap) (h2 : cap ≤ maxLen) (h3 : cur.size = cap * 1) (hk : k ≤ ts.length) :
    (putRow (Value.int .i64) (Sort.ahead w q) g 0 ts.toArray).ownsRow B e 1 (.slice (some ⟨g, 0, none⟩) k cap) k ((ts.take k).map (Value.int .i64)) := by
  have h := ownsRow_sortedI (n := q) (os := #[]) (ss := ts) (ts := ts) rfl hbase hb h1 h2 h3
  rw [grow_empty] at h
  obtain ⟨_, h | ⟨g', cap', cur', hv, hg, hh, a1, a2, a3, a4⟩⟩ := h
  · cases h.1
  · simp only [Value.slice.injEq, Option.some.injEq, Addr.mk.injEq, and_true, true_and] at hv
    obtain ⟨rfl, rfl⟩ := hv
    refine ⟨by simp; omega, .inr ⟨g, cap, cur', rfl, hbase, hh, by omega, h2, a3, ?_⟩⟩
    rw [Nat.mul_one] at a4 ⊢
    rw [List.map_take, ← a4, List.take_take, Nat.min_eq_left hk]
theorem put_grown {w : World} {g q : Nat} {os : Array Obj} (d : Array Int) : w.grownBy (grow (putRow (Value.int .i64) (Sort.ahead w q) g 0 d) os) (some g) := grownBy_sortedI d
set_option maxRecDepth 100000 in
set_option maxHeartbeats 8000000 in
theorem stMrg_core (bk ck : Nat) (zs : List Int) (w : World) (z0 : 1 ≤ zs.length) (z1 : zs.length ≤ 2000)
    (H1 : Hid (Calls Try.prog 57 #[.slice (some ⟨bk, 0, none⟩) 2 ck] w fun e w' => ∃ u, e = .returned u ∧ OwnI w' w.heap.size u zs ∧ Below w.heap.size w w')) :
    Calls Try.prog 30 #[.slice (some ⟨bk, 0, none⟩) 2 ck] w fun e w' => ∃ u, e = .returned u ∧ OwnI w' w.heap.size u (mrgI zs) ∧ Below w.heap.size w w' := by
  go_enter Try.func30, Try.ntmps30
  go_wp2_with fail
  refine H1.out.mono ?_
  rintro e w1 ⟨u, rfl, hO, hB⟩
  obtain ⟨_, ⟨_, h0⟩ | ⟨g, cap, cur, rfl, hg, hb, h1, h2, h3, h4⟩⟩ := hO
  · omega
  have X1 := Lib.hid hB
  have hgl : g < w1.heap.size := (Array.getElem?_eq_some_iff.1 hb).1
  have hH : Holds (Value.int .i64) w1 g 0 zs.toArray := holds_of_blockI hb (by simpa using h4)
  have HS := Lib.hid (Try.slices_Sort_int g 0 cap zs w1 hH hgl (by omega))
  have hl := srt_len zs
  obtain ⟨mf1, mf2, mf3⟩ := mrg_facts zs
  have HK : Hid (∀ q os, w1.heap.size ≤ (grow (putRow (Value.int .i64) (Sort.ahead w1 q) g 0 (srtI zs).toArray) os).heap.size ∧ (grow (putRow (Value.int .i64) (Sort.ahead w1 q) g 0 (srtI zs).toArray) os).heap[g]? = some (.cells (putCells (Value.int .i64) 0 (srtI zs).toArray cur) 3 (0, 0))) := Lib.hid fun q os => ⟨(grownBy_sortedI (srtI zs).toArray).size, heap_sortedI (srtI zs).toArray hb⟩
  have X2 : Hid (∀ q os, Below w.heap.size w (grow (putRow (Value.int .i64) (Sort.ahead w1 q) g 0 (srtI zs).toArray) os)) := Lib.hid fun q os => X1.out.grown (grownBy_sortedI (srtI zs).toArray) X1.out.size (fun k hk => by cases hk; exact hg)
  have PC : Hid ((putCells (Value.int .i64) 0 (srtI zs).toArray cur).size = cap * 1 ∧ (putCells (Value.int .i64) 0 (srtI zs).toArray cur).toList.take (srtI zs).length = (srtI zs).map (Value.int .i64)) := Lib.hid ⟨by simp [putCells, h3], take_putCellsI cur (srtI zs) (by omega)⟩
  have HG := Lib.hid hg
  have HL := Lib.hid hl
  have HM := Lib.hid mf3
  clear hB h4 hb hH hg mf1 mf2 mf3 hl
  generalize hn : zs.length = n at *
  replace hn := Lib.hid hn
  go_wp2_with fail
  refine HS.out.mono ?_
  rintro e w2 ⟨rfl, q, os, hw2⟩
  have HW := Lib.hid hw2
  clear hw2
  have X3 : Hid (Below w.heap.size w w2) := Lib.hid (by rw [HW.out]; exact X2.out q os)
  have hb2 : w2.heap[g]? = some (.cells (putCells (Value.int .i64) 0 (srtI zs).toArray cur) 3 (0, 0)) := by rw [HW.out]; exact (HK.out q os).2
  have hH2 : Holds (Value.int .i64) w2 g 0 (srtI zs).toArray := holds_of_blockI hb2 PC.out.2
  have HC := Try.slices_Compact_int g 0 cap (srtI zs) w2 hH2 (by rw [HL.out]; omega) (by rw [HL.out]; omega)
  rw [HL.out] at HC
  replace HC := Lib.hid HC
  replace hb2 := Lib.hid hb2
  clear hH2 HW
  go_wp2_with fail
  refine HC.out.mono ?_
  rintro e w3 ⟨rfl, q3, hw3⟩
  have HW := Lib.hid hw3
  clear hw3
  go_wp2
  go_returns
  refine ⟨_, rfl, ?_, ?_⟩
  · have hlen : (mrgI zs ++ List.replicate (n - (mrgI zs).length) 0).length = n := by rw [List.length_append, List.length_replicate]; have := HM.out; omega
    have := own_put (q := q3) (k := (mrgI zs).length) (ts := mrgI zs ++ List.replicate (n - (mrgI zs).length) 0) HG.out hb2.out (by omega) h2 PC.out.1 (by rw [hlen]; exact HM.out)
    rw [List.take_append_of_le_length (Nat.le_refl _), List.take_length] at this
    rw [HW.out]
    exact this
  · have hg3 := put_grown (w := w2) (g := g) (q := q3) (os := #[]) (mrgI zs ++ List.replicate (n - (mrgI zs).length) 0).toArray
    rw [grow_empty] at hg3
    rw [HW.out]
    exact X3.out.grown hg3 X3.out.size (fun k hk => by cases hk; exact HG.out)
end Go.Proofs.Ytmdpdpbkbakidaa

/- Package standing: Levels. -/
namespace Go.Proofs.Ytmdpdpbkbakidaa
open Go.RowKit

theorem ownI_below {w w' : World} {B : Nat} {v : Value} {zs : List Int} (h : OwnI w B v zs) (hb : Below w.heap.size w w') : OwnI w' B v zs := by
  obtain ⟨h1, h2|⟨g, cap, cur, rfl, hg, hh, r⟩⟩ := h
  · exact ⟨h1, .inl h2⟩
  · exact ⟨h1, .inr ⟨g, cap, cur, rfl, hg, by rw [hb.block _ (Array.getElem?_eq_some_iff.1 hh).1]; exact hh, r⟩⟩
theorem stLv_bad (v : Value) (E X d n : Int) (w : World) (e1 : (E == 0) = false) (e2 : (E != 0) = true)
    (H1 : Hid (Calls Try.prog 29 #[v] w fun e w' => e = .returned (.tuple #[.int .i64 X, .int .i64 E]) ∧ Below w.heap.size w w')) :
    Calls Try.prog 10 #[v, .int .i64 d, .int .i64 n] w fun e w' => e = .returned (.tuple #[.slice none 0 0, .int .i64 1]) ∧ Below w.heap.size w w' := by
  go_enter Try.func10, Try.ntmps10
  go_wp2_with fail
  refine H1.out.mono ?_
  rintro e w1 ⟨rfl, gg⟩
  have X1 := Lib.hid gg; clear gg
  go_wp2
  go_returns
  exact ⟨rfl, X1.out⟩
theorem stLv_rng (v : Value) (X d n : Int) (w : World) (h : d < 0 ∨ (¬ d < 0 ∧ X < d) ∨ (¬ d < 0 ∧ ¬ X < d ∧ n < 1) ∨ (¬ d < 0 ∧ ¬ X < d ∧ ¬ n < 1 ∧ 64 < n))
    (H1 : Hid (Calls Try.prog 29 #[v] w fun e w' => e = .returned (.tuple #[.int .i64 X, .int .i64 0]) ∧ Below w.heap.size w w')) :
    Calls Try.prog 10 #[v, .int .i64 d, .int .i64 n] w fun e w' => e = .returned (.tuple #[.slice none 0 0, .int .i64 2]) ∧ Below w.heap.size w w' := by
  rcases h with h | ⟨h, h1⟩ | ⟨h, h1, h2⟩ | ⟨h, h1, h2, h3⟩
  all_goals
    go_enter Try.func10, Try.ntmps10
    go_wp2_with fail
    refine H1.out.mono ?_
    rintro e w1 ⟨rfl, gg⟩
    have X1 := Lib.hid gg; clear gg
  · have d1 : decide (d < 0) = true := decide_eq_true h
    go_wp2
    go_returns
    exact ⟨rfl, X1.out⟩
  · have d1 : decide (d < 0) = false := decide_eq_false (by omega)
    have d2 : decide (X < d) = true := decide_eq_true h1
    go_wp2
    go_returns
    exact ⟨rfl, X1.out⟩
  · have d1 : decide (d < 0) = false := decide_eq_false (by omega)
    have d2 : decide (X < d) = false := decide_eq_false (by omega)
    have d3 : decide (n < 1) = true := decide_eq_true h2
    go_wp2
    go_returns
    exact ⟨rfl, X1.out⟩
  · have d1 : decide (d < 0) = false := decide_eq_false (by omega)
    have d2 : decide (X < d) = false := decide_eq_false (by omega)
    have d3 : decide (n < 1) = false := decide_eq_false (by omega)
    have d4 : decide (64 < n) = true := decide_eq_true h3
    go_wp2
    go_returns
    exact ⟨rfl, X1.out⟩
set_option maxHeartbeats 8000000 in
set_option maxRecDepth 100000 in
theorem stLv_ok (b off m cap : Nat) (l : List (Int × Int)) (X d : Int) (n : Nat) (w : World) (m1 : m ≤ 1000) (hcap : m ≤ cap) (hb : b < w.heap.size) (hm : Hid (m = l.length)) (d0 : 0 ≤ d) (d1 : d ≤ X) (d2 : d ≤ 100000) (n0 : 1 ≤ n) (n1 : n ≤ 64)
    (hc : Hid (∀ j, j < m → w.cell? ⟨b, off + j * 2, none⟩ = some (.int .i64 (gX l j)) ∧ w.cell? ⟨b, off + j * 2 + 1, none⟩ = some (.int .i64 (gR l j))))
    (H1 : Hid (Calls Try.prog 29 #[.slice (some ⟨b, off, none⟩) m cap] w fun e w' => e = .returned (.tuple #[.int .i64 X, .int .i64 0]) ∧ Below w.heap.size w w')) :
    Calls Try.prog 10 #[.slice (some ⟨b, off, none⟩) m cap, .int .i64 d, .int .i64 n] w fun e w' => ∃ u, e = .returned (.tuple #[u, .int .i64 0]) ∧ Nums w' u (lvL l d n) ∧ Below w.heap.size w w' := by
  have g1 : decide (d < 0) = false := decide_eq_false (by omega)
  have g2 : decide (X < d) = false := decide_eq_false (by omega)
  have g3 : decide ((n : Int) < 1) = false := decide_eq_false (by omega)
  have g4 : decide (64 < (n : Int)) = false := decide_eq_false (by omega)
  have HM : Hid (∀ W, _) := Lib.hid fun W => stMul_any d n W d0 d2 n0 n1
  have HB : Hid (∀ W, Below w.heap.size w W → _) := Lib.hid fun W hW => stBel_some b off m cap l d W m1 hcap (Nat.lt_of_lt_of_le hb hW.size) (Lib.hid fun j hj => ⟨by rw [(bcell hW).1 _ _ hb]; exact (hc.out j hj).1, by rw [(bcell hW).1 _ _ hb]; exact (hc.out j hj).2⟩)
  have HT : Hid (∀ (W : World) (u v : Value) (B1 B2 : Nat), OwnI W B1 u ((List.range (n + 1)).map (muF d n)) → OwnI W B2 v (blS l d m) → Calls Try.prog 30 #[.slice (some ⟨W.heap.size, 0, none⟩) 2 2] (W.alloc (.cells #[u, v] 25)) fun e w' => ∃ z, e = .returned z ∧ Nums w' z (lvL l d n) ∧ Below W.heap.size W w') := Lib.hid fun W u v B1 B2 hu hv => by
    have bl := blS_len l d m
    have l1 : ((List.range (n + 1)).map (muF d n)).length = n + 1 := by rw [List.length_map, List.length_range]
    have hbk : W.heap.size < (W.alloc (.cells #[u, v] 25)).heap.size := by simp
    have H := stMrg_core W.heap.size 2 ((List.range (n + 1)).map (muF d n) ++ blS l d m) (W.alloc (.cells #[u, v] 25)) (by rw [List.length_append, l1]; omega) (by rw [List.length_append, l1]; omega) (Lib.hid ?_)
    · refine H.mono ?_
      rintro e w' ⟨z, rfl, hO, hb⟩
      refine ⟨z, rfl, ?_, bel_alloc hb⟩
      unfold lvL
      rw [← hm.out]
      exact hO.nums
    · obtain ⟨g, cp, rfl, hg, hgs, hcp, hcp2, hcell⟩ := hu.form (by rw [l1]; omega)
      have h1 : Hid (∀ j, j < ((List.range (n + 1)).map (muF d n)).length → (W.alloc (.cells #[.slice (some ⟨g, 0, none⟩) ((List.range (n + 1)).map (muF d n)).length cp, v] 25)).cell? ⟨g, 0 + j, none⟩ = some (.int .i64 (((List.range (n + 1)).map (muF d n)).getD j 0))) := Lib.hid fun j hj => by rw [World.cell?_alloc_lt W _ _ hgs, Nat.zero_add]; exact hcell j hj
      obtain ⟨hl2, hv2⟩ := hv
      rcases hv2 with ⟨rfl, h0⟩ | ⟨g2, cp2, cur, rfl, hg2, hh2, k1, k2, k3, k4⟩
      · have hz : blS l d m = [] := List.length_eq_zero_iff.1 h0
        rw [hz, List.append_nil]
        rw [show (blS l d m).length = 0 from h0] at *
        exact concat_nil W.heap.size 0 2 g 0 _ cp 0 _ _ hbk (by simp; omega) l1 (by omega) (by omega) (by simp [go_sem, l1]) (by simp [go_sem]) h1
      · have gl2 : g2 < W.heap.size := (Array.getElem?_eq_some_iff.1 hh2).1
        have c2 : ∀ j, j < (blS l d m).length → W.cell? ⟨g2, 0 + j, none⟩ = some (.int .i64 ((blS l d m).getD j 0)) := fun j hj => by
          have hO : OwnI W B2 (.slice (some ⟨g2, 0, none⟩) (blS l d m).length cp2) (blS l d m) := ⟨hl2, .inr ⟨g2, cp2, cur, rfl, hg2, hh2, k1, k2, k3, k4⟩⟩
          obtain ⟨g', cp', e, _, _, _, _, hcc⟩ := hO.form (by omega)
          simp only [Value.slice.injEq, Option.some.injEq, Addr.mk.injEq, and_true, true_and] at e
          rw [Nat.zero_add, e.1]; exact hcc j hj
        exact concat_some W.heap.size 0 2 g 0 _ cp g2 0 _ cp2 _ _ _ hbk (by simp; omega) (by simp; omega) l1 rfl (by omega) (by omega) (by omega) (by simp [go_sem, l1]) (by simp [go_sem]) h1 (Lib.hid fun j hj => by rw [World.cell?_alloc_lt W _ _ gl2]; exact c2 j hj)
  clear hc
  generalize lvL l d n = LV at *
  generalize hM : (List.range (n + 1)).map (muF d n) = ML at *
  go_enter Try.func10, Try.ntmps10
  go_wp2_with fail
  refine H1.out.mono ?_
  rintro e w1 ⟨rfl, gg⟩
  have X1 := Lib.hid gg; clear gg
  go_wp2_with fail
  refine (HM.out _).mono ?_
  rintro e w2 ⟨u, rfl, hu, gg⟩
  have U1 := Lib.hid hu
  have X2 := Lib.hid (bel_trans X1.out gg); clear gg
  obtain ⟨a1, cp1, rfl, _, _⟩ := hu.nums
  clear hu
  generalize ML.length = K1 at *
  go_wp2_with fail
  refine (HB.out _ X2.out).mono ?_
  rintro e w3 ⟨v, rfl, hv, gg⟩
  have V1 := Lib.hid hv
  replace U1 := Lib.hid (ownI_below U1.out gg)
  have X3 := Lib.hid (bel_trans X2.out gg); clear gg
  obtain ⟨a2, cp2, rfl, _, _⟩ := hv.nums
  clear hv
  generalize (blS l d m).length = K2 at *
  go_wp2_with fail
  refine (HT.out _ _ _ _ _ U1.out V1.out).mono ?_
  rintro e w4 ⟨z, rfl, hz, gg⟩
  have Z1 := Lib.hid hz
  have X4 := Lib.hid (bel_trans X3.out gg); clear gg
  obtain ⟨a2, cap2, rfl, _, _⟩ := hz
  generalize LV.length = K at *
  go_wp2
  go_returns
  exact ⟨_, rfl, Z1.out, X4.out⟩
theorem stLv_any (v : Value) (l : List (Int × Int)) (d n : Int) (w : World) (hv : Pts w v l) :
    Calls Try.prog 10 #[v, .int .i64 d, .int .i64 n] w fun e w' => ∃ u, e = .returned (.tuple #[u, .int .i64 (lvsE l d n)]) ∧ Nums w' u (lvsL l d n) ∧ Below w.heap.size w w' := by
  have HL := Lib.hid (len_any v l w hv)
  unfold lvsL
  by_cases h : ckE l = 0
  · unfold lgQ at HL
    rw [if_pos h, h] at HL
    by_cases g : d < 0 ∨ gX l (l.length - 1) < d ∨ n < 1 ∨ 64 < n
    · have e : lvsE l d n = 2 := by unfold lvsE; rw [if_pos h, if_pos g]
      rw [e, if_neg (by omega)]
      refine (stLv_rng v _ d n w (by omega) HL).mono ?_
      rintro e w' ⟨rfl, hb⟩
      exact ⟨_, rfl, ⟨none, 0, rfl, by simp, .inl rfl⟩, hb⟩
    · have e : lvsE l d n = 0 := by unfold lvsE; rw [if_pos h, if_neg g]
      rw [e, if_pos rfl]
      have hR := (ckE_iff l).1 h
      have n0 := hR.n0
      have n1 := hR.n1
      obtain ⟨k, hk⟩ : ∃ k : Nat, n = k := ⟨n.toNat, by omega⟩
      subst hk
      have bx := hR.bx (l.length - 1) (by omega)
      obtain ⟨a, cap, rfl, hcap, hh⟩ := hv
      rcases hh with h0 | ⟨b, off, rfl, hb, hc⟩
      · omega
      · exact stLv_ok b off _ cap l _ d k w (by omega) hcap.1 hb rfl (by omega) (by omega) (by omega) (by omega) (by omega) (Lib.hid hc) HL
  · have e : lvsE l d n = 1 := by unfold lvsE; rw [if_neg h]
    rw [e, if_neg (by omega)]
    refine (stLv_bad v (ckE l) _ d n w (by simpa using h) (by simpa using h) HL).mono ?_
    rintro e w' ⟨rfl, hb⟩
    exact ⟨_, rfl, ⟨none, 0, rfl, by simp, .inl rfl⟩, hb⟩
end Go.Proofs.Ytmdpdpbkbakidaa

/- Package standing: Sums, Between, Wet. -/
namespace Go.Proofs.Ytmdpdpbkbakidaa
open Go.RowKit

theorem stSm_bad (nm : ByteArray) (cps dc E : Int) (a : Option Addr) (m cap : Nat) (u : Value) (w : World) (e1 : (E == 0) = false) (e2 : (E != 0) = true)
    (H1 : Hid (∀ W, Below w.heap.size w W → Calls Try.prog 14 #[.agg #[.string nm, .int .i64 cps, .slice a m cap, .int .i64 dc], u] W fun e w' => e = .returned (.int .i64 E) ∧ Below W.heap.size W w')) :
    Calls Try.prog 18 #[.agg #[.string nm, .int .i64 cps, .slice a m cap, .int .i64 dc], u] w fun e w' => e = .returned (.tuple #[.slice none 0 0, .int .i64 E]) ∧ Below w.heap.size w w' := by
  go_enter Try.func18, Try.ntmps18
  go_wp2_with fail
  refine (H1.out _ (bel_alloc (Below.refl _ _))).mono ?_
  rintro e w1 ⟨rfl, gg⟩
  have X1 := Lib.hid (bel_alloc gg); clear gg
  go_wp2
  go_returns
  exact ⟨rfl, X1.out⟩
theorem stSm_ok (nm : ByteArray) (cps dc : Int) (a : Option Addr) (m cap : Nat) (u : Value) (L : List (Int × Int)) (w : World)
    (H1 : Hid (∀ W, Below w.heap.size w W → Calls Try.prog 14 #[.agg #[.string nm, .int .i64 cps, .slice a m cap, .int .i64 dc], u] W fun e w' => e = .returned (.int .i64 0) ∧ Below W.heap.size W w'))
    (H2 : Hid (∀ W, Below w.heap.size w W → Calls Try.prog 44 #[.slice a m cap, u] W fun e w' => ∃ v, e = .returned v ∧ Pts w' v L ∧ Below W.heap.size W w')) :
    Calls Try.prog 18 #[.agg #[.string nm, .int .i64 cps, .slice a m cap, .int .i64 dc], u] w fun e w' => ∃ v, e = .returned (.tuple #[v, .int .i64 0]) ∧ Pts w' v L ∧ Below w.heap.size w w' := by
  have F0 := Lib.hid (Quad.new w (.string nm) (.int .i64 cps) (.slice a m cap) (.int .i64 dc) 24)
  go_enter Try.func18, Try.ntmps18
  go_wp2_with fail
  refine (H1.out _ (bel_alloc (Below.refl _ _))).mono ?_
  rintro e w1 ⟨rfl, gg⟩
  replace F0 := Lib.hid (F0.out.below gg)
  have X1 := Lib.hid (bel_alloc gg); clear gg
  obtain ⟨_, _, y2, _, _, _⟩ := F0.out
  go_wp2_with fail
  refine (H2.out _ X1.out).mono ?_
  rintro e w2 ⟨v, rfl, hv, gg⟩
  replace X1 := Lib.hid (bel_trans X1.out gg); clear gg y2
  have HV := Lib.hid hv
  obtain ⟨a2, cp2, rfl, _, _⟩ := hv.shape
  clear hv
  generalize L.length = K at *
  go_wp2
  go_returns
  exact ⟨_, rfl, HV.out, X1.out⟩
theorem stSm_any (v u : Value) (c : Ck) (ls : List Int) (w : World) (hv : CkV w v c) (hu : Nums w u ls) :
    Calls Try.prog 18 #[v, u] w fun e w' => ∃ z, e = .returned (.tuple #[z, .int .i64 (stE c ls)]) ∧ Pts w' z (smL c ls) ∧ Below w.heap.size w w' := by
  have H1 : Hid (∀ W, Below w.heap.size w W → _) := Lib.hid fun W hW => stChk_any v u c ls W (hv.below hW) (hu.below hW)
  unfold smL
  by_cases g : stE c ls = 0
  · obtain ⟨⟨h1, h2⟩, hL⟩ := stE_zero.1 g
    obtain ⟨_, _, _, hR⟩ := ccE_pf h1
    rw [if_pos g, g]
    rw [g] at H1
    obtain ⟨a, cap, rfl, hp, _⟩ := hv
    refine stSm_ok _ _ _ a _ cap u _ w H1 (Lib.hid fun W hW => ?_)
    have hu2 := hu.below hW
    have n0 := hL.n0
    have n1 := hL.n1
    obtain ⟨q, hq⟩ : ∃ q, ls.length = q + 1 := ⟨ls.length - 1, by omega⟩
    obtain ⟨a2, cap2, rfl, hcap, hh⟩ := hu2
    rcases hh with h0 | ⟨b, off, rfl, hb, hc⟩
    · omega
    · rw [hq, Nat.add_sub_cancel]
      refine stSums_some a _ cap b off q cap2 c.pf ls W (by omega) (by omega) (Lib.hid hq) hb (Lib.hid hR) (Lib.hid hL) (Lib.hid fun j hj => hc j (by omega)) (Lib.hid fun x W2 hW2 x0 x1 => ?_)
      have e0 : plE c.pf x = 0 := plE_zero.2 ⟨hR, x0, x1⟩
      have := At_any (.slice a c.pf.length cap) c.pf x W2 ((hp.below hW).below hW2)
      unfold atL atH at this
      rwa [if_pos e0, if_pos e0, e0] at this
  · rw [if_neg g]
    obtain ⟨a, cap, rfl, hp, _⟩ := hv
    refine (stSm_bad _ _ _ _ a _ cap u w (by simpa using g) (by simpa using g) H1).mono ?_
    rintro e w' ⟨rfl, hb⟩
    exact ⟨_, rfl, pts_nil _, hb⟩
theorem stBw_bad (nm : ByteArray) (cps dc E : Int) (a : Option Addr) (m cap : Nat) (u : Value) (w : World) (e1 : (E == 0) = false) (e2 : (E != 0) = true)
    (H1 : Hid (∀ W, Below w.heap.size w W → Calls Try.prog 18 #[.agg #[.string nm, .int .i64 cps, .slice a m cap, .int .i64 dc], u] W fun e w' => ∃ z, e = .returned (.tuple #[z, .int .i64 E]) ∧ Pts w' z [] ∧ Below W.heap.size W w')) :
    Calls Try.prog 19 #[.agg #[.string nm, .int .i64 cps, .slice a m cap, .int .i64 dc], u] w fun e w' => e = .returned (.tuple #[.agg #[.int .i64 0, .int .i64 0], .int .i64 E]) ∧ Below w.heap.size w w' := by
  have T0 := Lib.hid (Two.new (w.alloc (.cells #[.string nm, .int .i64 cps, .slice a m cap, .int .i64 dc] 24)) (.int .i64 0) (.int .i64 0) 43)
  rw [World.size_alloc] at T0
  go_enter Try.func19, Try.ntmps19
  go_wp2_with fail
  refine (H1.out _ (bel_alloc (bel_alloc (Below.refl _ _)))).mono ?_
  rintro e w1 ⟨z, rfl, hz, gg⟩
  replace T0 := Lib.hid (T0.out.below gg)
  have X1 := Lib.hid (bel_alloc (bel_alloc gg)); clear gg
  obtain ⟨a2, cp2, rfl, _, _⟩ := hz.shape
  clear hz
  obtain ⟨r0, r1, rf0, rf1, _⟩ := T0.out
  go_wp2
  obtain ⟨t0, t1⟩ := two_read w1 (w.heap.size + 1) (.int .i64 0) (.int .i64 0) r0 r1
  refine bodyPost_ret (v := .tuple #[.agg #[.int .i64 0, .int .i64 0], .int .i64 E]) (by simp [results, Try.results19, go_sem, t0, t1]) rfl ?_
  exact ⟨rfl, (X1.out.setCell (Nat.le_succ _) _).setCell (Nat.le_succ _) _⟩
set_option maxHeartbeats 4000000 in
theorem stBw_ok (nm : ByteArray) (cps dc lo hi : Int) (a : Option Addr) (m cap q : Nat) (u : Value) (L : List (Int × Int)) (w : World) (hq : Hid (L.length = q + 1)) (q1 : q ≤ 200) (hl : Hid (gX L q = lo ∧ gR L q = hi)) (b0 : 0 ≤ lo) (b1 : lo ≤ 3000000000000000) (b2 : 0 ≤ hi) (b3 : hi ≤ 3000000000000000)
    (H1 : Hid (∀ W, Below w.heap.size w W → Calls Try.prog 18 #[.agg #[.string nm, .int .i64 cps, .slice a m cap, .int .i64 dc], u] W fun e w' => ∃ z, e = .returned (.tuple #[z, .int .i64 0]) ∧ Pts w' z L ∧ Below W.heap.size W w')) :
    Calls Try.prog 19 #[.agg #[.string nm, .int .i64 cps, .slice a m cap, .int .i64 dc], u] w fun e w' => e = .returned (.tuple #[.agg #[.int .i64 (lo * 333 / 318), .int .i64 ((hi * 355 + 338) / 339)], .int .i64 0]) ∧ Below w.heap.size w w' := by
  have T0 := Lib.hid (Two.new (w.alloc (.cells #[.string nm, .int .i64 cps, .slice a m cap, .int .i64 dc] 24)) (.int .i64 0) (.int .i64 0) 43)
  rw [World.size_alloc] at T0
  have HS : Hid (∀ W, _) := Lib.hid fun W => stSpace_any lo hi W b0 b1 b2 b3
  generalize lo * 333 / 318 = y0 at *
  generalize (hi * 355 + 338) / 339 = y1 at *
  go_enter Try.func19, Try.ntmps19
  go_wp2_with fail
  refine (H1.out _ (bel_alloc (bel_alloc (Below.refl _ _)))).mono ?_
  rintro e w1 ⟨z, rfl, hz, gg⟩
  replace T0 := Lib.hid (T0.out.below gg)
  have X1 := Lib.hid (bel_alloc (bel_alloc gg)); clear gg
  obtain ⟨a2, cp2, rfl, _, _⟩ := hz.shape
  rw [hq.out] at hz ⊢
  obtain ⟨b, off, rfl, hb, hc⟩ := hz.at (by omega)
  have c0 : w1.cell? ⟨b, off + q * 2, none⟩ = some (.int .i64 lo) := by rw [← hl.out.1]; exact (hc q (by omega)).1
  have c1 : w1.cell? ⟨b, off + q * 2 + 1, none⟩ = some (.int .i64 hi) := by rw [← hl.out.2]; exact (hc q (by omega)).2
  have wq : IntKind.i64.wrap ((q : Int) + 1 - 1) = (q : Int) := by rw [wrap_in _ ⟨by omega, by omega⟩]; omega
  have wq2 : IntKind.i64.wrap (q : Int) = (q : Int) := wrap_in _ ⟨by omega, by omega⟩
  clear hc hz hb
  go_wp2_with fail
  refine (HS.out _).mono ?_
  rintro e w2 ⟨rfl, gg⟩
  replace T0 := Lib.hid (T0.out.below gg)
  replace X1 := Lib.hid (bel_trans X1.out gg); clear gg c0 c1
  obtain ⟨r0, r1, rf0, rf1, _⟩ := T0.out
  go_wp2
  obtain ⟨t0, t1⟩ := two_read w2 (w.heap.size + 1) (.int .i64 y0) (.int .i64 y1) r0 r1
  refine bodyPost_ret (v := .tuple #[.agg #[.int .i64 y0, .int .i64 y1], .int .i64 0]) (by simp [results, Try.results19, go_sem, t0, t1]) rfl ?_
  exact ⟨rfl, (X1.out.setCell (Nat.le_succ _) _).setCell (Nat.le_succ _) _⟩
theorem en_top {l : List (Int × Int)} {ls : List Int} (hR : RP l) (hL : LvR l ls) (k : Nat) (hk : k < ls.length) : 0 ≤ enL l ls k ∧ enL l ls k ≤ enH l ls k ∧ enH l ls k ≤ 3000000000000000 := by
  have b := en_bd hR hL k hk
  have d0 := hL.bd 0 (by omega)
  have dk := hL.bd k hk
  have x := (hR.bx (l.length - 1) (by have := hR.n0; omega)).2
  omega
theorem stBw_any (v u : Value) (c : Ck) (ls : List Int) (w : World) (hv : CkV w v c) (hu : Nums w u ls) :
    Calls Try.prog 19 #[v, u] w fun e w' => e = .returned (.tuple #[.agg #[.int .i64 (bwL c ls), .int .i64 (bwH c ls)], .int .i64 (stE c ls)]) ∧ Below w.heap.size w w' := by
  have H1 : Hid (∀ W, Below w.heap.size w W → _) := Lib.hid fun W hW => stSm_any v u c ls W (hv.below hW) (hu.below hW)
  unfold smL at H1
  unfold bwL bwH
  by_cases g : stE c ls = 0
  · obtain ⟨⟨h1, h2⟩, hL⟩ := stE_zero.1 g
    obtain ⟨_, _, _, hR⟩ := ccE_pf h1
    rw [if_pos g, if_pos g, g]
    rw [if_pos g, g] at H1
    obtain ⟨a, cap, rfl, hp, _⟩ := hv
    have n0 := hL.n0
    have n1 := hL.n1
    obtain ⟨q, hq⟩ : ∃ q, ls.length = q + 2 := ⟨ls.length - 2, by omega⟩
    have e1 : ls.length - 1 = q + 1 := by omega
    rw [e1] at H1 ⊢
    obtain ⟨b0, b1, b2⟩ := en_top hR hL (q + 1) (by omega)
    exact stBw_ok _ _ _ _ _ a _ cap q u _ w (Lib.hid (smS_len _ _ _)) (by omega) (Lib.hid (smS_at (Nat.lt_succ_self q))) b0 (by omega) (by omega) b2 H1
  · rw [if_neg g, if_neg g]
    rw [if_neg g] at H1
    obtain ⟨a, cap, rfl, hp, _⟩ := hv
    exact stBw_bad _ _ _ _ a _ cap u w (by simpa using g) (by simpa using g) H1
/-! ### Wet -/
theorem stWt_pos (nm : ByteArray) (cps dc d n E : Int) (a : Option Addr) (m cap : Nat) (w : World) (e1 : (E == 0) = false) (e2 : (E != 0) = true)
    (H1 : Hid (∀ W, Below w.heap.size w W → Calls Try.prog 34 #[.agg #[.string nm, .int .i64 cps, .slice a m cap, .int .i64 dc]] W fun e w' => e = .returned (.int .i64 E) ∧ Below W.heap.size W w')) :
    Calls Try.prog 23 #[.agg #[.string nm, .int .i64 cps, .slice a m cap, .int .i64 dc], .int .i64 d, .int .i64 n] w fun e w' => e = .returned (.tuple #[.agg #[.int .i64 0, .int .i64 0], .int .i64 E]) ∧ Below w.heap.size w w' := by
  have T0 := Lib.hid (Two.new (w.alloc (.cells #[.string nm, .int .i64 cps, .slice a m cap, .int .i64 dc] 24)) (.int .i64 0) (.int .i64 0) 43)
  rw [World.size_alloc] at T0
  go_enter Try.func23, Try.ntmps23
  go_wp2_with fail
  refine (H1.out _ (bel_alloc (bel_alloc (Below.refl _ _)))).mono ?_
  rintro e w1 ⟨rfl, gg⟩
  replace T0 := Lib.hid (T0.out.below gg)
  have X1 := Lib.hid (bel_alloc (bel_alloc gg)); clear gg
  obtain ⟨r0, r1, rf0, rf1, _⟩ := T0.out
  go_wp2
  obtain ⟨t0, t1⟩ := two_read w1 (w.heap.size + 1) (.int .i64 0) (.int .i64 0) r0 r1
  refine bodyPost_ret (v := .tuple #[.agg #[.int .i64 0, .int .i64 0], .int .i64 E]) (by simp [results, Try.results23, go_sem, t0, t1]) rfl ?_
  exact ⟨rfl, (X1.out.setCell (Nat.le_succ _) _).setCell (Nat.le_succ _) _⟩
theorem stWt_nil (nm : ByteArray) (cps dc d n E : Int) (a : Option Addr) (m cap : Nat) (LV : List Int) (w : World) (hE : ((E == 0) = false ∧ (E != 0) = true) ∨ (E = 0 ∧ d = 0))
    (H1 : Hid (∀ W, Below w.heap.size w W → Calls Try.prog 34 #[.agg #[.string nm, .int .i64 cps, .slice a m cap, .int .i64 dc]] W fun e w' => e = .returned (.int .i64 0) ∧ Below W.heap.size W w'))
    (H2 : Hid (∀ W, Below w.heap.size w W → Calls Try.prog 10 #[.slice a m cap, .int .i64 d, .int .i64 n] W fun e w' => ∃ u, e = .returned (.tuple #[u, .int .i64 E]) ∧ Nums w' u LV ∧ Below W.heap.size W w')) :
    Calls Try.prog 23 #[.agg #[.string nm, .int .i64 cps, .slice a m cap, .int .i64 dc], .int .i64 d, .int .i64 n] w fun e w' => e = .returned (.tuple #[.agg #[.int .i64 0, .int .i64 0], .int .i64 E]) ∧ Below w.heap.size w w' := by
  have T0 := Lib.hid (Two.new (w.alloc (.cells #[.string nm, .int .i64 cps, .slice a m cap, .int .i64 dc] 24)) (.int .i64 0) (.int .i64 0) 43)
  rw [World.size_alloc] at T0
  have F0 := Lib.hid ((Quad.new w (.string nm) (.int .i64 cps) (.slice a m cap) (.int .i64 dc) 24).alloc (.cells #[.int .i64 0, .int .i64 0] 43))
  rcases hE with ⟨e1, e2⟩ | ⟨rfl, rfl⟩
  all_goals
    go_enter Try.func23, Try.ntmps23
    go_wp2_with fail
    refine (H1.out _ (bel_alloc (bel_alloc (Below.refl _ _)))).mono ?_
    rintro e w1 ⟨rfl, gg⟩
    replace T0 := Lib.hid (T0.out.below gg)
    replace F0 := Lib.hid (F0.out.below gg)
    have X1 := Lib.hid (bel_alloc (bel_alloc gg)); clear gg
    obtain ⟨_, _, y2, _, _, _⟩ := F0.out
    go_wp2_with fail
    refine (H2.out _ X1.out).mono ?_
    rintro e w2 ⟨u, rfl, hu, gg⟩
    replace T0 := Lib.hid (T0.out.below gg)
    replace X1 := Lib.hid (bel_trans X1.out gg); clear gg y2
    obtain ⟨a2, cp2, rfl, _, _⟩ := hu
    generalize LV.length = K at *
    obtain ⟨r0, r1, rf0, rf1, _⟩ := T0.out
    obtain ⟨t0, t1⟩ := two_read w2 (w.heap.size + 1) (.int .i64 0) (.int .i64 0) r0 r1
    replace t0 := Lib.hid t0
    replace t1 := Lib.hid t1
    go_wp2
  · have t0 := t0.out
    have t1 := t1.out
    refine bodyPost_ret (v := .tuple #[.agg #[.int .i64 0, .int .i64 0], .int .i64 E]) (by simp [results, Try.results23, go_sem, t0, t1]) rfl ?_
    exact ⟨rfl, (X1.out.setCell (Nat.le_succ _) _).setCell (Nat.le_succ _) _⟩
  · have t0 := t0.out
    have t1 := t1.out
    refine bodyPost_ret (v := .tuple #[.agg #[.int .i64 0, .int .i64 0], .int .i64 0]) (by simp [results, Try.results23, go_sem, t0, t1]) rfl ?_
    exact ⟨rfl, (X1.out.setCell (Nat.le_succ _) _).setCell (Nat.le_succ _) _⟩
theorem stWt_ok (nm : ByteArray) (cps dc d n L H : Int) (a : Option Addr) (m cap : Nat) (LV : List Int) (w : World) (hd : (d == 0) = false)
    (H1 : Hid (∀ W, Below w.heap.size w W → Calls Try.prog 34 #[.agg #[.string nm, .int .i64 cps, .slice a m cap, .int .i64 dc]] W fun e w' => e = .returned (.int .i64 0) ∧ Below W.heap.size W w'))
    (H2 : Hid (∀ W, Below w.heap.size w W → Calls Try.prog 10 #[.slice a m cap, .int .i64 d, .int .i64 n] W fun e w' => ∃ u, e = .returned (.tuple #[u, .int .i64 0]) ∧ Nums w' u LV ∧ Below W.heap.size W w'))
    (H3 : Hid (∀ W u, Below w.heap.size w W → Nums W u LV → Calls Try.prog 19 #[.agg #[.string nm, .int .i64 cps, .slice a m cap, .int .i64 dc], u] W fun e w' => e = .returned (.tuple #[.agg #[.int .i64 L, .int .i64 H], .int .i64 0]) ∧ Below W.heap.size W w')) :
    Calls Try.prog 23 #[.agg #[.string nm, .int .i64 cps, .slice a m cap, .int .i64 dc], .int .i64 d, .int .i64 n] w fun e w' => e = .returned (.tuple #[.agg #[.int .i64 L, .int .i64 H], .int .i64 0]) ∧ Below w.heap.size w w' := by
  have T0 := Lib.hid (Two.new (w.alloc (.cells #[.string nm, .int .i64 cps, .slice a m cap, .int .i64 dc] 24)) (.int .i64 0) (.int .i64 0) 43)
  rw [World.size_alloc] at T0
  have F0 := Lib.hid ((Quad.new w (.string nm) (.int .i64 cps) (.slice a m cap) (.int .i64 dc) 24).alloc (.cells #[.int .i64 0, .int .i64 0] 43))
  go_enter Try.func23, Try.ntmps23
  go_wp2_with fail
  refine (H1.out _ (bel_alloc (bel_alloc (Below.refl _ _)))).mono ?_
  rintro e w1 ⟨rfl, gg⟩
  replace T0 := Lib.hid (T0.out.below gg)
  replace F0 := Lib.hid (F0.out.below gg)
  have X1 := Lib.hid (bel_alloc (bel_alloc gg)); clear gg
  obtain ⟨_, _, y2, _, _, _⟩ := F0.out
  go_wp2_with fail
  refine (H2.out _ X1.out).mono ?_
  rintro e w2 ⟨u, rfl, hu, gg⟩
  replace T0 := Lib.hid (T0.out.below gg)
  replace F0 := Lib.hid (F0.out.below gg)
  replace X1 := Lib.hid (bel_trans X1.out gg); clear gg y2
  have HU := Lib.hid hu
  obtain ⟨a2, cp2, rfl, _, _⟩ := hu
  have HK : Hid (∀ K : Nat, K = LV.length → Nums w2 (.slice a2 K cp2) LV) := Lib.hid fun K e => by rw [e]; exact HU.out
  obtain ⟨K, hK⟩ : ∃ K, K = LV.length := ⟨_, rfl⟩
  have HK2 := Lib.hid (HK.out K hK)
  rw [← hK]
  clear hK HK HU
  obtain ⟨q0, q1, q2, q3, _, _⟩ := F0.out
  go_wp2_with fail
  refine (H3.out _ _ X1.out HK2.out).mono ?_
  rintro e w3 ⟨rfl, gg⟩
  replace T0 := Lib.hid (T0.out.below gg)
  replace X1 := Lib.hid (bel_trans X1.out gg); clear gg q0 q1 q2 q3
  obtain ⟨r0, r1, rf0, rf1, _⟩ := T0.out
  go_wp2
  obtain ⟨t0, t1⟩ := two_read w3 (w.heap.size + 1) (.int .i64 L) (.int .i64 H) r0 r1
  refine bodyPost_ret (v := .tuple #[.agg #[.int .i64 L, .int .i64 H], .int .i64 0]) (by simp [results, Try.results23, go_sem, t0, t1]) rfl ?_
  exact ⟨rfl, (X1.out.setCell (Nat.le_succ _) _).setCell (Nat.le_succ _) _⟩
theorem stWt_any (v : Value) (c : Ck) (d n : Int) (w : World) (hv : CkV w v c) :
    Calls Try.prog 23 #[v, .int .i64 d, .int .i64 n] w fun e w' => e = .returned (.tuple #[.agg #[.int .i64 (swL c d n), .int .i64 (swH c d n)], .int .i64 (swE c d n)]) ∧ Below w.heap.size w w' := by
  have H1 : Hid (∀ W, Below w.heap.size w W → _) := Lib.hid fun W hW => stPos_any v c W (hv.below hW)
  have hv' := hv
  obtain ⟨a, cap, rfl, hp, _⟩ := hv'
  by_cases h : stSE c = 0
  · rw [h] at H1
    obtain ⟨h1, h2⟩ := stSE_zero.1 h
    obtain ⟨_, _, _, hR⟩ := ccE_pf h1
    have H2 : Hid (∀ W, Below w.heap.size w W → _) := Lib.hid fun W hW => stLv_any _ c.pf d n W (hp.below hW)
    have eE : swE c d n = lvsE c.pf d n := by unfold swE; rw [if_pos h]
    by_cases g : lvsE c.pf d n = 0
    · by_cases hd : d = 0
      · have e0 : swL c d n = 0 ∧ swH c d n = 0 := by unfold swL swH; rw [if_neg (fun k => k.2 hd), if_neg (fun k => k.2 hd)]; exact ⟨rfl, rfl⟩
        rw [e0.1, e0.2, eE]
        exact stWt_nil _ _ _ d n _ a _ cap _ w (.inr ⟨g, hd⟩) H1 H2
      · obtain ⟨_, ⟨d0, d1⟩, n1, n2⟩ := lvsE_zero.1 g
        have hL : LvR c.pf (lvL c.pf d n.toNat) := lv_right hR (by omega) d1 (by omega) (by omega)
        have e0 : swL c d n = bwL c (lvL c.pf d n.toNat) ∧ swH c d n = bwH c (lvL c.pf d n.toNat) := by
          have hk : swE c d n = 0 ∧ d ≠ 0 := ⟨by rw [eE]; exact g, hd⟩
          have hk2 : stE c (lvL c.pf d n.toNat) = 0 := stE_zero.2 ⟨⟨h1, h2⟩, hL⟩
          unfold swL swH bwL bwH
          rw [if_pos hk, if_pos hk, if_pos hk2, if_pos hk2]
          exact ⟨rfl, rfl⟩
        have eS : stE c (lvL c.pf d n.toNat) = 0 := stE_zero.2 ⟨⟨h1, h2⟩, hL⟩
        rw [e0.1, e0.2, eE, g]
        unfold lvsL at H2
        rw [if_pos g, g] at H2
        refine stWt_ok _ _ _ d n _ _ a _ cap _ w (by simpa using hd) H1 H2 (Lib.hid fun W u hW hu => ?_)
        have := stBw_any _ u c _ W (hv.below hW) hu
        rwa [eS] at this
    · have e0 : swL c d n = 0 ∧ swH c d n = 0 := by unfold swL swH; rw [eE, if_neg (fun k => g k.1), if_neg (fun k => g k.1)]; exact ⟨rfl, rfl⟩
      rw [e0.1, e0.2, eE]
      exact stWt_nil _ _ _ d n _ a _ cap _ w (.inl ⟨by simpa using g, by simpa using g⟩) H1 H2
  · have eE : swE c d n = stSE c := by unfold swE; rw [if_neg h]
    have e0 : swL c d n = 0 ∧ swH c d n = 0 := by unfold swL swH; rw [eE, if_neg (fun k => h k.1), if_neg (fun k => h k.1)]; exact ⟨rfl, rfl⟩
    rw [e0.1, e0.2, eE]
    exact stWt_pos _ _ _ d n _ a _ cap w (by simpa using h) (by simpa using h) H1
end Go.Proofs.Ytmdpdpbkbakidaa

/- The statements about layer 12: the numbers of the example. -/
namespace Go.Proofs.Ytmdpdpbkbakidaa
open Go.RowKit

def stPl : List (Int × Int) := [(0, 2), (4, 4)]
def stPail : Ck := ⟨⟨#[112]⟩, 2, stPl, 0⟩
def stDl : List (Int × Int) := [(0, 3), (10, 3)]
def stD : Ck := ⟨⟨#[100]⟩, 2, stDl, 0⟩
theorem stPl_R : RP stPl := (ckE_iff _).1 (by decide +kernel)
theorem stDl_R : RP stDl := (ckE_iff _).1 (by decide +kernel)
theorem stPl_rd {x : Int} (x0 : 0 ≤ x) (x1 : x ≤ 4) : rdL stPl x = lnL 0 2 4 4 x ∧ rdH stPl x = lnH 0 2 4 4 x := rd_piece stPl_R (k := 0) (by decide) x0 x1
theorem stx_1 : stE stPail [0, 2, 4] = 0 ∧ smL stPail [0, 2, 4] = [(24, 54), (78, 150)] := by
  have e : stE stPail [0, 2, 4] = 0 := by decide +kernel
  refine ⟨e, ?_⟩
  unfold smL
  rw [if_pos e]
  obtain ⟨a0, a1⟩ := stPl_rd (x := 0) (by omega) (by omega)
  obtain ⟨b0, b1⟩ := stPl_rd (x := 2) (by omega) (by omega)
  obtain ⟨c0, c1⟩ := stPl_rd (x := 4) (by omega) (by omega)
  rw [show lnL 0 2 4 4 0 = 2 by decide +kernel] at a0
  rw [show lnH 0 2 4 4 0 = 2 by decide +kernel] at a1
  rw [show lnL 0 2 4 4 2 = 3 by decide +kernel] at b0
  rw [show lnH 0 2 4 4 2 = 3 by decide +kernel] at b1
  rw [show lnL 0 2 4 4 4 = 4 by decide +kernel] at c0
  rw [show lnH 0 2 4 4 4 = 4 by decide +kernel] at c1
  have s1 : slL stPl 0 2 = 2 ∧ slH stPl 0 2 = 3 := by unfold slL slH; rw [a0, a1, b0, b1]; decide
  have s2 : slL stPl 2 4 = 3 ∧ slH stPl 2 4 = 4 := by unfold slL slH; rw [b0, b1, c0, c1]; decide
  have e1 : enL stPl [0, 2, 4] 1 = 24 ∧ enH stPl [0, 2, 4] 1 = 54 := by
    refine ⟨?_, ?_⟩
    · show 0 + 3 * ((2 - 0) * (slL stPl 0 2 * slL stPl 0 2)) = 24
      rw [s1.1]; decide
    · show 0 + 3 * ((2 - 0) * (slH stPl 0 2 * slH stPl 0 2)) = 54
      rw [s1.2]; decide
  have e2 : enL stPl [0, 2, 4] 2 = 78 ∧ enH stPl [0, 2, 4] 2 = 150 := by
    refine ⟨?_, ?_⟩
    · show enL stPl [0, 2, 4] 1 + 3 * ((4 - 2) * (slL stPl 2 4 * slL stPl 2 4)) = 78
      rw [s2.1, e1.1]; decide
    · show enH stPl [0, 2, 4] 1 + 3 * ((4 - 2) * (slH stPl 2 4 * slH stPl 2 4)) = 150
      rw [s2.2, e1.2]; decide
  show [(enL stPl [0, 2, 4] 1, enH stPl [0, 2, 4] 1), (enL stPl [0, 2, 4] 2, enH stPl [0, 2, 4] 2)] = _
  rw [e1.1, e1.2, e2.1, e2.2]
theorem stx_2 : swE stD 10 3 = 0 ∧ swL stD 10 3 = 282 ∧ swH stD 10 3 = 283 := by
  have e : swE stD 10 3 = 0 := by decide +kernel
  have hL : LvR stDl (lvL stDl 10 3) := lv_right stDl_R (by omega) (by decide) (by omega) (by omega)
  obtain ⟨f0, f1, f2⟩ := lv_ends (d := 10) (n := 3) stDl_R (by omega) (by omega)
  obtain ⟨c0, c1⟩ := en_cyl (X := 10) (r := 3) (by omega) (by omega) stDl_R hL ((lvL stDl 10 3).length - 1) (by omega)
  rw [f1, f2] at c0 c1
  have c0' : enL stDl (lvL stDl 10 3) ((lvL stDl 10 3).length - 1) = 270 := c0.trans (by decide)
  have c1' : enH stDl (lvL stDl 10 3) ((lvL stDl 10 3).length - 1) = 270 := c1.trans (by decide)
  refine ⟨e, ?_, ?_⟩
  · unfold swL
    rw [if_pos ⟨e, by omega⟩]
    show enL stDl (lvL stDl 10 3) ((lvL stDl 10 3).length - 1) * 333 / 318 = _
    rw [c0']; decide
  · unfold swH
    rw [if_pos ⟨e, by omega⟩]
    show (enH stDl (lvL stDl 10 3) ((lvL stDl 10 3).length - 1) * 355 + 338) / 339 = _
    rw [c1']; decide
theorem stx_3 : lvsE stPl 4 3 = 0 ∧ lvsL stPl 4 3 = [0, 1, 2, 4] := by
  have e : lvsE stPl 4 3 = 0 := by decide +kernel
  refine ⟨e, ?_⟩
  unfold lvsL
  rw [if_pos e]
  refine str_ext (lv_asc _ _ _) (by decide) fun x => ?_
  rw [lv_mem]
  constructor
  · rintro (⟨i, hi, rfl⟩ | ⟨j, hj, h1, rfl⟩)
    · have : i = 0 ∨ i = 1 ∨ i = 2 ∨ i = 3 := by have : i ≤ 3 := hi; omega
      rcases this with rfl | rfl | rfl | rfl <;> decide
    · have : j = 0 ∨ j = 1 := by have : j < 2 := hj; omega
      rcases this with rfl | rfl
      · decide
      · exact absurd h1 (by decide)
  · intro h
    left
    simp only [List.mem_cons, List.not_mem_nil, or_false] at h
    rcases h with rfl | rfl | rfl | rfl
    · exact ⟨0, by decide, by decide⟩
    · exact ⟨1, by decide, by decide⟩
    · exact ⟨2, by decide, by decide⟩
    · exact ⟨3, by decide, by decide⟩
theorem stx_4 : stE stD [0, 10] = 0 ∧ bwL stD [0, 10] = 282 ∧ bwH stD [0, 10] = 283 := by
  have e : stE stD [0, 10] = 0 := by decide +kernel
  have hL : LvR stDl [0, 10] := (stE_zero.1 e).2
  obtain ⟨c0, c1⟩ := en_cyl (X := 10) (r := 3) (by omega) (by omega) stDl_R hL 1 (by decide)
  refine ⟨e, ?_, ?_⟩
  · unfold bwL
    rw [if_pos e]
    show enL [(0, 3), (10, 3)] [0, 10] 1 * 333 / 318 = _
    rw [c0]; decide
  · unfold bwH
    rw [if_pos e]
    show (enH [(0, 3), (10, 3)] [0, 10] 1 * 355 + 338) / 339 = _
    rw [c1]; decide
theorem stx_5 : stE stPail [0, 1, 2, 4] = 0 := by decide +kernel
theorem pail_any (w : World) : Calls Try.prog 26 #[] w fun e w' => ∃ v, e = .returned v ∧ CkV w' v stPail ∧ Below w.heap.size w w' := by
  have P : ∀ o, Pts ((w.alloc o).alloc (.cells #[.int .i64 0, .int .i64 2, .int .i64 4, .int .i64 4] 33)) (.slice (some ⟨w.heap.size + 1, 0, none⟩) 2 2) stPl := fun o => by
    have := pts_lit (w.alloc o) stPl (flat stPl) rfl (by decide)
    simp only [World.size_alloc] at this
    exact this
  go_enter Try.func26, Try.ntmps26
  go_wp2
  refine bodyPost_ret (v := .agg #[.string ⟨#[112]⟩, .int .i64 2, .slice (some ⟨w.heap.size + 1, 0, none⟩) 2 2, .int .i64 0]) (by simp [results, Try.results26, go_sem]) rfl ?_
  exact ⟨_, rfl, ⟨_, 2, rfl, P _, by decide, by decide, by decide⟩, bel_alloc (bel_alloc (Below.refl _ _))⟩
end Go.Proofs.Ytmdpdpbkbakidaa

/- slices.Equal at bounds. -/
namespace Go.Proofs.Ytmdpdpbkbakidaa
open Go.RowKit

set_option maxHeartbeats 8000000 in
theorem eqB_some (b o n c b2 o2 d : Nat) (xs ys : List (Int × Int)) (B : Bool) (w : World) (hn : n ≤ 9223372036854775807) (hb : b < w.heap.size) (hb2 : b2 < w.heap.size)
    (h1 : Hid (∀ j, j < n → w.cell? ⟨b, o + j * 2, none⟩ = some (.int .i64 (gX xs j)) ∧ w.cell? ⟨b, o + j * 2 + 1, none⟩ = some (.int .i64 (gR xs j))))
    (h2 : Hid (∀ j, j < n → w.cell? ⟨b2, o2 + j * 2, none⟩ = some (.int .i64 (gX ys j)) ∧ w.cell? ⟨b2, o2 + j * 2 + 1, none⟩ = some (.int .i64 (gR ys j))))
    (k1 : Hid ((∃ j, j < n ∧ samB (gX xs j) (gR xs j) (gX ys j) (gR ys j) = false) → B = false)) (k2 : Hid ((∀ j, j < n → samB (gX xs j) (gR xs j) (gX ys j) (gR ys j) = true) → B = true)) :
    Calls Try.prog 27 #[.slice (some ⟨b, o, none⟩) n c, .slice (some ⟨b2, o2, none⟩) n d] w fun e w' => e = .returned (.bool B) ∧ Below w.heap.size w w' := by
  go_enter Try.func27, Try.ntmps27
  go_wp2_with fail
  go_loopw [13] (fun i wr => ∃ k : Nat, k ≤ n ∧ i = .int .i64 k ∧ Hid (Below w.heap.size w wr) ∧ Hid (∀ j, j < k → samB (gX xs j) (gR xs j) (gX ys j) (gR ys j) = true)) (fun i _ => n - (intOf i).toNat)
  case atStart => exact ⟨0, Nat.zero_le _, rfl, Below.refl _ _, fun j hj => by omega⟩
  case round =>
    obtain ⟨k, hk, rfl, hB, ha⟩ := hrel
    by_cases hlt : k < n
    · have c0 : wr.cell? ⟨b, o + k * 2, none⟩ = some (.int .i64 (gX xs k)) := by rw [(bcell hB.out).1 _ _ hb]; exact (h1.out k hlt).1
      have c1 : wr.cell? ⟨b, o + k * 2 + 1, none⟩ = some (.int .i64 (gR xs k)) := by rw [(bcell hB.out).1 _ _ hb]; exact (h1.out k hlt).2
      have c2 : wr.cell? ⟨b2, o2 + k * 2, none⟩ = some (.int .i64 (gX ys k)) := by rw [(bcell hB.out).1 _ _ hb2]; exact (h2.out k hlt).1
      have c3 : wr.cell? ⟨b2, o2 + k * 2 + 1, none⟩ = some (.int .i64 (gR ys k)) := by rw [(bcell hB.out).1 _ _ hb2]; exact (h2.out k hlt).2
      have l1 : (k : Int) < (n : Int) := by omega
      cases hq : samB (gX xs k) (gR xs k) (gX ys k) (gR ys k) with
      | false =>
        have hBf := k1.out ⟨k, hlt, hq⟩
        generalize gX xs k = p at *
        generalize gR xs k = q at *
        generalize gX ys k = x at *
        generalize gR ys k = y at *
        have Q : ∀ W, (binOp .neq 43 (.agg #[.int .i64 p, .int .i64 q]) (.agg #[.int .i64 x, .int .i64 y])).run Try.prog W = .ok (.bool true) W := fun W => by rw [run_neq_bounds, hq]; rfl
        clear hq
        subst hBf
        go_wp2_with fail
        go_quiet (fail)
        go_wp2
        go_returns
        exact ⟨rfl, bel_trans hB.out (bel_drewN _ _)⟩
      | true =>
        have ha2 : Hid (∀ j, j < k + 1 → samB (gX xs j) (gR xs j) (gX ys j) (gR ys j) = true) := fun j hj => by
          by_cases e : j = k
          · rw [e]; exact hq
          · exact ha.out j (by omega)
        clear ha
        generalize gX xs k = p at c0 hq
        generalize gR xs k = q at c1 hq
        generalize gX ys k = x at c2 hq
        generalize gR ys k = y at c3 hq
        have Q : ∀ W, (binOp .neq 43 (.agg #[.int .i64 p, .int .i64 q]) (.agg #[.int .i64 x, .int .i64 y])).run Try.prog W = .ok (.bool false) W := fun W => by rw [run_neq_bounds, hq]; rfl
        clear hq
        go_wp2_with fail
        go_quiet (fail)
        go_wp2
        go_roundw
        case rel => exact ⟨k + 1, by omega, by go_num, bel_trans hB.out (bel_drewN _ _), ha2⟩
        case measure => simp [intOf]; omega
    · obtain rfl : k = n := by omega
      obtain rfl := k2.out ha.out
      go_wp2
      go_returns
      exact ⟨rfl, hB.out⟩
theorem eqB_zero (a : Option Addr) (c : Nat) (a2 : Option Addr) (d : Nat) (w : World) :
    Calls Try.prog 27 #[.slice a 0 c, .slice a2 0 d] w fun e w' => e = .returned (.bool true) ∧ Below w.heap.size w w' := by
  go_enter Try.func27, Try.ntmps27
  go_wp2_with fail
  go_loopw [13] (fun i wr => i = .int .i64 0 ∧ w = wr) (fun _ _ => 0)
  case atStart => exact ⟨rfl, rfl⟩
  case round =>
    obtain ⟨rfl, rfl⟩ := hrel
    go_wp2
    go_returns
    exact ⟨rfl, Below.refl _ _⟩
theorem eqB_lens (a : Option Addr) (n c : Nat) (a2 : Option Addr) (m d : Nat) (w : World) (h : n ≠ m) (hn : n ≤ 9223372036854775807) (hm : m ≤ 9223372036854775807) :
    Calls Try.prog 27 #[.slice a n c, .slice a2 m d] w fun e w' => e = .returned (.bool false) ∧ Below w.heap.size w w' := by
  have g : ((n : Int) != (m : Int)) = true := by rw [bne_iff_ne]; omega
  go_enter Try.func27, Try.ntmps27
  go_wp2
  go_returns
  exact ⟨rfl, Below.refl _ _⟩
theorem eqB_any (v u : Value) (xs ys : List (Int × Int)) (w : World) (hv : Pts w v xs) (hu : Pts w u ys) :
    Calls Try.prog 27 #[v, u] w fun e w' => e = .returned (.bool (decide (xs = ys))) ∧ Below w.heap.size w w' := by
  obtain ⟨a, c, rfl, hl, hh⟩ := hv
  obtain ⟨a2, d, rfl, hl2, hh2⟩ := hu
  have ext : ∀ j, (xs.getD j (0, 0) = ys.getD j (0, 0)) ↔ samB (gX xs j) (gR xs j) (gX ys j) (gR ys j) = true := fun j => by
    unfold samB gX gR
    rw [Bool.and_eq_true, beq_iff_eq, beq_iff_eq]
    exact ⟨fun h => by rw [h]; exact ⟨rfl, rfl⟩, fun h => Prod.ext h.1 h.2⟩
  by_cases hn : xs.length = ys.length
  · rcases hh with h0 | ⟨b, o, rfl, hb, hc⟩
    · have e1 := List.length_eq_zero_iff.1 h0
      have e2 : ys = [] := List.length_eq_zero_iff.1 (by omega)
      subst e1 e2
      exact eqB_zero a c a2 d w
    · rcases hh2 with h0 | ⟨b2, o2, rfl, hb2, hc2⟩
      · have e1 := List.length_eq_zero_iff.1 h0
        have e2 : xs = [] := List.length_eq_zero_iff.1 (by omega)
        subst e1 e2
        exact eqB_zero _ c a2 d w
      · rw [← hn]
        refine eqB_some b o _ c b2 o2 d xs ys _ w (by omega) hb hb2 (Lib.hid hc) (Lib.hid fun j hj => hc2 j (by omega)) (Lib.hid ?_) (Lib.hid ?_)
        · rintro ⟨j, hj, h⟩
          rw [decide_eq_false_iff_not]
          intro e
          have := (ext j).1 (by rw [e])
          rw [h] at this
          cases this
        · intro h
          rw [decide_eq_true_iff]
          apply List.ext_getElem hn
          intro j h1 h2
          have := (ext j).2 (h j h1)
          rw [List.getD_eq_getElem?_getD, List.getD_eq_getElem?_getD, List.getElem?_eq_getElem h1, List.getElem?_eq_getElem h2] at this
          exact this
  · rw [decide_eq_false (fun e => hn (by rw [e]))]
    exact eqB_lens a _ c a2 _ d w hn (by omega) (by omega)
theorem bds_lit (w : World) (l : List (Int × Int)) (cs : List Value) (h : cs = flat l) (hn : l.length ≤ 1000) :
    Pts (w.alloc (.cells cs.toArray 43)) (.slice (some ⟨w.heap.size, 0, none⟩) l.length l.length) l := by
  refine ⟨_, _, rfl, by omega, .inr ⟨w.heap.size, 0, rfl, by simp, fun j hj => ?_⟩⟩
  subst h
  have hf := flat_at l j hj
  rw [World.cell?_alloc_new, World.cell?_alloc_new]
  simp only [Nat.zero_add]
  exact ⟨by simpa using hf.1, by simpa using hf.2⟩
end Go.Proofs.Ytmdpdpbkbakidaa

/- Copies of slices of integers, and two that are compared. -/
namespace Go.Proofs.Ytmdpdpbkbakidaa
open Go.RowKit

theorem Nums.alloc {w : World} {v : Value} {zs : List Int} (h : Nums w v zs) (o : Obj) : Nums (w.alloc o) v zs := h.below (bel_alloc (Below.refl _ _))
/-- a copy reads as what it is copied from, and belongs to the call -/
theorem clone_own (v : Value) (zs : List Int) (w : World) (h : Nums w v zs) (hn : zs.length ≤ 1000) :
    Calls Try.prog 16 #[v] w fun e w' => ∃ u, e = .returned u ∧ w'.ownsRow w.heap.size 3 1 u zs.length (zs.map (Value.int .i64)) ∧ Below w.heap.size w w' := by
  obtain ⟨a, c, rfl, hl, h⟩ := h
  by_cases h0 : zs.length = 0
  · obtain rfl := List.length_eq_zero_iff.1 h0
    cases a with
    | none => refine (Try.slices_Clone_int_nil _ c w).mono fun _ w' g => ⟨_, g.1, ?_, by rw [g.2]; exact Below.refl _ _⟩
              rw [g.2]; exact World.ownsRow_nil _ _ _ _
    | some a => exact (Try.slices_Clone_int_zero a c w).mono fun _ w' ⟨v', g1, g2, _, g4⟩ => ⟨v', g1, g2, g4⟩
  · rcases h with h | ⟨b, off, rfl, _, hc⟩
    · exact absurd h h0
    refine (Try.slices_Clone_int b off zs.length c zs w (Nat.le_refl _) (by omega) hc).mono fun _ w' ⟨v', g1, g2, _, g4⟩ => ⟨v', g1, ?_, g4⟩
    rw [List.take_length] at g2; exact g2
theorem clone_nums (v : Value) (zs : List Int) (w : World) (h : Nums w v zs) (hn : zs.length ≤ 1000) :
    Calls Try.prog 16 #[v] w fun e w' => ∃ u, e = .returned u ∧ Nums w' u zs ∧ Below w.heap.size w w' :=
  (clone_own v zs w h hn).mono fun _ w' ⟨u, g1, g2, g3⟩ => ⟨u, g1, nums_of_own g2, g3⟩
theorem equal_any (v u : Value) (xs ys : List Int) (w : World) (hv : Nums w v xs) (hu : Nums w u ys) :
    Calls Try.prog 13 #[v, u] w fun e w' => e = .returned (.bool (xs == ys)) ∧ Below w.heap.size w w' := by
  obtain ⟨a, c, rfl, hl, hv⟩ := hv
  obtain ⟨b, d, rfl, hm, hu⟩ := hu
  by_cases hlen : xs.length = ys.length
  · by_cases h0 : xs.length = 0
    · have h1 : ys.length = 0 := by omega
      refine (show Calls Try.prog 13 #[.slice a xs.length c, .slice b ys.length d] w _ by rw [h0]; exact Try.slices_Equal_int_empty a b c ys.length d w (by omega)).mono fun _ w' g => ⟨?_, by rw [g.2]; exact Below.refl _ _⟩
      rw [g.1, List.length_eq_zero_iff.1 h0, List.length_eq_zero_iff.1 h1]; rfl
    · rcases hv with hv | ⟨b1, o1, rfl, _, hc1⟩
      · omega
      rcases hu with hu | ⟨b2, o2, rfl, _, hc2⟩
      · omega
      refine (Try.slices_Equal_int b1 o1 xs.length c b2 o2 ys.length d xs ys w (Nat.le_refl _) (Nat.le_refl _) (by omega) (by omega) hc1 hc2).mono fun _ w' g => ⟨?_, ?_⟩
      · rw [g.1, List.take_length, List.take_length]
      · obtain ⟨q, hq⟩ := g.2; rw [hq]; exact bel_drewN _ _
  · refine (Try.slices_Equal_int_lens a b xs.length c ys.length d w hlen).mono fun _ w' g => ⟨?_, by rw [g.2]; exact Below.refl _ _⟩
    rw [g.1]
    congr 2
    symm
    rw [beq_eq_false_iff_ne]
    intro h; exact hlen (by rw [h])
theorem equal_same (v u : Value) (xs : List Int) (w : World) (hv : Nums w v xs) (hu : Nums w u xs) :
    Calls Try.prog 13 #[v, u] w fun e w' => e = .returned (.bool true) ∧ Below w.heap.size w w' := by
  have := equal_any v u xs xs w hv hu
  rw [beq_self_eq_true] at this
  exact this
/-- a literal -/
theorem nums_lit (w : World) (zs : List Int) (cs : List Value) (h : cs = zs.map (Value.int .i64)) (hn : zs.length ≤ 1000) :
    Nums (w.alloc (.cells cs.toArray 3)) (.slice (some ⟨w.heap.size, 0, none⟩) zs.length zs.length) zs := by
  refine ⟨_, _, rfl, by omega, .inr ⟨w.heap.size, 0, rfl, by simp, fun j hj => ?_⟩⟩
  subst h
  rw [World.cell?_alloc_new]
  simp [List.getD, List.getElem?_eq_getElem hj]
end Go.Proofs.Ytmdpdpbkbakidaa

/- The statements about layer 12: the example. -/
namespace Go.Proofs.Ytmdpdpbkbakidaa
open Go.RowKit

theorem field_pf (s : ByteArray) (p d : Int) (a : Option Addr) (n c : Nat) (w : World) : (Instr.field 24 (.agg #[.string s, .int .i64 p, .slice a n c, .int .i64 d]) 2).run Try.prog w = .ok (.slice a n c) w := by kernel_rfl
set_option maxRecDepth 100000 in
set_option maxHeartbeats 16000000 in
theorem awake_any (w : World) : Calls Try.prog 8 #[] w fun e w' => e = .returned (.bool true) ∧ Below w.heap.size w w' := by
  have BA := Lib.hid (fun W => pail_any W)
  have HS := Lib.hid (fun v u W (hv : CkV W v stPail) (hu : Nums W u [0, 2, 4]) => stSm_any v u stPail _ W hv hu)
  have HW := Lib.hid (fun v W (hv : CkV W v stD) => stWt_any v stD 10 3 W hv)
  have HL := Lib.hid (fun v W (hv : Pts W v stPl) => stLv_any v stPl 4 3 W hv)
  have HB1 := Lib.hid (fun v u W (hv : CkV W v stD) (hu : Nums W u [0, 10]) => stBw_any v u stD _ W hv hu)
  have HC := Lib.hid (fun v u W (hv : CkV W v stPail) (hu : Nums W u [0, 1, 2, 4]) => stChk_any v u stPail _ W hv hu)
  obtain ⟨a1, a2⟩ := stx_1
  obtain ⟨b1, b2, b3⟩ := stx_2
  obtain ⟨c1, c2⟩ := stx_3
  obtain ⟨d1, d2, d3⟩ := stx_4
  rw [a1, a2] at HS
  rw [b1, b2, b3] at HW
  rw [c1, c2] at HL
  rw [d1, d2, d3] at HB1
  rw [stx_5] at HC
  have HE := Lib.hid (fun v u W (hv : Nums W v [0, 1, 2, 4]) (hu : Nums W u [0, 1, 2, 4]) => equal_any v u _ _ W hv hu)
  have HF := Lib.hid (fun v u W (hv : Pts W v [(24, 54), (78, 150)]) (hu : Pts W u [(24, 54), (78, 150)]) => eqB_any v u _ _ W hv hu)
  rw [show (([0, 1, 2, 4] : List Int) == [0, 1, 2, 4]) = true by decide] at HE
  rw [show decide (([(24, 54), (78, 150)] : List (Int × Int)) = [(24, 54), (78, 150)]) = true by decide] at HF
  have Q1 : ∀ (p q : Int) W, (binOp .eql 43 (.agg #[.int .i64 p, .int .i64 q]) (.agg #[.int .i64 p, .int .i64 q])).run Try.prog W = .ok (.bool true) W := fun p q W => by rw [run_eql_bounds, show samB p q p q = true by simp [samB]]
  have L2 : ∀ W, Nums (World.alloc W (.cells #[.int .i64 0, .int .i64 10] 3)) (.slice (some ⟨W.heap.size, 0, none⟩) 2 2) [0, 10] := fun W => nums_lit W [0, 10] _ rfl (by decide)
  have L3 : ∀ W, Nums (World.alloc W (.cells #[.int .i64 0, .int .i64 2, .int .i64 4] 3)) (.slice (some ⟨W.heap.size, 0, none⟩) 3 3) [0, 2, 4] := fun W => nums_lit W [0, 2, 4] _ rfl (by decide)
  have L4 : ∀ W, Nums (World.alloc W (.cells #[.int .i64 0, .int .i64 1, .int .i64 2, .int .i64 4] 3)) (.slice (some ⟨W.heap.size, 0, none⟩) 4 4) [0, 1, 2, 4] := fun W => nums_lit W [0, 1, 2, 4] _ rfl (by decide)
  have LP : ∀ W, Pts (World.alloc W (.cells #[.int .i64 0, .int .i64 3, .int .i64 10, .int .i64 3] 33)) (.slice (some ⟨W.heap.size, 0, none⟩) 2 2) stDl := fun W => pts_lit W stDl _ rfl (by decide)
  have LB : ∀ W, Pts (World.alloc W (.cells #[.int .i64 24, .int .i64 54, .int .i64 78, .int .i64 150] 43)) (.slice (some ⟨W.heap.size, 0, none⟩) 2 2) [(24, 54), (78, 150)] := fun W => bds_lit W [(24, 54), (78, 150)] _ rfl (by decide)
  clear a1 a2 b1 b2 b3 c1 c2 d1 d2 d3
  have HB := Lib.hid (Below.refl w.heap.size w)
  go_enter Try.func8, Try.ntmps8
  go_wp2_with fail
  refine (BA.out _).mono ?_
  rintro e w1 ⟨V1, rfl, hx, h1⟩
  replace HB := Lib.hid (bel_trans HB.out h1); clear h1
  have N1 := Lib.hid (hx.alloc (.cells #[.int .i64 0, .int .i64 2, .int .i64 4] 3))
  have G0 := Lib.hid (L3 w1)
  clear hx
  go_wp2_with fail
  refine (HS.out _ _ _ N1.out G0.out).mono ?_
  rintro e w2 ⟨U1, rfl, hu, h1⟩
  replace h1 := bel_alloc h1
  replace HB := Lib.hid (bel_trans HB.out h1); clear h1
  clear N1 G0
  have NS := Lib.hid hu; clear hu
  have g0 := LP w2
  have WD : Hid (CkW stD) := Lib.hid ⟨by decide, by decide, by decide⟩
  have PD : Hid (Pts ((w2.alloc (.cells #[.int .i64 0, .int .i64 3, .int .i64 10, .int .i64 3] 33)).alloc (.cells #[.string ⟨#[100]⟩, .int .i64 2, .slice (some ⟨w2.heap.size, 0, none⟩) 2 2, .int .i64 0] 24)) (.slice (some ⟨w2.heap.size, 0, none⟩) 2 2) stDl) := Lib.hid (g0.alloc _)
  have QD : Hid (Quad (w2.heap.size + 1) ((w2.alloc (.cells #[.int .i64 0, .int .i64 3, .int .i64 10, .int .i64 3] 33)).alloc (.cells #[.string ⟨#[100]⟩, .int .i64 2, .slice (some ⟨w2.heap.size, 0, none⟩) 2 2, .int .i64 0] 24)) (.string ⟨#[100]⟩) (.int .i64 2) (.slice (some ⟨w2.heap.size, 0, none⟩) 2 2) (.int .i64 0)) := Lib.hid (by
    have := Quad.new (w2.alloc (.cells #[.int .i64 0, .int .i64 3, .int .i64 10, .int .i64 3] 33)) (.string ⟨#[100]⟩) (.int .i64 2) (.slice (some ⟨w2.heap.size, 0, none⟩) 2 2) (.int .i64 0) 24
    rwa [World.size_alloc] at this)
  have NS2 := Lib.hid ((NS.out.alloc (.cells #[.int .i64 0, .int .i64 3, .int .i64 10, .int .i64 3] 33)).alloc (.cells #[.string ⟨#[100]⟩, .int .i64 2, .slice (some ⟨w2.heap.size, 0, none⟩) 2 2, .int .i64 0] 24))
  have HB2 : Hid (Below w.heap.size w ((w2.alloc (.cells #[.int .i64 0, .int .i64 3, .int .i64 10, .int .i64 3] 33)).alloc (.cells #[.string ⟨#[100]⟩, .int .i64 2, .slice (some ⟨w2.heap.size, 0, none⟩) 2 2, .int .i64 0] 24))) := Lib.hid (bel_trans HB.out (bel_alloc (bel_alloc (Below.refl _ _))))
  have VD : Hid (∀ W, Pts W (.slice (some ⟨w2.heap.size, 0, none⟩) 2 2) stDl → CkV W (.agg #[.string ⟨#[100]⟩, .int .i64 2, .slice (some ⟨w2.heap.size, 0, none⟩) 2 2, .int .i64 0]) stD) := Lib.hid fun W h => ⟨_, 2, rfl, h, WD.out⟩
  clear g0 NS HB LP WD
  go_wp2_with fail
  refine (HW.out _ _ (VD.out _ PD.out)).mono ?_
  rintro e w3 ⟨rfl, h1⟩
  replace PD := Lib.hid ((PD.out.below h1).alloc (.cells #[.int .i64 282, .int .i64 283] 43))
  replace QD := Lib.hid ((QD.out.below h1).alloc (.cells #[.int .i64 282, .int .i64 283] 43))
  replace NS2 := Lib.hid ((NS2.out.below h1).alloc (.cells #[.int .i64 282, .int .i64 283] 43))
  have HB := Lib.hid ((bel_trans HB2.out h1).alloc (bel_trans HB2.out h1).size (.cells #[.int .i64 282, .int .i64 283] 43)); clear h1 HB2
  have TW := Lib.hid (Two.new w3 (.int .i64 282) (.int .i64 283) 43)
  go_wp2_with fail
  refine (BA.out _).mono ?_
  rintro e w4 ⟨V2, rfl, hx, h1⟩
  replace PD := Lib.hid (PD.out.below h1)
  replace QD := Lib.hid (QD.out.below h1)
  replace NS2 := Lib.hid (NS2.out.below h1)
  replace TW := Lib.hid (TW.out.below h1)
  replace HB := Lib.hid (bel_trans HB.out h1); clear h1
  obtain ⟨pa2, pc2, rfl, hp2, _⟩ := hx
  have N2 := Lib.hid hp2; clear hp2
  have hfl := fun W => field_pf stPail.nm stPail.ps stPail.dc pa2 stPail.pf.length pc2 W
  go_wp2_with fail
  refine (HL.out _ _ N2.out).mono ?_
  rintro e w5 ⟨U2, rfl, hu, h1⟩
  replace PD := Lib.hid (PD.out.below h1)
  replace QD := Lib.hid (QD.out.below h1)
  replace NS2 := Lib.hid (NS2.out.below h1)
  replace TW := Lib.hid (TW.out.below h1)
  replace HB := Lib.hid (bel_trans HB.out h1); clear h1 N2
  have NL := Lib.hid hu; clear hu
  obtain ⟨q0, q1, q2, q3, _, _⟩ := QD.out
  have G0 := Lib.hid (L2 w5)
  go_wp2_with fail
  refine (HB1.out _ _ _ (VD.out _ (PD.out.alloc _)) G0.out).mono ?_
  rintro e w6 ⟨rfl, h1⟩
  replace h1 := bel_alloc h1
  clear q0 q1 q2 q3 G0 PD QD VD
  replace NS2 := Lib.hid ((NS2.out.below h1).alloc (.cells #[.int .i64 282, .int .i64 283] 43))
  replace NL := Lib.hid ((NL.out.below h1).below (bel_alloc (o := .cells #[.int .i64 282, .int .i64 283] 43) (Below.refl _ _)))
  replace TW := Lib.hid ((TW.out.below h1).alloc (.cells #[.int .i64 282, .int .i64 283] 43))
  replace HB := Lib.hid ((bel_trans HB.out h1).alloc (bel_trans HB.out h1).size (.cells #[.int .i64 282, .int .i64 283] 43)); clear h1
  have TB := Lib.hid (Two.new w6 (.int .i64 282) (.int .i64 283) 43)
  have GB := LB (w6.alloc (.cells #[.int .i64 282, .int .i64 283] 43))
  simp only [World.size_alloc] at GB
  replace GB := Lib.hid GB
  obtain ⟨t0, t1, _, _, _⟩ := TW.out
  obtain ⟨s0, s1, _, _, _⟩ := TB.out
  go_wp2_with fail
  refine (HF.out _ _ _ (NS2.out.alloc _) GB.out).mono ?_
  rintro e w7 ⟨rfl, h1⟩
  replace h1 := bel_alloc h1
  replace NL := Lib.hid (NL.out.below h1)
  replace TW := Lib.hid (TW.out.below h1)
  replace TB := Lib.hid (TB.out.below h1)
  replace HB := Lib.hid (bel_trans HB.out h1); clear h1 NS2 GB t0 t1 s0 s1
  obtain ⟨t0, t1, _, _, _⟩ := TW.out
  obtain ⟨s0, s1, _, _, _⟩ := TB.out
  have GL := Lib.hid (L4 w7)
  go_wp2_with fail
  refine (HE.out _ _ _ (NL.out.below (bel_alloc (Below.refl _ _))) GL.out).mono ?_
  rintro e w8 ⟨rfl, h1⟩
  replace h1 := bel_alloc h1
  replace NL := Lib.hid (NL.out.below h1)
  replace TW := Lib.hid (TW.out.below h1)
  replace TB := Lib.hid (TB.out.below h1)
  replace HB := Lib.hid (bel_trans HB.out h1); clear h1 GL t0 t1 s0 s1
  obtain ⟨t0, t1, _, _, _⟩ := TW.out
  obtain ⟨s0, s1, _, _, _⟩ := TB.out
  go_wp2_with fail
  refine (BA.out _).mono ?_
  rintro e w9 ⟨V3, rfl, hx, h1⟩
  replace NL := Lib.hid (NL.out.below h1)
  replace HB := Lib.hid (bel_trans HB.out h1); clear h1
  have N3 := Lib.hid hx; clear hx
  go_wp2_with fail
  refine (HC.out _ _ _ N3.out NL.out).mono ?_
  rintro e w10 ⟨rfl, h1⟩
  replace HB := Lib.hid (bel_trans HB.out h1); clear h1
  go_wp2
  go_returns
  exact ⟨rfl, HB.out⟩
end Go.Proofs.Ytmdpdpbkbakidaa

/- The statements about layer 12: casks are copied; few. -/
namespace Go.Proofs.Ytmdpdpbkbakidaa
open Go.RowKit

set_option maxHeartbeats 8000000 in
set_option maxRecDepth 100000 in
theorem own_core (c : Ck) (a : Option Addr) (n cap : Nat) (w : World) (hn : n = c.pf.length) (hp : c.pf.length ≤ 1000) (hP : Pts w (.slice a n cap) c.pf) (hW : CkW c) :
    Calls Try.prog 15 #[.agg #[.string c.nm, .int .i64 c.ps, .slice a n cap, .int .i64 c.dc]] w fun e w' => ∃ u, e = .returned u ∧ CkV w' u c ∧ Below w.heap.size w w' := by
  have T0 := Quad.new (w.alloc (.cells #[.string c.nm, .int .i64 c.ps, .slice a n cap, .int .i64 c.dc] 24)) (.string ByteArray.empty) (.int .i64 0) (.slice none 0 0) (.int .i64 0) 24
  rw [World.size_alloc] at T0
  replace T0 := Lib.hid (T0.alloc (.cells #[.string c.nm, .int .i64 c.ps, .slice a n cap, .int .i64 c.dc] 24))
  have hHC : Calls Try.prog 41 #[.slice (some ⟨w.heap.size + 1 + 1, 0, none⟩) 1 1] (((w.alloc (.cells #[.string c.nm, .int .i64 c.ps, .slice a n cap, .int .i64 c.dc] 24)).alloc (.cells #[.string ByteArray.empty, .int .i64 0, .slice none 0 0, .int .i64 0] 24)).alloc (.cells #[.string c.nm, .int .i64 c.ps, .slice a n cap, .int .i64 c.dc] 24)) fun e w' => ∃ u, e = .returned u ∧ OwnC w' (w.heap.size + 1 + 1 + 1) u [c] ∧ Below (w.heap.size + 1 + 1 + 1) (((w.alloc (.cells #[.string c.nm, .int .i64 c.ps, .slice a n cap, .int .i64 c.dc] 24)).alloc (.cells #[.string ByteArray.empty, .int .i64 0, .slice none 0 0, .int .i64 0] 24)).alloc (.cells #[.string c.nm, .int .i64 c.ps, .slice a n cap, .int .i64 c.dc] 24)) w' := by
    subst hn
    have CO := cks_one ((hP.alloc (.cells #[.string c.nm, .int .i64 c.ps, .slice a c.pf.length cap, .int .i64 c.dc] 24)).alloc (.cells #[.string ByteArray.empty, .int .i64 0, .slice none 0 0, .int .i64 0] 24)) hW
    have := refCopy_any _ [c] _ CO (by simp) (by intro d hd; rw [List.mem_singleton] at hd; subst hd; exact hp)
    simp only [World.size_alloc] at this
    exact this
  have HC := Lib.hid hHC
  have HW := Lib.hid hW
  have HN := Lib.hid hn
  clear hP hW hHC hn
  go_enter Try.func15, Try.ntmps15
  go_wp2_with fail
  refine HC.out.mono ?_
  rintro e w2 ⟨u, rfl, gO, gg⟩
  obtain ⟨g, cap', a', cp', rfl, hg, d0, d1, d2, d3, hO⟩ := gO.one
  have hsz : (((w.alloc (.cells #[.string c.nm, .int .i64 c.ps, .slice a n cap, .int .i64 c.dc] 24)).alloc (.cells #[.string ByteArray.empty, .int .i64 0, .slice none 0 0, .int .i64 0] 24)).alloc (.cells #[.string c.nm, .int .i64 c.ps, .slice a n cap, .int .i64 c.dc] 24)).heap.size = w.heap.size + 1 + 1 + 1 := by simp
  rw [← hsz] at gg
  have X1 : Hid (Below w.heap.size w w2) := Lib.hid (bel_alloc (bel_alloc (bel_alloc gg)))
  replace T0 := Lib.hid (T0.out.below gg)
  have OP := Lib.hid hO
  clear gO gg HC hO
  obtain ⟨u0, u1, u2, u3, uf, _⟩ := T0.out
  have f0 := uf 0 (by omega)
  have f1 := uf 1 (by omega)
  have f2 := uf 2 (by omega)
  have f3 := uf 3 (by omega)
  clear uf
  rw [← HN.out] at d2 OP
  go_wp2
  obtain ⟨t0, t1, t2, t3⟩ := quad_read w2 (w.heap.size + 1) (.string c.nm) (.int .i64 c.ps) (.slice a' n cp') (.int .i64 c.dc) u0 u1 u2 u3
  refine bodyPost_ret (v := .agg #[.string c.nm, .int .i64 c.ps, .slice a' n cp', .int .i64 c.dc]) (by simp [results, Try.results15, go_sem, t0, t1, t2, t3]) rfl ?_
  have hs : w.heap.size + 1 < w.heap.size + 1 + 1 + 1 := by omega
  have P2 := own_far (b := w.heap.size + 1) (i := 3) (z := .int .i64 c.dc) (own_far (b := w.heap.size + 1) (i := 2) (z := .slice a' n cp') (own_far (b := w.heap.size + 1) (i := 1) (z := .int .i64 c.ps) (own_far (b := w.heap.size + 1) (i := 0) (z := .string c.nm) OP.out hs) hs) hs) hs
  exact ⟨_, rfl, ⟨a', cp', by rw [← HN.out], by rw [← HN.out]; exact OwnP.pts P2, HW.out⟩, (((X1.out.setCell (Nat.le_succ _) _).setCell (Nat.le_succ _) _).setCell (Nat.le_succ _) _).setCell (Nat.le_succ _) _⟩
theorem own_any (v : Value) (c : Ck) (w : World) (hv : CkV w v c) (hp : c.pf.length ≤ 1000) :
    Calls Try.prog 15 #[v] w fun e w' => ∃ u, e = .returned u ∧ CkV w' u c ∧ Below w.heap.size w w' := by
  obtain ⟨a, cap, rfl, hP, hW⟩ := hv
  exact own_core c a _ cap w rfl hp hP hW
set_option maxHeartbeats 8000000 in
set_option maxRecDepth 100000 in
theorem few_core (c : Ck) (a : Option Addr) (n cap : Nat) (a2 : Option Addr) (n2 cap2 : Nat) (B1 : Bool) (w : World) (hn : n = c.pf.length) (hn2 : n2 ≤ 9223372036854775807) (hP : Pts w (.slice a n cap) c.pf) (hW : CkW c) (hB : fewC c = B1) :
    Calls Try.prog 9 #[.agg #[.string c.nm, .int .i64 c.ps, .slice a n cap, .int .i64 c.dc], .slice a2 n2 cap2] w fun e w' => e = .returned (.bool (B1 && decide (n2 ≤ 129))) ∧ Below w.heap.size w w' := by
  have hHC : Calls Try.prog 28 #[.slice (some ⟨w.heap.size + 1, 0, none⟩) 1 1] ((w.alloc (.cells #[.string c.nm, .int .i64 c.ps, .slice a n cap, .int .i64 c.dc] 24)).alloc (.cells #[.string c.nm, .int .i64 c.ps, .slice a n cap, .int .i64 c.dc] 24)) fun e w' => e = .returned (.bool B1) ∧ w' = ((w.alloc (.cells #[.string c.nm, .int .i64 c.ps, .slice a n cap, .int .i64 c.dc] 24)).alloc (.cells #[.string c.nm, .int .i64 c.ps, .slice a n cap, .int .i64 c.dc] 24)) := by
    subst hn
    have CO := cks_one (hP.alloc (.cells #[.string c.nm, .int .i64 c.ps, .slice a c.pf.length cap, .int .i64 c.dc] 24)) hW
    have := refFew_any _ [c] _ CO
    simp only [World.size_alloc] at this
    rwa [few_one, hB] at this
  have HC := Lib.hid hHC
  clear hP hW hHC hn
  have X1 : Hid (Below w.heap.size w ((w.alloc (.cells #[.string c.nm, .int .i64 c.ps, .slice a n cap, .int .i64 c.dc] 24)).alloc (.cells #[.string c.nm, .int .i64 c.ps, .slice a n cap, .int .i64 c.dc] 24))) := Lib.hid (bel_alloc (bel_alloc (Below.refl _ _)))
  by_cases hd : n2 ≤ 129
  · rw [decide_eq_true hd]
    have d : decide ((n2 : Int) ≤ 129) = true := decide_eq_true (by omega)
    go_enter Try.func9, Try.ntmps9
    go_wp2_with fail
    refine HC.out.mono ?_
    rintro e w2 ⟨rfl, hw⟩
    subst hw
    cases B1 with
    | false =>
      go_wp2
      go_returns
      exact ⟨rfl, X1.out⟩
    | true =>
      go_wp2
      go_returns
      exact ⟨rfl, X1.out⟩
  · rw [decide_eq_false hd]
    have d : decide ((n2 : Int) ≤ 129) = false := decide_eq_false (by omega)
    go_enter Try.func9, Try.ntmps9
    go_wp2_with fail
    refine HC.out.mono ?_
    rintro e w2 ⟨rfl, hw⟩
    subst hw
    cases B1 with
    | false =>
      go_wp2
      go_returns
      exact ⟨rfl, X1.out⟩
    | true =>
      go_wp2
      go_returns
      exact ⟨rfl, X1.out⟩
theorem fewE_any (v u : Value) (c : Ck) (zs : List Int) (w : World) (hv : CkV w v c) (hu : Nums w u zs) :
    Calls Try.prog 9 #[v, u] w fun e w' => e = .returned (.bool (fewC c && decide (zs.length ≤ 129))) ∧ Below w.heap.size w w' := by
  obtain ⟨a, cap, rfl, hP, hW⟩ := hv
  obtain ⟨a2, cap2, rfl, hc, _⟩ := hu
  exact few_core c a _ cap a2 _ cap2 _ w rfl (by omega) hP hW rfl
end Go.Proofs.Ytmdpdpbkbakidaa

/- How arguments are opened: slices of points. -/
namespace Go.Proofs.Ytmdpdpbkbakidaa
open Go.ChangeShapes Go.WideShapes Go.ChangeAt Go.RowKit Go.Joins

theorem own : ownKnob Try.prog.godebug = none := by kernel_rfl
theorem laidOut : laidOutB Try.prog = true := by kernel_rfl
theorem wf_bd {n : Int} (h : (Lit.int .i64 n).wf = true) : -9223372036854775808 ≤ n ∧ n ≤ 9223372036854775807 := by
  have := bounds_i64 h
  omega
set_option maxRecDepth 100000 in
theorem open_pts_at {H : Type} {enc : TypeId × Value → H} {w : World} {base fuel : Nat} {spare : Nat → Bool} {held : Bool} {v : Value} {y : DataW H × List MemPlace} (hs : ∀ k, spare k = true)
    (hf : DataW.trod enc Try.prog w base spare held fuel 22 [v] = some y) :
    ∃ l : List (Int × Int), Pts w v l := by
  rcases Deep.open_slice_pairs Try.underlying22 Try.underlying33 (by kernel_rfl) rfl rfl (by kernel_rfl) (by kernel_rfl) hf with ⟨hcs, _⟩ | ⟨x, len0, cap0, m, n, V0, V1, D0, D1, P0, P1, hcs, _, hl, hm, hmm, _, hi⟩
  · simp only [List.cons.injEq, and_true] at hcs
    subst hcs
    exact ⟨[], none, 0, rfl, ⟨by simp, by omega⟩, .inl rfl⟩
  · simp only [List.cons.injEq, and_true] at hcs
    subst hcs
    unfold maxLen at hm
    rw [hs] at hmm
    simp only [if_true] at hmm
    subst hmm
    have hint : ∀ i, i < len0 → ∃ q : Int × Int, w.cell? (x.add (i * 2)) = some (.int .i64 q.1) ∧ w.cell? (x.add (i * 2 + 1)) = some (.int .i64 q.2) := by
      intro i hlt
      obtain ⟨h0, h1, h2, h3⟩ := hi i (by omega)
      obtain ⟨a, ea, _, _⟩ := DataW.trod_int (k := .i64) Try.underlying3 h2
      obtain ⟨b, eb, _, _⟩ := DataW.trod_int (k := .i64) Try.underlying3 h3
      simp only [List.cons.injEq, and_true] at ea eb
      exact ⟨(a, b), by rw [h0, ea], by rw [h1, eb]⟩
    let f : Nat → Int × Int := fun i => if hlt : i < len0 then (hint i hlt).choose else (0, 0)
    have hf2 : ∀ i, i < len0 → w.cell? (x.add (i * 2)) = some (.int .i64 (f i).1) ∧ w.cell? (x.add (i * 2 + 1)) = some (.int .i64 (f i).2) := by
      intro i hlt
      have := (hint i hlt).choose_spec
      simp only [f, dif_pos hlt]
      exact this
    have hlen : ((List.range len0).map f).length = len0 := by simp
    refine ⟨(List.range len0).map f, some x, m, by rw [hlen], by rw [hlen]; omega, ?_⟩
    rw [hlen]
    by_cases h0 : len0 = 0
    · exact .inl h0
    · right
      obtain ⟨b, off, spot⟩ := x
      have hspot : spot = none := by simpa [Addr.add] using World.cell?_spot (hf2 0 (by omega)).1
      subst hspot
      have hb := World.block_lt_of_cell? w _ (hf2 0 (by omega)).1
      refine ⟨b, off, rfl, by simpa [Addr.add] using hb, fun j hj => ?_⟩
      obtain ⟨g0, g1⟩ := hf2 j hj
      rw [Go.WideShapes.add_plain] at g0 g1
      unfold gX gR
      rw [List.getD_eq_getElem?_getD, List.getElem?_map, List.getElem?_range hj]
      exact ⟨g0, by rw [Nat.add_assoc]; exact g1⟩
set_option maxRecDepth 100000 in
theorem open_pts {H : Type} {enc : TypeId × Value → H} {w : World} {r : Reach} {b0 : Nat} {v : Value} {d : DataW H} {p : List MemPlace}
    (hv : Value.okWide Try.prog w r b0 22 v) (h : DataW.Trod enc Try.prog w 0 (fun _ => true) true 22 v d p) :
    ∃ l : List (Int × Int), Pts w v l := by
  obtain ⟨a0, len0, cap0, rfl⟩ := okWide_slice Try.underlying22 hv
  obtain ⟨fuel, hf⟩ := h
  exact open_pts_at (fun _ => rfl) hf
end Go.Proofs.Ytmdpdpbkbakidaa

/- How arguments are opened: casks, slices of casks. -/
namespace Go.Proofs.Ytmdpdpbkbakidaa
open Go.ChangeShapes Go.WideShapes Go.ChangeAt Go.RowKit Go.Joins

set_option maxRecDepth 100000 in
/-- a cask's four cells -/
theorem open_ck_at {H : Type} {enc : TypeId × Value → H} {w : World} {base n : Nat} {spare : Nat → Bool} {held : Bool} {v0 v1 v2 v3 : Value} {y0 y1 y2 y3 : DataW H × List MemPlace} (hs : ∀ k, spare k = true)
    (h0 : DataW.trod enc Try.prog w base spare held n 9 [v0] = some y0) (h1 : DataW.trod enc Try.prog w base spare held n 3 [v1] = some y1) (h2 : DataW.trod enc Try.prog w base spare held n 22 [v2] = some y2) (h3 : DataW.trod enc Try.prog w base spare held n 3 [v3] = some y3) :
    ∃ c, CkV w (.agg #[v0, v1, v2, v3]) c := by
  obtain ⟨s, e0, _, ws⟩ := DataW.trod_string Try.underlying9 h0
  obtain ⟨a, e1, _, wa⟩ := DataW.trod_int (k := .i64) Try.underlying3 h1
  obtain ⟨b, e3, _, wb⟩ := DataW.trod_int (k := .i64) Try.underlying3 h3
  obtain ⟨l, hl⟩ := open_pts_at hs h2
  simp only [List.cons.injEq, and_true] at e0 e1 e3
  subst e0 e1 e3
  obtain ⟨ad, cap, rfl, _, _⟩ := hl.shape
  unfold maxLen at ws
  exact ⟨⟨s, a, l, b⟩, ad, cap, rfl, hl, by omega, wf_bd wa, wf_bd wb⟩
set_option maxRecDepth 100000 in
/-- a cask by value -/
theorem open_ck {H : Type} {enc : TypeId × Value → H} {w : World} {r : Reach} {b0 : Nat} {v : Value} {d : DataW H} {p : List MemPlace}
    (hv : Value.okWide Try.prog w r b0 24 v) (h : DataW.Trod enc Try.prog w 0 (fun _ => true) true 24 v d p) : ∃ c, CkV w v c := by
  obtain ⟨v0, v1, v2, v3, y0, y1, y2, y3, n, rfl, _, _, h0, h1, h2, h3⟩ := open_agg4 Try.underlying24 (by kernel_rfl) (by kernel_rfl) hv h
  exact open_ck_at (fun _ => rfl) h0 h1 h2 h3
set_option maxRecDepth 100000 in
/-- a slice of casks -/
theorem open_cks {H : Type} {enc : TypeId × Value → H} {w : World} {r : Reach} {b0 : Nat} {v : Value} {d : DataW H} {p : List MemPlace}
    (hv : Value.okWide Try.prog w r b0 59 v) (h : DataW.Trod enc Try.prog w 0 (fun _ => true) true 59 v d p) : ∃ l : List Ck, Cks w v l := by
  obtain ⟨a0, len0, cap0, rfl⟩ := okWide_slice Try.underlying59 hv
  obtain ⟨fuel, hf⟩ := h
  rcases Deep.open_slice Try.underlying59 hf with ⟨hcs, _⟩ | ⟨x, l, c, m, n, D, Pl, hcs, _, hl, hm, hmm, _, hi⟩
  · simp [Value.cells] at hcs
    obtain ⟨rfl, rfl, rfl⟩ := hcs
    exact ⟨[], none, 0, rfl, ⟨by simp, by omega⟩, .inl rfl⟩
  · simp [Value.cells] at hcs
    obtain ⟨rfl, rfl, rfl⟩ := hcs
    unfold maxLen at hm
    simp only [if_true] at hmm
    subst hmm
    have ce : Try.prog.cellsOf 24 = 4 := by kernel_rfl
    rw [ce] at hi
    have hint : ∀ i, i < len0 → ∃ c : Ck, ∃ x0 x1 x2 x3, w.cell? (x.add (i * 4)) = some x0 ∧ w.cell? (x.add (i * 4 + 1)) = some x1 ∧ w.cell? (x.add (i * 4 + 2)) = some x2 ∧ w.cell? (x.add (i * 4 + 3)) = some x3 ∧ CkV w (.agg #[x0, x1, x2, x3]) c := by
      intro i hlt
      obtain ⟨cs', h1, h2⟩ := hi i (by omega)
      obtain ⟨_, hlen, hcell⟩ := World.cells?_some h1
      obtain ⟨y0, y1, y2, y3, k, _, _, g0, g1, g2, g3⟩ := trod_struct4 Try.underlying24 h2
      match cs', hlen with
      | [v0, v1, v2, v3], _ =>
        have e0 := hcell 0 (by omega)
        have e1 := hcell 1 (by omega)
        have e2 := hcell 2 (by omega)
        have e3 := hcell 3 (by omega)
        rw [Deep.add_add] at e0 e1 e2 e3
        have c0 : Try.prog.cellsOf 9 = 1 := by kernel_rfl
        have c1 : Try.prog.cellsOf 3 = 1 := by kernel_rfl
        have c2 : Try.prog.cellsOf 22 = 1 := by kernel_rfl
        simp only [c0, c1, c2] at g0 g1 g2 g3
        obtain ⟨q, hq⟩ := open_ck_at (fun _ => rfl) g0 g1 g2 g3
        exact ⟨q, v0, v1, v2, v3, by simpa using e0, by simpa using e1, by simpa using e2, by simpa using e3, hq⟩
    let f : Nat → Ck := fun i => if hlt : i < len0 then (hint i hlt).choose else ⟨ByteArray.empty, 0, [], 0⟩
    have hf2 : ∀ i, i < len0 → ∃ x0 x1 x2 x3, w.cell? (x.add (i * 4)) = some x0 ∧ w.cell? (x.add (i * 4 + 1)) = some x1 ∧ w.cell? (x.add (i * 4 + 2)) = some x2 ∧ w.cell? (x.add (i * 4 + 3)) = some x3 ∧ CkV w (.agg #[x0, x1, x2, x3]) (f i) := by
      intro i hlt
      have := (hint i hlt).choose_spec
      simp only [f, dif_pos hlt]
      exact this
    have hlen : ((List.range len0).map f).length = len0 := by simp
    refine ⟨(List.range len0).map f, some x, m, by rw [hlen], by rw [hlen]; omega, ?_⟩
    by_cases h0 : len0 = 0
    · exact .inl (by rw [hlen]; exact h0)
    · right
      obtain ⟨b, off, spot⟩ := x
      obtain ⟨z0, _, _, _, q0, _⟩ := hf2 0 (by omega)
      have hspot : spot = none := by simpa [Addr.add] using World.cell?_spot q0
      subst hspot
      have hb := World.block_lt_of_cell? w _ q0
      refine ⟨b, off, rfl, by simpa [Addr.add] using hb, fun j hj => ?_⟩
      obtain ⟨x0, x1, x2, x3, g0, g1, g2, g3, g⟩ := hf2 j (by omega)
      rw [Go.WideShapes.add_plain] at g0 g1 g2 g3
      have e : ((List.range len0).map f)[j] = f j := by simp
      rw [e]
      exact ⟨x0, x1, x2, x3, g0, by rw [Nat.add_assoc]; exact g1, by rw [Nat.add_assoc]; exact g2, by rw [Nat.add_assoc]; exact g3, g⟩
end Go.Proofs.Ytmdpdpbkbakidaa

/- What the statements about layer 12 need: their opening, the example. -/
namespace Go.Proofs.Ytmdpdpbkbakidaa
open Go.ChangeShapes Go.WideShapes Go.ChangeAt Go.RowKit Go.Joins

/-- a slice of integers -/
theorem open_intSlice {H : Type} {enc : TypeId × Value → H} {P : Program} {w : World} {r : Reach} {b0 : Nat} {t e : TypeId} {v : Value} {d : DataW H} {p : List MemPlace}
    (ht : P.underlying t = some (.slice e)) (he : P.underlying e = some (.int .i64)) (hC : P.cellsOf e = 1)
    (hv : Value.okWide P w r b0 t v) (h : DataW.Trod enc P w 0 (fun _ => true) true t v d p) :
    ∃ zs : List Int, Nums w v zs ∧ ∀ z ∈ zs, (Lit.int .i64 z).wf = true := by
  obtain ⟨a0, len0, cap0, rfl⟩ := okWide_slice ht hv
  obtain ⟨fuel, hf⟩ := h
  rcases open_ints ht he hC hf with ⟨hcs, _⟩ | ⟨x, l, c, zs, hcs, _, hl, hm, hz, _, hcell, hwz⟩
  · simp [Value.cells] at hcs
    obtain ⟨rfl, rfl, rfl⟩ := hcs
    exact ⟨[], ⟨none, 0, rfl, by simp, .inl rfl⟩, by simp⟩
  · simp [Value.cells] at hcs
    obtain ⟨rfl, rfl, rfl⟩ := hcs
    simp only [if_true] at hz
    unfold maxLen at hm
    refine ⟨zs.take len0, ⟨some x, cap0, by rw [List.length_take, Nat.min_eq_left (by omega)], by rw [List.length_take]; omega, ?_⟩, fun z hz => hwz z (List.mem_of_mem_take hz)⟩
    by_cases h0 : len0 = 0
    · left; rw [List.length_take]; omega
    · right
      obtain ⟨b, off, rfl, hc⟩ := ints_at hcell (by omega)
      have := hc 0 (by omega)
      refine ⟨b, off, rfl, World.block_lt_of_cell? w _ this, fun j hj => ?_⟩
      rw [List.length_take] at hj
      rw [hc j (by omega)]
      congr 2
      simp only [List.getD_eq_getElem?_getD, List.getElem?_take]
      rw [if_pos (by omega)]
end Go.Proofs.Ytmdpdpbkbakidaa

/- Places in a row of the call's own: copied, turned round, and set down anew one after another. -/
namespace Go.Proofs.Ytmdpdpbkbakidaa
open Go.RowKit

namespace LTQ
theorem set_size (b : Nat) : ∀ (vs : List Value) (o : Nat) (w : World), (w.setCells b o vs).heap.size = w.heap.size
  | [], _, _ => rfl
  | v :: r, o, w => by rw [World.setCells, set_size b r]; simp [World.setCell]
theorem set_frozen (b : Nat) (a : Addr) : ∀ (vs : List Value) (o : Nat) (w : World), (w.setCells b o vs).frozen? a = w.frozen? a
  | [], _, _ => rfl
  | v :: r, o, w => by rw [World.setCells, set_frozen b a r, World.frozen?_setCell]
theorem below_cells {B g : Nat} (hg : B ≤ g) : ∀ (vs : List Value) (o : Nat) (w : World), Below B w (w.setCells g o vs)
  | [], _, _ => Below.refl _ _
  | v :: r, o, w => ((Below.refl B w).setCell (p := ⟨g, o, none⟩) hg v).trans (below_cells hg r (o + 1) _)
theorem nlen {W : World} {a : Option Addr} {n cap : Nat} {zs : List Int} (h : Nums W (.slice a n cap) zs) : n = zs.length := by
  obtain ⟨a', c', e, _⟩ := h
  simp only [Value.slice.injEq] at e
  exact e.2.1
theorem nums_at {W : World} {a : Option Addr} {n cap : Nat} {zs : List Int} (h : Nums W (.slice a n cap) zs) (h0 : 0 < n) :
    ∃ b off, a = some ⟨b, off, none⟩ ∧ b < W.heap.size ∧ ∀ j, j < n → W.cell? ⟨b, off + j, none⟩ = some (.int .i64 (zs.getD j 0)) := by
  have hl := nlen h
  obtain ⟨a', c', e, _, hh⟩ := h
  simp only [Value.slice.injEq] at e
  obtain ⟨rfl, rfl, rfl⟩ := e
  rcases hh with hh | hh
  · omega
  · exact hh
end LTQ

/-- a row of the call's own while it is set down anew -/
def TRow (W : World) (g n k : Nat) (X : Int) (f : Nat → Int) : Prop :=
  ∀ j, j < n → W.cell? ⟨g, j, none⟩ = some (.int .i64 (if j < k then X - f j else f j)) ∧ W.frozen? ⟨g, j, none⟩ = false
theorem TRow.drew {W : World} {g n k : Nat} {X : Int} {f : Nat → Int} (h : TRow W g n k X f) : TRow W.drew g n k X f := h
theorem TRow.step {W : World} {g n k : Nat} {X : Int} {f : Nat → Int} (h : TRow W g n k X f) (hk : k < n) : TRow (W.setCell ⟨g, k, none⟩ (.int .i64 (X - f k))) g n (k + 1) X f := by
  intro j hj
  obtain ⟨h0, h2⟩ := h j hj
  refine ⟨?_, by rw [World.frozen?_setCell]; exact h2⟩
  by_cases e : j = k
  · subst e
    rw [if_pos (by omega)]
    exact World.cell?_setCell_same _ _ _ h0
  · rw [World.cell?_setCell_other _ _ _ _ (by intro e2; simp at e2 <;> omega), h0]
    by_cases e2 : j < k
    · rw [if_pos e2, if_pos (by omega)]
    · rw [if_neg e2, if_neg (by omega)]
theorem TRow.nums {W : World} {g n cap : Nat} {X : Int} {f : Nat → Int} {zs : List Int} (h : TRow W g n n X f) (hl : n = zs.length) (hf : ∀ j, j < n → zs.getD j 0 = X - f j) (hg : g < W.heap.size) (hc : n ≤ cap ∧ cap ≤ 9223372036854775807) : Nums W (.slice (some ⟨g, 0, none⟩) n cap) zs := by
  subst hl
  refine ⟨_, cap, rfl, hc, .inr ⟨g, 0, rfl, hg, fun j hj => ?_⟩⟩
  rw [Nat.zero_add, (h j hj).1, if_pos hj, hf j hj]

theorem clone_row (v : Value) (zs : List Int) (w : World) (h : Nums w v zs) (h0 : zs.length ≠ 0) (hn : zs.length ≤ 1000) :
    Calls Try.prog 16 #[v] w fun e w' => ∃ g cap, e = .returned (.slice (some ⟨g, 0, none⟩) zs.length cap) ∧ (zs.length ≤ cap ∧ cap ≤ 9223372036854775807) ∧ w.heap.size ≤ g ∧ g < w'.heap.size ∧ TRow w' g zs.length 0 0 (fun j => zs.getD j 0) ∧ Below w.heap.size w w' := by
  refine (clone_own v zs w h hn).mono ?_
  rintro e w' ⟨u, rfl, ho, hb⟩
  obtain ⟨ho1, ho2⟩ := ho
  rcases ho2 with ⟨rfl, e0⟩ | ⟨g, cap, cur, rfl, hg, hh, hc, hm, hs, ht⟩
  · exact absurd e0 h0
  · have hlt : g < w'.heap.size := by
      rcases Nat.lt_or_ge g w'.heap.size with h | h
      · exact h
      · rw [Array.getElem?_eq_none h] at hh; cases hh
    have hrow : w'.ownsRow w.heap.size 3 1 (.slice (some ⟨g, 0, none⟩) zs.length cap) zs.length (zs.map (Value.int .i64)) := ⟨ho1, .inr ⟨g, cap, cur, rfl, hg, hh, hc, hm, hs, ht⟩⟩
    refine ⟨g, cap, rfl, ⟨by omega, by unfold maxLen at hm; omega⟩, hg, hlt, fun j hj => ⟨?_, by simp [World.frozen?, hh]⟩, hb⟩
    rw [World.ownsRow.cellAt hrow j (by omega), if_neg (by omega)]
    simp [List.getD, List.getElem?_eq_getElem hj]

theorem rev_row (g cap : Nat) (zs : List Int) (w : World) (hg : g < w.heap.size) (hn : zs.length ≤ 1000) (h : TRow w g zs.length 0 0 (fun j => zs.getD j 0)) (X : Int) :
    Calls Try.prog 84 #[.slice (some ⟨g, 0, none⟩) zs.length cap] w fun e w' => e = .returned (.tuple #[]) ∧ g < w'.heap.size ∧ TRow w' g zs.length 0 X (fun j => zs.reverse.getD j 0) ∧ Below g w w' := by
  have hcell : ∀ j, j < zs.length → w.cell? ⟨g, 0 + j, none⟩ = some (.int .i64 (zs.getD j 0)) := fun j hj => by
    rw [Nat.zero_add, (h j hj).1, if_neg (by omega)]
  refine (Try.slices_Reverse_int_cells g 0 zs.length cap zs w (Nat.le_refl _) (by omega) hcell (fun j hj => by rw [Nat.zero_add]; exact (h j hj).2)).mono ?_
  rintro e w' ⟨rfl, q, rfl⟩
  rw [List.take_length]
  refine ⟨rfl, by rw [LTQ.set_size]; exact hg, fun j hj => ⟨?_, ?_⟩, ?_⟩
  · have hj2 : j < (zs.reverse.map (Value.int .i64)).length := by simpa using hj
    have := World.cell?_setCells_in g (zs.reverse.map (Value.int .i64)) 0 (w.drewN q) (fun i hi => by
      have hi2 : i < zs.length := by simpa using hi
      have := hcell i hi2
      show ((w.drewN q).cell? _).isSome = true
      rw [show (w.drewN q).cell? ⟨g, 0 + i, none⟩ = w.cell? ⟨g, 0 + i, none⟩ from rfl, this]; rfl) j hj2
    rw [Nat.zero_add] at this
    rw [this, if_neg (by omega)]
    simp [List.getD, List.getElem?_eq_getElem (show j < zs.reverse.length by simpa using hj)]
  · rw [LTQ.set_frozen]
    exact (h j hj).2
  · exact (show Below g w (w.drewN q) from ⟨rfl, rfl, rfl, Nat.le_refl _, fun _ _ => rfl⟩).trans (LTQ.below_cells (Nat.le_refl _) _ _ _)

/-- a cask's box, laid now, whose profile is set to another one -/
theorem quad_pf (W : World) (x y z u z' : Value) (T : TypeId) : Quad W.heap.size ((W.alloc (.cells #[x, y, z, u] T)).setCell ⟨W.heap.size, 2, none⟩ z') x y z' u := by
  obtain ⟨h0, h1, h2, h3, h4, h5⟩ := Quad.new W x y z u T
  refine ⟨?_, ?_, ?_, ?_, fun k hk => by rw [World.frozen?_setCell]; exact h4 k hk, by simp [World.setCell]⟩
  · rw [World.cell?_setCell_other _ _ _ _ (by intro e; simp at e)]; exact h0
  · rw [World.cell?_setCell_other _ _ _ _ (by intro e; simp at e)]; exact h1
  · exact World.cell?_setCell_same _ _ _ h2
  · rw [World.cell?_setCell_other _ _ _ _ (by intro e; simp at e)]; exact h3
end Go.Proofs.Ytmdpdpbkbakidaa

/- One more integer in a row of the call's own: slices.Insert. -/
namespace Go.Proofs.Ytmdpdpbkbakidaa
open Go.RowKit

theorem map_at (zs : List Int) (j : Nat) (v : Value) (h : (zs.map (Value.int .i64))[j]? = some v) : j < zs.length ∧ v = .int .i64 (zs.getD j 0) := by
  have hj : j < zs.length := by
    rcases Nat.lt_or_ge j zs.length with h' | h'
    · exact h'
    · rw [List.getElem?_eq_none (by simpa using h')] at h; cases h
  refine ⟨hj, ?_⟩
  rw [List.getElem?_map, List.getElem?_eq_getElem hj] at h
  simp only [Option.map_some, Option.some.injEq] at h
  rw [← h, List.getD_eq_getElem?_getD, List.getElem?_eq_getElem hj, Option.getD_some]
theorem pins_cells (zs : List Int) (i : Nat) (x : Int) (hi : i ≤ zs.length) (j : Nat) (hj : j < zs.length + 1) :
    (j < i → (Value.int IntKind.i64 ((pins zs i x).getD j 0)) = .int .i64 (zs.getD j 0)) ∧ (j = i → (Value.int IntKind.i64 ((pins zs i x).getD j 0)) = .int .i64 x) ∧ (i < j → (Value.int IntKind.i64 ((pins zs i x).getD j 0)) = .int .i64 (zs.getD (j - 1) 0)) := by
  refine ⟨fun h => ?_, fun h => ?_, fun h => ?_⟩
  · rw [pins_at x hi, if_pos h]
  · rw [pins_at x hi, if_neg (by omega), if_pos h]
  · rw [pins_at x hi, if_neg (by omega), if_neg (by omega)]
/-- two stores of rows, read: what stood, the new one, what stood from there on -/
theorem ins_cells (g i : Nat) (zs : List Int) (x : Int) (w : World) (hi : i ≤ zs.length) (hs : ∀ j, j < zs.length + 1 → (w.cell? ⟨g, j, none⟩).isSome = true) (h0 : ∀ j, j < i → w.cell? ⟨g, j, none⟩ = some (.int .i64 (zs.getD j 0))) (W : World)
    (hW : (∀ a, W.cell? a = ((w.setCells g i [.int .i64 x]).setCells g (i + 1) ((zs.map (Value.int .i64)).drop i)).cell? a) ∨ (∀ a, W.cell? a = ((w.setCells g (i + 1) ((zs.map (Value.int .i64)).drop i)).setCells g i [.int .i64 x]).cell? a)) :
    ∀ j, j < zs.length + 1 → W.cell? ⟨g, j, none⟩ = some (.int .i64 ((pins zs i x).getD j 0)) := by
  intro j hj
  obtain ⟨p0, p1, p2⟩ := pins_cells zs i x hi j hj
  have hdl : ((zs.map (Value.int .i64)).drop i).length = zs.length - i := by simp
  have isS : ∀ (vs : List Value) (o : Nat) (W : World), (∀ j, j < zs.length + 1 → (W.cell? ⟨g, j, none⟩).isSome = true) → o + vs.length ≤ zs.length + 1 → ∀ j, j < zs.length + 1 → ((W.setCells g o vs).cell? ⟨g, j, none⟩).isSome = true := fun vs o W h ho j hj => by
    by_cases e : o ≤ j ∧ j < o + vs.length
    · have := World.cell?_setCells_in g vs o W (fun k hk => h _ (by omega)) (j - o) (by omega)
      rw [show o + (j - o) = j by omega] at this
      rw [this]; rfl
    · rw [World.cell?_setCells_out g vs o W _ (fun _ _ => by show j < o ∨ o + vs.length ≤ j; omega)]
      exact h j hj
  have dr : ∀ k (hk : k < ((zs.map (Value.int .i64)).drop i).length), ((zs.map (Value.int .i64)).drop i)[k] = .int .i64 (zs.getD (i + k) 0) := fun k hk => by
    rw [hdl] at hk
    rw [List.getElem_drop, List.getElem_map, List.getD_eq_getElem?_getD, List.getElem?_eq_getElem (by omega), Option.getD_some]
  rcases hW with hW | hW
  · rw [hW]
    have s1 := isS [.int .i64 x] i w hs (by simp; omega)
    rcases Nat.lt_trichotomy j i with h | h | h
    · rw [p0 h, World.cell?_setCells_out g _ _ _ _ (fun _ _ => .inl (by show j < i + 1; omega)), World.cell?_setCells_out g _ _ _ _ (fun _ _ => .inl (by show j < i; omega))]
      exact h0 j h
    · rw [p1 h, World.cell?_setCells_out g _ _ _ _ (fun _ _ => .inl (by show j < i + 1; omega))]
      have := World.cell?_setCells_in g [Value.int .i64 x] i w (fun k hk => hs _ (by simp at hk; omega)) 0 (by simp)
      rw [h]; exact this
    · have := World.cell?_setCells_in g ((zs.map (Value.int .i64)).drop i) (i + 1) (w.setCells g i [.int .i64 x]) (fun k hk => s1 _ (by omega)) (j - (i + 1)) (by omega)
      rw [show i + 1 + (j - (i + 1)) = j by omega] at this
      rw [this, dr, p2 h, show i + (j - (i + 1)) = j - 1 by omega]
  · rw [hW]
    have s1 := isS ((zs.map (Value.int .i64)).drop i) (i + 1) w hs (by omega)
    rcases Nat.lt_trichotomy j i with h | h | h
    · rw [p0 h, World.cell?_setCells_out g _ _ _ _ (fun _ _ => .inl (by show j < i; omega)), World.cell?_setCells_out g _ _ _ _ (fun _ _ => .inl (by show j < i + 1; omega))]
      exact h0 j h
    · have := World.cell?_setCells_in g [Value.int .i64 x] i (w.setCells g (i + 1) ((zs.map (Value.int .i64)).drop i)) (fun k hk => s1 _ (by simp at hk; omega)) 0 (by simp)
      rw [p1 h, h]; exact this
    · rw [World.cell?_setCells_out g [Value.int .i64 x] i _ _ (fun _ _ => .inr (by show i + 1 ≤ j; omega))]
      have := World.cell?_setCells_in g ((zs.map (Value.int .i64)).drop i) (i + 1) w (fun k hk => hs _ (by omega)) (j - (i + 1)) (by omega)
      rw [show i + 1 + (j - (i + 1)) = j by omega] at this
      rw [this, dr, p2 h, show i + (j - (i + 1)) = j - 1 by omega]

theorem set_drew (b : Nat) : ∀ (vs : List Value) (o : Nat) (w : World), (w.drew).setCells b o vs = (w.setCells b o vs).drew
  | [], _, _ => rfl
  | v :: r, o, w => by
    rw [World.setCells, World.setCells, ← set_drew b r]; rfl
theorem insert_own (B i : Nat) (u : Value) (zs : List Int) (x : Int) (W : World) (h : W.ownsRow B 3 1 u zs.length (zs.map (Value.int .i64))) (hB : B ≤ W.heap.size) (hi : i < zs.length) (hn : zs.length ≤ 1000) :
    Calls Try.prog 21 #[u, .int .i64 i, .slice (some ⟨W.heap.size, 0, none⟩) 1 1] (W.alloc (.cells #[.int .i64 x] 3)) fun e w' => ∃ z, e = .returned z ∧ Nums w' z (pins zs i x) ∧ Below B W w' := by
  have hrow := h
  obtain ⟨h1, h2⟩ := h
  rcases h2 with ⟨rfl, h0⟩ | ⟨g, cap, cur, rfl, hg, hh, hc, hm, hs, ht⟩
  · omega
  have hlt : g < W.heap.size := (Array.getElem?_eq_some_iff.1 hh).1
  obtain ⟨w, hw⟩ : ∃ w, w = W.alloc (.cells #[.int .i64 x] 3) := ⟨_, rfl⟩
  have hh' : w.heap[g]? = some (.cells cur 3 (0, 0)) := by rw [hw, Below.heap_alloc _ _ _ hlt]; exact hh
  have hh2 : w.heap[W.heap.size]? = some (.cells #[.int .i64 x] 3 (0, 0)) := by
    rw [hw]; show (W.heap.push _)[_]? = _; simp
  have hvc : w.cell? ⟨W.heap.size, 0, none⟩ = some (.int .i64 x) := by rw [hw]; simp [go_sem]
  have hsz : w.heap.size = W.heap.size + 1 := by rw [hw]; simp
  have bw0 : Below W.heap.size W w := by rw [hw]; exact bel_alloc (Below.refl _ _)
  have bw : Below B W w := by rw [hw]; exact (Below.refl B W).alloc hB _
  have hcell : ∀ j, j < zs.length → w.cell? ⟨g, j, none⟩ = some (.int .i64 (zs.getD j 0)) := fun j hj => by
    have := World.ownsRow.cellAt hrow j (by omega)
    rw [(bcell bw0).1 _ _ hlt, this, List.getElem?_map, List.getElem?_eq_getElem hj, List.getD_eq_getElem?_getD, List.getElem?_eq_getElem hj]; rfl
  have hcs : ∀ j v, (zs.map (Value.int .i64))[j]? = some v → w.cell? ⟨g, 0 + j, none⟩ = some v := fun j v hv => by
    obtain ⟨hj, rfl⟩ := map_at zs j v hv
    rw [Nat.zero_add]; exact hcell j hj
  have hvs : ∀ j v, [Value.int .i64 x][j]? = some v → w.cell? ⟨W.heap.size, 0 + j, none⟩ = some v := fun j v hv => by
    match j, hv with
    | 0, hv => simp at hv; rw [← hv]; exact hvc
    | j + 1, hv => simp at hv
  have h1c : ∀ v ∈ zs.map (Value.int .i64), v.oneCell' = true := fun v hv => by
    obtain ⟨z, _, rfl⟩ := List.mem_map.1 hv; rfl
  have h1v : ∀ v ∈ [Value.int .i64 x], v.oneCell' = true := fun v hv => by
    rw [List.mem_singleton] at hv; rw [hv]; rfl
  rw [← hw]
  by_cases hroom : zs.length + 1 ≤ cap
  · have hsp : ∀ j, j < zs.length + 1 → (w.cell? ⟨g, 0 + j, none⟩).isSome = true := fun j hj => by
      simp only [World.cell?, hh', Nat.zero_add]
      rw [if_neg (by simp), Array.getElem?_eq_getElem (by omega)]; rfl
    have := Any2.slices_Insert_int_shift Try.laysNm221 g 0 zs.length cap i W.heap.size 0 1 1 (zs.map (Value.int .i64)) [Value.int .i64 x] w hi (by omega) hroom (by unfold maxLen at hm; omega) (by omega) (by simp) rfl hcs hsp (fun j hj => by simp [World.frozen?, hh']) hvs h1c h1v 3 3 1 cur.size (by simp [World.shape?, hh2]) (by simp [World.shape?, hh']) (by omega) (by rw [hw]; simp [go_sem]) (by rw [hw]; simp [go_sem])
    refine Calls.mono this ?_
    rintro e w' ⟨rfl, rfl⟩
    refine ⟨_, rfl, ⟨_, cap, by rw [pins_len x (by omega)], by rw [pins_len x (by omega)]; unfold maxLen at hm; omega, .inr ⟨g, 0, rfl, ?_, fun j hj => ?_⟩⟩, ?_⟩
    · rw [LTQ.set_size, LTQ.set_size]; show g < w.heap.size; omega
    · rw [pins_len x (by omega)] at hj
      simp only [Nat.zero_add]
      refine ins_cells g i zs x w.drew (by omega) (fun j hj => ?_) (fun j hj => hcell j (by omega)) _ (.inr fun a => rfl) j hj
      have := hsp j hj
      rwa [Nat.zero_add] at this
    · exact ((bw.drew).trans (LTQ.below_cells hg _ _ _)).trans (LTQ.below_cells hg _ _ _)
  · have := Any2.slices_Insert_int_grow Try.laysNm221 g 0 zs.length cap i W.heap.size 0 1 1 (zs.map (Value.int .i64)) [Value.int .i64 x] w hi (by omega) hc (by omega) (by omega) (by simp) rfl hcs hvs h1c h1v
    rw [show Try.laysNm221_ren.t 3 = 3 from rfl] at this
    refine Calls.mono this ?_
    rintro e w' ⟨rfl, rfl⟩
    have gc := grownCap_ge w (zs.length + 1) cap 3
    have gm := grownCap_le_maxLen w (zs.length + 1) cap 3 (by unfold maxLen; omega)
    refine ⟨_, rfl, ⟨_, _, by rw [pins_len x (by omega)], by rw [pins_len x (by omega)]; unfold maxLen at gm; exact ⟨gc, by omega⟩, .inr ⟨w.heap.size, 0, rfl, ?_, fun j hj => ?_⟩⟩, ?_⟩
    · rw [LTQ.set_size]; show _ < (World.setCells _ _ _ _).heap.size; rw [LTQ.set_size]; simp
    · rw [pins_len x (by omega)] at hj
      simp only [Nat.zero_add]
      obtain ⟨G, hG⟩ : ∃ G, G = grownCap w (zs.length + 1) cap 3 := ⟨_, rfl⟩
      rw [← hG]
      obtain ⟨ROW, hROW⟩ : ∃ ROW : Array Value, ROW = ((zs.map (Value.int .i64)).take i).toArray ++ Builtin.zeroCells (Value.int .i64 0).cells (zs.length + 1 - i) ++ Builtin.zeroCells (Value.int .i64 0).cells (G - (zs.length + 1)) := ⟨_, rfl⟩
      rw [← hROW]
      have hR : zs.length + 1 ≤ ROW.size := by
        rw [hROW]
        simp [Builtin.zeroCells, Value.cells]
        omega
      have hc0 : ∀ j, ((w.alloc (.cells ROW 3)).drew).cell? ⟨w.heap.size, j, none⟩ = ROW[j]? := fun j => by
        show (w.alloc (.cells ROW 3)).cell? _ = _
        simp [go_sem]
      refine ins_cells w.heap.size i zs x (w.alloc (.cells ROW 3)).drew (by omega) (fun j hj => ?_) (fun j hj => ?_) _ (.inl fun a => by rw [set_drew]; rfl) j hj
      · rw [hc0, Array.getElem?_eq_getElem (by omega)]; rfl
      · rw [hc0, hROW, Array.append_assoc, Array.getElem?_append_left (by simp; omega), List.getElem?_toArray, List.getElem?_take, if_pos hj, List.getElem?_map, List.getElem?_eq_getElem (by omega), List.getD_eq_getElem?_getD, List.getElem?_eq_getElem (by omega)]; rfl
    · exact ((((bw.alloc (by omega) _).drew).trans (LTQ.below_cells (show B ≤ w.heap.size by omega) _ _ _)).drew).trans (LTQ.below_cells (show B ≤ w.heap.size by omega) _ _ _)
end Go.Proofs.Ytmdpdpbkbakidaa

/- What the statement StandingFiner wants: one more level. -/
namespace Go.Proofs.Ytmdpdpbkbakidaa
open Go.RowKit

namespace EFQ
theorem cnt_lt (x : Int) : ∀ (ps : List Int), ps.Pairwise (· ≤ ·) → ∀ j, j < ps.length → (ps.getD j 0 < x ↔ j < ps.countP (fun z => decide (z < x)))
  | [], _, j, hj => by simp at hj
  | p :: ps, h, j, hj => by
    rw [List.pairwise_cons] at h
    by_cases hp : p < x
    · rw [List.countP_cons_of_pos (by simpa using hp)]
      cases j with
      | zero => simp [hp]
      | succ j =>
        have := cnt_lt x ps h.2 j (by simpa using hj)
        simp only [List.getD_cons_succ]
        rw [this]; omega
    · rw [List.countP_cons_of_neg (by simpa using hp)]
      have z0 : ps.countP (fun z => decide (z < x)) = 0 := by
        rw [List.countP_eq_zero]
        intro z hz
        have := h.1 z hz
        simp; omega
      rw [z0]
      constructor
      · intro hl
        exfalso
        cases j with
        | zero => simp at hl; omega
        | succ j =>
          simp only [List.getD_cons_succ] at hl
          have hj' : j < ps.length := by simpa using hj
          rw [List.getD_eq_getElem?_getD, List.getElem?_eq_getElem hj', Option.getD_some] at hl
          have := h.1 _ (List.getElem_mem hj')
          omega
      · intro h; omega
theorem asc_pairwise {ps : List Int} (h : ∀ i, i + 1 < ps.length → ps.getD i 0 < ps.getD (i + 1) 0) : ps.Pairwise (· ≤ ·) := by
  rw [List.pairwise_iff_getElem]
  intro i j hi hj hij
  have := asc_lt h hij hj
  rw [List.getD_eq_getElem?_getD, List.getElem?_eq_getElem hi, List.getD_eq_getElem?_getD, List.getElem?_eq_getElem hj] at this
  exact Int.le_of_lt this
theorem pin_of {l : List (Int × Int)} {ps : List Int} {x : Int} (hP : LvR l ps) (hx : ps.contains x = false) (x0 : ps.getD 0 0 ≤ x) (x1 : x ≤ ps.getD (ps.length - 1) 0) : PinP ps (ps.countP (fun z => decide (z < x))) x := by
  have n0 := hP.n0
  have hs := asc_pairwise hP.asc
  have ne : ∀ j, j < ps.length → ps.getD j 0 ≠ x := fun j hj e => by
    have : x ∈ ps := by
      rw [← e, List.getD_eq_getElem?_getD, List.getElem?_eq_getElem hj, Option.getD_some]; exact List.getElem_mem _
    rw [← List.contains_iff_mem, hx] at this
    cases this
  have a0 := cnt_lt x ps hs 0 (by omega)
  have a1 := cnt_lt x ps hs (ps.length - 1) (by omega)
  have b0 := ne 0 (by omega)
  have b1 := ne (ps.length - 1) (by omega)
  have c0 : 0 < ps.countP (fun z => decide (z < x)) := a0.1 (by omega)
  have c1 : ¬ ps.length - 1 < ps.countP (fun z => decide (z < x)) := fun h => by have := a1.2 h; omega
  have d0 := cnt_lt x ps hs (ps.countP (fun z => decide (z < x)) - 1) (by omega)
  have d1 := cnt_lt x ps hs (ps.countP (fun z => decide (z < x))) (by omega)
  have d2 := ne (ps.countP (fun z => decide (z < x))) (by omega)
  exact ⟨c0, by omega, d0.2 (by omega), by omega⟩
theorem search_any (b off n cap : Nat) (ps : List Int) (x : Int) (w : World) (h : Nums w (.slice (some ⟨b, off, none⟩) n cap) ps) (n0 : 0 < n) (hn : n ≤ 1000) (hs : ps.Pairwise (· ≤ ·)) :
    Calls Try.prog 20 #[.slice (some ⟨b, off, none⟩) n cap, .int .i64 x] w fun e w' => e = .returned (.tuple #[.int .i64 (ps.countP (fun z => decide (z < x)) : Nat), .bool (ps.contains x)]) ∧ Below w.heap.size w w' := by
  have hl := LTQ.nlen h
  obtain ⟨b', off', e, hb, hc⟩ := LTQ.nums_at h n0
  simp only [Option.some.injEq, Addr.mk.injEq, and_true] at e
  obtain ⟨rfl, rfl⟩ := e
  subst hl
  refine (Try.slices_BinarySearch_int b off ps.length cap ps x w (Nat.le_refl _) (by omega) hc (by rw [List.take_length]; exact hs)).mono ?_
  rintro e w' ⟨rfl, q, rfl⟩
  rw [List.take_length]
  exact ⟨rfl, bel_drewN w q⟩
/-- one more level: the bounds lie within -/
theorem more_in {c : Ck} {ls : List Int} {x : Int} (he : stE c ls = 0) (hn : ls.length ≤ 127) (hx : ls.contains x = false) (x0 : ls.getD 0 0 ≤ x) (x1 : x ≤ ls.getD (ls.length - 1) 0) :
    stE c (pins ls (ls.countP (fun z => decide (z < x))) x) = 0 ∧ bwL c ls ≤ bwL c (pins ls (ls.countP (fun z => decide (z < x))) x) ∧ bwL c (pins ls (ls.countP (fun z => decide (z < x))) x) ≤ bwH c (pins ls (ls.countP (fun z => decide (z < x))) x) ∧ bwH c (pins ls (ls.countP (fun z => decide (z < x))) x) ≤ bwH c ls ∧ ls.countP (fun z => decide (z < x)) < ls.length := by
  obtain ⟨⟨h1, h2⟩, h3⟩ := stE_zero.1 he
  obtain ⟨_, _, _, hR⟩ := ccE_pf h1
  have hp := pin_of h3 hx x0 x1
  have hi := hp.i2
  have ln := pins_len x (show ls.countP (fun z => decide (z < x)) ≤ ls.length by omega)
  have hQ := pins_level h3 hp hn
  have e2 : stE c (pins ls (ls.countP (fun z => decide (z < x))) x) = 0 := stE_zero.2 ⟨⟨h1, h2⟩, hQ⟩
  have m0 := h3.n0
  have t := (en_more hR h3 hp).2 (ls.length - 1) (by omega) (by omega)
  rw [show ls.length - 1 + 1 = (pins ls (ls.countP (fun z => decide (z < x))) x).length - 1 by omega] at t
  have b := en_top hR hQ ((pins ls (ls.countP (fun z => decide (z < x))) x).length - 1) (by omega)
  have e3 : bwL c ls = enL c.pf ls (ls.length - 1) * 333 / 318 := by unfold bwL; rw [if_pos he]
  have e4 : bwH c ls = (enH c.pf ls (ls.length - 1) * 355 + 338) / 339 := by unfold bwH; rw [if_pos he]
  have e5 : bwL c (pins ls (ls.countP (fun z => decide (z < x))) x) = enL c.pf (pins ls (ls.countP (fun z => decide (z < x))) x) ((pins ls (ls.countP (fun z => decide (z < x))) x).length - 1) * 333 / 318 := by unfold bwL; rw [if_pos e2]
  have e6 : bwH c (pins ls (ls.countP (fun z => decide (z < x))) x) = (enH c.pf (pins ls (ls.countP (fun z => decide (z < x))) x) ((pins ls (ls.countP (fun z => decide (z < x))) x).length - 1) * 355 + 338) / 339 := by unfold bwH; rw [if_pos e2]
  rw [e3, e4, e5, e6]
  exact ⟨e2, by omega, by omega, by omega, hi⟩
end EFQ
end Go.Proofs.Ytmdpdpbkbakidaa

/- The reference of layer 10: Sum, Frustums, Bounds, Litres, Space. -/
namespace Go.Proofs.Ytmdpdpbkbakidaa
open Go.RowKit

theorem mul_bd {p q : Int} (hp : 1 ≤ p ∧ p ≤ 100000) (hq : 1 ≤ q ∧ q ≤ 100000) : 1 ≤ p * q ∧ p * q ≤ 10000000000 := by
  have a := Int.mul_le_mul hp.1 hq.1 (by omega) (by omega)
  have b := Int.mul_le_mul hp.2 hq.2 (by omega) (by omega)
  omega
/-- what Frustums returns -/
def fuQ (l : List (Int × Int)) : Int := if ckE l = 0 then frS l else 0
def spL (l : List (Int × Int)) : Int := if ckE l = 0 then cbL (frS l) else 0
def spH (l : List (Int × Int)) : Int := if ckE l = 0 then cbH (frS l) else 0
end Go.Proofs.Ytmdpdpbkbakidaa

/- Package capacity: frustum, up, Frustums, Space. -/
namespace Go.Proofs.Ytmdpdpbkbakidaa
open Go.RowKit

theorem frum_any (a p c q : Int) (w : World) (hp : 1 ≤ p ∧ p ≤ 100000) (hq : 1 ≤ q ∧ q ≤ 100000) (ha : 0 ≤ a ∧ a ≤ 100000) (hc : 0 ≤ c ∧ c ≤ 100000) (hb : (c - a) * sq3 p q ≤ 3000000000000000 ∧ 0 ≤ (c - a) * sq3 p q) :
    Calls Try.prog 70 #[.agg #[.int .i64 a, .int .i64 p], .agg #[.int .i64 c, .int .i64 q]] w fun e w' => e = .returned (.int .i64 ((c - a) * sq3 p q)) ∧ Below w.heap.size w w' := by
  have m1 := mul_bd hp hp
  have m2 := mul_bd hp hq
  have m3 := mul_bd hq hq
  have w1 : IntKind.i64.wrap (c - a) = c - a := wrap_in _ ⟨by omega, by omega⟩
  have w2 : IntKind.i64.wrap (p * p) = p * p := wrap_in _ ⟨by omega, by omega⟩
  have w3 : IntKind.i64.wrap (p * q) = p * q := wrap_in _ ⟨by omega, by omega⟩
  have w4 : IntKind.i64.wrap (p * p + p * q) = p * p + p * q := wrap_in _ ⟨by omega, by omega⟩
  have w5 : IntKind.i64.wrap (q * q) = q * q := wrap_in _ ⟨by omega, by omega⟩
  have w6 : IntKind.i64.wrap (p * p + p * q + q * q) = p * p + p * q + q * q := wrap_in _ ⟨by omega, by omega⟩
  unfold sq3 at *
  have w7 : IntKind.i64.wrap ((c - a) * (p * p + p * q + q * q)) = (c - a) * (p * p + p * q + q * q) := wrap_in _ ⟨by omega, by omega⟩
  clear m1 m2 m3 hp hq ha hc hb
  go_enter Try.func70, Try.ntmps70
  go_wp2
  go_returns
  exact ⟨rfl, bel_alloc (bel_alloc (Below.refl _ _))⟩
theorem cup_any (a b : Int) (w : World) (ha : 0 ≤ a ∧ a ≤ 2000000000000000000) (hb : 1 ≤ b ∧ b ≤ 1000000000) :
    Calls Try.prog 52 #[.int .i64 a, .int .i64 b] w fun e w' => e = .returned (.int .i64 ((a + b - 1) / b)) ∧ w' = w := by
  have w1 : IntKind.i64.wrap (a + b) = a + b := wrap_in _ ⟨by omega, by omega⟩
  have w2 : IntKind.i64.wrap (a + b - 1) = a + b - 1 := wrap_in _ ⟨by omega, by omega⟩
  have d0 : (a + b - 1).tdiv b = (a + b - 1) / b := Int.tdiv_eq_ediv_of_nonneg (by omega)
  have l1 : (a + b - 1) / b ≤ a + b - 1 := Int.ediv_le_self _ (by omega)
  have l0 : 0 ≤ (a + b - 1) / b := Int.ediv_nonneg (by omega) (by omega)
  have w3 : IntKind.i64.wrap ((a + b - 1) / b) = (a + b - 1) / b := wrap_in _ ⟨by omega, by omega⟩
  have n0 : (b == 0) = false := by simp; omega
  have n1 : ¬ b = 0 := by omega
  clear l0 l1
  go_enter Try.func52, Try.ntmps52
  go_wp2
  go_returns
  exact ⟨rfl, rfl⟩
end Go.Proofs.Ytmdpdpbkbakidaa

/- Package capacity: Frustums. -/
namespace Go.Proofs.Ytmdpdpbkbakidaa
open Go.RowKit

theorem fru_bad (v : Value) (E : Int) (w : World) (e1 : (E == 0) = false) (e2 : (E != 0) = true)
    (H1 : Hid (Calls Try.prog 55 #[v] w fun e w' => e = .returned (.int .i64 E) ∧ Below w.heap.size w w')) :
    Calls Try.prog 51 #[v] w fun e w' => e = .returned (.tuple #[.int .i64 0, .int .i64 E]) ∧ Below w.heap.size w w' := by
  go_enter Try.func51, Try.ntmps51
  go_wp2_with fail
  refine H1.out.mono ?_
  rintro e w1 ⟨rfl, gg⟩
  have X1 := Lib.hid gg; clear gg
  go_wp2
  go_returns
  exact ⟨rfl, X1.out⟩
set_option maxHeartbeats 8000000 in
theorem fru_ok (b off m cap : Nat) (l : List (Int × Int)) (w : World) (n0 : 1 ≤ m) (n1 : m ≤ 31) (hcap : m + 1 ≤ cap ∧ cap ≤ 9223372036854775807) (hR : RP l) (hn : m + 1 = l.length) (hb : b < w.heap.size)
    (hc : Hid (∀ j, j < m + 1 → w.cell? ⟨b, off + j * 2, none⟩ = some (.int .i64 (gX l j)) ∧ w.cell? ⟨b, off + j * 2 + 1, none⟩ = some (.int .i64 (gR l j))))
    (H1 : Hid (Calls Try.prog 55 #[.slice (some ⟨b, off, none⟩) (m + 1) cap] w fun e w' => e = .returned (.int .i64 0) ∧ Below w.heap.size w w')) :
    Calls Try.prog 51 #[.slice (some ⟨b, off, none⟩) (m + 1) cap] w fun e w' => e = .returned (.tuple #[.int .i64 (fr l m), .int .i64 0]) ∧ Below w.heap.size w w' := by
  have HR := Lib.hid hR
  have HN := Lib.hid hn
  clear hR hn
  have hcap1 : ¬ cap = 1 := by omega
  obtain ⟨hc1, hc2⟩ := hcap
  go_enter Try.func51, Try.ntmps51
  go_wp2_with fail
  refine H1.out.mono ?_
  rintro e w1 ⟨rfl, gg⟩
  have X1 := Lib.hid gg; clear gg H1
  go_wp2_with fail
  go_loopw [5, 16] (fun ss ii wr => ∃ k : Nat, k ≤ m ∧ ii = .int .i64 (k : Int) ∧ ss = .int .i64 (fr l k) ∧ Hid (Below w.heap.size w wr)) (fun _ ii _ => m + 1 - (intOf ii).toNat)
  case atStart => exact ⟨0, by omega, rfl, rfl, X1⟩
  case round =>
    obtain ⟨k, hk, rfl, rfl, hB⟩ := hrel
    by_cases hlt : k < m
    · have c0 : wr.cell? ⟨b, off + k * 2, none⟩ = some (.int .i64 (gX l k)) := by rw [(bcell hB.out).1 _ _ hb]; exact (hc.out k (by omega)).1
      have c1 : wr.cell? ⟨b, off + k * 2 + 1, none⟩ = some (.int .i64 (gR l k)) := by rw [(bcell hB.out).1 _ _ hb]; exact (hc.out k (by omega)).2
      have d0 : wr.cell? ⟨b, off + 2 + k * 2, none⟩ = some (.int .i64 (gX l (k + 1))) := by rw [(bcell hB.out).1 _ _ hb, show off + 2 + k * 2 = off + (k + 1) * 2 by omega]; exact (hc.out (k + 1) (by omega)).1
      have d1 : wr.cell? ⟨b, off + 2 + k * 2 + 1, none⟩ = some (.int .i64 (gR l (k + 1))) := by rw [(bcell hB.out).1 _ _ hb, show off + 2 + k * 2 + 1 = off + (k + 1) * 2 + 1 by omega]; exact (hc.out (k + 1) (by omega)).2
      have eF : fr l (k + 1) = fr l k + (gX l (k + 1) - gX l k) * sq3 (gR l k) (gR l (k + 1)) := rfl
      have hn := HN.out
      have b0 := fr_bd HR.out k (by omega)
      have b1 := fr_bd HR.out (k + 1) (by omega)
      have x0 := HR.out.bx k (by omega)
      have x1 := HR.out.bx (k + 1) (by omega)
      have p0 := HR.out.br k (by omega)
      have q0 := HR.out.br (k + 1) (by omega)
      have pp := frP_bd HR.out k (by omega)
      have bl : b < wr.heap.size := Nat.lt_of_lt_of_le hb hB.out.size
      have FU := Lib.hid (fun W => frum_any (gX l k) (gR l k) (gX l (k + 1)) (gR l (k + 1)) W p0 q0 (by omega) (by omega) ⟨pp.2, pp.1⟩)
      generalize (gX l (k + 1) - gX l k) * sq3 (gR l k) (gR l (k + 1)) = T at *
      generalize gX l k = a at *
      generalize gR l k = p at *
      generalize gX l (k + 1) = c at *
      generalize gR l (k + 1) = q at *
      generalize fr l k = s at *
      generalize hS : fr l (k + 1) = s2 at *
      have w8 : IntKind.i64.wrap (s + T) = s2 := by rw [← eF]; exact wrap_in _ ⟨by omega, by omega⟩
      have wk : IntKind.i64.wrap (k : Int) = (k : Int) := wrap_in _ ⟨by omega, by omega⟩
      have l1 : (k : Int) < (m : Int) := by omega
      have l2 : (k : Int) < (m : Int) + 1 := by omega
      have cc : ∀ x v, wr.cell? ⟨b, x, none⟩ = some v → (∀ o, (wr.alloc o).cell? ⟨b, x, none⟩ = some v) := fun x v h => by
        exact fun o => by rw [World.cell?_alloc_lt _ _ _ bl]; exact h
      have c0a := cc _ _ c0
      have c1a := cc _ _ c1
      have T0 := Two.new wr (.int .i64 c) (.int .i64 q) 33
      obtain ⟨t0, t1, _, _, _⟩ := T0
      have ES := Lib.hid eF; clear eF
      clear cc hn pp x0 x1 p0 q0 b0 b1 hc
      go_wp2_with fail
      go_region_with (go_at_call 70; refine (FU.out _).mono ?_; rintro e w2 ⟨rfl, gg⟩; have X2 := Lib.hid gg; clear gg)
      all_goals go_wp2
      all_goals go_roundw
      all_goals first
        | exact ⟨k + 1, by omega, by go_num, by rw [hS], bel_trans hB.out (bel_alloc (bel_trans (bel_drew _) X2.out))⟩
        | (simp [intOf]; omega)
    · obtain rfl : m = k := by omega
      go_wp2
      go_returns
      exact ⟨rfl, hB.out⟩
theorem fru_n (b off n cap : Nat) (l : List (Int × Int)) (w : World) (hcap : n ≤ cap ∧ cap ≤ 9223372036854775807) (hR : RP l) (hn : n = l.length) (hb : b < w.heap.size)
    (hc : Hid (∀ j, j < n → w.cell? ⟨b, off + j * 2, none⟩ = some (.int .i64 (gX l j)) ∧ w.cell? ⟨b, off + j * 2 + 1, none⟩ = some (.int .i64 (gR l j))))
    (H1 : Hid (Calls Try.prog 55 #[.slice (some ⟨b, off, none⟩) n cap] w fun e w' => e = .returned (.int .i64 0) ∧ Below w.heap.size w w')) :
    Calls Try.prog 51 #[.slice (some ⟨b, off, none⟩) n cap] w fun e w' => e = .returned (.tuple #[.int .i64 (fr l (n - 1)), .int .i64 0]) ∧ Below w.heap.size w w' := by
  have n0 := hR.n0
  have n1 := hR.n1
  obtain ⟨m, rfl⟩ : ∃ m, n = m + 1 := ⟨n - 1, by omega⟩
  exact fru_ok b off m cap l w (by omega) (by omega) hcap hR hn hb hc H1
theorem cFru_any (v : Value) (l : List (Int × Int)) (w : World) (hv : Pts w v l) :
    Calls Try.prog 51 #[v] w fun e w' => e = .returned (.tuple #[.int .i64 (fuQ l), .int .i64 (ckE l)]) ∧ Below w.heap.size w w' := by
  have HC := Lib.hid (ck_any v l w hv)
  unfold fuQ
  by_cases h : ckE l = 0
  · rw [if_pos h, h]
    rw [h] at HC
    have hR := (ckE_iff l).1 h
    have n0 := hR.n0
    obtain ⟨a, cap, rfl, hl, hh⟩ := hv
    rcases hh with hh | ⟨b, off, rfl, hb, hc⟩
    · omega
    · exact fru_n b off l.length cap l w hl hR rfl hb (Lib.hid hc) HC
  · rw [if_neg h]
    exact fru_bad v _ w (by simpa using h) (by simpa using h) HC
theorem spc_bad (v : Value) (E F : Int) (w : World) (e1 : (E == 0) = false) (e2 : (E != 0) = true)
    (H1 : Hid (∀ W, Below w.heap.size w W → Calls Try.prog 51 #[v] W fun e w' => e = .returned (.tuple #[.int .i64 F, .int .i64 E]) ∧ Below W.heap.size W w')) :
    Calls Try.prog 24 #[v] w fun e w' => e = .returned (.tuple #[.agg #[.int .i64 0, .int .i64 0], .int .i64 E]) ∧ Below w.heap.size w w' := by
  have T0 := Lib.hid (Two.new w (.int .i64 0) (.int .i64 0) 43)
  go_enter Try.func24, Try.ntmps24
  go_wp2_with fail
  refine (H1.out _ (bel_alloc (Below.refl _ _))).mono ?_
  rintro e w1 ⟨rfl, gg⟩
  replace T0 := Lib.hid (T0.out.below gg)
  have X1 := Lib.hid (bel_alloc gg); clear gg
  obtain ⟨z0, z1, f0, f1, hlt⟩ := T0.out
  go_wp2
  obtain ⟨t0, t1⟩ := two_read w1 w.heap.size (.int .i64 0) (.int .i64 0) z0 z1
  refine bodyPost_ret (v := .tuple #[.agg #[.int .i64 0, .int .i64 0], .int .i64 E]) (by simp [results, Try.results24, go_sem, t0, t1]) rfl ?_
  exact ⟨rfl, (X1.out.setCell (Nat.le_refl _) _).setCell (Nat.le_refl _) _⟩
set_option maxHeartbeats 4000000 in
theorem spc_ok (v : Value) (S : Int) (w : World) (hS : 0 ≤ S ∧ S ≤ 3000000000000000)
    (H1 : Hid (∀ W, Below w.heap.size w W → Calls Try.prog 51 #[v] W fun e w' => e = .returned (.tuple #[.int .i64 S, .int .i64 0]) ∧ Below W.heap.size W w')) :
    Calls Try.prog 24 #[v] w fun e w' => e = .returned (.tuple #[.agg #[.int .i64 (cbL S), .int .i64 (cbH S)], .int .i64 0]) ∧ Below w.heap.size w w' := by
  have T0 := Lib.hid (Two.new w (.int .i64 0) (.int .i64 0) 43)
  have w1 : IntKind.i64.wrap (S * 333) = S * 333 := wrap_in _ ⟨by omega, by omega⟩
  have w2 : IntKind.i64.wrap (S * 355) = S * 355 := wrap_in _ ⟨by omega, by omega⟩
  have d1 : (S * 333).tdiv 318 = cbL S := Int.tdiv_eq_ediv_of_nonneg (by omega)
  have w4 : IntKind.i64.wrap (cbL S) = cbL S := wrap_in _ ⟨by unfold cbL; omega, by unfold cbL; omega⟩
  have UP : ∀ W, Calls Try.prog 52 #[.int .i64 (S * 355), .int .i64 339] W fun e w' => e = .returned (.int .i64 (cbH S)) ∧ w' = W := fun W => by
    have := cup_any (S * 355) 339 W (by omega) (by omega)
    rwa [show S * 355 + 339 - 1 = S * 355 + 338 by omega] at this
  have HU := Lib.hid UP; clear UP
  generalize hL : cbL S = L at *
  generalize cbH S = H at *
  have HL := Lib.hid hL; clear hL hS
  go_enter Try.func24, Try.ntmps24
  go_wp2_with fail
  refine (H1.out _ (bel_alloc (Below.refl _ _))).mono ?_
  rintro e w1 ⟨rfl, gg⟩
  replace T0 := Lib.hid (T0.out.below gg)
  have X1 := Lib.hid (bel_alloc gg); clear gg
  obtain ⟨z0, z1, f0, f1, hlt⟩ := T0.out
  go_wp2_with fail
  refine (HU.out _).mono ?_
  rintro e w3 ⟨rfl, gg⟩
  subst gg
  go_wp2
  obtain ⟨t0, t1⟩ := two_read w3 w.heap.size (.int .i64 L) (.int .i64 H) z0 z1
  refine bodyPost_ret (v := .tuple #[.agg #[.int .i64 L, .int .i64 H], .int .i64 0]) (by simp [results, Try.results24, go_sem, t0, t1]) rfl ?_
  exact ⟨rfl, (X1.out.setCell (Nat.le_refl _) _).setCell (Nat.le_refl _) _⟩
theorem cSpc_any (v : Value) (l : List (Int × Int)) (w : World) (hv : Pts w v l) :
    Calls Try.prog 24 #[v] w fun e w' => e = .returned (.tuple #[.agg #[.int .i64 (spL l), .int .i64 (spH l)], .int .i64 (ckE l)]) ∧ Below w.heap.size w w' := by
  have HC : Hid (∀ W, Below w.heap.size w W → _) := Lib.hid fun W hW => cFru_any v l W (hv.below hW)
  unfold spL spH
  by_cases h : ckE l = 0
  · have hR := (ckE_iff l).1 h
    rw [if_pos h, if_pos h, h]
    unfold fuQ at HC
    rw [if_pos h, h] at HC
    exact spc_ok v (frS l) w (frS_bd hR) HC
  · rw [if_neg h, if_neg h]
    exact spc_bad v _ _ w (by simpa using h) (by simpa using h) HC
end Go.Proofs.Ytmdpdpbkbakidaa
