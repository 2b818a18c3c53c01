/- Texts that the proofs of this seat share, one behind the other: EPM, EMG, ELV, EBW, KRA, ERC, ERS, ERT, ERA, ERB, ERU, EAX, LEB, SC, EAW, EFO, PO0, KO, EOZ. -/
import Derived.Test.YtmdpdpbkbakidaaGreatM3
import Derived.Lib.JoinLaws
import Derived.Sort.OwnSortedInts
import Derived.Test.YtmdpdpbkbakidaaGreatM2
import Derived.Test.YtmdpdpbkbakidaaGreatM1
import Derived.BigQuiet
import Derived.Deep.RegionHeld3
import Derived.Deep.RegionLaw
import Derived.Maps.AppendAt
import Derived.Test.YtmdpdpbkbakidaaGreatShelf
import Derived.Laws.IdiomCopy
import Derived.Test.YtmdpdpbkbakidaaGreatRows
import Derived.ProofKit
import Derived.OpenShut
import Derived.ShutString
import Derived.ChangeOld
import Derived.Lib.SmallJoins
import Derived.MakeChecks
import Derived.Deep.Slices
import Derived.Deep.Fields
import Derived.ChangeSame
import Derived.Deep.SlicePairs

set_option linter.unusedVariables false
set_option linter.unusedSimpArgs false

/- slices.Concat of two lists that hold something. -/
namespace Go.Proofs.YtmdpdpbkbakidaaGreat
open Go.RowKit

theorem nums_cell (w : World) (b o m k : Nat) (zs : List Int) (hc : ∀ j, j < zs.length → w.cell? ⟨b, o + j, none⟩ = some (.int .i64 (zs.getD j 0))) : ∀ j u, (zs.map (Value.int .i64))[j]? = some u → w.cell? ((⟨b, o, none⟩ : Addr).add j) = some u := by
  intro j u hj
  have hl : j < zs.length := by
    rcases Nat.lt_or_ge j zs.length with h' | h'
    · exact h'
    · rw [List.getElem?_eq_none (by simpa using h')] at hj; cases hj
  rw [List.getElem?_map, List.getElem?_eq_getElem hl] at hj
  simp only [Option.map_some, Option.some.injEq] at hj
  rw [Go.WideShapes.add_plain, hc j hl, ← hj, List.getD_eq_getElem?_getD, List.getElem?_eq_getElem hl, Option.getD_some]
theorem map_one (zs : List Int) : ∀ u ∈ zs.map (Value.int .i64), u.oneCell' = true := by
  intro u hu
  obtain ⟨z, _, rfl⟩ := List.mem_map.1 hu
  rfl
theorem own_joined {w' : World} {B n m : Nat} {v' : Value} {zs xs : List Int} (hn : zs.length = n) (hm : xs.length = m) (h : w'.ownsRow B 3 1 v' (n + m) (zs.map (Value.int .i64) ++ xs.map (Value.int .i64))) : OwnI w' B v' (zs ++ xs) := by
  unfold OwnI
  rw [List.length_append, List.map_append, hn, hm]
  exact h
set_option maxRecDepth 100000 in
set_option maxHeartbeats 16000000 in
theorem concat_some (bk ok ck b1 o1 m1 k1 b2 o2 m2 k2 : Nat) (z1 z2 : List Int) (w : World) (hbk : bk < w.heap.size) (hb1 : b1 < w.heap.size) (hb2 : b2 < w.heap.size) (l1 : z1.length = m1) (l2 : z2.length = m2) (m10 : 1 ≤ m1) (m11 : m1 ≤ 1000) (m21 : m2 ≤ 1000)
    (c0 : w.cell? ⟨bk, ok, none⟩ = some (.slice (some ⟨b1, o1, none⟩) m1 k1)) (c1 : w.cell? ⟨bk, ok + 1, none⟩ = some (.slice (some ⟨b2, o2, none⟩) m2 k2))
    (h1 : Hid (∀ j, j < z1.length → w.cell? ⟨b1, o1 + j, none⟩ = some (.int .i64 (z1.getD j 0)))) (h2 : Hid (∀ j, j < z2.length → w.cell? ⟨b2, o2 + j, none⟩ = some (.int .i64 (z2.getD j 0)))) :
    Calls Tryz.prog 53 #[.slice (some ⟨bk, ok, none⟩) 2 ck] w fun e w' => ∃ u, e = .returned u ∧ OwnI w' w.heap.size u (z1 ++ z2) ∧ Below w.heap.size w w' := by
  obtain ⟨i0, hi, hz0, hz1, hz2⟩ := info_parts info_int
  replace hi := Lib.hid hi
  replace hz0 := Lib.hid hz0
  replace hz1 := Lib.hid hz1
  replace hz2 := Lib.hid hz2
  have e1 : IntKind.i64.wrap (m1 : Int) = (m1 : Int) := wrap_in _ ⟨by omega, by omega⟩
  have e2 : IntKind.i64.wrap ((m1 : Int) + (m2 : Int)) = (m1 : Int) + (m2 : Int) := wrap_in _ ⟨by omega, by omega⟩
  have p1 : decide ((m1 : Int) < 0) = false := decide_eq_false (by omega)
  have p2 : decide ((m1 : Int) + (m2 : Int) < 0) = false := decide_eq_false (by omega)
  have q1 : ¬ (m1 : Int) < 0 := by omega
  have q2 : ¬ (m1 : Int) + (m2 : Int) < 0 := by omega
  have HG := grow_nil (m1 + m2) w (by omega) (by omega)
  rw [show ((m1 + m2 : Nat) : Int) = (m1 : Int) + (m2 : Int) from by omega] at HG
  replace HG := Lib.hid HG
  replace l1 := Lib.hid l1
  replace l2 := Lib.hid l2
  go_enter Tryz.func53, Tryz.ntmps53
  go_wp2_with fail
  go_loopw [3, 5, 11] (fun s _ ii wr => w = wr ∧ ((ii = .int .i64 0 ∧ s = .int .i64 0) ∨ (ii = .int .i64 1 ∧ s = .int .i64 m1) ∨ (ii = .int .i64 2 ∧ s = .int .i64 ((m1 : Int) + (m2 : Int))))) (fun _ _ ii _ => 2 - (intOf ii).toNat)
  case atStart => exact ⟨rfl, .inl ⟨rfl, rfl⟩⟩
  case round =>
    obtain ⟨rfl, ⟨rfl, rfl⟩ | ⟨rfl, rfl⟩ | ⟨rfl, rfl⟩⟩ := hrel
    · go_wp2
      go_roundw
      case rel => exact ⟨by first | rfl | trivial, .inr (.inl ⟨by go_num, by first | rfl | simp⟩)⟩
      case measure => simp [intOf]
    · go_wp2
      go_roundw
      case rel => exact ⟨by first | rfl | trivial, .inr (.inr ⟨by go_num, by first | rfl | simp⟩)⟩
      case measure => simp [intOf]
    · go_wp2_with fail
      refine HG.out.mono ?_
      rintro e w3 ⟨u3, rfl, ho, hb⟩
      have O3 := Lib.hid ho
      have B3 := Lib.hid hb
      clear ho hb HG
      go_wp2_with fail
      go_loopw [6, 8, 27] (fun v _ ii wr => Hid (Below w.heap.size w wr) ∧ ((ii = .int .i64 0 ∧ Hid (OwnI wr w.heap.size v [])) ∨ (ii = .int .i64 1 ∧ Hid (OwnI wr w.heap.size v z1)) ∨ (ii = .int .i64 2 ∧ Hid (OwnI wr w.heap.size v (z1 ++ z2))))) (fun _ _ ii _ => 2 - (intOf ii).toNat)
      case atStart => exact ⟨B3, .inl ⟨rfl, O3⟩⟩
      case round =>
        obtain ⟨hB, ⟨rfl, hO⟩ | ⟨rfl, hO⟩ | ⟨rfl, hO⟩⟩ := hrel
        · have d0 : wr.cell? ⟨bk, ok, none⟩ = some (.slice (some ⟨b1, o1, none⟩) m1 k1) := by rw [(bcell hB.out).1 _ _ hbk]; exact c0
          have CN := Lib.hid (nums_cell wr b1 o1 m1 k1 z1 (fun j hj => by rw [(bcell hB.out).1 _ _ hb1]; exact h1.out j hj))
          have OA := hO
          unfold OwnI at OA
          have HS := Lib.hid hB.out.size
          go_wp2_with (at_builtin; refine wpList_append_own_at _ rfl _ _ 25 rfl w.heap.size 3 i0 (.int .i64 0) 1 8 Tryz.underlying25 hi.out hz0.out hz1.out hz2.out rfl (by omega) _ _ _ rfl OA.out ⟨b1, o1, none⟩ m1 k1 (z1.map (Value.int .i64)) rfl ?qd3 CN.out (map_one z1) ?qd4 ?qd5 HS.out ?_)
          case qd3 => rw [List.length_map, l1.out]; omega
          case qd4 => simp; unfold maxLen; omega
          case qd5 => simp; omega
          intro v2 w2 hown3 hgrow _ _
          have SN : Hid (OwnI w2 w.heap.size v2 z1) := Lib.hid (by unfold OwnI; rw [l1.out]; exact hown3)
          have B2 := Lib.hid (hB.out.grown hgrow HS.out (fun q hq => (World.ownsRow.lt hO.out q hq).1))
          clear hown3 hgrow OA CN
          go_wp2
          go_roundw
          case rel => exact ⟨B2, .inr (.inl ⟨by go_num, SN⟩)⟩
          case measure => simp [intOf]
        · have d0 : wr.cell? ⟨bk, ok + 1, none⟩ = some (.slice (some ⟨b2, o2, none⟩) m2 k2) := by rw [(bcell hB.out).1 _ _ hbk]; exact c1
          have CN := Lib.hid (nums_cell wr b2 o2 m2 k2 z2 (fun j hj => by rw [(bcell hB.out).1 _ _ hb2]; exact h2.out j hj))
          have OA := hO
          unfold OwnI at OA
          rw [l1.out] at OA
          have HS := Lib.hid hB.out.size
          go_wp2_with (at_builtin; refine wpList_append_own_at _ rfl _ _ 25 rfl w.heap.size 3 i0 (.int .i64 0) 1 8 Tryz.underlying25 hi.out hz0.out hz1.out hz2.out rfl (by omega) _ _ _ rfl OA.out ⟨b2, o2, none⟩ m2 k2 (z2.map (Value.int .i64)) rfl ?qd3 CN.out (map_one z2) ?qd4 ?qd5 HS.out ?_)
          case qd3 => rw [List.length_map, l2.out]; omega
          case qd4 => unfold maxLen; omega
          case qd5 => omega
          intro v2 w2 hown3 hgrow _ _
          have SN : Hid (OwnI w2 w.heap.size v2 (z1 ++ z2)) := Lib.hid (own_joined l1.out l2.out hown3)
          have B2 := Lib.hid (hB.out.grown hgrow HS.out (fun q hq => (World.ownsRow.lt hO.out q hq).1))
          clear hown3 hgrow OA CN
          go_wp2
          go_roundw
          case rel => exact ⟨B2, .inr (.inr ⟨by go_num, SN⟩)⟩
          case measure => simp [intOf]
        · go_wp2
          go_returns
          exact ⟨_, rfl, hO.out, hB.out⟩
set_option maxRecDepth 100000 in
set_option maxHeartbeats 16000000 in
theorem concat_nil (bk ok ck b1 o1 m1 k1 k2 : Nat) (z1 : List Int) (w : World) (hbk : bk < w.heap.size) (hb1 : b1 < w.heap.size) (l1 : z1.length = m1) (m10 : 1 ≤ m1) (m11 : m1 ≤ 1000)
    (c0 : w.cell? ⟨bk, ok, none⟩ = some (.slice (some ⟨b1, o1, none⟩) m1 k1)) (c1 : w.cell? ⟨bk, ok + 1, none⟩ = some (.slice none 0 k2))
    (h1 : Hid (∀ j, j < z1.length → w.cell? ⟨b1, o1 + j, none⟩ = some (.int .i64 (z1.getD j 0)))) :
    Calls Tryz.prog 53 #[.slice (some ⟨bk, ok, none⟩) 2 ck] w fun e w' => ∃ u, e = .returned u ∧ OwnI w' w.heap.size u z1 ∧ Below w.heap.size w w' := by
  obtain ⟨i0, hi, hz0, hz1, hz2⟩ := info_parts info_int
  replace hi := Lib.hid hi
  replace hz0 := Lib.hid hz0
  replace hz1 := Lib.hid hz1
  replace hz2 := Lib.hid hz2
  have e1 : IntKind.i64.wrap (m1 : Int) = (m1 : Int) := wrap_in _ ⟨by omega, by omega⟩
  have p1 : decide ((m1 : Int) < 0) = false := decide_eq_false (by omega)
  have q1 : ¬ (m1 : Int) < 0 := by omega
  have HG := grow_nil m1 w (by omega) (by omega)
  replace HG := Lib.hid HG
  replace l1 := Lib.hid l1
  go_enter Tryz.func53, Tryz.ntmps53
  go_wp2_with fail
  go_loopw [3, 5, 11] (fun s _ ii wr => w = wr ∧ ((ii = .int .i64 0 ∧ s = .int .i64 0) ∨ (ii = .int .i64 1 ∧ s = .int .i64 m1) ∨ (ii = .int .i64 2 ∧ s = .int .i64 (m1 : Int)))) (fun _ _ ii _ => 2 - (intOf ii).toNat)
  case atStart => exact ⟨rfl, .inl ⟨rfl, rfl⟩⟩
  case round =>
    obtain ⟨rfl, ⟨rfl, rfl⟩ | ⟨rfl, rfl⟩ | ⟨rfl, rfl⟩⟩ := hrel
    · go_wp2
      go_roundw
      case rel => exact ⟨by first | rfl | trivial, .inr (.inl ⟨by go_num, by first | rfl | simp⟩)⟩
      case measure => simp [intOf]
    · go_wp2
      go_roundw
      case rel => exact ⟨by first | rfl | trivial, .inr (.inr ⟨by go_num, by first | rfl | simp⟩)⟩
      case measure => simp [intOf]
    · go_wp2_with fail
      refine HG.out.mono ?_
      rintro e w3 ⟨u3, rfl, ho, hb⟩
      have O3 := Lib.hid ho
      have B3 := Lib.hid hb
      clear ho hb HG
      go_wp2_with fail
      go_loopw [6, 8, 27] (fun v _ ii wr => Hid (Below w.heap.size w wr) ∧ ((ii = .int .i64 0 ∧ Hid (OwnI wr w.heap.size v [])) ∨ (ii = .int .i64 1 ∧ Hid (OwnI wr w.heap.size v z1)) ∨ (ii = .int .i64 2 ∧ Hid (OwnI wr w.heap.size v z1)))) (fun _ _ ii _ => 2 - (intOf ii).toNat)
      case atStart => exact ⟨B3, .inl ⟨rfl, O3⟩⟩
      case round =>
        obtain ⟨hB, ⟨rfl, hO⟩ | ⟨rfl, hO⟩ | ⟨rfl, hO⟩⟩ := hrel
        · have d0 : wr.cell? ⟨bk, ok, none⟩ = some (.slice (some ⟨b1, o1, none⟩) m1 k1) := by rw [(bcell hB.out).1 _ _ hbk]; exact c0
          have CN := Lib.hid (nums_cell wr b1 o1 m1 k1 z1 (fun j hj => by rw [(bcell hB.out).1 _ _ hb1]; exact h1.out j hj))
          have OA := hO
          unfold OwnI at OA
          have HS := Lib.hid hB.out.size
          go_wp2_with (at_builtin; refine wpList_append_own_at _ rfl _ _ 25 rfl w.heap.size 3 i0 (.int .i64 0) 1 8 Tryz.underlying25 hi.out hz0.out hz1.out hz2.out rfl (by omega) _ _ _ rfl OA.out ⟨b1, o1, none⟩ m1 k1 (z1.map (Value.int .i64)) rfl ?qd3 CN.out (map_one z1) ?qd4 ?qd5 HS.out ?_)
          case qd3 => rw [List.length_map, l1.out]; omega
          case qd4 => simp; unfold maxLen; omega
          case qd5 => simp; omega
          intro v2 w2 hown3 hgrow _ _
          have SN : Hid (OwnI w2 w.heap.size v2 z1) := Lib.hid (by unfold OwnI; rw [l1.out]; exact hown3)
          have B2 := Lib.hid (hB.out.grown hgrow HS.out (fun q hq => (World.ownsRow.lt hO.out q hq).1))
          clear hown3 hgrow OA CN
          go_wp2
          go_roundw
          case rel => exact ⟨B2, .inr (.inl ⟨by go_num, SN⟩)⟩
          case measure => simp [intOf]
        · have d0 : wr.cell? ⟨bk, ok + 1, none⟩ = some (.slice none 0 k2) := by rw [(bcell hB.out).1 _ _ hbk]; exact c1
          have hz := l1.out
          obtain ⟨g, cp, rfl, hg, hgs, hcp, hcp2, _⟩ := hO.out.form (by omega)
          rw [hz] at hO hcp ⊢
          clear hz
          go_wp2_with (at_builtin; refine wpList_append_room1 _ rfl _ _ 25 25 rfl 3 (.int .i64 0) 8 Tryz.underlying25 info_int g 0 m1 cp rfl _ rfl 0 [] (Src.ofNil Tryz.underlying25 _) (by omega) (fun j hj => by simp at hj) (fun j hj => by simp at hj) ?_)
          go_wp2
          go_roundw
          case rel => exact ⟨hB, .inr (.inr ⟨by go_num, hO⟩)⟩
          case measure => simp [intOf]
        · go_wp2
          go_returns
          exact ⟨_, rfl, hO.out, hB.out⟩
end Go.Proofs.YtmdpdpbkbakidaaGreat

/- Package standing: merge. -/
namespace Go.Proofs.YtmdpdpbkbakidaaGreat
open Go.RowKit Go.Sort Go.Lib

theorem own_put {w : World} {B g cap k q : Nat} {e : TypeId} {cur : Array Value} {ts : List Int} (hbase : B ≤ g) (hb : w.heap[g]? = some (.cells cur e (0, 0))) (h1 : ts.length ≤ cap) (h2 : cap ≤ maxLen) (h3 : cur.size = cap * 1) (hk : k ≤ ts.length) :
    (putRow (Value.int .i64) (Sort.ahead w q) g 0 ts.toArray).ownsRow B e 1 (.slice (some ⟨g, 0, none⟩) k cap) k ((ts.take k).map (Value.int .i64)) := by
  have h := ownsRow_sortedI (n := q) (os := #[]) (ss := ts) (ts := ts) rfl hbase hb h1 h2 h3
  rw [grow_empty] at h
  obtain ⟨_, h | ⟨g', cap', cur', hv, hg, hh, a1, a2, a3, a4⟩⟩ := h
  · cases h.1
  · simp only [Value.slice.injEq, Option.some.injEq, Addr.mk.injEq, and_true, true_and] at hv
    obtain ⟨rfl, rfl⟩ := hv
    refine ⟨by simp; omega, .inr ⟨g, cap, cur', rfl, hbase, hh, by omega, h2, a3, ?_⟩⟩
    rw [Nat.mul_one] at a4 ⊢
    rw [List.map_take, ← a4, List.take_take, Nat.min_eq_left hk]
theorem put_grown {w : World} {g q : Nat} {os : Array Obj} (d : Array Int) : w.grownBy (grow (putRow (Value.int .i64) (Sort.ahead w q) g 0 d) os) (some g) := grownBy_sortedI d
set_option maxRecDepth 100000 in
set_option maxHeartbeats 8000000 in
theorem stMrg_core (bk ck : Nat) (zs : List Int) (w : World) (z0 : 1 ≤ zs.length) (z1 : zs.length ≤ 2000)
    (H1 : Hid (Calls Tryz.prog 53 #[.slice (some ⟨bk, 0, none⟩) 2 ck] w fun e w' => ∃ u, e = .returned u ∧ OwnI w' w.heap.size u zs ∧ Below w.heap.size w w')) :
    Calls Tryz.prog 31 #[.slice (some ⟨bk, 0, none⟩) 2 ck] w fun e w' => ∃ u, e = .returned u ∧ OwnI w' w.heap.size u (mrgI zs) ∧ Below w.heap.size w w' := by
  go_enter Tryz.func31, Tryz.ntmps31
  go_wp2_with fail
  refine H1.out.mono ?_
  rintro e w1 ⟨u, rfl, hO, hB⟩
  obtain ⟨_, ⟨_, h0⟩ | ⟨g, cap, cur, rfl, hg, hb, h1, h2, h3, h4⟩⟩ := hO
  · omega
  have X1 := Lib.hid hB
  have hgl : g < w1.heap.size := (Array.getElem?_eq_some_iff.1 hb).1
  have hH : Holds (Value.int .i64) w1 g 0 zs.toArray := holds_of_blockI hb (by simpa using h4)
  have HS := Lib.hid (Tryz.slices_Sort_int g 0 cap zs w1 hH hgl (by omega))
  have hl := srt_len zs
  obtain ⟨mf1, mf2, mf3⟩ := mrg_facts zs
  have HK : Hid (∀ q os, w1.heap.size ≤ (grow (putRow (Value.int .i64) (Sort.ahead w1 q) g 0 (srtI zs).toArray) os).heap.size ∧ (grow (putRow (Value.int .i64) (Sort.ahead w1 q) g 0 (srtI zs).toArray) os).heap[g]? = some (.cells (putCells (Value.int .i64) 0 (srtI zs).toArray cur) 3 (0, 0))) := Lib.hid fun q os => ⟨(grownBy_sortedI (srtI zs).toArray).size, heap_sortedI (srtI zs).toArray hb⟩
  have X2 : Hid (∀ q os, Below w.heap.size w (grow (putRow (Value.int .i64) (Sort.ahead w1 q) g 0 (srtI zs).toArray) os)) := Lib.hid fun q os => X1.out.grown (grownBy_sortedI (srtI zs).toArray) X1.out.size (fun k hk => by cases hk; exact hg)
  have PC : Hid ((putCells (Value.int .i64) 0 (srtI zs).toArray cur).size = cap * 1 ∧ (putCells (Value.int .i64) 0 (srtI zs).toArray cur).toList.take (srtI zs).length = (srtI zs).map (Value.int .i64)) := Lib.hid ⟨by simp [putCells, h3], take_putCellsI cur (srtI zs) (by omega)⟩
  have HG := Lib.hid hg
  have HL := Lib.hid hl
  have HM := Lib.hid mf3
  clear hB h4 hb hH hg mf1 mf2 mf3 hl
  generalize hn : zs.length = n at *
  replace hn := Lib.hid hn
  go_wp2_with fail
  refine HS.out.mono ?_
  rintro e w2 ⟨rfl, q, os, hw2⟩
  have HW := Lib.hid hw2
  clear hw2
  have X3 : Hid (Below w.heap.size w w2) := Lib.hid (by rw [HW.out]; exact X2.out q os)
  have hb2 : w2.heap[g]? = some (.cells (putCells (Value.int .i64) 0 (srtI zs).toArray cur) 3 (0, 0)) := by rw [HW.out]; exact (HK.out q os).2
  have hH2 : Holds (Value.int .i64) w2 g 0 (srtI zs).toArray := holds_of_blockI hb2 PC.out.2
  have HC := Tryz.slices_Compact_int g 0 cap (srtI zs) w2 hH2 (by rw [HL.out]; omega) (by rw [HL.out]; omega)
  rw [HL.out] at HC
  replace HC := Lib.hid HC
  replace hb2 := Lib.hid hb2
  clear hH2 HW
  go_wp2_with fail
  refine HC.out.mono ?_
  rintro e w3 ⟨rfl, q3, hw3⟩
  have HW := Lib.hid hw3
  clear hw3
  go_wp2
  go_returns
  refine ⟨_, rfl, ?_, ?_⟩
  · have hlen : (mrgI zs ++ List.replicate (n - (mrgI zs).length) 0).length = n := by rw [List.length_append, List.length_replicate]; have := HM.out; omega
    have := own_put (q := q3) (k := (mrgI zs).length) (ts := mrgI zs ++ List.replicate (n - (mrgI zs).length) 0) HG.out hb2.out (by omega) h2 PC.out.1 (by rw [hlen]; exact HM.out)
    rw [List.take_append_of_le_length (Nat.le_refl _), List.take_length] at this
    rw [HW.out]
    exact this
  · have hg3 := put_grown (w := w2) (g := g) (q := q3) (os := #[]) (mrgI zs ++ List.replicate (n - (mrgI zs).length) 0).toArray
    rw [grow_empty] at hg3
    rw [HW.out]
    exact X3.out.grown hg3 X3.out.size (fun k hk => by cases hk; exact HG.out)
end Go.Proofs.YtmdpdpbkbakidaaGreat

/- Package standing: Levels. -/
namespace Go.Proofs.YtmdpdpbkbakidaaGreat
open Go.RowKit

theorem ownI_below {w w' : World} {B : Nat} {v : Value} {zs : List Int} (h : OwnI w B v zs) (hb : Below w.heap.size w w') : OwnI w' B v zs := by
  obtain ⟨h1, h2|⟨g, cap, cur, rfl, hg, hh, r⟩⟩ := h
  · exact ⟨h1, .inl h2⟩
  · exact ⟨h1, .inr ⟨g, cap, cur, rfl, hg, by rw [hb.block _ (Array.getElem?_eq_some_iff.1 hh).1]; exact hh, r⟩⟩
theorem stLv_bad (v : Value) (E X d n : Int) (w : World) (e1 : (E == 0) = false) (e2 : (E != 0) = true)
    (H1 : Hid (Calls Tryz.prog 30 #[v] w fun e w' => e = .returned (.tuple #[.int .i64 X, .int .i64 E]) ∧ Below w.heap.size w w')) :
    Calls Tryz.prog 17 #[v, .int .i64 d, .int .i64 n] w fun e w' => e = .returned (.tuple #[.slice none 0 0, .int .i64 1]) ∧ Below w.heap.size w w' := by
  go_enter Tryz.func17, Tryz.ntmps17
  go_wp2_with fail
  refine H1.out.mono ?_
  rintro e w1 ⟨rfl, gg⟩
  have X1 := Lib.hid gg; clear gg
  go_wp2
  go_returns
  exact ⟨rfl, X1.out⟩
theorem stLv_rng (v : Value) (X d n : Int) (w : World) (h : d < 0 ∨ (¬ d < 0 ∧ X < d) ∨ (¬ d < 0 ∧ ¬ X < d ∧ n < 1) ∨ (¬ d < 0 ∧ ¬ X < d ∧ ¬ n < 1 ∧ 64 < n))
    (H1 : Hid (Calls Tryz.prog 30 #[v] w fun e w' => e = .returned (.tuple #[.int .i64 X, .int .i64 0]) ∧ Below w.heap.size w w')) :
    Calls Tryz.prog 17 #[v, .int .i64 d, .int .i64 n] w fun e w' => e = .returned (.tuple #[.slice none 0 0, .int .i64 2]) ∧ Below w.heap.size w w' := by
  rcases h with h | ⟨h, h1⟩ | ⟨h, h1, h2⟩ | ⟨h, h1, h2, h3⟩
  all_goals
    go_enter Tryz.func17, Tryz.ntmps17
    go_wp2_with fail
    refine H1.out.mono ?_
    rintro e w1 ⟨rfl, gg⟩
    have X1 := Lib.hid gg; clear gg
  · have d1 : decide (d < 0) = true := decide_eq_true h
    go_wp2
    go_returns
    exact ⟨rfl, X1.out⟩
  · have d1 : decide (d < 0) = false := decide_eq_false (by omega)
    have d2 : decide (X < d) = true := decide_eq_true h1
    go_wp2
    go_returns
    exact ⟨rfl, X1.out⟩
  · have d1 : decide (d < 0) = false := decide_eq_false (by omega)
    have d2 : decide (X < d) = false := decide_eq_false (by omega)
    have d3 : decide (n < 1) = true := decide_eq_true h2
    go_wp2
    go_returns
    exact ⟨rfl, X1.out⟩
  · have d1 : decide (d < 0) = false := decide_eq_false (by omega)
    have d2 : decide (X < d) = false := decide_eq_false (by omega)
    have d3 : decide (n < 1) = false := decide_eq_false (by omega)
    have d4 : decide (64 < n) = true := decide_eq_true h3
    go_wp2
    go_returns
    exact ⟨rfl, X1.out⟩
set_option maxHeartbeats 8000000 in
set_option maxRecDepth 100000 in
theorem stLv_ok (b off m cap : Nat) (l : List (Int × Int)) (X d : Int) (n : Nat) (w : World) (m1 : m ≤ 1000) (hcap : m ≤ cap) (hb : b < w.heap.size) (hm : Hid (m = l.length)) (d0 : 0 ≤ d) (d1 : d ≤ X) (d2 : d ≤ 100000) (n0 : 1 ≤ n) (n1 : n ≤ 64)
    (hc : Hid (∀ j, j < m → w.cell? ⟨b, off + j * 2, none⟩ = some (.int .i64 (gX l j)) ∧ w.cell? ⟨b, off + j * 2 + 1, none⟩ = some (.int .i64 (gR l j))))
    (H1 : Hid (Calls Tryz.prog 30 #[.slice (some ⟨b, off, none⟩) m cap] w fun e w' => e = .returned (.tuple #[.int .i64 X, .int .i64 0]) ∧ Below w.heap.size w w')) :
    Calls Tryz.prog 17 #[.slice (some ⟨b, off, none⟩) m cap, .int .i64 d, .int .i64 n] w fun e w' => ∃ u, e = .returned (.tuple #[u, .int .i64 0]) ∧ Nums w' u (lvL l d n) ∧ Below w.heap.size w w' := by
  have g1 : decide (d < 0) = false := decide_eq_false (by omega)
  have g2 : decide (X < d) = false := decide_eq_false (by omega)
  have g3 : decide ((n : Int) < 1) = false := decide_eq_false (by omega)
  have g4 : decide (64 < (n : Int)) = false := decide_eq_false (by omega)
  have HM : Hid (∀ W, _) := Lib.hid fun W => stMul_any d n W d0 d2 n0 n1
  have HB : Hid (∀ W, Below w.heap.size w W → _) := Lib.hid fun W hW => stBel_some b off m cap l d W m1 hcap (Nat.lt_of_lt_of_le hb hW.size) (Lib.hid fun j hj => ⟨by rw [(bcell hW).1 _ _ hb]; exact (hc.out j hj).1, by rw [(bcell hW).1 _ _ hb]; exact (hc.out j hj).2⟩)
  have HT : Hid (∀ (W : World) (u v : Value) (B1 B2 : Nat), OwnI W B1 u ((List.range (n + 1)).map (muF d n)) → OwnI W B2 v (blS l d m) → Calls Tryz.prog 31 #[.slice (some ⟨W.heap.size, 0, none⟩) 2 2] (W.alloc (.cells #[u, v] 25)) fun e w' => ∃ z, e = .returned z ∧ Nums w' z (lvL l d n) ∧ Below W.heap.size W w') := Lib.hid fun W u v B1 B2 hu hv => by
    have bl := blS_len l d m
    have l1 : ((List.range (n + 1)).map (muF d n)).length = n + 1 := by rw [List.length_map, List.length_range]
    have hbk : W.heap.size < (W.alloc (.cells #[u, v] 25)).heap.size := by simp
    have H := stMrg_core W.heap.size 2 ((List.range (n + 1)).map (muF d n) ++ blS l d m) (W.alloc (.cells #[u, v] 25)) (by rw [List.length_append, l1]; omega) (by rw [List.length_append, l1]; omega) (Lib.hid ?_)
    · refine H.mono ?_
      rintro e w' ⟨z, rfl, hO, hb⟩
      refine ⟨z, rfl, ?_, bel_alloc hb⟩
      unfold lvL
      rw [← hm.out]
      exact hO.nums
    · obtain ⟨g, cp, rfl, hg, hgs, hcp, hcp2, hcell⟩ := hu.form (by rw [l1]; omega)
      have h1 : Hid (∀ j, j < ((List.range (n + 1)).map (muF d n)).length → (W.alloc (.cells #[.slice (some ⟨g, 0, none⟩) ((List.range (n + 1)).map (muF d n)).length cp, v] 25)).cell? ⟨g, 0 + j, none⟩ = some (.int .i64 (((List.range (n + 1)).map (muF d n)).getD j 0))) := Lib.hid fun j hj => by rw [World.cell?_alloc_lt W _ _ hgs, Nat.zero_add]; exact hcell j hj
      obtain ⟨hl2, hv2⟩ := hv
      rcases hv2 with ⟨rfl, h0⟩ | ⟨g2, cp2, cur, rfl, hg2, hh2, k1, k2, k3, k4⟩
      · have hz : blS l d m = [] := List.length_eq_zero_iff.1 h0
        rw [hz, List.append_nil]
        rw [show (blS l d m).length = 0 from h0] at *
        exact concat_nil W.heap.size 0 2 g 0 _ cp 0 _ _ hbk (by simp; omega) l1 (by omega) (by omega) (by simp [go_sem, l1]) (by simp [go_sem]) h1
      · have gl2 : g2 < W.heap.size := (Array.getElem?_eq_some_iff.1 hh2).1
        have c2 : ∀ j, j < (blS l d m).length → W.cell? ⟨g2, 0 + j, none⟩ = some (.int .i64 ((blS l d m).getD j 0)) := fun j hj => by
          have hO : OwnI W B2 (.slice (some ⟨g2, 0, none⟩) (blS l d m).length cp2) (blS l d m) := ⟨hl2, .inr ⟨g2, cp2, cur, rfl, hg2, hh2, k1, k2, k3, k4⟩⟩
          obtain ⟨g', cp', e, _, _, _, _, hcc⟩ := hO.form (by omega)
          simp only [Value.slice.injEq, Option.some.injEq, Addr.mk.injEq, and_true, true_and] at e
          rw [Nat.zero_add, e.1]; exact hcc j hj
        exact concat_some W.heap.size 0 2 g 0 _ cp g2 0 _ cp2 _ _ _ hbk (by simp; omega) (by simp; omega) l1 rfl (by omega) (by omega) (by omega) (by simp [go_sem, l1]) (by simp [go_sem]) h1 (Lib.hid fun j hj => by rw [World.cell?_alloc_lt W _ _ gl2]; exact c2 j hj)
  clear hc
  generalize lvL l d n = LV at *
  generalize hM : (List.range (n + 1)).map (muF d n) = ML at *
  go_enter Tryz.func17, Tryz.ntmps17
  go_wp2_with fail
  refine H1.out.mono ?_
  rintro e w1 ⟨rfl, gg⟩
  have X1 := Lib.hid gg; clear gg
  go_wp2_with fail
  refine (HM.out _).mono ?_
  rintro e w2 ⟨u, rfl, hu, gg⟩
  have U1 := Lib.hid hu
  have X2 := Lib.hid (bel_trans X1.out gg); clear gg
  obtain ⟨a1, cp1, rfl, _, _⟩ := hu.nums
  clear hu
  generalize ML.length = K1 at *
  go_wp2_with fail
  refine (HB.out _ X2.out).mono ?_
  rintro e w3 ⟨v, rfl, hv, gg⟩
  have V1 := Lib.hid hv
  replace U1 := Lib.hid (ownI_below U1.out gg)
  have X3 := Lib.hid (bel_trans X2.out gg); clear gg
  obtain ⟨a2, cp2, rfl, _, _⟩ := hv.nums
  clear hv
  generalize (blS l d m).length = K2 at *
  go_wp2_with fail
  refine (HT.out _ _ _ _ _ U1.out V1.out).mono ?_
  rintro e w4 ⟨z, rfl, hz, gg⟩
  have Z1 := Lib.hid hz
  have X4 := Lib.hid (bel_trans X3.out gg); clear gg
  obtain ⟨a2, cap2, rfl, _, _⟩ := hz
  generalize LV.length = K at *
  go_wp2
  go_returns
  exact ⟨_, rfl, Z1.out, X4.out⟩
theorem stLv_any (v : Value) (l : List (Int × Int)) (d n : Int) (w : World) (hv : Pts w v l) :
    Calls Tryz.prog 17 #[v, .int .i64 d, .int .i64 n] w fun e w' => ∃ u, e = .returned (.tuple #[u, .int .i64 (lvsE l d n)]) ∧ Nums w' u (lvsL l d n) ∧ Below w.heap.size w w' := by
  have HL := Lib.hid (len_any v l w hv)
  unfold lvsL
  by_cases h : ckE l = 0
  · unfold lgQ at HL
    rw [if_pos h, h] at HL
    by_cases g : d < 0 ∨ gX l (l.length - 1) < d ∨ n < 1 ∨ 64 < n
    · have e : lvsE l d n = 2 := by unfold lvsE; rw [if_pos h, if_pos g]
      rw [e, if_neg (by omega)]
      refine (stLv_rng v _ d n w (by omega) HL).mono ?_
      rintro e w' ⟨rfl, hb⟩
      exact ⟨_, rfl, ⟨none, 0, rfl, by simp, .inl rfl⟩, hb⟩
    · have e : lvsE l d n = 0 := by unfold lvsE; rw [if_pos h, if_neg g]
      rw [e, if_pos rfl]
      have hR := (ckE_iff l).1 h
      have n0 := hR.n0
      have n1 := hR.n1
      obtain ⟨k, hk⟩ : ∃ k : Nat, n = k := ⟨n.toNat, by omega⟩
      subst hk
      have bx := hR.bx (l.length - 1) (by omega)
      obtain ⟨a, cap, rfl, hcap, hh⟩ := hv
      rcases hh with h0 | ⟨b, off, rfl, hb, hc⟩
      · omega
      · exact stLv_ok b off _ cap l _ d k w (by omega) hcap.1 hb rfl (by omega) (by omega) (by omega) (by omega) (by omega) (Lib.hid hc) HL
  · have e : lvsE l d n = 1 := by unfold lvsE; rw [if_neg h]
    rw [e, if_neg (by omega)]
    refine (stLv_bad v (ckE l) _ d n w (by simpa using h) (by simpa using h) HL).mono ?_
    rintro e w' ⟨rfl, hb⟩
    exact ⟨_, rfl, ⟨none, 0, rfl, by simp, .inl rfl⟩, hb⟩
end Go.Proofs.YtmdpdpbkbakidaaGreat

/- Package standing: Sums, Between, Wet. -/
namespace Go.Proofs.YtmdpdpbkbakidaaGreat
open Go.RowKit

theorem stSm_bad (nm : ByteArray) (cps dc E : Int) (a : Option Addr) (m cap : Nat) (u : Value) (w : World) (e1 : (E == 0) = false) (e2 : (E != 0) = true)
    (H1 : Hid (∀ W, Below w.heap.size w W → Calls Tryz.prog 19 #[.agg #[.string nm, .int .i64 cps, .slice a m cap, .int .i64 dc], u] W fun e w' => e = .returned (.int .i64 E) ∧ Below W.heap.size W w')) :
    Calls Tryz.prog 11 #[.agg #[.string nm, .int .i64 cps, .slice a m cap, .int .i64 dc], u] w fun e w' => e = .returned (.tuple #[.slice none 0 0, .int .i64 E]) ∧ Below w.heap.size w w' := by
  go_enter Tryz.func11, Tryz.ntmps11
  go_wp2_with fail
  refine (H1.out _ (bel_alloc (Below.refl _ _))).mono ?_
  rintro e w1 ⟨rfl, gg⟩
  have X1 := Lib.hid (bel_alloc gg); clear gg
  go_wp2
  go_returns
  exact ⟨rfl, X1.out⟩
theorem stSm_ok (nm : ByteArray) (cps dc : Int) (a : Option Addr) (m cap : Nat) (u : Value) (L : List (Int × Int)) (w : World)
    (H1 : Hid (∀ W, Below w.heap.size w W → Calls Tryz.prog 19 #[.agg #[.string nm, .int .i64 cps, .slice a m cap, .int .i64 dc], u] W fun e w' => e = .returned (.int .i64 0) ∧ Below W.heap.size W w'))
    (H2 : Hid (∀ W, Below w.heap.size w W → Calls Tryz.prog 24 #[.slice a m cap, u] W fun e w' => ∃ v, e = .returned v ∧ Pts w' v L ∧ Below W.heap.size W w')) :
    Calls Tryz.prog 11 #[.agg #[.string nm, .int .i64 cps, .slice a m cap, .int .i64 dc], u] w fun e w' => ∃ v, e = .returned (.tuple #[v, .int .i64 0]) ∧ Pts w' v L ∧ Below w.heap.size w w' := by
  have F0 := Lib.hid (Quad.new w (.string nm) (.int .i64 cps) (.slice a m cap) (.int .i64 dc) 24)
  go_enter Tryz.func11, Tryz.ntmps11
  go_wp2_with fail
  refine (H1.out _ (bel_alloc (Below.refl _ _))).mono ?_
  rintro e w1 ⟨rfl, gg⟩
  replace F0 := Lib.hid (F0.out.below gg)
  have X1 := Lib.hid (bel_alloc gg); clear gg
  obtain ⟨_, _, y2, _, _, _⟩ := F0.out
  go_wp2_with fail
  refine (H2.out _ X1.out).mono ?_
  rintro e w2 ⟨v, rfl, hv, gg⟩
  replace X1 := Lib.hid (bel_trans X1.out gg); clear gg y2
  have HV := Lib.hid hv
  obtain ⟨a2, cp2, rfl, _, _⟩ := hv.shape
  clear hv
  generalize L.length = K at *
  go_wp2
  go_returns
  exact ⟨_, rfl, HV.out, X1.out⟩
theorem stSm_any (v u : Value) (c : Ck) (ls : List Int) (w : World) (hv : CkV w v c) (hu : Nums w u ls) :
    Calls Tryz.prog 11 #[v, u] w fun e w' => ∃ z, e = .returned (.tuple #[z, .int .i64 (stE c ls)]) ∧ Pts w' z (smL c ls) ∧ Below w.heap.size w w' := by
  have H1 : Hid (∀ W, Below w.heap.size w W → _) := Lib.hid fun W hW => stChk_any v u c ls W (hv.below hW) (hu.below hW)
  unfold smL
  by_cases g : stE c ls = 0
  · obtain ⟨⟨h1, h2⟩, hL⟩ := stE_zero.1 g
    obtain ⟨_, _, _, hR⟩ := ccE_pf h1
    rw [if_pos g, g]
    rw [g] at H1
    obtain ⟨a, cap, rfl, hp, _⟩ := hv
    refine stSm_ok _ _ _ a _ cap u _ w H1 (Lib.hid fun W hW => ?_)
    have hu2 := hu.below hW
    have n0 := hL.n0
    have n1 := hL.n1
    obtain ⟨q, hq⟩ : ∃ q, ls.length = q + 1 := ⟨ls.length - 1, by omega⟩
    obtain ⟨a2, cap2, rfl, hcap, hh⟩ := hu2
    rcases hh with h0 | ⟨b, off, rfl, hb, hc⟩
    · omega
    · rw [hq, Nat.add_sub_cancel]
      refine stSums_some a _ cap b off q cap2 c.pf ls W (by omega) (by omega) (Lib.hid hq) hb (Lib.hid hR) (Lib.hid hL) (Lib.hid fun j hj => hc j (by omega)) (Lib.hid fun x W2 hW2 x0 x1 => ?_)
      have e0 : plE c.pf x = 0 := plE_zero.2 ⟨hR, x0, x1⟩
      have := At_any (.slice a c.pf.length cap) c.pf x W2 ((hp.below hW).below hW2)
      unfold atL atH at this
      rwa [if_pos e0, if_pos e0, e0] at this
  · rw [if_neg g]
    obtain ⟨a, cap, rfl, hp, _⟩ := hv
    refine (stSm_bad _ _ _ _ a _ cap u w (by simpa using g) (by simpa using g) H1).mono ?_
    rintro e w' ⟨rfl, hb⟩
    exact ⟨_, rfl, pts_nil _, hb⟩
theorem stBw_bad (nm : ByteArray) (cps dc E : Int) (a : Option Addr) (m cap : Nat) (u : Value) (w : World) (e1 : (E == 0) = false) (e2 : (E != 0) = true)
    (H1 : Hid (∀ W, Below w.heap.size w W → Calls Tryz.prog 11 #[.agg #[.string nm, .int .i64 cps, .slice a m cap, .int .i64 dc], u] W fun e w' => ∃ z, e = .returned (.tuple #[z, .int .i64 E]) ∧ Pts w' z [] ∧ Below W.heap.size W w')) :
    Calls Tryz.prog 7 #[.agg #[.string nm, .int .i64 cps, .slice a m cap, .int .i64 dc], u] w fun e w' => e = .returned (.tuple #[.agg #[.int .i64 0, .int .i64 0], .int .i64 E]) ∧ Below w.heap.size w w' := by
  have T0 := Lib.hid (Two.new (w.alloc (.cells #[.string nm, .int .i64 cps, .slice a m cap, .int .i64 dc] 24)) (.int .i64 0) (.int .i64 0) 29)
  rw [World.size_alloc] at T0
  go_enter Tryz.func7, Tryz.ntmps7
  go_wp2_with fail
  refine (H1.out _ (bel_alloc (bel_alloc (Below.refl _ _)))).mono ?_
  rintro e w1 ⟨z, rfl, hz, gg⟩
  replace T0 := Lib.hid (T0.out.below gg)
  have X1 := Lib.hid (bel_alloc (bel_alloc gg)); clear gg
  obtain ⟨a2, cp2, rfl, _, _⟩ := hz.shape
  clear hz
  obtain ⟨r0, r1, rf0, rf1, _⟩ := T0.out
  go_wp2
  obtain ⟨t0, t1⟩ := two_read w1 (w.heap.size + 1) (.int .i64 0) (.int .i64 0) r0 r1
  refine bodyPost_ret (v := .tuple #[.agg #[.int .i64 0, .int .i64 0], .int .i64 E]) (by simp [results, Tryz.results7, go_sem, t0, t1]) rfl ?_
  exact ⟨rfl, (X1.out.setCell (Nat.le_succ _) _).setCell (Nat.le_succ _) _⟩
set_option maxHeartbeats 4000000 in
theorem stBw_ok (nm : ByteArray) (cps dc lo hi : Int) (a : Option Addr) (m cap q : Nat) (u : Value) (L : List (Int × Int)) (w : World) (hq : Hid (L.length = q + 1)) (q1 : q ≤ 200) (hl : Hid (gX L q = lo ∧ gR L q = hi)) (b0 : 0 ≤ lo) (b1 : lo ≤ 3000000000000000) (b2 : 0 ≤ hi) (b3 : hi ≤ 3000000000000000)
    (H1 : Hid (∀ W, Below w.heap.size w W → Calls Tryz.prog 11 #[.agg #[.string nm, .int .i64 cps, .slice a m cap, .int .i64 dc], u] W fun e w' => ∃ z, e = .returned (.tuple #[z, .int .i64 0]) ∧ Pts w' z L ∧ Below W.heap.size W w')) :
    Calls Tryz.prog 7 #[.agg #[.string nm, .int .i64 cps, .slice a m cap, .int .i64 dc], u] w fun e w' => e = .returned (.tuple #[.agg #[.int .i64 (lo * 333 / 318), .int .i64 ((hi * 355 + 338) / 339)], .int .i64 0]) ∧ Below w.heap.size w w' := by
  have T0 := Lib.hid (Two.new (w.alloc (.cells #[.string nm, .int .i64 cps, .slice a m cap, .int .i64 dc] 24)) (.int .i64 0) (.int .i64 0) 29)
  rw [World.size_alloc] at T0
  have HS : Hid (∀ W, _) := Lib.hid fun W => stSpace_any lo hi W b0 b1 b2 b3
  generalize lo * 333 / 318 = y0 at *
  generalize (hi * 355 + 338) / 339 = y1 at *
  go_enter Tryz.func7, Tryz.ntmps7
  go_wp2_with fail
  refine (H1.out _ (bel_alloc (bel_alloc (Below.refl _ _)))).mono ?_
  rintro e w1 ⟨z, rfl, hz, gg⟩
  replace T0 := Lib.hid (T0.out.below gg)
  have X1 := Lib.hid (bel_alloc (bel_alloc gg)); clear gg
  obtain ⟨a2, cp2, rfl, _, _⟩ := hz.shape
  rw [hq.out] at hz ⊢
  obtain ⟨b, off, rfl, hb, hc⟩ := hz.at (by omega)
  have c0 : w1.cell? ⟨b, off + q * 2, none⟩ = some (.int .i64 lo) := by rw [← hl.out.1]; exact (hc q (by omega)).1
  have c1 : w1.cell? ⟨b, off + q * 2 + 1, none⟩ = some (.int .i64 hi) := by rw [← hl.out.2]; exact (hc q (by omega)).2
  have wq : IntKind.i64.wrap ((q : Int) + 1 - 1) = (q : Int) := by rw [wrap_in _ ⟨by omega, by omega⟩]; omega
  have wq2 : IntKind.i64.wrap (q : Int) = (q : Int) := wrap_in _ ⟨by omega, by omega⟩
  clear hc hz hb
  go_wp2_with fail
  refine (HS.out _).mono ?_
  rintro e w2 ⟨rfl, gg⟩
  replace T0 := Lib.hid (T0.out.below gg)
  replace X1 := Lib.hid (bel_trans X1.out gg); clear gg c0 c1
  obtain ⟨r0, r1, rf0, rf1, _⟩ := T0.out
  go_wp2
  obtain ⟨t0, t1⟩ := two_read w2 (w.heap.size + 1) (.int .i64 y0) (.int .i64 y1) r0 r1
  refine bodyPost_ret (v := .tuple #[.agg #[.int .i64 y0, .int .i64 y1], .int .i64 0]) (by simp [results, Tryz.results7, go_sem, t0, t1]) rfl ?_
  exact ⟨rfl, (X1.out.setCell (Nat.le_succ _) _).setCell (Nat.le_succ _) _⟩
theorem en_top {l : List (Int × Int)} {ls : List Int} (hR : RP l) (hL : LvR l ls) (k : Nat) (hk : k < ls.length) : 0 ≤ enL l ls k ∧ enL l ls k ≤ enH l ls k ∧ enH l ls k ≤ 3000000000000000 := by
  have b := en_bd hR hL k hk
  have d0 := hL.bd 0 (by omega)
  have dk := hL.bd k hk
  have x := (hR.bx (l.length - 1) (by have := hR.n0; omega)).2
  omega
theorem stBw_any (v u : Value) (c : Ck) (ls : List Int) (w : World) (hv : CkV w v c) (hu : Nums w u ls) :
    Calls Tryz.prog 7 #[v, u] w fun e w' => e = .returned (.tuple #[.agg #[.int .i64 (bwL c ls), .int .i64 (bwH c ls)], .int .i64 (stE c ls)]) ∧ Below w.heap.size w w' := by
  have H1 : Hid (∀ W, Below w.heap.size w W → _) := Lib.hid fun W hW => stSm_any v u c ls W (hv.below hW) (hu.below hW)
  unfold smL at H1
  unfold bwL bwH
  by_cases g : stE c ls = 0
  · obtain ⟨⟨h1, h2⟩, hL⟩ := stE_zero.1 g
    obtain ⟨_, _, _, hR⟩ := ccE_pf h1
    rw [if_pos g, if_pos g, g]
    rw [if_pos g, g] at H1
    obtain ⟨a, cap, rfl, hp, _⟩ := hv
    have n0 := hL.n0
    have n1 := hL.n1
    obtain ⟨q, hq⟩ : ∃ q, ls.length = q + 2 := ⟨ls.length - 2, by omega⟩
    have e1 : ls.length - 1 = q + 1 := by omega
    rw [e1] at H1 ⊢
    obtain ⟨b0, b1, b2⟩ := en_top hR hL (q + 1) (by omega)
    exact stBw_ok _ _ _ _ _ a _ cap q u _ w (Lib.hid (smS_len _ _ _)) (by omega) (Lib.hid (smS_at (Nat.lt_succ_self q))) b0 (by omega) (by omega) b2 H1
  · rw [if_neg g, if_neg g]
    rw [if_neg g] at H1
    obtain ⟨a, cap, rfl, hp, _⟩ := hv
    exact stBw_bad _ _ _ _ a _ cap u w (by simpa using g) (by simpa using g) H1
/-! ### Wet -/
theorem stWt_pos (nm : ByteArray) (cps dc d n E : Int) (a : Option Addr) (m cap : Nat) (w : World) (e1 : (E == 0) = false) (e2 : (E != 0) = true)
    (H1 : Hid (∀ W, Below w.heap.size w W → Calls Tryz.prog 27 #[.agg #[.string nm, .int .i64 cps, .slice a m cap, .int .i64 dc]] W fun e w' => e = .returned (.int .i64 E) ∧ Below W.heap.size W w')) :
    Calls Tryz.prog 14 #[.agg #[.string nm, .int .i64 cps, .slice a m cap, .int .i64 dc], .int .i64 d, .int .i64 n] w fun e w' => e = .returned (.tuple #[.agg #[.int .i64 0, .int .i64 0], .int .i64 E]) ∧ Below w.heap.size w w' := by
  have T0 := Lib.hid (Two.new (w.alloc (.cells #[.string nm, .int .i64 cps, .slice a m cap, .int .i64 dc] 24)) (.int .i64 0) (.int .i64 0) 29)
  rw [World.size_alloc] at T0
  go_enter Tryz.func14, Tryz.ntmps14
  go_wp2_with fail
  refine (H1.out _ (bel_alloc (bel_alloc (Below.refl _ _)))).mono ?_
  rintro e w1 ⟨rfl, gg⟩
  replace T0 := Lib.hid (T0.out.below gg)
  have X1 := Lib.hid (bel_alloc (bel_alloc gg)); clear gg
  obtain ⟨r0, r1, rf0, rf1, _⟩ := T0.out
  go_wp2
  obtain ⟨t0, t1⟩ := two_read w1 (w.heap.size + 1) (.int .i64 0) (.int .i64 0) r0 r1
  refine bodyPost_ret (v := .tuple #[.agg #[.int .i64 0, .int .i64 0], .int .i64 E]) (by simp [results, Tryz.results14, go_sem, t0, t1]) rfl ?_
  exact ⟨rfl, (X1.out.setCell (Nat.le_succ _) _).setCell (Nat.le_succ _) _⟩
theorem stWt_nil (nm : ByteArray) (cps dc d n E : Int) (a : Option Addr) (m cap : Nat) (LV : List Int) (w : World) (hE : ((E == 0) = false ∧ (E != 0) = true) ∨ (E = 0 ∧ d = 0))
    (H1 : Hid (∀ W, Below w.heap.size w W → Calls Tryz.prog 27 #[.agg #[.string nm, .int .i64 cps, .slice a m cap, .int .i64 dc]] W fun e w' => e = .returned (.int .i64 0) ∧ Below W.heap.size W w'))
    (H2 : Hid (∀ W, Below w.heap.size w W → Calls Tryz.prog 17 #[.slice a m cap, .int .i64 d, .int .i64 n] W fun e w' => ∃ u, e = .returned (.tuple #[u, .int .i64 E]) ∧ Nums w' u LV ∧ Below W.heap.size W w')) :
    Calls Tryz.prog 14 #[.agg #[.string nm, .int .i64 cps, .slice a m cap, .int .i64 dc], .int .i64 d, .int .i64 n] w fun e w' => e = .returned (.tuple #[.agg #[.int .i64 0, .int .i64 0], .int .i64 E]) ∧ Below w.heap.size w w' := by
  have T0 := Lib.hid (Two.new (w.alloc (.cells #[.string nm, .int .i64 cps, .slice a m cap, .int .i64 dc] 24)) (.int .i64 0) (.int .i64 0) 29)
  rw [World.size_alloc] at T0
  have F0 := Lib.hid ((Quad.new w (.string nm) (.int .i64 cps) (.slice a m cap) (.int .i64 dc) 24).alloc (.cells #[.int .i64 0, .int .i64 0] 29))
  rcases hE with ⟨e1, e2⟩ | ⟨rfl, rfl⟩
  all_goals
    go_enter Tryz.func14, Tryz.ntmps14
    go_wp2_with fail
    refine (H1.out _ (bel_alloc (bel_alloc (Below.refl _ _)))).mono ?_
    rintro e w1 ⟨rfl, gg⟩
    replace T0 := Lib.hid (T0.out.below gg)
    replace F0 := Lib.hid (F0.out.below gg)
    have X1 := Lib.hid (bel_alloc (bel_alloc gg)); clear gg
    obtain ⟨_, _, y2, _, _, _⟩ := F0.out
    go_wp2_with fail
    refine (H2.out _ X1.out).mono ?_
    rintro e w2 ⟨u, rfl, hu, gg⟩
    replace T0 := Lib.hid (T0.out.below gg)
    replace X1 := Lib.hid (bel_trans X1.out gg); clear gg y2
    obtain ⟨a2, cp2, rfl, _, _⟩ := hu
    generalize LV.length = K at *
    obtain ⟨r0, r1, rf0, rf1, _⟩ := T0.out
    obtain ⟨t0, t1⟩ := two_read w2 (w.heap.size + 1) (.int .i64 0) (.int .i64 0) r0 r1
    replace t0 := Lib.hid t0
    replace t1 := Lib.hid t1
    go_wp2
  · have t0 := t0.out
    have t1 := t1.out
    refine bodyPost_ret (v := .tuple #[.agg #[.int .i64 0, .int .i64 0], .int .i64 E]) (by simp [results, Tryz.results14, go_sem, t0, t1]) rfl ?_
    exact ⟨rfl, (X1.out.setCell (Nat.le_succ _) _).setCell (Nat.le_succ _) _⟩
  · have t0 := t0.out
    have t1 := t1.out
    refine bodyPost_ret (v := .tuple #[.agg #[.int .i64 0, .int .i64 0], .int .i64 0]) (by simp [results, Tryz.results14, go_sem, t0, t1]) rfl ?_
    exact ⟨rfl, (X1.out.setCell (Nat.le_succ _) _).setCell (Nat.le_succ _) _⟩
theorem stWt_ok (nm : ByteArray) (cps dc d n L H : Int) (a : Option Addr) (m cap : Nat) (LV : List Int) (w : World) (hd : (d == 0) = false)
    (H1 : Hid (∀ W, Below w.heap.size w W → Calls Tryz.prog 27 #[.agg #[.string nm, .int .i64 cps, .slice a m cap, .int .i64 dc]] W fun e w' => e = .returned (.int .i64 0) ∧ Below W.heap.size W w'))
    (H2 : Hid (∀ W, Below w.heap.size w W → Calls Tryz.prog 17 #[.slice a m cap, .int .i64 d, .int .i64 n] W fun e w' => ∃ u, e = .returned (.tuple #[u, .int .i64 0]) ∧ Nums w' u LV ∧ Below W.heap.size W w'))
    (H3 : Hid (∀ W u, Below w.heap.size w W → Nums W u LV → Calls Tryz.prog 7 #[.agg #[.string nm, .int .i64 cps, .slice a m cap, .int .i64 dc], u] W fun e w' => e = .returned (.tuple #[.agg #[.int .i64 L, .int .i64 H], .int .i64 0]) ∧ Below W.heap.size W w')) :
    Calls Tryz.prog 14 #[.agg #[.string nm, .int .i64 cps, .slice a m cap, .int .i64 dc], .int .i64 d, .int .i64 n] w fun e w' => e = .returned (.tuple #[.agg #[.int .i64 L, .int .i64 H], .int .i64 0]) ∧ Below w.heap.size w w' := by
  have T0 := Lib.hid (Two.new (w.alloc (.cells #[.string nm, .int .i64 cps, .slice a m cap, .int .i64 dc] 24)) (.int .i64 0) (.int .i64 0) 29)
  rw [World.size_alloc] at T0
  have F0 := Lib.hid ((Quad.new w (.string nm) (.int .i64 cps) (.slice a m cap) (.int .i64 dc) 24).alloc (.cells #[.int .i64 0, .int .i64 0] 29))
  go_enter Tryz.func14, Tryz.ntmps14
  go_wp2_with fail
  refine (H1.out _ (bel_alloc (bel_alloc (Below.refl _ _)))).mono ?_
  rintro e w1 ⟨rfl, gg⟩
  replace T0 := Lib.hid (T0.out.below gg)
  replace F0 := Lib.hid (F0.out.below gg)
  have X1 := Lib.hid (bel_alloc (bel_alloc gg)); clear gg
  obtain ⟨_, _, y2, _, _, _⟩ := F0.out
  go_wp2_with fail
  refine (H2.out _ X1.out).mono ?_
  rintro e w2 ⟨u, rfl, hu, gg⟩
  replace T0 := Lib.hid (T0.out.below gg)
  replace F0 := Lib.hid (F0.out.below gg)
  replace X1 := Lib.hid (bel_trans X1.out gg); clear gg y2
  have HU := Lib.hid hu
  obtain ⟨a2, cp2, rfl, _, _⟩ := hu
  have HK : Hid (∀ K : Nat, K = LV.length → Nums w2 (.slice a2 K cp2) LV) := Lib.hid fun K e => by rw [e]; exact HU.out
  obtain ⟨K, hK⟩ : ∃ K, K = LV.length := ⟨_, rfl⟩
  have HK2 := Lib.hid (HK.out K hK)
  rw [← hK]
  clear hK HK HU
  obtain ⟨q0, q1, q2, q3, _, _⟩ := F0.out
  go_wp2_with fail
  refine (H3.out _ _ X1.out HK2.out).mono ?_
  rintro e w3 ⟨rfl, gg⟩
  replace T0 := Lib.hid (T0.out.below gg)
  replace X1 := Lib.hid (bel_trans X1.out gg); clear gg q0 q1 q2 q3
  obtain ⟨r0, r1, rf0, rf1, _⟩ := T0.out
  go_wp2
  obtain ⟨t0, t1⟩ := two_read w3 (w.heap.size + 1) (.int .i64 L) (.int .i64 H) r0 r1
  refine bodyPost_ret (v := .tuple #[.agg #[.int .i64 L, .int .i64 H], .int .i64 0]) (by simp [results, Tryz.results14, go_sem, t0, t1]) rfl ?_
  exact ⟨rfl, (X1.out.setCell (Nat.le_succ _) _).setCell (Nat.le_succ _) _⟩
theorem stWt_any (v : Value) (c : Ck) (d n : Int) (w : World) (hv : CkV w v c) :
    Calls Tryz.prog 14 #[v, .int .i64 d, .int .i64 n] w fun e w' => e = .returned (.tuple #[.agg #[.int .i64 (swL c d n), .int .i64 (swH c d n)], .int .i64 (swE c d n)]) ∧ Below w.heap.size w w' := by
  have H1 : Hid (∀ W, Below w.heap.size w W → _) := Lib.hid fun W hW => stPos_any v c W (hv.below hW)
  have hv' := hv
  obtain ⟨a, cap, rfl, hp, _⟩ := hv'
  by_cases h : stSE c = 0
  · rw [h] at H1
    obtain ⟨h1, h2⟩ := stSE_zero.1 h
    obtain ⟨_, _, _, hR⟩ := ccE_pf h1
    have H2 : Hid (∀ W, Below w.heap.size w W → _) := Lib.hid fun W hW => stLv_any _ c.pf d n W (hp.below hW)
    have eE : swE c d n = lvsE c.pf d n := by unfold swE; rw [if_pos h]
    by_cases g : lvsE c.pf d n = 0
    · by_cases hd : d = 0
      · have e0 : swL c d n = 0 ∧ swH c d n = 0 := by unfold swL swH; rw [if_neg (fun k => k.2 hd), if_neg (fun k => k.2 hd)]; exact ⟨rfl, rfl⟩
        rw [e0.1, e0.2, eE]
        exact stWt_nil _ _ _ d n _ a _ cap _ w (.inr ⟨g, hd⟩) H1 H2
      · obtain ⟨_, ⟨d0, d1⟩, n1, n2⟩ := lvsE_zero.1 g
        have hL : LvR c.pf (lvL c.pf d n.toNat) := lv_right hR (by omega) d1 (by omega) (by omega)
        have e0 : swL c d n = bwL c (lvL c.pf d n.toNat) ∧ swH c d n = bwH c (lvL c.pf d n.toNat) := by
          have hk : swE c d n = 0 ∧ d ≠ 0 := ⟨by rw [eE]; exact g, hd⟩
          have hk2 : stE c (lvL c.pf d n.toNat) = 0 := stE_zero.2 ⟨⟨h1, h2⟩, hL⟩
          unfold swL swH bwL bwH
          rw [if_pos hk, if_pos hk, if_pos hk2, if_pos hk2]
          exact ⟨rfl, rfl⟩
        have eS : stE c (lvL c.pf d n.toNat) = 0 := stE_zero.2 ⟨⟨h1, h2⟩, hL⟩
        rw [e0.1, e0.2, eE, g]
        unfold lvsL at H2
        rw [if_pos g, g] at H2
        refine stWt_ok _ _ _ d n _ _ a _ cap _ w (by simpa using hd) H1 H2 (Lib.hid fun W u hW hu => ?_)
        have := stBw_any _ u c _ W (hv.below hW) hu
        rwa [eS] at this
    · have e0 : swL c d n = 0 ∧ swH c d n = 0 := by unfold swL swH; rw [eE, if_neg (fun k => g k.1), if_neg (fun k => g k.1)]; exact ⟨rfl, rfl⟩
      rw [e0.1, e0.2, eE]
      exact stWt_nil _ _ _ d n _ a _ cap _ w (.inl ⟨by simpa using g, by simpa using g⟩) H1 H2
  · have eE : swE c d n = stSE c := by unfold swE; rw [if_neg h]
    have e0 : swL c d n = 0 ∧ swH c d n = 0 := by unfold swL swH; rw [eE, if_neg (fun k => h k.1), if_neg (fun k => h k.1)]; exact ⟨rfl, rfl⟩
    rw [e0.1, e0.2, eE]
    exact stWt_pos _ _ _ d n _ a _ cap w (by simpa using h) (by simpa using h) H1
end Go.Proofs.YtmdpdpbkbakidaaGreat

/- The reference of layer 10: Sum, Frustums, Bounds, Litres, Space. -/
namespace Go.Proofs.YtmdpdpbkbakidaaGreat
open Go.RowKit

theorem mul_bd {p q : Int} (hp : 1 ≤ p ∧ p ≤ 100000) (hq : 1 ≤ q ∧ q ≤ 100000) : 1 ≤ p * q ∧ p * q ≤ 10000000000 := by
  have a := Int.mul_le_mul hp.1 hq.1 (by omega) (by omega)
  have b := Int.mul_le_mul hp.2 hq.2 (by omega) (by omega)
  omega
/-- what Frustums returns -/
def fuQ (l : List (Int × Int)) : Int := if ckE l = 0 then frS l else 0
def spL (l : List (Int × Int)) : Int := if ckE l = 0 then cbL (frS l) else 0
def spH (l : List (Int × Int)) : Int := if ckE l = 0 then cbH (frS l) else 0
/-- bounds are returned as a struct -/
theorem refBo_any (n : Int) (w : World) (h : 0 ≤ n ∧ n ≤ 3000000000000000) :
    Calls Tryz.prog 41 #[.int .i64 n] w fun e w' => e = .returned (.agg #[.int .i64 (cbL n), .int .i64 (cbH n)]) ∧ Below w.heap.size w w' := by
  have w1 : IntKind.i64.wrap (n * 333) = n * 333 := wrap_in _ ⟨by omega, by omega⟩
  have w2 : IntKind.i64.wrap (n * 355) = n * 355 := wrap_in _ ⟨by omega, by omega⟩
  have w3 : IntKind.i64.wrap (n * 355 + 338) = n * 355 + 338 := wrap_in _ ⟨by omega, by omega⟩
  have d1 : (n * 333).tdiv 318 = n * 333 / 318 := Int.tdiv_eq_ediv_of_nonneg (by omega)
  have d2 : (n * 355 + 338).tdiv 339 = (n * 355 + 338) / 339 := Int.tdiv_eq_ediv_of_nonneg (by omega)
  have w4 : IntKind.i64.wrap (n * 333 / 318) = n * 333 / 318 := wrap_in _ ⟨by omega, by omega⟩
  have w5 : IntKind.i64.wrap ((n * 355 + 338) / 339) = (n * 355 + 338) / 339 := wrap_in _ ⟨by omega, by omega⟩
  go_enter Tryz.func41, Tryz.ntmps41
  go_wp2
  refine bodyPost_ret (v := .agg #[.int .i64 (cbL n), .int .i64 (cbH n)]) (by simp [results, Tryz.results41, go_sem, cbL, cbH]) rfl ?_
  exact ⟨rfl, bel_alloc (Below.refl _ _)⟩
end Go.Proofs.YtmdpdpbkbakidaaGreat

/- The reference of layer 12: Check. -/
namespace Go.Proofs.YtmdpdpbkbakidaaGreat
open Go.RowKit

theorem rstChk_bad (nm : ByteArray) (cps dc : Int) (a : Option Addr) (m cap : Nat) (u : Value) (E : Int) (w : World) (e2 : (E != 0) = true)
    (H1 : Hid (∀ W, Below w.heap.size w W → Calls Tryz.prog 28 #[.agg #[.string nm, .int .i64 cps, .slice a m cap, .int .i64 dc]] W fun e w' => e = .returned (.int .i64 E) ∧ Below W.heap.size W w')) :
    Calls Tryz.prog 25 #[.agg #[.string nm, .int .i64 cps, .slice a m cap, .int .i64 dc], u] w fun e w' => e = .returned (.int .i64 E) ∧ Below w.heap.size w w' := by
  have F0 := Lib.hid (Quad.new w (.string nm) (.int .i64 cps) (.slice a m cap) (.int .i64 dc) 24)
  obtain ⟨u0, u1, u2, u3, _, _⟩ := F0.out
  go_enter Tryz.func25, Tryz.ntmps25
  go_wp2_with fail
  refine (H1.out _ (bel_alloc (Below.refl _ _))).mono ?_
  rintro e w1 ⟨rfl, gg⟩
  have X1 := Lib.hid (bel_alloc gg); clear gg
  go_wp2
  go_returns
  exact ⟨rfl, X1.out⟩
theorem rstChk_len (nm : ByteArray) (cps dc : Int) (a : Option Addr) (m cap : Nat) (a2 : Option Addr) (n cap2 : Nat) (V : Int) (w : World) (h : (n < 2 ∧ V = 9) ∨ (¬ n < 2 ∧ 128 < n ∧ n ≤ 9223372036854775807 ∧ V = 8))
    (H1 : Hid (∀ W, Below w.heap.size w W → Calls Tryz.prog 28 #[.agg #[.string nm, .int .i64 cps, .slice a m cap, .int .i64 dc]] W fun e w' => e = .returned (.int .i64 0) ∧ Below W.heap.size W w')) :
    Calls Tryz.prog 25 #[.agg #[.string nm, .int .i64 cps, .slice a m cap, .int .i64 dc], .slice a2 n cap2] w fun e w' => e = .returned (.int .i64 V) ∧ Below w.heap.size w w' := by
  have F0 := Lib.hid (Quad.new w (.string nm) (.int .i64 cps) (.slice a m cap) (.int .i64 dc) 24)
  obtain ⟨u0, u1, u2, u3, _, _⟩ := F0.out
  rcases h with ⟨h, rfl⟩ | ⟨h, h2, h3, rfl⟩
  all_goals
    go_enter Tryz.func25, Tryz.ntmps25
    go_wp2_with fail
    refine (H1.out _ (bel_alloc (Below.refl _ _))).mono ?_
    rintro e w1 ⟨rfl, gg⟩
    have X1 := Lib.hid (bel_alloc gg); clear gg
    go_wp2
    go_returns
    exact ⟨rfl, X1.out⟩
set_option maxRecDepth 100000 in
set_option maxHeartbeats 16000000 in
theorem rstChk_core (nm : ByteArray) (cps dc X : Int) (b off m cap b2 off2 n cap2 : Nat) (l : List (Int × Int)) (ls : List Int) (V : Int) (w : World) (n0 : 1 ≤ n) (n1 : n + 1 ≤ 128) (m1 : m + 1 ≤ 1000) (hb : b < w.heap.size) (hb2 : b2 < w.heap.size) (hn : Hid (ls.length = n + 1)) (hm : Hid (l.length = m + 1)) (hX : Hid (gX l m = X))
    (hv1 : Hid ((∃ i, i < n + 1 ∧ lvOut X (ls.getD i 0) = true) → V = 2))
    (hv2 : Hid ((∀ i, i < n + 1 → lvOut X (ls.getD i 0) = false) → (∃ i, i < n ∧ ls.getD (i + 1) 0 ≤ ls.getD i 0) → V = 5))
    (hv3 : Hid ((∀ i, i < n + 1 → lvOut X (ls.getD i 0) = false) → (∀ i, i < n → ls.getD i 0 < ls.getD (i + 1) 0) → (∃ j, j < m + 1 ∧ lvMis ls (gX l j) = true) → V = 7))
    (hv4 : Hid ((∀ i, i < n + 1 → lvOut X (ls.getD i 0) = false) → (∀ i, i < n → ls.getD i 0 < ls.getD (i + 1) 0) → (∀ j, j < m + 1 → lvMis ls (gX l j) = false) → V = 0))
    (hc : Hid (∀ j, j < m + 1 → w.cell? ⟨b, off + j * 2, none⟩ = some (.int .i64 (gX l j))))
    (hc2 : Hid (∀ j, j < n + 1 → w.cell? ⟨b2, off2 + j, none⟩ = some (.int .i64 (ls.getD j 0))))
    (H1 : Hid (∀ W, Below w.heap.size w W → Calls Tryz.prog 28 #[.agg #[.string nm, .int .i64 cps, .slice (some ⟨b, off, none⟩) (m + 1) cap, .int .i64 dc]] W fun e w' => e = .returned (.int .i64 0) ∧ Below W.heap.size W w'))
    (H2 : Hid (∀ x W, Below w.heap.size w W → Calls Tryz.prog 45 #[.slice (some ⟨b2, off2, none⟩) (n + 1) cap2, .int .i64 x] W fun e w' => e = .returned (.bool (ls.any (fun y => y == x))) ∧ w' = W)) :
    Calls Tryz.prog 25 #[.agg #[.string nm, .int .i64 cps, .slice (some ⟨b, off, none⟩) (m + 1) cap, .int .i64 dc], .slice (some ⟨b2, off2, none⟩) (n + 1) cap2] w fun e w' => e = .returned (.int .i64 V) ∧ Below w.heap.size w w' := by
  have F0 := Lib.hid (Quad.new w (.string nm) (.int .i64 cps) (.slice (some ⟨b, off, none⟩) (m + 1) cap) (.int .i64 dc) 24)
  have wk : IntKind.i64.wrap (((m + 1 : Nat) : Int) - 1) = (m : Int) := by rw [wrap_in _ ⟨by omega, by omega⟩]; omega
  have wk1 : IntKind.i64.wrap ((m : Int) + 1 - 1) = (m : Int) := by rw [wrap_in _ ⟨by omega, by omega⟩]; omega
  have wk2 : (m : Int) < ((m + 1 : Nat) : Int) := by omega
  have wk3 : (m : Int) < (m : Int) + 1 := by omega
  have wn : IntKind.i64.wrap (((n + 1 : Nat) : Int) - 1) = (n : Int) := by rw [wrap_in _ ⟨by omega, by omega⟩]; omega
  have wn1 : IntKind.i64.wrap ((n : Int) + 1 - 1) = (n : Int) := by rw [wrap_in _ ⟨by omega, by omega⟩]; omega
  have wn2 : (n : Int) < ((n + 1 : Nat) : Int) := by omega
  have wn3 : (n : Int) < (n : Int) + 1 := by omega
  go_enter Tryz.func25, Tryz.ntmps25
  go_wp2_with fail
  refine (H1.out _ (bel_alloc (Below.refl _ _))).mono ?_
  rintro e w1 ⟨rfl, gg⟩
  obtain ⟨u0, u1, u2, u3, _, _⟩ := F0.out.below gg
  replace H1 := Lib.hid (bel_alloc gg); clear gg F0
  have CP : Hid (∀ W, Below w.heap.size w W → ∀ j, j < m + 1 → W.cell? ⟨b, off + j * 2, none⟩ = some (.int .i64 (gX l j))) := Lib.hid fun W hW j hj => by rw [(bcell hW).1 _ _ hb]; exact hc.out j hj
  have CL : Hid (∀ W, Below w.heap.size w W → ∀ j, j < n + 1 → W.cell? ⟨b2, off2 + j, none⟩ = some (.int .i64 (ls.getD j 0))) := Lib.hid fun W hW j hj => by rw [(bcell hW).1 _ _ hb2]; exact hc2.out j hj
  clear hc hc2
  go_wp2_with fail
  go_loopw [7] (fun ii wr => ∃ k : Nat, k ≤ n + 1 ∧ ii = .int .i64 (k : Int) ∧ Hid (Below w.heap.size w wr) ∧ Hid (∀ i, i < k → lvOut X (ls.getD i 0) = false)) (fun ii _ => n + 1 - (intOf ii).toNat)
  case atStart => exact ⟨0, by omega, rfl, H1, Lib.hid fun i hi => by omega⟩
  case round =>
    clear u0 u1 u2 u3 H1
    obtain ⟨k, hk, rfl, hB, hA⟩ := hrel
    by_cases hlt : k < n + 1
    · have c0 := CL.out wr hB.out k hlt
      have c1 := CP.out wr hB.out m (by omega)
      rw [hX.out] at c1
      have l0 : (k : Int) < ((n + 1 : Nat) : Int) := by omega
      have l1 : (k : Int) < (n : Int) + 1 := by omega
      have BQ1 := Lib.hid (fun q => bel_trans hB.out (bel_drewN wr q))
      have hE : Hid (lvOut X (ls.getD k 0) = (decide (ls.getD k 0 < 0) || decide (X < ls.getD k 0))) := Lib.hid rfl
      cases hq : lvOut X (ls.getD k 0) with
      | true =>
        obtain rfl := hv1.out ⟨k, hlt, hq⟩
        rw [hq] at hE
        clear hv1 hv2 hv3 hv4 hA hX
        generalize ls.getD k 0 = y at *
        cases d1 : decide (y < 0) with
        | true =>
          go_upto_region 12 with fail
          go_quiet (fail)
          go_wp2
          go_returns
          exact ⟨rfl, BQ1.out _⟩
        | false =>
          have d2 : decide (X < y) = true := by have := hE.out; rw [d1, Bool.false_or] at this; exact this.symm
          go_upto_region 12 with fail
          go_quiet (fail)
          go_wp2
          go_returns
          exact ⟨rfl, BQ1.out _⟩
      | false =>
        have hA2 : Hid (∀ i, i < k + 1 → lvOut X (ls.getD i 0) = false) := Lib.hid fun i hi => by
          by_cases e : i = k
          · rw [e]; exact hq
          · exact hA.out i (by omega)
        rw [hq] at hE
        have hE2 := hE.out.symm
        rw [Bool.or_eq_false_iff] at hE2
        obtain ⟨d1, d2⟩ := hE2
        clear hE hq hA
        generalize ls.getD k 0 = y at *
        go_upto_region 12 with fail
        go_quiet (fail)
        go_wp2
        go_roundw
        case rel => exact ⟨k + 1, by omega, by go_num, Lib.hid (BQ1.out _), hA2⟩
        case measure => simp [intOf]; omega
    · obtain rfl : k = n + 1 := by omega
      replace hv2 := Lib.hid (hv2.out hA.out)
      replace hv3 := Lib.hid (hv3.out hA.out)
      replace hv4 := Lib.hid (hv4.out hA.out)
      clear hv1 hA hlt hk
      go_wp2_with fail
      go_loopw [8] (fun ii wr => ∃ k : Nat, k ≤ n ∧ ii = .int .i64 ((k : Int) + 1) ∧ Hid (Below w.heap.size w wr) ∧ Hid (∀ i, i < k → ls.getD i 0 < ls.getD (i + 1) 0)) (fun ii _ => n + 1 - (intOf ii).toNat)
      case atStart => exact ⟨0, by omega, rfl, hB, Lib.hid fun i hi => by omega⟩
      case round =>
        clear hB
        obtain ⟨k, hk, rfl, hB, hA⟩ := hrel
        by_cases hlt : k < n
        · have c0 := CL.out wr hB.out k (by omega)
          have c1 := CL.out wr hB.out (k + 1) (by omega)
          have l0 : (k : Int) + 1 < (n : Int) + 1 := by omega
          have l1 : (k : Int) + 1 < ((n + 1 : Nat) : Int) := by omega
          have l2 : (k : Int) < ((n + 1 : Nat) : Int) := by omega
          have l3 : IntKind.i64.wrap ((k : Int) + 1 - 1) = (k : Int) := by rw [wrap_in _ ⟨by omega, by omega⟩]; omega
          have l4 : ((k : Int) + 1).toNat = k + 1 := by omega
          have l5 : 0 ≤ (k : Int) + 1 := by omega
          have l6 : (k : Int) < (n : Int) + 1 := by omega
          have BQ1 := Lib.hid (fun q => bel_trans hB.out (bel_drewN wr q))
          by_cases hq : ls.getD (k + 1) 0 ≤ ls.getD k 0
          · obtain rfl := hv2.out ⟨k, hlt, hq⟩
            clear hv2 hv3 hv4 hA hX
            generalize ls.getD k 0 = x at *
            generalize ls.getD (k + 1) 0 = y at *
            have d1 : decide (y ≤ x) = true := decide_eq_true hq
            clear hq
            go_upto_region 17 with fail
            go_quiet (fail)
            go_wp2
            go_returns
            exact ⟨rfl, BQ1.out _⟩
          · have hA2 : Hid (∀ i, i < k + 1 → ls.getD i 0 < ls.getD (i + 1) 0) := Lib.hid fun i hi => by
              by_cases e : i = k
              · rw [e]; omega
              · exact hA.out i (by omega)
            clear hA
            generalize ls.getD k 0 = x at *
            generalize ls.getD (k + 1) 0 = y at *
            have d1 : decide (y ≤ x) = false := decide_eq_false hq
            clear hq
            go_upto_region 17 with fail
            go_quiet (fail)
            go_wp2
            go_roundw
            case rel => exact ⟨k + 1, by omega, by go_num, Lib.hid (BQ1.out _), hA2⟩
            case measure => simp [intOf]; omega
        · obtain rfl : k = n := by omega
          replace hv3 := Lib.hid (hv3.out hA.out)
          replace hv4 := Lib.hid (hv4.out hA.out)
          clear hv2 hA hlt hk
          go_wp2_with fail
          go_loopw [9] (fun ii wr => ∃ j : Nat, j ≤ m + 1 ∧ ii = .int .i64 (j : Int) ∧ Hid (Below w.heap.size w wr) ∧ Hid (∀ i, i < j → lvMis ls (gX l i) = false)) (fun ii _ => m + 1 - (intOf ii).toNat)
          case atStart => exact ⟨0, by omega, rfl, hB, Lib.hid fun i hi => by omega⟩
          case round =>
            clear hB
            obtain ⟨j, hj, rfl, hB, hA⟩ := hrel
            by_cases hlt : j < m + 1
            · have c0 := CP.out wr hB.out j hlt
              have c1 := CL.out wr hB.out 0 (by omega)
              rw [Nat.add_zero] at c1
              have c2 := CL.out wr hB.out k (by omega)
              have l0 : (j : Int) < (m : Int) + 1 := by omega
              have l1 : (j : Int) < ((m + 1 : Nat) : Int) := by omega
              have l2 : (0 : Int) < (k : Int) + 1 := by omega
              have l3 : (0 : Int) < ((k + 1 : Nat) : Int) := by omega
              have BQ1 := Lib.hid (fun q => bel_trans hB.out (bel_drewN wr q))
              have HC := Lib.hid (fun q => H2.out (gX l j) (wr.drewN q) (bel_trans hB.out (bel_drewN _ _)))
              have BQ := Lib.hid (fun q => bel_trans hB.out (bel_drewN wr q))
              have hE : Hid (lvMis ls (gX l j) = (decide (ls.getD 0 0 < gX l j) && (decide (gX l j < ls.getD k 0) && !ls.any (fun y => y == gX l j)))) := Lib.hid (by unfold lvMis; rw [hn.out]; rfl)
              generalize hQ : ls.any (fun y => y == gX l j) = Q at *
              cases hq : lvMis ls (gX l j) with
              | true =>
                obtain rfl := hv3.out ⟨j, hlt, hq⟩
                rw [hq] at hE
                have hE2 := hE.out.symm
                rw [Bool.and_eq_true, Bool.and_eq_true, Bool.not_eq_true'] at hE2
                obtain ⟨d1, d2, rfl⟩ := hE2
                clear hv3 hv4 hA hE hq hQ
                generalize gX l j = x at *
                generalize ls.getD 0 0 = p at *
                generalize ls.getD k 0 = z at *
                go_upto_region 22 with fail
                go_quiet ((go_at_call 45; exact Calls.quiet_of_same (HC.out _)))
                go_wp2
                go_returns
                exact ⟨rfl, BQ.out _⟩
              | false =>
                have hA2 : Hid (∀ i, i < j + 1 → lvMis ls (gX l i) = false) := Lib.hid fun i hi => by
                  by_cases e : i = j
                  · rw [e]; exact hq
                  · exact hA.out i (by omega)
                rw [hq] at hE
                clear hA hv3 hv4 hq hQ
                generalize gX l j = x at *
                generalize ls.getD 0 0 = p at *
                generalize ls.getD k 0 = z at *
                cases d1 : decide (p < x) with
                | false =>
                  go_upto_region 22 with fail
                  go_quiet (fail)
                  go_wp2
                  go_roundw
                  case rel => exact ⟨j + 1, by omega, by go_num, Lib.hid (BQ.out _), hA2⟩
                  case measure => simp [intOf]; omega
                | true =>
                  cases d2 : decide (x < z) with
                  | false =>
                    go_upto_region 22 with fail
                    go_quiet (fail)
                    go_wp2
                    go_roundw
                    case rel => exact ⟨j + 1, by omega, by go_num, Lib.hid (BQ.out _), hA2⟩
                    case measure => simp [intOf]; omega
                  | true =>
                    obtain rfl : Q = true := by have := hE.out; rw [d1, d2, Bool.true_and, Bool.true_and] at this; cases Q; cases this; rfl
                    go_upto_region 22 with fail
                    go_quiet ((go_at_call 45; exact Calls.quiet_of_same (HC.out _)))
                    go_wp2
                    go_roundw
                    case rel => exact ⟨j + 1, by omega, by go_num, Lib.hid (BQ.out _), hA2⟩
                    case measure => simp [intOf]; omega
            · obtain rfl : j = m + 1 := by omega
              obtain rfl := hv4.out hA.out
              go_wp2
              go_returns
              exact ⟨rfl, hB.out⟩
theorem rstChk_any (v u : Value) (c : Ck) (ls : List Int) (w : World) (hv : CkV w v c) (hu : Nums w u ls) :
    Calls Tryz.prog 25 #[v, u] w fun e w' => e = .returned (.int .i64 (stE c ls)) ∧ Below w.heap.size w w' := by
  have H1 : Hid (∀ W, Below w.heap.size w W → _) := Lib.hid fun W hW => rstIs_any v c W (hv.below hW)
  have hv' := hv
  obtain ⟨a, cap, rfl, hp, _⟩ := hv'
  unfold stE
  by_cases h : stSE c = 0
  · rw [if_pos h]
    rw [h] at H1
    obtain ⟨h1, h2⟩ := stSE_zero.1 h
    obtain ⟨_, _, _, hR⟩ := ccE_pf h1
    have m0 := hR.n0
    have m1 := hR.n1
    have hu' := hu
    obtain ⟨a2, cap2, rfl, hcap, hh⟩ := hu'
    unfold svE
    by_cases g1 : ls.length < 2
    · rw [if_pos g1]
      exact rstChk_len _ _ _ a _ cap a2 _ cap2 _ w (.inl ⟨g1, rfl⟩) H1
    · rw [if_neg g1]
      by_cases g2 : 128 < ls.length
      · rw [if_pos g2]
        exact rstChk_len _ _ _ a _ cap a2 _ cap2 _ w (.inr ⟨g1, g2, by omega, rfl⟩) H1
      · rw [if_neg g2]
        rcases hh with h0 | ⟨b, off, rfl, hb, hc⟩
        · omega
        · obtain ⟨bp, op, rfl, hbp, hpc⟩ := hp.at (by omega)
          obtain ⟨q, hq⟩ : ∃ q, ls.length = q + 1 := ⟨ls.length - 1, by omega⟩
          obtain ⟨r, hr⟩ : ∃ r, c.pf.length = r + 1 := ⟨c.pf.length - 1, by omega⟩
          have H2 : Hid (∀ x W, Below w.heap.size w W → Calls Tryz.prog 45 #[.slice (some ⟨b, off, none⟩) (q + 1) cap2, .int .i64 x] W fun e w' => e = .returned (.bool (ls.any (fun y => y == x))) ∧ w' = W) := Lib.hid fun x W hW => by
            rw [← hq]
            exact rstHas_any _ ls x W ⟨some ⟨b, off, none⟩, cap2, rfl, hcap, .inr ⟨b, off, rfl, Nat.lt_of_lt_of_le hb hW.size, fun j hj => by rw [(bcell hW).1 _ _ hb]; exact hc j hj⟩⟩ (by omega)
          rw [hr] at H1
          have eo : (∀ i, i < q + 1 → lvOut (gX c.pf r) (ls.getD i 0) = false) → ls.any (lvOut (gX c.pf r)) = false := fun h => by
            rw [Bool.eq_false_iff]
            intro hx
            obtain ⟨j, hj, e⟩ := (anyI_iff _ _).1 hx
            rw [h j (by omega)] at e
            cases e
          rw [hq, hr]
          rw [show r + 1 - 1 = r from rfl]
          refine rstChk_core _ _ _ (gX c.pf r) bp op r cap b off q cap2 c.pf ls _ w (by omega) (by omega) (by omega) hbp hb hq hr rfl (Lib.hid fun ⟨i, hi, hx⟩ => ?_) (Lib.hid fun ho ⟨i, hi, hx⟩ => ?_) (Lib.hid fun ho ha ⟨j, hj, hx⟩ => ?_) (Lib.hid fun ho ha hx => ?_) (Lib.hid fun j hj => (hpc j (by omega)).1) (Lib.hid fun j hj => hc j (by omega)) H1 H2
          · rw [if_pos ((anyI_iff _ _).2 ⟨i, by omega, hx⟩)]
          · rw [if_neg (by rw [eo ho]; simp), if_pos]
            rw [Bool.eq_false_iff]
            intro ha
            have := (stAsc_iff ls).1 ha i (by omega)
            omega
          · rw [if_neg (by rw [eo ho]; simp), if_neg (by rw [(stAsc_iff ls).2 (fun i hi => ha i (by omega))]; simp), if_pos ((misB_iff _ _).2 ⟨j, by omega, hx⟩)]
          · rw [if_neg (by rw [eo ho]; simp), if_neg (by rw [(stAsc_iff ls).2 (fun i hi => ha i (by omega))]; simp), if_neg]
            intro hm
            obtain ⟨j, hj, e⟩ := (misB_iff _ _).1 hm
            rw [hx j (by omega)] at e
            cases e
  · rw [if_neg h]
    obtain ⟨a2, cap2, rfl, _⟩ := hu
    exact rstChk_bad _ _ _ a _ cap _ _ w (by simpa using h) H1
end Go.Proofs.YtmdpdpbkbakidaaGreat

/- The reference of layer 12: Step, Space. -/
namespace Go.Proofs.YtmdpdpbkbakidaaGreat
open Go.RowKit

set_option maxRecDepth 100000 in
set_option maxHeartbeats 16000000 in
theorem rstStep_core (v : Value) (x y aL aH bL bH : Int) (w : World) (d0 : 0 ≤ y - x) (d1 : y - x ≤ 100000) (x0 : -100000 ≤ x ∧ x ≤ 200000) (m0 : 0 ≤ min aL bL) (m1 : min aL bL ≤ 100000) (m2 : 0 ≤ max aH bH) (m3 : max aH bH ≤ 100000)
    (p0 : 0 ≤ 3 * (y - x) * min aL bL * min aL bL ∧ 3 * (y - x) * min aL bL * min aL bL ≤ 3000000000000000) (p1 : 0 ≤ 3 * (y - x) * max aH bH * max aH bH ∧ 3 * (y - x) * max aH bH * max aH bH ≤ 3000000000000000)
    (H1 : Hid (∀ W, Below w.heap.size w W → Calls Tryz.prog 46 #[v, .int .i64 x] W fun e w' => e = .returned (.agg #[.int .i64 aL, .int .i64 aH]) ∧ Below W.heap.size W w'))
    (H2 : Hid (∀ W, Below w.heap.size w W → Calls Tryz.prog 46 #[v, .int .i64 y] W fun e w' => e = .returned (.agg #[.int .i64 bL, .int .i64 bH]) ∧ Below W.heap.size W w')) :
    Calls Tryz.prog 26 #[v, .int .i64 x, .int .i64 y] w fun e w' => e = .returned (.agg #[.int .i64 (3 * (y - x) * min aL bL * min aL bL), .int .i64 (3 * (y - x) * max aH bH * max aH bH)]) ∧ Below w.heap.size w w' := by
  have T0 := Lib.hid (Two.new w (.int .i64 0) (.int .i64 0) 29)
  have wd : IntKind.i64.wrap (y - x) = y - x := wrap_in _ ⟨by omega, by omega⟩
  have w3 : IntKind.i64.wrap (3 * (y - x)) = 3 * (y - x) := wrap_in _ ⟨by omega, by omega⟩
  have q0 := Int.mul_nonneg (show 0 ≤ 3 * (y - x) by omega) m0
  have q1 := Int.mul_le_mul (show 3 * (y - x) ≤ 300000 by omega) m1 m0 (by omega)
  have q2 := Int.mul_nonneg (show 0 ≤ 3 * (y - x) by omega) m2
  have q3 := Int.mul_le_mul (show 3 * (y - x) ≤ 300000 by omega) m3 m2 (by omega)
  generalize hmL : min aL bL = mL at *
  generalize hmH : max aH bH = mH at *
  have w4 : IntKind.i64.wrap (3 * (y - x) * mL) = 3 * (y - x) * mL := wrap_in _ ⟨by omega, by omega⟩
  have w5 : IntKind.i64.wrap (3 * (y - x) * mH) = 3 * (y - x) * mH := wrap_in _ ⟨by omega, by omega⟩
  have w6 : IntKind.i64.wrap (3 * (y - x) * mL * mL) = 3 * (y - x) * mL * mL := wrap_in _ ⟨by omega, by omega⟩
  have w7 : IntKind.i64.wrap (3 * (y - x) * mH * mH) = 3 * (y - x) * mH * mH := wrap_in _ ⟨by omega, by omega⟩
  clear q0 q1 q2 q3 p0 p1 m0 m1 m2 m3
  go_enter Tryz.func26, Tryz.ntmps26
  go_wp2_with fail
  refine (H1.out _ (bel_alloc (Below.refl _ _))).mono ?_
  rintro e w1 ⟨rfl, gg⟩
  replace T0 := Lib.hid (T0.out.below gg)
  have X1 := Lib.hid (bel_alloc gg); clear gg
  go_wp2_with fail
  refine (H2.out _ X1.out).mono ?_
  rintro e w2 ⟨rfl, gg⟩
  replace T0 := Lib.hid (((T0.out.below gg).alloc (.cells #[.int .i64 aL, .int .i64 aH] 29)).alloc (.cells #[.int .i64 bL, .int .i64 bH] 29))
  have N1 := Lib.hid ((Two.new w2 (.int .i64 aL) (.int .i64 aH) 29).alloc (.cells #[.int .i64 bL, .int .i64 bH] 29))
  have N2 := Lib.hid (Two.new (w2.alloc (.cells #[.int .i64 aL, .int .i64 aH] 29)) (.int .i64 bL) (.int .i64 bH) 29)
  rw [World.size_alloc] at N2
  replace X1 := Lib.hid (bel_trans X1.out (bel_trans gg (bel_alloc (o := .cells #[.int .i64 aL, .int .i64 aH] 29) (bel_alloc (o := .cells #[.int .i64 bL, .int .i64 bH] 29) (Below.refl _ _))))); clear gg
  obtain ⟨r0, r1, rf0, rf1, rlt⟩ := T0.out
  obtain ⟨n0, n1, _, _, _⟩ := N1.out
  obtain ⟨k0, k1, _, _, _⟩ := N2.out
  go_wp2_with fail
  go_quiet (fail)
  go_wp2
  have TD : Two w.heap.size (((w2.alloc (.cells #[.int .i64 aL, .int .i64 aH] 29)).alloc (.cells #[.int .i64 bL, .int .i64 bH] 29)).drewN nq) (.int .i64 0) (.int .i64 0) := T0.out.below (bel_drewN _ _)
  have XD : Below w.heap.size w (((w2.alloc (.cells #[.int .i64 aL, .int .i64 aH] 29)).alloc (.cells #[.int .i64 bL, .int .i64 bH] 29)).drewN nq) := bel_trans X1.out (bel_drewN _ _)
  obtain ⟨t0, t1⟩ := two_read _ w.heap.size (.int .i64 (3 * (y - x) * mL * mL)) (.int .i64 (3 * (y - x) * mH * mH)) TD.1 TD.2.1
  refine bodyPost_ret (v := .agg #[.int .i64 (3 * (y - x) * mL * mL), .int .i64 (3 * (y - x) * mH * mH)]) (by simp [results, Tryz.results26, go_sem, t0, t1]) rfl ?_
  exact ⟨rfl, (XD.setCell (Nat.le_refl _) _).setCell (Nat.le_refl _) _⟩
theorem fieldB0 (a b : Int) (w : World) : (Instr.field 29 (.agg #[.int .i64 a, .int .i64 b]) 0).run Tryz.prog w = .ok (.int .i64 a) w := by kernel_rfl
theorem fieldB1 (a b : Int) (w : World) : (Instr.field 29 (.agg #[.int .i64 a, .int .i64 b]) 1).run Tryz.prog w = .ok (.int .i64 b) w := by kernel_rfl
def SpI (w : World) (lo hi : Int) (W : World) : Prop :=
  Two w.heap.size W (.int .i64 lo) (.int .i64 hi) ∧ Two (w.heap.size + 1) W (.int .i64 0) (.int .i64 0) ∧ Below w.heap.size w W
theorem SpI.below {w : World} {lo hi : Int} {W W' : World} (h : SpI w lo hi W) (hb : Below W.heap.size W W') : SpI w lo hi W' := ⟨h.1.below hb, h.2.1.below hb, bel_trans h.2.2 hb⟩
set_option maxRecDepth 100000 in
set_option maxHeartbeats 16000000 in
theorem rstSpace_any (lo hi : Int) (w : World) (l0 : 0 ≤ lo) (l1 : lo ≤ 3000000000000000) (h0 : 0 ≤ hi) (h1 : hi ≤ 3000000000000000) :
    Calls Tryz.prog 23 #[.agg #[.int .i64 lo, .int .i64 hi]] w fun e w' => e = .returned (.agg #[.int .i64 (lo * 333 / 318), .int .i64 ((hi * 355 + 338) / 339)]) ∧ Below w.heap.size w w' := by
  have HL : Hid (∀ W, _) := Lib.hid fun W => refBo_any lo W ⟨l0, l1⟩
  have HH : Hid (∀ W, _) := Lib.hid fun W => refBo_any hi W ⟨h0, h1⟩
  have eL : cbL lo = lo * 333 / 318 := rfl
  have eH : cbH hi = (hi * 355 + 338) / 339 := rfl
  rw [eL] at HL
  rw [eH] at HH
  have fl := fieldB0 (lo * 333 / 318) (cbH lo)
  have fh := fieldB1 (cbL hi) ((hi * 355 + 338) / 339)
  clear eL eH
  generalize lo * 333 / 318 = y0 at *
  generalize (hi * 355 + 338) / 339 = y1 at *
  generalize cbH lo = z0 at *
  generalize cbL hi = z1 at *
  have S0 : Hid (SpI w lo hi ((w.alloc (.cells #[.int .i64 lo, .int .i64 hi] 29)).alloc (.cells #[.int .i64 0, .int .i64 0] 29)).drew) := Lib.hid (SpI.below (W := (w.alloc (.cells #[.int .i64 lo, .int .i64 hi] 29)).alloc (.cells #[.int .i64 0, .int .i64 0] 29)) ⟨(Two.new w (.int .i64 lo) (.int .i64 hi) 29).alloc _, by
    have := Two.new (w.alloc (.cells #[.int .i64 lo, .int .i64 hi] 29)) (.int .i64 0) (.int .i64 0) 29
    rwa [World.size_alloc] at this, bel_alloc (bel_alloc (Below.refl _ _))⟩ (bel_drew _))
  obtain ⟨⟨b0, b1, _, _, _⟩, ⟨t0, t1, f0, f1, _⟩, _⟩ := S0.out
  go_enter Tryz.func23, Tryz.ntmps23
  go_wp2_with fail
  go_region_held3 (fun w' => w'.cell? ⟨w.heap.size, 0, none⟩ = some (.int .i64 lo) ∧ w'.cell? ⟨w.heap.size, 1, none⟩ = some (.int .i64 hi)) (go_keep) (first
    | (go_at_call 41; (with_reducible refine (HL.out _).mono ?_); rintro e w3 ⟨rfl, gg⟩; replace S0 := Lib.hid (S0.out.below gg); obtain ⟨⟨b0, b1, _, _, _⟩, ⟨t0, t1, f0, f1, _⟩, _⟩ := S0.out; have fl3 := fl w3; have fh3 := fh w3; clear gg)
    | (go_at_call 41; (with_reducible refine (HH.out _).mono ?_); rintro e w3 ⟨rfl, gg⟩; replace S0 := Lib.hid (S0.out.below gg); obtain ⟨⟨b0, b1, _, _, _⟩, ⟨t0, t1, f0, f1, _⟩, _⟩ := S0.out; have fl3 := fl w3; have fh3 := fh w3; clear gg))
  all_goals
    go_wp2
    obtain ⟨t0, t1⟩ := two_read _ (w.heap.size + 1) (.int .i64 y0) (.int .i64 y1) S0.out.2.1.1 S0.out.2.1.2.1
    refine bodyPost_ret (v := .agg #[.int .i64 y0, .int .i64 y1]) (by simp [results, Tryz.results23, go_sem, t0, t1]) rfl ?_
    exact ⟨rfl, (S0.out.2.2.setCell (Nat.le_succ _) _).setCell (Nat.le_succ _) _⟩
end Go.Proofs.YtmdpdpbkbakidaaGreat

/- The reference of layer 12: Sums. -/
namespace Go.Proofs.YtmdpdpbkbakidaaGreat
open Go.RowKit

namespace ERT
theorem ownB_nil (W : World) (B : Nat) : OwnB W B (.slice none 0 0) [] := World.ownsRow_nil _ _ _ _
theorem ownB_below {W W' : World} {B : Nat} {v : Value} {l : List (Int × Int)} (h : OwnB W B v l) (hb : Below W.heap.size W W') : OwnB W' B v l := row_belB h hb
theorem flat_two (x y : Int) : flat [(x, y)] = [.int .i64 x, .int .i64 y] := rfl
theorem pair_new (w : World) (y0 y1 : Int) (T : TypeId) (j : Nat) (u : Value) (hj : [Value.int .i64 y0, .int .i64 y1][j]? = some u) : (w.alloc (.cells #[.int .i64 y0, .int .i64 y1] T)).cell? ((⟨w.heap.size, 0, none⟩ : Addr).add j) = some u := by
  obtain ⟨n0, n1, _, _, _⟩ := Two.new w (.int .i64 y0) (.int .i64 y1) T
  rw [Go.WideShapes.add_plain, Nat.zero_add]
  match j, hj with
  | 0, hj => simp at hj; rw [← hj]; exact n0
  | 1, hj => simp at hj; rw [← hj]; exact n1
  | j + 2, hj => simp at hj
theorem pair_one (y0 y1 : Int) : ∀ u ∈ [Value.int .i64 y0, .int .i64 y1], u.oneCell' = true := by
  intro u hu; simp at hu; rcases hu with rfl | rfl <;> rfl
theorem ownB_push {W : World} {B k : Nat} {v : Value} {l m : List (Int × Int)} {y0 y1 : Int} (e : m = l ++ [(y0, y1)]) (hk : l.length = k) (h : W.ownsRow B 29 2 v (k + 1) (flat l ++ [.int .i64 y0, .int .i64 y1])) : OwnB W B v m := by
  rw [e]
  unfold OwnB
  rw [flat_app, flat_two, List.length_append, hk]
  exact h
theorem two_grownO {w w' : World} {b : Nat} {o : Option Nat} {x y : Value} (h : Two b w x y) (hg : w.grownBy w' o) (hne : o ≠ some b) : Two b w' x y := by
  obtain ⟨h0, h1, h2, h3, h4⟩ := h
  have hb := hg.block b h4 (fun e => hne e.symm)
  exact ⟨(World.cell?_of_block hb).trans h0, (World.cell?_of_block hb).trans h1, (World.frozen?_of_block hb).trans h2, (World.frozen?_of_block hb).trans h3, Nat.lt_of_lt_of_le h4 hg.size⟩
/-- what the loop of Sums keeps -/
def SmI (w1 : World) (v : Value) (L : List (Int × Int)) (x y : Int) (W : World) : Prop :=
  Below w1.heap.size w1 W ∧ Two w1.heap.size W (.int .i64 x) (.int .i64 y) ∧ OwnB W (w1.heap.size + 1) v L
theorem SmI.below {w1 : World} {v : Value} {L : List (Int × Int)} {x y : Int} {W W' : World} (h : SmI w1 v L x y W) (hb : Below W.heap.size W W') : SmI w1 v L x y W' :=
  ⟨bel_trans h.1 hb, h.2.1.below hb, ownB_below h.2.2 hb⟩
theorem ownB_set {W : World} {B : Nat} {v : Value} {l : List (Int × Int)} (h : OwnB W B v l) (p : Addr) (hp : p.block < B) (z : Value) : OwnB (W.setCell p z) B v l := by
  obtain ⟨h1, h2⟩ := h
  refine ⟨h1, ?_⟩
  rcases h2 with ⟨h2, h3⟩ | ⟨g, cap, cur, h2, hg, hh, r⟩
  · exact .inl ⟨h2, h3⟩
  · refine .inr ⟨g, cap, cur, h2, hg, ?_, r⟩
    rw [Below.heap_setCell _ _ _ _ (by omega)]
    exact hh
theorem SmI.put {w1 : World} {v : Value} {L : List (Int × Int)} {x y : Int} {W : World} (h : SmI w1 v L x y W) (p q : Int) : SmI w1 v L p q ((W.setCell ⟨w1.heap.size, 0, none⟩ (.int .i64 p)).setCell ⟨w1.heap.size, 1, none⟩ (.int .i64 q)) :=
  ⟨(h.1.setCell (p := ⟨w1.heap.size, 0, none⟩) (Nat.le_refl _) _).setCell (p := ⟨w1.heap.size, 1, none⟩) (Nat.le_refl _) _, (h.2.1.set0 _).set1 _, ownB_set (ownB_set h.2.2 ⟨w1.heap.size, 0, none⟩ (by show w1.heap.size < _; omega) _) ⟨w1.heap.size, 1, none⟩ (by show w1.heap.size < _; omega) _⟩
end ERT
open ERT
theorem rstSm_bad (nm : ByteArray) (cps dc E : Int) (a : Option Addr) (m cap : Nat) (u : Value) (w : World) (e2 : (E != 0) = true)
    (H1 : Hid (∀ W, Below w.heap.size w W → Calls Tryz.prog 25 #[.agg #[.string nm, .int .i64 cps, .slice a m cap, .int .i64 dc], u] W fun e w' => e = .returned (.int .i64 E) ∧ Below W.heap.size W w')) :
    Calls Tryz.prog 12 #[.agg #[.string nm, .int .i64 cps, .slice a m cap, .int .i64 dc], u] w fun e w' => e = .returned (.tuple #[.slice none 0 0, .int .i64 E]) ∧ Below w.heap.size w w' := by
  go_enter Tryz.func12, Tryz.ntmps12
  go_wp2_with fail
  refine (H1.out _ (bel_alloc (Below.refl _ _))).mono ?_
  rintro e w1 ⟨rfl, gg⟩
  have X1 := Lib.hid (bel_alloc gg); clear gg
  go_wp2
  go_returns
  exact ⟨rfl, X1.out⟩
set_option maxRecDepth 100000 in
set_option maxHeartbeats 32000000 in
theorem rstSm_ok (nm : ByteArray) (cps dc : Int) (a : Option Addr) (m cap : Nat) (b off q cap2 : Nat) (z sL sH eL eH : Nat → Int) (w : World) (q1 : 1 ≤ q) (q2 : q ≤ 127) (hb : b < w.heap.size)
    (e0 : eL 0 = 0 ∧ eH 0 = 0) (es : Hid (∀ k, k < q → eL (k + 1) = eL k + sL k ∧ eH (k + 1) = eH k + sH k)) (bd : Hid (∀ k, k ≤ q → 0 ≤ eL k ∧ eL k ≤ 3000000000000000 ∧ 0 ≤ eH k ∧ eH k ≤ 3000000000000000))
    (hc : Hid (∀ j, j < q + 1 → w.cell? ⟨b, off + j, none⟩ = some (.int .i64 (z j))))
    (H1 : Hid (∀ W, Below w.heap.size w W → Calls Tryz.prog 25 #[.agg #[.string nm, .int .i64 cps, .slice a m cap, .int .i64 dc], .slice (some ⟨b, off, none⟩) (q + 1) cap2] W fun e w' => e = .returned (.int .i64 0) ∧ Below W.heap.size W w'))
    (H2 : Hid (∀ k W, k < q → Below w.heap.size w W → Calls Tryz.prog 26 #[.slice a m cap, .int .i64 (z k), .int .i64 (z (k + 1))] W fun e w' => e = .returned (.agg #[.int .i64 (sL k), .int .i64 (sH k)]) ∧ Below W.heap.size W w')) :
    Calls Tryz.prog 12 #[.agg #[.string nm, .int .i64 cps, .slice a m cap, .int .i64 dc], .slice (some ⟨b, off, none⟩) (q + 1) cap2] w fun e w' => ∃ v, e = .returned (.tuple #[v, .int .i64 0]) ∧ Pts w' v ((List.range q).map fun i => (eL (i + 1), eH (i + 1))) ∧ Below w.heap.size w w' := by
  obtain ⟨i0, hi, hz0, hz1, hz2⟩ := info_parts bd_info
  replace hi := Lib.hid hi
  replace hz0 := Lib.hid hz0
  replace hz1 := Lib.hid hz1
  replace hz2 := Lib.hid hz2
  have F0 := Lib.hid (Quad.new w (.string nm) (.int .i64 cps) (.slice a m cap) (.int .i64 dc) 24)
  go_enter Tryz.func12, Tryz.ntmps12
  go_wp2_with fail
  refine (H1.out _ (bel_alloc (Below.refl _ _))).mono ?_
  rintro e w1 ⟨rfl, gg⟩
  replace F0 := Lib.hid (F0.out.below gg)
  have X1 := Lib.hid (bel_alloc gg); clear gg
  have hw1 : w.heap.size < w1.heap.size := F0.out.2.2.2.2.2
  have S0 : Hid (SmI w1 (.slice none 0 0) ((List.range 0).map fun i => (eL (i + 1), eH (i + 1))) (eL 0) (eH 0) (w1.alloc (.cells #[.int .i64 0, .int .i64 0] 29))) := Lib.hid ⟨bel_alloc (Below.refl _ _), by rw [e0.1, e0.2]; exact Two.new w1 _ _ _, ownB_nil _ _⟩
  go_wp2_with fail
  go_loopw [7, 9] (fun v ii wr => ∃ k : Nat, k ≤ q ∧ ii = .int .i64 ((k : Int) + 1) ∧ Hid (SmI w1 v ((List.range k).map fun i => (eL (i + 1), eH (i + 1))) (eL k) (eH k) wr)) (fun _ ii _ => q + 1 - (intOf ii).toNat)
  case atStart => exact ⟨0, Nat.zero_le _, rfl, S0⟩
  case round =>
    clear S0
    obtain ⟨k, hk, rfl, hS⟩ := hrel
    by_cases hlt : k < q
    · have HB := Lib.hid (fun W (hW : Below wr.heap.size wr W) => H2.out k W hlt (bel_trans (X1.out.trans (hS.out.1.mono X1.out.size)) hW))
      have D0 := Lib.hid (hc.out k (by omega))
      have D1 := Lib.hid (hc.out (k + 1) (by omega))
      have b0 := bd.out k hk
      have b1 := bd.out (k + 1) (by omega)
      have st := es.out k hlt
      have PK : Hid ((List.range (k + 1)).map (fun i => (eL (i + 1), eH (i + 1))) = (List.range k).map (fun i => (eL (i + 1), eH (i + 1))) ++ [(eL k + sL k, eH k + sH k)]) := Lib.hid (by rw [List.range_succ, List.map_append]; show _ ++ [(eL (k + 1), eH (k + 1))] = _; rw [st.1, st.2])
      have hln : ((List.range k).map (fun i => (eL (i + 1), eH (i + 1)))).length = k := by simp
      rw [st.1, st.2] at b1
      replace st := Lib.hid st
      generalize (List.range k).map (fun i => (eL (i + 1), eH (i + 1))) = L at *
      generalize eL k = x at *
      generalize eH k = y at *
      generalize sL k = p0 at *
      generalize sH k = p1 at *
      generalize z k = h0 at *
      generalize z (k + 1) = h1 at *
      have l0 : (k : Int) < (q : Int) := by omega
      have l1 : (k : Int) < (q : Int) + 1 := by omega
      have l2 : (k : Int) + 1 < (q : Int) + 1 := by omega
      have l3 : 0 ≤ (k : Int) + 1 := by omega
      have l4 : ((k : Int) + 1).toNat = k + 1 := by omega
      have w1' : IntKind.i64.wrap ((k : Int) + 1 - 1) = (k : Int) := by rw [wrap_in _ ⟨by omega, by omega⟩]; omega
      have w2' : IntKind.i64.wrap (k : Int) = (k : Int) := wrap_in _ ⟨by omega, by omega⟩
      have wx : IntKind.i64.wrap (x + p0) = x + p0 := wrap_in _ ⟨by omega, by omega⟩
      have wy : IntKind.i64.wrap (y + p1) = y + p1 := wrap_in _ ⟨by omega, by omega⟩
      have CE : Hid (∀ W, Below w1.heap.size w1 W → W.cell? ⟨w.heap.size, 2, none⟩ = some (.slice a m cap) ∧ W.cell? ⟨b, off + k, none⟩ = some (.int .i64 h0) ∧ W.cell? ⟨b, off + (k + 1), none⟩ = some (.int .i64 h1) ∧ w.heap.size ≠ W.heap.size ∧ W.heap.size ≠ w.heap.size ∧ b ≠ W.heap.size ∧ W.heap.size ≠ b) := Lib.hid fun W hW => by
        obtain ⟨c0, c1, c2, c3, _, _⟩ := F0.out.below hW
        have BW : Below w.heap.size w W := X1.out.trans (hW.mono X1.out.size)
        have := hW.size
        exact ⟨c2, by rw [(bcell BW).1 _ _ hb]; exact D0.out, by rw [(bcell BW).1 _ _ hb]; exact D1.out, by omega, by omega, by omega, by omega⟩
      obtain ⟨c2, d0, d1, n0, n1, n2, n3⟩ := CE.out wr hS.out.1
      have hlt1 : Hid (w1.heap.size < wr.heap.size) := Lib.hid hS.out.2.1.2.2.2.2
      go_upto_region 9 with fail
      go_cut [10] from 18 to 51 (fun s wx => ∃ p : Nat, s = .pointer (some ⟨p, 0, none⟩) ∧ Hid (Below wr.heap.size wr wx) ∧ Hid (Two p wx (.int .i64 p0) (.int .i64 p1)) ∧ wr.heap.size ≤ p)
      case first =>
        go_region_held3 (fun w' => w'.cell? ⟨w.heap.size, 2, none⟩ = some (.slice a m cap) ∧ w'.cell? ⟨b, off + k, none⟩ = some (.int .i64 h0) ∧ w'.cell? ⟨b, off + (k + 1), none⟩ = some (.int .i64 h1)) (go_keep) (first
          | (go_at_call 26; (with_reducible refine (HB.out _ (bel_drew wr)).mono ?_); rintro e w3 ⟨rfl, gg⟩; have A1 := Lib.hid (bel_trans (bel_drew wr) gg); obtain ⟨c2, d0, d1, n0, n1, n2, n3⟩ := CE.out w3 (bel_trans hS.out.1 A1.out); clear gg)
          | (go_at_call 26; (with_reducible refine (HB.out _ (bel_alloc (bel_drew _))).mono ?_); rintro e w3 ⟨rfl, gg⟩; have A1 := Lib.hid (bel_trans (bel_alloc (bel_drew (wr.alloc (.cells #[.int .i64 0, .int .i64 0] 29)))) gg); have P1 := Lib.hid ((Two.new wr (.int .i64 0) (.int .i64 0) 29).below (bel_trans (bel_drew _) gg)); obtain ⟨t0, t1, t2, t3, _⟩ := P1.out; obtain ⟨c2, d0, d1, n0, n1, n2, n3⟩ := CE.out w3 (bel_trans hS.out.1 A1.out); clear gg))
        all_goals go_wp2_with fail
        all_goals go_meet
        all_goals first
          | exact ⟨_, rfl, Lib.hid (bel_al2 A1.out _), Lib.hid (Two.new _ _ _ _), A1.out.size⟩
          | exact ⟨_, rfl, Lib.hid ((A1.out.setCell (p := ⟨wr.heap.size, 0, none⟩) (Nat.le_refl _) _).setCell (p := ⟨wr.heap.size, 1, none⟩) (Nat.le_refl _) _), Lib.hid ((P1.out.set0 _).set1 _), Nat.le_refl _⟩
      case rest =>
        clear c2 d0 d1 n0 n1 n2 n3
        obtain ⟨p, rfl, hB, hP, hp⟩ := hcut
        have S1 := Lib.hid (hS.out.below hB.out)
        have pn : p ≠ w1.heap.size := by have := hlt1.out; omega
        have pn2 : w1.heap.size ≠ p := fun e => pn e.symm
        obtain ⟨x0, x1, xf0, xf1, _⟩ := S1.out.2.1
        obtain ⟨a0, a1, _, _, _⟩ := hP.out
        have S2 : Hid (SmI w1 u7 L (x + p0) (y + p1) ((wc.setCell ⟨w1.heap.size, 0, none⟩ (.int .i64 (x + p0))).setCell ⟨w1.heap.size, 1, none⟩ (.int .i64 (y + p1))).drew) := Lib.hid (SmI.below (W := (wc.setCell ⟨w1.heap.size, 0, none⟩ (.int .i64 (x + p0))).setCell ⟨w1.heap.size, 1, none⟩ (.int .i64 (y + p1))) (S1.out.put _ _) (bel_drew _))
        clear HB CE D0 D1 b0 b1
        go_upto_region 10 with fail
        go_region
        clear x0 x1 xf0 xf1 a0 a1 hP hB S1
        obtain ⟨x0, x1, _, _, _⟩ := S2.out.2.1
        generalize ((wc.setCell ⟨w1.heap.size, 0, none⟩ (.int .i64 (x + p0))).setCell ⟨w1.heap.size, 1, none⟩ (.int .i64 (y + p1))).drew = W2 at *
        generalize x + p0 = x' at *
        generalize y + p1 = y' at *
        have OA : Hid ((W2.alloc (.cells #[.int .i64 x', .int .i64 y'] 29)).ownsRow (w1.heap.size + 1) 29 2 u7 k (flat L)) := Lib.hid (by
          have := ownB_below S2.out.2.2 (bel_alloc (o := .cells #[.int .i64 x', .int .i64 y'] 29) (Below.refl _ _))
          unfold OwnB at this
          rwa [hln] at this)
        have CN := Lib.hid (pair_new W2 x' y' 29)
        have S3 := Lib.hid (S2.out.below (bel_alloc (o := .cells #[.int .i64 x', .int .i64 y'] 29) (Below.refl _ _)))
        have HS : Hid (w1.heap.size + 1 ≤ (W2.alloc (.cells #[.int .i64 x', .int .i64 y'] 29)).heap.size) := Lib.hid S3.out.2.1.2.2.2.2
        have M1 : Hid (k + 1 ≤ maxLen) := Lib.hid (by unfold maxLen; omega)
        have M2 : Hid ((k + 1) * 16 ≤ 140737488355328) := Lib.hid (by omega)
        go_wp2_with (at_builtin; refine wpList_append_own_at _ rfl _ _ 35 rfl (w1.heap.size + 1) 29 i0 (.agg #[.int .i64 0, .int .i64 0]) 2 16 Tryz.underlying35 hi.out hz0.out hz1.out hz2.out rfl (by omega) _ _ _ rfl OA.out ⟨W2.heap.size, 0, none⟩ 1 1 [.int .i64 x', .int .i64 y'] rfl rfl CN.out (pair_one x' y') M1.out M2.out HS.out ?_)
        intro v2 w4 hown hgrow _ _
        have SN : Hid (SmI w1 v2 ((List.range (k + 1)).map (fun i => (eL (i + 1), eH (i + 1)))) (eL (k + 1)) (eH (k + 1)) w4) := Lib.hid (by
          have lt := fun r hr => (World.ownsRow.lt OA.out r hr).1
          rw [st.out.1, st.out.2]
          exact ⟨S3.out.1.grown hgrow (by have := HS.out; omega) (fun r hr => by have := lt r hr; omega), two_grownO S3.out.2.1 hgrow (fun e => by have := lt _ e; omega), ownB_push PK.out hln hown⟩)
        clear hown hgrow OA CN
        go_wp2
        go_roundw
        case rel => exact ⟨k + 1, by omega, by go_num, SN⟩
        case measure => simp [intOf]; omega
    · obtain rfl : k = q := by omega
      go_wp2
      go_returns
      exact ⟨_, rfl, hS.out.2.2.pts, X1.out.trans (hS.out.1.mono X1.out.size)⟩
theorem rstStep_any (v : Value) (l : List (Int × Int)) (ls : List Int) (k : Nat) (w : World) (hv : Pts w v l) (hR : RP l) (hL : LvR l ls) (hk : k + 1 < ls.length) :
    Calls Tryz.prog 26 #[v, .int .i64 (ls.getD k 0), .int .i64 (ls.getD (k + 1) 0)] w fun e w' => e = .returned (.agg #[.int .i64 (3 * ((ls.getD (k + 1) 0 - ls.getD k 0) * (slL l (ls.getD k 0) (ls.getD (k + 1) 0) * slL l (ls.getD k 0) (ls.getD (k + 1) 0)))), .int .i64 (3 * ((ls.getD (k + 1) 0 - ls.getD k 0) * (slH l (ls.getD k 0) (ls.getD (k + 1) 0) * slH l (ls.getD k 0) (ls.getD (k + 1) 0))))]) ∧ Below w.heap.size w w' := by
  have s := hL.slice hR (k := k) hk
  have b0 := hL.bd k (by omega)
  have b1 := hL.bd (k + 1) hk
  have xx := (hR.bx (l.length - 1) (by have := hR.n0; omega)).2
  have st := en_step hR hL (k := k) hk
  have e2 : ∀ d r : Int, 3 * (d * (r * r)) = 3 * d * r * r := fun d r => by rw [Int.mul_assoc, Int.mul_assoc]
  rw [e2, e2] at st ⊢
  unfold slL slH at s st ⊢
  exact rstStep_core v _ _ _ _ _ _ w (by omega) (by omega) (by omega) (by omega) (by omega) (by omega) (by omega) (by omega) (by omega) (Lib.hid fun W hW => radius_of (hv.below hW) hR _ b0.1 b0.2) (Lib.hid fun W hW => radius_of (hv.below hW) hR _ b1.1 b1.2)
theorem rstSm_any (v u : Value) (c : Ck) (ls : List Int) (w : World) (hv : CkV w v c) (hu : Nums w u ls) :
    Calls Tryz.prog 12 #[v, u] w fun e w' => ∃ z, e = .returned (.tuple #[z, .int .i64 (stE c ls)]) ∧ Pts w' z (smL c ls) ∧ Below w.heap.size w w' := by
  have H1 : Hid (∀ W, Below w.heap.size w W → _) := Lib.hid fun W hW => rstChk_any v u c ls W (hv.below hW) (hu.below hW)
  unfold smL
  by_cases g : stE c ls = 0
  · obtain ⟨⟨h1, h2⟩, hL⟩ := stE_zero.1 g
    obtain ⟨_, _, _, hR⟩ := ccE_pf h1
    rw [if_pos g, g]
    rw [g] at H1
    obtain ⟨a, cap, rfl, hp, _⟩ := hv
    have n0 := hL.n0
    have n1 := hL.n1
    obtain ⟨q, hq⟩ : ∃ q, ls.length = q + 1 := ⟨ls.length - 1, by omega⟩
    obtain ⟨a2, cap2, rfl, hcap, hh⟩ := hu
    rcases hh with h0 | ⟨b, off, rfl, hb, hc⟩
    · omega
    · rw [hq] at H1 ⊢
      rw [Nat.add_sub_cancel]
      have := rstSm_ok c.nm c.ps c.dc a c.pf.length cap b off q cap2 (fun j => ls.getD j 0) (fun k => 3 * ((ls.getD (k + 1) 0 - ls.getD k 0) * (slL c.pf (ls.getD k 0) (ls.getD (k + 1) 0) * slL c.pf (ls.getD k 0) (ls.getD (k + 1) 0)))) (fun k => 3 * ((ls.getD (k + 1) 0 - ls.getD k 0) * (slH c.pf (ls.getD k 0) (ls.getD (k + 1) 0) * slH c.pf (ls.getD k 0) (ls.getD (k + 1) 0)))) (enL c.pf ls) (enH c.pf ls) w (by omega) (by omega) hb ⟨rfl, rfl⟩ (Lib.hid fun k hk => ⟨rfl, rfl⟩) (Lib.hid fun k hk => by have := en_top hR hL k (by omega); omega) (Lib.hid fun j hj => hc j (by omega)) H1 (Lib.hid fun k W hk hW => rstStep_any _ c.pf ls k W (hp.below hW) hR hL (by omega))
      exact this
  · rw [if_neg g]
    obtain ⟨a, cap, rfl, hp, _⟩ := hv
    refine (rstSm_bad _ _ _ _ a _ cap u w (by simpa using g) H1).mono ?_
    rintro e w' ⟨rfl, hb⟩
    exact ⟨_, rfl, pts_nil _, hb⟩
end Go.Proofs.YtmdpdpbkbakidaaGreat

/- The reference of layer 12: the next level. -/
namespace Go.Proofs.YtmdpdpbkbakidaaGreat
open Go.RowKit

set_option maxRecDepth 100000 in
set_option maxHeartbeats 8000000 in
theorem rstNext_some (b off m cap : Nat) (l : List (Int × Int)) (d x : Int) (n : Nat) (w : World) (m1 : m ≤ 1000) (d0 : 0 ≤ d) (d2 : d ≤ 100000) (n0 : 1 ≤ n) (n1 : n ≤ 64)
    (hc : Hid (∀ j, j < m → w.cell? ⟨b, off + j * 2, none⟩ = some (.int .i64 (gX l j)))) :
    Calls Tryz.prog 68 #[.slice (some ⟨b, off, none⟩) m cap, .int .i64 d, .int .i64 n, .int .i64 x] w fun e w' => e = .returned (.int .i64 (nxB l d n x m)) ∧ w' = w := by
  go_enter Tryz.func68, Tryz.ntmps68
  go_wp2_with fail
  go_loopw [9, 10, 11] (fun bb ii _ wr => ∃ k : Nat, k ≤ n + 1 ∧ ii = .int .i64 k ∧ bb = .int .i64 (nxA d n x k) ∧ w = wr) (fun _ ii _ _ => n + 1 - (intOf ii).toNat)
  case atStart => exact ⟨0, by omega, rfl, rfl, rfl⟩
  case round =>
    obtain ⟨k, hk, rfl, rfl, rfl⟩ := hrel
    by_cases hlt : k < n + 1
    · have hF : Hid (muF d n k = (k : Int) * d / (n : Int)) := Lib.hid rfl
      have m0 : 0 ≤ (k : Int) * d ∧ (k : Int) * d ≤ 64 * 100000 := ⟨Int.mul_nonneg (by omega) d0, Int.mul_le_mul (by omega) d2 d0 (by omega)⟩
      have dv : 0 ≤ (k : Int) * d / (n : Int) ∧ (k : Int) * d / (n : Int) ≤ (k : Int) * d := ⟨Int.ediv_nonneg m0.1 (by omega), Int.ediv_le_self _ m0.1⟩
      have q1 : IntKind.i64.wrap ((k : Int) * d) = (k : Int) * d := wrap_in _ ⟨by omega, by omega⟩
      have q2 : IntKind.i64.wrap (((k : Int) * d).tdiv n) = muF d n k := by rw [Int.tdiv_eq_ediv_of_nonneg m0.1, hF.out]; exact wrap_in _ ⟨by omega, by omega⟩
      have nz : ¬ (n : Int) = 0 := by omega
      have nz2 : ((n : Int) == 0) = false := by simp; omega
      have l0 : (k : Int) ≤ (n : Int) := by omega
      have hA : Hid (nxA d n x (k + 1) = if x < muF d n k ∧ muF d n k < nxA d n x k then muF d n k else nxA d n x k) := Lib.hid rfl
      generalize muF d n k = y at *
      generalize nxA d n x k = bst at *
      clear m0 dv
      by_cases g1 : x < y
      · have p1 : decide (x < y) = true := decide_eq_true g1
        by_cases g2 : y < bst
        · have p2 : decide (y < bst) = true := decide_eq_true g2
          have hA2 := hA.out
          rw [if_pos ⟨g1, g2⟩] at hA2
          replace hA := Lib.hid hA2
          clear hA2 g1 g2
          go_wp2
          go_roundw
          case rel => exact ⟨k + 1, by omega, by go_num, by rw [hA.out], by first | rfl | trivial⟩
          case measure => simp [intOf]; omega
        · have p2 : decide (y < bst) = false := decide_eq_false g2
          have hA2 := hA.out
          rw [if_neg (fun h => g2 h.2)] at hA2
          replace hA := Lib.hid hA2
          clear hA2 g1 g2
          go_wp2
          go_roundw
          case rel => exact ⟨k + 1, by omega, by go_num, by rw [hA.out], by first | rfl | trivial⟩
          case measure => simp [intOf]; omega
      · have p1 : decide (x < y) = false := decide_eq_false g1
        have hA2 := hA.out
        rw [if_neg (fun h => g1 h.1)] at hA2
        replace hA := Lib.hid hA2
        clear hA2 g1
        go_wp2
        go_roundw
        case rel => exact ⟨k + 1, by omega, by go_num, by rw [hA.out], by first | rfl | trivial⟩
        case measure => simp [intOf]; omega
    · obtain rfl : k = n + 1 := by omega
      have hB0 : Hid (nxB l d n x 0 = nxA d n x (n + 1)) := Lib.hid rfl
      generalize nxA d n x (n + 1) = b0 at *
      clear hlt hk
      have l9 : ¬ ((n + 1 : Nat) : Int) ≤ (n : Int) := by omega
      go_wp2_with fail
      go_loopw [9, 12] (fun bb ii wr => ∃ k : Nat, k ≤ m ∧ ii = .int .i64 k ∧ bb = .int .i64 (nxB l d n x k) ∧ w = wr) (fun _ ii _ => m - (intOf ii).toNat)
      case atStart => exact ⟨0, by omega, rfl, by rw [hB0.out], rfl⟩
      case round =>
        obtain ⟨k, hk, rfl, rfl, rfl⟩ := hrel
        by_cases hlt : k < m
        · have c0 := hc.out k hlt
          have l0 : (k : Int) < (m : Int) := by omega
          have hA : Hid (nxB l d n x (k + 1) = if x < gX l k ∧ gX l k < nxB l d n x k then gX l k else nxB l d n x k) := Lib.hid rfl
          generalize gX l k = y at *
          generalize nxB l d n x k = bst at *
          by_cases g1 : x < y
          · have p1 : decide (x < y) = true := decide_eq_true g1
            by_cases g2 : y < bst
            · have p2 : decide (y < bst) = true := decide_eq_true g2
              have hA2 := hA.out
              rw [if_pos ⟨g1, g2⟩] at hA2
              replace hA := Lib.hid hA2
              clear hA2 g1 g2
              go_wp2
              go_roundw
              case rel => exact ⟨k + 1, by omega, by go_num, by rw [hA.out], by first | rfl | trivial⟩
              case measure => simp [intOf]; omega
            · have p2 : decide (y < bst) = false := decide_eq_false g2
              have hA2 := hA.out
              rw [if_neg (fun h => g2 h.2)] at hA2
              replace hA := Lib.hid hA2
              clear hA2 g1 g2
              go_wp2
              go_roundw
              case rel => exact ⟨k + 1, by omega, by go_num, by rw [hA.out], by first | rfl | trivial⟩
              case measure => simp [intOf]; omega
          · have p1 : decide (x < y) = false := decide_eq_false g1
            have hA2 := hA.out
            rw [if_neg (fun h => g1 h.1)] at hA2
            replace hA := Lib.hid hA2
            clear hA2 g1
            go_wp2
            go_roundw
            case rel => exact ⟨k + 1, by omega, by go_num, by rw [hA.out], by first | rfl | trivial⟩
            case measure => simp [intOf]; omega
        · obtain rfl : k = m := by omega
          go_wp2
          go_returns
          exact ⟨rfl, rfl⟩
end Go.Proofs.YtmdpdpbkbakidaaGreat

/- The reference of layer 12: Merge, Levels. -/
namespace Go.Proofs.YtmdpdpbkbakidaaGreat
open Go.RowKit

def sLen : Value → Nat
  | .slice _ n _ => n
  | _ => 0
theorem rstNext_at (b off m cap : Nat) (l : List (Int × Int)) (d x : Int) (n : Nat) (w : World) (m1 : m ≤ 1000) (hm : Hid (m = l.length)) (d0 : 0 ≤ d) (d2 : d ≤ 100000) (n0 : 1 ≤ n) (n1 : n ≤ 64)
    (hc : Hid (∀ j, j < m → w.cell? ⟨b, off + j * 2, none⟩ = some (.int .i64 (gX l j)))) :
    Calls Tryz.prog 68 #[.slice (some ⟨b, off, none⟩) m cap, .int .i64 d, .int .i64 n, .int .i64 x] w fun e w' => e = .returned (.int .i64 (nxB l d n x l.length)) ∧ w' = w := by
  rw [← hm.out]
  exact rstNext_some b off m cap l d x n w m1 d0 d2 n0 n1 hc
set_option maxRecDepth 100000 in
set_option maxHeartbeats 16000000 in
theorem rstMrg_some (b off m cap : Nat) (l : List (Int × Int)) (d : Int) (n : Nat) (w : World) (m1 : m ≤ 1000) (hb : b < w.heap.size) (hm : Hid (m = l.length)) (hR : Hid (RP l)) (d0 : 0 ≤ d) (d2 : d ≤ 100000) (n0 : 1 ≤ n) (n1 : n ≤ 64)
    (hc : Hid (∀ j, j < m → w.cell? ⟨b, off + j * 2, none⟩ = some (.int .i64 (gX l j)))) :
    Calls Tryz.prog 50 #[.slice (some ⟨b, off, none⟩) m cap, .int .i64 d, .int .i64 n] w fun e w' => ∃ u, e = .returned u ∧ Nums w' u (lvL l d n) ∧ Below w.heap.size w w' := by
  obtain ⟨i0, hi, hz0, hz1, hz2⟩ := info_parts info_int
  replace hi := Lib.hid hi
  replace hz0 := Lib.hid hz0
  replace hz1 := Lib.hid hz1
  replace hz2 := Lib.hid hz2
  have HN : Hid (∀ x W, Below w.heap.size w W → Calls Tryz.prog 68 #[.slice (some ⟨b, off, none⟩) m cap, .int .i64 d, .int .i64 n, .int .i64 x] W fun e w' => e = .returned (.int .i64 (nxB l d n x l.length)) ∧ w' = W) := Lib.hid fun x W hW => rstNext_at b off m cap l d x n W m1 hm d0 d2 n0 n1 (Lib.hid fun j hj => by rw [(bcell hW).1 _ _ hb]; exact hc.out j hj)
  have O0 := Lib.hid (OwnI.lit w w.heap.size 0 (Nat.le_refl _))
  have B0 : Hid (Below w.heap.size w (w.alloc (.cells #[.int .i64 0] 3))) := Lib.hid (bel_alloc (Below.refl _ _))
  go_enter Tryz.func50, Tryz.ntmps50
  go_wp2_with fail
  go_loopw [7] (fun v wr => ∃ (L : List Int) (x : Int), Hid (MgP l d n L x) ∧ Hid (OwnI wr w.heap.size v L) ∧ Hid (Below w.heap.size w wr)) (fun v _ => d.toNat + 2 - sLen v)
  case atStart => exact ⟨[0], 0, Lib.hid (MgP.start hR.out d0 n0), O0, B0⟩
  case round =>
    obtain ⟨L, x, hM, hO, hB⟩ := hrel
    have k0 := hM.out.n0
    have ks := hM.out.last
    have kl := hM.out.len
    have kx := hM.out.x1
    obtain ⟨g, cp, rfl, hg, hgs, hcp, hcp2, hcell⟩ := hO.out.form (by omega)
    have e0 := hcell (L.length - 1) (by omega)
    rw [ks] at e0
    clear hcell ks
    have OA := hO
    unfold OwnI at OA
    obtain ⟨K, hK⟩ : ∃ K, L.length = K + 1 := ⟨L.length - 1, by omega⟩
    rw [hK] at OA e0 kl
    rw [show K + 1 - 1 = K from rfl] at e0
    have wk : IntKind.i64.wrap (((K + 1 : Nat) : Int) - 1) = (K : Int) := by rw [wrap_in _ ⟨by omega, by omega⟩]; omega
    have wk1 : IntKind.i64.wrap ((K : Int) + 1 - 1) = (K : Int) := by rw [wrap_in _ ⟨by omega, by omega⟩]; omega
    have wk2 : (K : Int) < ((K + 1 : Nat) : Int) := by omega
    have wk3 : (K : Int) < (K : Int) + 1 := by omega
    have wk4 : K < K + 1 := by omega
    rw [hK]
    by_cases hx : x < d
    · have p1 : decide (x < d) = true := decide_eq_true hx
      have hM2 := Lib.hid (hM.out.step n0 hx)
      generalize hy : nxB l d n x l.length = y at *
      have HN2 := HN.out x wr hB.out
      rw [hy] at HN2
      replace HN2 := Lib.hid HN2
      have HS : Hid (w.heap.size ≤ (wr.alloc (.cells #[.int .i64 y] 3)).heap.size) := Lib.hid (Nat.le_trans hB.out.size (bel_alloc (Below.refl _ _)).size)
      have CN := Lib.hid (cell_oneE wr (.int .i64 y) 3)
      have OB := Lib.hid (World.ownsRow.alloc OA.out (.cells #[.int .i64 y] 3))
      have ll := hM2.out.len
      rw [List.length_append, List.length_singleton, hK] at ll
      have hyd := hM2.out.x1
      clear HN hx
      go_wp2_with fail
      refine HN2.out.mono ?_
      rintro e w3 ⟨rfl, h3⟩
      rw [h3]
      clear h3
      go_wp2_with (at_builtin; refine wpList_append_own_at _ rfl _ _ 25 rfl w.heap.size 3 i0 (.int .i64 0) 1 8 Tryz.underlying25 hi.out hz0.out hz1.out hz2.out rfl (by omega) _ _ _ rfl OB.out ⟨wr.heap.size, 0, none⟩ 1 1 [.int .i64 y] rfl rfl CN.out (by intro u hu; rw [List.mem_singleton] at hu; rw [hu]; rfl) ?qd4 ?qd5 HS.out ?_)
      case qd4 => unfold maxLen; omega
      case qd5 => omega
      intro v2 w2 hown3 hgrow _ _
      have SN : Hid (OwnI w2 w.heap.size v2 (L ++ [y])) := Lib.hid (OwnI.push hK.symm hown3)
      have B2 := Lib.hid ((bel_trans hB.out (bel_alloc (o := .cells #[.int .i64 y] 3) (Below.refl _ _))).grown hgrow HS.out (fun q hq => (World.ownsRow.lt OA.out q hq).1))
      obtain ⟨g5, cp5, hv2, _⟩ := SN.out.form (by rw [List.length_append, List.length_singleton]; omega)
      have hs2 : sLen v2 = K + 2 := by rw [hv2]; show (L ++ [y]).length = _; rw [List.length_append, List.length_singleton, hK]
      replace hs2 := Lib.hid hs2
      clear hown3 hgrow OA OB CN hv2
      go_wp2
      go_roundw
      case rel => exact ⟨_, _, hM2, SN, B2⟩
      case measure => rw [hs2.out]; show d.toNat + 2 - (K + 2) < d.toNat + 2 - (K + 1); omega
    · have p1 : decide (x < d) = false := decide_eq_false hx
      obtain rfl : x = d := by omega
      have hL := hM.out.done hR.out n0
      have NV := hO.out.nums
      rw [hK, hL] at NV
      replace NV := Lib.hid NV
      clear HN hx
      go_wp2
      go_returns
      exact ⟨_, rfl, NV.out, hB.out⟩
theorem rstLv_bad (v : Value) (E d n : Int) (w : World) (e2 : (E != 0) = true)
    (H1 : Hid (Calls Tryz.prog 49 #[v] w fun e w' => e = .returned (.int .i64 E) ∧ Below w.heap.size w w')) :
    Calls Tryz.prog 29 #[v, .int .i64 d, .int .i64 n] w fun e w' => e = .returned (.tuple #[.slice none 0 0, .int .i64 1]) ∧ Below w.heap.size w w' := by
  go_enter Tryz.func29, Tryz.ntmps29
  go_wp2_with fail
  refine H1.out.mono ?_
  rintro e w1 ⟨rfl, gg⟩
  have X1 := Lib.hid gg; clear gg
  go_wp2
  go_returns
  exact ⟨rfl, X1.out⟩
theorem rstLv_rng (b off m cap : Nat) (X d n : Int) (w : World) (h : d < 0 ∨ (¬ d < 0 ∧ X < d) ∨ (¬ d < 0 ∧ ¬ X < d ∧ n < 1) ∨ (¬ d < 0 ∧ ¬ X < d ∧ ¬ n < 1 ∧ 64 < n)) (m1 : m + 1 ≤ 1000)
    (hb : b < w.heap.size) (hc : w.cell? ⟨b, off + m * 2, none⟩ = some (.int .i64 X))
    (H1 : Hid (Calls Tryz.prog 49 #[.slice (some ⟨b, off, none⟩) (m + 1) cap] w fun e w' => e = .returned (.int .i64 0) ∧ Below w.heap.size w w')) :
    Calls Tryz.prog 29 #[.slice (some ⟨b, off, none⟩) (m + 1) cap, .int .i64 d, .int .i64 n] w fun e w' => e = .returned (.tuple #[.slice none 0 0, .int .i64 2]) ∧ Below w.heap.size w w' := by
  have wk : IntKind.i64.wrap (((m + 1 : Nat) : Int) - 1) = (m : Int) := by rw [wrap_in _ ⟨by omega, by omega⟩]; omega
  have wk1 : IntKind.i64.wrap ((m : Int) + 1 - 1) = (m : Int) := by rw [wrap_in _ ⟨by omega, by omega⟩]; omega
  have wk2 : (m : Int) < ((m + 1 : Nat) : Int) := by omega
  have wk3 : (m : Int) < (m : Int) + 1 := by omega
  have wk4 : m < m + 1 := by omega
  rcases h with h | ⟨h, h1⟩ | ⟨h, h1, h2⟩ | ⟨h, h1, h2, h3⟩
  all_goals
    go_enter Tryz.func29, Tryz.ntmps29
    go_wp2_with fail
    refine H1.out.mono ?_
    rintro e w1 ⟨rfl, gg⟩
    have c1 : w1.cell? ⟨b, off + m * 2, none⟩ = some (.int .i64 X) := by rw [(bcell gg).1 _ _ hb]; exact hc
    have X1 := Lib.hid gg; clear gg hc
  · have d1 : decide (d < 0) = true := decide_eq_true h
    go_wp2
    go_returns
    exact ⟨rfl, X1.out⟩
  · have d1 : decide (d < 0) = false := decide_eq_false (by omega)
    have d2 : decide (X < d) = true := decide_eq_true h1
    go_wp2
    go_returns
    exact ⟨rfl, X1.out⟩
  · have d1 : decide (d < 0) = false := decide_eq_false (by omega)
    have d2 : decide (X < d) = false := decide_eq_false (by omega)
    have d3 : decide (n < 1) = true := decide_eq_true h2
    go_wp2
    go_returns
    exact ⟨rfl, X1.out⟩
  · have d1 : decide (d < 0) = false := decide_eq_false (by omega)
    have d2 : decide (X < d) = false := decide_eq_false (by omega)
    have d3 : decide (n < 1) = false := decide_eq_false (by omega)
    have d4 : decide (64 < n) = true := decide_eq_true h3
    go_wp2
    go_returns
    exact ⟨rfl, X1.out⟩
theorem rstLv_ok (b off m cap : Nat) (LV : List Int) (X d : Int) (n : Int) (w : World) (d0 : 0 ≤ d) (d1 : d ≤ X) (n0 : 1 ≤ n) (n1 : n ≤ 64) (m1 : m + 1 ≤ 1000)
    (hb : b < w.heap.size) (hc : w.cell? ⟨b, off + m * 2, none⟩ = some (.int .i64 X))
    (H1 : Hid (Calls Tryz.prog 49 #[.slice (some ⟨b, off, none⟩) (m + 1) cap] w fun e w' => e = .returned (.int .i64 0) ∧ Below w.heap.size w w'))
    (H2 : Hid (∀ W, Below w.heap.size w W → Calls Tryz.prog 50 #[.slice (some ⟨b, off, none⟩) (m + 1) cap, .int .i64 d, .int .i64 n] W fun e w' => ∃ u, e = .returned u ∧ Nums w' u LV ∧ Below W.heap.size W w')) :
    Calls Tryz.prog 29 #[.slice (some ⟨b, off, none⟩) (m + 1) cap, .int .i64 d, .int .i64 n] w fun e w' => ∃ u, e = .returned (.tuple #[u, .int .i64 0]) ∧ Nums w' u LV ∧ Below w.heap.size w w' := by
  have wk : IntKind.i64.wrap (((m + 1 : Nat) : Int) - 1) = (m : Int) := by rw [wrap_in _ ⟨by omega, by omega⟩]; omega
  have wk1 : IntKind.i64.wrap ((m : Int) + 1 - 1) = (m : Int) := by rw [wrap_in _ ⟨by omega, by omega⟩]; omega
  have wk2 : (m : Int) < ((m + 1 : Nat) : Int) := by omega
  have wk3 : (m : Int) < (m : Int) + 1 := by omega
  have wk4 : m < m + 1 := by omega
  have g1 : decide (d < 0) = false := decide_eq_false (by omega)
  have g2 : decide (X < d) = false := decide_eq_false (by omega)
  have g3 : decide (n < 1) = false := decide_eq_false (by omega)
  have g4 : decide (64 < n) = false := decide_eq_false (by omega)
  go_enter Tryz.func29, Tryz.ntmps29
  go_wp2_with fail
  refine H1.out.mono ?_
  rintro e w1 ⟨rfl, gg⟩
  have c1 : w1.cell? ⟨b, off + m * 2, none⟩ = some (.int .i64 X) := by rw [(bcell gg).1 _ _ hb]; exact hc
  replace H2 := Lib.hid (H2.out w1 gg)
  have X1 := Lib.hid gg; clear gg hc
  go_wp2_with fail
  refine H2.out.mono ?_
  rintro e w4 ⟨z, rfl, hz, gg⟩
  have Z1 := Lib.hid hz
  have X4 := Lib.hid (bel_trans X1.out gg); clear gg
  obtain ⟨a2, cap2, rfl, _, _⟩ := hz
  generalize LV.length = K at *
  go_wp2
  go_returns
  exact ⟨_, rfl, Z1.out, X4.out⟩
theorem rstLv_any (v : Value) (l : List (Int × Int)) (d n : Int) (w : World) (hv : Pts w v l) :
    Calls Tryz.prog 29 #[v, .int .i64 d, .int .i64 n] w fun e w' => ∃ u, e = .returned (.tuple #[u, .int .i64 (lvsE l d n)]) ∧ Nums w' u (lvsL l d n) ∧ Below w.heap.size w w' := by
  have HL := Lib.hid (refCk_any v l w hv)
  unfold lvsL
  by_cases h : ckE l = 0
  · rw [h] at HL
    have hR := (ckE_iff l).1 h
    have m0 := hR.n0
    have m1 := hR.n1
    obtain ⟨a, cap, rfl, hcap, hh⟩ := hv
    rcases hh with h0 | ⟨b, off, rfl, hb, hc⟩
    · omega
    obtain ⟨m, hm⟩ : ∃ m, l.length = m + 1 := ⟨l.length - 1, by omega⟩
    have bx := hR.bx (l.length - 1) (by omega)
    have cX := (hc (l.length - 1) (by omega)).1
    rw [show l.length - 1 = m by omega] at cX bx
    rw [hm] at HL ⊢
    by_cases g : d < 0 ∨ gX l m < d ∨ n < 1 ∨ 64 < n
    · have e : lvsE l d n = 2 := by unfold lvsE; rw [if_pos h, if_pos (by rw [show l.length - 1 = m by omega]; exact g)]
      rw [e, if_neg (by omega)]
      refine (rstLv_rng b off m cap _ d n w (by omega) (by omega) hb cX HL).mono ?_
      rintro e w' ⟨rfl, hb⟩
      exact ⟨_, rfl, ⟨none, 0, rfl, by simp, .inl rfl⟩, hb⟩
    · have e : lvsE l d n = 0 := by unfold lvsE; rw [if_pos h, if_neg (by rw [show l.length - 1 = m by omega]; exact g)]
      rw [e, if_pos rfl]
      obtain ⟨k, hk⟩ : ∃ k : Nat, n = k := ⟨n.toNat, by omega⟩
      subst hk
      have H2 : Hid (∀ W, Below w.heap.size w W → _) := Lib.hid fun W hW => rstMrg_some b off (m + 1) cap l d k W (by omega) (Nat.lt_of_lt_of_le hb hW.size) (Lib.hid hm.symm) (Lib.hid hR) (by omega) (by omega) (by omega) (by omega) (Lib.hid fun j hj => by rw [(bcell hW).1 _ _ hb]; exact (hc j (by omega)).1)
      exact rstLv_ok b off m cap _ _ d k w (by omega) (by omega) (by omega) (by omega) (by omega) hb cX HL H2
  · have e : lvsE l d n = 1 := by unfold lvsE; rw [if_neg h]
    rw [e, if_neg (by omega)]
    refine (rstLv_bad v (ckE l) d n w (by simpa using h) HL).mono ?_
    rintro e w' ⟨rfl, hb⟩
    exact ⟨_, rfl, ⟨none, 0, rfl, by simp, .inl rfl⟩, hb⟩
end Go.Proofs.YtmdpdpbkbakidaaGreat

/- The reference of layer 12: Between, Wet. -/
namespace Go.Proofs.YtmdpdpbkbakidaaGreat
open Go.RowKit

theorem rstBw_bad (nm : ByteArray) (cps dc E : Int) (a : Option Addr) (m cap : Nat) (u : Value) (w : World) (e1 : (E == 0) = false) (e2 : (E != 0) = true)
    (H1 : Hid (∀ W, Below w.heap.size w W → Calls Tryz.prog 12 #[.agg #[.string nm, .int .i64 cps, .slice a m cap, .int .i64 dc], u] W fun e w' => ∃ z, e = .returned (.tuple #[z, .int .i64 E]) ∧ Pts w' z [] ∧ Below W.heap.size W w')) :
    Calls Tryz.prog 10 #[.agg #[.string nm, .int .i64 cps, .slice a m cap, .int .i64 dc], u] w fun e w' => e = .returned (.tuple #[.agg #[.int .i64 0, .int .i64 0], .int .i64 E]) ∧ Below w.heap.size w w' := by
  have T0 := Lib.hid (Two.new (w.alloc (.cells #[.string nm, .int .i64 cps, .slice a m cap, .int .i64 dc] 24)) (.int .i64 0) (.int .i64 0) 29)
  rw [World.size_alloc] at T0
  go_enter Tryz.func10, Tryz.ntmps10
  go_wp2_with fail
  refine (H1.out _ (bel_alloc (bel_alloc (Below.refl _ _)))).mono ?_
  rintro e w1 ⟨z, rfl, hz, gg⟩
  replace T0 := Lib.hid (T0.out.below gg)
  have X1 := Lib.hid (bel_alloc (bel_alloc gg)); clear gg
  obtain ⟨a2, cp2, rfl, _, _⟩ := hz.shape
  clear hz
  obtain ⟨r0, r1, rf0, rf1, _⟩ := T0.out
  go_wp2
  obtain ⟨t0, t1⟩ := two_read w1 (w.heap.size + 1) (.int .i64 0) (.int .i64 0) r0 r1
  refine bodyPost_ret (v := .tuple #[.agg #[.int .i64 0, .int .i64 0], .int .i64 E]) (by simp [results, Tryz.results10, go_sem, t0, t1]) rfl ?_
  exact ⟨rfl, (X1.out.setCell (Nat.le_succ _) _).setCell (Nat.le_succ _) _⟩
set_option maxHeartbeats 4000000 in
theorem rstBw_ok (nm : ByteArray) (cps dc lo hi : Int) (a : Option Addr) (m cap q : Nat) (u : Value) (L : List (Int × Int)) (w : World) (hq : Hid (L.length = q + 1)) (q1 : q ≤ 200) (hl : Hid (gX L q = lo ∧ gR L q = hi)) (b0 : 0 ≤ lo) (b1 : lo ≤ 3000000000000000) (b2 : 0 ≤ hi) (b3 : hi ≤ 3000000000000000)
    (H1 : Hid (∀ W, Below w.heap.size w W → Calls Tryz.prog 12 #[.agg #[.string nm, .int .i64 cps, .slice a m cap, .int .i64 dc], u] W fun e w' => ∃ z, e = .returned (.tuple #[z, .int .i64 0]) ∧ Pts w' z L ∧ Below W.heap.size W w')) :
    Calls Tryz.prog 10 #[.agg #[.string nm, .int .i64 cps, .slice a m cap, .int .i64 dc], u] w fun e w' => e = .returned (.tuple #[.agg #[.int .i64 (lo * 333 / 318), .int .i64 ((hi * 355 + 338) / 339)], .int .i64 0]) ∧ Below w.heap.size w w' := by
  have T0 := Lib.hid (Two.new (w.alloc (.cells #[.string nm, .int .i64 cps, .slice a m cap, .int .i64 dc] 24)) (.int .i64 0) (.int .i64 0) 29)
  rw [World.size_alloc] at T0
  have HS : Hid (∀ W, _) := Lib.hid fun W => rstSpace_any lo hi W b0 b1 b2 b3
  generalize lo * 333 / 318 = y0 at *
  generalize (hi * 355 + 338) / 339 = y1 at *
  go_enter Tryz.func10, Tryz.ntmps10
  go_wp2_with fail
  refine (H1.out _ (bel_alloc (bel_alloc (Below.refl _ _)))).mono ?_
  rintro e w1 ⟨z, rfl, hz, gg⟩
  replace T0 := Lib.hid (T0.out.below gg)
  have X1 := Lib.hid (bel_alloc (bel_alloc gg)); clear gg
  obtain ⟨a2, cp2, rfl, _, _⟩ := hz.shape
  rw [hq.out] at hz ⊢
  obtain ⟨b, off, rfl, hb, hc⟩ := hz.at (by omega)
  have c0 : w1.cell? ⟨b, off + q * 2, none⟩ = some (.int .i64 lo) := by rw [← hl.out.1]; exact (hc q (by omega)).1
  have c1 : w1.cell? ⟨b, off + q * 2 + 1, none⟩ = some (.int .i64 hi) := by rw [← hl.out.2]; exact (hc q (by omega)).2
  have wq : IntKind.i64.wrap ((q : Int) + 1 - 1) = (q : Int) := by rw [wrap_in _ ⟨by omega, by omega⟩]; omega
  have wq2 : IntKind.i64.wrap (q : Int) = (q : Int) := wrap_in _ ⟨by omega, by omega⟩
  clear hc hz hb
  go_wp2_with fail
  refine (HS.out _).mono ?_
  rintro e w2 ⟨rfl, gg⟩
  replace T0 := Lib.hid (T0.out.below gg)
  replace X1 := Lib.hid (bel_trans X1.out gg); clear gg c0 c1
  obtain ⟨r0, r1, rf0, rf1, _⟩ := T0.out
  go_wp2
  obtain ⟨t0, t1⟩ := two_read w2 (w.heap.size + 1) (.int .i64 y0) (.int .i64 y1) r0 r1
  refine bodyPost_ret (v := .tuple #[.agg #[.int .i64 y0, .int .i64 y1], .int .i64 0]) (by simp [results, Tryz.results10, go_sem, t0, t1]) rfl ?_
  exact ⟨rfl, (X1.out.setCell (Nat.le_succ _) _).setCell (Nat.le_succ _) _⟩
theorem rstBw_any (v u : Value) (c : Ck) (ls : List Int) (w : World) (hv : CkV w v c) (hu : Nums w u ls) :
    Calls Tryz.prog 10 #[v, u] w fun e w' => e = .returned (.tuple #[.agg #[.int .i64 (bwL c ls), .int .i64 (bwH c ls)], .int .i64 (stE c ls)]) ∧ Below w.heap.size w w' := by
  have H1 : Hid (∀ W, Below w.heap.size w W → _) := Lib.hid fun W hW => rstSm_any v u c ls W (hv.below hW) (hu.below hW)
  unfold smL at H1
  unfold bwL bwH
  by_cases g : stE c ls = 0
  · obtain ⟨⟨h1, h2⟩, hL⟩ := stE_zero.1 g
    obtain ⟨_, _, _, hR⟩ := ccE_pf h1
    rw [if_pos g, if_pos g, g]
    rw [if_pos g, g] at H1
    obtain ⟨a, cap, rfl, hp, _⟩ := hv
    have n0 := hL.n0
    have n1 := hL.n1
    obtain ⟨q, hq⟩ : ∃ q, ls.length = q + 2 := ⟨ls.length - 2, by omega⟩
    have e1 : ls.length - 1 = q + 1 := by omega
    rw [e1] at H1 ⊢
    obtain ⟨b0, b1, b2⟩ := en_top hR hL (q + 1) (by omega)
    exact rstBw_ok _ _ _ _ _ a _ cap q u _ w (Lib.hid (smS_len _ _ _)) (by omega) (Lib.hid (smS_at (Nat.lt_succ_self q))) b0 (by omega) (by omega) b2 H1
  · rw [if_neg g, if_neg g]
    rw [if_neg g] at H1
    obtain ⟨a, cap, rfl, hp, _⟩ := hv
    exact rstBw_bad _ _ _ _ a _ cap u w (by simpa using g) (by simpa using g) H1
/-! ### Wet -/
theorem rstWt_pos (nm : ByteArray) (cps dc d n E : Int) (a : Option Addr) (m cap : Nat) (w : World) (e1 : (E == 0) = false) (e2 : (E != 0) = true)
    (H1 : Hid (∀ W, Below w.heap.size w W → Calls Tryz.prog 28 #[.agg #[.string nm, .int .i64 cps, .slice a m cap, .int .i64 dc]] W fun e w' => e = .returned (.int .i64 E) ∧ Below W.heap.size W w')) :
    Calls Tryz.prog 15 #[.agg #[.string nm, .int .i64 cps, .slice a m cap, .int .i64 dc], .int .i64 d, .int .i64 n] w fun e w' => e = .returned (.tuple #[.agg #[.int .i64 0, .int .i64 0], .int .i64 E]) ∧ Below w.heap.size w w' := by
  have T0 := Lib.hid (Two.new (w.alloc (.cells #[.string nm, .int .i64 cps, .slice a m cap, .int .i64 dc] 24)) (.int .i64 0) (.int .i64 0) 29)
  rw [World.size_alloc] at T0
  go_enter Tryz.func15, Tryz.ntmps15
  go_wp2_with fail
  refine (H1.out _ (bel_alloc (bel_alloc (Below.refl _ _)))).mono ?_
  rintro e w1 ⟨rfl, gg⟩
  replace T0 := Lib.hid (T0.out.below gg)
  have X1 := Lib.hid (bel_alloc (bel_alloc gg)); clear gg
  obtain ⟨r0, r1, rf0, rf1, _⟩ := T0.out
  go_wp2
  obtain ⟨t0, t1⟩ := two_read w1 (w.heap.size + 1) (.int .i64 0) (.int .i64 0) r0 r1
  refine bodyPost_ret (v := .tuple #[.agg #[.int .i64 0, .int .i64 0], .int .i64 E]) (by simp [results, Tryz.results15, go_sem, t0, t1]) rfl ?_
  exact ⟨rfl, (X1.out.setCell (Nat.le_succ _) _).setCell (Nat.le_succ _) _⟩
theorem rstWt_nil (nm : ByteArray) (cps dc d n E : Int) (a : Option Addr) (m cap : Nat) (LV : List Int) (w : World) (hE : ((E == 0) = false ∧ (E != 0) = true) ∨ (E = 0 ∧ d = 0))
    (H1 : Hid (∀ W, Below w.heap.size w W → Calls Tryz.prog 28 #[.agg #[.string nm, .int .i64 cps, .slice a m cap, .int .i64 dc]] W fun e w' => e = .returned (.int .i64 0) ∧ Below W.heap.size W w'))
    (H2 : Hid (∀ W, Below w.heap.size w W → Calls Tryz.prog 29 #[.slice a m cap, .int .i64 d, .int .i64 n] W fun e w' => ∃ u, e = .returned (.tuple #[u, .int .i64 E]) ∧ Nums w' u LV ∧ Below W.heap.size W w')) :
    Calls Tryz.prog 15 #[.agg #[.string nm, .int .i64 cps, .slice a m cap, .int .i64 dc], .int .i64 d, .int .i64 n] w fun e w' => e = .returned (.tuple #[.agg #[.int .i64 0, .int .i64 0], .int .i64 E]) ∧ Below w.heap.size w w' := by
  have T0 := Lib.hid (Two.new (w.alloc (.cells #[.string nm, .int .i64 cps, .slice a m cap, .int .i64 dc] 24)) (.int .i64 0) (.int .i64 0) 29)
  rw [World.size_alloc] at T0
  have F0 := Lib.hid ((Quad.new w (.string nm) (.int .i64 cps) (.slice a m cap) (.int .i64 dc) 24).alloc (.cells #[.int .i64 0, .int .i64 0] 29))
  rcases hE with ⟨e1, e2⟩ | ⟨rfl, rfl⟩
  all_goals
    go_enter Tryz.func15, Tryz.ntmps15
    go_wp2_with fail
    refine (H1.out _ (bel_alloc (bel_alloc (Below.refl _ _)))).mono ?_
    rintro e w1 ⟨rfl, gg⟩
    replace T0 := Lib.hid (T0.out.below gg)
    replace F0 := Lib.hid (F0.out.below gg)
    have X1 := Lib.hid (bel_alloc (bel_alloc gg)); clear gg
    obtain ⟨_, _, y2, _, _, _⟩ := F0.out
    go_wp2_with fail
    refine (H2.out _ X1.out).mono ?_
    rintro e w2 ⟨u, rfl, hu, gg⟩
    replace T0 := Lib.hid (T0.out.below gg)
    replace X1 := Lib.hid (bel_trans X1.out gg); clear gg y2
    obtain ⟨a2, cp2, rfl, _, _⟩ := hu
    generalize LV.length = K at *
    obtain ⟨r0, r1, rf0, rf1, _⟩ := T0.out
    obtain ⟨t0, t1⟩ := two_read w2 (w.heap.size + 1) (.int .i64 0) (.int .i64 0) r0 r1
    replace t0 := Lib.hid t0
    replace t1 := Lib.hid t1
    go_wp2
  · have t0 := t0.out
    have t1 := t1.out
    refine bodyPost_ret (v := .tuple #[.agg #[.int .i64 0, .int .i64 0], .int .i64 E]) (by simp [results, Tryz.results15, go_sem, t0, t1]) rfl ?_
    exact ⟨rfl, (X1.out.setCell (Nat.le_succ _) _).setCell (Nat.le_succ _) _⟩
  · have t0 := t0.out
    have t1 := t1.out
    refine bodyPost_ret (v := .tuple #[.agg #[.int .i64 0, .int .i64 0], .int .i64 0]) (by simp [results, Tryz.results15, go_sem, t0, t1]) rfl ?_
    exact ⟨rfl, (X1.out.setCell (Nat.le_succ _) _).setCell (Nat.le_succ _) _⟩
theorem rstWt_ok (nm : ByteArray) (cps dc d n L H : Int) (a : Option Addr) (m cap : Nat) (LV : List Int) (w : World) (hd : (d == 0) = false)
    (H1 : Hid (∀ W, Below w.heap.size w W → Calls Tryz.prog 28 #[.agg #[.string nm, .int .i64 cps, .slice a m cap, .int .i64 dc]] W fun e w' => e = .returned (.int .i64 0) ∧ Below W.heap.size W w'))
    (H2 : Hid (∀ W, Below w.heap.size w W → Calls Tryz.prog 29 #[.slice a m cap, .int .i64 d, .int .i64 n] W fun e w' => ∃ u, e = .returned (.tuple #[u, .int .i64 0]) ∧ Nums w' u LV ∧ Below W.heap.size W w'))
    (H3 : Hid (∀ W u, Below w.heap.size w W → Nums W u LV → Calls Tryz.prog 10 #[.agg #[.string nm, .int .i64 cps, .slice a m cap, .int .i64 dc], u] W fun e w' => e = .returned (.tuple #[.agg #[.int .i64 L, .int .i64 H], .int .i64 0]) ∧ Below W.heap.size W w')) :
    Calls Tryz.prog 15 #[.agg #[.string nm, .int .i64 cps, .slice a m cap, .int .i64 dc], .int .i64 d, .int .i64 n] w fun e w' => e = .returned (.tuple #[.agg #[.int .i64 L, .int .i64 H], .int .i64 0]) ∧ Below w.heap.size w w' := by
  have T0 := Lib.hid (Two.new (w.alloc (.cells #[.string nm, .int .i64 cps, .slice a m cap, .int .i64 dc] 24)) (.int .i64 0) (.int .i64 0) 29)
  rw [World.size_alloc] at T0
  have F0 := Lib.hid ((Quad.new w (.string nm) (.int .i64 cps) (.slice a m cap) (.int .i64 dc) 24).alloc (.cells #[.int .i64 0, .int .i64 0] 29))
  go_enter Tryz.func15, Tryz.ntmps15
  go_wp2_with fail
  refine (H1.out _ (bel_alloc (bel_alloc (Below.refl _ _)))).mono ?_
  rintro e w1 ⟨rfl, gg⟩
  replace T0 := Lib.hid (T0.out.below gg)
  replace F0 := Lib.hid (F0.out.below gg)
  have X1 := Lib.hid (bel_alloc (bel_alloc gg)); clear gg
  obtain ⟨_, _, y2, _, _, _⟩ := F0.out
  go_wp2_with fail
  refine (H2.out _ X1.out).mono ?_
  rintro e w2 ⟨u, rfl, hu, gg⟩
  replace T0 := Lib.hid (T0.out.below gg)
  replace F0 := Lib.hid (F0.out.below gg)
  replace X1 := Lib.hid (bel_trans X1.out gg); clear gg y2
  have HU := Lib.hid hu
  obtain ⟨a2, cp2, rfl, _, _⟩ := hu
  have HK : Hid (∀ K : Nat, K = LV.length → Nums w2 (.slice a2 K cp2) LV) := Lib.hid fun K e => by rw [e]; exact HU.out
  obtain ⟨K, hK⟩ : ∃ K, K = LV.length := ⟨_, rfl⟩
  have HK2 := Lib.hid (HK.out K hK)
  rw [← hK]
  clear hK HK HU
  obtain ⟨q0, q1, q2, q3, _, _⟩ := F0.out
  go_wp2_with fail
  refine (H3.out _ _ X1.out HK2.out).mono ?_
  rintro e w3 ⟨rfl, gg⟩
  replace T0 := Lib.hid (T0.out.below gg)
  replace X1 := Lib.hid (bel_trans X1.out gg); clear gg q0 q1 q2 q3
  obtain ⟨r0, r1, rf0, rf1, _⟩ := T0.out
  go_wp2
  obtain ⟨t0, t1⟩ := two_read w3 (w.heap.size + 1) (.int .i64 L) (.int .i64 H) r0 r1
  refine bodyPost_ret (v := .tuple #[.agg #[.int .i64 L, .int .i64 H], .int .i64 0]) (by simp [results, Tryz.results15, go_sem, t0, t1]) rfl ?_
  exact ⟨rfl, (X1.out.setCell (Nat.le_succ _) _).setCell (Nat.le_succ _) _⟩
theorem rstWt_any (v : Value) (c : Ck) (d n : Int) (w : World) (hv : CkV w v c) :
    Calls Tryz.prog 15 #[v, .int .i64 d, .int .i64 n] w fun e w' => e = .returned (.tuple #[.agg #[.int .i64 (swL c d n), .int .i64 (swH c d n)], .int .i64 (swE c d n)]) ∧ Below w.heap.size w w' := by
  have H1 : Hid (∀ W, Below w.heap.size w W → _) := Lib.hid fun W hW => rstIs_any v c W (hv.below hW)
  have hv' := hv
  obtain ⟨a, cap, rfl, hp, _⟩ := hv'
  by_cases h : stSE c = 0
  · rw [h] at H1
    obtain ⟨h1, h2⟩ := stSE_zero.1 h
    obtain ⟨_, _, _, hR⟩ := ccE_pf h1
    have H2 : Hid (∀ W, Below w.heap.size w W → _) := Lib.hid fun W hW => rstLv_any _ c.pf d n W (hp.below hW)
    have eE : swE c d n = lvsE c.pf d n := by unfold swE; rw [if_pos h]
    by_cases g : lvsE c.pf d n = 0
    · by_cases hd : d = 0
      · have e0 : swL c d n = 0 ∧ swH c d n = 0 := by unfold swL swH; rw [if_neg (fun k => k.2 hd), if_neg (fun k => k.2 hd)]; exact ⟨rfl, rfl⟩
        rw [e0.1, e0.2, eE]
        exact rstWt_nil _ _ _ d n _ a _ cap _ w (.inr ⟨g, hd⟩) H1 H2
      · obtain ⟨_, ⟨d0, d1⟩, n1, n2⟩ := lvsE_zero.1 g
        have hL : LvR c.pf (lvL c.pf d n.toNat) := lv_right hR (by omega) d1 (by omega) (by omega)
        have e0 : swL c d n = bwL c (lvL c.pf d n.toNat) ∧ swH c d n = bwH c (lvL c.pf d n.toNat) := by
          have hk : swE c d n = 0 ∧ d ≠ 0 := ⟨by rw [eE]; exact g, hd⟩
          have hk2 : stE c (lvL c.pf d n.toNat) = 0 := stE_zero.2 ⟨⟨h1, h2⟩, hL⟩
          unfold swL swH bwL bwH
          rw [if_pos hk, if_pos hk, if_pos hk2, if_pos hk2]
          exact ⟨rfl, rfl⟩
        have eS : stE c (lvL c.pf d n.toNat) = 0 := stE_zero.2 ⟨⟨h1, h2⟩, hL⟩
        rw [e0.1, e0.2, eE, g]
        unfold lvsL at H2
        rw [if_pos g, g] at H2
        refine rstWt_ok _ _ _ d n _ _ a _ cap _ w (by simpa using hd) H1 H2 (Lib.hid fun W u hW hu => ?_)
        have := rstBw_any _ u c _ W (hv.below hW) hu
        rwa [eS] at this
    · have e0 : swL c d n = 0 ∧ swH c d n = 0 := by unfold swL swH; rw [eE, if_neg (fun k => g k.1), if_neg (fun k => g k.1)]; exact ⟨rfl, rfl⟩
      rw [e0.1, e0.2, eE]
      exact rstWt_nil _ _ _ d n _ a _ cap _ w (.inl ⟨by simpa using g, by simpa using g⟩) H1 H2
  · have eE : swE c d n = stSE c := by unfold swE; rw [if_neg h]
    have e0 : swL c d n = 0 ∧ swH c d n = 0 := by unfold swL swH; rw [eE, if_neg (fun k => h k.1), if_neg (fun k => h k.1)]; exact ⟨rfl, rfl⟩
    rw [e0.1, e0.2, eE]
    exact rstWt_pos _ _ _ d n _ a _ cap w (by simpa using h) (by simpa using h) H1
end Go.Proofs.YtmdpdpbkbakidaaGreat

/- The statements about layer 12: the numbers of the example. -/
namespace Go.Proofs.YtmdpdpbkbakidaaGreat
open Go.RowKit

def stPl : List (Int × Int) := [(0, 2), (4, 4)]
def stPail : Ck := ⟨⟨#[112]⟩, 2, stPl, 0⟩
def stDl : List (Int × Int) := [(0, 3), (10, 3)]
def stD : Ck := ⟨⟨#[100]⟩, 2, stDl, 0⟩
theorem stPl_R : RP stPl := (ckE_iff _).1 (by decide +kernel)
theorem stDl_R : RP stDl := (ckE_iff _).1 (by decide +kernel)
theorem stPl_rd {x : Int} (x0 : 0 ≤ x) (x1 : x ≤ 4) : rdL stPl x = lnL 0 2 4 4 x ∧ rdH stPl x = lnH 0 2 4 4 x := rd_piece stPl_R (k := 0) (by decide) x0 x1
theorem stx_1 : stE stPail [0, 2, 4] = 0 ∧ smL stPail [0, 2, 4] = [(24, 54), (78, 150)] := by
  have e : stE stPail [0, 2, 4] = 0 := by decide +kernel
  refine ⟨e, ?_⟩
  unfold smL
  rw [if_pos e]
  obtain ⟨a0, a1⟩ := stPl_rd (x := 0) (by omega) (by omega)
  obtain ⟨b0, b1⟩ := stPl_rd (x := 2) (by omega) (by omega)
  obtain ⟨c0, c1⟩ := stPl_rd (x := 4) (by omega) (by omega)
  rw [show lnL 0 2 4 4 0 = 2 by decide +kernel] at a0
  rw [show lnH 0 2 4 4 0 = 2 by decide +kernel] at a1
  rw [show lnL 0 2 4 4 2 = 3 by decide +kernel] at b0
  rw [show lnH 0 2 4 4 2 = 3 by decide +kernel] at b1
  rw [show lnL 0 2 4 4 4 = 4 by decide +kernel] at c0
  rw [show lnH 0 2 4 4 4 = 4 by decide +kernel] at c1
  have s1 : slL stPl 0 2 = 2 ∧ slH stPl 0 2 = 3 := by unfold slL slH; rw [a0, a1, b0, b1]; decide
  have s2 : slL stPl 2 4 = 3 ∧ slH stPl 2 4 = 4 := by unfold slL slH; rw [b0, b1, c0, c1]; decide
  have e1 : enL stPl [0, 2, 4] 1 = 24 ∧ enH stPl [0, 2, 4] 1 = 54 := by
    refine ⟨?_, ?_⟩
    · show 0 + 3 * ((2 - 0) * (slL stPl 0 2 * slL stPl 0 2)) = 24
      rw [s1.1]; decide
    · show 0 + 3 * ((2 - 0) * (slH stPl 0 2 * slH stPl 0 2)) = 54
      rw [s1.2]; decide
  have e2 : enL stPl [0, 2, 4] 2 = 78 ∧ enH stPl [0, 2, 4] 2 = 150 := by
    refine ⟨?_, ?_⟩
    · show enL stPl [0, 2, 4] 1 + 3 * ((4 - 2) * (slL stPl 2 4 * slL stPl 2 4)) = 78
      rw [s2.1, e1.1]; decide
    · show enH stPl [0, 2, 4] 1 + 3 * ((4 - 2) * (slH stPl 2 4 * slH stPl 2 4)) = 150
      rw [s2.2, e1.2]; decide
  show [(enL stPl [0, 2, 4] 1, enH stPl [0, 2, 4] 1), (enL stPl [0, 2, 4] 2, enH stPl [0, 2, 4] 2)] = _
  rw [e1.1, e1.2, e2.1, e2.2]
theorem stx_2 : swE stD 10 3 = 0 ∧ swL stD 10 3 = 282 ∧ swH stD 10 3 = 283 := by
  have e : swE stD 10 3 = 0 := by decide +kernel
  have hL : LvR stDl (lvL stDl 10 3) := lv_right stDl_R (by omega) (by decide) (by omega) (by omega)
  obtain ⟨f0, f1, f2⟩ := lv_ends (d := 10) (n := 3) stDl_R (by omega) (by omega)
  obtain ⟨c0, c1⟩ := en_cyl (X := 10) (r := 3) (by omega) (by omega) stDl_R hL ((lvL stDl 10 3).length - 1) (by omega)
  rw [f1, f2] at c0 c1
  have c0' : enL stDl (lvL stDl 10 3) ((lvL stDl 10 3).length - 1) = 270 := c0.trans (by decide)
  have c1' : enH stDl (lvL stDl 10 3) ((lvL stDl 10 3).length - 1) = 270 := c1.trans (by decide)
  refine ⟨e, ?_, ?_⟩
  · unfold swL
    rw [if_pos ⟨e, by omega⟩]
    show enL stDl (lvL stDl 10 3) ((lvL stDl 10 3).length - 1) * 333 / 318 = _
    rw [c0']; decide
  · unfold swH
    rw [if_pos ⟨e, by omega⟩]
    show (enH stDl (lvL stDl 10 3) ((lvL stDl 10 3).length - 1) * 355 + 338) / 339 = _
    rw [c1']; decide
theorem stx_3 : lvsE stPl 4 3 = 0 ∧ lvsL stPl 4 3 = [0, 1, 2, 4] := by
  have e : lvsE stPl 4 3 = 0 := by decide +kernel
  refine ⟨e, ?_⟩
  unfold lvsL
  rw [if_pos e]
  refine str_ext (lv_asc _ _ _) (by decide) fun x => ?_
  rw [lv_mem]
  constructor
  · rintro (⟨i, hi, rfl⟩ | ⟨j, hj, h1, rfl⟩)
    · have : i = 0 ∨ i = 1 ∨ i = 2 ∨ i = 3 := by have : i ≤ 3 := hi; omega
      rcases this with rfl | rfl | rfl | rfl <;> decide
    · have : j = 0 ∨ j = 1 := by have : j < 2 := hj; omega
      rcases this with rfl | rfl
      · decide
      · exact absurd h1 (by decide)
  · intro h
    left
    simp only [List.mem_cons, List.not_mem_nil, or_false] at h
    rcases h with rfl | rfl | rfl | rfl
    · exact ⟨0, by decide, by decide⟩
    · exact ⟨1, by decide, by decide⟩
    · exact ⟨2, by decide, by decide⟩
    · exact ⟨3, by decide, by decide⟩
theorem stx_4 : stE stD [0, 10] = 0 ∧ bwL stD [0, 10] = 282 ∧ bwH stD [0, 10] = 283 := by
  have e : stE stD [0, 10] = 0 := by decide +kernel
  have hL : LvR stDl [0, 10] := (stE_zero.1 e).2
  obtain ⟨c0, c1⟩ := en_cyl (X := 10) (r := 3) (by omega) (by omega) stDl_R hL 1 (by decide)
  refine ⟨e, ?_, ?_⟩
  · unfold bwL
    rw [if_pos e]
    show enL [(0, 3), (10, 3)] [0, 10] 1 * 333 / 318 = _
    rw [c0]; decide
  · unfold bwH
    rw [if_pos e]
    show (enH [(0, 3), (10, 3)] [0, 10] 1 * 355 + 338) / 339 = _
    rw [c1]; decide
theorem stx_5 : stE stPail [0, 1, 2, 4] = 0 := by decide +kernel
theorem pail_any (w : World) : Calls Tryz.prog 16 #[] w fun e w' => ∃ v, e = .returned v ∧ CkV w' v stPail ∧ Below w.heap.size w w' := by
  have P : ∀ o, Pts ((w.alloc o).alloc (.cells #[.int .i64 0, .int .i64 2, .int .i64 4, .int .i64 4] 43)) (.slice (some ⟨w.heap.size + 1, 0, none⟩) 2 2) stPl := fun o => by
    have := pts_lit (w.alloc o) stPl (flat stPl) rfl (by decide)
    simp only [World.size_alloc] at this
    exact this
  go_enter Tryz.func16, Tryz.ntmps16
  go_wp2
  refine bodyPost_ret (v := .agg #[.string ⟨#[112]⟩, .int .i64 2, .slice (some ⟨w.heap.size + 1, 0, none⟩) 2 2, .int .i64 0]) (by simp [results, Tryz.results16, go_sem]) rfl ?_
  exact ⟨_, rfl, ⟨_, 2, rfl, P _, by decide, by decide, by decide⟩, bel_alloc (bel_alloc (Below.refl _ _))⟩
end Go.Proofs.YtmdpdpbkbakidaaGreat

/- slices.Equal at bounds. -/
namespace Go.Proofs.YtmdpdpbkbakidaaGreat
open Go.RowKit

set_option maxHeartbeats 8000000 in
theorem eqB_some (b o n c b2 o2 d : Nat) (xs ys : List (Int × Int)) (B : Bool) (w : World) (hn : n ≤ 9223372036854775807) (hb : b < w.heap.size) (hb2 : b2 < w.heap.size)
    (h1 : Hid (∀ j, j < n → w.cell? ⟨b, o + j * 2, none⟩ = some (.int .i64 (gX xs j)) ∧ w.cell? ⟨b, o + j * 2 + 1, none⟩ = some (.int .i64 (gR xs j))))
    (h2 : Hid (∀ j, j < n → w.cell? ⟨b2, o2 + j * 2, none⟩ = some (.int .i64 (gX ys j)) ∧ w.cell? ⟨b2, o2 + j * 2 + 1, none⟩ = some (.int .i64 (gR ys j))))
    (k1 : Hid ((∃ j, j < n ∧ samB (gX xs j) (gR xs j) (gX ys j) (gR ys j) = false) → B = false)) (k2 : Hid ((∀ j, j < n → samB (gX xs j) (gR xs j) (gX ys j) (gR ys j) = true) → B = true)) :
    Calls Tryz.prog 13 #[.slice (some ⟨b, o, none⟩) n c, .slice (some ⟨b2, o2, none⟩) n d] w fun e w' => e = .returned (.bool B) ∧ Below w.heap.size w w' := by
  go_enter Tryz.func13, Tryz.ntmps13
  go_wp2_with fail
  go_loopw [13] (fun i wr => ∃ k : Nat, k ≤ n ∧ i = .int .i64 k ∧ Hid (Below w.heap.size w wr) ∧ Hid (∀ j, j < k → samB (gX xs j) (gR xs j) (gX ys j) (gR ys j) = true)) (fun i _ => n - (intOf i).toNat)
  case atStart => exact ⟨0, Nat.zero_le _, rfl, Below.refl _ _, fun j hj => by omega⟩
  case round =>
    obtain ⟨k, hk, rfl, hB, ha⟩ := hrel
    by_cases hlt : k < n
    · have c0 : wr.cell? ⟨b, o + k * 2, none⟩ = some (.int .i64 (gX xs k)) := by rw [(bcell hB.out).1 _ _ hb]; exact (h1.out k hlt).1
      have c1 : wr.cell? ⟨b, o + k * 2 + 1, none⟩ = some (.int .i64 (gR xs k)) := by rw [(bcell hB.out).1 _ _ hb]; exact (h1.out k hlt).2
      have c2 : wr.cell? ⟨b2, o2 + k * 2, none⟩ = some (.int .i64 (gX ys k)) := by rw [(bcell hB.out).1 _ _ hb2]; exact (h2.out k hlt).1
      have c3 : wr.cell? ⟨b2, o2 + k * 2 + 1, none⟩ = some (.int .i64 (gR ys k)) := by rw [(bcell hB.out).1 _ _ hb2]; exact (h2.out k hlt).2
      have l1 : (k : Int) < (n : Int) := by omega
      cases hq : samB (gX xs k) (gR xs k) (gX ys k) (gR ys k) with
      | false =>
        have hBf := k1.out ⟨k, hlt, hq⟩
        generalize gX xs k = p at *
        generalize gR xs k = q at *
        generalize gX ys k = x at *
        generalize gR ys k = y at *
        have Q : ∀ W, (binOp .neq 29 (.agg #[.int .i64 p, .int .i64 q]) (.agg #[.int .i64 x, .int .i64 y])).run Tryz.prog W = .ok (.bool true) W := fun W => by rw [run_neq_bounds, hq]; rfl
        clear hq
        subst hBf
        go_wp2_with fail
        go_quiet (fail)
        go_wp2
        go_returns
        exact ⟨rfl, bel_trans hB.out (bel_drewN _ _)⟩
      | true =>
        have ha2 : Hid (∀ j, j < k + 1 → samB (gX xs j) (gR xs j) (gX ys j) (gR ys j) = true) := fun j hj => by
          by_cases e : j = k
          · rw [e]; exact hq
          · exact ha.out j (by omega)
        clear ha
        generalize gX xs k = p at c0 hq
        generalize gR xs k = q at c1 hq
        generalize gX ys k = x at c2 hq
        generalize gR ys k = y at c3 hq
        have Q : ∀ W, (binOp .neq 29 (.agg #[.int .i64 p, .int .i64 q]) (.agg #[.int .i64 x, .int .i64 y])).run Tryz.prog W = .ok (.bool false) W := fun W => by rw [run_neq_bounds, hq]; rfl
        clear hq
        go_wp2_with fail
        go_quiet (fail)
        go_wp2
        go_roundw
        case rel => exact ⟨k + 1, by omega, by go_num, bel_trans hB.out (bel_drewN _ _), ha2⟩
        case measure => simp [intOf]; omega
    · obtain rfl : k = n := by omega
      obtain rfl := k2.out ha.out
      go_wp2
      go_returns
      exact ⟨rfl, hB.out⟩
theorem eqB_zero (a : Option Addr) (c : Nat) (a2 : Option Addr) (d : Nat) (w : World) :
    Calls Tryz.prog 13 #[.slice a 0 c, .slice a2 0 d] w fun e w' => e = .returned (.bool true) ∧ Below w.heap.size w w' := by
  go_enter Tryz.func13, Tryz.ntmps13
  go_wp2_with fail
  go_loopw [13] (fun i wr => i = .int .i64 0 ∧ w = wr) (fun _ _ => 0)
  case atStart => exact ⟨rfl, rfl⟩
  case round =>
    obtain ⟨rfl, rfl⟩ := hrel
    go_wp2
    go_returns
    exact ⟨rfl, Below.refl _ _⟩
theorem eqB_lens (a : Option Addr) (n c : Nat) (a2 : Option Addr) (m d : Nat) (w : World) (h : n ≠ m) (hn : n ≤ 9223372036854775807) (hm : m ≤ 9223372036854775807) :
    Calls Tryz.prog 13 #[.slice a n c, .slice a2 m d] w fun e w' => e = .returned (.bool false) ∧ Below w.heap.size w w' := by
  have g : ((n : Int) != (m : Int)) = true := by rw [bne_iff_ne]; omega
  go_enter Tryz.func13, Tryz.ntmps13
  go_wp2
  go_returns
  exact ⟨rfl, Below.refl _ _⟩
theorem eqB_any (v u : Value) (xs ys : List (Int × Int)) (w : World) (hv : Pts w v xs) (hu : Pts w u ys) :
    Calls Tryz.prog 13 #[v, u] w fun e w' => e = .returned (.bool (decide (xs = ys))) ∧ Below w.heap.size w w' := by
  obtain ⟨a, c, rfl, hl, hh⟩ := hv
  obtain ⟨a2, d, rfl, hl2, hh2⟩ := hu
  have ext : ∀ j, (xs.getD j (0, 0) = ys.getD j (0, 0)) ↔ samB (gX xs j) (gR xs j) (gX ys j) (gR ys j) = true := fun j => by
    unfold samB gX gR
    rw [Bool.and_eq_true, beq_iff_eq, beq_iff_eq]
    exact ⟨fun h => by rw [h]; exact ⟨rfl, rfl⟩, fun h => Prod.ext h.1 h.2⟩
  by_cases hn : xs.length = ys.length
  · rcases hh with h0 | ⟨b, o, rfl, hb, hc⟩
    · have e1 := List.length_eq_zero_iff.1 h0
      have e2 : ys = [] := List.length_eq_zero_iff.1 (by omega)
      subst e1 e2
      exact eqB_zero a c a2 d w
    · rcases hh2 with h0 | ⟨b2, o2, rfl, hb2, hc2⟩
      · have e1 := List.length_eq_zero_iff.1 h0
        have e2 : xs = [] := List.length_eq_zero_iff.1 (by omega)
        subst e1 e2
        exact eqB_zero _ c a2 d w
      · rw [← hn]
        refine eqB_some b o _ c b2 o2 d xs ys _ w (by omega) hb hb2 (Lib.hid hc) (Lib.hid fun j hj => hc2 j (by omega)) (Lib.hid ?_) (Lib.hid ?_)
        · rintro ⟨j, hj, h⟩
          rw [decide_eq_false_iff_not]
          intro e
          have := (ext j).1 (by rw [e])
          rw [h] at this
          cases this
        · intro h
          rw [decide_eq_true_iff]
          apply List.ext_getElem hn
          intro j h1 h2
          have := (ext j).2 (h j h1)
          rw [List.getD_eq_getElem?_getD, List.getD_eq_getElem?_getD, List.getElem?_eq_getElem h1, List.getElem?_eq_getElem h2] at this
          exact this
  · rw [decide_eq_false (fun e => hn (by rw [e]))]
    exact eqB_lens a _ c a2 _ d w hn (by omega) (by omega)
theorem bds_lit (w : World) (l : List (Int × Int)) (cs : List Value) (h : cs = flat l) (hn : l.length ≤ 1000) :
    Pts (w.alloc (.cells cs.toArray 29)) (.slice (some ⟨w.heap.size, 0, none⟩) l.length l.length) l := by
  refine ⟨_, _, rfl, by omega, .inr ⟨w.heap.size, 0, rfl, by simp, fun j hj => ?_⟩⟩
  subst h
  have hf := flat_at l j hj
  rw [World.cell?_alloc_new, World.cell?_alloc_new]
  simp only [Nat.zero_add]
  exact ⟨by simpa using hf.1, by simpa using hf.2⟩
end Go.Proofs.YtmdpdpbkbakidaaGreat

/- Copies of slices of integers, and two that are compared. -/
namespace Go.Proofs.YtmdpdpbkbakidaaGreat
open Go.RowKit

theorem Nums.alloc {w : World} {v : Value} {zs : List Int} (h : Nums w v zs) (o : Obj) : Nums (w.alloc o) v zs := h.below (bel_alloc (Below.refl _ _))
/-- a copy reads as what it is copied from, and belongs to the call -/
theorem clone_own (v : Value) (zs : List Int) (w : World) (h : Nums w v zs) (hn : zs.length ≤ 1000) :
    Calls Tryz.prog 9 #[v] w fun e w' => ∃ u, e = .returned u ∧ w'.ownsRow w.heap.size 3 1 u zs.length (zs.map (Value.int .i64)) ∧ Below w.heap.size w w' := by
  obtain ⟨a, c, rfl, hl, h⟩ := h
  by_cases h0 : zs.length = 0
  · obtain rfl := List.length_eq_zero_iff.1 h0
    cases a with
    | none => refine (Tryz.slices_Clone_int_nil _ c w).mono fun _ w' g => ⟨_, g.1, ?_, by rw [g.2]; exact Below.refl _ _⟩
              rw [g.2]; exact World.ownsRow_nil _ _ _ _
    | some a => exact (Tryz.slices_Clone_int_zero a c w).mono fun _ w' ⟨v', g1, g2, _, g4⟩ => ⟨v', g1, g2, g4⟩
  · rcases h with h | ⟨b, off, rfl, _, hc⟩
    · exact absurd h h0
    refine (Tryz.slices_Clone_int b off zs.length c zs w (Nat.le_refl _) (by omega) hc).mono fun _ w' ⟨v', g1, g2, _, g4⟩ => ⟨v', g1, ?_, g4⟩
    rw [List.take_length] at g2; exact g2
theorem clone_nums (v : Value) (zs : List Int) (w : World) (h : Nums w v zs) (hn : zs.length ≤ 1000) :
    Calls Tryz.prog 9 #[v] w fun e w' => ∃ u, e = .returned u ∧ Nums w' u zs ∧ Below w.heap.size w w' :=
  (clone_own v zs w h hn).mono fun _ w' ⟨u, g1, g2, g3⟩ => ⟨u, g1, nums_of_own g2, g3⟩
theorem equal_any (v u : Value) (xs ys : List Int) (w : World) (hv : Nums w v xs) (hu : Nums w u ys) :
    Calls Tryz.prog 18 #[v, u] w fun e w' => e = .returned (.bool (xs == ys)) ∧ Below w.heap.size w w' := by
  obtain ⟨a, c, rfl, hl, hv⟩ := hv
  obtain ⟨b, d, rfl, hm, hu⟩ := hu
  by_cases hlen : xs.length = ys.length
  · by_cases h0 : xs.length = 0
    · have h1 : ys.length = 0 := by omega
      refine (show Calls Tryz.prog 18 #[.slice a xs.length c, .slice b ys.length d] w _ by rw [h0]; exact Tryz.slices_Equal_int_empty a b c ys.length d w (by omega)).mono fun _ w' g => ⟨?_, by rw [g.2]; exact Below.refl _ _⟩
      rw [g.1, List.length_eq_zero_iff.1 h0, List.length_eq_zero_iff.1 h1]; rfl
    · rcases hv with hv | ⟨b1, o1, rfl, _, hc1⟩
      · omega
      rcases hu with hu | ⟨b2, o2, rfl, _, hc2⟩
      · omega
      refine (Tryz.slices_Equal_int b1 o1 xs.length c b2 o2 ys.length d xs ys w (Nat.le_refl _) (Nat.le_refl _) (by omega) (by omega) hc1 hc2).mono fun _ w' g => ⟨?_, ?_⟩
      · rw [g.1, List.take_length, List.take_length]
      · obtain ⟨q, hq⟩ := g.2; rw [hq]; exact bel_drewN _ _
  · refine (Tryz.slices_Equal_int_lens a b xs.length c ys.length d w hlen).mono fun _ w' g => ⟨?_, by rw [g.2]; exact Below.refl _ _⟩
    rw [g.1]
    congr 2
    symm
    rw [beq_eq_false_iff_ne]
    intro h; exact hlen (by rw [h])
theorem equal_same (v u : Value) (xs : List Int) (w : World) (hv : Nums w v xs) (hu : Nums w u xs) :
    Calls Tryz.prog 18 #[v, u] w fun e w' => e = .returned (.bool true) ∧ Below w.heap.size w w' := by
  have := equal_any v u xs xs w hv hu
  rw [beq_self_eq_true] at this
  exact this
/-- a literal -/
theorem nums_lit (w : World) (zs : List Int) (cs : List Value) (h : cs = zs.map (Value.int .i64)) (hn : zs.length ≤ 1000) :
    Nums (w.alloc (.cells cs.toArray 3)) (.slice (some ⟨w.heap.size, 0, none⟩) zs.length zs.length) zs := by
  refine ⟨_, _, rfl, by omega, .inr ⟨w.heap.size, 0, rfl, by simp, fun j hj => ?_⟩⟩
  subst h
  rw [World.cell?_alloc_new]
  simp [List.getD, List.getElem?_eq_getElem hj]
end Go.Proofs.YtmdpdpbkbakidaaGreat

/- The statements about layer 12: the example. -/
namespace Go.Proofs.YtmdpdpbkbakidaaGreat
open Go.RowKit

theorem field_pf (s : ByteArray) (p d : Int) (a : Option Addr) (n c : Nat) (w : World) : (Instr.field 24 (.agg #[.string s, .int .i64 p, .slice a n c, .int .i64 d]) 2).run Tryz.prog w = .ok (.slice a n c) w := by kernel_rfl
set_option maxRecDepth 100000 in
set_option maxHeartbeats 16000000 in
theorem awake_any (w : World) : Calls Tryz.prog 5 #[] w fun e w' => e = .returned (.bool true) ∧ Below w.heap.size w w' := by
  have BA := Lib.hid (fun W => pail_any W)
  have HS := Lib.hid (fun v u W (hv : CkV W v stPail) (hu : Nums W u [0, 2, 4]) => stSm_any v u stPail _ W hv hu)
  have HW := Lib.hid (fun v W (hv : CkV W v stD) => stWt_any v stD 10 3 W hv)
  have HL := Lib.hid (fun v W (hv : Pts W v stPl) => stLv_any v stPl 4 3 W hv)
  have HB1 := Lib.hid (fun v u W (hv : CkV W v stD) (hu : Nums W u [0, 10]) => stBw_any v u stD _ W hv hu)
  have HC := Lib.hid (fun v u W (hv : CkV W v stPail) (hu : Nums W u [0, 1, 2, 4]) => stChk_any v u stPail _ W hv hu)
  obtain ⟨a1, a2⟩ := stx_1
  obtain ⟨b1, b2, b3⟩ := stx_2
  obtain ⟨c1, c2⟩ := stx_3
  obtain ⟨d1, d2, d3⟩ := stx_4
  rw [a1, a2] at HS
  rw [b1, b2, b3] at HW
  rw [c1, c2] at HL
  rw [d1, d2, d3] at HB1
  rw [stx_5] at HC
  have HE := Lib.hid (fun v u W (hv : Nums W v [0, 1, 2, 4]) (hu : Nums W u [0, 1, 2, 4]) => equal_any v u _ _ W hv hu)
  have HF := Lib.hid (fun v u W (hv : Pts W v [(24, 54), (78, 150)]) (hu : Pts W u [(24, 54), (78, 150)]) => eqB_any v u _ _ W hv hu)
  rw [show (([0, 1, 2, 4] : List Int) == [0, 1, 2, 4]) = true by decide] at HE
  rw [show decide (([(24, 54), (78, 150)] : List (Int × Int)) = [(24, 54), (78, 150)]) = true by decide] at HF
  have Q1 : ∀ (p q : Int) W, (binOp .eql 29 (.agg #[.int .i64 p, .int .i64 q]) (.agg #[.int .i64 p, .int .i64 q])).run Tryz.prog W = .ok (.bool true) W := fun p q W => by rw [run_eql_bounds, show samB p q p q = true by simp [samB]]
  have L2 : ∀ W, Nums (World.alloc W (.cells #[.int .i64 0, .int .i64 10] 3)) (.slice (some ⟨W.heap.size, 0, none⟩) 2 2) [0, 10] := fun W => nums_lit W [0, 10] _ rfl (by decide)
  have L3 : ∀ W, Nums (World.alloc W (.cells #[.int .i64 0, .int .i64 2, .int .i64 4] 3)) (.slice (some ⟨W.heap.size, 0, none⟩) 3 3) [0, 2, 4] := fun W => nums_lit W [0, 2, 4] _ rfl (by decide)
  have L4 : ∀ W, Nums (World.alloc W (.cells #[.int .i64 0, .int .i64 1, .int .i64 2, .int .i64 4] 3)) (.slice (some ⟨W.heap.size, 0, none⟩) 4 4) [0, 1, 2, 4] := fun W => nums_lit W [0, 1, 2, 4] _ rfl (by decide)
  have LP : ∀ W, Pts (World.alloc W (.cells #[.int .i64 0, .int .i64 3, .int .i64 10, .int .i64 3] 43)) (.slice (some ⟨W.heap.size, 0, none⟩) 2 2) stDl := fun W => pts_lit W stDl _ rfl (by decide)
  have LB : ∀ W, Pts (World.alloc W (.cells #[.int .i64 24, .int .i64 54, .int .i64 78, .int .i64 150] 29)) (.slice (some ⟨W.heap.size, 0, none⟩) 2 2) [(24, 54), (78, 150)] := fun W => bds_lit W [(24, 54), (78, 150)] _ rfl (by decide)
  clear a1 a2 b1 b2 b3 c1 c2 d1 d2 d3
  have HB := Lib.hid (Below.refl w.heap.size w)
  go_enter Tryz.func5, Tryz.ntmps5
  go_wp2_with fail
  refine (BA.out _).mono ?_
  rintro e w1 ⟨V1, rfl, hx, h1⟩
  replace HB := Lib.hid (bel_trans HB.out h1); clear h1
  have N1 := Lib.hid (hx.alloc (.cells #[.int .i64 0, .int .i64 2, .int .i64 4] 3))
  have G0 := Lib.hid (L3 w1)
  clear hx
  go_wp2_with fail
  refine (HS.out _ _ _ N1.out G0.out).mono ?_
  rintro e w2 ⟨U1, rfl, hu, h1⟩
  replace h1 := bel_alloc h1
  replace HB := Lib.hid (bel_trans HB.out h1); clear h1
  clear N1 G0
  have NS := Lib.hid hu; clear hu
  have g0 := LP w2
  have WD : Hid (CkW stD) := Lib.hid ⟨by decide, by decide, by decide⟩
  have PD : Hid (Pts ((w2.alloc (.cells #[.int .i64 0, .int .i64 3, .int .i64 10, .int .i64 3] 43)).alloc (.cells #[.string ⟨#[100]⟩, .int .i64 2, .slice (some ⟨w2.heap.size, 0, none⟩) 2 2, .int .i64 0] 24)) (.slice (some ⟨w2.heap.size, 0, none⟩) 2 2) stDl) := Lib.hid (g0.alloc _)
  have QD : Hid (Quad (w2.heap.size + 1) ((w2.alloc (.cells #[.int .i64 0, .int .i64 3, .int .i64 10, .int .i64 3] 43)).alloc (.cells #[.string ⟨#[100]⟩, .int .i64 2, .slice (some ⟨w2.heap.size, 0, none⟩) 2 2, .int .i64 0] 24)) (.string ⟨#[100]⟩) (.int .i64 2) (.slice (some ⟨w2.heap.size, 0, none⟩) 2 2) (.int .i64 0)) := Lib.hid (by
    have := Quad.new (w2.alloc (.cells #[.int .i64 0, .int .i64 3, .int .i64 10, .int .i64 3] 43)) (.string ⟨#[100]⟩) (.int .i64 2) (.slice (some ⟨w2.heap.size, 0, none⟩) 2 2) (.int .i64 0) 24
    rwa [World.size_alloc] at this)
  have NS2 := Lib.hid ((NS.out.alloc (.cells #[.int .i64 0, .int .i64 3, .int .i64 10, .int .i64 3] 43)).alloc (.cells #[.string ⟨#[100]⟩, .int .i64 2, .slice (some ⟨w2.heap.size, 0, none⟩) 2 2, .int .i64 0] 24))
  have HB2 : Hid (Below w.heap.size w ((w2.alloc (.cells #[.int .i64 0, .int .i64 3, .int .i64 10, .int .i64 3] 43)).alloc (.cells #[.string ⟨#[100]⟩, .int .i64 2, .slice (some ⟨w2.heap.size, 0, none⟩) 2 2, .int .i64 0] 24))) := Lib.hid (bel_trans HB.out (bel_alloc (bel_alloc (Below.refl _ _))))
  have VD : Hid (∀ W, Pts W (.slice (some ⟨w2.heap.size, 0, none⟩) 2 2) stDl → CkV W (.agg #[.string ⟨#[100]⟩, .int .i64 2, .slice (some ⟨w2.heap.size, 0, none⟩) 2 2, .int .i64 0]) stD) := Lib.hid fun W h => ⟨_, 2, rfl, h, WD.out⟩
  clear g0 NS HB LP WD
  go_wp2_with fail
  refine (HW.out _ _ (VD.out _ PD.out)).mono ?_
  rintro e w3 ⟨rfl, h1⟩
  replace PD := Lib.hid ((PD.out.below h1).alloc (.cells #[.int .i64 282, .int .i64 283] 29))
  replace QD := Lib.hid ((QD.out.below h1).alloc (.cells #[.int .i64 282, .int .i64 283] 29))
  replace NS2 := Lib.hid ((NS2.out.below h1).alloc (.cells #[.int .i64 282, .int .i64 283] 29))
  have HB := Lib.hid ((bel_trans HB2.out h1).alloc (bel_trans HB2.out h1).size (.cells #[.int .i64 282, .int .i64 283] 29)); clear h1 HB2
  have TW := Lib.hid (Two.new w3 (.int .i64 282) (.int .i64 283) 29)
  go_wp2_with fail
  refine (BA.out _).mono ?_
  rintro e w4 ⟨V2, rfl, hx, h1⟩
  replace PD := Lib.hid (PD.out.below h1)
  replace QD := Lib.hid (QD.out.below h1)
  replace NS2 := Lib.hid (NS2.out.below h1)
  replace TW := Lib.hid (TW.out.below h1)
  replace HB := Lib.hid (bel_trans HB.out h1); clear h1
  obtain ⟨pa2, pc2, rfl, hp2, _⟩ := hx
  have N2 := Lib.hid hp2; clear hp2
  have hfl := fun W => field_pf stPail.nm stPail.ps stPail.dc pa2 stPail.pf.length pc2 W
  go_wp2_with fail
  refine (HL.out _ _ N2.out).mono ?_
  rintro e w5 ⟨U2, rfl, hu, h1⟩
  replace PD := Lib.hid (PD.out.below h1)
  replace QD := Lib.hid (QD.out.below h1)
  replace NS2 := Lib.hid (NS2.out.below h1)
  replace TW := Lib.hid (TW.out.below h1)
  replace HB := Lib.hid (bel_trans HB.out h1); clear h1 N2
  have NL := Lib.hid hu; clear hu
  obtain ⟨q0, q1, q2, q3, _, _⟩ := QD.out
  have G0 := Lib.hid (L2 w5)
  go_wp2_with fail
  refine (HB1.out _ _ _ (VD.out _ (PD.out.alloc _)) G0.out).mono ?_
  rintro e w6 ⟨rfl, h1⟩
  replace h1 := bel_alloc h1
  clear q0 q1 q2 q3 G0 PD QD VD
  replace NS2 := Lib.hid ((NS2.out.below h1).alloc (.cells #[.int .i64 282, .int .i64 283] 29))
  replace NL := Lib.hid ((NL.out.below h1).below (bel_alloc (o := .cells #[.int .i64 282, .int .i64 283] 29) (Below.refl _ _)))
  replace TW := Lib.hid ((TW.out.below h1).alloc (.cells #[.int .i64 282, .int .i64 283] 29))
  replace HB := Lib.hid ((bel_trans HB.out h1).alloc (bel_trans HB.out h1).size (.cells #[.int .i64 282, .int .i64 283] 29)); clear h1
  have TB := Lib.hid (Two.new w6 (.int .i64 282) (.int .i64 283) 29)
  have GB := LB (w6.alloc (.cells #[.int .i64 282, .int .i64 283] 29))
  simp only [World.size_alloc] at GB
  replace GB := Lib.hid GB
  obtain ⟨t0, t1, _, _, _⟩ := TW.out
  obtain ⟨s0, s1, _, _, _⟩ := TB.out
  go_wp2_with fail
  refine (HF.out _ _ _ (NS2.out.alloc _) GB.out).mono ?_
  rintro e w7 ⟨rfl, h1⟩
  replace h1 := bel_alloc h1
  replace NL := Lib.hid (NL.out.below h1)
  replace TW := Lib.hid (TW.out.below h1)
  replace TB := Lib.hid (TB.out.below h1)
  replace HB := Lib.hid (bel_trans HB.out h1); clear h1 NS2 GB t0 t1 s0 s1
  obtain ⟨t0, t1, _, _, _⟩ := TW.out
  obtain ⟨s0, s1, _, _, _⟩ := TB.out
  have GL := Lib.hid (L4 w7)
  go_wp2_with fail
  refine (HE.out _ _ _ (NL.out.below (bel_alloc (Below.refl _ _))) GL.out).mono ?_
  rintro e w8 ⟨rfl, h1⟩
  replace h1 := bel_alloc h1
  replace NL := Lib.hid (NL.out.below h1)
  replace TW := Lib.hid (TW.out.below h1)
  replace TB := Lib.hid (TB.out.below h1)
  replace HB := Lib.hid (bel_trans HB.out h1); clear h1 GL t0 t1 s0 s1
  obtain ⟨t0, t1, _, _, _⟩ := TW.out
  obtain ⟨s0, s1, _, _, _⟩ := TB.out
  go_wp2_with fail
  refine (BA.out _).mono ?_
  rintro e w9 ⟨V3, rfl, hx, h1⟩
  replace NL := Lib.hid (NL.out.below h1)
  replace HB := Lib.hid (bel_trans HB.out h1); clear h1
  have N3 := Lib.hid hx; clear hx
  go_wp2_with fail
  refine (HC.out _ _ _ N3.out NL.out).mono ?_
  rintro e w10 ⟨rfl, h1⟩
  replace HB := Lib.hid (bel_trans HB.out h1); clear h1
  go_wp2
  go_returns
  exact ⟨rfl, HB.out⟩
end Go.Proofs.YtmdpdpbkbakidaaGreat

/- The statements about layer 12: casks are copied; few. -/
namespace Go.Proofs.YtmdpdpbkbakidaaGreat
open Go.RowKit

set_option maxHeartbeats 8000000 in
set_option maxRecDepth 100000 in
theorem own_core (c : Ck) (a : Option Addr) (n cap : Nat) (w : World) (hn : n = c.pf.length) (hp : c.pf.length ≤ 1000) (hP : Pts w (.slice a n cap) c.pf) (hW : CkW c) :
    Calls Tryz.prog 8 #[.agg #[.string c.nm, .int .i64 c.ps, .slice a n cap, .int .i64 c.dc]] w fun e w' => ∃ u, e = .returned u ∧ CkV w' u c ∧ Below w.heap.size w w' := by
  have T0 := Quad.new (w.alloc (.cells #[.string c.nm, .int .i64 c.ps, .slice a n cap, .int .i64 c.dc] 24)) (.string ByteArray.empty) (.int .i64 0) (.slice none 0 0) (.int .i64 0) 24
  rw [World.size_alloc] at T0
  replace T0 := Lib.hid (T0.alloc (.cells #[.string c.nm, .int .i64 c.ps, .slice a n cap, .int .i64 c.dc] 24))
  have hHC : Calls Tryz.prog 22 #[.slice (some ⟨w.heap.size + 1 + 1, 0, none⟩) 1 1] (((w.alloc (.cells #[.string c.nm, .int .i64 c.ps, .slice a n cap, .int .i64 c.dc] 24)).alloc (.cells #[.string ByteArray.empty, .int .i64 0, .slice none 0 0, .int .i64 0] 24)).alloc (.cells #[.string c.nm, .int .i64 c.ps, .slice a n cap, .int .i64 c.dc] 24)) fun e w' => ∃ u, e = .returned u ∧ OwnC w' (w.heap.size + 1 + 1 + 1) u [c] ∧ Below (w.heap.size + 1 + 1 + 1) (((w.alloc (.cells #[.string c.nm, .int .i64 c.ps, .slice a n cap, .int .i64 c.dc] 24)).alloc (.cells #[.string ByteArray.empty, .int .i64 0, .slice none 0 0, .int .i64 0] 24)).alloc (.cells #[.string c.nm, .int .i64 c.ps, .slice a n cap, .int .i64 c.dc] 24)) w' := by
    subst hn
    have CO := cks_one ((hP.alloc (.cells #[.string c.nm, .int .i64 c.ps, .slice a c.pf.length cap, .int .i64 c.dc] 24)).alloc (.cells #[.string ByteArray.empty, .int .i64 0, .slice none 0 0, .int .i64 0] 24)) hW
    have := refCopy_any _ [c] _ CO (by simp) (by intro d hd; rw [List.mem_singleton] at hd; subst hd; exact hp)
    simp only [World.size_alloc] at this
    exact this
  have HC := Lib.hid hHC
  have HW := Lib.hid hW
  have HN := Lib.hid hn
  clear hP hW hHC hn
  go_enter Tryz.func8, Tryz.ntmps8
  go_wp2_with fail
  refine HC.out.mono ?_
  rintro e w2 ⟨u, rfl, gO, gg⟩
  obtain ⟨g, cap', a', cp', rfl, hg, d0, d1, d2, d3, hO⟩ := gO.one
  have hsz : (((w.alloc (.cells #[.string c.nm, .int .i64 c.ps, .slice a n cap, .int .i64 c.dc] 24)).alloc (.cells #[.string ByteArray.empty, .int .i64 0, .slice none 0 0, .int .i64 0] 24)).alloc (.cells #[.string c.nm, .int .i64 c.ps, .slice a n cap, .int .i64 c.dc] 24)).heap.size = w.heap.size + 1 + 1 + 1 := by simp
  rw [← hsz] at gg
  have X1 : Hid (Below w.heap.size w w2) := Lib.hid (bel_alloc (bel_alloc (bel_alloc gg)))
  replace T0 := Lib.hid (T0.out.below gg)
  have OP := Lib.hid hO
  clear gO gg HC hO
  obtain ⟨u0, u1, u2, u3, uf, _⟩ := T0.out
  have f0 := uf 0 (by omega)
  have f1 := uf 1 (by omega)
  have f2 := uf 2 (by omega)
  have f3 := uf 3 (by omega)
  clear uf
  rw [← HN.out] at d2 OP
  go_wp2
  obtain ⟨t0, t1, t2, t3⟩ := quad_read w2 (w.heap.size + 1) (.string c.nm) (.int .i64 c.ps) (.slice a' n cp') (.int .i64 c.dc) u0 u1 u2 u3
  refine bodyPost_ret (v := .agg #[.string c.nm, .int .i64 c.ps, .slice a' n cp', .int .i64 c.dc]) (by simp [results, Tryz.results8, go_sem, t0, t1, t2, t3]) rfl ?_
  have hs : w.heap.size + 1 < w.heap.size + 1 + 1 + 1 := by omega
  have P2 := own_far (b := w.heap.size + 1) (i := 3) (z := .int .i64 c.dc) (own_far (b := w.heap.size + 1) (i := 2) (z := .slice a' n cp') (own_far (b := w.heap.size + 1) (i := 1) (z := .int .i64 c.ps) (own_far (b := w.heap.size + 1) (i := 0) (z := .string c.nm) OP.out hs) hs) hs) hs
  exact ⟨_, rfl, ⟨a', cp', by rw [← HN.out], by rw [← HN.out]; exact OwnP.pts P2, HW.out⟩, (((X1.out.setCell (Nat.le_succ _) _).setCell (Nat.le_succ _) _).setCell (Nat.le_succ _) _).setCell (Nat.le_succ _) _⟩
theorem own_any (v : Value) (c : Ck) (w : World) (hv : CkV w v c) (hp : c.pf.length ≤ 1000) :
    Calls Tryz.prog 8 #[v] w fun e w' => ∃ u, e = .returned u ∧ CkV w' u c ∧ Below w.heap.size w w' := by
  obtain ⟨a, cap, rfl, hP, hW⟩ := hv
  exact own_core c a _ cap w rfl hp hP hW
set_option maxHeartbeats 8000000 in
set_option maxRecDepth 100000 in
theorem few_core (c : Ck) (a : Option Addr) (n cap : Nat) (a2 : Option Addr) (n2 cap2 : Nat) (B1 : Bool) (w : World) (hn : n = c.pf.length) (hn2 : n2 ≤ 9223372036854775807) (hP : Pts w (.slice a n cap) c.pf) (hW : CkW c) (hB : fewC c = B1) :
    Calls Tryz.prog 6 #[.agg #[.string c.nm, .int .i64 c.ps, .slice a n cap, .int .i64 c.dc], .slice a2 n2 cap2] w fun e w' => e = .returned (.bool (B1 && decide (n2 ≤ 129))) ∧ Below w.heap.size w w' := by
  have hHC : Calls Tryz.prog 20 #[.slice (some ⟨w.heap.size + 1, 0, none⟩) 1 1] ((w.alloc (.cells #[.string c.nm, .int .i64 c.ps, .slice a n cap, .int .i64 c.dc] 24)).alloc (.cells #[.string c.nm, .int .i64 c.ps, .slice a n cap, .int .i64 c.dc] 24)) fun e w' => e = .returned (.bool B1) ∧ w' = ((w.alloc (.cells #[.string c.nm, .int .i64 c.ps, .slice a n cap, .int .i64 c.dc] 24)).alloc (.cells #[.string c.nm, .int .i64 c.ps, .slice a n cap, .int .i64 c.dc] 24)) := by
    subst hn
    have CO := cks_one (hP.alloc (.cells #[.string c.nm, .int .i64 c.ps, .slice a c.pf.length cap, .int .i64 c.dc] 24)) hW
    have := refFew_any _ [c] _ CO
    simp only [World.size_alloc] at this
    rwa [few_one, hB] at this
  have HC := Lib.hid hHC
  clear hP hW hHC hn
  have X1 : Hid (Below w.heap.size w ((w.alloc (.cells #[.string c.nm, .int .i64 c.ps, .slice a n cap, .int .i64 c.dc] 24)).alloc (.cells #[.string c.nm, .int .i64 c.ps, .slice a n cap, .int .i64 c.dc] 24))) := Lib.hid (bel_alloc (bel_alloc (Below.refl _ _)))
  by_cases hd : n2 ≤ 129
  · rw [decide_eq_true hd]
    have d : decide ((n2 : Int) ≤ 129) = true := decide_eq_true (by omega)
    go_enter Tryz.func6, Tryz.ntmps6
    go_wp2_with fail
    refine HC.out.mono ?_
    rintro e w2 ⟨rfl, hw⟩
    subst hw
    cases B1 with
    | false =>
      go_wp2
      go_returns
      exact ⟨rfl, X1.out⟩
    | true =>
      go_wp2
      go_returns
      exact ⟨rfl, X1.out⟩
  · rw [decide_eq_false hd]
    have d : decide ((n2 : Int) ≤ 129) = false := decide_eq_false (by omega)
    go_enter Tryz.func6, Tryz.ntmps6
    go_wp2_with fail
    refine HC.out.mono ?_
    rintro e w2 ⟨rfl, hw⟩
    subst hw
    cases B1 with
    | false =>
      go_wp2
      go_returns
      exact ⟨rfl, X1.out⟩
    | true =>
      go_wp2
      go_returns
      exact ⟨rfl, X1.out⟩
theorem fewE_any (v u : Value) (c : Ck) (zs : List Int) (w : World) (hv : CkV w v c) (hu : Nums w u zs) :
    Calls Tryz.prog 6 #[v, u] w fun e w' => e = .returned (.bool (fewC c && decide (zs.length ≤ 129))) ∧ Below w.heap.size w w' := by
  obtain ⟨a, cap, rfl, hP, hW⟩ := hv
  obtain ⟨a2, cap2, rfl, hc, _⟩ := hu
  exact few_core c a _ cap a2 _ cap2 _ w rfl (by omega) hP hW rfl
end Go.Proofs.YtmdpdpbkbakidaaGreat

/- How arguments are opened: slices of points. -/
namespace Go.Proofs.YtmdpdpbkbakidaaGreat
open Go.ChangeShapes Go.WideShapes Go.ChangeAt Go.RowKit Go.Joins

theorem own : ownKnob Tryz.prog.godebug = none := by kernel_rfl
theorem laidOut : laidOutB Tryz.prog = true := by kernel_rfl
theorem wf_bd {n : Int} (h : (Lit.int .i64 n).wf = true) : -9223372036854775808 ≤ n ∧ n ≤ 9223372036854775807 := by
  have := bounds_i64 h
  omega
set_option maxRecDepth 100000 in
theorem open_pts_at {H : Type} {enc : TypeId × Value → H} {w : World} {base fuel : Nat} {spare : Nat → Bool} {held : Bool} {v : Value} {y : DataW H × List MemPlace} (hs : ∀ k, spare k = true)
    (hf : DataW.trod enc Tryz.prog w base spare held fuel 22 [v] = some y) :
    ∃ l : List (Int × Int), Pts w v l := by
  rcases Deep.open_slice_pairs Tryz.underlying22 Tryz.underlying43 (by kernel_rfl) rfl rfl (by kernel_rfl) (by kernel_rfl) hf with ⟨hcs, _⟩ | ⟨x, len0, cap0, m, n, V0, V1, D0, D1, P0, P1, hcs, _, hl, hm, hmm, _, hi⟩
  · simp only [List.cons.injEq, and_true] at hcs
    subst hcs
    exact ⟨[], none, 0, rfl, ⟨by simp, by omega⟩, .inl rfl⟩
  · simp only [List.cons.injEq, and_true] at hcs
    subst hcs
    unfold maxLen at hm
    rw [hs] at hmm
    simp only [if_true] at hmm
    subst hmm
    have hint : ∀ i, i < len0 → ∃ q : Int × Int, w.cell? (x.add (i * 2)) = some (.int .i64 q.1) ∧ w.cell? (x.add (i * 2 + 1)) = some (.int .i64 q.2) := by
      intro i hlt
      obtain ⟨h0, h1, h2, h3⟩ := hi i (by omega)
      obtain ⟨a, ea, _, _⟩ := DataW.trod_int (k := .i64) Tryz.underlying3 h2
      obtain ⟨b, eb, _, _⟩ := DataW.trod_int (k := .i64) Tryz.underlying3 h3
      simp only [List.cons.injEq, and_true] at ea eb
      exact ⟨(a, b), by rw [h0, ea], by rw [h1, eb]⟩
    let f : Nat → Int × Int := fun i => if hlt : i < len0 then (hint i hlt).choose else (0, 0)
    have hf2 : ∀ i, i < len0 → w.cell? (x.add (i * 2)) = some (.int .i64 (f i).1) ∧ w.cell? (x.add (i * 2 + 1)) = some (.int .i64 (f i).2) := by
      intro i hlt
      have := (hint i hlt).choose_spec
      simp only [f, dif_pos hlt]
      exact this
    have hlen : ((List.range len0).map f).length = len0 := by simp
    refine ⟨(List.range len0).map f, some x, m, by rw [hlen], by rw [hlen]; omega, ?_⟩
    rw [hlen]
    by_cases h0 : len0 = 0
    · exact .inl h0
    · right
      obtain ⟨b, off, spot⟩ := x
      have hspot : spot = none := by simpa [Addr.add] using World.cell?_spot (hf2 0 (by omega)).1
      subst hspot
      have hb := World.block_lt_of_cell? w _ (hf2 0 (by omega)).1
      refine ⟨b, off, rfl, by simpa [Addr.add] using hb, fun j hj => ?_⟩
      obtain ⟨g0, g1⟩ := hf2 j hj
      rw [Go.WideShapes.add_plain] at g0 g1
      unfold gX gR
      rw [List.getD_eq_getElem?_getD, List.getElem?_map, List.getElem?_range hj]
      exact ⟨g0, by rw [Nat.add_assoc]; exact g1⟩
set_option maxRecDepth 100000 in
theorem open_pts {H : Type} {enc : TypeId × Value → H} {w : World} {r : Reach} {b0 : Nat} {v : Value} {d : DataW H} {p : List MemPlace}
    (hv : Value.okWide Tryz.prog w r b0 22 v) (h : DataW.Trod enc Tryz.prog w 0 (fun _ => true) true 22 v d p) :
    ∃ l : List (Int × Int), Pts w v l := by
  obtain ⟨a0, len0, cap0, rfl⟩ := okWide_slice Tryz.underlying22 hv
  obtain ⟨fuel, hf⟩ := h
  exact open_pts_at (fun _ => rfl) hf
end Go.Proofs.YtmdpdpbkbakidaaGreat

/- How arguments are opened: casks, slices of casks. -/
namespace Go.Proofs.YtmdpdpbkbakidaaGreat
open Go.ChangeShapes Go.WideShapes Go.ChangeAt Go.RowKit Go.Joins

set_option maxRecDepth 100000 in
/-- a cask's four cells -/
theorem open_ck_at {H : Type} {enc : TypeId × Value → H} {w : World} {base n : Nat} {spare : Nat → Bool} {held : Bool} {v0 v1 v2 v3 : Value} {y0 y1 y2 y3 : DataW H × List MemPlace} (hs : ∀ k, spare k = true)
    (h0 : DataW.trod enc Tryz.prog w base spare held n 9 [v0] = some y0) (h1 : DataW.trod enc Tryz.prog w base spare held n 3 [v1] = some y1) (h2 : DataW.trod enc Tryz.prog w base spare held n 22 [v2] = some y2) (h3 : DataW.trod enc Tryz.prog w base spare held n 3 [v3] = some y3) :
    ∃ c, CkV w (.agg #[v0, v1, v2, v3]) c := by
  obtain ⟨s, e0, _, ws⟩ := DataW.trod_string Tryz.underlying9 h0
  obtain ⟨a, e1, _, wa⟩ := DataW.trod_int (k := .i64) Tryz.underlying3 h1
  obtain ⟨b, e3, _, wb⟩ := DataW.trod_int (k := .i64) Tryz.underlying3 h3
  obtain ⟨l, hl⟩ := open_pts_at hs h2
  simp only [List.cons.injEq, and_true] at e0 e1 e3
  subst e0 e1 e3
  obtain ⟨ad, cap, rfl, _, _⟩ := hl.shape
  unfold maxLen at ws
  exact ⟨⟨s, a, l, b⟩, ad, cap, rfl, hl, by omega, wf_bd wa, wf_bd wb⟩
set_option maxRecDepth 100000 in
/-- a cask by value -/
theorem open_ck {H : Type} {enc : TypeId × Value → H} {w : World} {r : Reach} {b0 : Nat} {v : Value} {d : DataW H} {p : List MemPlace}
    (hv : Value.okWide Tryz.prog w r b0 24 v) (h : DataW.Trod enc Tryz.prog w 0 (fun _ => true) true 24 v d p) : ∃ c, CkV w v c := by
  obtain ⟨v0, v1, v2, v3, y0, y1, y2, y3, n, rfl, _, _, h0, h1, h2, h3⟩ := open_agg4 Tryz.underlying24 (by kernel_rfl) (by kernel_rfl) hv h
  exact open_ck_at (fun _ => rfl) h0 h1 h2 h3
set_option maxRecDepth 100000 in
/-- a slice of casks -/
theorem open_cks {H : Type} {enc : TypeId × Value → H} {w : World} {r : Reach} {b0 : Nat} {v : Value} {d : DataW H} {p : List MemPlace}
    (hv : Value.okWide Tryz.prog w r b0 49 v) (h : DataW.Trod enc Tryz.prog w 0 (fun _ => true) true 49 v d p) : ∃ l : List Ck, Cks w v l := by
  obtain ⟨a0, len0, cap0, rfl⟩ := okWide_slice Tryz.underlying49 hv
  obtain ⟨fuel, hf⟩ := h
  rcases Deep.open_slice Tryz.underlying49 hf with ⟨hcs, _⟩ | ⟨x, l, c, m, n, D, Pl, hcs, _, hl, hm, hmm, _, hi⟩
  · simp [Value.cells] at hcs
    obtain ⟨rfl, rfl, rfl⟩ := hcs
    exact ⟨[], none, 0, rfl, ⟨by simp, by omega⟩, .inl rfl⟩
  · simp [Value.cells] at hcs
    obtain ⟨rfl, rfl, rfl⟩ := hcs
    unfold maxLen at hm
    simp only [if_true] at hmm
    subst hmm
    have ce : Tryz.prog.cellsOf 24 = 4 := by kernel_rfl
    rw [ce] at hi
    have hint : ∀ i, i < len0 → ∃ c : Ck, ∃ x0 x1 x2 x3, w.cell? (x.add (i * 4)) = some x0 ∧ w.cell? (x.add (i * 4 + 1)) = some x1 ∧ w.cell? (x.add (i * 4 + 2)) = some x2 ∧ w.cell? (x.add (i * 4 + 3)) = some x3 ∧ CkV w (.agg #[x0, x1, x2, x3]) c := by
      intro i hlt
      obtain ⟨cs', h1, h2⟩ := hi i (by omega)
      obtain ⟨_, hlen, hcell⟩ := World.cells?_some h1
      obtain ⟨y0, y1, y2, y3, k, _, _, g0, g1, g2, g3⟩ := trod_struct4 Tryz.underlying24 h2
      match cs', hlen with
      | [v0, v1, v2, v3], _ =>
        have e0 := hcell 0 (by omega)
        have e1 := hcell 1 (by omega)
        have e2 := hcell 2 (by omega)
        have e3 := hcell 3 (by omega)
        rw [Deep.add_add] at e0 e1 e2 e3
        have c0 : Tryz.prog.cellsOf 9 = 1 := by kernel_rfl
        have c1 : Tryz.prog.cellsOf 3 = 1 := by kernel_rfl
        have c2 : Tryz.prog.cellsOf 22 = 1 := by kernel_rfl
        simp only [c0, c1, c2] at g0 g1 g2 g3
        obtain ⟨q, hq⟩ := open_ck_at (fun _ => rfl) g0 g1 g2 g3
        exact ⟨q, v0, v1, v2, v3, by simpa using e0, by simpa using e1, by simpa using e2, by simpa using e3, hq⟩
    let f : Nat → Ck := fun i => if hlt : i < len0 then (hint i hlt).choose else ⟨ByteArray.empty, 0, [], 0⟩
    have hf2 : ∀ i, i < len0 → ∃ x0 x1 x2 x3, w.cell? (x.add (i * 4)) = some x0 ∧ w.cell? (x.add (i * 4 + 1)) = some x1 ∧ w.cell? (x.add (i * 4 + 2)) = some x2 ∧ w.cell? (x.add (i * 4 + 3)) = some x3 ∧ CkV w (.agg #[x0, x1, x2, x3]) (f i) := by
      intro i hlt
      have := (hint i hlt).choose_spec
      simp only [f, dif_pos hlt]
      exact this
    have hlen : ((List.range len0).map f).length = len0 := by simp
    refine ⟨(List.range len0).map f, some x, m, by rw [hlen], by rw [hlen]; omega, ?_⟩
    by_cases h0 : len0 = 0
    · exact .inl (by rw [hlen]; exact h0)
    · right
      obtain ⟨b, off, spot⟩ := x
      obtain ⟨z0, _, _, _, q0, _⟩ := hf2 0 (by omega)
      have hspot : spot = none := by simpa [Addr.add] using World.cell?_spot q0
      subst hspot
      have hb := World.block_lt_of_cell? w _ q0
      refine ⟨b, off, rfl, by simpa [Addr.add] using hb, fun j hj => ?_⟩
      obtain ⟨x0, x1, x2, x3, g0, g1, g2, g3, g⟩ := hf2 j (by omega)
      rw [Go.WideShapes.add_plain] at g0 g1 g2 g3
      have e : ((List.range len0).map f)[j] = f j := by simp
      rw [e]
      exact ⟨x0, x1, x2, x3, g0, by rw [Nat.add_assoc]; exact g1, by rw [Nat.add_assoc]; exact g2, by rw [Nat.add_assoc]; exact g3, g⟩
end Go.Proofs.YtmdpdpbkbakidaaGreat

/- What the statements about layer 12 need: their opening, the example. -/
namespace Go.Proofs.YtmdpdpbkbakidaaGreat
open Go.ChangeShapes Go.WideShapes Go.ChangeAt Go.RowKit Go.Joins

/-- a slice of integers -/
theorem open_intSlice {H : Type} {enc : TypeId × Value → H} {P : Program} {w : World} {r : Reach} {b0 : Nat} {t e : TypeId} {v : Value} {d : DataW H} {p : List MemPlace}
    (ht : P.underlying t = some (.slice e)) (he : P.underlying e = some (.int .i64)) (hC : P.cellsOf e = 1)
    (hv : Value.okWide P w r b0 t v) (h : DataW.Trod enc P w 0 (fun _ => true) true t v d p) :
    ∃ zs : List Int, Nums w v zs ∧ ∀ z ∈ zs, (Lit.int .i64 z).wf = true := by
  obtain ⟨a0, len0, cap0, rfl⟩ := okWide_slice ht hv
  obtain ⟨fuel, hf⟩ := h
  rcases open_ints ht he hC hf with ⟨hcs, _⟩ | ⟨x, l, c, zs, hcs, _, hl, hm, hz, _, hcell, hwz⟩
  · simp [Value.cells] at hcs
    obtain ⟨rfl, rfl, rfl⟩ := hcs
    exact ⟨[], ⟨none, 0, rfl, by simp, .inl rfl⟩, by simp⟩
  · simp [Value.cells] at hcs
    obtain ⟨rfl, rfl, rfl⟩ := hcs
    simp only [if_true] at hz
    unfold maxLen at hm
    refine ⟨zs.take len0, ⟨some x, cap0, by rw [List.length_take, Nat.min_eq_left (by omega)], by rw [List.length_take]; omega, ?_⟩, fun z hz => hwz z (List.mem_of_mem_take hz)⟩
    by_cases h0 : len0 = 0
    · left; rw [List.length_take]; omega
    · right
      obtain ⟨b, off, rfl, hc⟩ := ints_at hcell (by omega)
      have := hc 0 (by omega)
      refine ⟨b, off, rfl, World.block_lt_of_cell? w _ this, fun j hj => ?_⟩
      rw [List.length_take] at hj
      rw [hc j (by omega)]
      congr 2
      simp only [List.getD_eq_getElem?_getD, List.getElem?_take]
      rw [if_pos (by omega)]
end Go.Proofs.YtmdpdpbkbakidaaGreat
