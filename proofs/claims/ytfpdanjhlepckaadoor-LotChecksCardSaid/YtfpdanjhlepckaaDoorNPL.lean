/- Decimal numerals; the variables that the package reads. -/
import Derived.Test.YtfpdanjhlepckaaDoorCB0
import Derived.Test.YtfpdanjhlepckaaDoorKit
import Derived.Test.YtfpdanjhlepckaaDoorRWB
import Derived.Lib.AppendIntMem
import Derived.Lib.ItoaLen
import Derived.Laws.Concat
namespace Go.Proofs.YtfpdanjhlepckaaDoor
open Go.RowKit

/-- a string, of a list of bytes -/
def str (l : List UInt8) : Value := .string ⟨l.toArray⟩
/-- what the listed variables hold -/
structure CV (w : World) : Prop where
  pow : Lib.TabIs Tryd.prog w "internal/strconv.uint64pow10" .u64 Lib.pow10Tab
  mxl : ∃ m, w.cell? ⟨1, 0, none⟩ = some (.int .i64 m)
theorem CV.below {w w' : World} (h : CV w) (hb : Below w.heap.size w w') : CV w' :=
  ⟨tab_keep (n := "internal/strconv.uint64pow10") 0 (by kernel_rfl) (by decide) h.pow hb, (let ⟨m, a⟩ := h.mxl; ⟨m, cell_bel a hb⟩)⟩
theorem itoa_any (n : Int) (w : World) (hn : -9223372036854775808 ≤ n ∧ n ≤ 9223372036854775807) (hw : CV w) :
    Calls Tryd.prog 54 #[.int .i64 n] w fun e w' => e = .returned (str (Lib.itoa n)) ∧ Below w.heap.size w w' :=
  (Tryd.strconv_Itoa n (by omega) (by omega) w hw.pow).mono fun _ _ ⟨h, k, os, hw⟩ => ⟨h, by rw [hw]; exact Lib.below_grow _ _ (Nat.le_refl _) _ _⟩
theorem app_nl (l : List UInt8) : (⟨l.toArray⟩ : ByteArray) ++ ⟨#[10]⟩ = ⟨(l ++ [10]).toArray⟩ := by
  apply ByteArray.ext; simp [ByteArray.data_append]
theorem str_size (l : List UInt8) : (⟨l.toArray⟩ : ByteArray).size = l.length := by show l.toArray.size = _; simp
end Go.Proofs.YtfpdanjhlepckaaDoor

