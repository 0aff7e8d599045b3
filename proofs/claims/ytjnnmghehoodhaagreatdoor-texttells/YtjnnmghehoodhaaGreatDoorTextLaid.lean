/-
  From a row's list of package variables to what the walks ask of the world; and one world in which they lie as listed.
-/
import Derived.Test.YtjnnmghehoodhaaGreatDoorTabs
import Derived.Lib.LaidU8T
import Derived.Stop.LaidErr
import Derived.LaidLaws
import Derived.Lib.LaidIn
import Derived.Deep.DeepHandedRow
import Derived.Deep.DeepWitnessRowRef
import Derived.ProofKit
import Derived.OpenShut
namespace Go.Proofs.YtjnnmghehoodhaaGreatDoor
open Go.ChangeShapes Go.WideShapes Go.ChangeAt Go.RowKit Go.Lib
set_option linter.unusedVariables false
set_option maxRecDepth 100000

def laidL : List (String × DataW Unit) := [("math/bits.deBruijn32tab", Rows.laid_math_bits_deBruijn32tab), ("math/bits.deBruijn64tab", Rows.laid_math_bits_deBruijn64tab), ("internal/strconv.uint64pow10", Rows.laid_internal_strconv_uint64pow10), ("unicode/utf8.acceptRanges", Rows.laid_unicode_utf8_acceptRanges), ("strconv.ErrRange", Rows.laid_strconv_ErrRange), ("strconv.ErrSyntax", Rows.laid_strconv_ErrSyntax), ("unicode/utf8.first", Rows.laid_unicode_utf8_first)]
theorem met_of {W : World} (h : laidMetH Tryz.prog laidL W) : laidMet Tryz.prog [("math/bits.deBruijn32tab", Rows.laid_math_bits_deBruijn32tab), ("math/bits.deBruijn64tab", Rows.laid_math_bits_deBruijn64tab), ("internal/strconv.uint64pow10", Rows.laid_internal_strconv_uint64pow10), ("unicode/utf8.acceptRanges", Rows.laid_unicode_utf8_acceptRanges), ("strconv.ErrRange", Rows.laid_strconv_ErrRange), ("strconv.ErrSyntax", Rows.laid_strconv_ErrSyntax), ("unicode/utf8.first", Rows.laid_unicode_utf8_first)] W := by
  have e : (laidL.filter fun x => x.2.handleName?.isSome) = [] := by kernel_rfl
  unfold laidMetH at h
  rw [e] at h
  exact h

theorem t_gpow : (Tryz.prog.globals[4]?).map (·.type) = some 112 := by kernel_rfl
theorem t_cpow : Tryz.prog.cellsOf 112 = 20 := by kernel_rfl
theorem t_cu64 : Tryz.prog.cellsOf 47 = 1 := by kernel_rfl
theorem t_dpow : Rows.laid_internal_strconv_uint64pow10 (H := Unit) = tabData .u64 pow10Tab := by kernel_rfl
theorem t_dacc : Rows.laid_unicode_utf8_acceptRanges (H := Unit) = acceptData := by kernel_rfl
theorem t_dfirst : Rows.laid_unicode_utf8_first = firstData := by kernel_rfl
theorem t_gsyn : Tryz.prog.globalNamed "strconv.ErrSyntax" = some 1 := by kernel_rfl
theorem t_gran : Tryz.prog.globalNamed "strconv.ErrRange" = some 3 := by kernel_rfl
theorem t_tsyn : (Tryz.prog.globals[1]?).map (·.type) = some 64 := by kernel_rfl
theorem t_tran : (Tryz.prog.globals[3]?).map (·.type) = some 64 := by kernel_rfl
theorem t_star : "*" ++ "errors.errorString" = "*errors.errorString" := by decide
theorem t_row (u : TypeId) (h : Tryz.prog.typeName? 3 u = some "*errors.errorString") : u = 124 :=
  typeName_ptr_named (nm := "errors.errorString") (by rw [t_star]; kernel_rfl) (by kernel_rfl) (by decide) u (by rw [t_star]; exact h)
theorem t_ces : Tryz.prog.cellsOf 126 = 1 := by kernel_rfl
theorem t_cstr : Tryz.prog.cellsOf 9 = 1 := by kernel_rfl

/-- What the row's list and the world's shape give. -/
theorem tabs_of_laid {W : World} (h : laidMetH Tryz.prog laidL W) (hs : W.ShapedOpen Tryz.prog) : Tabs W := by
  have hL := met_of h
  have hpow : TabIs Tryz.prog W "internal/strconv.uint64pow10" .u64 pow10Tab := by
    have h1 := hL.tail.tail
    rw [t_dpow] at h1
    exact tabIs_of_head g_pow t_gpow Tryz.underlying112 Tryz.underlying47 t_cu64 t_cpow h1
  have hf := laidMet.reads hL (.tail _ (.tail _ (.tail _ (.tail _ (.tail _ (.tail _ (.head _)))))))
  have ha := laidMet.reads hL (.tail _ (.tail _ (.tail _ (.head _))))
  rw [t_dfirst] at hf
  rw [t_dacc] at ha
  obtain ⟨a1, s1, hv1, _, _, _⟩ := laid_sentinel (hL.tail.tail.tail.tail.tail) t_gsyn t_tsyn Tryz.underlying64 t_row Tryz.underlying124 Tryz.underlying126 rfl rfl Tryz.underlying9 t_ces t_cstr
  obtain ⟨a2, s2, hv2, _, _, _⟩ := laid_sentinel (hL.tail.tail.tail.tail) t_gran t_tran Tryz.underlying64 t_row Tryz.underlying124 Tryz.underlying126 rfl rfl Tryz.underlying9 t_ces t_cstr
  have hbig : 9 ≤ W.heap.size := by
    obtain ⟨g, t, cs, fuel, p, hg, _, hv, _⟩ := laidMet.reads hL (.tail _ (.head _))
    obtain rfl := Option.some.inj ((show Tryz.prog.globalNamed "math/bits.deBruijn64tab" = some (9 - 1) by kernel_rfl).symm.trans hg)
    have hc : ∃ o, W.heap[9 - 1]? = some o := by
      unfold World.var? at hv
      rw [hg] at hv
      simp only [Option.bind_some] at hv
      split at hv
      · next h => exact ⟨_, h⟩
      · cases hv
    obtain ⟨o, ho⟩ := hc
    have := (Array.getElem?_eq_some_iff.1 ho).1
    omega
  exact { pow := hpow
          utf := utf8Tabs_of_readsT (ρ := Tryz.lays260_ren) (U8Types.of260 Tryz.lays260) ⟨by kernel_rfl, by kernel_rfl, by kernel_rfl, by kernel_rfl, by kernel_rfl, by kernel_rfl, by kernel_rfl⟩ hf ha
          syn := ⟨_, _, by simpa using World.var?_cell t_gsyn hv1 0⟩
          ran := ⟨_, _, by simpa using World.var?_cell t_gran hv2 0⟩
          max := Tryz.laysM143.s1_3 W hs
          big := hbig }

/-- Two blocks more, the two errors. -/
def laidTwo : Input := ⟨#[.cells #[.string ⟨#[118, 97, 108, 117, 101, 32, 111, 117, 116, 32, 111, 102, 32, 114, 97, 110, 103, 101]⟩] 126, .cells #[.string ⟨#[105, 110, 118, 97, 108, 105, 100, 32, 115, 121, 110, 116, 97, 120]⟩] 126], #[], []⟩
/-- The variables hold what is listed; the errors lie at N and N + 1. -/
def laidPut (N : Nat) (w0 : World) : World :=
  let put (h : Array Obj) (g : Nat) (cs : Array Value) : Array Obj := h.modify g fun
    | .cells _ t frozen => .cells cs t frozen
    | o => o
  let h1 := put w0.heap 5 (firstTab.map fun z => Value.int .u8 z).toArray
  let h2 := put h1 6 #[.int .u8 128, .int .u8 191, .int .u8 160, .int .u8 191, .int .u8 128, .int .u8 159, .int .u8 144, .int .u8 191, .int .u8 128, .int .u8 143, .int .u8 0, .int .u8 0, .int .u8 0, .int .u8 0, .int .u8 0, .int .u8 0, .int .u8 0, .int .u8 0, .int .u8 0, .int .u8 0, .int .u8 0, .int .u8 0, .int .u8 0, .int .u8 0, .int .u8 0, .int .u8 0, .int .u8 0, .int .u8 0, .int .u8 0, .int .u8 0, .int .u8 0, .int .u8 0]
  let h3 := put h2 4 #[.int .u64 1, .int .u64 10, .int .u64 100, .int .u64 1000, .int .u64 10000, .int .u64 100000, .int .u64 1000000, .int .u64 10000000, .int .u64 100000000, .int .u64 1000000000, .int .u64 10000000000, .int .u64 100000000000, .int .u64 1000000000000, .int .u64 10000000000000, .int .u64 100000000000000, .int .u64 1000000000000000, .int .u64 10000000000000000, .int .u64 100000000000000000, .int .u64 1000000000000000000, .int .u64 10000000000000000000]
  let h4 := put h3 7 #[.int .u8 0, .int .u8 1, .int .u8 28, .int .u8 2, .int .u8 29, .int .u8 14, .int .u8 24, .int .u8 3, .int .u8 30, .int .u8 22, .int .u8 20, .int .u8 15, .int .u8 25, .int .u8 17, .int .u8 4, .int .u8 8, .int .u8 31, .int .u8 27, .int .u8 13, .int .u8 23, .int .u8 21, .int .u8 19, .int .u8 16, .int .u8 7, .int .u8 26, .int .u8 12, .int .u8 18, .int .u8 6, .int .u8 11, .int .u8 5, .int .u8 10, .int .u8 9]
  let h5 := put h4 8 #[.int .u8 0, .int .u8 1, .int .u8 56, .int .u8 2, .int .u8 57, .int .u8 49, .int .u8 28, .int .u8 3, .int .u8 61, .int .u8 58, .int .u8 42, .int .u8 50, .int .u8 38, .int .u8 29, .int .u8 17, .int .u8 4, .int .u8 62, .int .u8 47, .int .u8 59, .int .u8 36, .int .u8 45, .int .u8 43, .int .u8 51, .int .u8 22, .int .u8 53, .int .u8 39, .int .u8 33, .int .u8 30, .int .u8 24, .int .u8 18, .int .u8 12, .int .u8 5, .int .u8 63, .int .u8 55, .int .u8 48, .int .u8 27, .int .u8 60, .int .u8 41, .int .u8 37, .int .u8 16, .int .u8 46, .int .u8 35, .int .u8 44, .int .u8 21, .int .u8 52, .int .u8 32, .int .u8 23, .int .u8 11, .int .u8 54, .int .u8 26, .int .u8 40, .int .u8 15, .int .u8 34, .int .u8 20, .int .u8 31, .int .u8 10, .int .u8 25, .int .u8 14, .int .u8 19, .int .u8 9, .int .u8 13, .int .u8 8, .int .u8 7, .int .u8 6]
  let h6 := put h5 3 #[.iface 124 (.pointer (some ⟨N, 0, none⟩))]
  let h7 := put h6 1 #[.iface 124 (.pointer (some ⟨N + 1, 0, none⟩))]
  { w0 with heap := h7 }
theorem laid_met (os : Os) (args : Array Value) : laidMet Tryz.prog laidL ((laidPut (World.settled Tryz.prog os).heap.size (World.holding Tryz.prog os laidTwo)).forCall (fun _ _ => 0) ⟨#[], args, []⟩).memory :=
  laidMet_of_run' 8 (by kernel_rfl) (by kernel_rfl)

end Go.Proofs.YtjnnmghehoodhaaGreatDoor
