/-
  What the package variables of Go's library hold that package text comes to: the tables of unicode/utf8 and of internal/strconv, strconv's two errors. No call is walked here.
-/
import Derived.Test.YtjnnmghehoodhaaGreatDoorUps
import Derived.Test.YtjnnmghehoodhaaGreatDoorRows
import Derived.Test.YtjnnmghehoodhaaGreatDoorShelf
import Derived.Lib.LaidTab
import Derived.WalkSmall
namespace Go.Proofs.YtjnnmghehoodhaaGreatDoor
open Go.RowKit

structure Tabs (w : World) : Prop where
  pow : Go.Lib.TabIs Tryz.prog w "internal/strconv.uint64pow10" .u64 Go.Lib.pow10Tab
  utf : Go.Lib.Utf8Tabs 5 6 w
  syn : ∃ te pe, w.cell? ⟨1, 0, none⟩ = some (.iface te pe)
  ran : ∃ te pe, w.cell? ⟨3, 0, none⟩ = some (.iface te pe)
  max : ∃ m, w.cell? ⟨2, 0, none⟩ = some (.int .i64 m)
  big : 9 ≤ w.heap.size

theorem g_pow : Tryz.prog.globalNamed "internal/strconv.uint64pow10" = some 4 := by kernel_rfl

theorem Tabs.same {w w' : World} (h : Tabs w) (hb : Below 9 w w') : Tabs w' := by
  have hc : ∀ {g i : Nat} {v : Value}, g < 9 → w.cell? ⟨g, i, none⟩ = some v → w'.cell? ⟨g, i, none⟩ = some v := fun hg hv => (Below.cell hb hg).trans hv
  obtain ⟨a, b, hs⟩ := h.syn
  obtain ⟨a', b', hr⟩ := h.ran
  obtain ⟨m, hm⟩ := h.max
  exact { pow := var?_below hb g_pow (by decide) h.pow
          utf := ⟨fun c hc' => hc (by decide) (h.utf.1 c hc'), fun i hi => ⟨hc (by decide) (h.utf.2 i hi).1, hc (by decide) (h.utf.2 i hi).2⟩⟩
          syn := ⟨a, b, hc (by decide) hs⟩
          ran := ⟨a', b', hc (by decide) hr⟩
          max := ⟨m, hc (by decide) hm⟩
          big := Nat.le_trans h.big hb.size }
theorem Tabs.below {w w' : World} (h : Tabs w) {base : Nat} (hg : 9 ≤ base) (hb : Below base w w') : Tabs w' := h.same (Below.mono hb hg)
theorem Tabs.up {w w' : World} (h : Tabs w) (hu : Up w w') : Tabs w' := h.below h.big hu.below
theorem Tabs.alloc {w : World} (h : Tabs w) (o : Obj) : Tabs (w.alloc o) := h.up ((Up.refl w).alloc o)
theorem Tabs.powBelow {w : World} (h : Tabs w) {base : Nat} (hg : 9 ≤ base) : Go.Lib.TabBelow Tryz.prog base w "internal/strconv.uint64pow10" .u64 Go.Lib.pow10Tab := fun _ hb => (h.below hg hb).pow

end Go.Proofs.YtjnnmghehoodhaaGreatDoor
