/-
  Rows of whatever things of some cells each as they lie in memory: fields of a shape, parts of a definition, truths; plain facts, no function of the program.
  Rows of whatever things of some cells that a call owns; append of one thing to such a row. No function of the program.
  What rialtoplay's Hooks answers of a meter, as its text runs.
-/
import Derived.Test.YtmlfkjmondkfnaaDoorVals
import Derived.Test.YtmlfkjmondkfnaaDoorRows
import Derived.Test.YtmlfkjmondkfnaaDoorCalls
import Derived.OwnWalk
import Derived.ProofKit
import Derived.Test.YtmlfkjmondkfnaaDoorHookUse
import Derived.Deep.AppendLies
import Derived.Deep.RegionLaw
namespace Go.Proofs.YtmlfkjmondkfnaaDoor
open Go.RowKit

/-- A slice of things of k cells each: nothing, or a row of them in memory. -/
def Slc {α : Type} (k : Nat) (cs : α → List Value) (z : α) (ok : α → Prop) (w : World) (a : Option Addr) (n : Nat) (l : List α) : Prop :=
  l.length = n ∧ (∀ i, ok (l.getD i z)) ∧ (n = 0 ∨ ∃ b off, a = some ⟨b, off, none⟩ ∧ ∀ i, i < n → ∀ j v, (cs (l.getD i z))[j]? = some v → w.cell? ⟨b, off + i * k + j, none⟩ = some v)
theorem Slc.up {α : Type} {k : Nat} {cs : α → List Value} {z : α} {ok : α → Prop} {w w' : World} {a : Option Addr} {n : Nat} {l : List α} (h : Slc k cs z ok w a n l) (hu : Up w w') : Slc k cs z ok w' a n l := by
  refine ⟨h.1, h.2.1, ?_⟩
  rcases h.2.2 with h0 | ⟨b, off, ha, hx⟩
  · exact .inl h0
  · exact .inr ⟨b, off, ha, fun i hi j v hv => hu.cell (hx i hi j v hv)⟩
/-- Its beginning. -/
theorem Slc.take {α : Type} {k : Nat} {cs : α → List Value} {z : α} {ok : α → Prop} {w : World} {a : Option Addr} {n : Nat} {l : List α} (h : Slc k cs z ok w a n l) (hz : ok z) {m : Nat} (hm : m ≤ n) :
    Slc k cs z ok w a m (l.take m) := by
  have e : ∀ i, (l.take m).getD i z = if i < m then l.getD i z else z := by
    intro i
    simp only [List.getD_eq_getElem?_getD, List.getElem?_take]
    split <;> rfl
  refine ⟨by rw [List.length_take, h.1]; omega, fun i => ?_, ?_⟩
  · rw [e]
    split
    · exact h.2.1 i
    · exact hz
  · rcases h.2.2 with h0 | ⟨b, off, ha, hx⟩
    · exact .inl (by omega)
    · refine .inr ⟨b, off, ha, fun i hi j v hv => ?_⟩
      rw [e, if_pos hi] at hv
      exact hx i (by omega) j v hv

/-- A field: its name, its kind. -/
abbrev FT := ByteArray × Int
def fCells (f : FT) : List Value := [.string f.1, .int .i64 f.2]
def FitsF (f : FT) : Prop := f.1.size ≤ maxLen ∧ IntKind.i64.min ≤ f.2 ∧ f.2 ≤ IntKind.i64.max
def zeroF : FT := (ByteArray.empty, 0)
theorem fits_zeroF : FitsF zeroF := ⟨by simp [zeroF, maxLen], by decide, by decide⟩
abbrev Flds := Slc 2 fCells zeroF FitsF
/-- A part: the field's number, the hook's. -/
abbrev PT := Int × Int
def pCells (p : PT) : List Value := [.int .i64 p.1, .int .i64 p.2]
def FitsP (p : PT) : Prop := IntKind.i64.min ≤ p.1 ∧ p.1 ≤ IntKind.i64.max ∧ IntKind.i64.min ≤ p.2 ∧ p.2 ≤ IntKind.i64.max
def zeroP : PT := (0, 0)
theorem fits_zeroP : FitsP zeroP := ⟨by decide, by decide, by decide, by decide⟩
abbrev Prts := Slc 2 pCells zeroP FitsP
/-- A row of truths. -/
def bCells (b : Bool) : List Value := [.bool b]
abbrev Blns := Slc 1 bCells false (fun _ => True)

theorem Slc.fld {w : World} {a : Option Addr} {n : Nat} {l : List FT} (h : Flds w a n l) {i : Nat} (hi : i < n) :
    ∃ b off, a = some ⟨b, off, none⟩ ∧ w.cell? ⟨b, off + i * 2, none⟩ = some (.string (l.getD i zeroF).1) ∧ w.cell? ⟨b, off + i * 2 + 1, none⟩ = some (.int .i64 (l.getD i zeroF).2) := by
  rcases h.2.2 with h0 | ⟨b, off, ha, hx⟩
  · omega
  · exact ⟨b, off, ha, by simpa using hx i hi 0 _ rfl, hx i hi 1 _ rfl⟩
theorem Slc.prt {w : World} {a : Option Addr} {n : Nat} {l : List PT} (h : Prts w a n l) {i : Nat} (hi : i < n) :
    ∃ b off, a = some ⟨b, off, none⟩ ∧ w.cell? ⟨b, off + i * 2, none⟩ = some (.int .i64 (l.getD i zeroP).1) ∧ w.cell? ⟨b, off + i * 2 + 1, none⟩ = some (.int .i64 (l.getD i zeroP).2) := by
  rcases h.2.2 with h0 | ⟨b, off, ha, hx⟩
  · omega
  · exact ⟨b, off, ha, by simpa using hx i hi 0 _ rfl, hx i hi 1 _ rfl⟩
theorem Slc.bln {w : World} {a : Option Addr} {n : Nat} {l : List Bool} (h : Blns w a n l) {i : Nat} (hi : i < n) :
    ∃ b off, a = some ⟨b, off, none⟩ ∧ w.cell? ⟨b, off + i, none⟩ = some (.bool (l.getD i false)) := by
  rcases h.2.2 with h0 | ⟨b, off, ha, hx⟩
  · omega
  · exact ⟨b, off, ha, by simpa using hx i hi 0 _ rfl⟩

end Go.Proofs.YtmlfkjmondkfnaaDoor

namespace Go.Proofs.YtmlfkjmondkfnaaDoor
open Go.ChangeShapes Go.WideShapes Go.ChangeAt Go.RowKit

theorem flatG_length {α : Type} {k : Nat} {cs : α → List Value} (hk : ∀ v, (cs v).length = k) (l : List α) : (l.flatMap cs).length = l.length * k := by
  induction l with
  | nil => simp
  | cons v l ih => rw [List.flatMap_cons, List.length_append, ih, hk, List.length_cons, Nat.add_mul]; omega
theorem flatG_get {α : Type} {k : Nat} {cs : α → List Value} (hk : ∀ v, (cs v).length = k) (z : α) (l : List α) : ∀ (i j : Nat), i < l.length → j < k → (l.flatMap cs)[i * k + j]? = (cs (l.getD i z))[j]? := by
  induction l with
  | nil => intro i j hi; simp at hi
  | cons v l ih =>
    intro i j hi hj
    rw [List.flatMap_cons]
    cases i with
    | zero =>
      rw [Nat.zero_mul, Nat.zero_add, List.getElem?_append_left (by rw [hk]; exact hj), List.getD_cons_zero]
    | succ i =>
      have e : (i + 1) * k + j = k + (i * k + j) := by rw [Nat.add_mul]; omega
      rw [e, List.getElem?_append_right (by rw [hk]; omega), hk, Nat.add_sub_cancel_left, ih i j (by simpa using hi) hj, List.getD_cons_succ]

/-- A row of things that a call owns. -/
def OwnG {α : Type} (e : TypeId) (k : Nat) (cs : α → List Value) (w : World) (base : Nat) (v : Value) (l : List α) : Prop := w.ownsRow base e k v l.length (l.flatMap cs)
theorem OwnG.nil {α : Type} (e : TypeId) (k : Nat) (cs : α → List Value) (w : World) (base : Nat) : OwnG e k cs w base (.slice none 0 0) [] := World.ownsRow_nil _ _ _ _
theorem OwnG.alloc {α : Type} {e : TypeId} {k : Nat} {cs : α → List Value} {w : World} {base : Nat} {v : Value} {l : List α} (h : OwnG e k cs w base v l) (o : Obj) : OwnG e k cs (w.alloc o) base v l := World.ownsRow.alloc h o
theorem OwnG.lt {α : Type} {e : TypeId} {k : Nat} {cs : α → List Value} {w : World} {base : Nat} {v : Value} {l : List α} (h : OwnG e k cs w base v l) : ∀ g, v.ownBlock = some g → base ≤ g ∧ g < w.heap.size := World.ownsRow.lt h
theorem OwnG.up {α : Type} {e : TypeId} {k : Nat} {cs : α → List Value} {w w' : World} {base : Nat} {v : Value} {l : List α} (h : OwnG e k cs w base v l) (hu : Up w w') : OwnG e k cs w' base v l := by
  refine ⟨h.1, ?_⟩
  rcases h.2 with h0 | ⟨g, cap, cur, hv, hb, hg, hr⟩
  · exact .inl h0
  · exact .inr ⟨g, cap, cur, hv, hb, hu.heap hg, hr⟩
/-- It is a row of things. -/
theorem OwnG.slc {α : Type} {e : TypeId} {k : Nat} {cs : α → List Value} {z : α} {ok : α → Prop} {w : World} {base : Nat} {v : Value} {l : List α} (h : OwnG e k cs w base v l) (hk : ∀ v, (cs v).length = k) (hf : ∀ i, ok (l.getD i z)) :
    ∃ a cap, v = .slice a l.length cap ∧ l.length ≤ cap ∧ cap ≤ maxLen ∧ Slc k cs z ok w a l.length l := by
  have h0 := h
  rcases h.2 with ⟨rfl, hn⟩ | ⟨g, cap, cur, rfl, hb, hg, hc, hm, hs, ht⟩
  · have : l = [] := List.length_eq_zero_iff.1 (by simpa using hn)
    subst this
    exact ⟨none, 0, rfl, Nat.le_refl _, Nat.zero_le _, rfl, hf, .inl rfl⟩
  · refine ⟨some ⟨g, 0, none⟩, cap, rfl, hc, hm, rfl, hf, .inr ⟨g, 0, rfl, fun i hi j v hv => ?_⟩⟩
    have hj : j < k := by
      rcases Nat.lt_or_ge j k with h | h
      · exact h
      · rw [List.getElem?_eq_none (by rw [hk]; exact h)] at hv; cases hv
    rw [show 0 + i * k + j = i * k + j by omega]
    have hlt : i * k + j < l.length * k := by
      have : (i + 1) * k ≤ l.length * k := Nat.mul_le_mul_right k hi
      rw [Nat.add_mul] at this
      omega
    rw [World.ownsRow.cellAt h0 (i * k + j) hlt, flatG_get hk z l i j hi hj]
    exact hv
theorem append_own {α : Type} {cs : α → List Value} {P : Program} {t e : TypeId} {i0 : TypeInfo} {z : Value} {k bytes : Nat} (ht : P.underlying t = some (.slice e)) (hi : P.info? e = some i0) (hz0 : i0.zero = some z) (hz1 : i0.size = k) (hz2 : i0.bytes = bytes) (hzl : z.cells.size = k) (hk0 : 0 < k) (hb1 : bytes ≤ 64)
    (hk : ∀ v, (cs v).length = k) (hone : ∀ v, ∀ u ∈ cs v, u.oneCell' = true)
    {w : World} {ops : Array Oper} {rest : List Oper} {o : Oper} {a : Act} {Q : Exit → Act → World → Prop} (hgd : o.guard = none) (s x : Operand)
    (ho : o.op = .call { callee := .builtin .append, args := #[s, x], argTypes := #[t, t] }) (base : Nat) (v : Value) (l : List α) (hs : a.eval s = v) (hown : OwnG e k cs w base v l)
    (ad : Addr) (c : Nat) (new : α) (hx : a.eval x = .slice (some ad) 1 c) (hnews : ∀ j u, (cs new)[j]? = some u → w.cell? (ad.add j) = some u)
    (hlen : l.length + 1 ≤ 1000000) (hbase : base ≤ w.heap.size)
    (h : ∀ v' w', OwnG e k cs w' base v' (l ++ [new]) → w.grownBy w' v.ownBlock → wpList P ops Q rest (a.put o.dst v') w') : wpList P ops Q (o :: rest) a w := by
  refine wpList_append_own w hgd s x t ho base e i0 z k bytes ht hi hz0 hz1 hz2 hzl hk0 v l.length (l.flatMap cs) hs hown ad 1 c (cs new) hx (by rw [hk]; omega) hnews (hone new) (by unfold maxLen; omega) ?_ hbase fun v' w' h1 h2 _ => h v' w' ?_ h2
  · have : (l.length + 1) * bytes ≤ 1000000 * 64 := Nat.mul_le_mul hlen hb1
    omega
  · unfold OwnG
    rw [List.length_append, List.flatMap_append, List.flatMap_singleton]
    exact h1

/-- What grew by an append still holds all that was there. -/
theorem OwnG.below {α : Type} {e : TypeId} {k : Nat} {cs : α → List Value} {w0 w w' : World} {base : Nat} {v : Value} {l : List α} (hb : Below base w0 w) (hle : base ≤ w.heap.size) (hown : OwnG e k cs w base v l) (hg : w.grownBy w' v.ownBlock) : Below base w0 w' :=
  Below.grown hb hg hle (fun g hk => (hown.lt g hk).1)
theorem getD_add {α : Type} {z : α} {ok : α → Prop} {l : List α} {x : α} (hl : ∀ i, ok (l.getD i z)) (hx : ok x) (hz : ok z) (i : Nat) : ok ((l ++ [x]).getD i z) := by
  by_cases h : i < l.length
  · have := hl i
    rw [List.getD_eq_getElem?_getD, List.getElem?_append_left h, ← List.getD_eq_getElem?_getD]
    exact this
  · rw [List.getD_eq_getElem?_getD, List.getElem?_append_right (by omega)]
    by_cases h2 : i - l.length = 0
    · rw [h2]; exact hx
    · rw [List.getElem?_eq_none (by simp; omega)]; exact hz

end Go.Proofs.YtmlfkjmondkfnaaDoor

namespace Go.Proofs.YtmlfkjmondkfnaaDoor
open Go.ChangeShapes Go.WideShapes Go.ChangeAt Go.RowKit
set_option linter.unusedVariables false
attribute [local go_sem ↓] Go.wp_at_zero Go.wp_at_succ

def FitsH (v : Value) : Prop := v = .nilFunc ∨ ∃ f x y, v = .func f x y
/-- A row of functions. -/
abbrev FnsH := Slc 1 (fun v => [v]) Value.nilFunc FitsH
theorem Slc.fnH {w : World} {a : Option Addr} {n : Nat} {l : List Value} (h : FnsH w a n l) {i : Nat} (hi : i < n) :
    ∃ b off, a = some ⟨b, off, none⟩ ∧ w.cell? ⟨b, off + i, none⟩ = some (l.getD i .nilFunc) := by
  rcases h.2.2 with h0 | ⟨b, off, ha, hx⟩
  · omega
  · exact ⟨b, off, ha, by simpa using hx i hi 0 _ rfl⟩

def oneH (v : Value) : List Value := [v]
theorem info_xtrH : (Tryd.prog.info? 62).map (fun i => (i.zero, i.size, i.bytes)) = some (some .nilFunc, 1, 8) := by kernel_rfl
theorem info_cprH : (Tryd.prog.info? 69).map (fun i => (i.zero, i.size, i.bytes)) = some (some .nilFunc, 1, 8) := by kernel_rfl
abbrev OwnEH := OwnG (α := Value) 62 1 oneH
abbrev OwnCH := OwnG (α := Value) 69 1 oneH
theorem oneCell_fnH {v : Value} (h : FitsH v) : v.oneCell' = true := by
  rcases h with rfl | ⟨f, x, y, rfl⟩ <;> rfl
theorem fn_newH {w : World} {t : TypeId} (v : Value) : ∀ j u, (oneH v)[j]? = some u → (w.alloc (.cells #[v] t)).cell? ((⟨w.heap.size, 0, none⟩ : Addr).add j) = some u := by
  intro j u hj
  match j with
  | 0 => simp [oneH] at hj; subst hj; simp [Addr.add]
  | j + 1 => simp [oneH] at hj

/-- append of a function at a step of a region that draws its order. -/
theorem step_append_fnH {P : Program} {t e : TypeId} (ht : P.underlying t = some (.slice e)) (hi' : (P.info? e).map (fun i => (i.zero, i.size, i.bytes)) = some (some .nilFunc, 1, 8))
    {w : World} {ops : Array Oper} {o : Oper} {a : Act} {K : Act → World → Prop} {Q : Exit → Act → World → Prop} {E : Prop} (hgd : o.guard = none) (s x : Operand)
    (ho : o.op = .call { callee := .builtin .append, args := #[s, x], argTypes := #[t, t] }) (base : Nat) (v : Value) (l : List Value) (hs : a.eval s = v) (hown : OwnG e 1 oneH w base v l)
    (ad : Addr) (c : Nat) (new : Value) (hx : a.eval x = .slice (some ad) 1 c) (hfit : FitsH new) (hnews : ∀ j u, (oneH new)[j]? = some u → w.cell? (ad.add j) = some u)
    (hlen : l.length + 1 ≤ 1000000) (hbase : base ≤ w.heap.size)
    (h : ∀ g cap w', OwnG e 1 oneH w' base (.slice (some ⟨g, 0, none⟩) (l.length + 1) cap) (l ++ [new]) → w.grownBy w' v.ownBlock → K (a.put o.dst (.slice (some ⟨g, 0, none⟩) (l.length + 1) cap)) w') : if Region.wanted o (yielded ops a.tmps) = true then Oper.wp P o a w K Q else E := by
  obtain ⟨i0, hi, hz0, hz1, hz2⟩ := info_parts hi'
  refine step_append_lies w hgd s x t ho base e i0 .nilFunc 1 8 ht hi hz0 hz1 hz2 rfl (by decide) v l.length (l.flatMap oneH) hs hown ad 1 c (oneH new) hx rfl hnews (fun u hu => ?_) (by decide) (by unfold maxLen; omega) (by omega) hbase w.heap.size rfl fun g cap w' h1 h2 _ _ => h g cap w' ?_ h2
  · simp only [oneH, List.mem_singleton] at hu; subst hu; exact oneCell_fnH hfit
  · unfold OwnG
    rw [List.length_append, List.flatMap_append, List.flatMap_singleton]
    exact h1
theorem OwnG.keepH {α : Type} {e : TypeId} {k : Nat} {cs : α → List Value} {w w' : World} {base B : Nat} {v : Value} {l : List α} (h : OwnG e k cs w base v l) (hb : Below B w w') (hg : ∀ g, v.ownBlock = some g → g < B) : OwnG e k cs w' base v l := by
  refine ⟨h.1, ?_⟩
  rcases h.2 with h0 | ⟨g, cap, cur, rfl, hb', hh, hr⟩
  · exact .inl h0
  · exact .inr ⟨g, cap, cur, rfl, hb', (hb.block g (hg g rfl)).trans hh, hr⟩
/-- Two cells that hold nothing yet. -/
def FreeH (w : World) (R : Nat) : Prop := w.cell? ⟨R, 0, none⟩ = some (.slice none 0 0) ∧ w.cell? ⟨R, 1, none⟩ = some (.slice none 0 0) ∧ ∀ j, w.frozen? ⟨R, j, none⟩ = false
theorem FreeH.below {w w' : World} {R B : Nat} (h : FreeH w R) (hb : Below B w w') (hR : R < B) : FreeH w' R :=
  ⟨(hb.cell (p := ⟨R, 0, none⟩) hR).trans h.1, (hb.cell (p := ⟨R, 1, none⟩) hR).trans h.2.1, fun j => (hb.frozen (p := ⟨R, j, none⟩) hR).trans (h.2.2 j)⟩
theorem FreeH.setCell {w : World} {R : Nat} (h : FreeH w R) (a : Addr) (v : Value) (ha : R ≠ a.block) : FreeH (w.setCell a v) R :=
  ⟨(World.cell?_setCell_other _ _ _ _ (fun e => ha (congrArg Addr.block e).symm)).trans h.1, (World.cell?_setCell_other _ _ _ _ (fun e => ha (congrArg Addr.block e).symm)).trans h.2.1, fun j => by rw [World.frozen?_setCell]; exact h.2.2 j⟩

/-- A function of the statements' own, with its number and its meter. -/
def XtrFn (F : FuncId) (w : World) (mb B j : Nat) (v : Value) : Prop := ∃ mx nx, v = .func (.func F) #[] #[.pointer (some ⟨mx, 0, none⟩), .pointer (some ⟨nx, 0, none⟩)] ∧ w.cell? ⟨mx, 0, none⟩ = some (.pointer (some ⟨mb, 0, none⟩)) ∧ w.cell? ⟨nx, 0, none⟩ = some (.int .i64 (j : Int)) ∧ B ≤ mx ∧ B ≤ nx
def AllX (F : FuncId) (w : World) (mb B : Nat) (l : List Value) : Prop := ∀ i, i < l.length → XtrFn F w mb B i (l.getD i .nilFunc)
def NoFn (u : Value) : Prop := ∀ f x y, u ≠ .func f x y
theorem AllX.keep {F : FuncId} {w w' : World} {mb B : Nat} {l : List Value} (h : AllX F w mb B l) (hp : ∀ b u, B ≤ b → NoFn u → w.cell? ⟨b, 0, none⟩ = some u → w'.cell? ⟨b, 0, none⟩ = some u) : AllX F w' mb B l := by
  intro i hi
  obtain ⟨mx, nx, h1, h2, h3, h4, h5⟩ := h i hi
  exact ⟨mx, nx, h1, hp mx _ h4 (fun _ _ _ e => by cases e) h2, hp nx _ h5 (fun _ _ _ e => by cases e) h3, h4, h5⟩
theorem AllX.add {F : FuncId} {w : World} {mb B : Nat} {l : List Value} {v : Value} (h : AllX F w mb B l) (hv : XtrFn F w mb B l.length v) : AllX F w mb B (l ++ [v]) := by
  intro i hi
  rw [List.getD_eq_getElem?_getD]
  by_cases hx : i < l.length
  · rw [List.getElem?_append_left hx, ← List.getD_eq_getElem?_getD]
    exact h i hx
  · have e : i = l.length := by simp at hi; omega
    subst e
    rw [List.getElem?_append_right (Nat.le_refl _), Nat.sub_self]
    exact hv
theorem AllX.fits {F : FuncId} {w : World} {mb B : Nat} {l : List Value} (h : AllX F w mb B l) (i : Nat) : FitsH (l.getD i .nilFunc) := by
  by_cases hx : i < l.length
  · obtain ⟨mx, nx, h1, _⟩ := h i hx
    exact .inr ⟨_, _, _, h1⟩
  · rw [List.getD_eq_getElem?_getD, List.getElem?_eq_none (by omega)]
    exact .inl rfl
theorem own_not {e : TypeId} {F : FuncId} {w w0 : World} {mb B base : Nat} {v : Value} {l : List Value} (h : OwnG e 1 oneH w base v l) (hx : AllX F w0 mb B l) (h0 : l = [] → v = .slice none 0 0) {b : Nat} {u : Value} (hc : w.cell? ⟨b, 0, none⟩ = some u) (hu : NoFn u) : v.ownBlock ≠ some b := by
  intro hb
  by_cases hl : l = []
  · rw [h0 hl] at hb
    cases hb
  · have hpos : 0 < l.length := List.length_pos_iff.2 hl
    rcases h.2 with ⟨rfl, hn⟩ | ⟨g, cap, cur, rfl, _⟩
    · cases hb
    · have hg : g = b := by
        have : some g = some b := hb
        exact Option.some.inj this
      subst hg
      have h1 := h.cellAt 0 (by omega)
      obtain ⟨mx, nx, h2, _⟩ := hx 0 hpos
      cases l with
      | nil => exact hl rfl
      | cons a t =>
        have h3 : ((a :: t).flatMap oneH)[0]? = some a := by simp [oneH]
        rw [h3, hc] at h1
        cases h1
        exact hu _ _ _ h2
theorem grown_cell {w w' : World} {v : Value} (hg : w.grownBy w' v.ownBlock) {b : Nat} {u : Value} (hc : w.cell? ⟨b, 0, none⟩ = some u) (hn : v.ownBlock ≠ some b) : w'.cell? ⟨b, 0, none⟩ = some u :=
  (World.cell?_of_block (w := w) (hg.block b (World.block_lt_of_cell? w _ hc) (fun e => hn e.symm))).trans hc

theorem extractorM_calls (mb j : Nat) (w : World) : Calls Tryd.prog 45 #[.int .i64 (j : Int), .pointer (some ⟨mb, 0, none⟩)] w fun e w' => (∃ f x y, e = .returned (.func f x y) ∧ XtrFn 69 w' mb w.heap.size j (.func f x y)) ∧ Up w w' := by
  go_enter Tryd.func45, Tryd.ntmps45
  go_wp2
  go_ret
  exact ⟨⟨_, _, _, rfl, w.heap.size + 1, w.heap.size, rfl, by go_simp, by go_simp, by omega, Nat.le_refl _⟩, ((Up.refl _).alloc _).alloc _⟩
theorem comparatorM_calls (mb j : Nat) (w : World) : Calls Tryd.prog 46 #[.int .i64 (j : Int), .pointer (some ⟨mb, 0, none⟩)] w fun e w' => (∃ f x y, e = .returned (.func f x y) ∧ XtrFn 71 w' mb w.heap.size j (.func f x y)) ∧ Up w w' := by
  go_enter Tryd.func46, Tryd.ntmps46
  go_wp2
  go_ret
  exact ⟨⟨_, _, _, rfl, w.heap.size + 1, w.heap.size, rfl, by go_simp, by go_simp, by omega, Nat.le_refl _⟩, ((Up.refl _).alloc _).alloc _⟩
theorem XtrFn.mono {F : FuncId} {w : World} {mb B B' j : Nat} {v : Value} (h : XtrFn F w mb B j v) (hB : B' ≤ B) : XtrFn F w mb B' j v := by
  obtain ⟨mx, nx, h1, h2, h3, h4, h5⟩ := h
  exact ⟨mx, nx, h1, h2, h3, Nat.le_trans hB h4, Nat.le_trans hB h5⟩
theorem XtrFn.keep {F : FuncId} {w w' : World} {mb B j : Nat} {v : Value} (h : XtrFn F w mb B j v) (hp : ∀ b u, B ≤ b → NoFn u → w.cell? ⟨b, 0, none⟩ = some u → w'.cell? ⟨b, 0, none⟩ = some u) : XtrFn F w' mb B j v := by
  obtain ⟨mx, nx, h1, h2, h3, h4, h5⟩ := h
  exact ⟨mx, nx, h1, hp mx _ h4 (fun _ _ _ e => by cases e) h2, hp nx _ h5 (fun _ _ _ e => by cases e) h3, h4, h5⟩

theorem AllX.low {F : FuncId} {w : World} {mb B B' : Nat} {l : List Value} (h : AllX F w mb B l) (hB : B' ≤ B) : AllX F w mb B' l := fun i hi => (h i hi).mono hB

set_option maxRecDepth 20000 in
set_option maxHeartbeats 4000000 in
theorem phooksM_calls (mb : Nat) (w : World) : Calls Tryd.prog 17 #[.pointer (some ⟨mb, 0, none⟩)] w fun e w' => ∃ a c l a' c' l', e = .returned (.agg #[.slice a 5 c, .slice a' 3 c']) ∧ FnsH w' a 5 l ∧ FnsH w' a' 3 l' ∧ AllX 69 w' mb w.heap.size l ∧ AllX 71 w' mb w.heap.size l' ∧ Up w w' := by
  go_enter Tryd.func17, Tryd.ntmps17
  go_wp2_with fail
  obtain ⟨B, hB⟩ : ∃ B, B = w.heap.size + 2 := ⟨_, rfl⟩
  obtain ⟨D, hD⟩ : ∃ D, D = w.heap.size + 1 := ⟨_, rfl⟩
  have hsz : ((w.alloc (.cells #[.slice none 0 0, .slice none 0 0] 52)).alloc (.cells #[.slice none 0 0, .slice none 0 0] 52)).heap.size = B := by rw [hB]; simp
  have k0 : ((w.alloc (.cells #[.slice none 0 0, .slice none 0 0] 52)).alloc (.cells #[.slice none 0 0, .slice none 0 0] 52)).cell? ⟨D, 0, none⟩ = some (.slice none 0 0) := by rw [hD]; go_simp
  have k1 : ((w.alloc (.cells #[.slice none 0 0, .slice none 0 0] 52)).alloc (.cells #[.slice none 0 0, .slice none 0 0] 52)).cell? ⟨D, 1, none⟩ = some (.slice none 0 0) := by rw [hD]; go_simp
  have kf : ∀ j, ((w.alloc (.cells #[.slice none 0 0, .slice none 0 0] 52)).alloc (.cells #[.slice none 0 0, .slice none 0 0] 52)).frozen? ⟨D, j, none⟩ = false := by rw [hD]; intro j; go_simp
  have kr : FreeH ((w.alloc (.cells #[.slice none 0 0, .slice none 0 0] 52)).alloc (.cells #[.slice none 0 0, .slice none 0 0] 52)) w.heap.size := ⟨by go_simp, by go_simp, fun j => by go_simp⟩
  have hu0 : Up w ((w.alloc (.cells #[.slice none 0 0, .slice none 0 0] 52)).alloc (.cells #[.slice none 0 0, .slice none 0 0] 52)) := ((Up.refl _).alloc _).alloc _
  rw [← hD]
  generalize (w.alloc (.cells #[.slice none 0 0, .slice none 0 0] 52)).alloc (.cells #[.slice none 0 0, .slice none 0 0] 52) = W0 at *
  have hDB : D < B := by omega
  have hwD : w.heap.size ≤ D := by omega
  have hwD1 : w.heap.size ≠ D := by omega
  clear hB hD
  go_loopw [4] (fun i wr => ∃ (j : Nat) (v : Value) (l : List Value), j ≤ 5 ∧ i = .int .i64 j ∧ l.length = j ∧ (AllX 69 wr mb B l ∧ (l = [] → v = .slice none 0 0)) ∧ OwnEH wr B v l ∧ Up w wr ∧ B ≤ wr.heap.size ∧ wr.cell? ⟨D, 0, none⟩ = some v ∧ wr.cell? ⟨D, 1, none⟩ = some (.slice none 0 0) ∧ (∀ j, wr.frozen? ⟨D, j, none⟩ = false) ∧ FreeH wr w.heap.size) (fun i _ => 5 - (intOf i).toNat)
  case atStart => exact ⟨0, _, [], by decide, rfl, rfl, ⟨fun i hi => absurd hi (Nat.not_lt_zero i), fun _ => rfl⟩, OwnG.nil _ _ _ _ _, hu0, Nat.le_of_eq hsz.symm, k0, k1, kf, kr⟩
  case round =>
    clear hsz k0 k1 kf hu0 kr
    obtain ⟨j, v, l, hj, rfl, hl, hall, ho, hu, hsz, c0, c1, fz, hr⟩ := hrel
    replace hu := hide hu
    replace hall := hide hall
    by_cases hlt : j < 5
    · have t0 : decide ((j : Int) < 5) = true := decide_eq_true (by omega)
      have f0 := fz 0
      have hDs : D < wr.heap.size := by omega
      go_wp2_with fail
      go_region_law
        (first
          | (refine step_append_fnH Tryd.underlying49 info_xtrH rfl _ _ (by rfl) B _ _ (by rfl) (OwnG.alloc (OwnG.up (w := wr.drew) ho hu2) _) _ 1 (.func f x y) (by rfl) (.inr ⟨f, x, y, rfl⟩) (fn_newH _) (by omega) (Nat.le_trans hsz (Nat.le_trans hs2 (by simp))) ?_; intro g cap w3 ho3 hg3; have hb3 := OwnG.below (Below.refl B _) (Nat.le_trans hsz (Nat.le_trans hs2 (by simp))) (OwnG.alloc (OwnG.up (w := wr.drew) ho hu2) _) hg3; have ub := (Up.refl w2).alloc (.cells #[.func f x y] 62); have c3 := (hb3.cell (p := ⟨D, 0, none⟩) hDB).trans (ub.cell c0'); have f3 := (hb3.frozen (p := ⟨D, 0, none⟩) hDB).trans ((ub.frozen (p := ⟨D, 0, none⟩) hD2).trans ((hu2.frozen (p := ⟨D, 0, none⟩) hDs).trans f0)))
          | (go_simp; go_at_call 45; refine (extractorM_calls mb j _).mono ?_; rintro _ w2 ⟨⟨f, x, y, rfl, hxf⟩, hu2⟩; have hs2 := hu2.size; have c0' := hu2.cell (p := ⟨D, 0, none⟩) (v := v) c0; have hD2 : D < w2.heap.size := Nat.lt_of_lt_of_le hDs hs2; dsimp only))
      all_goals (
        have q1 := hide ((hb3.cell (p := ⟨D, 1, none⟩) hDB).trans (ub.cell (hu2.cell (p := ⟨D, 1, none⟩) c1)))
        have qf : Hid (∀ j, w3.frozen? ⟨D, j, none⟩ = false) := fun j => (hb3.frozen (p := ⟨D, j, none⟩) hDB).trans ((ub.frozen (p := ⟨D, j, none⟩) hD2).trans ((hu2.frozen (p := ⟨D, j, none⟩) hDs).trans (fz j)))
        have qu : Hid (Up w w3) := Below.trans (hu.out.drew.trans (hu2.trans ub)).below (Below.mono hb3 (by omega))
        have qr := hide ((((show FreeH wr.drew w.heap.size from hr).below (hu2.below) (Nat.lt_of_le_of_lt hwD hDs)).below ub.below (Nat.lt_of_le_of_lt hwD hD2)).below hb3 (Nat.lt_of_le_of_lt hwD hDB))
        have qs : B ≤ w3.heap.size := Nat.le_trans hsz (Nat.le_trans hs2 (Nat.le_trans (by simp) hb3.size))
        replace ho3 := hide ho3
        have hkp : ∀ b u, NoFn u → wr.cell? ⟨b, 0, none⟩ = some u → w3.cell? ⟨b, 0, none⟩ = some u := fun b u hu' hc' => grown_cell hg3 (ub.cell (hu2.cell (p := ⟨b, 0, none⟩) hc')) (own_not (OwnG.alloc (OwnG.up (w := wr.drew) ho hu2) _) hall.out.1 hall.out.2 (ub.cell (hu2.cell (p := ⟨b, 0, none⟩) hc')) hu')
        have ha3 := hide (AllX.add (hall.out.1.keep (fun b u _ => hkp b u)) (XtrFn.mono (by rw [hl]; exact hxf.keep (fun b u _ hu' hc' => grown_cell hg3 (ub.cell hc') (own_not (OwnG.alloc (OwnG.up (w := wr.drew) ho hu2) _) hall.out.1 hall.out.2 (ub.cell hc') hu'))) hsz))
        clear hkp hxf
        replace c3 := hide c3
        clear hg3 hb3 ub f3 c0' hu2 hs2 hD2 ho c0 c1 fz f0 hr
        go_wp2
        go_roundw
        case rel =>
          exact ⟨j + 1, _, l ++ [.func f x y], by omega, by go_num, by simp [hl], ⟨ha3.out.keep (fun b u hb _ hc' => (World.cell?_setCell_other _ _ _ _ (by intro e; have := congrArg Addr.block e; simp at this; omega)).trans hc'), fun e => by simp at e⟩, ownsRow_setCell_below (hl ▸ ho3.out) hDB _, qu.out.setCell hwD _, by simpa using qs, World.cell?_setCell_same _ _ _ c3.out, (World.cell?_setCell_other _ _ _ _ (by simp)).trans q1.out, fun j => by rw [World.frozen?_setCell]; exact qf.out j, qr.out.setCell _ _ (by show w.heap.size ≠ D; exact hwD1)⟩
        case measure => simp [intOf]; omega)
    · obtain rfl : j = 5 := by omega
      have t0 : decide ((((5 : Nat) : Int)) < 5) = false := by decide
      obtain ⟨a, c, rfl, _, _, HE⟩ := ho.slc (z := .nilFunc) (ok := FitsH) (fun _ => rfl) hall.out.1.fits
      rw [hl] at c0 ho
      rename World => wa
      obtain ⟨B2, hB2⟩ : ∃ B2, B2 = wa.heap.size := ⟨_, rfl⟩
      have hgE : ∀ g, (Value.slice a 5 c).ownBlock = some g → g < B2 := fun g hg => hB2 ▸ (ho.lt g hg).2
      have hDB1 := hDB
      have hDB2 : D < B2 := by omega
      have hallE := hall
      clear hall
      clear hlt hj HE
      go_wp2_with fail
      rw [show ((5 : Nat) : Int) = (5 : Int) from rfl]
      go_loopw [5] (fun i wr => ∃ (j : Nat) (v : Value) (l2 : List Value), j ≤ 3 ∧ i = .int .i64 j ∧ l2.length = j ∧ (AllX 71 wr mb B2 l2 ∧ (l2 = [] → v = .slice none 0 0)) ∧ OwnCH wr B2 v l2 ∧ Up w wr ∧ B2 ≤ wr.heap.size ∧ wr.cell? ⟨D, 1, none⟩ = some v ∧ wr.cell? ⟨D, 0, none⟩ = some (.slice a 5 c) ∧ (∀ j, wr.frozen? ⟨D, j, none⟩ = false) ∧ FreeH wr w.heap.size ∧ OwnEH wr B (.slice a 5 c) l ∧ AllX 69 wr mb B l) (fun i _ => 3 - (intOf i).toNat)
      case atStart => exact ⟨0, _, [], by decide, rfl, rfl, ⟨fun i hi => absurd hi (Nat.not_lt_zero i), fun _ => rfl⟩, OwnG.nil _ _ _ _ _, hu.out, Nat.le_of_eq hB2, c1, c0, fz, hr, ho, hallE.out.1⟩
      case round =>
        clear hu hsz c0 c1 fz hr ho
        obtain ⟨j, v, l2, hj, rfl, hl2, hall, ho, hu, hsz, c0, c1, fz, hr, hoE, hXE⟩ := hrel
        replace hu := hide hu
        replace hall := hide hall
        by_cases hlt : j < 3
        · have t2 : decide ((j : Int) < 3) = true := decide_eq_true (by omega)
          have f0 := fz 1
          have hDs : D < wr.heap.size := by omega
          go_wp2_with fail
          go_region_law
            (first
          | (refine step_append_fnH Tryd.underlying50 info_cprH rfl _ _ (by rfl) B2 _ _ (by rfl) (OwnG.alloc (OwnG.up (w := wr.drew) ho hu2) _) _ 1 (.func f x y) (by rfl) (.inr ⟨f, x, y, rfl⟩) (fn_newH _) (by omega) (Nat.le_trans hsz (Nat.le_trans hs2 (by simp))) ?_; intro g cap w3 ho3 hg3; have hb3 := OwnG.below (Below.refl B2 _) (Nat.le_trans hsz (Nat.le_trans hs2 (by simp))) (OwnG.alloc (OwnG.up (w := wr.drew) ho hu2) _) hg3; have ub := (Up.refl w2).alloc (.cells #[.func f x y] 69); have c3 := (hb3.cell (p := ⟨D, 1, none⟩) hDB2).trans (ub.cell c0'); have f3 := (hb3.frozen (p := ⟨D, 1, none⟩) hDB2).trans ((ub.frozen (p := ⟨D, 1, none⟩) hD2).trans ((hu2.frozen (p := ⟨D, 1, none⟩) hDs).trans f0)))
          | (go_simp; go_at_call 46; refine (comparatorM_calls mb j _).mono ?_; rintro _ w2 ⟨⟨f, x, y, rfl, hxf⟩, hu2⟩; have hs2 := hu2.size; have c0' := hu2.cell (p := ⟨D, 1, none⟩) (v := v) c0; have hD2 : D < w2.heap.size := Nat.lt_of_lt_of_le hDs hs2; dsimp only))
          all_goals (
            have q1 := hide ((hb3.cell (p := ⟨D, 0, none⟩) hDB2).trans (ub.cell (hu2.cell (p := ⟨D, 0, none⟩) c1)))
            have qf : Hid (∀ j, w3.frozen? ⟨D, j, none⟩ = false) := fun j => (hb3.frozen (p := ⟨D, j, none⟩) hDB2).trans ((ub.frozen (p := ⟨D, j, none⟩) hD2).trans ((hu2.frozen (p := ⟨D, j, none⟩) hDs).trans (fz j)))
            have qu : Hid (Up w w3) := Below.trans (hu.out.drew.trans (hu2.trans ub)).below (Below.mono hb3 (by omega))
            have qr := hide ((((show FreeH wr.drew w.heap.size from hr).below (hu2.below) (Nat.lt_of_le_of_lt hwD hDs)).below ub.below (Nat.lt_of_le_of_lt hwD hD2)).below hb3 (Nat.lt_of_le_of_lt hwD hDB2))
            have qs : B2 ≤ w3.heap.size := Nat.le_trans hsz (Nat.le_trans hs2 (Nat.le_trans (by simp) hb3.size))
            have qe := hide (OwnG.keepH (OwnG.alloc (OwnG.up (w := wr.drew) hoE hu2) _) hb3 hgE)
            replace ho3 := hide ho3
            have hkp : ∀ b u, NoFn u → wr.cell? ⟨b, 0, none⟩ = some u → w3.cell? ⟨b, 0, none⟩ = some u := fun b u hu' hc' => grown_cell hg3 (ub.cell (hu2.cell (p := ⟨b, 0, none⟩) hc')) (own_not (OwnG.alloc (OwnG.up (w := wr.drew) ho hu2) _) hall.out.1 hall.out.2 (ub.cell (hu2.cell (p := ⟨b, 0, none⟩) hc')) hu')
            have ha3 := hide (AllX.add (hall.out.1.keep (fun b u _ => hkp b u)) (XtrFn.mono (by rw [hl2]; exact hxf.keep (fun b u _ hu' hc' => grown_cell hg3 (ub.cell hc') (own_not (OwnG.alloc (OwnG.up (w := wr.drew) ho hu2) _) hall.out.1 hall.out.2 (ub.cell hc') hu'))) hsz))
            have hx3 := hide (hXE.keep (fun b u _ => hkp b u))
            clear hkp hxf hXE
            replace c3 := hide c3
            clear hg3 hb3 ub f3 c0' hu2 hs2 hD2 ho c0 c1 fz f0 hr hoE
            go_wp2
            go_roundw
            case rel =>
              exact ⟨j + 1, _, l2 ++ [.func f x y], by omega, by go_num, by simp [hl2], ⟨ha3.out.keep (fun b u hb _ hc' => (World.cell?_setCell_other _ _ _ _ (by intro e; have := congrArg Addr.block e; simp at this; omega)).trans hc'), fun e => by simp at e⟩, ownsRow_setCell_below (hl2 ▸ ho3.out) hDB2 _, qu.out.setCell hwD _, by simpa using qs, World.cell?_setCell_same _ _ _ c3.out, (World.cell?_setCell_other _ _ _ _ (by simp)).trans q1.out, fun j => by rw [World.frozen?_setCell]; exact qf.out j, qr.out.setCell _ _ (by show w.heap.size ≠ D; exact hwD1), ownsRow_setCell_below qe.out hDB1 _, hx3.out.keep (fun b u hb _ hc' => (World.cell?_setCell_other _ _ _ _ (by intro e; have := congrArg Addr.block e; simp at this; omega)).trans hc')⟩
            case measure => simp [intOf]; omega)
        · obtain rfl : j = 3 := by omega
          have t2 : decide ((((3 : Nat) : Int)) < 3) = false := by decide
          have hRB : w.heap.size < B := Nat.lt_of_le_of_lt hwD hDB1
          have hRB2 : w.heap.size < B2 := Nat.lt_of_le_of_lt hwD hDB2
          obtain ⟨a', c', rfl, _, _, _⟩ := ho.slc (z := .nilFunc) (ok := FitsH) (fun _ => rfl) hall.out.1.fits
          rw [hl2] at c0 ho
          have HC' := hide (OwnG.slc (z := .nilFunc) (ok := FitsH) (show OwnCH _ B2 _ _ from ownsRow_setCell_below (ownsRow_setCell_below (hl2 ▸ ho) (a := ⟨w.heap.size, 0, none⟩) hRB2 (.slice a 5 c)) (a := ⟨w.heap.size, 1, none⟩) hRB2 (.slice a' 3 c')) (fun _ => rfl) hall.out.1.fits)
          have HE' := hide (OwnG.slc (z := .nilFunc) (ok := FitsH) (show OwnEH _ B _ _ from ownsRow_setCell_below (ownsRow_setCell_below hoE (a := ⟨w.heap.size, 0, none⟩) hRB (.slice a 5 c)) (a := ⟨w.heap.size, 1, none⟩) hRB (.slice a' 3 c')) (fun _ => rfl) hallE.out.1.fits)
          obtain ⟨r0, r1, rf⟩ := hr
          have rf0 := rf 0
          have rf1 := rf 1
          have hfin : ∀ b u, w.heap.size < b → wr.cell? ⟨b, 0, none⟩ = some u → ((wr.setCell ⟨w.heap.size, 0, none⟩ (.slice a 5 c)).setCell ⟨w.heap.size, 1, none⟩ (.slice a' 3 c')).cell? ⟨b, 0, none⟩ = some u := fun b u hb hc' => (World.cell?_setCell_other _ _ _ _ (by intro e; have := congrArg Addr.block e; simp at this; omega)).trans ((World.cell?_setCell_other _ _ _ _ (by intro e; have := congrArg Addr.block e; simp at this; omega)).trans hc')
          have HX5 := hide (AllX.low (hXE.keep (fun b u hb _ hc' => hfin b u (by omega) hc')) (Nat.le_of_lt hRB))
          have HX6 := hide (AllX.low (hall.out.1.keep (fun b u hb _ hc' => hfin b u (by omega) hc')) (Nat.le_of_lt hRB2))
          clear hfin ho hoE fz rf hXE
          go_wp2
          refine bodyPost_ret (v := .agg #[.slice a 5 c, .slice a' 3 c']) (by simp [results, Tryd.results17, go_sem, r0, r1]) rfl ?_
          obtain ⟨a3, c3, e3, _, _, H3⟩ := HE'.out
          obtain ⟨a4, c4, e4, _, _, H4⟩ := HC'.out
          rw [hl] at e3 H3
          rw [hl2] at e4 H4
          obtain ⟨rfl, rfl⟩ : a = a3 ∧ c = c3 := by cases e3; exact ⟨rfl, rfl⟩
          obtain ⟨rfl, rfl⟩ : a' = a4 ∧ c' = c4 := by cases e4; exact ⟨rfl, rfl⟩
          exact ⟨a, c, l, a', c', l2, rfl, H3, H4, HX5.out, HX6.out, (hu.out.setCell (Nat.le_refl _) _).setCell (Nat.le_refl _) _⟩

end Go.Proofs.YtmlfkjmondkfnaaDoor
