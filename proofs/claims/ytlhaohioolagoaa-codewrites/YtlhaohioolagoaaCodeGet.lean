/-
  What Whole and Get of package code answer of every slice of bytes that isn't too long, as their text runs.
-/
import Derived.Test.YtlhaohioolagoaaCodeGetModel
import Derived.Test.YtlhaohioolagoaaValCopy
namespace Go.Proofs.Ytlhaohioolagoaa
open Go.ChangeShapes Go.WideShapes Go.ChangeAt Go.RowKit
attribute [local go_sem ↓] Go.wp_at_zero Go.wp_at_succ
attribute [local go_sem] run_store_float

set_option maxHeartbeats 4000000 in
theorem whole_calls (r : Value) (l : List UInt8) (w : World) (hn : l.length ≤ 1000000) (hs : Sl w r l) :
    Calls Try.prog 15 #[r] w fun e w' => e = .returned (.bool (getL l).isSome) ∧ Up w w' := by
  have HS := hide hs
  clear hs
  go_enter Try.func15, Try.ntmps15
  go_wp2_with fail
  go_loopw [0] (fun u wr => ∃ m, Sl w u m ∧ m.length ≤ l.length ∧ Up w wr ∧ Hid ((getL l).isSome = (getL m).isSome)) (fun u _ => match u with | .slice _ n _ => n | _ => 0)
  case atStart => exact ⟨l, HS.out, Nat.le_refl _, Up.refl _, rfl⟩
  case round =>
    obtain ⟨m, hsl, hml, hu, he⟩ := hrel
    have hsl2 := hide hsl
    obtain ⟨a, c, rfl, hc, hm, hb⟩ := hsl
    replace hu := hide hu
    clear hc hm hb
    by_cases h0 : m = []
    · have hyes : (getL l).isSome = true := by rw [he.out, h0, getL_nil]; rfl
      replace hyes := hide hyes
      subst h0
      clear he
      go_wp2
      go_ret
      exact ⟨by rw [hyes.out]; rfl, hu.out⟩
    · have hpos : 0 < m.length := by
        rcases Nat.eq_zero_or_pos m.length with h | h
        · exact absurd (List.length_eq_zero_iff.1 h) h0
        · exact h
      have hposi : (0 : Int) < (m.length : Int) := by omega
      go_wp2_with fail
      go_at_call 22
      refine (takeValue_calls _ m w wr hu.out (by omega) hpos hsl2.out).mono ?_
      rintro _ w1 (⟨v, r1, ht, hu1, rv, rfl, hs1⟩ | ⟨ht, hu1, v, rv, rfl⟩)
      · have hst := hide (getL_step ht)
        have hsh := takeV_shorter ht
        have HU := hide (hu.out.trans hu1)
        have HS1 := hide hs1
        obtain ⟨a1, c1, rfl, _, _, _⟩ := hs1
        clear ht hu1 hu
        go_wp2
        go_roundw
        case rel =>
          refine ⟨r1, HS1.out, by omega, HU.out.alloc _, ?_⟩
          show (getL l).isSome = (getL r1).isSome
          rw [he.out, hst.out]
          cases getL r1 <;> rfl
        case measure => exact hsh
      · have hno : (getL l).isSome = false := by rw [he.out, getL_none h0 ht]; rfl
        replace hno := hide hno
        have HU := hide (hu.out.trans hu1)
        clear ht hu1 hu he
        go_wp2
        go_ret
        exact ⟨by rw [hno.out]; rfl, HU.out.alloc _⟩

/-- A row of values that a call owns. -/
def OwnV (w : World) (base : Nat) (v : Value) (l : List VT) : Prop := w.ownsRow base 41 4 v l.length (flat l)
theorem OwnV.nil (w : World) (base : Nat) : OwnV w base (.slice none 0 0) [] := World.ownsRow_nil _ _ _ _
theorem OwnV.alloc {w : World} {base : Nat} {v : Value} {l : List VT} (h : OwnV w base v l) (o : Obj) : OwnV (w.alloc o) base v l := World.ownsRow.alloc h o
theorem OwnV.lt {w : World} {base : Nat} {v : Value} {l : List VT} (h : OwnV w base v l) : ∀ k, v.ownBlock = some k → base ≤ k ∧ k < w.heap.size := World.ownsRow.lt h
theorem OwnV.up {w w' : World} {base : Nat} {v : Value} {l : List VT} (h : OwnV w base v l) (hu : Up w w') : OwnV w' base v l := by
  refine ⟨h.1, ?_⟩
  rcases h.2 with h0 | ⟨g, cap, cur, hv, hb, hg, hr⟩
  · exact .inl h0
  · exact .inr ⟨g, cap, cur, hv, hb, hu.heap hg, hr⟩
theorem append_value {w : World} {ops : Array Oper} {rest : List Oper} {o : Oper} {a : Act} {Q : Exit → Act → World → Prop} (hgd : o.guard = none) (s x : Operand)
    (ho : o.op = .call { callee := .builtin .append, args := #[s, x], argTypes := #[22, 22] }) (base : Nat) (v : Value) (l : List VT) (hs : a.eval s = v) (hown : OwnV w base v l)
    (ad : Addr) (m c : Nat) (new : List VT) (hx : a.eval x = .slice (some ad) m c) (hm : new.length = m) (hnews : ∀ j u, (flat new)[j]? = some u → w.cell? (ad.add j) = some u)
    (hlen : l.length + m ≤ 1000000000) (hbase : base ≤ w.heap.size)
    (h : ∀ v' w', OwnV w' base v' (l ++ new) → w.grownBy w' v.ownBlock → wpList Try.prog ops Q rest (a.put o.dst v') w') : wpList Try.prog ops Q (o :: rest) a w := by
  obtain ⟨i0, hi, hz0, hz1, hz2⟩ := info_parts info_value
  refine wpList_append_own w hgd s x 22 ho base 41 i0 (.agg #[.int .i64 0, .int .i64 0, .string ⟨#[]⟩, .float .f64 0]) 4 40 Try.underlying22 hi hz0 hz1 hz2 rfl (by decide) v l.length (flat l) hs hown ad m c (flat new) hx
    (by rw [flat_length, hm]) hnews (flat_one new) (by unfold maxLen; omega) (by omega) hbase fun v' w' h1 h2 _ => h v' w' ?_ h2
  unfold OwnV
  rw [List.length_append, flat_append, hm]
  exact h1
theorem value_new {w : World} {t : TypeId} (v : VT) : ∀ j u, (flat [v])[j]? = some u → (w.alloc (.cells #[.int .i64 v.1, .int .i64 v.2.1, .string v.2.2.1, .float .f64 v.2.2.2] t)).cell? ((⟨w.heap.size, 0, none⟩ : Addr).add j) = some u := by
  intro j u hj
  match j with
  | 0 => simp [flat, cellsT] at hj; subst hj; simp [Addr.add]
  | 1 => simp [flat, cellsT] at hj; subst hj; simp [Addr.add]
  | 2 => simp [flat, cellsT] at hj; subst hj; simp [Addr.add]
  | 3 => simp [flat, cellsT] at hj; subst hj; simp [Addr.add]
  | j + 4 => simp [flat, cellsT] at hj
theorem below_appendV {w0 w w' : World} {base : Nat} {v : Value} {l : List VT} {o : Obj} (hb : Below base w0 w) (hle : base ≤ w.heap.size) (hown : OwnV w base v l) (hg : (w.alloc o).grownBy w' v.ownBlock) : Below base w0 w' := by
  have h1 : Below base w0 (w.alloc o) := Below.alloc hb hle o
  exact Below.grown h1 hg (Nat.le_trans hle (by simp)) (fun k hk => (hown.lt k hk).1)
theorem fits_add {l : List VT} {x : VT} (hl : ∀ i, Fits (l.getD i zeroT)) (hx : Fits x) (i : Nat) : Fits ((l ++ [x]).getD i zeroT) := by
  by_cases h : i < l.length
  · have := hl i
    rw [List.getD_eq_getElem?_getD, List.getElem?_append_left h, ← List.getD_eq_getElem?_getD]
    exact this
  · rw [List.getD_eq_getElem?_getD, List.getElem?_append_right (by omega)]
    by_cases h2 : i - l.length = 0
    · rw [h2]; exact hx
    · rw [List.getElem?_eq_none (by simp; omega)]; exact fits_zero

/-- What Get leaves: the row in new memory, or an error. -/
def GetPost (w : World) (l : List UInt8) (no : Int) (e : Ending) (w' : World) : Prop :=
  Up w w' ∧ ((∃ m v, getL l = some m ∧ (∀ i, Fits (m.getD i zeroT)) ∧ m.length ≤ l.length ∧ e = .returned (.tuple #[v, .int .i64 0]) ∧ OwnV w' w.heap.size v m) ∨ (getL l = none ∧ e = .returned (.tuple #[.slice none 0 0, .int .i64 no])))

set_option maxHeartbeats 4000000 in
theorem get_calls (r : Value) (l : List UInt8) (w : World) (hn : l.length ≤ 1000000) (hs : Sl w r l) : Calls Try.prog 12 #[r] w fun e w' => GetPost w l 20 e w' := by
  have HS := hide hs
  clear hs
  go_enter Try.func12, Try.ntmps12
  go_wp2_with fail
  go_loopw [0, 4] (fun u g wr => ∃ (m : List UInt8) (got : List VT), Sl w u m ∧ m.length + got.length ≤ l.length ∧ OwnV wr w.heap.size g got ∧ (∀ i, Fits (got.getD i zeroT)) ∧ Up w wr ∧ Hid (getL l = (getL m).map fun x => got ++ x)) (fun u _ _ => match u with | .slice _ n _ => n | _ => 0)
  case atStart => exact ⟨l, [], HS.out, Nat.le_refl _, OwnV.nil _ _, fun i => by simpa using fits_zero, Up.refl _, by simp [Hid]⟩
  case round =>
    obtain ⟨m, got, hsl, hml, ho, hf, hu, he⟩ := hrel
    have hsl2 := hide hsl
    obtain ⟨a, c, rfl, hc, hm, hb⟩ := hsl
    replace hu := hide hu
    have HF := hide hf
    clear hc hm hb hf
    by_cases h0 : m = []
    · have hyes : getL l = some got := by rw [he.out, h0, getL_nil]; simp
      replace hyes := hide hyes
      subst h0
      replace ho := hide ho
      clear he
      go_wp2
      go_ret2
      exact ⟨hu.out, .inl ⟨_, _, hyes.out, HF.out, by simpa using hml, rfl, ho.out⟩⟩
    · have hpos : 0 < m.length := by
        rcases Nat.eq_zero_or_pos m.length with h | h
        · exact absurd (List.length_eq_zero_iff.1 h) h0
        · exact h
      have hposi : (0 : Int) < (m.length : Int) := by omega
      go_wp2_with fail
      go_at_call 22
      refine (takeValue_calls _ m w wr hu.out (by omega) hpos hsl2.out).mono ?_
      rintro _ w1 (⟨v, r1, ht, hu1, rv, rfl, hs1⟩ | ⟨ht, hu1, v, rv, rfl⟩)
      · have hst := hide (getL_step ht)
        have hsh := takeV_shorter ht
        have HFV := hide (takeV_fits ht)
        have HU := hide (hu.out.trans hu1)
        have HS1 := hide hs1
        obtain ⟨a1, c1, rfl, _, _, _⟩ := hs1
        have ho1 := ho.up hu1
        obtain ⟨q, z, s, f⟩ := v
        obtain ⟨W, hW⟩ : ∃ W, w1.alloc (.cells #[.int .i64 q, .int .i64 z, .string s, .float .f64 f] 41) = W := ⟨_, rfl⟩
        have e0 : W.cell? ⟨w1.heap.size, 0, none⟩ = some (.int .i64 q) := by subst hW; simp
        have e1 : W.cell? ⟨w1.heap.size, 1, none⟩ = some (.int .i64 z) := by subst hW; simp
        have e2 : W.cell? ⟨w1.heap.size, 2, none⟩ = some (.string s) := by subst hW; simp
        have e3 : W.cell? ⟨w1.heap.size, 3, none⟩ = some (.float .f64 f) := by subst hW; simp
        have hoW : OwnV W w.heap.size u4 got := by subst hW; exact ho1.alloc _
        have HUW : Hid (Up w W) := by subst hW; exact HU.out.alloc _
        have hbs := HUW.out.size
        clear ht hu1 hu ho1 ho
        go_wp2_with (at_builtin; refine append_value rfl (.tmp 19) (.tmp 21) rfl w.heap.size _ _ rfl (hoW.alloc _) _ 1 1 [(q, z, s, f)] rfl rfl (value_new (q, z, s, f)) (by omega) (Nat.le_trans hbs (by simp)) ?_)
        intro g2 w2 ho2 hg2
        have HU2 : Hid (Up w w2) := hide (below_appendV HUW.out hbs hoW hg2)
        replace ho2 := hide ho2
        clear hg2 hoW HUW HU hbs e0 e1 e2 e3 hW
        go_wp2
        go_roundw
        case rel =>
          refine ⟨r1, got ++ [(q, z, s, f)], HS1.out, by simp; omega, ho2.out, fits_add HF.out HFV.out, HU2.out, ?_⟩
          show getL l = _
          rw [he.out, hst.out]
          cases getL r1 <;> simp
        case measure => exact hsh
      · have hno : getL l = none := by rw [he.out, getL_none h0 ht]; rfl
        replace hno := hide hno
        have HU := hide (hu.out.trans hu1)
        clear ht hu1 hu he
        go_wp2
        go_ret2
        exact ⟨HU.out.alloc _, .inr ⟨hno.out, rfl⟩⟩

end Go.Proofs.Ytlhaohioolagoaa
