/-
  The landed store's All, as its text runs, whatever the library's sort does with the slots' row.
-/
import Derived.Test.YtaodekbpjkcpeaaRowItr
import Derived.Test.YtaodekbpjkcpeaaRowKnw
namespace Go.Proofs.Ytaodekbpjkcpeaa
open Go.ChangeShapes Go.WideShapes Go.ChangeAt Go.RowKit
set_option linter.unusedVariables false
attribute [local go_sem ↓] Go.wp_at_zero Go.wp_at_succ
attribute [local go_sem] run_store_float

/-- A row as it lies in a row of rows: number, version, values. -/
abbrev RT := Int × Int × Option Addr × Nat × Nat
def rtCells (r : RT) : List Value := [.int .i64 r.1, .int .i64 r.2.1, .slice r.2.2.1 r.2.2.2.1 r.2.2.2.2]
def zeroRT : RT := (0, 0, none, 0, 0)
theorem rtCells_length (r : RT) : (rtCells r).length = 3 := rfl
theorem rtCells_one (r : RT) : ∀ u ∈ rtCells r, u.oneCell' = true := fun u hu => by
  simp only [rtCells, List.mem_cons, List.not_mem_nil, or_false] at hu
  rcases hu with rfl | rfl | rfl <;> rfl
abbrev OwnRT := OwnG (α := RT) 35 3 rtCells
theorem append_rt {w : World} {ops : Array Oper} {rest : List Oper} {o : Oper} {a : Act} {Q : Exit → Act → World → Prop} (hgd : o.guard = none) (s x : Operand)
    (ho : o.op = .call { callee := .builtin .append, args := #[s, x], argTypes := #[39, 39] }) (base : Nat) (v : Value) (l : List RT) (hs : a.eval s = v) (hown : OwnRT w base v l)
    (ad : Addr) (c : Nat) (new : RT) (hx : a.eval x = .slice (some ad) 1 c) (hnews : ∀ j u, (rtCells new)[j]? = some u → w.cell? (ad.add j) = some u) (hlen : l.length + 1 ≤ 1000000) (hbase : base ≤ w.heap.size)
    (h : ∀ v' w', OwnRT w' base v' (l ++ [new]) → w.grownBy w' v.ownBlock → (v'.ownBlock = v.ownBlock ∨ v'.ownBlock = some w.heap.size) → wpList Try.prog ops Q rest (a.put o.dst v') w') : wpList Try.prog ops Q (o :: rest) a w := by
  obtain ⟨i0, hi, hz0, hz1, hz2⟩ := info_parts info_row
  refine wpList_append_own_at w hgd s x 39 ho base 35 i0 (.agg #[.int .i64 0, .int .i64 0, .slice none 0 0]) 3 40 Try.underlying39 hi hz0 hz1 hz2 rfl (by decide) v l.length (l.flatMap rtCells) hs hown ad 1 c (rtCells new) hx rfl hnews (rtCells_one new) (by unfold maxLen; omega) (by omega) hbase fun v' w' h1 h2 _ h4 => h v' w' ?_ h2 h4
  unfold OwnRT OwnG
  rw [List.length_append, List.flatMap_append, List.flatMap_singleton]
  exact h1
theorem rt_new {w : World} {t : TypeId} (r : RT) : ∀ j u, (rtCells r)[j]? = some u → (w.alloc (.cells #[.int .i64 r.1, .int .i64 r.2.1, .slice r.2.2.1 r.2.2.2.1 r.2.2.2.2] t)).cell? ((⟨w.heap.size, 0, none⟩ : Addr).add j) = some u := by
  intro j u hj
  match j with
  | 0 => simp [rtCells] at hj; subst hj; simp [Addr.add]
  | 1 => simp [rtCells] at hj; subst hj; simp [Addr.add]
  | 2 => simp [rtCells] at hj; subst hj; simp [Addr.add]
  | j + 3 => simp [rtCells] at hj

/-- A row of slots that a call owns. -/
def OwnI (w : World) (base : Nat) (v : Value) (ss : List Int) : Prop := w.ownsRow base 3 1 v ss.length (ss.map (Value.int .i64))
/-- What the library's sort must do with the slots' row: the same slots, by their rows' numbers. -/
def SortC (p : Nat) (idOf : Int → Int) (w : World) (base : Nat) (v : Value) (ss : List Int) : Prop :=
  Calls Try.prog 53 #[v, .func (.func 40) #[.pointer (some ⟨p, 0, none⟩)] #[]] w fun e w' => e = .returned (.tuple #[]) ∧ ∃ ss', ss'.Perm ss ∧ ss'.Pairwise (fun a b => idOf a < idOf b) ∧ OwnI w' base v ss' ∧ Chg (fun y => base ≤ y) w w'

/-- Values in a new block that is not the rows' own. -/
def FarRow (B : Nat) (w : World) (v : Value) (a : Option Addr) (m : List VT) : Prop := NewRow B w a m.length m ∧ (0 < m.length → ∀ G, a = some ⟨G, 0, none⟩ → v.ownBlock ≠ some G)
/-- The rows of these numbers, as All tells them. -/
def RowsAt (B : Nat) (w : World) (v : Value) (ks : List Int) (R : Int → Option RD) : Prop :=
  ∃ rts : List RT, OwnRT w B v rts ∧ rts.length = ks.length ∧ ∀ i, i < ks.length → ∃ d, R (ks.getD i 0) = some d ∧ ∃ a, rts.getD i zeroRT = (ks.getD i 0, d.1, a, d.2.length, d.2.length) ∧ FarRow B w v a d.2

set_option maxRecDepth 20000 in
set_option maxHeartbeats 4000000 in
theorem sorted_calls (p Bm M c : Nat) (f : Int → Option Nat) (idOf : Int → Int) (w : World) (hBm : Bm < w.heap.size) (hm : w.cell? ⟨Bm, 0, none⟩ = some (.map (some M))) (hmap : MapAt w M f c) (hc : c ≤ 1000)
    (hsort : ∀ w1 v ks, Up w w1 → KeysOf' f ks → OwnI w1 w.heap.size v (slotsOf f ks) → SortC p idOf w1 w.heap.size v (slotsOf f ks)) :
    Calls Try.prog 38 #[.func (.func 54) #[] #[.pointer (some ⟨Bm, 0, none⟩)], .func (.func 40) #[.pointer (some ⟨p, 0, none⟩)] #[]] w fun e w' => ∃ v ks ss', e = .returned v ∧ KeysOf' f ks ∧ ss'.Perm (slotsOf f ks) ∧ ss'.Pairwise (fun a b => idOf a < idOf b) ∧ OwnI w' w.heap.size v ss' ∧ Up w w' := by
  have hcol := hide (collect_calls Bm M c f w hBm hm hmap hc)
  have HS := hide hsort
  clear hm hmap hsort
  go_enter Try.func38, Try.ntmps38
  go_wp2_with fail
  go_at_call 52
  refine hcol.out.mono ?_
  rintro _ w1 ⟨v, ks, rfl, hk, ho, hu⟩
  have ho' : OwnI w1 w.heap.size v (slotsOf f ks) := by unfold OwnI; rw [show (slotsOf f ks).length = ks.length by simp [slotsOf]]; exact ho
  have hsc := hide (HS.out w1 v ks hu hk ho')
  have HU := hide hu
  have HK := hide hk
  clear hcol HS ho ho' hu hk
  go_wp2_with fail
  go_at_call 53
  refine hsc.out.mono ?_
  rintro _ w2 ⟨rfl, ss', h1, h2, h3, h4⟩
  have H1 := hide h1
  have H2 := hide h2
  have H3 := hide h3
  have H4 := hide (HU.out.thenChg h4 (fun x hx e => by omega))
  clear h1 h2 h3 h4 hsc
  go_wp2
  go_ret
  exact ⟨v, ks, ss', rfl, HK.out, H1.out, H2.out, H3.out, H4.out⟩

/-- What is asked of the library's sort, at a store. -/
def SortsAt (p : Nat) (w : World) (R : Int → Option RD) : Prop :=
  ∀ (V : Nat → Prop) (S M b : Nat) (f : Int → Option Nat) (xs : List Int) (n : Nat) (next lim wr : Int) (cnt : Nat), StoC V p S M b w n next wr cnt f xs → StoR V w S f R → StoP n lim R cnt f xs →
    ∀ idOf : Int → Int, (∀ x s, f x = some s → idOf s = x) → ∀ w0 w1 v ks, Up w w0 → Up w0 w1 → KeysOf' f ks → OwnI w1 w0.heap.size v (slotsOf f ks) → SortC p idOf w1 w0.heap.size v (slotsOf f ks)

theorem OwnI.up {w w' : World} {base : Nat} {v : Value} {ss : List Int} (h : OwnI w base v ss) (hu : Up w w') : OwnI w' base v ss := by
  refine ⟨h.1, ?_⟩
  rcases h.2 with h0 | ⟨g, cap, cur, hv, hb, hg, hr⟩
  · exact .inl h0
  · exact .inr ⟨g, cap, cur, hv, hb, hu.heap hg, hr⟩
theorem OwnI.chg {C : Nat → Prop} {w w' : World} {base : Nat} {v : Value} {ss : List Int} (h : OwnI w base v ss) (hc : Chg C w w') (hC : ∀ g, v.ownBlock = some g → ¬ C g) : OwnI w' base v ss := by
  refine ⟨h.1, ?_⟩
  rcases h.2 with h0 | ⟨g, cap, cur, rfl, hb, hg, hr⟩
  · exact .inl h0
  · have hlt : g < w.heap.size := by
      rcases Nat.lt_or_ge g w.heap.size with h' | h'
      · exact h'
      · rw [Array.getElem?_eq_none h'] at hg; cases hg
    exact .inr ⟨g, cap, cur, rfl, hb, (hc.2 g hlt (hC g rfl)).trans hg, hr⟩
theorem OwnI.form {w : World} {base : Nat} {v : Value} {ss : List Int} (h : OwnI w base v ss) (h0 : 0 < ss.length) : ∃ g cap, v = .slice (some ⟨g, 0, none⟩) ss.length cap ∧ base ≤ g ∧ g < w.heap.size ∧ ss.length ≤ cap ∧ ∀ i, i < ss.length → w.cell? ⟨g, i, none⟩ = some (.int .i64 (ss.getD i 0)) := by
  have h' := h
  rcases h.2 with ⟨rfl, hn⟩ | ⟨g, cap, cur, rfl, hb, hg, h1, h2, _⟩
  · omega
  · refine ⟨g, cap, rfl, hb, (World.ownsRow.lt h g rfl).2, h1, fun i hi => ?_⟩
    rw [World.ownsRow.cellAt h' i (by omega), List.getElem?_map, List.getElem?_eq_getElem hi, List.getD_eq_getElem?_getD, List.getElem?_eq_getElem hi]
    rfl
theorem OwnI.slice {w : World} {base : Nat} {v : Value} {ss : List Int} (h : OwnI w base v ss) : ∃ a cap, v = .slice a ss.length cap := by
  rcases h.2 with ⟨rfl, hn⟩ | ⟨g, cap, cur, rfl, _⟩
  · exact ⟨none, 0, by rw [hn]⟩
  · exact ⟨_, _, rfl⟩

/-- The numbers of the slots, sorted. -/
theorem sorted_keys {f : Int → Option Nat} {idOf : Int → Int} {ks ss' : List Int} (hid : ∀ x s, f x = some s → idOf s = x) (hk : KeysOf' f ks) (hp : ss'.Perm (slotsOf f ks)) (hs : ss'.Pairwise (fun a b => idOf a < idOf b)) :
    ∃ ks' : List Int, ks'.length = ss'.length ∧ ks'.Pairwise (· < ·) ∧ (∀ x, x ∈ ks' ↔ (f x).isSome = true) ∧ ∀ k, k < ss'.length → ∃ s : Nat, ss'.getD k 0 = s ∧ f (ks'.getD k 0) = some s := by
  have hslot : ∀ s ∈ ss', ∃ (x : Int) (t : Nat), x ∈ ks ∧ f x = some t ∧ s = t ∧ idOf s = x := by
    intro s hs'
    obtain ⟨x, hx, rfl⟩ := List.mem_map.1 (hp.mem_iff.1 hs')
    cases hf : f x with
    | none => have := (hk.2.1 x).1 hx; rw [hf] at this; cases this
    | some t => exact ⟨x, t, hx, hf, rfl, hid x t hf⟩
  have e : (slotsOf f ks).map idOf = ks := by
    unfold slotsOf
    rw [List.map_map]
    have : ∀ x ∈ ks, (idOf ∘ fun x => (((f x).getD 0 : Nat) : Int)) x = x := fun x hx => by
      cases hf : f x with
      | none => have := (hk.2.1 x).1 hx; rw [hf] at this; cases this
      | some t =>
        show idOf (((f x).getD 0 : Nat) : Int) = x
        rw [hf]
        exact hid x t hf
    rw [List.map_congr_left this, List.map_id']
  have hpk : (ss'.map idOf).Perm ks := by
    have := hp.map idOf
    rwa [e] at this
  refine ⟨ss'.map idOf, by simp, List.Pairwise.map _ (fun _ _ h => h) hs, fun x => by rw [hpk.mem_iff]; exact hk.2.1 x, fun k hkl => ?_⟩
  have hm : ss'.getD k 0 ∈ ss' := by rw [List.getD_eq_getElem?_getD, List.getElem?_eq_getElem hkl]; exact List.getElem_mem _
  obtain ⟨x, t, _, hf, h1, h2⟩ := hslot _ hm
  refine ⟨t, h1, ?_⟩
  have : (ss'.map idOf).getD k 0 = idOf (ss'.getD k 0) := by
    rw [List.getD_eq_getElem?_getD, List.getElem?_map, List.getElem?_eq_getElem hkl, List.getD_eq_getElem?_getD, List.getElem?_eq_getElem hkl]
    rfl
  rw [this, h2]
  exact hf
theorem id_of {f : Int → Option Nat} (hinj : ∀ x y s, f x = some s → f y = some s → x = y) : ∃ idOf : Int → Int, ∀ x s, f x = some s → idOf s = x := by
  have hc : ∀ s : Int, ∃ x, ∀ y, f y = some s.toNat → x = y := fun s => by
    by_cases h : ∃ x, f x = some s.toNat
    · obtain ⟨x, hx⟩ := h
      exact ⟨x, fun y hy => hinj x y _ hx hy⟩
    · exact ⟨0, fun y hy => absurd ⟨y, hy⟩ h⟩
  refine ⟨fun s => Classical.choose (hc s), fun x s hx => Classical.choose_spec (hc s) x (by simpa using hx)⟩
theorem RowsAt.up {B : Nat} {w w' : World} {v : Value} {ks : List Int} {R : Int → Option RD} (h : RowsAt B w v ks R) (hu : Up w w') : RowsAt B w' v ks R := by
  obtain ⟨rts, h1, h2, h3⟩ := h
  refine ⟨rts, h1.up hu, h2, fun i hi => ?_⟩
  obtain ⟨d, q1, a, q2, q3, q4⟩ := h3 i hi
  exact ⟨d, q1, a, q2, q3.up hu, q4⟩
/-- One row more. -/
theorem RowsAt.add {B : Nat} {w w1 w2 : World} {v v' : Value} {ks : List Int} {R : Int → Option RD} {k : Nat} (hk : k < ks.length) {rts : List RT} {x : Int} {d : RD} {a : Option Addr} (hx : ks.getD k 0 = x) (hd : R x = some d) (h2 : rts.length = (ks.take k).length) (h3 : ∀ i, i < (ks.take k).length → ∃ d, R ((ks.take k).getD i 0) = some d ∧ ∃ a, rts.getD i zeroRT = ((ks.take k).getD i 0, d.1, a, d.2.length, d.2.length) ∧ FarRow B w v a d.2)
    (hn : FarRow B w v a d.2) (ho : OwnRT w2 B v' (rts ++ [(x, d.1, a, d.2.length, d.2.length)])) (hk2 : ∀ a m, FarRow B w v a m → FarRow B w2 v' a m) : RowsAt B w2 v' (ks.take (k + 1)) R := by
  have hlk : (ks.take k).length = k := by rw [List.length_take]; omega
  have hlk1 : (ks.take (k + 1)).length = k + 1 := by rw [List.length_take]; omega
  refine ⟨_, ho, by rw [List.length_append, h2, hlk, hlk1]; rfl, fun i hi => ?_⟩
  rw [hlk1] at hi
  have hg : (ks.take (k + 1)).getD i 0 = ks.getD i 0 := by rw [List.getD_eq_getElem?_getD, List.getElem?_take_of_lt hi, ← List.getD_eq_getElem?_getD]
  rw [hg]
  by_cases e : i = k
  · subst e
    refine ⟨d, by rw [hx]; exact hd, a, ?_, hk2 _ _ hn⟩
    rw [List.getD_eq_getElem?_getD, List.getElem?_append_right (by omega), h2, hlk, Nat.sub_self, hx]
    rfl
  · obtain ⟨d', q1, a', q2, q3⟩ := h3 i (by omega)
    have hg' : (ks.take k).getD i 0 = ks.getD i 0 := by rw [List.getD_eq_getElem?_getD, List.getElem?_take_of_lt (by omega), ← List.getD_eq_getElem?_getD]
    rw [hg'] at q1 q2
    exact ⟨d', q1, a', by rw [List.getD_eq_getElem?_getD, List.getElem?_append_left (by omega), ← List.getD_eq_getElem?_getD]; exact q2, hk2 _ _ q3⟩

/-- Some of the rows are told: v the row of them, v0 the slots' row. -/
structure AllR (w : World) (v0 : Value) (ss : List Int) (ks : List Int) (R : Int → Option RD) (wr : World) (v : Value) (k : Nat) : Prop where
  rows : RowsAt w.heap.size wr v (ks.take k) R
  up : Up w wr
  slots : OwnI wr w.heap.size v0 ss
  apart : ∀ g, v.ownBlock = some g → ∀ g', v0.ownBlock = some g' → ¬ g = g'
theorem OwnRT.any {w : World} {B : Nat} {v : Value} {l : List RT} (h : OwnRT w B v l) : ∃ a cap, v = .slice a l.length cap := by
  rcases h.2 with ⟨rfl, hn⟩ | ⟨g, cap, cur, rfl, _⟩
  · exact ⟨none, 0, by rw [hn]⟩
  · exact ⟨_, _, rfl⟩

set_option maxRecDepth 20000 in
set_option maxHeartbeats 16000000 in
theorem all_calls (p n cnt : Nat) (O : Nat → Prop) (next wrt : Int) (R : Int → Option RD) (w : World) (h : Sto p O w n next wrt R cnt) (hsort : SortsAt p w R) :
    Calls Try.prog 15 #[.pointer (some ⟨p, 0, none⟩)] w fun e w' => ∃ (v : Value) (ks : List Int), e = .returned v ∧ ks.Pairwise (· < ·) ∧ (∀ x, x ∈ ks ↔ (R x).isSome = true) ∧ RowsAt w.heap.size w' v ks R ∧ Up w w' := by
  have hlen := hide (slen_calls p n cnt O next wrt R w h)
  obtain ⟨h0, V, S, M, b, f, xs, h1, h2, h3, h4⟩ := h
  obtain ⟨idOf, hid⟩ := id_of h3.inj
  have hfR : ∀ x, (f x).isSome = (R x).isSome := fun x => by
    have := h3.non x
    cases hf : f x <;> cases hr : R x <;> simp_all
  have hcn : cnt ≤ 200 := by have := h3.many; have := h3.most; omega
  have hn200 := h3.most
  have hst := hsort V S M b f xs n next next wrt cnt h1 h2 h3 idOf hid
  obtain ⟨i0, hi, hz0, hz1, hz2⟩ := info_parts info_row
  obtain ⟨Mc, hM⟩ : ∃ M, M = madeCells (Value.agg #[.int .i64 0, .int .i64 0, .slice none 0 0]).cells (((cnt : Nat) : Int).toNat * i0.size) := ⟨_, rfl⟩
  have hMs : Mc.size = cnt * 3 := by rw [hM, size_madeCells, hz1]; simp
  have hmk : ∀ W : World, (Instr.makeSlice 39 (.int .i64 0) (.int .i64 (cnt : Int))).run Try.prog W = .ok (.slice (some ⟨W.heap.size, 0, none⟩) 0 cnt) (W.alloc (.cells Mc 35)) := fun W => by
    have h := run_make (P := Try.prog) W 39 35 i0 (.agg #[.int .i64 0, .int .i64 0, .slice none 0 0]) Try.underlying39 hi hz0 .i64 .i64 0 (cnt : Int) (by omega) (by omega) (by rw [hz2]; omega) (by omega)
    rw [← hM] at h
    simpa using h
  clear hM hi hz0 hz1 hz2
  have hu1 : Up w (w.alloc (.cells Mc 35)) := (Up.refl _).alloc _
  have hs1 : (w.alloc (.cells Mc 35)).heap.size = w.heap.size + 1 := by simp
  have ho1 : OwnRT (w.alloc (.cells Mc 35)) w.heap.size (.slice (some ⟨w.heap.size, 0, none⟩) 0 cnt) [] := by
    refine ⟨by simp, .inr ⟨w.heap.size, cnt, Mc, rfl, Nat.le_refl _, World.alloc_heap_new w _, Nat.zero_le _, by unfold maxLen; omega, hMs, by simp⟩⟩
  have c1 := hu1.cell h1.c1
  have H1 := hide h1
  have H2 := hide h2
  have HST := hide hst
  have H3 := hide h3
  have HID := hide hid
  have HFR := hide hfR
  have HO1 := hide ho1
  have HU1 := hide hu1
  have HS1 := hide hs1
  clear h0 h2 h3 h4 hsort hst hid hfR ho1 hu1 hs1 h1 hMs
  go_enter Try.func15, Try.ntmps15
  go_wp2_with fail
  go_at_call 28
  refine hlen.out.mono ?_
  rintro _ w9 ⟨rfl, hw9⟩
  obtain rfl : w = w9 := hw9.symm
  clear hlen
  generalize hW1 : w.alloc (.cells Mc 35) = W1 at *
  go_wp2_with fail
  go_at_call 39
  refine (values_calls M W1).mono ?_
  rintro _ w2 ⟨rfl, hw2⟩
  have hu2 : Up W1 w2 := by rw [hw2]; exact (Up.refl _).alloc _
  have hcb : w2.cell? ⟨W1.heap.size, 0, none⟩ = some (.map (some M)) := by rw [hw2]; simp
  have hlt2 : W1.heap.size < w2.heap.size := by rw [hw2]; simp
  have HU2 := hide (HU1.out.trans hu2)
  have hmap2 := hide (H1.out.map.chg (Chg.of_up (C := fun _ => False) HU2.out) (fun h => h))
  have HO2 := hide (HO1.out.up hu2)
  have hsz2 : Hid (w.heap.size + 2 ≤ w2.heap.size) := by have := HS1.out; show _ ≤ _; omega
  clear hw2 hmk c1
  go_wp2_with fail
  go_at_call 38
  refine (sorted_calls p W1.heap.size M cnt f idOf w2 hlt2 hcb hmap2.out (by omega) (fun w1 v ks q1 q2 q3 => HST.out w2 w1 v ks HU2.out q1 q2 q3)).mono ?_
  rintro _ w3 ⟨v0, ks0, ss, rfl, hk0, hp0, hw0, hoi, hu3⟩
  obtain ⟨ks, hkl, hks, hkm, hkx⟩ := sorted_keys HID.out hk0 hp0 hw0
  have HKM : Hid (∀ x, x ∈ ks ↔ (R x).isSome = true) := fun x => by rw [hkm x, HFR.out x]
  have HKS := hide hks
  have HKX := hide hkx
  have HKL := hide hkl
  have hr0 : Hid (AllR w v0 ss ks R w3 (.slice (some ⟨w.heap.size, 0, none⟩) 0 cnt) 0) := by
    have h20 := hsz2.out
    refine ⟨⟨[], by simpa using HO2.out.up hu3, by simp, fun i hi => by simp at hi⟩, HU2.out.trans hu3, ⟨hoi.1, hoi.2.imp id (fun ⟨g, cap, cur, q1, q2, q3⟩ => ⟨g, cap, cur, q1, by omega, q3⟩)⟩, fun g hg g' hg' e => ?_⟩
    have e1 : w.heap.size = g := by simpa [Value.ownBlock] using hg
    have := (World.ownsRow.lt hoi g' hg').1
    omega
  have hssl : ss.length ≤ 1000 := by rw [hp0.length_eq]; simp [slotsOf]; exact hk0.2.2
  obtain ⟨a0, cap0, rfl⟩ := hoi.slice
  clear hoi hu3 hk0 hp0 hw0 hks hkm hkx hkl HST HID HFR HO2 hmap2 hcb HO1 HU1
  generalize hN : ss.length = N at *
  go_wp2_with fail
  go_loopw [3, 18] (fun u3 u18 wr' => ∃ k : Nat, k ≤ N ∧ .int .i64 k = u18 ∧ AllR w (.slice a0 N cap0) ss ks R wr' u3 k) (fun _ u18 _ => N - (intOf u18).toNat)
  case atStart => exact ⟨0, Nat.zero_le _, rfl, hr0.out⟩
  case round =>
    clear hr0
    obtain ⟨k, hk, rfl, hr⟩ := hrel
    by_cases hlt : k < N
    · have t3 : decide ((k : Int) < N) = true := decide_eq_true (by omega)
      obtain ⟨g, cap, ev, hgb, hgl, hgc, hcells⟩ := hr.slots.form (by omega)
      cases ev
      have ck := hcells k (by omega)
      obtain ⟨s, hs, hf⟩ := HKX.out k hlt
      rw [hs] at ck
      have H1' := H1.out.chg (Chg.of_up (C := fun _ => False) hr.up) (fun _ _ h => h)
      have c0 := H1'.c0
      obtain ⟨d, hd, hsm, hri⟩ := (H2.out.chg (Chg.of_up (C := fun _ => False) hr.up) (fun h => h) (fun _ _ h => h)) _ s hf
      obtain ⟨r0, r1, ra, rn, rc, r2, rv⟩ := hri
      have hsn := (H3.out.slots _ s hf).1
      have e3 : (s : Int) < n := by omega
      obtain ⟨x, hx⟩ : ∃ x, x = ks.getD k 0 := ⟨_, rfl⟩
      rw [← hx] at r0 hd
      obtain ⟨rts, q1, q2, q3⟩ := hr.rows
      obtain ⟨a3, cap3, rfl⟩ := q1.any
      have hrn : d.2.length = rn := rv.1.1
      subst hrn
      have RV := hide rv.1
      have SM := hide hsm
      have HR := hide hr
      have HX := hide hx
      have HD := hide hd
      have Q1 := hide q1
      have Q2 := hide q2
      have Q3 := hide q3
      clear rv hsm hr hx hd hcells H1' hf hs q1 q2 q3
      obtain ⟨ver, m⟩ := d
      dsimp only at r1 r2 RV SM HD
      have hm12 : m.length ≤ 12 := SM.out.1
      generalize hml : m.length = ml at *
      go_wp2_with fail
      go_at_call 36
      refine (copied_calls x ver ra ml rc m wr RV.out SM.out).mono ?_
      rintro _ w5 ⟨a5, rfl, hn5, hu5⟩
      clear ck c0 r0 r1 r2
      have O5 := hide (Q1.out.up hu5)
      have hsz5 := hide hu5.size
      have hszw := hide HR.out.up.size
      have hrl : rts.length ≤ 1000 := by rw [Q2.out, List.length_take]; omega
      go_wp2_with (at_builtin; refine append_rt rfl _ _ rfl w.heap.size _ rts rfl (OwnG.alloc O5.out _) _ _ (x, ver, a5, ml, ml) rfl (rt_new (x, ver, a5, ml, ml)) (by omega) (by have := hsz5.out; have := hszw.out; simp; omega) ?_)
      intro v6 w6 ho6 hg6 hl6
      obtain ⟨a6, cap6, rfl⟩ := OwnRT.any ho6
      have hU5 : Up wr (w5.alloc (Obj.cells #[.int .i64 x, .int .i64 ver, .slice a5 ml ml] 35)) := hu5.alloc _
      have hr6 : Hid (AllR w (.slice (some ⟨g, 0, none⟩) ss.length cap0) ss ks R w6 (.slice a6 (rts ++ [(x, ver, a5, ml, ml)]).length cap6) (k + 1)) := by
        have hvl := fun g' hg' => OwnG.lt Q1.out g' hg'
        have hc6 : Chg (fun y => (Value.slice a3 rts.length cap3).ownBlock = some y) wr w6 := (Chg.of_up (C := fun y => (Value.slice a3 rts.length cap3).ownBlock = some y) hU5).trans ⟨⟨hg6.os, hg6.tape, hg6.output, hg6.size, fun k hk => absurd hk (Nat.not_lt_zero k)⟩, fun y hy hn => hg6.block y hy (fun e => hn e.symm)⟩ (fun _ _ h => h)
        have hc56 : Chg (fun y => (Value.slice a3 rts.length cap3).ownBlock = some y) w5 w6 := ((Chg.refl (fun y => (Value.slice a3 rts.length cap3).ownBlock = some y) w5).alloc _).trans ⟨⟨hg6.os, hg6.tape, hg6.output, hg6.size, fun k hk => absurd hk (Nat.not_lt_zero k)⟩, fun y hy hn => hg6.block y hy (fun e => hn e.symm)⟩ (fun _ _ h => h)
        refine ⟨RowsAt.add (w := w5) (w1 := w5) (v := .slice a3 rts.length cap3) (d := (ver, m)) (a := a5) (by rw [HKL.out]; exact hlt) HX.out.symm HD.out Q2.out (fun i hi => ?_) ?_ (by rw [hml] ; exact ho6) (fun a m' hf => ?_), ?_, ?_, ?_⟩
        · obtain ⟨d', q1, a', q2, q3, q4⟩ := Q3.out i hi
          exact ⟨d', q1, a', q2, q3.up hu5, q4⟩
        · refine ⟨by show NewRow _ _ _ m.length m; rw [hml]; exact hn5.mono hszw.out, fun h0 G e q => ?_⟩
          have hG := (hvl G q).2
          rcases hn5.2 with h | ⟨G', e', h1, _⟩
          · have : 0 < m.length := h0
            omega
          · rw [e] at e'
            cases e'
            omega
        · by_cases h0 : 0 < m'.length
          · rcases hf.1.2 with h | ⟨G, e, h1, h2, h3⟩
            · omega
            · have hne := hf.2 h0 G e
              refine ⟨⟨(ValsO.chg (O := fun y => y = G) ⟨hf.1.1, .inr ⟨G, 0, e, rfl⟩⟩ hc56 (fun y hy q => by subst hy; exact hne q)).1, .inr ⟨G, e, h1, Nat.lt_of_lt_of_le h2 hc56.size, fun i => (hc56.frozen (p := ⟨G, i, none⟩) h2 hne).trans (h3 i)⟩⟩, fun _ G' e' q => ?_⟩
              rw [e] at e'
              cases e'
              rcases hl6 with hl | hl
              · rw [hl] at q; exact hne q
              · rw [hl] at q; cases q; omega
          · have hz : m'.length = 0 := by omega
            exact ⟨⟨⟨rfl, hf.1.1.2.1, .inl hz⟩, .inl hz⟩, fun h => absurd h h0⟩
        · exact HR.out.up.thenChg hc6 (fun y hy q => by have := (hvl y q).1; omega)
        · exact HR.out.slots.chg hc6 (fun g' hg' q => HR.out.apart g' q g' hg' rfl)
        · intro g1 hg1 g2 hg2 e
          rcases hl6 with hl | hl
          · rw [hl] at hg1; exact HR.out.apart g1 hg1 g2 hg2 e
          · rw [hl] at hg1
            cases hg1
            have := (World.ownsRow.lt HR.out.slots g2 hg2).2
            have := hsz5.out
            omega
      clear ho6 hg6 hl6 hU5 hn5 hu5 Q1 Q2 Q3 HR HX HD RV SM O5
      go_wp2
      go_roundw
      case rel => exact ⟨k + 1, by omega, by go_num, hr6.out⟩
      case measure => simp [intOf]; omega
    · obtain rfl : k = N := by omega
      have t3 : decide ((k : Int) < k) = false := decide_eq_false (by omega)
      have hr' := hide hr
      clear hr
      obtain ⟨rts, q1, q2, q3⟩ := hr'.out.rows
      obtain ⟨a3, cap3, e3⟩ := q1.any
      clear q1 q3
      go_wp2
      go_ret
      refine ⟨_, ks, rfl, HKS.out, HKM.out, ?_, hr'.out.up⟩
      have := hr'.out.rows
      rwa [List.take_of_length_le (by rw [HKL.out]; exact Nat.le_refl _)] at this

end Go.Proofs.Ytaodekbpjkcpeaa
