/-
  What the landed Merge answers of rows of items, as its text runs.
-/
import Derived.Test.YtcemdiloiachlaaHeapLstI
import Derived.Test.YtcemdiloiachlaaHeapItm
namespace Go.Proofs.Ytcemdiloiachlaa
open Go.ChangeShapes Go.WideShapes Go.ChangeAt Go.RowKit
set_option linter.unusedVariables false

/-- A row as a slice of another row holds it. -/
structure SlV where
  a : Option Addr
  cap : Nat
  rest : List ETI
def zeroSl : SlV := ⟨none, 0, []⟩
def slCells (r : SlV) : List Value := [.slice r.a r.rest.length r.cap]
abbrev InSl := InG (E := SlV) 1 slCells zeroSl
def toRun (i : Nat) (r : SlV) : RunM ETI := ⟨i, r.rest, (r.a.map Addr.block).getD 0, (r.a.map Addr.off).getD 0, r.cap⟩
def runsUpto (rows : List SlV) (i : Nat) : List (RunM ETI) := (List.range i).filterMap (fun j => if 0 < (rows.getD j zeroSl).rest.length then some (toRun j (rows.getD j zeroSl)) else none)
theorem runsUpto_succ (rows : List SlV) (i : Nat) : runsUpto rows (i + 1) = runsUpto rows i ++ (if 0 < (rows.getD i zeroSl).rest.length then [toRun i (rows.getD i zeroSl)] else []) := by
  unfold runsUpto
  rw [List.range_succ, List.filterMap_append]
  congr 1
  simp only [List.filterMap_cons, List.filterMap_nil]
  split <;> simp_all
theorem runsUpto_lists (rows : List SlV) : ∀ i, (runsUpto rows i).map (·.list) = (List.range i).filter (fun j => decide (0 < (rows.getD j zeroSl).rest.length))
  | 0 => rfl
  | i + 1 => by
    rw [runsUpto_succ, List.map_append, runsUpto_lists rows i, List.range_succ, List.filter_append]
    congr 1
    split <;> simp_all [toRun]
theorem runsUpto_length (rows : List SlV) (i : Nat) : (runsUpto rows i).length ≤ i := by
  unfold runsUpto
  exact Nat.le_trans (List.length_filterMap_le _ _) (by simp)
theorem runs_rep (rows : List SlV) : Rep (runsUpto rows rows.length) (rows.map (·.rest)) := by
  have hg : ∀ i (h : i < rows.length), rows.getD i zeroSl = rows[i] := fun i h => by rw [List.getD_eq_getElem?_getD, List.getElem?_eq_getElem h]; rfl
  refine ⟨fun r hr => ?_, fun i m hm hne => ?_, ?_⟩
  · obtain ⟨j, hj, hr⟩ := List.mem_filterMap.1 hr
    have hj' := List.mem_range.1 hj
    split at hr
    · rename_i h0
      cases hr
      refine ⟨List.length_pos_iff.1 h0, ?_⟩
      show (rows.map (·.rest))[j]? = some (rows.getD j zeroSl).rest
      rw [List.getElem?_map, List.getElem?_eq_getElem hj', hg j hj']
      rfl
    · cases hr
  · rw [List.getElem?_map] at hm
    have hi : i < rows.length := by
      rcases Nat.lt_or_ge i rows.length with h | h
      · exact h
      · rw [List.getElem?_eq_none h] at hm; cases hm
    rw [List.getElem?_eq_getElem hi] at hm
    have hm' : rows[i].rest = m := Option.some.inj hm
    refine ⟨toRun i (rows.getD i zeroSl), List.mem_filterMap.2 ⟨i, List.mem_range.2 hi, ?_⟩, rfl⟩
    rw [if_pos (by rw [hg i hi, hm']; exact List.length_pos_iff.2 hne)]
  · rw [runsUpto_lists]
    exact List.nodup_range.sublist List.filter_sublist
/-- How many there are. -/
def sumUpto (rows : List SlV) (i : Nat) : Nat := ((rows.take i).map (·.rest)).flatten.length
theorem sumUpto_succ (rows : List SlV) {i : Nat} (hi : i < rows.length) : sumUpto rows (i + 1) = sumUpto rows i + (rows.getD i zeroSl).rest.length := by
  unfold sumUpto
  have e : rows.take (i + 1) = rows.take i ++ [rows.getD i zeroSl] := by
    rw [List.take_add_one, List.getElem?_eq_getElem hi, List.getD_eq_getElem?_getD, List.getElem?_eq_getElem hi]
    rfl
  rw [e, List.map_append, List.flatten_append, List.length_append]
  congr 1
  show ((rows.getD i zeroSl).rest ++ []).length = _
  rw [List.append_nil]
theorem sumUpto_full (rows : List SlV) : sumUpto rows rows.length = (rows.map (·.rest)).flatten.length := by
  unfold sumUpto
  rw [List.take_of_length_le (Nat.le_refl _)]

def runCells (fb : FuncId) (r : RunM ETI) : List Value := [restV r, .int .i64 r.list, .func (.func fb) #[] #[]]
abbrev OwnR (fb : FuncId) := OwnG (α := RunM ETI) 60 3 (runCells fb)
theorem append_run (fb : FuncId) {w : World} {ops : Array Oper} {rest : List Oper} {o : Oper} {a : Act} {Q : Exit → Act → World → Prop} (hgd : o.guard = none) (s x : Operand)
    (ho : o.op = .call { callee := .builtin .append, args := #[s, x], argTypes := #[58, 58] }) (base : Nat) (v : Value) (l : List (RunM ETI)) (hs : a.eval s = v) (hown : OwnR fb w base v l)
    (ad : Addr) (c : Nat) (new : RunM ETI) (hx : a.eval x = .slice (some ad) 1 c) (hnews : ∀ j u, (runCells fb new)[j]? = some u → w.cell? (ad.add j) = some u) (hlen : l.length + 1 ≤ 1000000) (hbase : base ≤ w.heap.size)
    (h : ∀ v' w', OwnR fb w' base v' (l ++ [new]) → w.grownBy w' v.ownBlock → wpList Try.prog ops Q rest (a.put o.dst v') w') : wpList Try.prog ops Q (o :: rest) a w := by
  obtain ⟨i0, hi, hz0, hz1, hz2⟩ := info_parts info_runI
  exact append_own Try.underlying58 hi hz0 hz1 hz2 rfl (by decide) (by decide) (fun _ => rfl) (fun v u hu => by simp only [runCells, restV, List.mem_cons, List.not_mem_nil, or_false] at hu; rcases hu with rfl | rfl | rfl <;> rfl) hgd s x ho base v l hs hown ad c new hx hnews hlen hbase h
theorem run_new (fb : FuncId) {w : World} {t : TypeId} (b o n c i : Nat) (r : RunM ETI) (h1 : restV r = .slice (some ⟨b, o, none⟩) n c) (h2 : r.list = i) : ∀ j u, (runCells fb r)[j]? = some u → (w.alloc (.cells #[.slice (some ⟨b, o, none⟩) n c, .int .i64 (i : Nat), .func (.func fb) #[] #[]] t)).cell? ((⟨w.heap.size, 0, none⟩ : Addr).add j) = some u := by
  intro j u hj
  unfold runCells at hj
  rw [h1, h2] at hj
  match j with
  | 0 => simp at hj; subst hj; simp [Addr.add]
  | 1 => simp at hj; subst hj; simp [Addr.add]
  | 2 => simp at hj; subst hj; simp [Addr.add]
  | j + 3 => simp at hj

set_option maxRecDepth 20000 in
set_option maxHeartbeats 16000000 in
theorem merge_calls (fb : FuncId) (rk : ETI → Int) (hB : BeforeI fb rk) (a : Option Addr) (N c : Nat) (rows : List SlV) (w : World) (hN : N ≤ 1000) (hin : InSl w a N c rows) (hrows : ∀ i, i < N → InEI w (rows.getD i zeroSl).a (rows.getD i zeroSl).rest.length (rows.getD i zeroSl).cap (rows.getD i zeroSl).rest) (hsum : (rows.map (·.rest)).flatten.length < 100000) :
    Calls Try.prog 15 #[.slice a N c, .func (.func fb) #[] #[]] w fun e w' => ∃ v, e = .returned v ∧ OwnEI w' w.heap.size v (firstM rk eZeroI 2 (rows.map (·.rest)).flatten.length (initL zeroM (aheadM rk eZeroI) ((runsUpto rows rows.length).length / 2) (runsUpto rows rows.length))) ∧ Up w w' := by
  obtain ⟨h1, h2, h3, blk, off, h4, h5⟩ := hin
  subst h1
  have H5 := hide h5
  have H4 := hide h4
  have HB := hide hB
  have HRW := hide hrows
  have HS := hide hsum
  clear h5 h4 hB hrows hsum
  have HSL : Hid (∀ i, sumUpto rows i ≤ (rows.map (·.rest)).flatten.length) := fun i => by
    have e : (rows.map (·.rest)).flatten.length = sumUpto rows i + ((rows.drop i).map (·.rest)).flatten.length := by
      unfold sumUpto
      rw [← List.length_append, ← List.flatten_append, ← List.map_append, List.take_append_drop]
    omega
  obtain ⟨T, hT⟩ : ∃ T, T = (rows.map (·.rest)).flatten.length := ⟨_, rfl⟩
  have hTs : T < 100000 := by rw [hT]; exact HS.out
  rw [← hT]
  have HT := hide hT
  clear hT
  obtain ⟨R, hR⟩ : ∃ R, R = firstM rk eZeroI 2 T (initL zeroM (aheadM rk eZeroI) ((runsUpto rows rows.length).length / 2) (runsUpto rows rows.length)) := ⟨_, rfl⟩
  rw [← hR]
  have HR := hide hR
  clear hR
  go_enter Try.func15, Try.ntmps15
  go_wp2_with fail
  go_loopw [5, 6, 11] (fun u5 u6 u11 wr => ∃ i : Nat, i ≤ rows.length ∧ u11 = .int .i64 i ∧ u6 = .int .i64 (sumUpto rows i) ∧ OwnR fb wr w.heap.size u5 (runsUpto rows i) ∧ Up w wr) (fun _ _ u _ => rows.length - (intOf u).toNat)
  case atStart => exact ⟨0, Nat.zero_le _, rfl, rfl, OwnG.nil _ _ _ _ _, Up.refl _⟩
  case round =>
    obtain ⟨i, hi, rfl, rfl, ho, hu⟩ := hrel
    by_cases hlt : i < rows.length
    · have t1 : decide ((i : Int) < rows.length) = true := decide_eq_true (by omega)
      obtain rfl := H4.out (by omega)
      have x0 := hu.cell (H5.out i hlt 0 _ rfl)
      simp only [Nat.mul_one, Nat.add_zero] at x0
      have hsucc := runsUpto_succ rows i
      have hsum := sumUpto_succ rows hlt
      have hbd := HSL.out (i + 1)
      have htot := HS.out
      have hrl := runsUpto_length rows i
      obtain ⟨_, g2, g3, b', o', g4, g5⟩ := HRW.out i hlt
      have hrun : ∀ b o, (rows.getD i zeroSl).a = some ⟨b, o, none⟩ → restV (toRun i (rows.getD i zeroSl)) = .slice (some ⟨b, o, none⟩) (rows.getD i zeroSl).rest.length (rows.getD i zeroSl).cap := fun b o e => by
        unfold restV toRun
        rw [e]
        rfl
      obtain ⟨r, hr⟩ : ∃ r, r = rows.getD i zeroSl := ⟨_, rfl⟩
      rw [← hr] at x0 hsucc hsum g2 g3 g4 g5 hrun
      obtain ⟨ra, rcap, rrest⟩ := r
      simp only at x0 hsucc hsum g2 g3 g4 g5 hrun
      obtain ⟨m, hm⟩ : ∃ m, m = rrest.length := ⟨_, rfl⟩
      rw [← hm] at x0 hsucc hsum g2 g4 hrun
      have hS1 : (sumUpto rows i : Int) + m = (sumUpto rows (i + 1) : Int) := by omega
      have hS2 : (sumUpto rows i : Int) + m ≤ 100000 := by omega
      have HS1 := hide hS1
      clear hS1 hsum hbd htot
      have HSUCC := hide hsucc
      have HO := hide ho
      have HU := hide hu
      have hsz := hu.size
      have HG4 := hide g4
      have HRUN := hide hrun
      have HM := hide hm
      have HRR := hide hr
      clear hsucc ho hu g4 g5 hrun hm hr
      by_cases hm0 : 0 < m
      · have t2 : decide ((m : Int) > 0) = true := decide_eq_true (by omega)
        obtain rfl := HG4.out hm0
        go_wp2_with (at_builtin; refine append_run fb rfl _ _ rfl w.heap.size _ (runsUpto rows i) rfl (OwnG.alloc HO.out _) _ _ (toRun i ⟨some ⟨b', o', none⟩, rcap, rrest⟩) rfl (run_new fb b' o' m rcap i _ (HRUN.out _ _ rfl) rfl) (by omega) (by simp; omega) ?_)
        intro v3 w3 ho3 hg3
        have HU3 : Hid (Up w w3) := OwnG.below ((HU.out.alloc _).below) (by simp; omega) (OwnG.alloc HO.out _) hg3
        have HO3 : Hid (OwnR fb w3 w.heap.size v3 (runsUpto rows (i + 1))) := by
          show OwnR fb w3 w.heap.size v3 (runsUpto rows (i + 1))
          rw [HSUCC.out, if_pos hm0]
          exact ho3
        clear ho3 hg3
        go_wp2
        go_roundw
        case rel => exact ⟨i + 1, by omega, by go_num, congrArg (Value.int .i64) HS1.out, HO3.out, HU3.out⟩
        case measure => simp [intOf]; omega
      · have t2 : decide ((m : Int) > 0) = false := decide_eq_false (by omega)
        obtain rfl : m = 0 := by omega
        have HO3 : Hid (OwnR fb wr w.heap.size u5 (runsUpto rows (i + 1))) := by
          show OwnR fb wr w.heap.size u5 (runsUpto rows (i + 1))
          rw [HSUCC.out, if_neg hm0, List.append_nil]
          exact HO.out
        go_wp2
        go_roundw
        case rel => exact ⟨i + 1, by omega, by go_num, (congrArg (Value.int .i64) (by have := HS1.out; simpa using this)), HO3.out, HU.out⟩
        case measure => simp [intOf]; omega
    · have t1 : decide ((i : Int) < rows.length) = false := decide_eq_false (by omega)
      obtain rfl : i = rows.length := by omega
      rw [show sumUpto rows rows.length = T from (sumUpto_full rows).trans HT.out.symm]
      have hrl := runsUpto_length rows rows.length
      have HROW : Hid (∀ q, q < (runsUpto rows rows.length).length → RowOkI wr ((runsUpto rows rows.length).getD q zeroM) ∧ ((runsUpto rows rows.length).getD q zeroM).blk < w.heap.size) := fun q hq => by
        have hmem : (runsUpto rows rows.length).getD q zeroM ∈ runsUpto rows rows.length := by rw [List.getD_eq_getElem?_getD, List.getElem?_eq_getElem hq]; exact List.getElem_mem hq
        obtain ⟨k, hk, he⟩ := List.mem_filterMap.1 hmem
        have hk' := List.mem_range.1 hk
        split at he
        · rename_i h0
          have he' := Option.some.inj he
          rw [← he']
          obtain ⟨_, g2, g3, b', o', g4, g5⟩ := HRW.out k hk'
          have ea := g4 h0
          have e1 : (toRun k (rows.getD k zeroSl)).blk = b' := by unfold toRun; rw [ea]; rfl
          have e2 : (toRun k (rows.getD k zeroSl)).off = o' := by unfold toRun; rw [ea]; rfl
          refine ⟨⟨g2, g3, fun t ht j v hv => ?_⟩, ?_⟩
          · rw [e1, e2]
            exact hu.cell (g5 t ht j v hv)
          · rw [e1]
            exact World.block_lt_of_cell? w ⟨b', _, none⟩ (g5 0 h0 0 _ rfl)
        · cases he
      have hfirst : ∃ ax cx bx, u5 = .slice ax (runsUpto rows rows.length).length cx ∧ w.heap.size ≤ bx ∧ (0 < (runsUpto rows rows.length).length → ax = some ⟨bx, 0, none⟩) ∧ (runsUpto rows rows.length).length ≤ cx ∧ cx ≤ maxLen ∧ (0 < (runsUpto rows rows.length).length → ∀ q, wr.frozen? ⟨bx, q, none⟩ = false) ∧ ∀ q, q < (runsUpto rows rows.length).length → RunAt fb wr bx q ((runsUpto rows rows.length).getD q zeroM) := by
        have ho' := ho
        rcases ho.2 with ⟨rfl, h0⟩ | ⟨g, cap, cur, rfl, hb, hg, k1, k2, k3, k4⟩
        · exact ⟨none, 0, w.heap.size, by rw [h0], Nat.le_refl _, fun h => by omega, by omega, Nat.zero_le _, fun h => by omega, fun q hq => by omega⟩
        · refine ⟨_, cap, g, rfl, hb, fun _ => rfl, k1, k2, fun _ q => World.ownsRow.frozenAt ho' q, fun q hq => ?_⟩
          have hx : ∀ j v, (runCells fb ((runsUpto rows rows.length).getD q zeroM))[j]? = some v → j < 3 → wr.cell? ⟨g, q * 3 + j, none⟩ = some v := fun j v hv hj => by
            rw [World.ownsRow.cellAt ho' (q * 3 + j) (by omega), flatG_get (cs := runCells fb) (k := 3) (fun _ => rfl) zeroM _ q j hq hj]
            exact hv
          exact ⟨hx 0 _ rfl (by omega), hx 1 _ rfl (by omega), hx 2 _ rfl (by omega)⟩
      obtain ⟨ax, cx, bx, rfl, hbx, hax, hlx, hcx, hfx, hrx⟩ := hfirst
      have HCALL := hide (firstI_calls fb rk HB.out ax bx cx T (runsUpto rows rows.length) (rows.map (·.rest)) wr (by omega) (runs_rep rows) (Nat.le_of_eq HT.out) hax hlx (by omega) hcx hfx hrx (fun q hq => ⟨(HROW.out q hq).1, by have := (HROW.out q hq).2; omega⟩))
      have HU := hide hu
      clear ho hu HROW hax hfx hrx
      go_wp2_with fail
      go_at_call 26
      refine HCALL.out.mono ?_
      rintro _ w5 ⟨v, rfl, ho5, hc5⟩
      rw [← HR.out] at ho5
      have HO5 : Hid (OwnEI w5 w.heap.size v R) := ho5.mono HU.out.size
      have HU5 : Hid (Up w w5) := (Chg.up ((Chg.of_up (C := fun x => w.heap.size ≤ x) HU.out).trans hc5 (fun x hx h => by omega)) (fun x hx h => by omega))
      clear ho5 hc5
      go_wp2
      go_ret
      exact ⟨_, rfl, HO5.out, HU5.out⟩

/-- Rows that stand in order are one that does. -/
theorem merge_sorts (rk : ETI → Int) (rows : List SlV) (h : ∀ r ∈ rows, Srt rk r.rest) :
    firstM rk eZeroI 2 (rows.map (·.rest)).flatten.length (initL zeroM (aheadM rk eZeroI) ((runsUpto rows rows.length).length / 2) (runsUpto rows rows.length)) = isort rk (rows.map (·.rest)).flatten := by
  have h1 := (runs_rep rows).perm (initL_perm zeroM (aheadM rk eZeroI) ((runsUpto rows rows.length).length / 2) _)
  have h2 := init_heap zeroM (aheadM rk eZeroI) (aheadM_order rk eZeroI) (runsUpto rows rows.length)
  rw [firstM_sorts rk eZeroI 2 _ _ _ h1 (by rw [initL_length]; exact h2) (fun l hl => by obtain ⟨r, hr, rfl⟩ := List.mem_map.1 hl; exact h r hr) (Nat.le_refl _), List.take_of_length_le (by rw [isort_length]; exact Nat.le_refl _)]
/-- Of others all are there. -/
theorem merge_perm (rk : ETI → Int) (rows : List SlV) :
    (firstM rk eZeroI 2 (rows.map (·.rest)).flatten.length (initL zeroM (aheadM rk eZeroI) ((runsUpto rows rows.length).length / 2) (runsUpto rows rows.length))).Perm (rows.map (·.rest)).flatten := by
  have h1 := (runs_rep rows).perm (initL_perm zeroM (aheadM rk eZeroI) ((runsUpto rows rows.length).length / 2) _)
  have h2 := init_heap zeroM (aheadM rk eZeroI) (aheadM_order rk eZeroI) (runsUpto rows rows.length)
  exact firstM_perm rk eZeroI 2 _ _ _ h1 (by rw [initL_length]; exact h2) rfl

end Go.Proofs.Ytcemdiloiachlaa
