/-
  What the landed first does of runs of items: the heads of the heap's first run, taken again and again, as its text runs.
-/
import Derived.Test.YtcemdiloiachlaaHeapPilI
namespace Go.Proofs.Ytcemdiloiachlaa
open Go.ChangeShapes Go.WideShapes Go.ChangeAt Go.RowKit
set_option linter.unusedVariables false

theorem info_eI : (Try.prog.info? 30).map (fun i => (i.zero, i.size, i.bytes)) = some (some (.agg #[.int .i64 0, .int .i64 0]), 2, 16) := by kernel_rfl
abbrev OwnEI := OwnG (α := ETI) 30 2 eCellsI
theorem append_eI {w : World} {ops : Array Oper} {rest : List Oper} {o : Oper} {a : Act} {Q : Exit → Act → World → Prop} (hgd : o.guard = none) (s x : Operand)
    (ho : o.op = .call { callee := .builtin .append, args := #[s, x], argTypes := #[24, 24] }) (base : Nat) (v : Value) (l : List ETI) (hs : a.eval s = v) (hown : OwnEI w base v l)
    (ad : Addr) (c : Nat) (new : ETI) (hx : a.eval x = .slice (some ad) 1 c) (hnews : ∀ j u, (eCellsI new)[j]? = some u → w.cell? (ad.add j) = some u) (hlen : l.length + 1 ≤ 1000000) (hbase : base ≤ w.heap.size)
    (h : ∀ v' w', OwnEI w' base v' (l ++ [new]) → w.grownBy w' v.ownBlock → wpList Try.prog ops Q rest (a.put o.dst v') w') : wpList Try.prog ops Q (o :: rest) a w := by
  obtain ⟨i0, hi, hz0, hz1, hz2⟩ := info_parts info_eI
  exact append_own Try.underlying24 hi hz0 hz1 hz2 rfl (by decide) (by decide) (fun _ => rfl) (fun v u hu => by simp only [eCellsI, List.mem_cons, List.not_mem_nil, or_false] at hu; rcases hu with rfl | rfl <;> rfl) hgd s x ho base v l hs hown ad c new hx hnews hlen hbase h
theorem eI_new {w : World} {t : TypeId} (v : ETI) : ∀ j u, (eCellsI v)[j]? = some u → (w.alloc (.cells #[.int .i64 v.1, .int .i64 v.2] t)).cell? ((⟨w.heap.size, 0, none⟩ : Addr).add j) = some u := by
  intro j u hj
  match j with
  | 0 => simp [eCellsI] at hj; subst hj; simp [Addr.add]
  | 1 => simp [eCellsI] at hj; subst hj; simp [Addr.add]
  | j + 2 => simp [eCellsI] at hj
theorem make_eI {w : World} {ops : Array Oper} {rest : List Oper} {o : Oper} {a : Act} {Q : Exit → Act → World → Prop} (hgd : o.guard = none) (x y : Operand) (ho : o.op = Op.makeSlice 24 x y) (C : Int) (n : Nat) (hx : a.eval x = .int .i64 0) (hy : a.eval y = .int .i64 C) (hC : C = (n : Int)) (hn : n ≤ 1000000)
    (h : ∀ v w', OwnEI w' w.heap.size v [] → Up w w' → wpList Try.prog ops Q rest (a.put o.dst v) w') : wpList Try.prog ops Q (o :: rest) a w := by
  obtain ⟨i0, hi, hz0, hz1, hz2⟩ := info_parts info_eI
  refine wpList_make_own w hgd x y 24 ho w.heap.size 30 i0 (.agg #[.int .i64 0, .int .i64 0]) 2 Try.underlying24 hi hz0 hz1 .i64 .i64 C n hx hy hC (by rw [hz2]; omega) (by unfold maxLen; omega) (Nat.le_refl _) fun w' h1 h2 => h _ w' h1 ?_
  exact Below.grown (Below.refl _ _) h2 (Nat.le_refl _) (fun g hg => by cases hg)
theorem rowTailI {w : World} {r : RunM ETI} {x : ETI} {l : List ETI} (h : RowOkI w r) (e : r.rest = x :: l) : RowOkI w (tailM 2 r) := by
  obtain ⟨h1, h2, h3⟩ := h
  have hl : r.rest.length = l.length + 1 := by rw [e]; rfl
  have ht : (tailM 2 r).rest = l := by show r.rest.tail = l; rw [e]; rfl
  have hc : (tailM 2 r).cap = r.cap - 1 := rfl
  refine ⟨by rw [ht, hc]; omega, by rw [hc]; omega, fun i hi j v hv => ?_⟩
  rw [ht] at hi hv
  have := h3 (i + 1) (by omega) j v (by rw [e]; exact hv)
  have ho : (tailM 2 r).off = r.off + 2 := by show (if r.cap - 1 = 0 then r.off else r.off + 2) = _; rw [if_neg (by omega)]
  rw [ho, show r.off + 2 + i * 2 + j = r.off + (i + 1) * 2 + j by omega]
  exact this

set_option maxRecDepth 20000 in
set_option maxHeartbeats 16000000 in
theorem firstI_calls (fb : FuncId) (rk : ETI → Int) (hB : BeforeI fb rk) (a : Option Addr) (b cap n : Nat) (xs : List (RunM ETI)) (L : List (List ETI)) (w : World) (hn : n < 1000000) (hR : Rep xs L) (hL : n ≤ L.flatten.length)
    (ha : 0 < xs.length → a = some ⟨b, 0, none⟩) (hlen : xs.length ≤ cap) (hxs : xs.length ≤ 1000000) (hcap : cap ≤ maxLen) (hfb : 0 < xs.length → ∀ i, w.frozen? ⟨b, i, none⟩ = false) (hruns : ∀ i, i < xs.length → RunAt fb w b i (xs.getD i zeroM)) (hrows : ∀ i, i < xs.length → RowOkI w (xs.getD i zeroM) ∧ (xs.getD i zeroM).blk ≠ b) :
    Calls Try.prog 26 #[.slice a xs.length cap, .int .i64 n] w fun e w' => ∃ v, e = .returned v ∧ OwnEI w' w.heap.size v (firstM rk eZeroI 2 n (initL zeroM (aheadM rk eZeroI) (xs.length / 2) xs)) ∧ Chg (fun x => x = b) w w' := by
  have hok : ∀ k, k < xs.length → 0 < (xs.getD k zeroM).rest.length := fun k hk => by
    have h1 := (hR.each (xs.getD k zeroM) (by rw [List.getD_eq_getElem?_getD, List.getElem?_eq_getElem hk]; exact List.getElem_mem hk)).1
    exact List.length_pos_iff.2 h1
  obtain ⟨W, hW⟩ : ∃ W, W = w.alloc (.cells #[.slice a xs.length cap] 58) := ⟨_, rfl⟩
  have uW : Up w W := by rw [hW]; exact (Up.refl _).alloc _
  have hsz : W.heap.size = w.heap.size + 1 := by rw [hW]; simp
  have hst : StI fb w.heap.size b cap W xs := by
    refine ⟨⟨a, by rw [hW]; go_simp, ha⟩, hlen, ⟨hxs, hcap⟩, fun h0 => World.block_lt_of_cell? w ⟨b, 0 * 3, none⟩ (hruns 0 h0).1, by rw [hW]; go_simp, fun h0 i => (uW.frozen (p := ⟨b, i, none⟩) (World.block_lt_of_cell? w ⟨b, 0 * 3, none⟩ (hruns 0 h0).1)).trans (hfb h0 i), fun i hi => (hruns i hi).up uW, fun i hi => ⟨(hrows i hi).1.up uW, ?_, (hrows i hi).2⟩⟩
    have := (hrows i hi).1.2.2 0 (hok i hi) 0 _ rfl
    exact World.block_lt_of_cell? w ⟨_, _, none⟩ this
  obtain ⟨R, hRR⟩ : ∃ R, R = firstM rk eZeroI 2 n (initL zeroM (aheadM rk eZeroI) (xs.length / 2) xs) := ⟨_, rfl⟩
  rw [← hRR]
  have HRR := hide hRR
  clear hRR
  have HST := hide hst
  have HR := hide hR
  have HL := hide hL
  have HOK := hide hok
  have HB := hide hB
  have UW := hide uW
  clear hst hR hL hok hB uW hruns hrows hfb hlen ha
  have hW' := hW.symm
  clear hW
  go_enter Try.func26, Try.ntmps26
  go_wp2_with fail
  clear hW'
  go_at_call 31
  refine (init_calls (pileI fb rk HB.out w.heap.size b cap) W xs HST.out HOK.out).mono ?_
  rintro _ w1 ⟨rfl, hs1, hc1⟩
  have hRR := HRR.out
  have HR1 : Hid (Rep (initL zeroM (aheadM rk eZeroI) (xs.length / 2) xs) L) := HR.out.perm (initL_perm zeroM _ _ _)
  have HH1 : Hid (HeapFrom zeroM (aheadM rk eZeroI) (initL zeroM (aheadM rk eZeroI) (xs.length / 2) xs) (initL zeroM (aheadM rk eZeroI) (xs.length / 2) xs).length 0) := by
    have := init_heap zeroM (aheadM rk eZeroI) (aheadM_order rk eZeroI) xs
    rw [initL_length]
    exact this
  have HC1 : Hid (Chg (fun x => x = b) w w1) := (Chg.of_up (C := fun x => x = b) UW.out).trans hc1 (fun x hx h => by rcases h with h | h <;> first | exact h | omega)
  have hz1 := hc1.size
  have HST1 := hide hs1
  generalize initL zeroM (aheadM rk eZeroI) (xs.length / 2) xs = ys at HR1 HH1 HST1 hRR
  replace HRR := hide hRR
  clear hs1 hc1 hRR HST HOK HR UW
  go_wp2_with (at_make; refine make_eI rfl _ _ rfl _ n rfl rfl (by first | rfl | simp) (by omega) ?_)
  intro v2 w2 ho2 hu2
  have hz2 := hu2.size
  obtain ⟨base, hbase⟩ : ∃ base, base = w1.heap.size := ⟨_, rfl⟩
  rw [← hbase] at ho2 hz2 hz1
  have HO2 := hide ho2
  have HST2 : Hid (StI fb w.heap.size b cap w2 ys) := HST1.out.up rowI hu2
  have HC2 : Hid (Chg (fun x => x = b) w w2) := HC1.out.andUp hu2
  clear ho2 hu2 hbase HST1 HC1
  go_wp2_with fail
  go_loopw [5, 12] (fun u5 u12 wr => ∃ (i : Nat) (rs : List (RunM ETI)) (M : List (List ETI)) (out : List ETI), i ≤ n ∧ u12 = .int .i64 i ∧ Rep rs M ∧ HeapFrom zeroM (aheadM rk eZeroI) rs rs.length 0 ∧ n - i ≤ M.flatten.length ∧ StI fb w.heap.size b cap wr rs ∧ OwnEI wr base u5 out ∧ out.length = i ∧ R = out ++ firstM rk eZeroI 2 (n - i) rs ∧ Chg (fun x => x = b) w wr ∧ base ≤ wr.heap.size) (fun _ u _ => n - (intOf u).toNat)
  case atStart => exact ⟨0, ys, L, [], Nat.zero_le _, rfl, HR1.out, HH1.out, HL.out, HST2.out, HO2.out, rfl, HRR.out, HC2.out, hz2⟩
  case round =>
    clear HR1 HH1 HRR HC2 HST2 HO2 HL
    obtain ⟨i, rs, M, out, hi, rfl, hrep, hheap, hM, hst, hown, hol, hRe, hch, hbs⟩ := hrel
    by_cases hlt : i < n
    · have t1 : decide ((i : Int) < n) = true := decide_eq_true (by omega)
      obtain ⟨r, rs, rfl⟩ := rep_cons hrep (n := n - i - 1) (by omega)
      obtain ⟨x, l, hrest, hrep', hheap'⟩ := rep_step rk eZeroI 2 hrep hheap
      have hok : ∀ k, k < (r :: rs).length → 0 < ((r :: rs).getD k zeroM).rest.length := fun k hk => by
        have h1 := (hrep.each ((r :: rs).getD k zeroM) (by rw [List.getD_eq_getElem?_getD, List.getElem?_eq_getElem hk]; exact List.getElem_mem hk)).1
        exact List.length_pos_iff.2 h1
      have hrow : RowOkI wr r := (hst.rows 0 (by simp)).1
      have e0 := hrow.2.2 0 (by rw [hrest]; simp) 0 _ rfl
      have e1 := hrow.2.2 0 (by rw [hrest]; simp) 1 _ rfl
      simp only [Nat.zero_mul, Nat.add_zero] at e0 e1
      rw [hrest] at e0 e1
      obtain ⟨a, hc0, ha0⟩ := hst.cell
      obtain rfl := ha0 (by simp)
      have hbp : b < w.heap.size := hst.ne (by simp)
      obtain ⟨a0, a1, a2⟩ := hst.runs 0 (by simp)
      rw [Nat.zero_mul] at a0 a1 a2
      have hrcap := hrow.1
      have hrlim := hrow.2.1
      rw [hrest] at hrcap
      have a0' : wr.cell? ⟨b, 0, none⟩ = some (.slice (some ⟨r.blk, r.off, none⟩) (l.length + 1) r.cap) := by
        have : restV r = .slice (some ⟨r.blk, r.off, none⟩) (l.length + 1) r.cap := by unfold restV; rw [hrest]; rfl
        rw [← this]; exact a0
      replace e0 : wr.cell? ⟨r.blk, r.off, none⟩ = some (.int .i64 x.1) := e0
      replace e1 : wr.cell? ⟨r.blk, r.off + 1, none⟩ = some (.int .i64 x.2) := e1
      have hc0' : wr.cell? ⟨w.heap.size, 0, none⟩ = some (.slice (some ⟨b, 0, none⟩) (rs.length + 1) cap) := hc0
      have hfb0 := hst.frozenB (by simp) 0
      have hx0 : headM eZeroI r = x := by show r.rest.getD 0 _ = x; rw [hrest]; rfl
      have hRe' : R = (out ++ [x]) ++ firstM rk eZeroI 2 (n - (i + 1)) (stepM rk eZeroI 2 (r :: rs)) := by
        rw [hRe, show n - i = n - (i + 1) + 1 by omega, firstM, show (r :: rs).getD 0 zeroM = r from rfl, hx0, List.append_assoc]
        rfl
      have hM' : n - (i + 1) ≤ (M.set r.list l).flatten.length := by
        obtain ⟨f1, f2⟩ := flatten_at (hrep.each r (List.mem_cons_self ..)).2 l
        rw [f1, hrest] at hM
        rw [f2]
        simp only [List.length_append, List.length_cons] at hM ⊢
        omega
      have htl := rowTailI hrow hrest
      have hlen0 := hst.len
      simp only [List.length_cons] at hlen0 hrcap
      have HST := hide hst
      have HOWN := hide hown
      have HCH := hide hch
      have HREP := hide hrep'
      have HHEAP := hide hheap'
      have HRE := hide hRe'
      have HM := hide hM'
      have HOK := hide hok
      have HTL := hide htl
      have HREST := hide hrest
      clear hst hown hch hrep' hheap' hRe' hM' hok htl hrest hrep hheap hRe hM hrow a0 a1 a2 hc0 ha0 hx0
      go_wp2_with (at_builtin; refine append_eI rfl _ _ rfl base _ out rfl (OwnG.alloc HOWN.out _) _ _ x rfl (eI_new x) (by omega) (by simp; omega) ?_)
      intro v3 w3 ho3 hg3
      have hb3 : Below base wr w3 := OwnG.below (Below.alloc (Below.refl _ _) hbs _) (by simp; omega) (OwnG.alloc HOWN.out _) hg3
      have hch3 := Chg.of_below hb3
      have HO3 := hide ho3
      have hz3 : wr.heap.size ≤ w3.heap.size := hch3.size
      have hwb : b < wr.heap.size := World.block_lt_of_cell? wr ⟨b, 0, none⟩ a0'
      replace hc0' := hch3.cell hc0' (by simp only; omega)
      replace a0' := hch3.cell a0' (by simp only; omega)
      replace hfb0 := (hch3.frozen (p := ⟨b, 0, none⟩) hwb (by simp only; omega)).trans hfb0
      replace HST : Hid (StI fb w.heap.size b cap w3 (r :: rs)) := HST.out.chg rowI hch3 (fun y hy => by omega)
      replace HCH : Hid (Chg (fun x => x = b) w w3) := HCH.out.trans hch3 (fun y hy h => by omega)
      replace HTL : Hid (RowOkI w3 (tailM 2 r)) := HTL.out.chg hch3 (by have := (HST.out.rows 0 (by simp)).2.1; show ¬ base ≤ r.blk; have h2 : ((r :: rs).getD 0 zeroM).blk = r.blk := rfl; omega)
      clear hch3 hb3 hg3 ho3 HOWN e0 e1
      cases l with
      | cons y l2 =>
        have hcne : ¬ r.cap = 1 := by simp only [List.length_cons] at hrcap; omega
        obtain ⟨m, hm⟩ : ∃ m, m = l2.length + 1 := ⟨_, rfl⟩
        have hm0 : 0 < m := by omega
        rw [show (y :: l2).length = m by rw [hm]; rfl] at a0' hrcap
        have hval : restV (tailM 2 r) = .slice (some ⟨r.blk, r.off + 2, none⟩) m (r.cap - 1) := by
          have h1 : (tailM 2 r).rest.length = m := by show r.rest.tail.length = m; rw [HREST.out, hm]; rfl
          have h2 : (tailM 2 r).off = r.off + 2 := by show (if r.cap - 1 = 0 then r.off else r.off + 2) = _; rw [if_neg (by omega)]
          unfold restV
          rw [h1, h2]
          rfl
        have hstep : stepM rk eZeroI 2 (r :: rs) = fixL zeroM (aheadM rk eZeroI) (tailM 2 r :: rs) := by
          show (if r.rest.tail.length > 0 then _ else _) = _
          rw [if_pos (by rw [HREST.out]; simp)]
          rfl
        obtain ⟨h4, h4c⟩ := HST.out.headOff rowI HTL.out _ rfl
        rw [hval] at h4 h4c
        have HST4 := hide h4
        have HCH4 : Hid _ := hide (HCH.out.trans h4c (fun _ _ h => h))
        have HOK4 : Hid (∀ q, q < (tailM 2 r :: rs).length → 0 < ((tailM 2 r :: rs).getD q zeroM).rest.length) := fun q hq => by
          cases q with
          | zero => show 0 < r.rest.tail.length; rw [HREST.out]; simp
          | succ q => exact HOK.out (q + 1) hq
        replace HO3 : Hid (OwnEI _ base v3 (out ++ [x])) := hide (HO3.out.chg h4c (fun y hy e => by omega))
        clear h4 h4c hval hm
        go_wp2_with fail
        go_at_call 32
        refine (fix_calls (pileI fb rk HB.out w.heap.size b cap) _ _ HST4.out HOK4.out).mono ?_
        rintro _ w5 ⟨rfl, hs5, hc5⟩
        rw [← hstep] at hs5
        have hz5 := hc5.size
        have HST5 := hide hs5
        have HCH5 : Hid (Chg (fun x => x = b) w w5) := HCH4.out.trans hc5 (fun y hy h => by rcases h with h | h <;> first | exact h | omega)
        have HO5 : Hid (OwnEI w5 base v3 (out ++ [x])) := HO3.out.chg hc5 (fun y hy e => by rcases e with e | e <;> omega)
        clear hs5 hc5 HO3 HST4 HCH4
        go_wp2
        go_roundw
        case rel =>
          exact ⟨i + 1, _, _, out ++ [x], by omega, by go_num, HREP.out, HHEAP.out, HM.out, HST5.out, HO5.out, by simp [hol], HRE.out, HCH5.out, by simp at hz5; omega⟩
        case measure => simp [intOf]; omega
      | nil =>
        have hstep : stepM rk eZeroI 2 (r :: rs) = popL zeroM (aheadM rk eZeroI) (tailM 2 r :: rs) := by
          show (if r.rest.tail.length > 0 then _ else _) = _
          rw [if_neg (by rw [HREST.out]; simp)]
          rfl
        have HOK4 : Hid (∀ q, 0 < q → q < (tailM 2 r :: rs).length → 0 < ((tailM 2 r :: rs).getD q zeroM).rest.length) := fun q h0 hq => by
          cases q with
          | zero => omega
          | succ q => exact HOK.out (q + 1) hq
        have hl0 : (tailM 2 r).rest.length = 0 := by show r.rest.tail.length = 0; rw [HREST.out]; rfl
        obtain ⟨h4, h4c⟩ := HST.out.headOff rowI HTL.out _ rfl
        simp only [List.length_nil, Nat.zero_add] at a0' hrcap
        by_cases hcap1 : r.cap = 1
        · have hval : restV (tailM 2 r) = .slice (some ⟨r.blk, r.off, none⟩) 0 0 := by
            have h2 : (tailM 2 r).off = r.off := by show (if r.cap - 1 = 0 then r.off else r.off + 2) = _; rw [if_pos (by omega)]
            have h3 : (tailM 2 r).cap = 0 := by show r.cap - 1 = 0; omega
            unfold restV
            rw [hl0, h2, h3]
            rfl
          rw [hcap1] at a0'
          rw [hval] at h4 h4c
          have HST4 := hide h4
          have HCH4 : Hid _ := hide (HCH.out.trans h4c (fun _ _ h => h))
          replace HO3 : Hid (OwnEI _ base v3 (out ++ [x])) := hide (HO3.out.chg h4c (fun y hy e => by omega))
          clear h4 h4c hval hl0
          go_wp2_with fail
          go_at_call 28
          refine (pop_calls (pileI fb rk HB.out w.heap.size b cap) _ _ HST4.out (by simp) HOK4.out (fun w ys h h0 => poppedI fb _ b cap w ys h h0)).mono ?_
          rintro _ w5 ⟨⟨x5, rfl⟩, hs5, hc5⟩
          rw [← hstep] at hs5
          have hz5 := hc5.size
          have HST5 := hide hs5
          have HCH5 : Hid (Chg (fun x => x = b) w w5) := HCH4.out.trans hc5 (fun y hy h => by rcases h with h | h <;> first | exact h | omega)
          have HO5 : Hid (OwnEI w5 base v3 (out ++ [x])) := HO3.out.chg hc5 (fun y hy e => by rcases e with e | e <;> omega)
          clear hs5 hc5 HO3 HST4 HCH4
          go_wp2
          go_roundw
          case rel =>
            exact ⟨i + 1, _, _, out ++ [x], by omega, by go_num, HREP.out, HHEAP.out, HM.out, HST5.out, HO5.out, by simp [hol], HRE.out, HCH5.out, by simp at hz5; omega⟩
          case measure => simp [intOf]; omega
        · have hval : restV (tailM 2 r) = .slice (some ⟨r.blk, r.off + 2, none⟩) 0 (r.cap - 1) := by
            have h2 : (tailM 2 r).off = r.off + 2 := by show (if r.cap - 1 = 0 then r.off else r.off + 2) = _; rw [if_neg (by omega)]
            unfold restV
            rw [hl0, h2]
            rfl
          rw [hval] at h4 h4c
          have HST4 := hide h4
          have HCH4 : Hid _ := hide (HCH.out.trans h4c (fun _ _ h => h))
          replace HO3 : Hid (OwnEI _ base v3 (out ++ [x])) := hide (HO3.out.chg h4c (fun y hy e => by omega))
          clear h4 h4c hval hl0
          go_wp2_with fail
          go_at_call 28
          refine (pop_calls (pileI fb rk HB.out w.heap.size b cap) _ _ HST4.out (by simp) HOK4.out (fun w ys h h0 => poppedI fb _ b cap w ys h h0)).mono ?_
          rintro _ w5 ⟨⟨x5, rfl⟩, hs5, hc5⟩
          rw [← hstep] at hs5
          have hz5 := hc5.size
          have HST5 := hide hs5
          have HCH5 : Hid (Chg (fun x => x = b) w w5) := HCH4.out.trans hc5 (fun y hy h => by rcases h with h | h <;> first | exact h | omega)
          have HO5 : Hid (OwnEI w5 base v3 (out ++ [x])) := HO3.out.chg hc5 (fun y hy e => by rcases e with e | e <;> omega)
          clear hs5 hc5 HO3 HST4 HCH4
          go_wp2
          go_roundw
          case rel =>
            exact ⟨i + 1, _, _, out ++ [x], by omega, by go_num, HREP.out, HHEAP.out, HM.out, HST5.out, HO5.out, by simp [hol], HRE.out, HCH5.out, by simp at hz5; omega⟩
          case measure => simp [intOf]; omega
    · have e : i = n := by omega
      have t1 : decide ((i : Int) < n) = false := decide_eq_false (by omega)
      have hfin : R = out := by rw [hRe, show n - i = 0 by omega, firstM, List.append_nil]
      have HO : Hid (OwnEI wr w.heap.size u5 R) := by rw [hfin]; exact hown.mono (by omega)
      replace hch := hide hch
      clear hown hst hrep hheap hM hRe hfin e hol
      go_wp2
      go_ret
      exact ⟨_, rfl, HO.out, hch.out⟩

end Go.Proofs.Ytcemdiloiachlaa
