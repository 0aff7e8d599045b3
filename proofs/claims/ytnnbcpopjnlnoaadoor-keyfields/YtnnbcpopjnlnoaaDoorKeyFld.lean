/-
  KeyFields, walked.
-/
import Derived.Test.YtnnbcpopjnlnoaaDoorKeyKnown
import Derived.Test.YtnnbcpopjnlnoaaDoorValHelp
import Derived.Test.YtnnbcpopjnlnoaaDoorBytes
namespace Go.Proofs.YtnnbcpopjnlnoaaDoor
open Go.ChangeShapes Go.WideShapes Go.ChangeAt Go.RowKit
set_option linter.unusedVariables false
attribute [local go_sem ↓] Go.wp_at_zero Go.wp_at_succ
attribute [local go_sem] run_store_float

theorem info_part : (Tryd.prog.info? 45).map (fun i => (i.zero, i.size, i.bytes)) = some (some (.agg #[.int .i64 0, .int .i64 0]), 2, 16) := by kernel_rfl
abbrev OwnP := OwnG (α := PT) 45 2 pCells
theorem append_part {w : World} {ops : Array Oper} {rest : List Oper} {o : Oper} {a : Act} {Q : Exit → Act → World → Prop} (hgd : o.guard = none) (s x : Operand)
    (ho : o.op = .call { callee := .builtin .append, args := #[s, x], argTypes := #[22, 22] }) (base : Nat) (v : Value) (l : List PT) (hs : a.eval s = v) (hown : OwnP w base v l)
    (ad : Addr) (c : Nat) (new : PT) (hx : a.eval x = .slice (some ad) 1 c) (hnews : ∀ j u, (pCells new)[j]? = some u → w.cell? (ad.add j) = some u) (hlen : l.length + 1 ≤ 1000000) (hbase : base ≤ w.heap.size)
    (h : ∀ v' w', OwnP w' base v' (l ++ [new]) → w.grownBy w' v.ownBlock → wpList Tryd.prog ops Q rest (a.put o.dst v') w') : wpList Tryd.prog ops Q (o :: rest) a w := by
  obtain ⟨i0, hi, hz0, hz1, hz2⟩ := info_parts info_part
  exact append_own Tryd.underlying22 hi hz0 hz1 hz2 rfl (by decide) (by decide) (fun _ => rfl) (fun v u hu => by simp only [pCells, List.mem_cons, List.not_mem_nil, or_false] at hu; rcases hu with rfl | rfl <;> rfl) hgd s x ho base v l hs hown ad c new hx hnews hlen hbase h
theorem part_new {w : World} {t : TypeId} (v : PT) : ∀ j u, (pCells v)[j]? = some u → (w.alloc (.cells #[.int .i64 v.1, .int .i64 v.2] t)).cell? ((⟨w.heap.size, 0, none⟩ : Addr).add j) = some u := by
  intro j u hj
  match j with
  | 0 => simp [pCells] at hj; subst hj; simp [Addr.add]
  | 1 => simp [pCells] at hj; subst hj; simp [Addr.add]
  | j + 2 => simp [pCells] at hj
/-- A row stays when another one, of other things, grows. -/
theorem owns_keep {w w' : World} {base base' size size' n n' : Nat} {e e' : TypeId} {v v' : Value} {xs xs' : List Value} (h : w.ownsRow base e size v n xs) (h' : w.ownsRow base' e' size' v' n' xs') (hne : e ≠ e') (hg : w.grownBy w' v'.ownBlock) : w'.ownsRow base e size v n xs := by
  refine ⟨h.1, ?_⟩
  rcases h.2 with h0 | ⟨g, cap, cur, rfl, hb, hh, hr⟩
  · exact .inl h0
  · refine .inr ⟨g, cap, cur, rfl, hb, ?_, hr⟩
    have hlt : g < w.heap.size := (h.lt g rfl).2
    refine (hg.block g hlt (fun e0 => ?_)).trans hh
    rcases h'.2 with ⟨rfl, _⟩ | ⟨g', cap', cur', rfl, hb', hh', _⟩
    · cases e0
    · have e1 : g = g' := Option.some.inj e0
      subst e1
      rw [hh] at hh'
      cases hh'
      exact hne rfl
theorem grownG_chg {α : Type} {e : TypeId} {k : Nat} {cs : α → List Value} {w w' : World} {base : Nat} {v : Value} {l : List α} (h : OwnG e k cs w base v l) (hg : w.grownBy w' v.ownBlock) : Chg (fun g => base ≤ g) w w' :=
  ⟨Below.grown (Below.refl 0 w) hg (Nat.zero_le _) (fun _ _ => Nat.zero_le _), fun x hx hn => hg.block x hx (fun e => hn (h.lt x e.symm).1)⟩
theorem part_value : 45 ≠ 49 := by decide

/-- The parts that a row of bytes makes. -/
def partsOf (n : Nat) (l : List UInt8) : List PT := l.map fun b => (((b.toNat % n : Nat) : Int), 0)
theorem partsOf_length (n : Nat) (l : List UInt8) : (partsOf n l).length = l.length := List.length_map ..
theorem partsOf_get (n : Nat) (l : List UInt8) (k : Nat) (hk : k < l.length) : (partsOf n l).getD k zeroP = ((((l.getD k 0).toNat % n : Nat) : Int), 0) := by
  unfold partsOf
  rw [List.getD_eq_getElem?_getD, List.getElem?_map, List.getElem?_eq_getElem hk, List.getD_eq_getElem?_getD, List.getElem?_eq_getElem hk]
  rfl
theorem partsOf_take (n : Nat) (l : List UInt8) (k : Nat) (hk : k < l.length) : (partsOf n l).take (k + 1) = (partsOf n l).take k ++ [(partsOf n l).getD k zeroP] := by
  rw [List.take_add_one, List.getElem?_eq_getElem (by rw [partsOf_length]; exact hk), Option.toList_some, List.getD_eq_getElem?_getD, List.getElem?_eq_getElem (by rw [partsOf_length]; exact hk)]
  rfl
theorem partsOf_fits (n : Nat) (l : List UInt8) (i : Nat) : FitsP ((partsOf n l).getD i zeroP) := by
  by_cases h : i < l.length
  · rw [partsOf_get n l i h]
    have h1 := (l.getD i 0).toNat_lt
    have h2 : (l.getD i 0).toNat % n ≤ (l.getD i 0).toNat := Nat.mod_le _ _
    refine ⟨?_, ?_, (by decide : IntKind.i64.min ≤ (0 : Int)), (by decide : (0 : Int) ≤ IntKind.i64.max)⟩
    · show (-9223372036854775808 : Int) ≤ _
      dsimp only
      omega
    · show _ ≤ (9223372036854775807 : Int)
      dsimp only
      omega
  · rw [List.getD_eq_getElem?_getD, List.getElem?_eq_none (by rw [partsOf_length]; omega)]
    exact fits_zeroP
theorem partsOf_good (n : Nat) (l : List UInt8) (m : List VT) (hn : 0 < n) (hm : m.length = n) (k : Nat) (hk : k < (partsOf n l).length) : badP 5 0 m (partsOf n l) k = 0 := by
  rw [partsOf_length] at hk
  have h := partsOf_get n l k hk
  have h2 : (l.getD k 0).toNat % n < n := Nat.mod_lt _ hn
  refine badP_field ?_ ?_
  · rw [h, hm]
    unfold thereB knumB
    rw [if_neg (by dsimp only; omega)]
    rw [Bool.and_eq_true, decide_eq_true_eq, decide_eq_true_eq]
    dsimp only
    omega
  · rw [h]
    dsimp only
    omega
theorem cntP_fields (n : Nat) (l : List UInt8) (k : Nat) : cntP (partsOf n l) k = 0 := by
  unfold cntP
  rw [List.length_eq_zero_iff, List.filter_eq_nil_iff]
  intro p hp
  have hp' := List.mem_of_mem_take hp
  unfold partsOf at hp'
  obtain ⟨b, _, rfl⟩ := List.mem_map.1 hp'
  simp [isHook]
  omega
theorem rem_byte (b : UInt8) (n : Nat) : (b.toNat : Int) % (n : Int) = ((b.toNat % n : Nat) : Int) := rfl

theorem inM_some {M g : Nat} (h : InM (some ⟨M, 0, none⟩) g) : g = M := by
  obtain ⟨p, hp, rfl⟩ := h
  cases hp
  rfl
/-- What Of tells where all parts are fields. -/
theorem kf_of (n k M B : Nat) (l0 : List VT) (l1 : List UInt8) (a0 pa ea ca : Option Addr) (vc pc ec cc : Nat) (EL : List Value) (y : World) (hn : 0 < n) (hn8 : n ≤ 8) (hk8 : k ≤ 8) (hk : l1.length = k) (hT : TabE y) (hTm : ¬ 0 = M) (hP : Prts y pa k (partsOf n l1)) (hV : Vals y a0 n l0) (hsh : ∀ i, (l0.getD i zeroT).2.2.1.size ≤ 200) (hF : FnsH y ea 5 EL) (hX : AllX 46 y (some ⟨M, 0, none⟩) B EL) (hMB : M < B) (hm : Met y M 0 0 0 0)
    (kp : ∀ b, k ≠ 0 → RowB pa b → ¬ b = M) (kv : ∀ b, n ≠ 0 → RowB a0 b → ¬ b = M) (kf : ∀ b, RowB ea b → ¬ b = M) :
    Calls Tryd.prog 13 #[.agg #[.string ⟨#[120]⟩, .int .i64 1, .slice pa k pc, .int .i64 (-1)], .agg #[.slice ea 5 ec, .slice ca 3 cc], .slice a0 n vc] y fun e w' => ∃ ra, e = .returned (.tuple #[.slice ra k k, .nilIface]) ∧ Vals w' ra k (keyP l0 (partsOf n l1) k) ∧ Chg (fun g => g = M) y w' ∧ Met w' M 0 0 0 0 := by
  have hpl : (partsOf n l1).length = k := (partsOf_length n l1).trans hk
  refine (of_calls ⟨#[120]⟩ 1 (-1) (some ⟨M, 0, none⟩) ea ca pa a0 5 ec 3 cc k pc n vc EL (partsOf n l1) l0 0 0 y (by decide) ⟨hT, fun h => hTm (inM_some h), hP, hV, hF, fun q hq => ?_, hk8, by omega, by decide, hsh, fun b h1 h2 h3 => kp b h1 h2 (inM_some h3), fun b h1 h2 h3 => kv b h1 h2 (inM_some h3), fun b _ h2 h3 => kf b h2 (inM_some h3)⟩ (fun h => by cases h) (fun p hp => by cases hp; exact ⟨rfl, hm⟩)).mono ?_
  · obtain ⟨mx, nx, h1, h2, h3, h4, h5⟩ := hX q (by rw [hF.1]; exact hq)
    exact ⟨mx, nx, h1, h2, h3, fun h => by have := inM_some h; omega, fun h => by have := inM_some h; omega⟩
  · rintro _ w' ⟨hc, ⟨_, ra, rfl, hv', hmt⟩ | ⟨j, hj, _, hb, _⟩ | ⟨j, b, s0, hj, _, hb, _⟩⟩
    · rw [hpl] at hv' hmt ⊢
      rw [cntP_fields] at hmt
      exact ⟨ra, rfl, hv', hc.mono (fun g _ h => inM_some h), (hmt _ rfl).2⟩
    · rw [partsOf_good n l1 l0 hn hV.1 j hj] at hb
      exact absurd hb (by decide)
    · rw [partsOf_good n l1 l0 hn hV.1 j hj] at hb
      exact absurd hb (by decide)

/-- What the loop of KeyFields bears. -/
structure KfR (x : World) (l0 : List VT) (PL : List PT) (k : Nat) (v pv : Value) (wr : World) : Prop where
  cell : wr.cell? ⟨x.heap.size + 1, 2, none⟩ = some pv
  prt : OwnP wr (x.heap.size + 2) pv (PL.take k)
  own : OwnV wr (x.heap.size + 2) v (keyP l0 PL k)
  up : Up x wr
  size : x.heap.size + 2 ≤ wr.heap.size
  met : Met wr x.heap.size 0 0 0 0
  d0 : wr.cell? ⟨x.heap.size + 1, 0, none⟩ = some (.string ⟨#[120]⟩)
  d1 : wr.cell? ⟨x.heap.size + 1, 1, none⟩ = some (.int .i64 1)
  d3 : wr.cell? ⟨x.heap.size + 1, 3, none⟩ = some (.int .i64 (-1))
  fz : ∀ i, wr.frozen? ⟨x.heap.size + 1, i, none⟩ = false

set_option maxRecDepth 20000 in
set_option maxHeartbeats 16000000 in
theorem keyFields_all (a0 : Option Addr) (len0 cap0 : Nat) (l0 : List VT) (a1 : Option Addr) (len1 cap1 : Nat) (l1 : List UInt8) (w : World)
    (m0 : len0 ≤ maxLen) (v0 : Vals w a0 len0 l0) (m1 : len1 ≤ maxLen) (v1 : Bts w a1 len1 l1) (hT : TabE w) :
    Calls Tryd.prog 5 #[.slice a0 len0 cap0, .slice a1 len1 cap1] w fun e w' => e = .returned (.bool true) ∧ Up w w' := by
  have HT := hide hT
  have H0 := hide v0
  have H1 := hide v1
  clear hT v0 v1
  have m0' := m0
  have m1' := m1
  unfold maxLen at m0' m1'
  go_enter Tryd.func5, Tryd.ntmps5
  go_wp2_with fail
  go_at_call 7
  refine (known7_calls w HT.out).mono ?_
  rintro _ x ⟨rfl, hu⟩
  have U := hide hu
  clear hu
  go_wp2_with fail
  go_at_call 9
  refine (few_calls a0 len0 cap0 l0 8 x m0 (H0.out.up U.out)).mono ?_
  rintro _ y ⟨rfl, hy⟩
  obtain rfl : x = y := hy.symm
  clear hy
  obtain ⟨q, hq⟩ : ∃ q, fewB l0 8 = q := ⟨_, rfl⟩
  rw [hq]
  cases q with
  | false =>
    clear hq
    go_wp2
    go_ret
    exact ⟨rfl, U.out⟩
  | true =>
  have hq' := hq
  unfold fewB at hq'
  simp only [Bool.and_eq_true, decide_eq_true_eq] at hq'
  have HS : Hid (∀ i, (l0.getD i zeroT).2.2.1.size ≤ 200) := fun i => shortB_get hq'.1 i
  have hl0 : l0.length = len0 := H0.out.1
  have h08 : len0 ≤ 8 := by have := hq'.2; omega
  clear hq hq'
  by_cases hz : len0 = 0
  · subst hz
    go_wp2
    go_ret
    exact ⟨rfl, U.out⟩
  have z0 : ((len0 : Int) == 0) = false := by rw [beq_eq_false_iff_ne]; omega
  by_cases h9 : len1 ≤ 8
  rotate_left
  · have z1 : decide ((8 : Int) < len1) = true := decide_eq_true (by omega)
    clear hz
    go_wp2
    go_ret
    exact ⟨rfl, U.out⟩
  have z1 : decide ((8 : Int) < len1) = false := decide_eq_false (by omega)
  have uW : Hid (Up x ((x.alloc (.cells #[.int .i64 0, .int .i64 0, .int .i64 0, .int .i64 0] 31)).alloc (.cells #[.string ⟨#[120]⟩, .int .i64 1, .slice none 0 0, .int .i64 (-1)] 24))) := ((Up.refl _).alloc _).alloc _
  have R0 : Hid (KfR x l0 (partsOf len0 l1) 0 (.slice none 0 0) (.slice none 0 0) ((x.alloc (.cells #[.int .i64 0, .int .i64 0, .int .i64 0, .int .i64 0] 31)).alloc (.cells #[.string ⟨#[120]⟩, .int .i64 1, .slice none 0 0, .int .i64 (-1)] 24))) :=
    ⟨by go_simp, OwnG.nil _ _ _ _ _, OwnV.nil _ _, uW.out, by simp, ⟨⟨by go_simp, by go_simp, by go_simp, by go_simp⟩, fun i => by go_simp⟩, by go_simp, by go_simp, by go_simp, fun i => by go_simp⟩
  generalize hW : (x.alloc (.cells #[.int .i64 0, .int .i64 0, .int .i64 0, .int .i64 0] 31)).alloc (.cells #[.string ⟨#[120]⟩, .int .i64 1, .slice none 0 0, .int .i64 (-1)] 24) = W at uW R0
  go_wp2_with fail
  clear hW uW
  have hlen1 : l1.length = len1 := H1.out.1
  go_loopw [7, 8] (fun lv i wr => ∃ (k : Nat) (v pv : Value), k ≤ len1 ∧ i = .int .i64 k ∧ v = lv ∧ KfR x l0 (partsOf len0 l1) k v pv wr) (fun _ i _ => len1 - (intOf i).toNat)
  case atStart => exact ⟨0, _, _, Nat.zero_le _, rfl, rfl, R0.out⟩
  case round =>
    clear R0
    obtain ⟨k, lv, pv, hk, rfl, rfl, hR⟩ := hrel
    have HR := hide hR
    by_cases hlt : k < len1
    · have t0 : decide ((k : Int) < len1) = true := decide_eq_true (by omega)
      rcases H1.out.2 with h0 | ⟨pb, po, rfl, hpb⟩
      · omega
      have c0 := (U.out.trans hR.up).cell (hpb k hlt)
      have HB := hide hpb
      clear hpb
      obtain ⟨bt, hbt⟩ : ∃ bt, bt = l1.getD k 0 := ⟨_, rfl⟩
      rw [← hbt] at c0
      have hrem := rem_byte bt len0
      obtain ⟨f, hf⟩ : ∃ f, f = bt.toNat % len0 := ⟨_, rfl⟩
      rw [← hf] at hrem
      have hfn : f < len0 := by rw [hf]; exact Nat.mod_lt _ (by omega)
      have HF : Hid ((partsOf len0 l1).getD k zeroP = ((f : Int), 0)) := by
        show (partsOf len0 l1).getD k zeroP = ((f : Int), 0)
        rw [partsOf_get len0 l1 k (by omega), ← hbt, ← hf]
      have hV := H0.out.up (U.out.trans hR.up)
      rcases hV.2.2 with h0 | ⟨vb, vo, rfl, hxv⟩
      · omega
      obtain ⟨y0, y1, y2, y3⟩ := hxv f hfn
      obtain ⟨⟨vk, vz, vt, vf⟩, hv⟩ : ∃ v, v = l0.getD f zeroT := ⟨_, rfl⟩
      rw [← hv] at y0 y1 y2 y3
      dsimp only at y0 y1 y2 y3
      have HV : Hid ((vk, vz, vt, vf) = partV l0 ((partsOf len0 l1).getD k zeroP)) := by
        show (vk, vz, vt, vf) = partV l0 ((partsOf len0 l1).getD k zeroP)
        rw [HF.out, hv]
        unfold partV
        rw [if_neg (by dsimp only; omega)]
        rfl
      have hbl := bt.toNat_lt
      clear hf hbt hv hV hxv
      have HVB : Hid (vb < x.heap.size) := by
        show vb < x.heap.size
        rcases (H0.out.up U.out).2.2 with h0 | ⟨vb', vo', he, hxv⟩
        · omega
        · cases he
          exact World.block_lt_of_cell? x _ (hxv 0 (by omega)).1
      have dc := hR.cell
      have df := hR.fz 2
      have hsz := hR.size
      clear hR
      go_wp2_with (at_builtin; refine append_part rfl (.tmp 45) (.tmp 48) rfl (x.heap.size + 2) _ _ rfl (OwnG.alloc HR.out.prt _) _ 1 ((f : Int), 0) rfl (part_new ((f : Int), 0)) (by rw [List.length_take]; omega) (Nat.le_trans hsz (by simp)) ?_)
      intro g2' w2 ho2 hg2
      obtain ⟨ga, gc, rfl, _, _, _⟩ := OwnG.slc (z := zeroP) (ok := fun _ => True) ho2 (fun _ => rfl) (fun _ => trivial)
      obtain ⟨gn, hgn⟩ : ∃ gn, gn = ((partsOf len0 l1).take k ++ [((f : Int), 0)]).length := ⟨_, rfl⟩
      rw [← hgn] at ho2 ⊢
      clear hgn
      have G2 : Hid (Chg (fun g => x.heap.size + 2 ≤ g) wr w2) := Chg.trans (Chg.of_up ((Up.refl wr).alloc _)) (grownG_chg (OwnG.alloc HR.out.prt _) hg2) (fun g _ h => h)
      have V2 : Hid (OwnV w2 (x.heap.size + 2) lv (keyP l0 (partsOf len0 l1) k)) := owns_keep (HR.out.own.alloc _) (OwnG.alloc HR.out.prt _) (fun e => part_value e.symm) hg2
      have P2 := hide ho2
      clear ho2 hg2
      have dc2 := G2.out.cell dc (by show ¬ x.heap.size + 2 ≤ x.heap.size + 1; omega)
      have df2 := (G2.out.frozen (p := ⟨x.heap.size + 1, 2, none⟩) (World.block_lt_of_cell? wr _ dc) (by show ¬ x.heap.size + 2 ≤ x.heap.size + 1; omega)).trans df
      have hvx : vb < x.heap.size := HVB.out
      have hs2 : x.heap.size + 2 ≤ w2.heap.size := Nat.le_trans hsz G2.out.size
      clear dc df c0
      have C3 : Hid (Chg (fun g => x.heap.size + 1 ≤ g) wr (w2.setCell ⟨x.heap.size + 1, 2, none⟩ (.slice ga gn gc))) := Chg.set (C := fun g => x.heap.size + 1 ≤ g) (G2.out.mono (fun g _ h => Nat.le_trans (Nat.le_succ _) h)) (p := ⟨x.heap.size + 1, 2, none⟩) (fun _ => Nat.le_refl _) _
      have k2 : (w2.setCell ⟨x.heap.size + 1, 2, none⟩ (.slice ga gn gc)).cell? ⟨x.heap.size + 1, 2, none⟩ = some (.slice ga gn gc) := World.cell?_setCell_same _ _ _ dc2
      have hV3 : Hid (OwnV (w2.setCell ⟨x.heap.size + 1, 2, none⟩ (.slice ga gn gc)) (x.heap.size + 2) lv (keyP l0 (partsOf len0 l1) k)) := ownsRow_setCell_below V2.out (a := ⟨x.heap.size + 1, 2, none⟩) (by show x.heap.size + 1 < x.heap.size + 2; omega) _
      have hP3 : Hid (OwnP (w2.setCell ⟨x.heap.size + 1, 2, none⟩ (.slice ga gn gc)) (x.heap.size + 2) (.slice ga gn gc) ((partsOf len0 l1).take k ++ [((f : Int), 0)])) := ownsRow_setCell_below P2.out (a := ⟨x.heap.size + 1, 2, none⟩) (by show x.heap.size + 1 < x.heap.size + 2; omega) _
      have o3 : ∀ (p : Addr) v, p ≠ ⟨x.heap.size + 1, 2, none⟩ → wr.cell? p = some v → p.block < x.heap.size + 2 → (w2.setCell ⟨x.heap.size + 1, 2, none⟩ (.slice ga gn gc)).cell? p = some v := fun p v hp hc hb => (World.cell?_setCell_other _ _ _ _ (fun e => hp e.symm)).trans (G2.out.cell hc (by show ¬ x.heap.size + 2 ≤ p.block; omega))
      have f3 : ∀ b i, b < x.heap.size + 2 → b < wr.heap.size → (w2.setCell ⟨x.heap.size + 1, 2, none⟩ (.slice ga gn gc)).frozen? ⟨b, i, none⟩ = wr.frozen? ⟨b, i, none⟩ := fun b i hb hw => by rw [World.frozen?_setCell]; exact G2.out.frozen (p := ⟨b, i, none⟩) hw (by show ¬ x.heap.size + 2 ≤ b; omega)
      have OC := hide o3
      have FC := hide f3
      have w0' := o3 _ _ (by intro e; have := congrArg Addr.block e; simp at this; omega) y0 (by show vb < x.heap.size + 2; omega)
      have w1' := o3 _ _ (by intro e; have := congrArg Addr.block e; simp at this; omega) y1 (by show vb < x.heap.size + 2; omega)
      have w2' := o3 _ _ (by intro e; have := congrArg Addr.block e; simp at this; omega) y2 (by show vb < x.heap.size + 2; omega)
      have w3' := o3 _ _ (by intro e; have := congrArg Addr.block e; simp at this; omega) y3 (by show vb < x.heap.size + 2; omega)
      clear o3 f3 V2 P2 G2 y0 y1 y2 y3
      generalize hw3 : w2.setCell ⟨x.heap.size + 1, 2, none⟩ (.slice ga gn gc) = Z at C3 k2 hV3 hP3 OC FC w0' w1' w2' w3'
      have hsZ : x.heap.size + 2 ≤ Z.heap.size := Nat.le_trans hsz C3.out.size
      have hkl : Hid ((keyP l0 (partsOf len0 l1) k).length = k) := keyP_length l0 _ k (by rw [partsOf_length]; omega)
      go_wp2_with (at_builtin; refine append_value rfl (.tmp 51) (.tmp 56) rfl (x.heap.size + 2) _ _ rfl (hV3.out.alloc _) _ 1 1 [(vk, vz, vt, vf)] rfl rfl (value_new (vk, vz, vt, vf)) (by have := hkl.out; omega) (Nat.le_trans hsZ (by simp)) ?_)
      intro g4 w4 ho4 hg4
      have G4 : Hid (Chg (fun g => x.heap.size + 2 ≤ g) Z w4) := Chg.trans (Chg.of_up ((Up.refl Z).alloc _)) (grown_chg (hV3.out.alloc _) hg4) (fun g _ h => h)
      have P4 : Hid (OwnP w4 (x.heap.size + 2) (.slice ga gn gc) ((partsOf len0 l1).take k ++ [((f : Int), 0)])) := owns_keep (OwnG.alloc hP3.out _) (hV3.out.alloc _) part_value hg4
      have V4 := hide ho4
      clear ho4 hg4 hw3 w0' w1' w2' w3' hV3 hP3 dc2 df2
      go_wp2
      go_roundw
      case rel =>
        refine ⟨k + 1, _, .slice ga gn gc, by omega, by go_num, rfl, ?_⟩
        have lt1 : ∀ p : Addr, p.block < x.heap.size + 2 → ¬ x.heap.size + 2 ≤ p.block := fun p h => by omega
        refine ⟨G4.out.cell k2 (by show ¬ x.heap.size + 2 ≤ x.heap.size + 1; omega), ?_, ?_, ?_, Nat.le_trans hsZ G4.out.size, ?_, ?_, ?_, ?_, ?_⟩
        · rw [partsOf_take len0 l1 k (by omega), HF.out]; exact P4.out
        · rw [keyP_succ l0 _ k (by rw [partsOf_length]; omega), ← HV.out]; exact V4.out
        · exact Chg.up (C := fun g => x.heap.size ≤ g) (Chg.trans (Chg.trans (Chg.of_up HR.out.up) C3.out (fun g _ h => Nat.le_trans (Nat.le_succ _) h)) G4.out (fun g _ h => by omega)) (fun g hg h => by omega)
        · refine ⟨⟨?_, ?_, ?_, ?_⟩, fun i => ?_⟩
          · exact G4.out.cell (OC.out _ _ (by intro e; have := congrArg Addr.block e; simp at this) HR.out.met.1.1 (by show x.heap.size < x.heap.size + 2; omega)) (by show ¬ x.heap.size + 2 ≤ x.heap.size; omega)
          · exact G4.out.cell (OC.out _ _ (by intro e; have := congrArg Addr.block e; simp at this) HR.out.met.1.2.1 (by show x.heap.size < x.heap.size + 2; omega)) (by show ¬ x.heap.size + 2 ≤ x.heap.size; omega)
          · exact G4.out.cell (OC.out _ _ (by intro e; have := congrArg Addr.block e; simp at this) HR.out.met.1.2.2.1 (by show x.heap.size < x.heap.size + 2; omega)) (by show ¬ x.heap.size + 2 ≤ x.heap.size; omega)
          · exact G4.out.cell (OC.out _ _ (by intro e; have := congrArg Addr.block e; simp at this) HR.out.met.1.2.2.2 (by show x.heap.size < x.heap.size + 2; omega)) (by show ¬ x.heap.size + 2 ≤ x.heap.size; omega)
          · exact (G4.out.frozen (p := ⟨x.heap.size, i, none⟩) (by show x.heap.size < Z.heap.size; omega) (by show ¬ x.heap.size + 2 ≤ x.heap.size; omega)).trans ((FC.out x.heap.size i (by omega) (by omega)).trans (HR.out.met.2 i))
        · exact G4.out.cell (OC.out _ _ (by intro e; cases e) HR.out.d0 (by show x.heap.size + 1 < x.heap.size + 2; omega)) (by show ¬ x.heap.size + 2 ≤ x.heap.size + 1; omega)
        · exact G4.out.cell (OC.out _ _ (by intro e; cases e) HR.out.d1 (by show x.heap.size + 1 < x.heap.size + 2; omega)) (by show ¬ x.heap.size + 2 ≤ x.heap.size + 1; omega)
        · exact G4.out.cell (OC.out _ _ (by intro e; cases e) HR.out.d3 (by show x.heap.size + 1 < x.heap.size + 2; omega)) (by show ¬ x.heap.size + 2 ≤ x.heap.size + 1; omega)
        · intro i
          exact (G4.out.frozen (p := ⟨x.heap.size + 1, i, none⟩) (by show x.heap.size + 1 < Z.heap.size; omega) (by show ¬ x.heap.size + 2 ≤ x.heap.size + 1; omega)).trans ((FC.out (x.heap.size + 1) i (by omega) (by omega)).trans (HR.out.fz i))
      case measure => simp [intOf]; omega
    · obtain rfl : k = len1 := by omega
      have t0 : decide ((k : Int) < k) = false := decide_eq_false (by omega)
      have hPl : ((partsOf len0 l1).take k) = partsOf len0 l1 := List.take_of_length_le (by rw [partsOf_length]; omega)
      have hPn : (partsOf len0 l1).length = k := (partsOf_length _ _).trans hlen1
      have hprt := hR.prt
      rw [hPl] at hprt
      obtain ⟨pa, pc, hpv, _, _, hPr⟩ := OwnG.slc (z := zeroP) (ok := FitsP) hprt (fun _ => rfl) (partsOf_fits len0 l1)
      rw [hPn] at hpv hPr
      subst hpv
      have HPB : Hid (∀ b, RowB pa b → x.heap.size + 2 ≤ b) := by
        rintro b ⟨o, rfl⟩
        exact (hprt.lt b rfl).1
      obtain ⟨ka, kc, rfl, hVk⟩ := ownV_row hR.own (fun i => keyP_get l0 _ _ i Fits fits_zero (fun p => partV_fits l0 p H0.out.2.1 HS.out)) (keyP_length l0 _ k (by omega))
      have HKB : Hid (∀ b, RowB ka b → x.heap.size + 2 ≤ b) := by
        rintro b ⟨o, rfl⟩
        exact (hR.own.lt b rfl).1
      have HPR := hide hPr
      have HVK := hide hVk
      have dc := hR.cell
      have d0 := hR.d0
      have d1 := hR.d1
      have d3 := hR.d3
      have hsz := hR.size
      clear hR hprt hPr hVk hPl
      go_wp2_with fail
      have HK : Hid (∀ w', Up wr w' → Up wr w' ∧ w'.cell? ⟨x.heap.size + 1, 0, none⟩ = some (.string ⟨#[120]⟩) ∧ w'.cell? ⟨x.heap.size + 1, 1, none⟩ = some (.int .i64 1) ∧ w'.cell? ⟨x.heap.size + 1, 2, none⟩ = some (.slice pa k pc) ∧ w'.cell? ⟨x.heap.size + 1, 3, none⟩ = some (.int .i64 (-1))) :=
        fun w' h => ⟨h, h.cell d0, h.cell d1, h.cell dc, h.cell d3⟩
      have hk0 : Up wr wr.drew := (Up.refl _).drew
      have hxw : x.heap.size < wr.heap.size := by omega
      have HOF : Hid (∀ (B : Nat) (ea ca : Option Addr) (ec cc : Nat) (EL : List Value) (y : World), Up wr y → FnsH y ea 5 EL → AllX 46 y (some ⟨x.heap.size, 0, none⟩) wr.heap.size EL → (∀ b, RowB ea b → wr.heap.size ≤ b) →
          Calls Tryd.prog 13 #[.agg #[.string ⟨#[120]⟩, .int .i64 1, .slice pa k pc, .int .i64 (-1)], .agg #[.slice ea 5 ec, .slice ca 3 cc], .slice a0 len0 cap0] y fun e w' => ∃ ra, e = .returned (.tuple #[.slice ra k k, .nilIface]) ∧ Vals w' ra k (keyP l0 (partsOf len0 l1) k) ∧ (Up wr y ∧ Chg (fun g => g = x.heap.size) y w') ∧ Met w' x.heap.size 0 0 0 0) := by
        intro B ea ca ec cc EL y hy hF hX hre
        have hyx : Up w y := U.out.trans (HR.out.up.trans hy)
        refine (kf_of len0 k x.heap.size wr.heap.size l0 l1 a0 pa ea ca cap0 pc ec cc EL y (by omega) h08 h9 hlen1 (HT.out.up hyx) ?_ (HPR.out.up hy) (H0.out.up hyx) HS.out hF hX hxw (HR.out.met.up hy) ?_ ?_ ?_).mono ?_
        · intro e
          have := World.block_lt_of_cell? w _ HT.out
          have := U.out.size
          simp at *
          omega
        · intro b _ hb e
          have := HPB.out b hb
          omega
        · intro b hb0 hb e
          obtain ⟨o, rfl⟩ := hb
          rcases H0.out.2.2 with h0 | ⟨vb', vo', he, hxv⟩
          · exact hb0 h0
          · cases he
            have := World.block_lt_of_cell? w _ (hxv 0 (by omega)).1
            have := U.out.size
            simp at *
            omega
        · intro b hb e
          have := hre b hb
          omega
        · rintro _ w' ⟨ra, rfl, h1, h2, h3⟩
          exact ⟨ra, rfl, h1, ⟨hy, h2⟩, h3⟩
      have HKC : Hid (∀ y w', Up wr y → Chg (fun g => g = x.heap.size) y w' → w'.cell? ⟨x.heap.size + 1, 0, none⟩ = some (.string ⟨#[120]⟩) ∧ w'.cell? ⟨x.heap.size + 1, 1, none⟩ = some (.int .i64 1) ∧ w'.cell? ⟨x.heap.size + 1, 2, none⟩ = some (.slice pa k pc) ∧ w'.cell? ⟨x.heap.size + 1, 3, none⟩ = some (.int .i64 (-1))) := fun y w' h hc => ⟨hc.cell (h.cell d0) (by show ¬ x.heap.size + 1 = x.heap.size; omega), hc.cell (h.cell d1) (by show ¬ x.heap.size + 1 = x.heap.size; omega), hc.cell (h.cell dc) (by show ¬ x.heap.size + 1 = x.heap.size; omega), hc.cell (h.cell d3) (by show ¬ x.heap.size + 1 = x.heap.size; omega)⟩
      clear d0 d1 dc d3
      go_region_held3 (fun w' => w'.cell? ⟨x.heap.size + 1, 0, none⟩ = some (.string ⟨#[120]⟩) ∧ w'.cell? ⟨x.heap.size + 1, 1, none⟩ = some (.int .i64 1) ∧ w'.cell? ⟨x.heap.size + 1, 2, none⟩ = some (.slice pa k pc) ∧ w'.cell? ⟨x.heap.size + 1, 3, none⟩ = some (.int .i64 (-1))) (first | exact (HK.out _ (by assumption)).2 | assumption)
        (first
          | (go_at_call 10; refine (phooksM_calls (some ⟨x.heap.size, 0, none⟩) _).mono ?_; rintro _ w6 ⟨ea, ec, EL, ca, cc, CL, rfl, hfe, hfc, hxe, hxc, hre, hrc, hu6⟩; have hk6 : Up wr w6 := Up.trans (by assumption) hu6; clear hu6)
          | (go_at_call 13; refine (HOF.out 0 ea ca ec cc EL _ (by assumption) hfe hxe hre).mono ?_; rintro _ w8 ⟨ra, rfl, hra, hc8, hm8⟩; have hS8 := HKC.out _ _ hc8.1 hc8.2))
      have U8 : Hid (Up w w8) := U.out.trans (Chg.up (C := fun g => g = x.heap.size) (Chg.trans (Chg.of_up (HR.out.up.trans hc8.1)) hc8.2 (fun g _ h => h)) (fun g hg h => by omega))
      have V8 : Hid (Vals w8 ka k (keyP l0 (partsOf len0 l1) k)) := (HVK.out.up hc8.1).chg hc8.2 (fun b hb e => by have := HKB.out b hb; omega)
      have R8 := hide hra
      have c8 : w8.cell? ⟨x.heap.size, 0, none⟩ = some (.int .i64 0) := hm8.1.1
      clear hra hc8 hm8 hS8 hfe hfc hxe hxc hre hrc hk6 hk0 HOF HKC HK HVK HPR HR
      go_wp2_with (go_at_call 14; refine (same_calls' ra ka k k kc (keyP l0 (partsOf len0 l1) k) w8 m1 R8.out V8.out).mono ?_; rintro _ w9 ⟨rfl, hu9⟩; replace c8 := hu9.cell c8; replace U8 := hide (U8.out.trans hu9); clear hu9)
      go_ret
      exact ⟨rfl, U8.out⟩

end Go.Proofs.YtnnbcpopjnlnoaaDoor
