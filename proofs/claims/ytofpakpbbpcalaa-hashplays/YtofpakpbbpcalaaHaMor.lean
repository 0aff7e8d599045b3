/-
  What Insert does with a key that stands with other numbers, and what Erase does, as the text runs.
-/
import Derived.Test.YtofpakpbbpcalaaHaAsk
import Derived.Test.YtofpakpbbpcalaaHaDel
namespace Go.Proofs.Ytofpakpbbpcalaa
open Go.ChangeShapes Go.WideShapes Go.ChangeAt Go.RowKit
set_option linter.unusedVariables false
set_option maxRecDepth 100000
attribute [local go_sem ↓] Go.wp_at_zero Go.wp_at_succ
attribute [local go_sem] run_store_float

set_option maxHeartbeats 8000000 in
/-- A key that stands with others comes to stand with one more. -/
theorem insert_more (p : Nat) (O : Nat → Prop) (T : Tab) (len c : Nat) (a : Option Addr) (n cp : Nat) (m : List VT) (x : Int) (w : World) (hi : Idx p O w false T len c) (hm : GoodK m) (hv : Vals w a n m) (hT : T m ≠ []) (hx : x ∉ T m) (hl : len ≤ 100000) (hc : c ≤ 100000) (hTl : (T m).length ≤ 999) :
    Calls Try.prog 11 #[.pointer (some ⟨p, 0, none⟩), .slice a n cp, .int .i64 x] w fun e w' => e = .returned (.int .i64 0) ∧ Chg O w w' ∧ Idx p (fun y => O y ∨ (w.heap.size ≤ y ∧ y < w'.heap.size)) w' false (setT T m (insF (T m) x)) ((len + 1 : Nat) : Int) c := by
  obtain ⟨h0, K, bl, M, f, hC, hG, hO⟩ := hi
  have hlt : ∀ y, iblk K bl p M T y → y < w.heap.size := fun y hy => h0 y (hO y hy)
  obtain ⟨ga, gn, gc, v, ht1, ht2, hvo, ho, hvb⟩ := hG.told_some hT
  obtain ⟨l, hTl2⟩ : ∃ l, l = T m := ⟨_, rfl⟩
  rw [← hTl2] at ho hT hx hTl
  have hr : Rise l := by rw [hTl2]; exact (hG.rise m).1
  obtain ⟨g, cg, cur, rfl, _, _⟩ := ho.block hT
  have hgb : g = bl m := Option.some.inj hvb
  have hgl : g < w.heap.size := by rw [hgb]; exact hlt _ (.inr (.inr (.inr ⟨m, by rw [← hTl2]; exact hT, rfl⟩)))
  obtain ⟨ln, hln⟩ : ∃ ln, ln = l.length := ⟨_, rfl⟩
  rw [← hln] at ho ht1
  have HTL := hide hTl2
  have HT := hide hT
  have HX := hide hx
  have HR := hide hr
  have HVO := hide hvo
  have HOW := hide ho
  have HGB := hide hgb
  have HGL := hide hgl
  have HO := hide hO
  have HG := hide hG
  have HV := hide hv
  have HM := hide hm
  have HLT := hide hlt
  have H0 := hide h0
  have hs := maxS hm
  have HT1 := hide ht1
  have HT2 := hide ht2
  have HLN := hide hTl
  have ew : IntKind.i64.wrap ((len : Int) + 1) = ((len + 1 : Nat) : Int) := by simp [IntKind.wrap, IntKind.bits, IntKind.signed]; omega
  replace hln := hide hln
  have HC := hide hC
  clear hO hG hv hm hlt h0 hC ht1 ht2 hvo ho hgb hvb hTl hTl2 hT hx hr hgl
  go_enter Try.func11, Try.ntmps11
  go_wp2_with fail
  go_at_call 24
  refine (bytesOf_calls a n cp m _ HM.out HV.out).mono ?_
  rintro _ w1 ⟨rfl, hu1⟩
  have hC1 : IdxC p M w1 false len c f := HC.out.chg (Chg.of_up (C := fun _ => False) hu1) (fun h => h) (fun h => h)
  have k0 := hC1.c0
  have k1 := hC1.c1
  have hlk := hC1.map.look_ok hs
  rw [HT1.out, HT2.out] at hlk
  have HU1 := hide hu1
  clear hu1 hC1
  generalize hsk : keyB m = s at *
  replace hsk := hide hsk
  go_wp2_with fail
  go_at_call 25
  refine (search_calls _ l x _ (OwnJ.rd (OwnG.up HOW.out (HU1.out.alloc _))) (by have := HLN.out; have := hln.out; omega) HR.out).mono ?_
  rintro _ w2 ⟨pl, hst, rfl, hu2⟩
  rw [decide_eq_false HX.out]
  have HST := hide hst
  obtain ⟨G, hGd⟩ : ∃ G, G = w1.heap.size := ⟨_, rfl⟩
  have b0 : w2.cell? ⟨G, 0, none⟩ = some (.slice ga gn gc) := hu2.cell (by rw [hGd]; go_simp)
  have b1 : w2.cell? ⟨G, 1, none⟩ = some (.slice (some ⟨g, 0, none⟩) ln cg) := hu2.cell (by rw [hGd]; go_simp)
  have bf1 : w2.frozen? ⟨G, 1, none⟩ = false := (hu2.frozen (p := ⟨G, 1, none⟩) (by rw [hGd]; simp)).trans (by rw [hGd]; first | go_simp | simp [World.frozen?])
  have hG2 : Hid (G < w2.heap.size) := by have := hu2.size; show G < _; rw [hGd]; simp at this; omega
  have hGw : Hid (w.heap.size ≤ G) := by rw [hGd]; exact HU1.out.size
  have HU2 : Hid (Up w w2) := ((HU1.out.alloc _).trans hu2)
  have k0' := hu2.cell (((Up.refl _).alloc _).cell k0)
  rw [← hGd]
  clear hu2 hGd hlk k0 k1 hst
  --M1
  go_wp2_with fail
  go_at_call 27
  have hW3 : Up w (w2.alloc (.cells #[.int .i64 x] 2)) := HU2.out.alloc _
  have HU3 := hide hW3
  refine (insJ_calls _ l x pl w2.heap.size _ (OwnG.up HOW.out hW3) HT.out (by have := HLN.out; have := hln.out; omega) HST.out.le (heap_alloc_new _ _) (fun e => ?_)).mono ?_
  · have e1 : g = w2.heap.size := Option.some.inj e
    have := HGL.out
    have := HU2.out.size
    omega
  rintro _ w5 ⟨v5, rfl, ho5, hc5, hb5⟩
  rw [HST.out.ins HX.out] at ho5
  have hne5 : insF l x ≠ [] := fun e => by have : x ∈ insF l x := insF_mem.2 (.inl rfl); rw [e] at this; cases this
  obtain ⟨g5, c5, cur5, rfl, _, hg5, _⟩ := ho5.block hne5
  have hl5 : (insF l x).length = l.length + 1 := insF_length HST.out HX.out
  have hgG : ¬ G = g := by have := HGL.out; have := hGw.out; omega
  have hg5l : Hid (g5 < w5.heap.size) := (ho5.lt g5 rfl).2
  have hg5s : Hid (g5 = g ∨ w2.heap.size < g5) := by
    rcases hb5 with h | ⟨q, h1, h2, _⟩
    · exact .inl (Option.some.inj h)
    · have : g5 = q := Option.some.inj h1
      simp at h2
      exact .inr (by omega)
  have hc25 : Chg (fun y => y = g) w2 w5 := ((Chg.refl (fun y => y = g) w2).alloc _).trans hc5 (fun y _ h => (Option.some.inj h).symm)
  replace b0 := hc25.cell b0 hgG
  replace b1 := hc25.cell b1 hgG
  replace bf1 := (hc25.frozen (p := ⟨G, 1, none⟩) hG2.out hgG).trans bf1
  have HC5 : Hid (Chg (fun y => y = g) w w5) := (Chg.of_up (C := fun y => y = g) HU2.out).trans hc25 (fun _ _ h => h)
  have hs25 := hide hc25.size
  have HO5 := hide ho5
  obtain ⟨l5, hl5d⟩ : ∃ l5, l5 = (insF l x).length := ⟨_, rfl⟩
  rw [← hl5d] at HO5 ⊢
  have HL5 := hide hl5
  have HL5D := hide hl5d
  have HNE5 := hide hne5
  clear ho5 hc5 hb5 hc25 hg5 hl5 hl5d hne5 HU3 hW3
  have Z0 : (w5.setCell ⟨G, 1, none⟩ (.slice (some ⟨g5, 0, none⟩) l5 c5)).cell? ⟨G, 0, none⟩ = some (.slice ga gn gc) := (World.cell?_setCell_other _ _ _ _ (by simp)).trans b0
  have Z1 : (w5.setCell ⟨G, 1, none⟩ (.slice (some ⟨g5, 0, none⟩) l5 c5)).cell? ⟨G, 1, none⟩ = some (.slice (some ⟨g5, 0, none⟩) l5 c5) := World.cell?_setCell_same _ _ _ b1
  have hc6 : Chg (fun y => y = G) w5 (w5.setCell ⟨G, 1, none⟩ (.slice (some ⟨g5, 0, none⟩) l5 c5)) := (Chg.refl _ w5).set (C := fun y => y = G) (p := ⟨G, 1, none⟩) (fun _ => rfl) _
  have HC6 := hide hc6
  have hgp : ¬ p = g := fun e => (HG.out.apart m (by rw [← HTL.out]; exact HT.out)).2.1 (by rw [← HGB.out]; exact e.symm)
  have hgM : ¬ M = g := fun e => (HG.out.apart m (by rw [← HTL.out]; exact HT.out)).2.2 (by rw [← HGB.out]; exact e.symm)
  have hpl : p < w.heap.size := HLT.out p (.inr (.inl rfl))
  have hMl : M < w.heap.size := HLT.out M (.inr (.inr (.inl rfl)))
  have HC06 : Hid (Chg (fun y => y = g) w (w5.setCell ⟨G, 1, none⟩ (.slice (some ⟨g5, 0, none⟩) l5 c5))) := HC5.out.trans hc6 (fun y hy h => by have := hGw.out; omega)
  have C6 : IdxC p M (w5.setCell ⟨G, 1, none⟩ (.slice (some ⟨g5, 0, none⟩) l5 c5)) false len c f := HC.out.chg HC06.out hgp hgM
  --M2
  go_wp2_with fail
  clear b0 b1 bf1 hc6 k0'
  generalize hW6 : w5.setCell ⟨G, 1, none⟩ (.slice (some ⟨g5, 0, none⟩) l5 c5) = w6 at *
  obtain ⟨w7, c7, hrun, hm7, hc7, hC7⟩ := (show MapS w6.drew M f c from C6.map).store hs (.agg #[.slice ga gn gc, .slice (some ⟨g5, 0, none⟩) l5 c5]) rfl (by omega)
  have k1 := C6.c1
  have C7 : Hid (Chg (fun y => y = M) w6 w7) := (((Chg.refl (fun y => y = M) w6).drew).trans hC7 (fun _ _ h => h))
  have k2 : w7.cell? ⟨p, 2, none⟩ = some (.int .i64 len) := C7.out.cell C6.c2 C6.pM
  have k0 : Hid (w7.cell? ⟨p, 0, none⟩ = some (.bool false)) := C7.out.cell C6.c0 C6.pM
  have k1' : Hid (w7.cell? ⟨p, 1, none⟩ = some (.map (some M))) := C7.out.cell C6.c1 C6.pM
  have kf : ∀ o, w7.frozen? ⟨p, o, none⟩ = false := fun o => (C7.out.frozen (p := ⟨p, o, none⟩) (World.block_lt_of_cell? _ ⟨p, 0, none⟩ C6.c0) C6.pM).trans (C6.fz o)
  have kf2 := kf 2
  have HKF := hide kf
  have M7 := hide hm7
  have HC7 := hide hc7
  have hpM := hide C6.pM
  clear hm7 hc7 hC7 C6 kf hW6
  --M3
  go_region
  all_goals
    clear hrun Z0 Z1 k1
    go_wp2
    go_ret
    have hsome : c7 = c := by rw [HC7.out, HT2.out]; rfl
    have gG2 := hG2.out
    have f5 := hg5s.out
    have f5' := hg5l.out
    have gw := hGw.out
    have w02 := HU2.out.size
    have w25 := hs25.out
    have w56 := HC6.out.size
    have w67 := C7.out.size
    have ggl := HGL.out
    have hc8 : Chg (fun y => y = p) w7 (w7.setCell ⟨p, 2, none⟩ (.int .i64 ((len : Int) + 1))) := (Chg.refl _ w7).set (C := fun y => y = p) (p := ⟨p, 2, none⟩) (fun _ => rfl) _
    have w78 := hc8.size
    have hTm : T m ≠ [] := by rw [← HTL.out]; exact HT.out
    have hKl : ∀ y, K y → y < w.heap.size := fun y hy => HLT.out y (.inl hy)
    have hKg : ¬ K g := by rw [HGB.out]; exact (HG.out.apart m hTm).1
    have hKp : ∀ y, K y → ¬ y = p ∧ ¬ y = M := HG.out.kpart
    have hcc : Chg (fun y => y = M ∨ y = p ∨ (T m ≠ [] ∧ y = bl m)) w (w7.setCell ⟨p, 2, none⟩ (.int .i64 ((len : Int) + 1))) :=
      (((HC06.out.mono (D := fun y => y = M ∨ y = p ∨ (T m ≠ [] ∧ y = bl m)) (fun y _ h => .inr (.inr ⟨hTm, by rw [h, HGB.out]⟩))).trans C7.out (fun y _ h => .inl h)).trans hc8 (fun y _ h => .inr (.inl h)))
    rw [← HTL.out]
    refine ⟨rfl, idx_put (K' := K) (a := ga) (n := gn) (c := gc) (v := .slice (some ⟨g5, 0, none⟩) l5 c5) (g := g5) H0.out HO.out HG.out HM.out HNE5.out (insF_rise HR.out) (by have h1 := HL5.out; have h2 := HLN.out; omega) hcc ?_ (fun y h => h) (fun y h => .inl h) ?_ ?_ rfl ?_⟩
    · rw [hsk.out, ← hsome]
      refine ⟨(World.cell?_setCell_other _ _ _ _ (by simp)).trans k0.out, (World.cell?_setCell_other _ _ _ _ (by simp)).trans k1'.out, ?_, fun o => by rw [World.frozen?_setCell]; exact HKF.out o, M7.out.chg hc8 (fun h => hpM.out h.symm), hpM.out⟩
      rw [World.cell?_setCell_same _ _ _ k2]
      simp
    · exact ((HVO.out.chg HC06.out (fun y h1 h2 => hKg (by rw [← h2]; exact h1))).chg C7.out (fun y h1 h2 => (hKp y h1).2 h2)).chg hc8 (fun y h1 h2 => (hKp y h1).1 h2)
    · exact OwnG.chg (OwnG.chg (OwnG.chg HO5.out HC6.out (fun y hy h => by have hy : g5 = y := Option.some.inj hy; omega)) C7.out (fun y hy h => by have hy : g5 = y := Option.some.inj hy; omega)) hc8 (fun y hy h => by have hy : g5 = y := Option.some.inj hy; omega)
    · rcases f5 with h | h
      · exact .inl ⟨hTm, by rw [h, HGB.out]⟩
      · exact .inr ⟨by omega, by omega, fun hk => by have := hKl _ hk; omega⟩

/-- A group is struck. -/
theorem idx_del {K : Nat → Prop} {bl : List VT → Nat} {p M : Nat} {O : Nat → Prop} {w w8 : World} {u : Bool} {T : Tab} {f : List UInt8 → Option Value} (h0 : ∀ x, O x → x < w.heap.size) (hO : ∀ x, iblk K bl p M T x → O x) (hG : IdxG K bl p M w T f)
    {m : List VT} (hm : GoodK m) {len' : Int} {c' : Nat} (hc : Chg (fun y => y = M ∨ y = p) w w8) (hC8 : IdxC p M w8 u len' c' (updS f (keyB m).data.toList none)) :
    Chg O w w8 ∧ Idx p (fun y => O y ∨ (w.heap.size ≤ y ∧ y < w8.heap.size)) w8 u (setT T m []) len' c' := by
  have hT : ∀ m', setT T m [] m' ≠ [] → m' ≠ m ∧ T m' ≠ [] := fun m' h => by
    by_cases e : m' = m
    · subst e; rw [setT_same] at h; exact absurd rfl h
    · rw [setT_other T _ e] at h; exact ⟨e, h⟩
  refine ⟨hc.mono (fun x _ hx => hx.elim (fun h => by rw [h]; exact hO _ (.inr (.inr (.inl rfl)))) (fun h => by rw [h]; exact hO _ (.inr (.inl rfl)))), fun x hx => hx.elim (fun h => Nat.lt_of_lt_of_le (h0 x h) hc.size) (fun h => h.2), K, bl, M, _, hC8, ⟨fun m' hm' => ?_, fun m' hg hT' => ?_, fun x v hx => ?_, fun m1 m2 h1 h2 => hG.inj m1 m2 (hT m1 h1).2 (hT m2 h2).2, fun m' hm' => hG.apart m' (hT m' hm').2, hG.kpart, fun m' => ?_⟩, fun x hx => ?_⟩
  · obtain ⟨e, h⟩ := hT m' hm'
    obtain ⟨h1, val, h2, h3⟩ := hG.here m' h
    have hk : kb m' ≠ (keyB m).data.toList := fun q => e (kb_inj h1 hm (by rw [q, keyB_kb]))
    rw [updS_other _ _ hk, setT_other T _ e]
    exact ⟨h1, val, h2, h3.chg hc (fun x hx h => h.elim (hG.kpart x hx).2 (hG.kpart x hx).1) (fun h' => h'.elim (hG.apart m' h).2.2 (hG.apart m' h).2.1)⟩
  · by_cases e : m' = m
    · rw [e, ← keyB_kb, updS_same]
    · rw [setT_other T _ e] at hT'
      have hk : kb m' ≠ (keyB m).data.toList := fun q => e (kb_inj hg hm (by rw [q, keyB_kb]))
      rw [updS_other _ _ hk]
      exact hG.gone m' hg hT'
  · by_cases e : x = (keyB m).data.toList
    · rw [e, updS_same] at hx; cases hx
    · rw [updS_other _ _ e] at hx
      obtain ⟨m', h1, rfl⟩ := hG.all x v hx
      have hne : m' ≠ m := fun q => e (by rw [q, keyB_kb])
      exact ⟨m', by rw [setT_other T _ hne]; exact h1, rfl⟩
  · by_cases e : m' = m
    · rw [e, setT_same]; exact ⟨List.Pairwise.nil, by simp⟩
    · rw [setT_other T _ e]; exact hG.rise m'
  · refine .inl (hO x ?_)
    rcases hx with hx | hx | hx | ⟨m', hx, e⟩
    · exact .inl hx
    · exact .inr (.inl hx)
    · exact .inr (.inr (.inl hx))
    · exact .inr (.inr (.inr ⟨m', (hT m' hx).2, e⟩))

set_option maxHeartbeats 8000000 in
/-- The last number of a key goes. -/
theorem erase_last (p : Nat) (O : Nat → Prop) (u : Bool) (T : Tab) (len c : Nat) (a : Option Addr) (n cp : Nat) (m : List VT) (x : Int) (w : World) (hi : Idx p O w u T ((len + 1 : Nat) : Int) c) (hm : GoodK m) (hv : Vals w a n m) (hT : T m = [x]) (hl : len ≤ 100000) :
    Calls Try.prog 14 #[.pointer (some ⟨p, 0, none⟩), .slice a n cp, .int .i64 x] w fun e w' => e = .returned (.int .i64 0) ∧ Chg O w w' ∧ Idx p (fun y => O y ∨ (w.heap.size ≤ y ∧ y < w'.heap.size)) w' u (setT T m []) (len : Int) (c - 1) ∧ 0 < c := by
  obtain ⟨h0, K, bl, M, f, hC, hG, hO⟩ := hi
  have hlt : ∀ y, iblk K bl p M T y → y < w.heap.size := fun y hy => h0 y (hO y hy)
  obtain ⟨ga, gn, gc, v, ht1, ht2, hvo, ho, hvb⟩ := hG.told_some (m := m) (by rw [hT]; simp)
  rw [hT] at ho
  obtain ⟨g, cg, cur, rfl, _, _⟩ := ho.block (by simp)
  have HOW := hide ho
  have HO := hide hO
  have HG := hide hG
  have HV := hide hv
  have HM := hide hm
  have HLT := hide hlt
  have H0 := hide h0
  have hs := maxS hm
  have HT1 := hide ht1
  have HT2 := hide ht2
  have ew : IntKind.i64.wrap (((len + 1 : Nat) : Int) - 1) = (len : Int) := by simp [IntKind.wrap, IntKind.bits, IntKind.signed]; omega
  have HC := hide hC
  obtain ⟨L, hL⟩ : ∃ L : Int, L = ((len + 1 : Nat) : Int) := ⟨_, rfl⟩
  have ew2 : L - 1 = (len : Int) := by rw [hL]; omega
  rw [← hL] at HC ew
  clear hO hG hv hm hlt h0 hC ht1 ht2 hvo ho hvb hT hL
  go_enter Try.func14, Try.ntmps14
  go_wp2_with fail
  go_at_call 24
  refine (bytesOf_calls a n cp m _ HM.out HV.out).mono ?_
  rintro _ w1 ⟨rfl, hu1⟩
  have hC1 : IdxC p M w1 u L c f := HC.out.chg (Chg.of_up (C := fun _ => False) hu1) (fun h => h) (fun h => h)
  have k1 := hC1.c1
  have hlk := hC1.map.look hs
  rw [HT1.out] at hlk
  have HU1 := hide hu1
  clear hu1 hC1
  generalize hsk : keyB m = s at *
  replace hsk := hide hsk
  go_wp2_with fail
  go_at_call 25
  refine (search_calls _ [x] x _ (OwnJ.rd (OwnG.up HOW.out (HU1.out.alloc _))) (by simp) (List.pairwise_singleton _ _)).mono ?_
  rintro _ w2 ⟨pl, hst, rfl, hu2⟩
  rw [decide_eq_true (List.mem_singleton.2 rfl)]
  obtain ⟨G, hGd⟩ : ∃ G, G = w1.heap.size := ⟨_, rfl⟩
  have b1 : w2.cell? ⟨G, 1, none⟩ = some (.slice (some ⟨g, 0, none⟩) 1 cg) := hu2.cell (by rw [hGd]; go_simp)
  have hGw : Hid (w.heap.size ≤ G) := by rw [hGd]; exact HU1.out.size
  have HU2 : Hid (Up w w2) := ((HU1.out.alloc _).trans hu2)
  have hpl : p < w.heap.size := HLT.out p (.inr (.inl rfl))
  have hGp : ¬ G = p := by have := hGw.out; omega
  have C2 : IdxC p M w2 u L c f := HC.out.chg (Chg.of_up (C := fun _ => False) HU2.out) (fun h => h) (fun h => h)
  rw [← hGd]
  clear hu2 hGd hlk k1 hst
  have k2 := C2.c2
  have kf := C2.fz 2
  have hc3 : Chg (fun y => y = p) w2 (w2.setCell ⟨p, 2, none⟩ (.int .i64 len)) := (Chg.refl _ w2).set (C := fun y => y = p) (p := ⟨p, 2, none⟩) (fun _ => rfl) _
  have C3 : IdxC p M (w2.setCell ⟨p, 2, none⟩ (.int .i64 len)) u len c f := ⟨(World.cell?_setCell_other _ _ _ _ (by simp)).trans C2.c0, (World.cell?_setCell_other _ _ _ _ (by simp)).trans C2.c1, World.cell?_setCell_same _ _ _ k2, fun o => by rw [World.frozen?_setCell]; exact C2.fz o, C2.map.chg hc3 (fun h => C2.pM h.symm), C2.pM⟩
  have k1 := C3.c1
  have b1' : (w2.setCell ⟨p, 2, none⟩ (.int .i64 len)).cell? ⟨G, 1, none⟩ = some (.slice (some ⟨g, 0, none⟩) 1 cg) := hc3.cell b1 hGp
  have HC3 : Hid (Chg (fun y => y = M ∨ y = p) w (w2.setCell ⟨p, 2, none⟩ (.int .i64 len))) := (Chg.of_up (C := fun y => y = M ∨ y = p) HU2.out).trans hc3 (fun _ _ h => .inr h)
  obtain ⟨w7, hrun, hm7, hC7, hpos⟩ := C3.map.drop hs HT2.out 0
  have D7 : Hid (IdxC p M w7 u len (c - 1) (updS f s.data.toList none)) := ⟨hC7.cell C3.c0 C3.pM, hC7.cell C3.c1 C3.pM, hC7.cell C3.c2 C3.pM, fun o => (hC7.frozen (p := ⟨p, o, none⟩) (World.block_lt_of_cell? _ ⟨p, 0, none⟩ C3.c0) C3.pM).trans (C3.fz o), hm7, C3.pM⟩
  have HC7 : Hid (Chg (fun y => y = M ∨ y = p) w w7) := HC3.out.trans hC7 (fun _ _ h => .inl h)
  have HPOS := hide hpos
  clear C2 C3 hc3 hm7 hC7 hpos
  --E1
  go_wp2
  go_ret
  obtain ⟨q1, q2⟩ := idx_del H0.out HO.out HG.out HM.out HC7.out (by rw [hsk.out]; exact D7.out)
  exact ⟨rfl, q1, q2, HPOS.out⟩

set_option maxHeartbeats 8000000 in
/-- One of several numbers of a key goes. -/
theorem erase_more (p : Nat) (O : Nat → Prop) (u : Bool) (T : Tab) (len c : Nat) (a : Option Addr) (n cp : Nat) (m : List VT) (x : Int) (w : World) (hi : Idx p O w u T ((len + 1 : Nat) : Int) c) (hm : GoodK m) (hv : Vals w a n m) (hx : x ∈ T m) (hT2 : 2 ≤ (T m).length) (hl : len ≤ 100000) (hcc : c ≤ 100000) :
    Calls Try.prog 14 #[.pointer (some ⟨p, 0, none⟩), .slice a n cp, .int .i64 x] w fun e w' => e = .returned (.int .i64 0) ∧ Chg O w w' ∧ Idx p (fun y => O y ∨ (w.heap.size ≤ y ∧ y < w'.heap.size)) w' u (setT T m (eraF (T m) x)) (len : Int) c := by
  obtain ⟨h0, K, bl, M, f, hC, hG, hO⟩ := hi
  have hlt : ∀ y, iblk K bl p M T y → y < w.heap.size := fun y hy => h0 y (hO y hy)
  have hT : T m ≠ [] := fun e => by rw [e] at hx; cases hx
  obtain ⟨ga, gn, gc, v, ht1, ht2, hvo, ho, hvb⟩ := hG.told_some hT
  obtain ⟨l, hTl2⟩ : ∃ l, l = T m := ⟨_, rfl⟩
  have hTl := (hG.rise m).2
  rw [← hTl2] at ho hT hx hTl hT2
  have hr : Rise l := by rw [hTl2]; exact (hG.rise m).1
  obtain ⟨g, cg, cur, rfl, _, _⟩ := ho.block hT
  have hgb : g = bl m := Option.some.inj hvb
  have hgl : g < w.heap.size := by rw [hgb]; exact hlt _ (.inr (.inr (.inr ⟨m, by rw [← hTl2]; exact hT, rfl⟩)))
  obtain ⟨ln, hln⟩ : ∃ ln, ln = l.length := ⟨_, rfl⟩
  rw [← hln] at ho ht1
  have tln : ((ln : Int) == 1) = false := by simp; omega
  have HTL := hide hTl2
  have HT := hide hT
  have HX := hide hx
  have HR := hide hr
  have HVO := hide hvo
  have HOW := hide ho
  have HGB := hide hgb
  have HGL := hide hgl
  have HO := hide hO
  have HG := hide hG
  have HV := hide hv
  have HM := hide hm
  have HLT := hide hlt
  have H0 := hide h0
  have hs := maxS hm
  have HT1 := hide ht1
  have HT2 := hide ht2
  have HLN := hide hTl
  have HT22 := hide hT2
  replace hln := hide hln
  have ew : IntKind.i64.wrap (((len + 1 : Nat) : Int) - 1) = (len : Int) := by simp [IntKind.wrap, IntKind.bits, IntKind.signed]; omega
  have HC := hide hC
  obtain ⟨L, hL⟩ : ∃ L : Int, L = ((len + 1 : Nat) : Int) := ⟨_, rfl⟩
  have ew2 : L - 1 = (len : Int) := by rw [hL]; omega
  rw [← hL] at HC ew
  clear hO hG hv hm hlt h0 hC ht1 ht2 hvo ho hgb hvb hTl hTl2 hT hx hr hgl hL hT2
  go_enter Try.func14, Try.ntmps14
  go_wp2_with fail
  go_at_call 24
  refine (bytesOf_calls a n cp m _ HM.out HV.out).mono ?_
  rintro _ w1 ⟨rfl, hu1⟩
  have hC1 : IdxC p M w1 u L c f := HC.out.chg (Chg.of_up (C := fun _ => False) hu1) (fun h => h) (fun h => h)
  have k1 := hC1.c1
  have hlk := hC1.map.look hs
  rw [HT1.out] at hlk
  have HU1 := hide hu1
  clear hu1 hC1
  generalize hsk : keyB m = s at *
  replace hsk := hide hsk
  go_wp2_with fail
  go_at_call 25
  refine (search_calls _ l x _ (OwnJ.rd (OwnG.up HOW.out (HU1.out.alloc _))) (by have := HLN.out; have := hln.out; omega) HR.out).mono ?_
  rintro _ w2 ⟨pl, hst, rfl, hu2⟩
  rw [decide_eq_true HX.out]
  have HST := hide hst
  have hpl1 : pl < l.length := ((hst.mem HR.out).1 HX.out).1
  obtain ⟨G, hGd⟩ : ∃ G, G = w1.heap.size := ⟨_, rfl⟩
  have b0 : w2.cell? ⟨G, 0, none⟩ = some (.slice ga gn gc) := hu2.cell (by rw [hGd]; go_simp)
  have b1 : w2.cell? ⟨G, 1, none⟩ = some (.slice (some ⟨g, 0, none⟩) ln cg) := hu2.cell (by rw [hGd]; go_simp)
  have bf1 : w2.frozen? ⟨G, 1, none⟩ = false := (hu2.frozen (p := ⟨G, 1, none⟩) (by rw [hGd]; simp)).trans (by rw [hGd]; first | go_simp | simp [World.frozen?])
  have hG2 : Hid (G < w2.heap.size) := by have := hu2.size; show G < _; rw [hGd]; simp at this; omega
  have hGw : Hid (w.heap.size ≤ G) := by rw [hGd]; exact HU1.out.size
  have HU2 : Hid (Up w w2) := ((HU1.out.alloc _).trans hu2)
  have hpl : p < w.heap.size := HLT.out p (.inr (.inl rfl))
  have hMl : M < w.heap.size := HLT.out M (.inr (.inr (.inl rfl)))
  have hGp : ¬ G = p := by have := hGw.out; omega
  have hgG : ¬ G = g := by have := HGL.out; have := hGw.out; omega
  have hgp : ¬ p = g := fun e => (HG.out.apart m (by rw [← HTL.out]; exact HT.out)).2.1 (by rw [← HGB.out]; exact e.symm)
  have hgM : ¬ M = g := fun e => (HG.out.apart m (by rw [← HTL.out]; exact HT.out)).2.2 (by rw [← HGB.out]; exact e.symm)
  have C2 : IdxC p M w2 u L c f := HC.out.chg (Chg.of_up (C := fun _ => False) HU2.out) (fun h => h) (fun h => h)
  rw [← hGd]
  clear hu2 hGd hlk k1 hst
  have k2 := C2.c2
  have kf := C2.fz 2
  have hc3 : Chg (fun y => y = p) w2 (w2.setCell ⟨p, 2, none⟩ (.int .i64 len)) := (Chg.refl _ w2).set (C := fun y => y = p) (p := ⟨p, 2, none⟩) (fun _ => rfl) _
  have C3 : IdxC p M (w2.setCell ⟨p, 2, none⟩ (.int .i64 len)) u len c f := ⟨(World.cell?_setCell_other _ _ _ _ (by simp)).trans C2.c0, (World.cell?_setCell_other _ _ _ _ (by simp)).trans C2.c1, World.cell?_setCell_same _ _ _ k2, fun o => by rw [World.frozen?_setCell]; exact C2.fz o, C2.map.chg hc3 (fun h => C2.pM h.symm), C2.pM⟩
  have d0 := hc3.cell b0 hGp
  have d1 := hc3.cell b1 hGp
  have df := (hc3.frozen (p := ⟨G, 1, none⟩) hG2.out hGp).trans bf1
  have HD3 : Hid (Chg (fun y => y = p) w (w2.setCell ⟨p, 2, none⟩ (.int .i64 len))) := (Chg.of_up (C := fun y => y = p) HU2.out).trans hc3 (fun _ _ h => h)
  have hs3 : Hid (w2.heap.size ≤ (w2.setCell ⟨p, 2, none⟩ (.int .i64 len)).heap.size) := hc3.size
  have CC3 := hide C3
  clear C2 C3 hc3
  have e1 : IntKind.i64.wrap ((pl : Int) + 1) = (pl : Int) + 1 := by rw [IntKind.wrap_i64]; have := HLN.out; omega
  --E2
  go_wp2_with fail
  go_at_call 30
  clear b0 b1 bf1 k2 kf
  generalize w2.setCell ⟨p, 2, none⟩ (.int .i64 len) = w3 at *
  refine (delJ_calls _ l pl w3 (OwnG.chg HOW.out HD3.out (fun y hy h => by have hy : g = y := Option.some.inj hy; omega)) HLN.out hpl1).mono ?_
  rintro _ w5 ⟨v5, rfl, ho5, hc5, hb5⟩
  rw [HST.out.era HR.out HX.out] at ho5
  have hel : (eraF l x).length = l.length - 1 := by
    rw [← HST.out.era HR.out HX.out, List.length_append, List.length_take, List.length_drop]
    omega
  have hne5 : eraF l x ≠ [] := fun e => by rw [e] at hel; have := HT22.out; simp at hel; omega
  obtain ⟨g5, c5, cur5, rfl, _, hg5, _⟩ := ho5.block hne5
  obtain rfl : g = g5 := (Option.some.inj hb5).symm
  have hc25 : Chg (fun y => y = g) w3 w5 := hc5.mono (fun y _ h => (Option.some.inj h).symm)
  have hG3 : G < w3.heap.size := Nat.lt_of_lt_of_le hG2.out hs3.out
  replace d0 := hc25.cell d0 hgG
  replace d1 := hc25.cell d1 hgG
  replace df := (hc25.frozen (p := ⟨G, 1, none⟩) hG3 hgG).trans df
  have HC5 : Hid (Chg (fun y => y = g ∨ y = p) w w5) := (HD3.out.mono (D := fun y => y = g ∨ y = p) (fun y _ h => .inr h)).trans hc25 (fun _ _ h => .inl h)
  have C5 : IdxC p M w5 u len c f := CC3.out.chg hc25 hgp hgM
  have HO5 := hide ho5
  obtain ⟨l5, hl5d⟩ : ∃ l5, l5 = (eraF l x).length := ⟨_, rfl⟩
  rw [← hl5d] at HO5 ⊢
  have HL5 := hide hel
  have HNE5 := hide hne5
  clear ho5 hc5 hb5 hc25 hg5 hel hl5d hne5 CC3 hG3
  have Z0 : (w5.setCell ⟨G, 1, none⟩ (.slice (some ⟨g, 0, none⟩) l5 c5)).cell? ⟨G, 0, none⟩ = some (.slice ga gn gc) := (World.cell?_setCell_other _ _ _ _ (by simp)).trans d0
  have Z1 : (w5.setCell ⟨G, 1, none⟩ (.slice (some ⟨g, 0, none⟩) l5 c5)).cell? ⟨G, 1, none⟩ = some (.slice (some ⟨g, 0, none⟩) l5 c5) := World.cell?_setCell_same _ _ _ d1
  have hc6 : Chg (fun y => y = G) w5 (w5.setCell ⟨G, 1, none⟩ (.slice (some ⟨g, 0, none⟩) l5 c5)) := (Chg.refl _ w5).set (C := fun y => y = G) (p := ⟨G, 1, none⟩) (fun _ => rfl) _
  have HC6 := hide hc6
  have HC06 : Hid (Chg (fun y => y = g ∨ y = p) w (w5.setCell ⟨G, 1, none⟩ (.slice (some ⟨g, 0, none⟩) l5 c5))) := HC5.out.trans hc6 (fun y hy h => by have := hGw.out; omega)
  have C6 : IdxC p M (w5.setCell ⟨G, 1, none⟩ (.slice (some ⟨g, 0, none⟩) l5 c5)) u len c f := C5.chg hc6 (fun h => hGp h.symm) (fun h => by have := hGw.out; omega)
  --E3
  go_wp2_with fail
  clear d0 d1 df hc6 C5
  generalize hW6 : w5.setCell ⟨G, 1, none⟩ (.slice (some ⟨g, 0, none⟩) l5 c5) = w6 at *
  obtain ⟨w7, c7, hrun, hm7, hc7, hC7⟩ := (show MapS w6.drew M f c from C6.map).store hs (.agg #[.slice ga gn gc, .slice (some ⟨g, 0, none⟩) l5 c5]) rfl (by omega)
  have k1 := C6.c1
  have C7 : Hid (Chg (fun y => y = M) w6 w7) := (((Chg.refl (fun y => y = M) w6).drew).trans hC7 (fun _ _ h => h))
  have k2 : w7.cell? ⟨p, 2, none⟩ = some (.int .i64 len) := C7.out.cell C6.c2 C6.pM
  have k0 : Hid (w7.cell? ⟨p, 0, none⟩ = some (.bool u)) := C7.out.cell C6.c0 C6.pM
  have k1' : Hid (w7.cell? ⟨p, 1, none⟩ = some (.map (some M))) := C7.out.cell C6.c1 C6.pM
  have kf : ∀ o, w7.frozen? ⟨p, o, none⟩ = false := fun o => (C7.out.frozen (p := ⟨p, o, none⟩) (World.block_lt_of_cell? _ ⟨p, 0, none⟩ C6.c0) C6.pM).trans (C6.fz o)
  have HKF := hide kf
  have M7 := hide hm7
  have HC7 := hide hc7
  have hpM := hide C6.pM
  have K2 := hide k2
  clear hm7 hc7 hC7 C6 kf hW6 k2
  go_region
  all_goals
    clear hrun Z0 Z1 k1
    go_wp2
    go_ret
    have hsome : c7 = c := by rw [HC7.out, HT2.out]; rfl
    have gw := hGw.out
    have ggl := HGL.out
    have hTm : T m ≠ [] := by rw [← HTL.out]; exact HT.out
    have hKg : ¬ K g := by rw [HGB.out]; exact (HG.out.apart m hTm).1
    have hKp : ∀ y, K y → ¬ y = p ∧ ¬ y = M := HG.out.kpart
    have hccc : Chg (fun y => y = M ∨ y = p ∨ (T m ≠ [] ∧ y = bl m)) w w7 :=
      ((HC06.out.mono (D := fun y => y = M ∨ y = p ∨ (T m ≠ [] ∧ y = bl m)) (fun y _ h => h.elim (fun h => .inr (.inr ⟨hTm, by rw [h, HGB.out]⟩)) (fun h => .inr (.inl h)))).trans C7.out (fun y _ h => .inl h))
    rw [← HTL.out]
    refine ⟨rfl, idx_put (K' := K) (a := ga) (n := gn) (c := gc) (v := .slice (some ⟨g, 0, none⟩) l5 c5) (g := g) H0.out HO.out HG.out HM.out HNE5.out (eraF_rise HR.out) (by have h1 := HL5.out; have h2 := HLN.out; omega) hccc ?_ (fun y h => h) (fun y h => .inl h) ?_ ?_ rfl (.inl ⟨hTm, HGB.out⟩)⟩
    · rw [hsk.out, ← hsome]
      exact ⟨k0.out, k1'.out, K2.out, HKF.out, M7.out, hpM.out⟩
    · exact (HVO.out.chg HC06.out (fun y h1 h2 => h2.elim (fun h2 => hKg (by rw [← h2]; exact h1)) (fun h2 => (hKp y h1).1 h2))).chg C7.out (fun y h1 h2 => (hKp y h1).2 h2)
    · exact OwnG.chg (OwnG.chg HO5.out HC6.out (fun y hy h => by have hy : g = y := Option.some.inj hy; omega)) C7.out (fun y hy h => by have hy : g = y := Option.some.inj hy; omega)

end Go.Proofs.Ytofpakpbbpcalaa
