/-
  ordidx's search and Find where the comparator may strike, as their texts run.
-/
import Derived.Test.YtnokokhbcfkifaaGreatDoorOxIxG
import Derived.Test.YtnokokhbcfkifaaGreatDoorOxHiu
import Derived.Test.YtnokokhbcfkifaaGreatDoorTrSe2
namespace Go.Proofs.YtnokokhbcfkifaaGreatDoor
open Go.ChangeShapes Go.WideShapes Go.ChangeAt Go.RowKit
set_option linter.unusedVariables false
set_option maxRecDepth 100000
attribute [local go_sem ↓] Go.wp_at_zero Go.wp_at_succ

/-- An error that the comparator told. -/
def markV (k : Nat) : Value := .iface 147 (.pointer (some ⟨k, 0, none⟩))
/-- What holds once the comparator has struck. -/
structure SeJ (mp : Option Addr) (t h : Int) (fb : Nat) (W : World) (w' : World) : Prop where
  chg : Chg (fun y => InM mp y ∨ y = fb) W w'
  met : MetO w' mp t t h 1
  f0 : ∃ k, w'.cell? ⟨fb, 0, none⟩ = some (markV k)
theorem SeJ.up {mp : Option Addr} {t h : Int} {fb : Nat} {W w w' : World} (i : SeJ mp t h fb W w) (hu : Up w w') : SeJ mp t h fb W w' := by
  obtain ⟨k, hk⟩ := i.f0
  exact ⟨i.chg.andUp hu, i.met.up hu, k, hu.cell hk⟩
theorem SeJ.ix {Y : Nat → Prop} {mp : Option Addr} {q mx nx X T : Nat} {u : Bool} {L : List EP} {hh n : Nat} {c t h s : Int} {fb : Nat} {w W w' : World} (i : IxW Y mp q mx nx X T u L hh n c t h s w) (hW : Up w W) (hf : w.heap.size ≤ fb) (e : SeJ mp t h fb W w') : Chg (InM mp) w w' ∧ IxW Y mp q mx nx X T u L hh n t t h 1 w' := by
  have hc : Chg (InM mp) w w' := (Chg.of_up hW).trans e.chg (fun y hy h => h.resolve_right (by omega))
  exact ⟨hc, i.met hc e.met⟩
set_option maxHeartbeats 2000000 in
theorem sea1_struck (mp : Option Addr) (t h : Int) (fb xb kb lb : Nat) (W x : World) (v : ET) (e : SeJ mp t h fb W x) :
    Calls Tryz.prog 65 (#[encE v] ++ #[.pointer (some ⟨fb, 0, none⟩), .pointer (some ⟨xb, 0, none⟩), .pointer (some ⟨kb, 0, none⟩), .pointer (some ⟨lb, 0, none⟩)]) x fun e' w' => ∃ b, e' = .returned (.bool b) ∧ SeJ mp t h fb W w' := by
  obtain ⟨k, hk⟩ := e.f0
  unfold encE
  show Calls Tryz.prog _ #[.agg #[.slice v.a v.n v.c, .int .i64 v.id], .pointer (some ⟨fb, 0, none⟩), .pointer (some ⟨xb, 0, none⟩), .pointer (some ⟨kb, 0, none⟩), .pointer (some ⟨lb, 0, none⟩)] x _
  obtain ⟨x1, hx1⟩ : ∃ x1, x1 = x.alloc (.cells #[.slice v.a v.n v.c, .int .i64 v.id] 51) := ⟨_, rfl⟩
  have hu1 : Up x x1 := by rw [hx1]; exact (Up.refl _).alloc _
  have g0 := hu1.cell hk
  unfold markV at g0
  have E1 := hide (e.up hu1)
  have hx1' := hx1.symm
  clear hx1 hu1 hk e
  go_enter Tryz.func65, Tryz.ntmps65
  go_wp2
  go_ret
  exact ⟨true, rfl, E1.out⟩
set_option maxHeartbeats 4000000 in
theorem sea1_hit (Y : Nat → Prop) (mb : Nat) (q mx nx X T : Nat) (u : Bool) (L : List EP) (hh n : Nat) (c t h : Int) (fb xb kb lb : Nat) (ka : Option Addr) (kn kc : Nat) (m : List VT) (least : Int) (w W : World) (i : IxW Y (some ⟨mb, 0, none⟩) q mx nx X T u L hh n c t h 0 w) (hW : Up w W) (hfb : w.heap.size ≤ fb) (hc0 : 0 ≤ c) (hc1 : c ≤ 900000)  (kk : KeyC (InM (some ⟨mb, 0, none⟩)) w ka kn kc m)
    (b1 : W.cell? ⟨xb, 0, none⟩ = some (.pointer (some ⟨X, 0, none⟩))) (b2 : W.cell? ⟨kb, 0, none⟩ = some (.slice ka kn kc)) (b3 : W.cell? ⟨lb, 0, none⟩ = some (.int .i64 least)) (hxb : ¬ (InM (some ⟨mb, 0, none⟩) xb ∨ xb = fb)) (hkb : ¬ (InM (some ⟨mb, 0, none⟩) kb ∨ kb = fb)) (hlb : ¬ (InM (some ⟨mb, 0, none⟩) lb ∨ lb = fb)) :
    ∀ (k j : Nat) (x : World), k < 100 → j < (L.map (·.1)).length → c + k + 1 = t → c + k ≤ 1000 → SeI (some ⟨mb, 0, none⟩) c t h 0 fb W k x → Calls Tryz.prog 65 (#[encE ((L.map (·.1)).getD j zeroET)] ++ #[.pointer (some ⟨fb, 0, none⟩), .pointer (some ⟨xb, 0, none⟩), .pointer (some ⟨kb, 0, none⟩), .pointer (some ⟨lb, 0, none⟩)]) x fun e' w' => ∃ b, e' = .returned (.bool b) ∧ SeJ (some ⟨mb, 0, none⟩) t h fb W w' := by
  intro k j x hk hj hct hc1000 e
  have hjL : j < L.length := by simpa using hj
  obtain ⟨hcx, ix⟩ := SeI.ix i hW hfb e
  have hmem : L[j] ∈ L := List.getElem_mem hjL
  have ek : (L.map (·.1)).getD j zeroET = L[j].1 := by rw [List.getD_eq_getElem?_getD, List.getElem?_map, List.getElem?_eq_getElem hjL]; rfl
  rw [ek]
  have kj := ix.ke _ hmem
  obtain ⟨v, hv⟩ : ∃ v, v = L[j].1 := ⟨_, rfl⟩
  obtain ⟨vs, hvs⟩ : ∃ vs, vs = L[j].2 := ⟨_, rfl⟩
  rw [← hv, ← hvs] at kj
  rw [← hv]
  clear hv hvs hmem ek hj
  have kx := kk.chg hcx
  obtain ⟨x1', hx1⟩ : ∃ x1', x1' = x.alloc (.cells #[.slice v.a v.n v.c, .int .i64 v.id] 51) := ⟨_, rfl⟩
  have hu1 : Up x x1' := by rw [hx1]; exact (Up.refl _).alloc _
  have c0 : x1'.cell? ⟨x.heap.size, 0, none⟩ = some (.slice v.a v.n v.c) := by rw [hx1]; go_simp
  have g1 := hu1.cell (e.chg.cell b1 hxb)
  have g2 := hu1.cell (e.chg.cell b2 hkb)
  have g3 := hu1.cell (e.chg.cell b3 hlb)
  have g0 := hu1.cell e.f0
  have e1 := e.up hu1
  have hfl : fb < x1'.heap.size := World.block_lt_of_cell? _ _ g0
  have hcw : CpW (some ⟨mb, 0, none⟩) q mx nx (c + k) (c + k + 1) h 0 x1' := by rw [hct]; exact ix.cw.up hu1
  have ho := order_hit X mb q mx nx (c + k) h v.a ka v.n v.c kn kc vs m x1' (hu1.cell ix.x1) hcw (by omega) hc1000 (kj.k.up hu1) (kx.k.up hu1)
  rw [hct] at ho
  have HO := hide ho
  have E1 := hide e1
  have hnf : ¬ InM (some ⟨mb, 0, none⟩) fb := fun h => by have := i.ylt _ h; omega
  have hx1' := hx1.symm
  unfold encE
  show Calls Tryz.prog _ #[.agg #[.slice v.a v.n v.c, .int .i64 v.id], .pointer (some ⟨fb, 0, none⟩), .pointer (some ⟨xb, 0, none⟩), .pointer (some ⟨kb, 0, none⟩), .pointer (some ⟨lb, 0, none⟩)] x _
  clear hx1 ho e1 e ix hcx kj kx i kk b1 b2 b3 hcw
  have HXB := hide hxb
  have HKB := hide hkb
  have HLB := hide hlb
  clear hxb hkb hlb
  go_enter Tryz.func65, Tryz.ntmps65
  go_wp2_with fail
  refine HO.out.mono ?_
  rintro _ x2 ⟨km, rfl, hc2, hm2⟩
  have f2 := hc2.cell g0 hnf
  have ff2 := (hc2.frozen (p := ⟨fb, 0, none⟩) hfl hnf).trans E1.out.ff
  have l2 := hc2.cell g3 (fun h => HLB.out (.inl h))
  have s1 : Chg (fun y => y = fb) x2 (x2.setCell ⟨fb, 0, none⟩ (.iface 147 (.pointer (some ⟨km, 0, none⟩)))) := (Chg.refl _ x2).set (C := fun y => y = fb) (p := ⟨fb, 0, none⟩) (fun _ => rfl) _
  have l3 := s1.cell l2 (fun h => HLB.out (.inr h))
  have HS : Hid (SeJ (some ⟨mb, 0, none⟩) t h fb W (x2.setCell ⟨fb, 0, none⟩ (.iface 147 (.pointer (some ⟨km, 0, none⟩))))) := ⟨(E1.out.chg.trans hc2 (fun y _ h => .inl h)).trans s1 (fun y _ h => .inr h), hm2.chg s1 (fun g hg e => hnf (by rw [← show g = fb from e]; exact hg)), km, World.cell?_setCell_same _ _ _ f2⟩
  clear hc2 hm2 s1 E1 HO g0 g1 g2 g3 c0
  dsimp only
  go_wp2
  go_ret
  exact ⟨_, rfl, HS.out⟩
set_option maxHeartbeats 4000000 in
theorem sea1_one (Y : Nat → Prop) (mp : Option Addr) (q mx nx X T : Nat) (u : Bool) (L : List EP) (hh n : Nat) (c t h s : Int) (fb xb kb lb : Nat) (ka : Option Addr) (kn kc : Nat) (m : List VT) (least : Int) (w W : World) (i : IxW Y mp q mx nx X T u L hh n c t h s w) (hW : Up w W) (hfb : w.heap.size ≤ fb) (hc0 : 0 ≤ c) (hc1 : c ≤ 900000) (kk : KeyC (InM mp) w ka kn kc m)
    (b1 : W.cell? ⟨xb, 0, none⟩ = some (.pointer (some ⟨X, 0, none⟩))) (b2 : W.cell? ⟨kb, 0, none⟩ = some (.slice ka kn kc)) (b3 : W.cell? ⟨lb, 0, none⟩ = some (.int .i64 least)) (hxb : ¬ (InM mp xb ∨ xb = fb)) (hkb : ¬ (InM mp kb ∨ kb = fb)) (hlb : ¬ (InM mp lb ∨ lb = fb)) :
    ∀ (k j : Nat) (x : World), k < 100 → j < (L.map (·.1)).length → (t = 0 ∨ ¬ c + k + 1 = t) → SeI mp c t h s fb W k x → Calls Tryz.prog 65 (#[encE ((L.map (·.1)).getD j zeroET)] ++ #[.pointer (some ⟨fb, 0, none⟩), .pointer (some ⟨xb, 0, none⟩), .pointer (some ⟨kb, 0, none⟩), .pointer (some ⟨lb, 0, none⟩)]) x fun e w' => e = .returned (.bool (decide (least ≤ cxV q (L.getD j (zeroET, [])).2 m))) ∧ SeI mp c t h s fb W (k + 1) w' := by
  intro k j x hk hj ht e
  have hjL : j < L.length := by simpa using hj
  obtain ⟨hcx, ix⟩ := SeI.ix i hW hfb e
  have hmem : L[j] ∈ L := List.getElem_mem hjL
  have ek : (L.map (·.1)).getD j zeroET = L[j].1 := by rw [List.getD_eq_getElem?_getD, List.getElem?_map, List.getElem?_eq_getElem hjL]; rfl
  have em : (L.getD j (zeroET, [])).2 = L[j].2 := by rw [List.getD_eq_getElem?_getD, List.getElem?_eq_getElem hjL]; rfl
  rw [ek]
  show Calls _ _ _ _ (fun e w' => e = .returned (.bool (decide (least ≤ cxV q (L.getD j (zeroET, [])).2 m))) ∧ _)
  rw [em]
  have kj := ix.ke _ hmem
  obtain ⟨v, hv⟩ : ∃ v, v = L[j].1 := ⟨_, rfl⟩
  obtain ⟨vs, hvs⟩ : ∃ vs, vs = L[j].2 := ⟨_, rfl⟩
  rw [← hv, ← hvs] at kj
  rw [← hv, ← hvs]
  clear hv hvs hmem ek em hj
  have kx := kk.chg hcx
  obtain ⟨x1', hx1⟩ : ∃ x1', x1' = x.alloc (.cells #[.slice v.a v.n v.c, .int .i64 v.id] 51) := ⟨_, rfl⟩
  have hu1 : Up x x1' := by rw [hx1]; exact (Up.refl _).alloc _
  have c0 : x1'.cell? ⟨x.heap.size, 0, none⟩ = some (.slice v.a v.n v.c) := by rw [hx1]; go_simp
  have g1 := hu1.cell (e.chg.cell b1 hxb)
  have g2 := hu1.cell (e.chg.cell b2 hkb)
  have g3 := hu1.cell (e.chg.cell b3 hlb)
  have g0 := hu1.cell e.f0
  have e1 := e.up hu1
  have hfl : fb < x1'.heap.size := World.block_lt_of_cell? _ _ g0
  have ho := order_ok X mp q mx nx (c + k) t h s v.a ka v.n v.c kn kc vs m x1' (hu1.cell ix.x1) (ix.cw.up hu1) i.q2 (by omega) (by omega) ht (kj.k.up hu1) (kx.k.up hu1)
  have HO := hide ho
  have E1 := hide e1
  have hnf : ¬ InM mp fb := fun h => by have := i.ylt _ h; omega
  obtain ⟨r, hr⟩ : ∃ r, r = cxV q vs m := ⟨_, rfl⟩
  rw [← hr] at HO ⊢
  have hd : ∀ b, b = decide (least ≤ r) → b = decide (r ≥ least) := fun b h => h
  have hx1' := hx1.symm
  unfold encE
  show Calls Tryz.prog _ #[.agg #[.slice v.a v.n v.c, .int .i64 v.id], .pointer (some ⟨fb, 0, none⟩), .pointer (some ⟨xb, 0, none⟩), .pointer (some ⟨kb, 0, none⟩), .pointer (some ⟨lb, 0, none⟩)] x _
  clear hr hx1 ho e1 e ix hcx kj kx i kk b1 b2 b3
  have HXB := hide hxb
  have HKB := hide hkb
  have HLB := hide hlb
  clear hxb hkb hlb hd
  go_enter Tryz.func65, Tryz.ntmps65
  go_wp2_with fail
  refine HO.out.mono ?_
  rintro _ x2 ⟨rfl, hc2, hm2⟩
  have f2 := hc2.cell g0 hnf
  have ff2 := (hc2.frozen (p := ⟨fb, 0, none⟩) hfl hnf).trans E1.out.ff
  have l2 := hc2.cell g3 (fun h => HLB.out (.inl h))
  have s1 : Chg (fun y => y = fb) x2 (x2.setCell ⟨fb, 0, none⟩ .nilIface) := (Chg.refl _ x2).set (C := fun y => y = fb) (p := ⟨fb, 0, none⟩) (fun _ => rfl) _
  have l3 := s1.cell l2 (fun h => HLB.out (.inr h))
  have HS : Hid (SeI mp c t h s fb W (k + 1) (x2.setCell ⟨fb, 0, none⟩ .nilIface)) := by
    refine ⟨(E1.out.chg.trans hc2 (fun y _ h => .inl h)).trans s1 (fun y _ h => .inr h), ?_, World.cell?_setCell_same _ _ _ f2, ?_⟩
    · have := hm2.chg s1 (fun g hg e => hnf (by rw [← show g = fb from e]; exact hg))
      rw [show c + ((k + 1 : Nat) : Int) = c + (k : Int) + 1 by omega]
      exact this
    · rw [World.frozen?_setCell]; exact ff2
  clear hc2 hm2 s1 E1 HO g0 g1 g2 g3 c0
  dsimp only
  go_wp2
  go_ret
  exact ⟨rfl, HS.out⟩
/-- What search tells where the comparator may strike. -/
def SeaHit (mp : Option Addr) (t h : Int) (w : World) (e : Ending) (w' : World) : Prop := ∃ (p k : Nat), e = .returned (.tuple #[.int .i64 p, markV k]) ∧ Chg (InM mp) w w' ∧ MetO w' mp t t h 1
set_option maxHeartbeats 4000000 in
theorem search2_ok (Y : Nat → Prop) (mb q mx nx X T : Nat) (u : Bool) (L : List EP) (hh n : Nat) (c t h : Int) (ka : Option Addr) (kn kc : Nat) (m : List VT) (least : Int) (p : Nat) (w : World) (i : IxW Y (some ⟨mb, 0, none⟩) q mx nx X T u L hh n c t h 0 w) (hL : L.length ≤ 100000) (hc0 : 0 ≤ c) (hc1 : c ≤ 900) (kk : KeyC (InM (some ⟨mb, 0, none⟩)) w ka kn kc m)
    (hp : p ≤ L.length) (hlo : ∀ j, j < p → cxV q (L.getD j (zeroET, [])).2 m < least) (hhi : ∀ j, p ≤ j → j < L.length → least ≤ cxV q (L.getD j (zeroET, [])).2 m) :
    Calls Tryz.prog 42 #[.pointer (some ⟨X, 0, none⟩), .slice ka kn kc, .int .i64 least] w fun e w' => SeaOk (some ⟨mb, 0, none⟩) c t h 0 L.length p w e w' ∨ SeaHit (some ⟨mb, 0, none⟩) t h w e w' := by
  obtain ⟨W1, hW1⟩ : ∃ W1, W1 = (((w.alloc (.cells #[.pointer (some ⟨X, 0, none⟩)] 27)).alloc (.cells #[.slice ka kn kc] 37)).alloc (.cells #[.int .i64 least] 3)).alloc (.cells #[.nilIface] 46) := ⟨_, rfl⟩
  have u1 : Up w W1 := by rw [hW1]; exact ((((Up.refl _).alloc _).alloc _).alloc _).alloc _
  have b1 : W1.cell? ⟨w.heap.size, 0, none⟩ = some (.pointer (some ⟨X, 0, none⟩)) := by rw [hW1]; go_simp
  have b2 : W1.cell? ⟨w.heap.size + 1, 0, none⟩ = some (.slice ka kn kc) := by rw [hW1]; go_simp
  have b3 : W1.cell? ⟨w.heap.size + 1 + 1, 0, none⟩ = some (.int .i64 least) := by rw [hW1]; go_simp
  have b0 : W1.cell? ⟨w.heap.size + 1 + 1 + 1, 0, none⟩ = some .nilIface := by rw [hW1]; go_simp
  have bf : W1.frozen? ⟨w.heap.size + 1 + 1 + 1, 0, none⟩ = false := by rw [hW1]; go_simp
  have hW1s : W1.heap.size = w.heap.size + 1 + 1 + 1 + 1 := by rw [hW1]; simp
  have x2 := u1.cell i.x2
  obtain ⟨W2, hW2⟩ : ∃ W2, W2 = (W1.alloc (.cells #[.pointer (some ⟨T, 0, none⟩)] 84)).alloc (.cells #[.func (.func 65) #[] #[.pointer (some ⟨w.heap.size + 1 + 1 + 1, 0, none⟩), .pointer (some ⟨w.heap.size, 0, none⟩), .pointer (some ⟨w.heap.size + 1, 0, none⟩), .pointer (some ⟨w.heap.size + 1 + 1, 0, none⟩)]] 111) := ⟨_, rfl⟩
  have u2 : Up W1 W2 := by rw [hW2]; exact ((Up.refl _).alloc _).alloc _
  have d0 : W2.cell? ⟨W1.heap.size, 0, none⟩ = some (.pointer (some ⟨T, 0, none⟩)) := by rw [hW2]; go_simp
  have d1 : W2.cell? ⟨W1.heap.size + 1, 0, none⟩ = some (.func (.func 65) #[] #[.pointer (some ⟨w.heap.size + 1 + 1 + 1, 0, none⟩), .pointer (some ⟨w.heap.size, 0, none⟩), .pointer (some ⟨w.heap.size + 1, 0, none⟩), .pointer (some ⟨w.heap.size + 1 + 1, 0, none⟩)]) := by rw [hW2]; go_simp
  have far : ∀ z, w.heap.size ≤ z → z ≠ w.heap.size + 1 + 1 + 1 → ¬ (InM (some ⟨mb, 0, none⟩) z ∨ z = w.heap.size + 1 + 1 + 1) := fun z hz hn h => h.elim (fun h => by have := i.ylt _ h; omega) hn
  have hAsk : AskV2 65 #[.pointer (some ⟨w.heap.size + 1 + 1 + 1, 0, none⟩), .pointer (some ⟨w.heap.size, 0, none⟩), .pointer (some ⟨w.heap.size + 1, 0, none⟩), .pointer (some ⟨w.heap.size + 1 + 1, 0, none⟩)] (L.map (·.1)) (fun j => decide (least ≤ cxV q (L.getD j (zeroET, [])).2 m)) (SeI (some ⟨mb, 0, none⟩) c t h 0 (w.heap.size + 1 + 1 + 1) W2) (SeJ (some ⟨mb, 0, none⟩) t h (w.heap.size + 1 + 1 + 1) W2) := by
    refine ⟨fun k j x hk hj e => ?_, fun j x hj e => sea1_struck _ t h _ _ _ _ W2 x _ e⟩
    by_cases hct : c + k + 1 = t
    · refine (sea1_hit Y mb q mx nx X T u L hh n c t h _ _ _ _ ka kn kc m least w W2 i (u1.trans u2) (by omega) hc0 (by omega) kk (u2.cell b1) (u2.cell b2) (u2.cell b3) (far _ (Nat.le_refl _) (by omega)) (far _ (by omega) (by omega)) (far _ (by omega) (by omega)) k j x hk hj hct (by omega) e).mono ?_
      rintro e' w' ⟨b, rfl, h2⟩
      exact ⟨b, rfl, .inr h2⟩
    · refine (sea1_one Y _ q mx nx X T u L hh n c t h 0 _ _ _ _ ka kn kc m least w W2 i (u1.trans u2) (by omega) hc0 (by omega) kk (u2.cell b1) (u2.cell b2) (u2.cell b3) (far _ (Nat.le_refl _) (by omega)) (far _ (by omega) (by omega)) (far _ (by omega) (by omega)) k j x hk hj (.inr hct) e).mono ?_
      rintro e' w' ⟨rfl, h2⟩
      exact ⟨_, rfl, .inl ⟨rfl, h2⟩⟩
  have hsea := tsearch2_calls T hh n p 65 #[.pointer (some ⟨w.heap.size + 1 + 1 + 1, 0, none⟩), .pointer (some ⟨w.heap.size, 0, none⟩), .pointer (some ⟨w.heap.size + 1, 0, none⟩), .pointer (some ⟨w.heap.size + 1 + 1, 0, none⟩)] (L.map (·.1)) (fun j => decide (least ≤ cxV q (L.getD j (zeroET, [])).2 m)) (SeI (some ⟨mb, 0, none⟩) c t h 0 (w.heap.size + 1 + 1 + 1) W2) (SeJ (some ⟨mb, 0, none⟩) t h (w.heap.size + 1 + 1 + 1) W2) W1 W2 hW2 (by simpa using hL) (enters_of Tryz.func65 (by kernel_rfl) rfl) hAsk
    (fun k w w' e hu => e.up hu) (fun w w' e hu => e.up hu)
    (fun w' e => by
      rcases e with ⟨k, e⟩ | e
      · exact ⟨(SeI.ix i (u1.trans u2) (by omega) e).2.tr.tr, e.chg.cell d0 (far W1.heap.size (by omega) (by omega)), e.chg.cell d1 (far (W1.heap.size + 1) (by omega) (by omega))⟩
      · exact ⟨(SeJ.ix i (u1.trans u2) (by omega) e).2.tr.tr, e.chg.cell d0 (far W1.heap.size (by omega) (by omega)), e.chg.cell d1 (far (W1.heap.size + 1) (by omega) (by omega))⟩)
    ⟨Chg.refl _ _, by simpa using i.cw.met.up (u1.trans u2), u2.cell b0, (u2.frozen (p := ⟨w.heap.size + 1 + 1 + 1, 0, none⟩) (show w.heap.size + 1 + 1 + 1 < W1.heap.size by omega)).trans bf⟩ (by simpa using hp) (fun j hj => decide_eq_false (by have := hlo j hj; omega)) (fun j hj hl => decide_eq_true (hhi j hj (by simpa using hl)))
  have HSEA := hide hsea
  have HI := hide i
  have U12 := hide (u1.trans u2)
  have hW1' := hW1.symm
  clear hsea hAsk i u1 u2 hW1 hW2 d0 d1 far kk hlo hhi b2 b3 bf b0
  go_enter Tryz.func42, Tryz.ntmps42
  go_wp2_with fail
  clear hW1'
  refine HSEA.out.mono ?_
  rintro _ w3 (⟨k, rfl, e3, hk⟩ | ⟨p3, rfl, e3⟩)
  · have f3 := e3.f0
    have hfin := SeI.ix HI.out U12.out (by omega) e3
    have HF := hide (show Chg (InM (some ⟨mb, 0, none⟩)) w w3 ∧ MetO w3 (some ⟨mb, 0, none⟩) (c + k) t h 0 from ⟨hfin.1, e3.met⟩)
    have HK : Hid (k ≤ bitsN L.length) := by unfold Hid; simpa using hk
    clear e3 hfin hk HSEA
    dsimp only
    go_wp2_with fail
    go_quiet (fail)
    have HG : Hid (Chg (InM (some ⟨mb, 0, none⟩)) w (w3.drewN nq) ∧ MetO (w3.drewN nq) (some ⟨mb, 0, none⟩) (c + k) t h 0) := ⟨HF.out.1.andUp ((Up.refl w3).drewN nq), HF.out.2.up ((Up.refl w3).drewN nq)⟩
    go_wp2
    go_ret2
    exact .inl ⟨k, HK.out, rfl, HG.out⟩
  · obtain ⟨km, f3⟩ := e3.f0
    have hfin := SeJ.ix HI.out U12.out (by omega) e3
    have HF := hide (show Chg (InM (some ⟨mb, 0, none⟩)) w w3 ∧ MetO w3 (some ⟨mb, 0, none⟩) t t h 1 from ⟨hfin.1, e3.met⟩)
    unfold markV at f3
    clear e3 hfin HSEA
    dsimp only
    go_wp2_with fail
    go_quiet (fail)
    have HG : Hid (Chg (InM (some ⟨mb, 0, none⟩)) w (w3.drewN nq) ∧ MetO (w3.drewN nq) (some ⟨mb, 0, none⟩) t t h 1) := ⟨HF.out.1.andUp ((Up.refl w3).drewN nq), HF.out.2.up ((Up.refl w3).drewN nq)⟩
    go_wp2
    go_ret2
    exact .inr ⟨p3, km, rfl, HG.out⟩
/-- Find, where the comparator strikes. -/
def FindHit (mp : Option Addr) (t h : Int) (w : World) (e : Ending) (w' : World) : Prop := ∃ k : Nat, e = .returned (.tuple #[.int .i64 0, .int .i64 0, markV k]) ∧ Chg (InM mp) w w' ∧ MetO w' mp t t h 1
set_option maxHeartbeats 4000000 in
theorem ofind2_ok (Y : Nat → Prop) (mb q mx nx X T : Nat) (u : Bool) (L : List EP) (hh n : Nat) (c t h : Int) (ka : Option Addr) (kn kc : Nat) (m : List VT) (p p' : Nat) (w : World) (i : IxW Y (some ⟨mb, 0, none⟩) q mx nx X T u L hh n c t h 0 w) (hL : L.length ≤ 100000) (hc0 : 0 ≤ c) (hc1 : c ≤ 800) (kk : KeyC (InM (some ⟨mb, 0, none⟩)) w ka kn kc m) (hs : Spot q L m p p') :
    Calls Tryz.prog 18 #[.pointer (some ⟨X, 0, none⟩), .slice ka kn kc] w fun e w' => FindOk (some ⟨mb, 0, none⟩) c t h 0 L.length p p' w e w' ∨ FindHit (some ⟨mb, 0, none⟩) t h w e w' := by
  have hb : bitsN L.length ≤ 100 := bitsN_le (by omega)
  have h1 := search2_ok Y mb q mx nx X T u L hh n c t h ka kn kc m 0 p w i hL hc0 (by omega) kk (Nat.le_trans hs.le hs.top) hs.lo (fun j hj hl => by
    rcases Nat.lt_or_ge j p' with hlt | hge
    · rw [hs.mid j hj hlt]; exact Int.le_refl _
    · exact Int.le_of_lt (hs.hi j hge hl))
  have h2 : ∀ (k : Nat) (w1 : World), k ≤ bitsN L.length → Chg (InM (some ⟨mb, 0, none⟩)) w w1 → MetO w1 (some ⟨mb, 0, none⟩) (c + k) t h 0 → Calls Tryz.prog 42 #[.pointer (some ⟨X, 0, none⟩), .slice ka kn kc, .int .i64 1] w1 fun e w' => SeaOk (some ⟨mb, 0, none⟩) (c + k) t h 0 L.length p' w1 e w' ∨ SeaHit (some ⟨mb, 0, none⟩) t h w1 e w' := fun k w1 hk hc hm =>
    search2_ok Y mb q mx nx X T u L hh n (c + k) t h ka kn kc m 1 p' w1 (i.met hc hm) hL (by omega) (by omega) (kk.chg hc) hs.top (fun j hj => by
      rcases Nat.lt_or_ge j p with hlt | hge
      · have := hs.lo j hlt; omega
      · rw [hs.mid j hge hj]; decide) (fun j hj hl => by have := hs.hi j hj hl; omega)
  have H1 := hide h1
  have H2 := hide h2
  clear h1 h2 i kk hs
  go_enter Tryz.func18, Tryz.ntmps18
  go_wp2_with fail
  refine H1.out.mono ?_
  rintro _ w1 (⟨k1, hk1, rfl, hc1', hm1⟩ | ⟨p1, km, rfl, hc1', hm1⟩)
  · have HC1 := hide hc1'
    have HM1 := hide hm1
    have HK1 := hide hk1
    clear hc1' hm1 hk1 H1
    dsimp only
    go_wp2_with fail
    refine (H2.out k1 w1 HK1.out HC1.out HM1.out).mono ?_
    rintro _ w2 (⟨k2, hk2, rfl, hc2, hm2⟩ | ⟨p2, km, rfl, hc2, hm2⟩)
    · have HC2 := hide hc2
      have HM2 := hide hm2
      have HK2 := hide hk2
      clear hc2 hm2 hk2 H2
      dsimp only
      go_wp2
      refine bodyPost_ret (v := .tuple #[.int .i64 p, .int .i64 p', .nilIface]) (by simp [results, Tryz.results18, go_sem]) rfl (.inl ⟨k1 + k2, by have := HK1.out; have := HK2.out; omega, rfl, HC1.out.trans HC2.out (fun _ _ h => h), ?_⟩)
      have := HM2.out
      rw [show c + ((k1 + k2 : Nat) : Int) = c + (k1 : Int) + (k2 : Int) by omega]
      exact this
    · have HF := hide (show Chg (InM (some ⟨mb, 0, none⟩)) w w2 ∧ MetO w2 (some ⟨mb, 0, none⟩) t t h 1 from ⟨HC1.out.trans hc2 (fun _ _ h => h), hm2⟩)
      unfold markV
      clear hc2 hm2 H2
      dsimp only
      go_wp2
      exact bodyPost_ret (v := .tuple #[.int .i64 0, .int .i64 0, .iface 147 (.pointer (some ⟨km, 0, none⟩))]) (by simp [results, Tryz.results18, go_sem]) rfl (.inr ⟨km, rfl, HF.out⟩)
  · have HF := hide (show Chg (InM (some ⟨mb, 0, none⟩)) w w1 ∧ MetO w1 (some ⟨mb, 0, none⟩) t t h 1 from ⟨hc1', hm1⟩)
    unfold markV
    clear hc1' hm1 H1 H2
    dsimp only
    go_wp2
    exact bodyPost_ret (v := .tuple #[.int .i64 0, .int .i64 0, .iface 147 (.pointer (some ⟨km, 0, none⟩))]) (by simp [results, Tryz.results18, go_sem]) rfl (.inr ⟨km, rfl, HF.out⟩)
end Go.Proofs.YtnokokhbcfkifaaGreatDoor
