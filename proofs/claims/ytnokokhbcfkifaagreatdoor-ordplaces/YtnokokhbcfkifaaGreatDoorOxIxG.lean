/-
  An ordered index in memory: its cells, its comparator, its tree, its keys; no function of the program.
  ordidx's search and Find, where the comparator doesn't strike, as their texts run.
  ordidx's idAt and spotOf, where the comparator doesn't strike, as their texts run.
-/
import Derived.Test.YtnokokhbcfkifaaGreatDoorOxOrd
import Derived.Test.YtnokokhbcfkifaaGreatDoorTrAskEG
namespace Go.Proofs.YtnokokhbcfkifaaGreatDoor
open Go.ChangeShapes Go.WideShapes Go.ChangeAt Go.RowKit
set_option linter.unusedVariables false

/-- An entry as it lies there, and its key's values. -/
abbrev EP := ET × List VT
/-- A key that nobody writes into. -/
structure KeyC (C : Nat → Prop) (w : World) (a : Option Addr) (n c : Nat) (m : List VT) : Prop where
  k : KeyK w a n m
  far : ∀ g, RowB a g → ¬ C g
  lt : ∀ g, RowB a g → g < w.heap.size
  cap : n ≤ c
  top : c ≤ maxLen
theorem KeyC.chg {C : Nat → Prop} {w w' : World} {a : Option Addr} {n c : Nat} {m : List VT} (h : KeyC C w a n c m) (hc : Chg C w w') : KeyC C w' a n c m := ⟨⟨h.k.few, h.k.vals.chg hc h.far, h.k.sh⟩, h.far, fun g hg => Nat.lt_of_lt_of_le (h.lt g hg) hc.size, h.cap, h.top⟩
theorem KeyC.up {C : Nat → Prop} {w w' : World} {a : Option Addr} {n c : Nat} {m : List VT} (h : KeyC C w a n c m) (hu : Up w w') : KeyC C w' a n c m := ⟨h.k.up hu, h.far, fun g hg => Nat.lt_of_lt_of_le (h.lt g hg) hu.size, h.cap, h.top⟩
/-- An ordered index: X its block, T its tree's; Y: blocks that others write into, the meter's among them. -/
structure IxW (Y : Nat → Prop) (mp : Option Addr) (q mx nx X T : Nat) (u : Bool) (L : List EP) (hh n : Nat) (c t h s : Int) (w : World) : Prop where
  x0 : w.cell? ⟨X, 0, none⟩ = some (.bool u)
  x1 : w.cell? ⟨X, 1, none⟩ = some (cpF mx nx)
  x2 : w.cell? ⟨X, 2, none⟩ = some (.pointer (some ⟨T, 0, none⟩))
  cw : CpW mp q mx nx c t h s w
  tr : TrM Y w T (L.map (·.1)) hh n
  ke : ∀ p ∈ L, KeyC (XT T Y) w p.1.a p.1.n p.1.c p.2
  aX : ¬ XT T Y X
  aT : ¬ Y T
  am : mx ≠ T
  an : nx ≠ T
  ae : 0 ≠ T
  q2 : q ≤ 2
  yM : ∀ g, InM mp g → Y g
  yl : ∀ g, Y g → g < w.heap.size
variable {Y : Nat → Prop} {mp : Option Addr} {q mx nx X T : Nat} {u : Bool} {L L' : List EP} {hh n hh' n' : Nat} {c t h s c' t' h' s' : Int} {w w' : World}
theorem IxW.up (i : IxW Y mp q mx nx X T u L hh n c t h s w) (hu : Up w w') : IxW Y mp q mx nx X T u L hh n c t h s w' :=
  ⟨hu.cell i.x0, hu.cell i.x1, hu.cell i.x2, i.cw.up hu, i.tr.up hu, fun p hp => (i.ke p hp).up hu, i.aX, i.aT, i.am, i.an, i.ae, i.q2, i.yM, fun g hg => Nat.lt_of_lt_of_le (i.yl g hg) hu.size⟩
/-- The meter was told something. -/
theorem IxW.met (i : IxW Y mp q mx nx X T u L hh n c t h s w) (hc : Chg (InM mp) w w') (hm : MetO w' mp c' t' h' s') : IxW Y mp q mx nx X T u L hh n c' t' h' s' w' :=
  ⟨hc.cell i.x0 (fun e => i.aX (.inr (i.yM _ e))), hc.cell i.x1 (fun e => i.aX (.inr (i.yM _ e))), hc.cell i.x2 (fun e => i.aX (.inr (i.yM _ e))), i.cw.met' hc hm, i.tr.chg (hc.mono (fun y _ e => i.yM y e)) i.aT, fun p hp => (i.ke p hp).chg (hc.mono (fun y _ e => .inr (i.yM y e))), i.aX, i.aT, i.am, i.an, i.ae, i.q2, i.yM, fun g hg => Nat.lt_of_lt_of_le (i.yl g hg) hc.size⟩
theorem IxW.ylt (i : IxW Y mp q mx nx X T u L hh n c t h s w) : ∀ y, InM mp y → y < w.heap.size := fun y hy => i.cw.met.lt hy
/-- The tree was changed. -/
theorem IxW.tree (i : IxW Y mp q mx nx X T u L hh n c t h s w) (hc : Chg (fun y => y = T) w w') (ht : TrM Y w' T (L'.map (·.1)) hh' n') (hk : ∀ p ∈ L', KeyC (XT T Y) w p.1.a p.1.n p.1.c p.2) : IxW Y mp q mx nx X T u L' hh' n' c t h s w' :=
  ⟨hc.cell i.x0 (fun e => i.aX (.inl e)), hc.cell i.x1 (fun e => i.aX (.inl e)), hc.cell i.x2 (fun e => i.aX (.inl e)), i.cw.chg hc (fun g hg e => i.aT (by rw [← show g = T from e]; exact i.yM g hg)) (fun e => i.am e) (fun e => i.an e) (fun e => i.ae e), ht, fun p hp => (hk p hp).chg (hc.mono (fun y _ e => .inl e)), i.aX, i.aT, i.am, i.an, i.ae, i.q2, i.yM, fun g hg => Nat.lt_of_lt_of_le (i.yl g hg) hc.size⟩
/-- Something of Y was written into that isn't the comparator's. -/
theorem IxW.other {C : Nat → Prop} (i : IxW Y mp q mx nx X T u L hh n c t h s w) (hc : Chg C w w') (hC : ∀ y, C y → Y y) (hm : ∀ g, InM mp g → ¬ C g) (h1 : ¬ C mx) (h2 : ¬ C nx) (h3 : ¬ C 0) : IxW Y mp q mx nx X T u L hh n c t h s w' :=
  ⟨hc.cell i.x0 (fun e => i.aX (.inr (hC _ e))), hc.cell i.x1 (fun e => i.aX (.inr (hC _ e))), hc.cell i.x2 (fun e => i.aX (.inr (hC _ e))), i.cw.chg hc hm h1 h2 h3, i.tr.chg (hc.mono (fun y _ e => hC y e)) i.aT, fun p hp => (i.ke p hp).chg (hc.mono (fun y _ e => .inr (hC y e))), i.aX, i.aT, i.am, i.an, i.ae, i.q2, i.yM, fun g hg => Nat.lt_of_lt_of_le (i.yl g hg) hc.size⟩
/-- New blocks that others write into. -/
theorem IxW.wide (i : IxW Y mp q mx nx X T u L hh n c t h s w) (hu : Up w w') {Z : Nat → Prop} (hZ : ∀ y, Z y → w.heap.size ≤ y ∧ y < w'.heap.size) : IxW (fun y => Y y ∨ Z y) mp q mx nx X T u L hh n c t h s w' := by
  have hXl : X < w.heap.size := World.block_lt_of_cell? w _ i.x0
  have hTl : T < w.heap.size := i.tr.tr.lt
  obtain ⟨b, h1, sz, h2, h3⟩ := i.tr
  have j := i.up hu
  refine ⟨j.x0, j.x1, j.x2, j.cw, ⟨b, h1.up hu, sz, (h2.mono (fun y hy e => ?_)).chg (Chg.of_up hu), h3⟩, fun p hp => ⟨(j.ke p hp).k, fun g hg e => ?_, (j.ke p hp).lt, (j.ke p hp).cap, (j.ke p hp).top⟩, fun e => ?_, fun e => ?_, i.am, i.an, i.ae, i.q2, fun g hg => .inl (i.yM g hg), fun g hg => ?_⟩
  · rcases e with e | e | e
    · exact .inl e
    · exact .inr e
    · have := hZ y e; omega
  · rcases e with e | e | e
    · exact (i.ke p hp).far g hg (.inl e)
    · exact (i.ke p hp).far g hg (.inr e)
    · have := hZ g e; have := (i.ke p hp).lt g hg; omega
  · rcases e with e | e | e
    · exact i.aX (.inl e)
    · exact i.aX (.inr e)
    · have := hZ X e; omega
  · rcases e with e | e
    · exact i.aT e
    · have := hZ T e; omega
  · rcases hg with hg | hg
    · exact j.yl g hg
    · exact (hZ g hg).2
theorem IxW.wide0 (i : IxW Y mp q mx nx X T u [] hh n c t h s w) (hu : Up w w') {Z : Nat → Prop} (hZ : ∀ y, Z y → w.heap.size ≤ y ∧ y < w'.heap.size) : IxW (fun y => Y y ∨ Z y) mp q mx nx X T u [] hh n c t h s w' := i.wide hu hZ
/-- Fewer blocks that others write into. -/
theorem IxW.narrow {Y' : Nat → Prop} (i : IxW Y mp q mx nx X T u L hh n c t h s w) (hY : ∀ y, Y' y → Y y) (hM : ∀ g, InM mp g → Y' g) : IxW Y' mp q mx nx X T u L hh n c t h s w := by
  obtain ⟨b, h1, sz, h2, h3⟩ := i.tr
  exact ⟨i.x0, i.x1, i.x2, i.cw, ⟨b, h1, sz, h2.mono (fun y _ e => e.imp id (hY y)), h3⟩, fun p hp => ⟨(i.ke p hp).k, fun g hg e => (i.ke p hp).far g hg (e.imp id (hY g)), (i.ke p hp).lt, (i.ke p hp).cap, (i.ke p hp).top⟩, fun e => i.aX (e.imp id (hY X)), fun e => i.aT (hY T e), i.am, i.an, i.ae, i.q2, hM, fun g hg => i.yl g (hY g hg)⟩
end Go.Proofs.YtnokokhbcfkifaaGreatDoor

namespace Go.Proofs.YtnokokhbcfkifaaGreatDoor
open Go.ChangeShapes Go.WideShapes Go.ChangeAt Go.RowKit
set_option linter.unusedVariables false
set_option maxRecDepth 100000
attribute [local go_sem ↓] Go.wp_at_zero Go.wp_at_succ

/-- What holds while search asks: W is the world in which it began. -/
structure SeI (mp : Option Addr) (c t h s : Int) (fb : Nat) (W : World) (k : Nat) (w' : World) : Prop where
  chg : Chg (fun y => InM mp y ∨ y = fb) W w'
  met : MetO w' mp (c + k) t h s
  f0 : w'.cell? ⟨fb, 0, none⟩ = some .nilIface
  ff : w'.frozen? ⟨fb, 0, none⟩ = false
theorem SeI.up {mp : Option Addr} {c t h s : Int} {fb : Nat} {W : World} {k : Nat} {w w' : World} (i : SeI mp c t h s fb W k w) (hu : Up w w') : SeI mp c t h s fb W k w' :=
  ⟨i.chg.andUp hu, i.met.up hu, hu.cell i.f0, (hu.frozen (p := ⟨fb, 0, none⟩) (World.block_lt_of_cell? _ _ i.f0)).trans i.ff⟩
/-- The index in such a world. -/
theorem SeI.ix {Y : Nat → Prop} {mp : Option Addr} {q mx nx X T : Nat} {u : Bool} {L : List EP} {hh n : Nat} {c t h s : Int} {fb : Nat} {w W w' : World} {k : Nat} (i : IxW Y mp q mx nx X T u L hh n c t h s w) (hW : Up w W) (hf : w.heap.size ≤ fb) (e : SeI mp c t h s fb W k w') : Chg (InM mp) w w' ∧ IxW Y mp q mx nx X T u L hh n (c + k) t h s w' := by
  have hc : Chg (InM mp) w w' := (Chg.of_up hW).trans e.chg (fun y hy h => h.resolve_right (by omega))
  exact ⟨hc, i.met hc e.met⟩
set_option maxHeartbeats 4000000 in
theorem sea1_calls (Y : Nat → Prop) (mp : Option Addr) (q mx nx X T : Nat) (u : Bool) (L : List EP) (hh n : Nat) (c t h s : Int) (fb xb kb lb : Nat) (ka : Option Addr) (kn kc : Nat) (m : List VT) (least : Int) (w W : World) (i : IxW Y mp q mx nx X T u L hh n c t h s w) (hW : Up w W) (hfb : w.heap.size ≤ fb) (hc0 : 0 ≤ c) (hc1 : c ≤ 900000) (ht : t = 0 ∨ t ≤ c) (kk : KeyC (InM mp) w ka kn kc m)
    (b1 : W.cell? ⟨xb, 0, none⟩ = some (.pointer (some ⟨X, 0, none⟩))) (b2 : W.cell? ⟨kb, 0, none⟩ = some (.slice ka kn kc)) (b3 : W.cell? ⟨lb, 0, none⟩ = some (.int .i64 least)) (hxb : ¬ (InM mp xb ∨ xb = fb)) (hkb : ¬ (InM mp kb ∨ kb = fb)) (hlb : ¬ (InM mp lb ∨ lb = fb)) :
    AskV 65 #[.pointer (some ⟨fb, 0, none⟩), .pointer (some ⟨xb, 0, none⟩), .pointer (some ⟨kb, 0, none⟩), .pointer (some ⟨lb, 0, none⟩)] (L.map (·.1)) (fun j => decide (least ≤ cxV q (L.getD j (zeroET, [])).2 m)) (SeI mp c t h s fb W) := by
  intro k j x hk hj e
  have hjL : j < L.length := by simpa using hj
  obtain ⟨hcx, ix⟩ := SeI.ix i hW hfb e
  have hmem : L[j] ∈ L := List.getElem_mem hjL
  have ek : (L.map (·.1)).getD j zeroET = L[j].1 := by rw [List.getD_eq_getElem?_getD, List.getElem?_map, List.getElem?_eq_getElem hjL]; rfl
  have em : (L.getD j (zeroET, [])).2 = L[j].2 := by rw [List.getD_eq_getElem?_getD, List.getElem?_eq_getElem hjL]; rfl
  rw [ek]
  show Calls _ _ _ _ (fun e w' => e = .returned (.bool (decide (least ≤ cxV q (L.getD j (zeroET, [])).2 m))) ∧ _)
  rw [em]
  have kj := ix.ke _ hmem
  obtain ⟨v, hv⟩ : ∃ v, v = L[j].1 := ⟨_, rfl⟩
  obtain ⟨vs, hvs⟩ : ∃ vs, vs = L[j].2 := ⟨_, rfl⟩
  rw [← hv, ← hvs] at kj
  rw [← hv, ← hvs]
  clear hv hvs hmem ek em hj
  have kx := kk.chg hcx
  obtain ⟨x1', hx1⟩ : ∃ x1', x1' = x.alloc (.cells #[.slice v.a v.n v.c, .int .i64 v.id] 51) := ⟨_, rfl⟩
  have hu1 : Up x x1' := by rw [hx1]; exact (Up.refl _).alloc _
  have c0 : x1'.cell? ⟨x.heap.size, 0, none⟩ = some (.slice v.a v.n v.c) := by rw [hx1]; go_simp
  have g1 := hu1.cell (e.chg.cell b1 hxb)
  have g2 := hu1.cell (e.chg.cell b2 hkb)
  have g3 := hu1.cell (e.chg.cell b3 hlb)
  have g0 := hu1.cell e.f0
  have e1 := e.up hu1
  have hfl : fb < x1'.heap.size := World.block_lt_of_cell? _ _ g0
  have ho := order_ok X mp q mx nx (c + k) t h s v.a ka v.n v.c kn kc vs m x1' (hu1.cell ix.x1) (ix.cw.up hu1) i.q2 (by omega) (by omega) (by omega) (kj.k.up hu1) (kx.k.up hu1)
  have HO := hide ho
  have E1 := hide e1
  have hnf : ¬ InM mp fb := fun h => by have := i.ylt _ h; omega
  obtain ⟨r, hr⟩ : ∃ r, r = cxV q vs m := ⟨_, rfl⟩
  rw [← hr] at HO ⊢
  have hd : ∀ b, b = decide (least ≤ r) → b = decide (r ≥ least) := fun b h => h
  have hx1' := hx1.symm
  unfold encE
  show Calls Tryz.prog _ #[.agg #[.slice v.a v.n v.c, .int .i64 v.id], .pointer (some ⟨fb, 0, none⟩), .pointer (some ⟨xb, 0, none⟩), .pointer (some ⟨kb, 0, none⟩), .pointer (some ⟨lb, 0, none⟩)] x _
  clear hr hx1 ho e1 e ix hcx kj kx i kk b1 b2 b3
  have HXB := hide hxb
  have HKB := hide hkb
  have HLB := hide hlb
  clear hxb hkb hlb hd
  go_enter Tryz.func65, Tryz.ntmps65
  go_wp2_with fail
  refine HO.out.mono ?_
  rintro _ x2 ⟨rfl, hc2, hm2⟩
  have f2 := hc2.cell g0 hnf
  have ff2 := (hc2.frozen (p := ⟨fb, 0, none⟩) hfl hnf).trans E1.out.ff
  have l2 := hc2.cell g3 (fun h => HLB.out (.inl h))
  have s1 : Chg (fun y => y = fb) x2 (x2.setCell ⟨fb, 0, none⟩ .nilIface) := (Chg.refl _ x2).set (C := fun y => y = fb) (p := ⟨fb, 0, none⟩) (fun _ => rfl) _
  have l3 := s1.cell l2 (fun h => HLB.out (.inr h))
  have HS : Hid (SeI mp c t h s fb W (k + 1) (x2.setCell ⟨fb, 0, none⟩ .nilIface)) := by
    refine ⟨(E1.out.chg.trans hc2 (fun y _ h => .inl h)).trans s1 (fun y _ h => .inr h), ?_, World.cell?_setCell_same _ _ _ f2, ?_⟩
    · have := hm2.chg s1 (fun g hg e => hnf (by rw [← show g = fb from e]; exact hg))
      rw [show c + ((k + 1 : Nat) : Int) = c + (k : Int) + 1 by omega]
      exact this
    · rw [World.frozen?_setCell]; exact ff2
  clear hc2 hm2 s1 E1 HO g0 g1 g2 g3 c0
  dsimp only
  go_wp2
  go_ret
  exact ⟨rfl, HS.out⟩
/-- What search tells. -/
def SeaOk (mp : Option Addr) (c t h s : Int) (n p : Nat) (w : World) (e : Ending) (w' : World) : Prop := ∃ k : Nat, k ≤ bitsN n ∧ e = .returned (.tuple #[.int .i64 p, .nilIface]) ∧ Chg (InM mp) w w' ∧ MetO w' mp (c + k) t h s
set_option maxHeartbeats 4000000 in
theorem search_ok (Y : Nat → Prop) (mp : Option Addr) (q mx nx X T : Nat) (u : Bool) (L : List EP) (hh n : Nat) (c t h s : Int) (ka : Option Addr) (kn kc : Nat) (m : List VT) (least : Int) (p : Nat) (w : World) (i : IxW Y mp q mx nx X T u L hh n c t h s w) (hL : L.length ≤ 100000) (hc0 : 0 ≤ c) (hc1 : c ≤ 900000) (ht : t = 0 ∨ t ≤ c) (kk : KeyC (InM mp) w ka kn kc m)
    (hp : p ≤ L.length) (hlo : ∀ j, j < p → cxV q (L.getD j (zeroET, [])).2 m < least) (hhi : ∀ j, p ≤ j → j < L.length → least ≤ cxV q (L.getD j (zeroET, [])).2 m) :
    Calls Tryz.prog 42 #[.pointer (some ⟨X, 0, none⟩), .slice ka kn kc, .int .i64 least] w fun e w' => SeaOk mp c t h s L.length p w e w' := by
  obtain ⟨W1, hW1⟩ : ∃ W1, W1 = (((w.alloc (.cells #[.pointer (some ⟨X, 0, none⟩)] 27)).alloc (.cells #[.slice ka kn kc] 37)).alloc (.cells #[.int .i64 least] 3)).alloc (.cells #[.nilIface] 46) := ⟨_, rfl⟩
  have u1 : Up w W1 := by rw [hW1]; exact ((((Up.refl _).alloc _).alloc _).alloc _).alloc _
  have b1 : W1.cell? ⟨w.heap.size, 0, none⟩ = some (.pointer (some ⟨X, 0, none⟩)) := by rw [hW1]; go_simp
  have b2 : W1.cell? ⟨w.heap.size + 1, 0, none⟩ = some (.slice ka kn kc) := by rw [hW1]; go_simp
  have b3 : W1.cell? ⟨w.heap.size + 1 + 1, 0, none⟩ = some (.int .i64 least) := by rw [hW1]; go_simp
  have b0 : W1.cell? ⟨w.heap.size + 1 + 1 + 1, 0, none⟩ = some .nilIface := by rw [hW1]; go_simp
  have bf : W1.frozen? ⟨w.heap.size + 1 + 1 + 1, 0, none⟩ = false := by rw [hW1]; go_simp
  have hW1s : W1.heap.size = w.heap.size + 1 + 1 + 1 + 1 := by rw [hW1]; simp
  have x2 := u1.cell i.x2
  obtain ⟨W2, hW2⟩ : ∃ W2, W2 = (W1.alloc (.cells #[.pointer (some ⟨T, 0, none⟩)] 84)).alloc (.cells #[.func (.func 65) #[] #[.pointer (some ⟨w.heap.size + 1 + 1 + 1, 0, none⟩), .pointer (some ⟨w.heap.size, 0, none⟩), .pointer (some ⟨w.heap.size + 1, 0, none⟩), .pointer (some ⟨w.heap.size + 1 + 1, 0, none⟩)]] 111) := ⟨_, rfl⟩
  have u2 : Up W1 W2 := by rw [hW2]; exact ((Up.refl _).alloc _).alloc _
  have d0 : W2.cell? ⟨W1.heap.size, 0, none⟩ = some (.pointer (some ⟨T, 0, none⟩)) := by rw [hW2]; go_simp
  have d1 : W2.cell? ⟨W1.heap.size + 1, 0, none⟩ = some (.func (.func 65) #[] #[.pointer (some ⟨w.heap.size + 1 + 1 + 1, 0, none⟩), .pointer (some ⟨w.heap.size, 0, none⟩), .pointer (some ⟨w.heap.size + 1, 0, none⟩), .pointer (some ⟨w.heap.size + 1 + 1, 0, none⟩)]) := by rw [hW2]; go_simp
  have far : ∀ z, w.heap.size ≤ z → z ≠ w.heap.size + 1 + 1 + 1 → ¬ (InM mp z ∨ z = w.heap.size + 1 + 1 + 1) := fun z hz hn h => h.elim (fun h => by have := i.ylt _ h; omega) hn
  have hsea := tsearch_calls T hh n p 65 #[.pointer (some ⟨w.heap.size + 1 + 1 + 1, 0, none⟩), .pointer (some ⟨w.heap.size, 0, none⟩), .pointer (some ⟨w.heap.size + 1, 0, none⟩), .pointer (some ⟨w.heap.size + 1 + 1, 0, none⟩)] (L.map (·.1)) (fun j => decide (least ≤ cxV q (L.getD j (zeroET, [])).2 m)) (SeI mp c t h s (w.heap.size + 1 + 1 + 1) W2) W1 W2 hW2 (by simpa using hL) (enters_of Tryz.func65 (by kernel_rfl) rfl)
    (sea1_calls Y mp q mx nx X T u L hh n c t h s _ _ _ _ ka kn kc m least w W2 i (u1.trans u2) (by omega) hc0 hc1 ht kk (u2.cell b1) (u2.cell b2) (u2.cell b3) (far _ (Nat.le_refl _) (by omega)) (far _ (by omega) (by omega)) (far _ (by omega) (by omega)))
    (fun k w w' e hu => e.up hu)
    (fun k w' e => ⟨(SeI.ix i (u1.trans u2) (by omega) e).2.tr.tr, e.chg.cell d0 (far W1.heap.size (by omega) (by omega)), e.chg.cell d1 (far (W1.heap.size + 1) (by omega) (by omega))⟩)
    ⟨Chg.refl _ _, by simpa using i.cw.met.up (u1.trans u2), u2.cell b0, (u2.frozen (p := ⟨w.heap.size + 1 + 1 + 1, 0, none⟩) (show w.heap.size + 1 + 1 + 1 < W1.heap.size by omega)).trans bf⟩ (by simpa using hp) (fun j hj => decide_eq_false (by have := hlo j hj; omega)) (fun j hj hl => decide_eq_true (hhi j hj (by simpa using hl)))
  have HSEA := hide hsea
  have HI := hide i
  have U12 := hide (u1.trans u2)
  have hW1' := hW1.symm
  clear hsea i u1 u2 hW1 hW2 d0 d1 far kk hlo hhi b2 b3 bf b0
  go_enter Tryz.func42, Tryz.ntmps42
  go_wp2_with fail
  clear hW1'
  refine HSEA.out.mono ?_
  rintro _ w3 ⟨k, rfl, e3, hk⟩
  have f3 := e3.f0
  have hfin := SeI.ix HI.out U12.out (by omega) e3
  have HF := hide (show Chg (InM mp) w w3 ∧ MetO w3 mp (c + k) t h s from ⟨hfin.1, e3.met⟩)
  have HK : Hid (k ≤ bitsN L.length) := by unfold Hid; simpa using hk
  clear e3 hfin hk HSEA
  dsimp only
  go_wp2_with fail
  go_quiet (fail)
  have HG : Hid (Chg (InM mp) w (w3.drewN nq) ∧ MetO (w3.drewN nq) mp (c + k) t h s) := ⟨HF.out.1.andUp ((Up.refl w3).drewN nq), HF.out.2.up ((Up.refl w3).drewN nq)⟩
  go_wp2
  go_ret2
  exact ⟨k, HK.out, rfl, HG.out⟩
/-- What Find tells. -/
def FindOk (mp : Option Addr) (c t h s : Int) (n p p' : Nat) (w : World) (e : Ending) (w' : World) : Prop := ∃ k : Nat, k ≤ 2 * bitsN n ∧ e = .returned (.tuple #[.int .i64 p, .int .i64 p', .nilIface]) ∧ Chg (InM mp) w w' ∧ MetO w' mp (c + k) t h s
/-- Where a key stands: from p up to p'. -/
structure Spot (q : Nat) (L : List EP) (m : List VT) (p p' : Nat) : Prop where
  le : p ≤ p'
  top : p' ≤ L.length
  lo : ∀ j, j < p → cxV q (L.getD j (zeroET, [])).2 m < 0
  mid : ∀ j, p ≤ j → j < p' → cxV q (L.getD j (zeroET, [])).2 m = 0
  hi : ∀ j, p' ≤ j → j < L.length → 0 < cxV q (L.getD j (zeroET, [])).2 m
set_option maxHeartbeats 4000000 in
theorem ofind_ok (Y : Nat → Prop) (mp : Option Addr) (q mx nx X T : Nat) (u : Bool) (L : List EP) (hh n : Nat) (c t h s : Int) (ka : Option Addr) (kn kc : Nat) (m : List VT) (p p' : Nat) (w : World) (i : IxW Y mp q mx nx X T u L hh n c t h s w) (hL : L.length ≤ 100000) (hc0 : 0 ≤ c) (hc1 : c ≤ 800000) (ht : t = 0 ∨ t ≤ c) (kk : KeyC (InM mp) w ka kn kc m) (hs : Spot q L m p p') :
    Calls Tryz.prog 18 #[.pointer (some ⟨X, 0, none⟩), .slice ka kn kc] w fun e w' => FindOk mp c t h s L.length p p' w e w' := by
  have hb : bitsN L.length ≤ 100 := bitsN_le (by omega)
  have h1 := search_ok Y mp q mx nx X T u L hh n c t h s ka kn kc m 0 p w i hL hc0 (by omega) ht kk (Nat.le_trans hs.le hs.top) hs.lo (fun j hj hl => by
    rcases Nat.lt_or_ge j p' with hlt | hge
    · rw [hs.mid j hj hlt]; exact Int.le_refl _
    · exact Int.le_of_lt (hs.hi j hge hl))
  have h2 : ∀ (k : Nat) (w1 : World), k ≤ bitsN L.length → Chg (InM mp) w w1 → MetO w1 mp (c + k) t h s → Calls Tryz.prog 42 #[.pointer (some ⟨X, 0, none⟩), .slice ka kn kc, .int .i64 1] w1 fun e w' => SeaOk mp (c + k) t h s L.length p' w1 e w' := fun k w1 hk hc hm =>
    search_ok Y mp q mx nx X T u L hh n (c + k) t h s ka kn kc m 1 p' w1 (i.met hc hm) hL (by omega) (by omega) (by omega) (kk.chg hc) hs.top (fun j hj => by
      rcases Nat.lt_or_ge j p with hlt | hge
      · have := hs.lo j hlt; omega
      · rw [hs.mid j hge hj]; decide) (fun j hj hl => by have := hs.hi j hj hl; omega)
  have H1 := hide h1
  have H2 := hide h2
  clear h1 h2 i kk hs
  go_enter Tryz.func18, Tryz.ntmps18
  go_wp2_with fail
  refine H1.out.mono ?_
  rintro _ w1 ⟨k1, hk1, rfl, hc1', hm1⟩
  have HC1 := hide hc1'
  have HM1 := hide hm1
  have HK1 := hide hk1
  clear hc1' hm1 hk1 H1
  dsimp only
  go_wp2_with fail
  refine (H2.out k1 w1 HK1.out HC1.out HM1.out).mono ?_
  rintro _ w2 ⟨k2, hk2, rfl, hc2, hm2⟩
  have HC2 := hide hc2
  have HM2 := hide hm2
  have HK2 := hide hk2
  clear hc2 hm2 hk2 H2
  dsimp only
  go_wp2
  refine bodyPost_ret (v := .tuple #[.int .i64 p, .int .i64 p', .nilIface]) (by simp [results, Tryz.results18, go_sem]) rfl ⟨k1 + k2, by have := HK1.out; have := HK2.out; omega, rfl, HC1.out.trans HC2.out (fun _ _ h => h), ?_⟩
  have := HM2.out
  rw [show c + ((k1 + k2 : Nat) : Int) = c + (k1 : Int) + (k2 : Int) by omega]
  exact this
end Go.Proofs.YtnokokhbcfkifaaGreatDoor

namespace Go.Proofs.YtnokokhbcfkifaaGreatDoor
open Go.ChangeShapes Go.WideShapes Go.ChangeAt Go.RowKit
set_option linter.unusedVariables false
set_option maxRecDepth 100000
attribute [local go_sem ↓] Go.wp_at_zero Go.wp_at_succ

theorem map_getD (L : List EP) (j : Nat) : (L.map (·.1)).getD j zeroET = (L.getD j (zeroET, [])).1 := by
  rw [List.getD_eq_getElem?_getD, List.getD_eq_getElem?_getD, List.getElem?_map]
  cases L[j]? <;> rfl
theorem idAt_calls (X T hh n : Nat) (xs : List ET) (i : Nat) (w : World) (x2 : w.cell? ⟨X, 2, none⟩ = some (.pointer (some ⟨T, 0, none⟩))) (t : TrE w T xs hh n) (hi : i < xs.length) (hx : xs.length ≤ 100000) :
    Calls Tryz.prog 38 #[.pointer (some ⟨X, 0, none⟩), .int .i64 i] w fun e w' => e = .returned (.int .i64 (xs.getD i zeroET).id) ∧ Up w w' := by
  have HA := hide (tatE_ok T hh n i zeroET xs w t hi hx)
  clear t
  go_enter Tryz.func38, Tryz.ntmps38
  go_wp2_with fail
  refine HA.out.mono ?_
  rintro _ w1 ⟨rfl, hu1⟩
  obtain ⟨x, hxx⟩ : ∃ x, x = xs.getD i zeroET := ⟨_, rfl⟩
  rw [← hxx]
  unfold encE
  have HU := hide (hu1.alloc (.cells #[.slice x.a x.n x.c, .int .i64 x.id] 51))
  replace hxx := hide hxx
  clear hu1 HA
  dsimp only
  go_wp2
  go_ret
  exact ⟨by rw [← hxx.out]; rfl, HU.out⟩
/-- A rank: among the places from p up to p' the first whose number isn't less. -/
structure RankAt (L : List EP) (p p' : Nat) (id : Int) (r : Nat) : Prop where
  lo : p ≤ r
  hi : r ≤ p'
  less : ∀ j, p ≤ j → j < r → (L.getD j (zeroET, [])).1.id < id
  more : ∀ j, r ≤ j → j < p' → id ≤ (L.getD j (zeroET, [])).1.id
theorem spot1_calls (X T hh n : Nat) (L : List EP) (p p' : Nat) (id : Int) (xb pb ib : Nat) (W : World) (x2 : W.cell? ⟨X, 2, none⟩ = some (.pointer (some ⟨T, 0, none⟩))) (t : TrE W T (L.map (·.1)) hh n) (hL : L.length ≤ 100000) (hp : p' ≤ L.length) (hpp : p ≤ p') (b0 : W.cell? ⟨xb, 0, none⟩ = some (.pointer (some ⟨X, 0, none⟩))) (b1 : W.cell? ⟨pb, 0, none⟩ = some (.int .i64 p)) (b2 : W.cell? ⟨ib, 0, none⟩ = some (.int .i64 id)) :
    AskAt 57 #[.pointer (some ⟨xb, 0, none⟩), .pointer (some ⟨pb, 0, none⟩), .pointer (some ⟨ib, 0, none⟩)] (p' - p) (fun j => decide (id ≤ (L.getD (p + j) (zeroET, [])).1.id)) (fun _ w' => Up W w') := by
  intro k j w hk hj hu
  have HI : Hid (∀ w', Up w w' → Calls Tryz.prog 38 #[.pointer (some ⟨X, 0, none⟩), .int .i64 ((p + j : Nat) : Int)] w' fun e w'' => e = .returned (.int .i64 ((L.map (·.1)).getD (p + j) zeroET).id) ∧ Up w' w'') := fun w' hw' => idAt_calls X T hh n (L.map (·.1)) (p + j) w' ((hu.trans hw').cell x2) (t.up (hu.trans hw')) (by simp; omega) (by simpa using hL)
  have g0 := hu.cell b0
  have g1 := hu.cell b1
  have g2 := hu.cell b2
  have e1 : IntKind.i64.wrap ((p : Int) + (j : Int)) = ((p + j : Nat) : Int) := by rw [IntKind.wrap_i64]; omega
  rw [map_getD] at HI
  obtain ⟨v, hv⟩ : ∃ v, v = (L.getD (p + j) (zeroET, [])).1.id := ⟨_, rfl⟩
  show Calls _ _ _ _ (fun e w' => e = .returned (.bool (decide (id ≤ (L.getD (p + j) (zeroET, [])).1.id))) ∧ _)
  rw [← hv] at HI ⊢
  have HU := hide hu
  clear hv t x2 b0 b1 b2 hu
  show Calls Tryz.prog _ #[.int .i64 (j : Int), .pointer (some ⟨xb, 0, none⟩), .pointer (some ⟨pb, 0, none⟩), .pointer (some ⟨ib, 0, none⟩)] w _
  go_enter Tryz.func57, Tryz.ntmps57
  go_wp2_with fail
  refine region_up (by kernel_rfl) (by kernel_rfl) ?_
  repeat (first
    | go_big_quiet_skip
    | (go_big_quiet_want; go_big_quiet_op; go_big_quiet_on)
    | (go_big_quiet_want
       apply Exists.intro
       refine ⟨fun w' hw' => ?_, ?_⟩
       (skip
        have g0 := hw'.cell g0
        have g1 := hw'.cell g1
        have g2 := hw'.cell g2
        go_simp
        first
        | done
        | with_reducible rfl
        | (go_at_call 38; exact quiet_call hw' (HI.out w' hw')))
       go_big_quiet_on
       try simp only [Act.put, List.setIfInBounds_toArray, List.set_cons_zero, List.set_cons_succ]))
  refine wpQuiet_nil ?_
  intro w6 hw6
  have HU6 := hide (HU.out.trans hw6)
  clear hw6 HI g0 g1 g2
  go_wp2
  go_ret
  exact ⟨rfl, HU6.out⟩
/-- What spotOf tells. -/
def spotV (p p' r : Nat) (b : Bool) : Value := .agg #[.int .i64 p, .int .i64 p', .int .i64 r, .bool b]
def SpotOk (mp : Option Addr) (c t h s : Int) (n p p' r : Nat) (b : Bool) (w : World) (e : Ending) (w' : World) : Prop := ∃ k : Nat, k ≤ 2 * bitsN n ∧ e = .returned (.tuple #[spotV p p' r b, .nilIface]) ∧ Chg (InM mp) w w' ∧ MetO w' mp (c + k) t h s
set_option maxHeartbeats 4000000 in
theorem spotOf_ok (Y : Nat → Prop) (mp : Option Addr) (q mx nx X T : Nat) (u : Bool) (L : List EP) (hh n : Nat) (c t h s : Int) (ka : Option Addr) (kn kc : Nat) (m : List VT) (id : Int) (p p' r : Nat) (w : World) (i : IxW Y mp q mx nx X T u L hh n c t h s w) (hL : L.length ≤ 100000) (hc0 : 0 ≤ c) (hc1 : c ≤ 800000) (ht : t = 0 ∨ t ≤ c) (kk : KeyC (InM mp) w ka kn kc m) (hs : Spot q L m p p') (hr : RankAt L p p' id r) :
    Calls Tryz.prog 37 #[.pointer (some ⟨X, 0, none⟩), .slice ka kn kc, .int .i64 id] w fun e w' => SpotOk mp c t h s L.length p p' r (decide (r < p' ∧ (L.getD r (zeroET, [])).1.id = id)) w e w' := by
  obtain ⟨bb, hbb⟩ : ∃ bb, bb = decide (r < p' ∧ (L.getD r (zeroET, [])).1.id = id) := ⟨_, rfl⟩
  rw [← hbb]
  replace hbb := hide hbb
  unfold SpotOk spotV
  obtain ⟨W1, hW1⟩ : ∃ W1, W1 = ((w.alloc (.cells #[.pointer (some ⟨X, 0, none⟩)] 27)).alloc (.cells #[.int .i64 id] 2)).alloc (.cells #[.int .i64 0, .int .i64 0, .int .i64 0, .bool false] 95) := ⟨_, rfl⟩
  have u1 : Up w W1 := by rw [hW1]; exact (((Up.refl _).alloc _).alloc _).alloc _
  have b0 : W1.cell? ⟨w.heap.size, 0, none⟩ = some (.pointer (some ⟨X, 0, none⟩)) := by rw [hW1]; go_simp
  have b1 : W1.cell? ⟨w.heap.size + 1, 0, none⟩ = some (.int .i64 id) := by rw [hW1]; go_simp
  have r0 : W1.cell? ⟨w.heap.size + 1 + 1, 0, none⟩ = some (.int .i64 0) := by rw [hW1]; go_simp
  have r1 : W1.cell? ⟨w.heap.size + 1 + 1, 1, none⟩ = some (.int .i64 0) := by rw [hW1]; go_simp
  have r2 : W1.cell? ⟨w.heap.size + 1 + 1, 2, none⟩ = some (.int .i64 0) := by rw [hW1]; go_simp
  have r3 : W1.cell? ⟨w.heap.size + 1 + 1, 3, none⟩ = some (.bool false) := by rw [hW1]; go_simp
  have fr : ∀ z, W1.frozen? ⟨w.heap.size + 1 + 1, z, none⟩ = false := fun z => by rw [hW1]; go_simp
  have hW1s : W1.heap.size = w.heap.size + 1 + 1 + 1 := by rw [hW1]; simp
  have far : ∀ z, w.heap.size ≤ z → ¬ InM mp z := fun z hz h => by have := i.ylt _ h; omega
  have HFIND := hide (ofind_ok Y mp q mx nx X T u L hh n c t h s ka kn kc m p p' W1 (i.up u1) hL hc0 hc1 ht (kk.up u1) hs)
  have HI := hide i
  have HS := hide hs
  have HR := hide hr
  have HU1 := hide u1
  have HFAR := hide far
  have FR := hide fr
  have hW1' := hW1.symm
  clear i hs hr u1 far fr hW1 kk
  go_enter Tryz.func37, Tryz.ntmps37
  go_wp2_with fail
  clear hW1'
  refine HFIND.out.mono ?_
  rintro _ w2 ⟨k2, hk2, rfl, hc2, hm2⟩
  have HC2 := hide hc2
  have HM2 := hide hm2
  have HK2 := hide hk2
  have d0 := hc2.cell b0 (HFAR.out w.heap.size (Nat.le_refl _))
  have d1 := hc2.cell b1 (HFAR.out (w.heap.size + 1) (by omega))
  have R0 := hide (hc2.cell r0 (HFAR.out (w.heap.size + 1 + 1) (by omega)))
  have R1 := hide (hc2.cell r1 (HFAR.out (w.heap.size + 1 + 1) (by omega)))
  have R2 := hide (hc2.cell r2 (HFAR.out (w.heap.size + 1 + 1) (by omega)))
  have R3 := hide (hc2.cell r3 (HFAR.out (w.heap.size + 1 + 1) (by omega)))
  have RF : Hid (∀ z, w2.frozen? ⟨w.heap.size + 1 + 1, z, none⟩ = false) := fun z => (hc2.frozen (p := ⟨w.heap.size + 1 + 1, z, none⟩) (show w.heap.size + 1 + 1 < W1.heap.size by omega) (HFAR.out (w.heap.size + 1 + 1) (by omega))).trans (FR.out z)
  have hw2s : Hid (w.heap.size + 1 + 1 < w2.heap.size) := by have := hc2.size; unfold Hid; omega
  clear hc2 hm2 hk2 b0 b1 HFIND r0 r1 r2 r3 FR
  dsimp only
  go_wp2_with fail
  obtain ⟨W3, hW3⟩ : ∃ W3, W3 = w2.alloc (.cells #[.int .i64 (p : Int)] 3) := ⟨_, rfl⟩
  have u3 : Up w2 W3 := by rw [hW3]; exact (Up.refl _).alloc _
  have p3 : W3.cell? ⟨w2.heap.size, 0, none⟩ = some (.int .i64 (p : Int)) := by rw [hW3]; go_simp
  rw [← hW3]
  clear hW3
  have hcw : Chg (InM mp) w W3 := ((Chg.of_up HU1.out).trans HC2.out (fun _ _ h => h)).andUp u3
  have hm3 : MetO W3 mp (c + k2) t h s := HM2.out.up u3
  have ix3 := HI.out.met hcw hm3
  have q0 := u3.cell d0
  have q1 := u3.cell d1
  have hsr : ∀ w', Up W3 w' → Calls Tryz.prog 56 #[.int .i64 ((p' - p : Nat) : Int), .func (.func 57) #[] #[.pointer (some ⟨w.heap.size, 0, none⟩), .pointer (some ⟨w2.heap.size, 0, none⟩), .pointer (some ⟨w.heap.size + 1, 0, none⟩)]] w' fun e w'' => e = .returned (.int .i64 ((r - p : Nat) : Int)) ∧ Up w' w'' := fun w' hw' => by
    have hle := HS.out.le
    have htop := HS.out.top
    have hlo := HR.out.lo
    have hhi := HR.out.hi
    refine (sortSearch_calls 57 _ (p' - p) (r - p) _ (fun _ x => Up w' x) w' (by omega) (enters_of Tryz.func57 (by kernel_rfl) rfl) (spot1_calls X T hh n L p p' id w.heap.size w2.heap.size (w.heap.size + 1) w' (hw'.cell ix3.x2) (ix3.tr.tr.up hw') hL htop hle (hw'.cell q0) (hw'.cell p3) (hw'.cell q1)) (by omega) (fun j hj => decide_eq_false (by have := HR.out.less (p + j) (by omega) (by omega); omega)) (fun j hj hj2 => decide_eq_true (HR.out.more (p + j) (by omega) (by omega))) (Up.refl _)).mono ?_
    rintro _ w'' ⟨k, rfl, hu, -⟩
    exact ⟨rfl, hu⟩
  have HSR := hide hsr
  have HC3 := hide hcw
  have HM3 := hide hm3
  have IX3 := hide ix3
  have hle := HS.out.le
  have htop := HS.out.top
  have hrlo := HR.out.lo
  have hrhi := HR.out.hi
  have e1 : IntKind.i64.wrap ((p' : Int) - (p : Int)) = ((p' - p : Nat) : Int) := by rw [IntKind.wrap_i64]; omega
  have e2 : IntKind.i64.wrap ((p : Int) + ((r - p : Nat) : Int)) = (r : Int) := by rw [IntKind.wrap_i64]; omega
  have HU3 := hide u3
  clear hsr hcw hm3 ix3 u3
  refine region_up (by kernel_rfl) (by kernel_rfl) ?_
  repeat (first
    | go_big_quiet_skip
    | (go_big_quiet_want; go_big_quiet_op; go_big_quiet_on)
    | (go_big_quiet_want
       apply Exists.intro
       refine ⟨fun w' hw' => ?_, ?_⟩
       (skip
        have q0 := hw'.cell q0
        have q1 := hw'.cell q1
        have p3 := hw'.cell p3
        go_simp
        first
        | done
        | with_reducible rfl
        | (go_at_call 56; exact quiet_call hw' (HSR.out w' hw')))
       go_big_quiet_on
       try simp only [Act.put, List.setIfInBounds_toArray, List.set_cons_zero, List.set_cons_succ]))
  refine wpQuiet_nil ?_
  intro w4 hw4
  have HU4 := hide hw4
  replace q0 := hw4.cell q0
  replace q1 := hw4.cell q1
  replace p3 := hw4.cell p3
  clear hw4 HSR
  go_wp2_with fail
  have U24 : Up w2 w4 := HU3.out.trans HU4.out
  have HKK : Hid (∀ w', Up w4 w' → (Up w4 w' ∧ w'.cell? ⟨w.heap.size, 0, none⟩ = some (.pointer (some ⟨X, 0, none⟩)) ∧ w'.cell? ⟨w.heap.size + 1, 0, none⟩ = some (.int .i64 id) ∧ w'.cell? ⟨w2.heap.size, 0, none⟩ = some (.int .i64 (p : Int)) ∧ w'.cell? ⟨w.heap.size + 1 + 1, 0, none⟩ = some (.int .i64 0) ∧ w'.cell? ⟨w.heap.size + 1 + 1, 1, none⟩ = some (.int .i64 0) ∧ w'.cell? ⟨w.heap.size + 1 + 1, 2, none⟩ = some (.int .i64 0) ∧ w'.cell? ⟨w.heap.size + 1 + 1, 3, none⟩ = some (.bool false) ∧ w'.frozen? ⟨w.heap.size + 1 + 1, 0, none⟩ = false ∧ w'.frozen? ⟨w.heap.size + 1 + 1, 1, none⟩ = false ∧ w'.frozen? ⟨w.heap.size + 1 + 1, 2, none⟩ = false ∧ w'.frozen? ⟨w.heap.size + 1 + 1, 3, none⟩ = false)) := fun w' hw => by
    have hz : ∀ z, w'.frozen? ⟨w.heap.size + 1 + 1, z, none⟩ = false := fun z => ((U24.trans hw).frozen (p := ⟨w.heap.size + 1 + 1, z, none⟩) hw2s.out).trans (RF.out z)
    exact ⟨hw, hw.cell q0, hw.cell q1, hw.cell p3, (U24.trans hw).cell R0.out, (U24.trans hw).cell R1.out, (U24.trans hw).cell R2.out, (U24.trans hw).cell R3.out, hz 0, hz 1, hz 2, hz 3⟩
  have HFIN : Hid (∀ w5 b, Up w4 w5 → (∀ y0 y1 y2 y3, w5.cell? ⟨w.heap.size + 1 + 1, 0, none⟩ = some y0 → w5.cell? ⟨w.heap.size + 1 + 1, 1, none⟩ = some y1 → w5.cell? ⟨w.heap.size + 1 + 1, 2, none⟩ = some y2 → w5.cell? ⟨w.heap.size + 1 + 1, 3, none⟩ = some y3 → True) → Chg (InM mp) w ((((w5.setCell ⟨w.heap.size + 1 + 1, 0, none⟩ (.int .i64 p)).setCell ⟨w.heap.size + 1 + 1, 1, none⟩ (.int .i64 p')).setCell ⟨w.heap.size + 1 + 1, 2, none⟩ (.int .i64 r)).setCell ⟨w.heap.size + 1 + 1, 3, none⟩ (.bool b)) ∧ MetO ((((w5.setCell ⟨w.heap.size + 1 + 1, 0, none⟩ (.int .i64 p)).setCell ⟨w.heap.size + 1 + 1, 1, none⟩ (.int .i64 p')).setCell ⟨w.heap.size + 1 + 1, 2, none⟩ (.int .i64 r)).setCell ⟨w.heap.size + 1 + 1, 3, none⟩ (.bool b)) mp (c + k2) t h s) := fun w5 b h5 _ => by
    have s1 : Chg (fun y => y = w.heap.size + 1 + 1) w5 ((((w5.setCell ⟨w.heap.size + 1 + 1, 0, none⟩ (.int .i64 p)).setCell ⟨w.heap.size + 1 + 1, 1, none⟩ (.int .i64 p')).setCell ⟨w.heap.size + 1 + 1, 2, none⟩ (.int .i64 r)).setCell ⟨w.heap.size + 1 + 1, 3, none⟩ (.bool b)) :=
      ((((Chg.refl (fun y => y = w.heap.size + 1 + 1) w5).set (C := fun y => y = w.heap.size + 1 + 1) (p := ⟨w.heap.size + 1 + 1, 0, none⟩) (fun _ => rfl) _).set (C := fun y => y = w.heap.size + 1 + 1) (p := ⟨w.heap.size + 1 + 1, 1, none⟩) (fun _ => rfl) _).set (C := fun y => y = w.heap.size + 1 + 1) (p := ⟨w.heap.size + 1 + 1, 2, none⟩) (fun _ => rfl) _).set (C := fun y => y = w.heap.size + 1 + 1) (p := ⟨w.heap.size + 1 + 1, 3, none⟩) (fun _ => rfl) _
    refine ⟨((HC3.out.andUp HU4.out).andUp h5).trans s1 (fun y hy e => by have e' : y = w.heap.size + 1 + 1 := e; omega), ((HM3.out.up HU4.out).up h5).chg s1 (fun g hg e => ?_)⟩
    exact HFAR.out g (by have e' : g = w.heap.size + 1 + 1 := e; omega) hg
  clear U24
  by_cases hrp : r < p'
  · have HID : Hid (∀ w', Up w4 w' → Calls Tryz.prog 38 #[.pointer (some ⟨X, 0, none⟩), .int .i64 (r : Int)] w' fun e w'' => e = .returned (.int .i64 (L.getD r (zeroET, [])).1.id) ∧ Up w' w'') := fun w' hw' => by
      have := idAt_calls X T hh n (L.map (·.1)) r w' ((HU4.out.trans hw').cell IX3.out.x2) (IX3.out.tr.tr.up (HU4.out.trans hw')) (by simp; omega) (by simpa using hL)
      rwa [map_getD] at this
    obtain ⟨v, hv⟩ : ∃ v, v = (L.getD r (zeroET, [])).1.id := ⟨_, rfl⟩
    rw [← hv] at HID
    have hb : Hid ((v == id) = bb) := by
      unfold Hid
      rw [hbb.out, ← hv, Bool.eq_iff_iff]; simp [hrp]
    have t1 : decide ((r : Int) < (p' : Int)) = true := decide_eq_true (by omega)
    clear hv
    have HST : Hid (∀ w5 b, Chg (fun y => y = w.heap.size + 1 + 1) w4 w5 → Chg (fun y => y = w.heap.size + 1 + 1) w4 ((((w5.setCell ⟨w.heap.size + 1 + 1, 0, none⟩ (.int .i64 p)).setCell ⟨w.heap.size + 1 + 1, 1, none⟩ (.int .i64 p')).setCell ⟨w.heap.size + 1 + 1, 2, none⟩ (.int .i64 r)).setCell ⟨w.heap.size + 1 + 1, 3, none⟩ (.bool b))) := fun w5 b h5 =>
      (((h5.set (C := fun y => y = w.heap.size + 1 + 1) (p := ⟨w.heap.size + 1 + 1, 0, none⟩) (fun _ => rfl) _).set (C := fun y => y = w.heap.size + 1 + 1) (p := ⟨w.heap.size + 1 + 1, 1, none⟩) (fun _ => rfl) _).set (C := fun y => y = w.heap.size + 1 + 1) (p := ⟨w.heap.size + 1 + 1, 2, none⟩) (fun _ => rfl) _).set (C := fun y => y = w.heap.size + 1 + 1) (p := ⟨w.heap.size + 1 + 1, 3, none⟩) (fun _ => rfl) _
    have HKS : Hid (∀ w', Chg (fun y => y = w.heap.size + 1 + 1) w4 w' → (Chg (fun y => y = w.heap.size + 1 + 1) w4 w' ∧ w'.cell? ⟨w.heap.size, 0, none⟩ = some (.pointer (some ⟨X, 0, none⟩)) ∧ w'.cell? ⟨w.heap.size + 1, 0, none⟩ = some (.int .i64 id) ∧ w'.cell? ⟨w2.heap.size, 0, none⟩ = some (.int .i64 (p : Int)))) := fun w' hw => ⟨hw, hw.cell q0 (fun e => by have e' : w.heap.size = w.heap.size + 1 + 1 := e; omega), hw.cell q1 (fun e => by have e' : w.heap.size + 1 = w.heap.size + 1 + 1 := e; omega), hw.cell p3 (fun e => by have e' : w2.heap.size = w.heap.size + 1 + 1 := e; have := hw2s.out; omega)⟩
    have tok1 : True := trivial
    go_region_held3 (fun w' => Chg (fun y => y = w.heap.size + 1 + 1) w4 w' ∧ w'.cell? ⟨w.heap.size, 0, none⟩ = some (.pointer (some ⟨X, 0, none⟩)) ∧ w'.cell? ⟨w.heap.size + 1, 0, none⟩ = some (.int .i64 id) ∧ w'.cell? ⟨w2.heap.size, 0, none⟩ = some (.int .i64 (p : Int))) (exact HKS.out _ (by repeat' (with_reducible first | assumption | exact Chg.refl _ _ | apply Chg.alloc | apply Chg.drew | exact HST.out _ _ (by with_reducible assumption))))
      (first
        | (clear tok1; go_at_call 38; refine (HID.out _ (by repeat' (with_reducible first | assumption | exact Up.refl _ | apply Up.alloc | apply Up.drew))).mono ?_; rintro _ w5 ⟨rfl, hu5⟩; have hv5 : Up w4 w5 := Up.trans (by repeat' (with_reducible first | assumption | exact Up.refl _ | apply Up.alloc | apply Up.drew)) hu5; have hx5 : Chg (fun y => y = w.heap.size + 1 + 1) w4 w5 := Chg.of_up hv5; obtain ⟨-, -, -, -, r0, r1, r2, r3, f0, f1, f2, f3⟩ := HKK.out w5 hv5; clear hu5))
    all_goals
      have HV5 := hide (HFIN.out w5 (v == id) hv5 (fun _ _ _ _ _ _ _ _ => trivial))
      clear hv5 hx5
      go_wp2
      have k0 : ((((w5.setCell ⟨w.heap.size + 1 + 1, 0, none⟩ (.int .i64 p)).setCell ⟨w.heap.size + 1 + 1, 1, none⟩ (.int .i64 p')).setCell ⟨w.heap.size + 1 + 1, 2, none⟩ (.int .i64 r)).setCell ⟨w.heap.size + 1 + 1, 3, none⟩ (.bool (v == id))).cell? ⟨w.heap.size + 1 + 1, 0, none⟩ = some (.int .i64 p) := by go_simp
      have k1 : ((((w5.setCell ⟨w.heap.size + 1 + 1, 0, none⟩ (.int .i64 p)).setCell ⟨w.heap.size + 1 + 1, 1, none⟩ (.int .i64 p')).setCell ⟨w.heap.size + 1 + 1, 2, none⟩ (.int .i64 r)).setCell ⟨w.heap.size + 1 + 1, 3, none⟩ (.bool (v == id))).cell? ⟨w.heap.size + 1 + 1, 1, none⟩ = some (.int .i64 p') := by go_simp
      have k2' : ((((w5.setCell ⟨w.heap.size + 1 + 1, 0, none⟩ (.int .i64 p)).setCell ⟨w.heap.size + 1 + 1, 1, none⟩ (.int .i64 p')).setCell ⟨w.heap.size + 1 + 1, 2, none⟩ (.int .i64 r)).setCell ⟨w.heap.size + 1 + 1, 3, none⟩ (.bool (v == id))).cell? ⟨w.heap.size + 1 + 1, 2, none⟩ = some (.int .i64 r) := by go_simp
      have k3 : ((((w5.setCell ⟨w.heap.size + 1 + 1, 0, none⟩ (.int .i64 p)).setCell ⟨w.heap.size + 1 + 1, 1, none⟩ (.int .i64 p')).setCell ⟨w.heap.size + 1 + 1, 2, none⟩ (.int .i64 r)).setCell ⟨w.heap.size + 1 + 1, 3, none⟩ (.bool (v == id))).cell? ⟨w.heap.size + 1 + 1, 3, none⟩ = some (.bool (v == id)) := by go_simp
      refine bodyPost_ret (v := .tuple #[.agg #[.int .i64 p, .int .i64 p', .int .i64 r, .bool (v == id)], .nilIface]) (by simp [results, Tryz.results37, go_sem, k0, k1, k2', k3]) rfl ⟨k2, HK2.out, by rw [hb.out], HV5.out.1, HV5.out.2⟩
  · have t1 : decide ((r : Int) < (p' : Int)) = false := decide_eq_false (by omega)
    have hb : Hid (false = bb) := by
      unfold Hid
      rw [hbb.out, Bool.eq_iff_iff]; simp [hrp]
    obtain ⟨hz, y0, y1, y2, r0, r1, r2, r3, f0, f1, f2, f3⟩ := HKK.out w4 (Up.refl _)
    clear hz
    go_region
    all_goals
      have k0 : ((((w4.setCell ⟨w.heap.size + 1 + 1, 0, none⟩ (.int .i64 p)).setCell ⟨w.heap.size + 1 + 1, 1, none⟩ (.int .i64 p')).setCell ⟨w.heap.size + 1 + 1, 2, none⟩ (.int .i64 r)).setCell ⟨w.heap.size + 1 + 1, 3, none⟩ (.bool false)).cell? ⟨w.heap.size + 1 + 1, 0, none⟩ = some (.int .i64 p) := by go_simp
      have k1 : ((((w4.setCell ⟨w.heap.size + 1 + 1, 0, none⟩ (.int .i64 p)).setCell ⟨w.heap.size + 1 + 1, 1, none⟩ (.int .i64 p')).setCell ⟨w.heap.size + 1 + 1, 2, none⟩ (.int .i64 r)).setCell ⟨w.heap.size + 1 + 1, 3, none⟩ (.bool false)).cell? ⟨w.heap.size + 1 + 1, 1, none⟩ = some (.int .i64 p') := by go_simp
      have k2' : ((((w4.setCell ⟨w.heap.size + 1 + 1, 0, none⟩ (.int .i64 p)).setCell ⟨w.heap.size + 1 + 1, 1, none⟩ (.int .i64 p')).setCell ⟨w.heap.size + 1 + 1, 2, none⟩ (.int .i64 r)).setCell ⟨w.heap.size + 1 + 1, 3, none⟩ (.bool false)).cell? ⟨w.heap.size + 1 + 1, 2, none⟩ = some (.int .i64 r) := by go_simp
      have k3 : ((((w4.setCell ⟨w.heap.size + 1 + 1, 0, none⟩ (.int .i64 p)).setCell ⟨w.heap.size + 1 + 1, 1, none⟩ (.int .i64 p')).setCell ⟨w.heap.size + 1 + 1, 2, none⟩ (.int .i64 r)).setCell ⟨w.heap.size + 1 + 1, 3, none⟩ (.bool false)).cell? ⟨w.heap.size + 1 + 1, 3, none⟩ = some (.bool false) := by go_simp
      have HV5 := hide (HFIN.out w4 false (Up.refl _) (fun _ _ _ _ _ _ _ _ => trivial))
      go_wp2
      refine bodyPost_ret (v := .tuple #[.agg #[.int .i64 p, .int .i64 p', .int .i64 r, .bool false], .nilIface]) (by simp [results, Tryz.results37, go_sem, k0, k1, k2', k3]) rfl ⟨k2, HK2.out, by rw [hb.out], ?_, ?_⟩
      · exact HV5.out.1.andUp (Up.refl _).drew
      · exact HV5.out.2.up (Up.refl _).drew
end Go.Proofs.YtnokokhbcfkifaaGreatDoor
