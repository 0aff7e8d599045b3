/-
  UndoNests, whole.
-/
import Derived.Test.YtobalfckdknbdaaUdNsw
import Derived.Deep.RegionHeld3
import Derived.Deep.RegionLaw
import Derived.Laws.EntriesVeiled
namespace Go.Proofs.Ytobalfckdknbdaa
open Go.RowKit
set_option linter.unusedVariables false
set_option maxRecDepth 20000
attribute [local go_sem ↓] Go.wp_at_zero Go.wp_at_succ

theorem up_of_chg {C : Nat → Prop} {w a b : World} (h : Up w a) (hc : Chg C a b) (hC : ∀ x, C x → w.heap.size ≤ x) : Up w b :=
  ((Chg.of_up (C := C) h).trans hc (fun _ _ h => h)).up (fun x hx h => by have := hC x h; omega)

/-- What the outer call leaves behind: W is the world at Do. -/
structure NsE (W : World) (T bl bn ba bw bo : Nat) (k0 : Bk) (outer : Bool) (l : List Bk) (y : World) : Prop where
  ns : NsL T bl bn ba l y
  tail : ∃ p, l = p ++ [k0] ∧ ∀ q ∈ p, W.heap.size + 4 ≤ q.blk
  two : 2 ≤ l.length ∧ l.length ≤ 26
  cw : y.cell? ⟨bw, 0, none⟩ = some (.int .i64 ((l.length - 1 : Nat) : Int))
  co : y.cell? ⟨bo, 0, none⟩ = some (.bool outer)
  chg : Chg (TW T bn bw) W y
/-- The same behind a failing outer call, once it is taken back. -/
structure NsQ (W : World) (T bl bn ba bw bo : Nat) (k0 : Bk) (outer : Bool) (y : World) : Prop where
  ns : NsL T bl bn ba [k0] y
  co : y.cell? ⟨bo, 0, none⟩ = some (.bool outer)
  chg : Chg (TW T bn bw) W y

/-- What stands at the outer Do. -/
structure NsS (W : World) (T bl bn ba bw bi bo : Nat) (k0 : Bk) (a : Option Addr) (len cap : Nat) (bs : List Bool) (outer : Bool) : Prop where
  ns : NsL T bl bn ba [k0] W
  hlen : bs.length = len
  few : len ≤ 12
  cw : W.cell? ⟨bw, 0, none⟩ = some (.int .i64 1)
  fw : W.frozen? ⟨bw, 0, none⟩ = false
  rd : Rd Value.bool (TW T bn bw) W (.slice a len cap) bs
  ci : W.cell? ⟨bi, 0, none⟩ = some (.slice a len cap)
  co : W.cell? ⟨bo, 0, none⟩ = some (.bool outer)
  k0 : k0.blk ≠ bw
  ne : ¬ TB T bn bw ∧ bw ≠ bl ∧ bw ≠ ba ∧ ¬ TW T bn bw bi ∧ ¬ TW T bn bw bo

theorem NsS.go {W : World} {T bl bn ba bw bi bo : Nat} {k0 : Bk} {a : Option Addr} {len cap : Nat} {bs : List Bool} {outer : Bool} (h : NsS W T bl bn ba bw bi bo k0 a len cap bs outer) (x : World) (hu : Up W x) (hs : x.heap.size = W.heap.size + 4) :
    Calls Try.prog 18 #[.pointer (some ⟨ba, 0, none⟩), .pointer (some ⟨bi, 0, none⟩), .pointer (some ⟨bl, 0, none⟩), .pointer (some ⟨bw, 0, none⟩), .pointer (some ⟨bn, 0, none⟩), .pointer (some ⟨bo, 0, none⟩)] x fun e y => e = .returned (if outer then .iface 37 (.int .i64 70) else .nilIface) ∧ Chg (TW T bn bw) x y ∧ ∃ l, NsE W T bl bn ba bw bo k0 outer l y := by
  have hw : bw < W.heap.size := World.block_lt_of_cell? _ _ h.cw
  refine (ns_outer outer (h.ns.up hu) h.hlen h.few (hu.cell h.cw) ((hu.frozen (p := ⟨bw, 0, none⟩) hw).trans h.fw) (h.rd.up hu) (hu.cell h.ci) (hu.cell h.co) h.k0 h.ne).mono ?_
  rintro e y ⟨he, l, hl, ho⟩
  obtain ⟨p, hp, hq⟩ := ho.tail
  exact ⟨he, ho.chg, l, ho.ns, ⟨p, hp, fun q hk => by have := hq q hk; omega⟩, ⟨ho.two, hl⟩, ho.cw, ho.co, (Chg.of_up hu).trans ho.chg (fun _ _ h => h)⟩

theorem NsS.old {W : World} {T bl bn ba bw bi bo : Nat} {k0 : Bk} {a : Option Addr} {len cap : Nat} {bs : List Bool} {outer : Bool} (h : NsS W T bl bn ba bw bi bo k0 a len cap bs outer) : ∀ y, TW T bn bw y → ¬ Mid W.heap.size (W.heap.size + 4) y := by
  have hw : bw < W.heap.size := World.block_lt_of_cell? _ _ h.cw
  rintro y (e | rfl) m
  · exact tb_old h.ns y e m
  · have := m.1; omega

theorem NsS.stable {W : World} {T bl bn ba bw bi bo : Nat} {k0 : Bk} {a : Option Addr} {len cap : Nat} {bs : List Bool} {outer : Bool} (h : NsS W T bl bn ba bw bi bo k0 a len cap bs outer) (x y : World) (hx : ∃ l, NsE W T bl bn ba bw bo k0 outer l x) (hc : Chg (Mid W.heap.size (W.heap.size + 4)) x y) : ∃ l, NsE W T bl bn ba bw bo k0 outer l y := by
  obtain ⟨l, hl⟩ := hx
  have hw : bw < W.heap.size := World.block_lt_of_cell? _ _ h.cw
  have ho : bo < W.heap.size := World.block_lt_of_cell? _ _ h.co
  obtain ⟨⟨b1, b2, b3, b4⟩, b5⟩ := h.ns.old
  have old : ∀ z, z < W.heap.size → ¬ Mid W.heap.size (W.heap.size + 4) z := fun z hz m => by have := m.1; omega
  obtain ⟨p, hp, hq⟩ := hl.tail
  refine ⟨l, hl.ns.chg hc ⟨old _ b1, old _ b2, old _ b3, old _ b4⟩ ?_, hl.tail, hl.two, hc.cell (p := ⟨bw, 0, none⟩) hl.cw (old _ hw), hc.cell (p := ⟨bo, 0, none⟩) hl.co (old _ ho), hl.chg.trans hc (fun z hz m => absurd m (old z hz))⟩
  intro k hk
  rw [hp] at hk
  rcases List.mem_append.1 hk with hk | hk
  · intro m; have := hq k hk; have := m.2; omega
  · rw [List.mem_singleton.1 hk]; exact old _ (b5 k0 (List.mem_cons_self ..))

theorem NsS.ok {W : World} {T bl bn ba bw bi bo : Nat} {k0 : Bk} {a : Option Addr} {len cap : Nat} {bs : List Bool} (h : NsS W T bl bn ba bw bi bo k0 a len cap bs false) :
    Calls Try.prog 17 #[.pointer (some ⟨T, 0, none⟩), .func (.func 18) #[] #[.pointer (some ⟨ba, 0, none⟩), .pointer (some ⟨bi, 0, none⟩), .pointer (some ⟨bl, 0, none⟩), .pointer (some ⟨bw, 0, none⟩), .pointer (some ⟨bn, 0, none⟩), .pointer (some ⟨bo, 0, none⟩)]] W fun e y => e = .returned .nilIface ∧ ∃ l, NsE W T bl bn ba bw bo k0 false l y :=
  do_ok T [k0] _ _ (TW T bn bw) _ W h.ns.log (fun _ => rfl) (fun x hu hs => h.go x hu hs) h.old h.stable

theorem NsS.bad {W : World} {T bl bn ba bw bi bo : Nat} {k0 : Bk} {a : Option Addr} {len cap : Nat} {bs : List Bool} (h : NsS W T bl bn ba bw bi bo k0 a len cap bs true) :
    Calls Try.prog 17 #[.pointer (some ⟨T, 0, none⟩), .func (.func 18) #[] #[.pointer (some ⟨ba, 0, none⟩), .pointer (some ⟨bi, 0, none⟩), .pointer (some ⟨bl, 0, none⟩), .pointer (some ⟨bw, 0, none⟩), .pointer (some ⟨bn, 0, none⟩), .pointer (some ⟨bo, 0, none⟩)]] W fun e y => e = .returned (.iface 37 (.int .i64 70)) ∧ NsQ W T bl bn ba bw bo k0 true y := by
  refine do_err T [k0] _ _ _ _ (TW T bn bw) (TB T bn) _ _ W h.ns.log (fun _ => rfl) (fun x hu hs => h.go x hu hs) h.old h.stable (fun y hy => h.old y (.inl hy)) ?_
  rintro y ⟨l, hl⟩
  refine (ns_back hl.ns 1 (by have := hl.two; omega)).mono ?_
  rintro _ y' ⟨rfl, h1, h2⟩
  obtain ⟨p, hp, hq⟩ := hl.tail
  have e : l.drop (l.length - 1) = [k0] := by
    have : l.length - 1 = p.length := by rw [hp]; simp
    rw [this, hp, List.drop_left]
  rw [e] at h1
  exact ⟨rfl, h2, h1, h2.cell (p := ⟨bo, 0, none⟩) hl.co (fun e => h.ne.2.2.2.2 (.inl e)), hl.chg.trans h2 (fun _ _ h => .inl h)⟩

theorem undoNests_many (a : Option Addr) (len cap : Nat) (outer : Bool) (w : World) (hlen : ¬ len ≤ 12) :
    Calls Try.prog 4 #[.slice a len cap, .bool outer] w fun e w' => e = .returned (.bool true) ∧ Up w w' := by
  have z1 : (12 : Int) < (len : Int) := by omega
  go_enter Try.func4, Try.ntmps4
  go_wp2_with fail
  have u1 : Up w ((w.alloc (.cells #[.slice a len cap] 33)).alloc (.cells #[.bool outer] 4)) := ((Up.refl _).alloc _).alloc _
  have c1 : ((w.alloc (.cells #[.slice a len cap] 33)).alloc (.cells #[.bool outer] 4)).cell? ⟨w.heap.size, 0, none⟩ = some (.slice a len cap) := by go_simp
  generalize (w.alloc (.cells #[.slice a len cap] 33)).alloc (.cells #[.bool outer] 4) = W at *
  refine (known16_calls W).mono ?_
  rintro _ w1 ⟨rfl, hu1⟩
  have c2 := hu1.cell c1
  have hu := hide (u1.trans hu1)
  clear u1 hu1 c1
  dsimp only
  go_wp2
  go_ret
  exact ⟨rfl, hu.out⟩

theorem ns_start (T : Nat) (w2 : World) (t u v : TypeId) (h : LogAt T [] w2) :
    NsL T w2.heap.size (w2.heap.size + 1) (w2.heap.size + 1 + 1) [] (((w2.alloc (.cells #[.pointer (some ⟨T, 0, none⟩)] t)).alloc (.cells #[.int .i64 0] u)).alloc (.cells #[.func (.func 15) #[] #[.pointer (some ⟨w2.heap.size + 1, 0, none⟩), .pointer (some ⟨w2.heap.size, 0, none⟩)]] v)) ∧
    Up w2 (((w2.alloc (.cells #[.pointer (some ⟨T, 0, none⟩)] t)).alloc (.cells #[.int .i64 0] u)).alloc (.cells #[.func (.func 15) #[] #[.pointer (some ⟨w2.heap.size + 1, 0, none⟩), .pointer (some ⟨w2.heap.size, 0, none⟩)]] v)) := by
  have hu : Up w2 (((w2.alloc (.cells #[.pointer (some ⟨T, 0, none⟩)] t)).alloc (.cells #[.int .i64 0] u)).alloc (.cells #[.func (.func 15) #[] #[.pointer (some ⟨w2.heap.size + 1, 0, none⟩), .pointer (some ⟨w2.heap.size, 0, none⟩)]] v)) := (((Up.refl _).alloc _).alloc _).alloc _
  have hT := h.old.1
  refine ⟨⟨h.up hu, fun k hk => (by cases hk), fun k hk => (by cases hk), by first | go_simp | simp, by first | go_simp | simp, by first | go_simp | simp, by first | go_simp | simp, ?_⟩, hu⟩
  omega

set_option maxHeartbeats 8000000 in
theorem undoNests_few (a : Option Addr) (len cap : Nat) (bs : List Bool) (outer : Bool) (w : World) (hlen : bs.length = len) (hrd : Rd Value.bool (fun _ => False) w (.slice a len cap) bs) (hfew : len ≤ 12) :
    Calls Try.prog 4 #[.slice a len cap, .bool outer] w fun e w' => e = .returned (.bool true) ∧ Up w w' := by
  have hmf : ∀ (fn : Fn) (first cap : Array Value) (w : World), (Instr.makeFunc fn first cap).run Try.prog w = .ok (.func fn first cap) w := fun _ _ _ _ => rfl
  have z1 : ¬ (12 : Int) < (len : Int) := by omega
  have HRD := hide (⟨hlen, hrd⟩ : _ ∧ _)
  clear hlen hrd
  go_enter Try.func4, Try.ntmps4
  go_wp2_with fail
  have u1 : Up w ((w.alloc (.cells #[.slice a len cap] 33)).alloc (.cells #[.bool outer] 4)) := ((Up.refl _).alloc _).alloc _
  have c1 : ((w.alloc (.cells #[.slice a len cap] 33)).alloc (.cells #[.bool outer] 4)).cell? ⟨w.heap.size, 0, none⟩ = some (.slice a len cap) := by go_simp
  have c2 : ((w.alloc (.cells #[.slice a len cap] 33)).alloc (.cells #[.bool outer] 4)).cell? ⟨w.heap.size + 1, 0, none⟩ = some (.bool outer) := by go_simp
  generalize (w.alloc (.cells #[.slice a len cap] 33)).alloc (.cells #[.bool outer] 4) = W at *
  obtain ⟨bi, hbi⟩ : ∃ k, k = w.heap.size := ⟨_, rfl⟩
  obtain ⟨bo, hbo⟩ : ∃ k, k = w.heap.size + 1 := ⟨_, rfl⟩
  rw [← hbo] at c2 ⊢
  rw [← hbi] at c1 ⊢
  have NB := hide (⟨hbi, hbo⟩ : _ ∧ _)
  clear hbi hbo
  refine (known16_calls W).mono ?_
  rintro _ w1 ⟨rfl, hu1⟩
  replace c1 := hu1.cell c1
  replace c2 := hu1.cell c2
  have HU1 := hide (u1.trans hu1)
  have hb1 : bi < w1.heap.size := World.block_lt_of_cell? w1 ⟨bi, 0, none⟩ c1
  have hb2 : bo < w1.heap.size := World.block_lt_of_cell? w1 ⟨bo, 0, none⟩ c2
  clear u1 hu1
  dsimp only
  go_wp2_with fail
  refine (udNew_calls w1).mono ?_
  rintro _ w2 ⟨rfl, hl2, hu2⟩
  replace c1 := hu2.cell c1
  replace c2 := hu2.cell c2
  have hwT : w.heap.size ≤ w1.heap.size := HU1.out.size
  have hbi : bi < w1.heap.size := hb1
  have hbo : bo < w1.heap.size := hb2
  clear hb1 hb2
  have h12 : w1.heap.size ≤ w2.heap.size := hu2.size
  generalize w1.heap.size = T at hl2 hwT hbi hbo h12 ⊢
  have HL2 := hide (⟨hl2, hu2, hwT⟩ : _ ∧ _ ∧ _)
  have HB2 := hide (⟨hbi, hbo, h12⟩ : _ ∧ _ ∧ _)
  clear hl2 hu2 hwT hbi hbo h12
  dsimp only
  go_wp2_with fail
  obtain ⟨hn, hu⟩ := ns_start T w2 24 3 1 HL2.out.1
  replace c1 := hu.cell c1
  replace c2 := hu.cell c2
  have HN := hide (⟨HL2.out.2.1.trans hu, HL2.out.2.2, hn.old.1, World.block_lt_of_cell? _ _ c1, World.block_lt_of_cell? _ _ c2⟩ : _ ∧ _ ∧ _ ∧ _ ∧ _)
  have s2 := HU1.out.size
  have s3 := HL2.out.2.1.size
  have s1 : w.heap.size ≤ w2.heap.size := Nat.le_trans s2 s3
  clear HL2 hu s2 s3
  generalize ((w2.alloc (.cells #[.pointer (some ⟨T, 0, none⟩)] 24)).alloc (.cells #[.int .i64 0] 3)).alloc (.cells #[.func (.func 15) #[] #[.pointer (some ⟨w2.heap.size + 1, 0, none⟩), .pointer (some ⟨w2.heap.size, 0, none⟩)]] 1) = A at *
  generalize hbl : w2.heap.size = bl at *
  generalize hbn : bl + 1 = bn at *
  generalize hba : bn + 1 = ba at *
  have HZ := hide (⟨hbl, hbn, hba, s1⟩ : _ ∧ _ ∧ _ ∧ _)
  clear hbl hbn hba s1
  refine (ns_add hn (by simp)).mono ?_
  rintro _ B ⟨rfl, k0, hk0, hnB, hcB⟩
  have htb : ¬ TB T bn bi ∧ ¬ TB T bn bo := by
    have h1 := HZ.out
    have h2 := HB2.out
    exact ⟨fun e => e.elim (fun e => by omega) (fun e => by omega), fun e => e.elim (fun e => by omega) (fun e => by omega)⟩
  replace c1 := hcB.cell (p := ⟨bi, 0, none⟩) c1 htb.1
  replace c2 := hcB.cell (p := ⟨bo, 0, none⟩) c2 htb.2
  have HT := hide htb
  have HNB := hide (⟨hn, hnB, hcB, hk0⟩ : _ ∧ _ ∧ _ ∧ _)
  have cl := hnB.cl
  clear htb hn hnB hcB hk0
  have hua : Up B (B.alloc (.cells #[.int .i64 1] 3)) := (Up.refl _).alloc _
  replace cl := hua.cell cl
  dsimp only
  go_wp2_with fail
  have hS : Hid (NsS (B.alloc (.cells #[.int .i64 1] 3)) T bl bn ba B.heap.size bi bo k0 a len cap bs outer ∧ Up w (B.alloc (.cells #[.int .i64 1] 3))) := by
    obtain ⟨n1, n2, n3, n4⟩ := HNB.out
    obtain ⟨⟨o1, o2, o3, o4⟩, o5⟩ := n2.old
    obtain ⟨x1, x2, x3, x4, x5⟩ := HN.out
    obtain ⟨z2, z3, z4, z5⟩ := HZ.out
    have hwB : Up w B := up_of_chg (HU1.out.trans x1) n3 (fun x hx => hx.elim (fun e => by omega) (fun e => by omega))
    have i1 : bi < B.heap.size := World.block_lt_of_cell? B ⟨bi, 0, none⟩ c1
    have i2 : bo < B.heap.size := World.block_lt_of_cell? B ⟨bo, 0, none⟩ c2
    have k1 := o5 k0 (List.mem_cons_self ..)
    have hsw := hwB.size
    refine hide ⟨⟨n2.up hua, HRD.out.1, hfew, by first | go_simp | simp, by first | go_simp | simp, (HRD.out.2.mono (Y := TW T bn B.heap.size) (fun y hy e => ?_)).up (hwB.trans hua), hua.cell c1, hua.cell c2, by omega, ?_⟩, hwB.trans hua⟩
    · exact e.elim (fun e => e.elim (fun e => by omega) (fun e => by omega)) (fun e => by omega)
    · exact ⟨fun e => e.elim (fun e => by omega) (fun e => by omega), by omega, by omega, fun e => e.elim HT.out.1 (fun e => by omega), fun e => e.elim HT.out.2 (fun e => by omega)⟩
  have hwT : w.heap.size ≤ T ∧ w.heap.size ≤ bn ∧ w.heap.size ≤ B.heap.size := by
    obtain ⟨z2, z3, z4, z5⟩ := HZ.out
    have h1 := HN.out.2.1
    have h2 := HNB.out.2.1.old.1.1
    exact ⟨h1, by omega, by omega⟩
  generalize B.alloc (.cells #[.int .i64 1] 3) = D at *
  generalize B.heap.size = bw at *
  have HWT := hide hwT
  clear hua cl c1 c2 HNB HN HZ HT HRD HU1 HB2 NB hwT
  cases outer
  · refine hS.out.1.ok.mono ?_
    rintro _ E ⟨rfl, l, hE⟩
    obtain ⟨wa, hwa⟩ : ∃ k, l.length = k + 1 := ⟨l.length - 1, by have := hE.two; omega⟩
    have hw26 : wa ≤ 26 := by have := hE.two; omega
    have co := hE.co
    have cn : E.cell? ⟨bn, 0, none⟩ = some (.int .i64 ((wa : Int) + 1)) := by rw [hE.ns.cn, hwa]; rfl
    have cw : E.cell? ⟨bw, 0, none⟩ = some (.int .i64 (wa : Int)) := by rw [hE.cw, hwa]; rfl
    have cl := hE.ns.cl
    have hbw : bw ≠ T ∧ bw ≠ bn := ⟨fun e => hS.out.1.ne.1 (.inl e), fun e => hS.out.1.ne.1 (.inr e)⟩
    have HLN : Hid (∀ w', Up E w' → Calls Try.prog 12 #[.pointer (some ⟨T, 0, none⟩)] w' fun e w'' => e = .returned (.int .i64 ((wa : Int) + 1)) ∧ w'' = w') := hide (fun w' hu => by
      have h := udLen_calls T l w' (hE.ns.up hu).log
      rw [hwa] at h
      exact h)
    have HBK : Hid (∀ w', Up E w' → Calls Try.prog 10 #[.pointer (some ⟨T, 0, none⟩), .int .i64 0] w' fun e w'' => e = .returned (.bool true) ∧ Up w w'' ∧ w''.cell? ⟨bn, 0, none⟩ = some (.int .i64 0) ∧ w''.cell? ⟨bl, 0, none⟩ = some (.pointer (some ⟨T, 0, none⟩)) ∧ w''.cell? ⟨bw, 0, none⟩ = some (.int .i64 (wa : Int))) := hide (fun w' hu => by
      refine (ns_back (hE.ns.up hu) 0 (Nat.zero_le _)).mono ?_
      rintro _ w'' ⟨rfl, h1, h2⟩
      have e : l.drop (l.length - 0) = [] := by rw [Nat.sub_zero]; exact List.drop_length
      rw [e] at h1
      have := HWT.out
      exact ⟨rfl, up_of_chg ((up_of_chg hS.out.2 hE.chg (fun x hx => hx.elim (fun e => e.elim (fun e => by omega) (fun e => by omega)) (fun e => by omega))).trans hu) h2 (fun x hx => hx.elim (fun e => by omega) (fun e => by omega)), h1.cn, h1.cl, h2.cell (p := ⟨bw, 0, none⟩) (hu.cell cw) (fun e => e.elim hbw.1 hbw.2)⟩)
    have ew := (ns_wr wa (by omega)).2.2
    have ew' : IntKind.i64.wrap ((wa : Int) + 1) = (wa : Int) + 1 := by rw [IntKind.wrap_i64]; omega
    clear hE hS hwa hbw
    dsimp only
    go_wp2_with fail
    go_region_law (first
        | (go_simp; go_at_call 12; refine (HLN.out _ (by repeat' (with_reducible first | assumption | exact Up.refl _ | apply Up.alloc | apply Up.drewN | apply Up.drew))).mono ?_; rintro _ wm ⟨rfl, hwm⟩; subst hwm; dsimp only)
        | (go_simp; go_at_call 10; refine (HBK.out _ (by repeat' (with_reducible first | assumption | exact Up.refl _ | apply Up.alloc | apply Up.drewN | apply Up.drew))).mono ?_; rintro _ wF ⟨rfl, hF, hn0, hl0, hw0⟩; dsimp only))
    all_goals
      have HF := hide hF
      clear hF hn0 hl0 hw0
      go_wp2
      go_ret
      exact ⟨rfl, HF.out⟩
  · refine hS.out.1.bad.mono ?_
    rintro _ E ⟨rfl, hE⟩
    have co := hE.co
    have cn := hE.ns.cn
    have cl := hE.ns.cl
    have hlen := hide (udLen_calls T [k0] E hE.ns.log)
    have hU : Hid (Up w E) := hide (up_of_chg hS.out.2 hE.chg (fun x hx => by
      have := HWT.out
      exact hx.elim (fun e => e.elim (fun e => by omega) (fun e => by omega)) (fun e => by omega)))
    clear hE hS
    dsimp only
    go_wp2_with (go_at_call 12; refine hlen.out.mono ?_; rintro _ wm ⟨rfl, hwm⟩; obtain rfl : E = wm := hwm.symm)
    go_ret
    exact ⟨rfl, hU.out⟩

end Go.Proofs.Ytobalfckdknbdaa
