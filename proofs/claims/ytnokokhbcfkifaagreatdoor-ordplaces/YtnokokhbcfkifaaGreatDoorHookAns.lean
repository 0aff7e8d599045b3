/-
  What package hook's copied, answered and the five calls answer, as their texts run: user code by its own contract.
-/
import Derived.Test.YtnokokhbcfkifaaGreatDoorHookRun
import Derived.Test.YtnokokhbcfkifaaGreatDoorHookCloneG
import Derived.Test.YtnokokhbcfkifaaGreatDoorErrHelpG
import Derived.Test.YtnokokhbcfkifaaGreatDoorChgs
namespace Go.Proofs.YtnokokhbcfkifaaGreatDoor
open Go.ChangeShapes Go.WideShapes Go.ChangeAt Go.RowKit
attribute [local go_sem ↓] Go.wp_at_zero Go.wp_at_succ
attribute [local go_sem] run_store_float

/-- A row that user code was handed: new memory that may be written into; nothing of no values. -/
def Handed (B : Nat) (w : World) (a : Option Addr) (n : Nat) (m : List VT) : Prop := Vals w a n m ∧ ((n = 0 ∧ a = none) ∨ ∃ G, a = some ⟨G, 0, none⟩ ∧ B ≤ G ∧ G < w.heap.size ∧ ∀ i, w.frozen? ⟨G, i, none⟩ = false)
/-- The block of a row. -/
def RowB (a : Option Addr) (b : Nat) : Prop := ∃ o, a = some ⟨b, o, none⟩
theorem Handed.not {B : Nat} {w : World} {a : Option Addr} {n : Nat} {m : List VT} (h : Handed B w a n m) {b : Nat} (hb : b < B ∨ w.heap.size ≤ b) : ¬ RowB a b := by
  rintro ⟨o, rfl⟩
  rcases h.2 with ⟨_, h0⟩ | ⟨G, h0, h1, h2, _⟩
  · cases h0
  · cases h0; omega
theorem Handed.up {B : Nat} {w w' : World} {a : Option Addr} {n : Nat} {m : List VT} (h : Handed B w a n m) (hu : Up w w') : Handed B w' a n m :=
  ⟨h.1.up hu, h.2.imp id (fun ⟨G, h1, h2, h3, h4⟩ => ⟨G, h1, h2, Nat.lt_of_lt_of_le h3 hu.size, fun i => (hu.frozen (p := ⟨G, i, none⟩) h3).trans (h4 i)⟩)⟩
theorem Handed.mono {B B' : Nat} {w : World} {a : Option Addr} {n : Nat} {m : List VT} (h : Handed B w a n m) (hB : B' ≤ B) : Handed B' w a n m :=
  ⟨h.1, h.2.imp id (fun ⟨G, h1, h2, h3⟩ => ⟨G, h1, Nat.le_trans hB h2, h3⟩)⟩

theorem copied_calls (a : Option Addr) (n c : Nat) (m : List VT) (w : World) (hn : n ≤ 12) (hv : Vals w a n m) (hs : ∀ i, (m.getD i zeroT).2.2.1.size ≤ 200) :
    Calls Tryz.prog 112 #[.slice a n c] w fun e w' => ∃ a', e = .returned (.slice a' n n) ∧ Handed w.heap.size w' a' n m ∧ Up w w' := by
  by_cases h0 : n = 0
  · subst h0
    have HV := hide hv
    clear hv hs
    go_enter Tryz.func112, Tryz.ntmps112
    go_wp2
    go_ret
    exact ⟨none, rfl, ⟨⟨HV.out.1, HV.out.2.1, .inl rfl⟩, .inl ⟨rfl, rfl⟩⟩, Up.refl _⟩
  · have t0 : ((n : Int) == 0) = false := by rw [beq_eq_false_iff_ne]; omega
    have HC := hide (scopy_calls a n c m w hn hv hs)
    have H0 := hide h0
    clear hv hs h0
    go_enter Tryz.func112, Tryz.ntmps112
    go_wp2_with fail
    go_at_call 122
    refine HC.out.mono ?_
    rintro _ w1 ⟨a', rfl, hr, hu⟩
    have HR := hide hr
    have HU := hide hu
    clear hr hu HC
    go_wp2
    go_ret
    exact ⟨a', rfl, ⟨HR.out.1, .inr (HR.out.2.resolve_left H0.out)⟩, HU.out⟩

theorem run_equalIn_niL {P : Program} {t : TypeId} {ms : Array (String × TypeId)} (h : P.underlying t = some (.interface ms)) (w : World) (d : Nat) (u : TypeId) (v : Value) : (Op.equalIn (d + 1) t .nilIface (.iface u v)).run P w = .ok false w := by
  simp [Op.equalIn, run_underlying h]
theorem run_eql_niL {P : Program} {t : TypeId} {ms : Array (String × TypeId)} (h : P.underlying t = some (.interface ms)) (w : World) (u : TypeId) (v : Value) : (binOp .eql t .nilIface (.iface u v)).run P w = .ok (.bool false) w := by
  have e := run_equalIn_niL h w 9999 u v
  simp only [binOp, Op.equal, Op.maxDepth, Sem.run_bind]
  rw [e]
  rfl
theorem errIs_nil (t : TypeId) (v : Value) (w : World) : Calls Tryz.prog 121 #[.nilIface, .iface t v] w fun e w' => e = .returned (.bool false) ∧ w' = w := by
  have n0 := run_eql_niL Tryz.underlying46
  go_enter Tryz.func121, Tryz.ntmps121
  go_wp2
  go_ret
  exact ⟨rfl, rfl⟩

theorem Left.lift {w W w1 w2 : World} {S : World → World → Prop} (h : Left W S w1) (hw : Up w W) (hu : Chg (Mid w.heap.size W.heap.size) w1 w2) : Left w S w2 := by
  obtain ⟨x, x', h1, h2, h3, h4⟩ := h
  refine ⟨x, x', hw.trans h1, h2, h3, (h4.mono (fun b _ hb => ⟨Nat.le_trans hw.size hb.1, hb.2⟩)).trans hu (fun b _ hb => ⟨hb.1, Nat.lt_of_lt_of_le hb.2 h1.size⟩)⟩
/-- What a call within a call left. -/
theorem Left.join {w w' : World} {S : World → World → Prop} (h : Left w (fun y y' => Left y S y') w') : Left w S w' := by
  obtain ⟨y, y', h1, ⟨x, x', g1, g2, g3, g4⟩, h3, h4⟩ := h
  exact ⟨x, x', h1.trans g1, g2, g3, Chg.trans (g4.mono (fun b _ hb => ⟨Nat.le_trans h1.size hb.1, hb.2⟩)) h4 (fun b _ hb => ⟨hb.1, Nat.lt_of_lt_of_le hb.2 g1.size⟩)⟩
theorem Caught.join {w w' : World} {S : World → World → Prop} {s : ByteArray} {err pan : Value} {b : Nat} (h : Caught w (fun y y' => Left y S y') s err pan b w') : Caught w S s err pan b w' := by
  obtain ⟨y, y', h1, ⟨x, x', g1, g2, g3, g4⟩, h3, h4, h5⟩ := h.left
  exact ⟨h.at', h.free, x, x', h1.trans g1, g2, g3, Nat.le_trans g4.size h4, Chg.trans (g4.mono (fun b _ hb => ⟨Nat.le_trans h1.size hb.1, hb.2⟩)) h5 (fun b _ hb => ⟨hb.1, Nat.lt_of_lt_of_le hb.2 g1.size⟩)⟩
theorem Caught.lift {w W w1 w2 : World} {S : World → World → Prop} {s : ByteArray} {err pan : Value} {b : Nat} (h : Caught W S s err pan b w1) (hw : Up w W) (hu : Up w1 w2) : Caught w S s err pan b w2 := by
  obtain ⟨x, x', h1, h2, h3, h4, h5⟩ := h.left
  exact ⟨h.at'.up hu, fun i => (hu.frozen (p := ⟨b, i, none⟩) (World.block_lt_of_cell? w1 ⟨b, 0, none⟩ h.at'.1)).trans (h.free i), x, x', hw.trans h1, h2, h3, h4, (h5.mono (fun b _ hb => ⟨Nat.le_trans hw.size hb.1, hb.2⟩)).andUp hu⟩

theorem chg_set1 (y : World) (b : Nat) (v : Value) : Chg (fun x => x = b) y (y.setCell ⟨b, 0, none⟩ v) := Chg.set (C := fun x => x = b) (p := ⟨b, 0, none⟩) (Chg.refl _ y) (fun _ => rfl) v
theorem Chg.set' {C : Nat → Prop} {a b : World} (p : Addr) (v : Value) (hp : C p.block) (h : Chg C a b) : Chg C a (b.setCell p v) := h.set (fun _ => hp) v
theorem chg_set4 (y : World) (b : Nat) (v0 v1 v2 v3 : Value) : Chg (fun x => x = b) y ((((y.setCell ⟨b, 0, none⟩ v0).setCell ⟨b, 1, none⟩ v1).setCell ⟨b, 2, none⟩ v2).setCell ⟨b, 3, none⟩ v3) := by
  refine Chg.set' _ _ ?_ (Chg.set' _ _ ?_ (Chg.set' _ _ ?_ (Chg.set' _ _ ?_ (Chg.refl _ y))))
  all_goals rfl

/-- answered's closure: what user code tells is put aside. -/
theorem ansI1_calls (F : FuncId) (cap : Array Value) (fb ab : Nat) (n : Int) (old : Int) (ev : Value) (C : Nat → Prop) (S : World → World → Prop) (y : World) (hab : ab < y.heap.size) (hCa : ¬ C ab) (hE : ∀ w', (callFunc F cap).run Tryz.prog w' = .ok (.enter F cap) w')
    (k0 : y.cell? ⟨fb, 0, none⟩ = some (.func (.func F) #[] cap)) (ka : y.cell? ⟨ab, 0, none⟩ = some (.int .i64 old)) (kf : ∀ i, y.frozen? ⟨ab, i, none⟩ = false)
    (hF : Calls Tryz.prog F cap y fun e y' => e = .returned (.tuple #[.int .i64 n, ev]) ∧ Chg C y y' ∧ S y y') :
    Calls Tryz.prog 120 #[.pointer (some ⟨fb, 0, none⟩), .pointer (some ⟨ab, 0, none⟩)] y fun e y'' => e = .returned ev ∧ y''.cell? ⟨ab, 0, none⟩ = some (.int .i64 n) ∧ ∃ y', S y y' ∧ Chg C y y' ∧ Chg (fun b => b = ab) y' y'' := by
  have HF := hide hF
  have KA := hide ka
  have KF := hide kf
  clear hF ka kf
  go_enter Tryz.func120, Tryz.ntmps120
  go_wp2_with fail
  refine HF.out.mono ?_
  rintro _ y1 ⟨rfl, hc, hS⟩
  have b0 := hc.cell KA.out hCa
  have g0 := (hc.frozen (p := ⟨ab, 0, none⟩) hab hCa).trans (KF.out 0)
  have HS := hide hS
  have HC := hide hc
  clear hS hc HF KA KF
  go_wp2
  go_ret
  refine ⟨rfl, ?_, y1, HS.out, HC.out, ?_⟩
  · exact World.cell?_setCell_same _ _ _ b0
  · exact chg_set1 y1 ab _

set_option maxRecDepth 20000 in
set_option maxHeartbeats 4000000 in
theorem ansI_ok (s : ByteArray) (F : FuncId) (cap : Array Value) (n : Int) (C : Nat → Prop) (S : World → World → Prop) (w : World) (hC : ∀ b, C b → b < w.heap.size) (hE : ∀ w', (callFunc F cap).run Tryz.prog w' = .ok (.enter F cap) w')
    (hF : ∀ x, Up w x → Calls Tryz.prog F cap x fun e x' => e = .returned (.tuple #[.int .i64 n, .nilIface]) ∧ Chg C x x' ∧ TabE x' ∧ S x x') :
    Calls Tryz.prog 110 #[.string s, .func (.func F) #[] cap] w fun e w' => e = .returned (.tuple #[.int .i64 n, .nilIface]) ∧ Left w S w' := by
  have hmf : ∀ (fn : Fn) (first cap : Array Value) (w : World), (Instr.makeFunc fn first cap).run Tryz.prog w = .ok (.func fn first cap) w := fun _ _ _ _ => rfl
  have HF := hide hF
  clear hF
  go_enter Tryz.func110, Tryz.ntmps110
  go_wp2_with fail
  obtain ⟨W, hW⟩ : ∃ W, W = (w.alloc (.cells #[.func (.func F) #[] cap] 195)).alloc (.cells #[.int .i64 0] 3) := ⟨_, rfl⟩
  have uW : Hid (Up w W) := by rw [hW]; exact ((Up.refl _).alloc _).alloc _
  have z0 : W.cell? ⟨w.heap.size, 0, none⟩ = some (.func (.func F) #[] cap) := by rw [hW]; go_simp
  have z1 : W.cell? ⟨w.heap.size + 1, 0, none⟩ = some (.int .i64 0) := by rw [hW]; exact by go_simp
  have z2 : ∀ i, W.frozen? ⟨w.heap.size + 1, i, none⟩ = false := by intro i; rw [hW]; go_simp
  have hWs : W.heap.size = w.heap.size + 1 + 1 := by rw [hW]; simp
  rw [← hW]
  clear hW
  go_at_call 119
  refine (runL_ok s 120 #[.pointer (some ⟨w.heap.size, 0, none⟩), .pointer (some ⟨w.heap.size + 1, 0, none⟩)] (fun x x' => x'.cell? ⟨w.heap.size + 1, 0, none⟩ = some (.int .i64 n) ∧ ∃ y', S x y' ∧ x.heap.size ≤ y'.heap.size ∧ TabE y' ∧ Chg (fun b => b = w.heap.size + 1) y' x' ∧ ∀ b, w.heap.size ≤ b → b < W.heap.size → ¬ b = w.heap.size + 1 → x'.heap[b]? = W.heap[b]?) W (fun _ => by simp [go_sem]) (fun x hu => (ansI1_calls F cap w.heap.size (w.heap.size + 1) n 0 .nilIface C (fun x x' => TabE x' ∧ S x x') x (by have := hu.size; omega) (fun h => by have := hC _ h; omega) hE (hu.cell z0) (hu.cell z1) (fun i => (hu.frozen (p := ⟨w.heap.size + 1, i, none⟩) (by show w.heap.size + 1 < _; omega)).trans (z2 i)) (HF.out x (uW.out.trans hu))).mono ?_)).mono ?_
  · rintro _ x'' ⟨rfl, hh, y', ⟨ht, hS⟩, hc, hd⟩
    refine ⟨rfl, Chg.keeps (C := fun b => C b ∨ b = w.heap.size + 1) ((hc.mono (fun _ _ h => Or.inl h)).trans hd (fun _ _ h => Or.inr h)) ?_, hh, y', hS, hc.size, ht, hd, fun b h1 h2 h3 => ?_⟩
    · rintro b _ (h | h)
      · have := hC _ h; omega
      · omega
    · have hbx := Nat.lt_of_lt_of_le h2 hu.size
      exact ((hd.2 b (Nat.lt_of_lt_of_le hbx hc.size) h3).trans (hc.2 b hbx (fun h => by have := hC _ h; omega))).trans (hu.below.block b h2)
  rintro _ w1 ⟨rfl, x, x'', hx, ⟨LA0, y', hS, hs1, ht, hd, hk⟩, hs2, he⟩
  have KB : ∀ b, w.heap.size ≤ b → b < W.heap.size → ¬ b = w.heap.size + 1 → w1.heap[b]? = W.heap[b]? := fun b h1 h2 h3 => (he.2 b (Nat.lt_of_lt_of_le (Nat.lt_of_lt_of_le h2 hx.size) hs2) (fun hm => by have := hm.1; omega)).trans (hk b h1 h2 h3)
  have LA : Hid (w1.cell? ⟨w.heap.size + 1, 0, none⟩ = some (.int .i64 n)) := he.cell LA0 (by intro hm; have := hm.1; simp at this; omega)
  have l0 := LA.out
  have HL : Hid (∀ w3, Chg (Mid w.heap.size W.heap.size) w1 w3 → Left w S w3) := by
    intro w3 h3
    refine ⟨x, y', uW.out.trans hx, hS, hs1, Chg.trans (Chg.trans (hd.mono (fun b _ hb => ?_)) he (fun b _ hb => ⟨by have := hb.1; omega, hb.2⟩)) h3 (fun b _ hb => ⟨hb.1, Nat.lt_of_lt_of_le hb.2 hx.size⟩)⟩
    exact ⟨by omega, by have := hx.size; omega⟩
  clear LA LA0 hS hs1 ht hd hs2 he hx z0 z1 z2 HF hk
  go_wp2_with fail
  go_at_call 121
  refine (errIs_nil _ _ _).mono ?_
  rintro _ w2 ⟨rfl, rfl⟩
  go_wp2
  go_ret2
  exact ⟨rfl, HL.out _ (Chg.refl _ _)⟩

set_option maxRecDepth 20000 in
set_option maxHeartbeats 4000000 in
theorem ansI_err (s : ByteArray) (F : FuncId) (cap : Array Value) (n : Int) (et : TypeId) (ev : Value) (C : Nat → Prop) (S : World → World → Prop) (w : World) (hs : s.size ≤ 281474976710656) (hT : TabE w) (hC : ∀ b, C b → b < w.heap.size) (hE : ∀ w', (callFunc F cap).run Tryz.prog w' = .ok (.enter F cap) w')
    (hF : ∀ x, Up w x → Calls Tryz.prog F cap x fun e x' => e = .returned (.tuple #[.int .i64 n, .iface et ev]) ∧ Chg C x x' ∧ TabE x' ∧ S x x') :
    Calls Tryz.prog 110 #[.string s, .func (.func F) #[] cap] w fun e w' => ∃ b, e = .returned (.tuple #[.int .i64 0, .iface 106 (.pointer (some ⟨b, 0, none⟩))]) ∧ Caught w S s (.iface et ev) .nilIface b w' := by
  have hmf : ∀ (fn : Fn) (first cap : Array Value) (w : World), (Instr.makeFunc fn first cap).run Tryz.prog w = .ok (.func fn first cap) w := fun _ _ _ _ => rfl
  have HF := hide hF
  clear hF
  go_enter Tryz.func110, Tryz.ntmps110
  go_wp2_with fail
  obtain ⟨W, hW⟩ : ∃ W, W = (w.alloc (.cells #[.func (.func F) #[] cap] 195)).alloc (.cells #[.int .i64 0] 3) := ⟨_, rfl⟩
  have uW : Hid (Up w W) := by rw [hW]; exact ((Up.refl _).alloc _).alloc _
  have z0 : W.cell? ⟨w.heap.size, 0, none⟩ = some (.func (.func F) #[] cap) := by rw [hW]; go_simp
  have z1 : W.cell? ⟨w.heap.size + 1, 0, none⟩ = some (.int .i64 0) := by rw [hW]; exact by go_simp
  have z2 : ∀ i, W.frozen? ⟨w.heap.size + 1, i, none⟩ = false := by intro i; rw [hW]; go_simp
  have hWs : W.heap.size = w.heap.size + 1 + 1 := by rw [hW]; simp
  rw [← hW]
  clear hW
  go_at_call 119
  refine (runL_err s 120 #[.pointer (some ⟨w.heap.size, 0, none⟩), .pointer (some ⟨w.heap.size + 1, 0, none⟩)] et ev (fun x x' => x'.cell? ⟨w.heap.size + 1, 0, none⟩ = some (.int .i64 n) ∧ ∃ y', S x y' ∧ x.heap.size ≤ y'.heap.size ∧ TabE y' ∧ Chg (fun b => b = w.heap.size + 1) y' x' ∧ ∀ b, w.heap.size ≤ b → b < W.heap.size → ¬ b = w.heap.size + 1 → x'.heap[b]? = W.heap[b]?) W hs (hT.up uW.out) ?_ (fun _ => by simp [go_sem]) (fun x hu => (ansI1_calls F cap w.heap.size (w.heap.size + 1) n 0 (.iface et ev) C (fun x x' => TabE x' ∧ S x x') x (by have := hu.size; omega) (fun h => by have := hC _ h; omega) hE (hu.cell z0) (hu.cell z1) (fun i => (hu.frozen (p := ⟨w.heap.size + 1, i, none⟩) (by show w.heap.size + 1 < _; omega)).trans (z2 i)) (HF.out x (uW.out.trans hu))).mono ?_)).mono ?_
  · rintro x x'' ⟨_, y', _, _, ht, hd, _⟩
    exact hd.cell ht (fun h => by have := hT.lt; have h' : 0 = w.heap.size + 1 := h; omega)
  · rintro _ x'' ⟨rfl, hh, y', ⟨ht, hS⟩, hc, hd⟩
    refine ⟨rfl, Chg.keeps (C := fun b => C b ∨ b = w.heap.size + 1) ((hc.mono (fun _ _ h => Or.inl h)).trans hd (fun _ _ h => Or.inr h)) ?_, hh, y', hS, hc.size, ht, hd, fun b h1 h2 h3 => ?_⟩
    · rintro b _ (h | h)
      · have := hC _ h; omega
      · omega
    · have hbx := Nat.lt_of_lt_of_le h2 hu.size
      exact ((hd.2 b (Nat.lt_of_lt_of_le hbx hc.size) h3).trans (hc.2 b hbx (fun h => by have := hC _ h; omega))).trans (hu.below.block b h2)
  rintro _ w1 ⟨b, rfl, hc⟩
  have KB : ∀ b, w.heap.size ≤ b → b < W.heap.size → ¬ b = w.heap.size + 1 → w1.heap[b]? = W.heap[b]? := by
    obtain ⟨x, x'', hx, ⟨LA0, y', hS, hs1, ht, hd, hk⟩, hs2, hb, he⟩ := hc.left
    exact fun b h1 h2 h3 => (he.2 b (Nat.lt_of_lt_of_le (Nat.lt_of_lt_of_le h2 hx.size) hs2) (fun hm => by have := hm.1; omega)).trans (hk b h1 h2 h3)
  have HL : Hid (∀ w3, Chg (Mid w.heap.size W.heap.size) w1 w3 → Caught w S s (.iface et ev) .nilIface b w3) := by
    obtain ⟨x, x'', hx, ⟨LA0, y', hS, hs1, ht, hd, hk⟩, hs2, hb, he⟩ := hc.left
    intro w3 h3
    have hbW : ¬ Mid w.heap.size W.heap.size b := fun hm => by have := hm.2; have := hx.size; omega
    have hb1 : b < w1.heap.size := World.block_lt_of_cell? w1 ⟨b, 0, none⟩ hc.at'.1
    refine ⟨⟨h3.cell hc.at'.1 hbW, h3.cell hc.at'.2.1 hbW, h3.cell hc.at'.2.2 hbW⟩, fun i => (h3.frozen (p := ⟨b, i, none⟩) hb1 hbW).trans (hc.free i), x, y', uW.out.trans hx, hS, hs1, Nat.le_trans hd.size hb, Chg.trans (Chg.trans (hd.mono (fun b _ hb => ?_)) he (fun b _ hb => ⟨by have := hb.1; omega, hb.2⟩)) h3 (fun b _ hb => ⟨hb.1, Nat.lt_of_lt_of_le hb.2 hx.size⟩)⟩
    exact ⟨by omega, by have := hx.size; omega⟩
  have HA := hide hc.at'
  clear hc z0 z1 z2 HF
  go_wp2_with fail
  go_at_call 121
  refine (errIs50 b 0 2 #[.iface 56 (.int .i64 50), .iface et ev] w1 (by decide) rfl (fun x hx => unwrap_err b 0 _ _ _ _ x (HA.out.up hx))).mono ?_
  rintro _ w2 ⟨rfl, hu2⟩
  have HU2 := hide hu2
  clear hu2 HA
  go_wp2
  go_ret2
  exact ⟨b, rfl, HL.out _ (Chg.of_up HU2.out)⟩

end Go.Proofs.YtnokokhbcfkifaaGreatDoor
