/-
  What package hook's calls tell of the statements' own user code, with its meter.
-/
import Derived.Test.YtmlfkjmondkfnaaDoorHookUse
import Derived.Test.YtmlfkjmondkfnaaDoorHookErrE
import Derived.Test.YtmlfkjmondkfnaaDoorHookCmpE
namespace Go.Proofs.YtmlfkjmondkfnaaDoor
open Go.ChangeShapes Go.WideShapes Go.ChangeAt Go.RowKit
set_option linter.unusedVariables false
attribute [local go_sem ↓] Go.wp_at_zero Go.wp_at_succ

/-- What told takes as told rightly. -/
def ToldOk (w : World) (mb : Nat) (s : ByteArray) (ev : Value) : Prop :=
  (ev = .nilIface ∧ ∃ c a h, Met w mb c a h 0) ∨ (∃ b s' c a h, ev = .iface 33 (.pointer (some ⟨b, 0, none⟩)) ∧ Met w mb c a h 0 ∧ FaultAt w b 0 s' (.iface 31 (.int .i64 10)) .nilIface) ∨
  (∃ b k h, ev = .iface 33 (.pointer (some ⟨b, 0, none⟩)) ∧ Met w mb 1 1 h 1 ∧ FaultAt w b 0 s (.iface 23 (.pointer (some ⟨k, 0, none⟩))) .nilIface ∧ w.cell? ⟨k, 0, none⟩ = some (.int .i64 1001))
theorem ToldOk.up {w w' : World} {mb : Nat} {s : ByteArray} {ev : Value} (h : ToldOk w mb s ev) (hu : Up w w') : ToldOk w' mb s ev := by
  rcases h with ⟨h1, c, a, h, h2⟩ | ⟨b, s', c, a, h, h1, h2, h3⟩ | ⟨b, k, h, h1, h2, h3, h4⟩
  · exact .inl ⟨h1, c, a, h, h2.up hu⟩
  · exact .inr (.inl ⟨b, s', c, a, h, h1, h2.up hu, h3.up hu⟩)
  · exact .inr (.inr ⟨b, k, h, h1, h2.up hu, h3.up hu, hu.cell h4⟩)
theorem told_all (mb : Nat) (s : ByteArray) (ev : Value) (w : World) (hT : TabE w) (h : ToldOk w mb s ev) :
    Calls Tryd.prog 22 #[ev, .pointer (some ⟨mb, 0, none⟩), .string s] w fun e w' => e = .returned (.bool true) ∧ Up w w' := by
  rcases h with ⟨rfl, c, a, h, h2⟩ | ⟨b, s', c, a, h, rfl, h2, h3⟩ | ⟨b, k, h, rfl, h2, h3, h4⟩
  · exact told_nil mb s w h2.1.2.2.2
  · exact told_bad mb b s s' w hT h2.1.2.2.2 h3
  · exact told_mark mb b k h s w hT h2 h3 h4

theorem left_mb {w w' : World} {mb : Nat} {T : World → World → Prop} (hmb : mb < w.heap.size) (h : Left w (fun x x' => Chg (fun g => g = mb ∨ w.heap.size ≤ g) x x' ∧ T x x') w') : Chg (fun g => g = mb) w w' ∧ ∃ x x', Up w x ∧ T x x' ∧ Chg (Mid w.heap.size x.heap.size) x' w' := by
  obtain ⟨x, x', h1, ⟨h2, h3⟩, h4, h5⟩ := h
  refine ⟨Chg.trans (Chg.trans (Chg.of_up h1) h2 (fun g hg h => h.resolve_right (by omega))) h5 (fun g hg h => by have := h.1; omega), x, x', h1, h3, h5⟩
theorem Chg.hand {w x x' : World} {mb : Nat} {a' : Option Addr} {n : Nat} {m : List VT} (h : Chg (fun g => g = mb ∨ RowB a' g) x x') (ha : Handed w.heap.size x a' n m) : Chg (fun g => g = mb ∨ w.heap.size ≤ g) x x' := h.mono (fun g _ h => h.imp id (fun h => ha.ge h))

theorem cal_ext (mb mx nx : Nat) (q a h : Int) (av : Option Addr) (n c : Nat) (m : List VT) (w : World) (hT : TabE w) (hTm : 0 < mb) (hq : q = 0 ∨ q = 1 ∨ q = 2 ∨ q = 3) (ha : a = 0 ∨ a = 1) (hn : n ≤ 12) (hv : Vals w av n m) (hsh : ∀ i, (m.getD i zeroT).2.2.1.size ≤ 200) (hm : Met w mb 0 a h 0) (hx : w.cell? ⟨mx, 0, none⟩ = some (.pointer (some ⟨mb, 0, none⟩))) (hy : w.cell? ⟨nx, 0, none⟩ = some (.int .i64 q)) (hne : ¬ nx = mb) :
    Calls Tryd.prog 20 #[.string ⟨#[120]⟩, .func (.func 69) #[] #[.pointer (some ⟨mx, 0, none⟩), .pointer (some ⟨nx, 0, none⟩)], .slice av n c] w fun e w' =>
      ∃ xk xz xt xf ev, e = .returned (.tuple #[.agg #[.int .i64 xk, .int .i64 xz, .string xt, .float .f64 xf], ev]) ∧ Chg (fun g => g = mb) w w' ∧ ToldOk w' mb ⟨#[120]⟩ ev ∧ ((ev = .nilIface ∧ (xk, xz, xt, xf) = exV q m) ∨ (∃ b, ev = .iface 33 (.pointer (some ⟨b, 0, none⟩)) ∧ xk = 0 ∧ xz = 0 ∧ xt = ⟨#[]⟩ ∧ xf = 0)) := by
  have hmb : mb < w.heap.size := World.block_lt_of_cell? w _ hm.1.1
  have hxb : mx < w.heap.size := World.block_lt_of_cell? w _ hx
  have hyb : nx < w.heap.size := World.block_lt_of_cell? w _ hy
  have htab : ∀ x x' : World, Up w x → Chg (fun g => g = mb ∨ w.heap.size ≤ g) x x' → TabE x' := fun x x' h1 h2 => h2.cell (hT.up h1) (fun e => e.elim (fun e => by have e' : 0 = mb := e; omega) (fun e => by have e' : w.heap.size ≤ 0 := e; have := hT.lt; omega))
  rcases ha with rfl | rfl
  · have hU : ∀ x a', Up w x → Handed w.heap.size x a' n m → Calls Tryd.prog 69 (#[.slice a' n n] ++ #[.pointer (some ⟨mx, 0, none⟩), .pointer (some ⟨nx, 0, none⟩)]) x fun e x' => e = .returned (.tuple #[.agg #[.int .i64 (exV q m).1, .int .i64 (exV q m).2.1, .string (exV q m).2.2.1, .float .f64 (exV q m).2.2.2], .nilIface]) ∧ Chg (fun b => b = mb ∨ RowB a' b) x x' ∧ TabE x' ∧ (Chg (fun g => g = mb ∨ w.heap.size ≤ g) x x' ∧ Met x' mb 1 0 h 0) := by
      intro x a' hx' hh
      refine (xtr_ok mx nx mb q h a' n n m w.heap.size x hq hn hsh hh.lent hmb hxb hyb hne (hx'.cell hx) (hx'.cell hy) (hm.up hx')).mono ?_
      rintro _ x' ⟨rfl, h1, h2⟩
      exact ⟨rfl, h1, htab x x' hx' (h1.hand hh), h1.hand hh, h2⟩
    by_cases hi : isB (exV q m) = true
    · refine (ext_ok ⟨#[120]⟩ _ _ av n c m (exV q m).1 (exV q m).2.1 (exV q m).2.2.1 (exV q m).2.2.2 (fun b => b = mb) _ w (by decide) hT (fun b e => by omega) hn hv hsh (by have := exV_s q m hsh; omega) hi (fun v w' => xtr_enter v _ w') hU).mono ?_
      rintro _ w' ⟨rfl, hl⟩
      obtain ⟨hc, x, x', h1, h2, h3⟩ := left_mb hmb hl
      exact ⟨_, _, _, _, _, rfl, hc, .inl ⟨rfl, 1, 0, h, h2.chg h3 (fun hm => by have := hm.1; omega)⟩, .inl ⟨rfl, rfl⟩⟩
    · refine (ext_bad ⟨#[120]⟩ _ _ av n c m (exV q m).1 (exV q m).2.1 (exV q m).2.2.1 (exV q m).2.2.2 (fun b => b = mb) _ w (by decide) hT (fun b e => by omega) hn hv hsh (by have := exV_s q m hsh; omega) (by simpa using hi) (fun v w' => xtr_enter v _ w') hU).mono ?_
      rintro _ w' ⟨b, rfl, hl⟩
      obtain ⟨hc, x, x', h1, h2, h3⟩ := left_mb hmb hl.leftS
      exact ⟨_, _, _, _, _, rfl, hc, .inr (.inl ⟨b, _, 1, 0, h, rfl, h2.chg h3 (fun hm => by have := hm.1; omega), hl.at'⟩), .inr ⟨b, rfl, rfl, rfl, rfl, rfl⟩⟩
  · refine (ext_errV ⟨#[120]⟩ 69 #[.pointer (some ⟨mx, 0, none⟩), .pointer (some ⟨nx, 0, none⟩)] av n c m 0 0 ⟨#[]⟩ 0 23 (fun b => b = mb) (fun x x' ev => Chg (fun g => g = mb ∨ w.heap.size ≤ g) x x' ∧ (Met x' mb 1 1 h 1 ∧ ∃ k, ev = .pointer (some ⟨k, 0, none⟩) ∧ x.heap.size ≤ k ∧ x'.cell? ⟨k, 0, none⟩ = some (.int .i64 1001))) w (by decide) hT (fun b e => by omega) hn hv hsh (by decide) (fun v w' => xtr_enter v _ w') (fun x a' hx' hh => (xtr_err mx nx mb q h (.slice a' n n) x (hx'.cell hx) (hm.up hx')).mono ?_)).mono ?_
    · rintro _ x' ⟨k, rfl, h1, h2, h3, h4⟩
      have h5 : Chg (fun g => g = mb ∨ w.heap.size ≤ g) x x' := h1.mono (fun g _ h => Or.inl h)
      exact ⟨_, rfl, h1.mono (fun g _ h => Or.inl h), htab x x' hx' h5, h5, h2, k, rfl, h3, h4⟩
    · rintro _ w' ⟨ev, b, rfl, hl⟩
      obtain ⟨hc, x, x', h1, ⟨h2, k, rfl, h6, h7⟩, h3⟩ := left_mb hmb hl.leftS
      exact ⟨_, _, _, _, _, rfl, hc, .inr (.inr ⟨b, k, h, rfl, h2.chg h3 (fun hm => by have := hm.1; omega), hl.at', h3.cell h7 (fun hm => by have h8 : k < x.heap.size := hm.2; omega)⟩), .inr ⟨b, rfl, rfl, rfl, rfl, rfl⟩⟩

theorem cmpI_small (r : Int) : -1 ≤ cmpI r 0 ∧ cmpI r 0 ≤ 1 := by rcases cmpI_cases r 0 with h | h | h <;> omega
theorem cal_cmp (mb mx nx : Nat) (q a h : Int) (av bv : Option Addr) (n c p d : Nat) (m l : List VT) (w : World) (hT : TabE w) (hTm : 0 < mb) (hq : q = 0 ∨ q = 1 ∨ q = 2) (ha : a = 0 ∨ a = 1) (hn : n ≤ 12) (hv : Vals w av n m) (hsh : ∀ i, (m.getD i zeroT).2.2.1.size ≤ 200) (hp : p ≤ 12) (hw : Vals w bv p l) (hsl : ∀ i, (l.getD i zeroT).2.2.1.size ≤ 200) (hm : Met w mb 0 a h 0) (hx : w.cell? ⟨mx, 0, none⟩ = some (.pointer (some ⟨mb, 0, none⟩))) (hy : w.cell? ⟨nx, 0, none⟩ = some (.int .i64 q)) (hne : ¬ nx = mb) :
    Calls Tryd.prog 24 #[.string ⟨#[121]⟩, .func (.func 71) #[] #[.pointer (some ⟨mx, 0, none⟩), .pointer (some ⟨nx, 0, none⟩)], .slice av n c, .slice bv p d] w fun e w' =>
      ∃ r ev, e = .returned (.tuple #[.int .i64 r, ev]) ∧ Chg (fun g => g = mb) w w' ∧ ToldOk w' mb ⟨#[121]⟩ ev ∧ -1 ≤ r ∧ r ≤ 1 ∧ (ev = .nilIface ∨ (∃ b, ev = .iface 33 (.pointer (some ⟨b, 0, none⟩))) ∧ r = 0) := by
  have hmb : mb < w.heap.size := World.block_lt_of_cell? w _ hm.1.1
  have htab : ∀ x x' : World, Up w x → Chg (fun g => g = mb ∨ w.heap.size ≤ g) x x' → TabE x' := fun x x' h1 h2 => h2.cell (hT.up h1) (fun e => e.elim (fun e => by have e' : 0 = mb := e; omega) (fun e => by have e' : w.heap.size ≤ 0 := e; have := hT.lt; omega))
  rcases ha with rfl | rfl
  · refine (cmp_ok ⟨#[121]⟩ 71 #[.pointer (some ⟨mx, 0, none⟩), .pointer (some ⟨nx, 0, none⟩)] av bv n c p d m l (wrap64 (7 * cxV q m l)) (fun b => b = mb) (fun x x' => Chg (fun g => g = mb ∨ w.heap.size ≤ g) x x' ∧ Met x' mb 1 0 h 0) w (by decide) hT (fun b e => by omega) hn hv hsh hp hw hsl (fun v v' w' => cpr_enter v v' _ w') (fun x a' b' hx' h1 h2 => (cpr_ok mx nx mb q h a' b' n p m l x hq hn hp h1.1 h2.1 (fun hr => by have := h1.ge hr; omega) (fun hr => by have := h2.ge hr; omega) hsh hsl hne (hx'.cell hx) (hx'.cell hy) (hm.up hx')).mono ?_)).mono ?_
    · rintro _ x' ⟨rfl, g1, g2⟩
      have h5 : Chg (fun g => g = mb ∨ w.heap.size ≤ g) x x' := g1.mono (fun g _ h => Or.inl h)
      exact ⟨rfl, g1.mono (fun g _ h => Or.inl h), htab x x' hx' h5, h5, g2⟩
    · rintro _ w' ⟨rfl, hl⟩
      obtain ⟨hc, x, x', h1, h2, h3⟩ := left_mb hmb hl
      exact ⟨_, _, rfl, hc, .inl ⟨rfl, 1, 0, h, h2.chg h3 (fun hm => by have := hm.1; omega)⟩, (cmpI_small _).1, (cmpI_small _).2, .inl rfl⟩
  · refine (cmp_errV ⟨#[121]⟩ 71 #[.pointer (some ⟨mx, 0, none⟩), .pointer (some ⟨nx, 0, none⟩)] av bv n c p d m l 0 23 (fun b => b = mb) (fun x x' ev => Chg (fun g => g = mb ∨ w.heap.size ≤ g) x x' ∧ (Met x' mb 1 1 h 1 ∧ ∃ k, ev = .pointer (some ⟨k, 0, none⟩) ∧ x.heap.size ≤ k ∧ x'.cell? ⟨k, 0, none⟩ = some (.int .i64 1001))) w (by decide) hT (fun b e => by omega) hn hv hsh hp hw hsl (fun v v' w' => cpr_enter v v' _ w') (fun x a' b' hx' h1 h2 => (cpr_err mx nx mb h _ _ x (hx'.cell hx) (hm.up hx')).mono ?_)).mono ?_
    · rintro _ x' ⟨k, rfl, g1, g2, g3, g4⟩
      have h5 : Chg (fun g => g = mb ∨ w.heap.size ≤ g) x x' := g1.mono (fun g _ h => Or.inl h)
      exact ⟨_, rfl, g1.mono (fun g _ h => Or.inl h), htab x x' hx' h5, h5, g2, k, rfl, g3, g4⟩
    · rintro _ w' ⟨ev, b, rfl, hl⟩
      obtain ⟨hc, x, x', h1, ⟨h2, k, rfl, h6, h7⟩, h3⟩ := left_mb hmb hl.leftS
      exact ⟨0, _, rfl, hc, .inr (.inr ⟨b, k, h, rfl, h2.chg h3 (fun hm => by have := hm.1; omega), hl.at', h3.cell h7 (fun hm => by have h8 : k < x.heap.size := hm.2; omega)⟩), by decide, by decide, .inr ⟨⟨b, rfl⟩, rfl⟩⟩

theorem cal_mut (mb mx qx vx : Nat) (q a h k z : Int) (t : ByteArray) (f : Nat) (av : Option Addr) (n c : Nat) (m : List VT) (w : World) (hT : TabE w) (hTm : 0 < mb) (ha : a = 0 ∨ a = 1) (hn : n ≤ 10) (hv : Vals w av n m) (hsh : ∀ i, (m.getD i zeroT).2.2.1.size ≤ 200) (hf : Fits (k, z, t, f)) (hts : t.size ≤ 200) (hm : Met w mb 0 a h 0) (hx : w.cell? ⟨mx, 0, none⟩ = some (.pointer (some ⟨mb, 0, none⟩))) (hy : w.cell? ⟨qx, 0, none⟩ = some (.int .i64 q)) (hz : At w vx 0 (k, z, t, f)) (hne : ¬ qx = mb) (hne2 : ¬ vx = mb) :
    Calls Tryd.prog 25 #[.func (.func 59) #[] #[.pointer (some ⟨mx, 0, none⟩), .pointer (some ⟨qx, 0, none⟩), .pointer (some ⟨vx, 0, none⟩)], .slice av n c] w fun e w' =>
      ∃ ra rn rc ev, e = .returned (.tuple #[.slice ra rn rc, ev]) ∧ Chg (fun g => g = mb) w w' ∧ ToldOk w' mb ⟨#[]⟩ ev ∧ ((ev = .nilIface ∧ rn = (setV m q (k, z, t, f)).length ∧ Vals w' ra rn (setV m q (k, z, t, f))) ∨ (∃ b, ev = .iface 33 (.pointer (some ⟨b, 0, none⟩))) ∧ rn = 0) := by
  have hmb : mb < w.heap.size := World.block_lt_of_cell? w _ hm.1.1
  have hlen : m.length = n := hv.1
  have htab : ∀ x x' : World, Up w x → Chg (fun g => g = mb ∨ w.heap.size ≤ g) x x' → TabE x' := fun x x' h1 h2 => h2.cell (hT.up h1) (fun e => e.elim (fun e => by have e' : 0 = mb := e; omega) (fun e => by have e' : w.heap.size ≤ 0 := e; have := hT.lt; omega))
  rcases ha with rfl | rfl
  · refine (mut_ok 59 #[.pointer (some ⟨mx, 0, none⟩), .pointer (some ⟨qx, 0, none⟩), .pointer (some ⟨vx, 0, none⟩)] av n c m (setV m q (k, z, t, f)) (fun b => b = mb) (fun x x' => Chg (fun g => g = mb ∨ w.heap.size ≤ g) x x' ∧ Met x' mb 1 0 h 0) w hT (fun b e => by omega) (by omega) hv hsh (by have := setV_length m q (k, z, t, f); omega) (setV_all (fun v => v.2.2.1.size ≤ 200) m q (k, z, t, f) (by decide) hsh hts) (fun v w' => str_enter v _ w') (fun x a' hx' h1 => (str_ok mx qx vx mb q h k z t f a' n m x (by omega) h1.1 (fun hr => by have := h1.ge hr; omega) hf hne hne2 (hx'.cell hx) (hx'.cell hy) (hz.up hx') (hm.up hx')).mono ?_)).mono ?_
    · rintro _ x' ⟨ra, rc, rfl, g0, g1, g2, g3⟩
      have h5 : Chg (fun g => g = mb ∨ w.heap.size ≤ g) x x' := g2.mono (fun g _ h => Or.inl h)
      exact ⟨ra, rc, rfl, g0, fun b hb => .inr (g1 b hb), g2.mono (fun g _ h => Or.inl h), htab x x' hx' h5, h5, g3⟩
    · rintro _ w' ⟨a2, rfl, hh, hl⟩
      obtain ⟨hc, x, x', h1, h2, h3⟩ := left_mb hmb hl
      exact ⟨_, _, _, _, rfl, hc, .inl ⟨rfl, 1, 0, h, h2.chg h3 (fun hm => by have := hm.1; omega)⟩, .inl ⟨rfl, rfl, hh.1⟩⟩
  · refine (mut_errV 59 #[.pointer (some ⟨mx, 0, none⟩), .pointer (some ⟨qx, 0, none⟩), .pointer (some ⟨vx, 0, none⟩)] av n c m 23 (fun b => b = mb) (fun x x' ev => Chg (fun g => g = mb ∨ w.heap.size ≤ g) x x' ∧ (Met x' mb 1 1 h 1 ∧ ∃ k, ev = .pointer (some ⟨k, 0, none⟩) ∧ x.heap.size ≤ k ∧ x'.cell? ⟨k, 0, none⟩ = some (.int .i64 1001))) w hT (fun b e => by omega) (by omega) hv hsh (fun v w' => str_enter v _ w') (fun x a' hx' h1 => (str_err mx qx vx mb h _ x (hx'.cell hx) (hm.up hx')).mono ?_)).mono ?_
    · rintro _ x' ⟨k, rfl, g1, g2, g3, g4⟩
      have h5 : Chg (fun g => g = mb ∨ w.heap.size ≤ g) x x' := g1.mono (fun g _ h => Or.inl h)
      exact ⟨_, rfl, g1.mono (fun g _ h => Or.inl h), htab x x' hx' h5, h5, g2, k, rfl, g3, g4⟩
    · rintro _ w' ⟨ev, b, rfl, hl⟩
      obtain ⟨hc, x, x', h1, ⟨h2, k', rfl, h6, h7⟩, h3⟩ := left_mb hmb hl.leftS
      exact ⟨none, 0, 0, _, rfl, hc, .inr (.inr ⟨b, k', h, rfl, h2.chg h3 (fun hm => by have := hm.1; omega), hl.at', h3.cell h7 (fun hm => by have h8 : k' < x.heap.size := hm.2; omega)⟩), .inr ⟨⟨b, rfl⟩, rfl⟩⟩

end Go.Proofs.YtmlfkjmondkfnaaDoor
