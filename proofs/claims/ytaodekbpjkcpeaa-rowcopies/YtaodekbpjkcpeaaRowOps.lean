/-
  What the landed store's inner calls do, as their text runs: room, copied, write, take's place among them.
-/
import Derived.Test.YtaodekbpjkcpeaaRowSto
import Derived.Deep.RegionLaw
namespace Go.Proofs.Ytaodekbpjkcpeaa
open Go.ChangeShapes Go.WideShapes Go.ChangeAt Go.RowKit
set_option linter.unusedVariables false
attribute [local go_sem ↓] Go.wp_at_zero Go.wp_at_succ
attribute [local go_sem] run_store_float

/-- How many rows there is room for. -/
def roomN (k : Int) : Nat := if k ≤ 0 then 0 else if k ≤ 200 then k.toNat else 200
theorem roomN_le (k : Int) : roomN k ≤ 200 := by unfold roomN; split; omega; split <;> omega

theorem room_calls (k : Int) (w : World) : Calls Try.prog 33 #[.int .i64 k] w fun e w' => e = .returned (.int .i64 (roomN k)) ∧ w' = w := by
  have hk : ((roomN k : Nat) : Int) = max 0 (min k 200) := by unfold roomN; split; omega; split <;> omega
  go_enter Try.func33, Try.ntmps33
  go_wp2
  go_ret
  refine ⟨?_, rfl⟩
  rw [hk]
  rfl

theorem NewRow.mono {B B' : Nat} {w : World} {a : Option Addr} {n : Nat} {m : List VT} (h : NewRow B w a n m) (hB : B' ≤ B) : NewRow B' w a n m :=
  ⟨h.1, h.2.imp id (fun ⟨G, e, h1, h2⟩ => ⟨G, e, Nat.le_trans hB h1, h2⟩)⟩
theorem NewRow.up {B : Nat} {w w' : World} {a : Option Addr} {n : Nat} {m : List VT} (h : NewRow B w a n m) (hu : Up w w') : NewRow B w' a n m :=
  ⟨h.1.up hu, h.2.imp id (fun ⟨G, e, h1, h2, h3⟩ => ⟨G, e, h1, Nat.lt_of_lt_of_le h2 hu.size, fun i => (hu.frozen (p := ⟨G, i, none⟩) h2).trans (h3 i)⟩)⟩
theorem NewRow.chg {B : Nat} {C : Nat → Prop} {w w' : World} {a : Option Addr} {n : Nat} {m : List VT} (h : NewRow B w a n m) (hc : Chg C w w') (hC : ∀ x, B ≤ x → ¬ C x) : NewRow B w' a n m := by
  have h2 : n = 0 ∨ ∃ g o, a = some ⟨g, o, none⟩ ∧ B ≤ g := h.2.imp id (fun ⟨G, e, h1, _⟩ => ⟨G, 0, e, h1⟩)
  exact ⟨(ValsO.chg (O := fun g => B ≤ g) ⟨h.1, h2⟩ hc hC).1, h.2.imp id (fun ⟨G, e, h1, h2, h3⟩ => ⟨G, e, h1, Nat.lt_of_lt_of_le h2 hc.size, fun i => (hc.frozen (p := ⟨G, i, none⟩) h2 (hC G h1)).trans (h3 i)⟩)⟩

set_option maxRecDepth 20000 in
set_option maxHeartbeats 4000000 in
theorem copied_calls (x ver : Int) (a : Option Addr) (n c : Nat) (m : List VT) (w : World) (hv : Vals w a n m) (hs : Small m) :
    Calls Try.prog 36 #[.agg #[.int .i64 x, .int .i64 ver, .slice a n c]] w fun e w' => ∃ a', e = .returned (.agg #[.int .i64 x, .int .i64 ver, .slice a' n n]) ∧ NewRow w.heap.size w' a' n m ∧ Up w w' := by
  have hl : n ≤ 12 := by rw [← hv.1]; exact hs.1
  have HV := hide hv
  have HS := hide hs.2
  clear hv hs
  go_enter Try.func36, Try.ntmps36
  go_wp2_with fail
  go_at_call 49
  refine (scopy_calls a n c m _ hl (HV.out.up (by exact ((Up.refl w).alloc _).alloc _)) HS.out).mono ?_
  rintro _ w1 ⟨a', rfl, hn1, hu1⟩
  have e0 : w1.cell? ⟨w.heap.size, 0, none⟩ = some (.int .i64 x) := hu1.cell (by go_simp)
  have e1 : w1.cell? ⟨w.heap.size, 1, none⟩ = some (.int .i64 ver) := hu1.cell (by go_simp)
  have e2 : w1.cell? ⟨w.heap.size, 2, none⟩ = some (.slice a n c) := hu1.cell (by go_simp)
  have d0 : w1.cell? ⟨w.heap.size + 1, 0, none⟩ = some (.int .i64 0) := hu1.cell (by go_simp)
  have d1 : w1.cell? ⟨w.heap.size + 1, 1, none⟩ = some (.int .i64 0) := hu1.cell (by go_simp)
  have d2 : w1.cell? ⟨w.heap.size + 1, 2, none⟩ = some (.slice none 0 0) := hu1.cell (by go_simp)
  have f2 : w1.frozen? ⟨w.heap.size, 2, none⟩ = false := (hu1.frozen (p := ⟨w.heap.size, 2, none⟩) (by simp; omega)).trans (by go_simp)
  have f3 : ∀ o, w1.frozen? ⟨w.heap.size + 1, o, none⟩ = false := fun o => (hu1.frozen (p := ⟨w.heap.size + 1, o, none⟩) (by simp)).trans (by go_simp)
  have g0 := f3 0
  have g1 := f3 1
  have g2 := f3 2
  have hus := hu1.size
  have hsz : w.heap.size + 2 ≤ w1.heap.size := by simpa using hus
  have hn2 := hide (hn1.mono (B' := w.heap.size + 2) (by simp))
  have hu2 : Hid (Up w w1) := (((Up.refl w).alloc _).alloc _).trans hu1
  clear hu1 hn1 f3 hus
  have hb : Hid (NewRow w.heap.size w1 a' n m) := hn2.out.mono (by omega)
  go_wp2
  (try simp only [Exit.inBlock, Exit.then])
  refine bodyPost_ret (v := .agg #[.int .i64 x, .int .i64 ver, .slice a' n n]) (by simp [results, Try.results36, go_sem, d0, d1, d2]) rfl ?_
  have hc : Chg (fun y => y = w.heap.size ∨ y = w.heap.size + 1) w1 _ := ((((Chg.refl _ w1).set (C := fun y => y = w.heap.size ∨ y = w.heap.size + 1) (p := ⟨w.heap.size, 2, none⟩) (fun _ => .inl rfl) (.slice a' n n)).set (p := ⟨w.heap.size + 1, 0, none⟩) (fun _ => .inr rfl) (.int .i64 x)).set (p := ⟨w.heap.size + 1, 1, none⟩) (fun _ => .inr rfl) (.int .i64 ver)).set (p := ⟨w.heap.size + 1, 2, none⟩) (fun _ => .inr rfl) (.slice a' n n)
  exact ⟨a', rfl, (hn2.out.chg hc (fun y h1 h2 => by rcases h2 with h2 | h2 <;> omega)).mono (by omega), ((Chg.of_up (C := fun y => y = w.heap.size ∨ y = w.heap.size + 1) hu2.out).trans hc (fun _ _ h => h)).up (fun y h1 h2 => by rcases h2 with h2 | h2 <;> omega)⟩

set_option maxRecDepth 20000 in
set_option maxHeartbeats 8000000 in
theorem write_calls (p S n s c k : Nat) (wr x ver : Int) (a : Option Addr) (m : List VT) (w : World) (hn : n ≤ 200) (hs : s < n) (hpS : ¬ p = S) (c0 : w.cell? ⟨p, 0, none⟩ = some (.slice (some ⟨S, 0, none⟩) n n)) (c4 : w.cell? ⟨p, 4, none⟩ = some (.int .i64 wr))
    (hfs : ∀ o, w.frozen? ⟨S, o, none⟩ = false) (hfp : w.frozen? ⟨p, 4, none⟩ = false) (hroom : ∀ o, o < n * 3 → ∃ v, w.cell? ⟨S, o, none⟩ = some v) (hwr : 0 ≤ wr ∧ wr ≤ 1000000) (hv : Vals w a k m) (hsm : Small m) :
    Calls Try.prog 41 #[.pointer (some ⟨p, 0, none⟩), .int .i64 s, .agg #[.int .i64 x, .int .i64 ver, .slice a k c]] w fun e w' => e = .returned (.tuple #[]) ∧ ∃ w1 a', Up w w1 ∧ NewRow w.heap.size w1 a' k m ∧ w' = (set3 w1 S (s * 3) (.int .i64 x) (.int .i64 ver) (.slice a' k k)).setCell ⟨p, 4, none⟩ (.int .i64 (wr + 1)) := by
  obtain ⟨u0, s0⟩ := hroom (s * 3) (by omega)
  obtain ⟨u1, s1⟩ := hroom (s * 3 + 1) (by omega)
  obtain ⟨u2, s2⟩ := hroom (s * 3 + 2) (by omega)
  have f0 := hfs (s * 3)
  have f1 := hfs (s * 3 + 1)
  have f2 := hfs (s * 3 + 2)
  have hSl := World.block_lt_of_cell? w ⟨S, s * 3, none⟩ s0
  have hpl := World.block_lt_of_cell? w ⟨p, 0, none⟩ c0
  clear hroom hfs
  have HV := hide hv
  have HS := hide hsm
  clear hv hsm
  have hSp : ¬ S = p := fun e => hpS e.symm
  have ew : IntKind.i64.wrap (wr + 1) = wr + 1 := by simp [IntKind.wrap, IntKind.bits, IntKind.signed]; omega
  go_enter Try.func41, Try.ntmps41
  go_wp2_with fail
  have hu0 : Up w (w.alloc (.cells #[.int .i64 x, .int .i64 ver, .slice a k c] 35)) := (Up.refl _).alloc _
  have b0 : (w.alloc (.cells #[.int .i64 x, .int .i64 ver, .slice a k c] 35)).cell? ⟨w.heap.size, 0, none⟩ = some (.int .i64 x) := by go_simp
  have b1 : (w.alloc (.cells #[.int .i64 x, .int .i64 ver, .slice a k c] 35)).cell? ⟨w.heap.size, 1, none⟩ = some (.int .i64 ver) := by go_simp
  have b2 : (w.alloc (.cells #[.int .i64 x, .int .i64 ver, .slice a k c] 35)).cell? ⟨w.heap.size, 2, none⟩ = some (.slice a k c) := by go_simp
  have HSp := hide hSp
  replace c0 := hu0.cell c0
  replace c4 := hu0.cell c4
  replace s0 := hu0.cell s0
  replace s1 := hu0.cell s1
  replace s2 := hu0.cell s2
  replace f0 := (hu0.frozen (p := ⟨S, s * 3, none⟩) hSl).trans f0
  replace f1 := (hu0.frozen (p := ⟨S, s * 3 + 1, none⟩) hSl).trans f1
  replace f2 := (hu0.frozen (p := ⟨S, s * 3 + 2, none⟩) hSl).trans f2
  replace hfp := (hu0.frozen (p := ⟨p, 4, none⟩) hpl).trans hfp
  have hS2 := Nat.lt_of_lt_of_le hSl hu0.size
  have hp2 := Nat.lt_of_lt_of_le hpl hu0.size
  have hsz := hide hu0.size
  have HU := hide hu0
  clear hu0
  generalize hW : w.alloc (.cells #[.int .i64 x, .int .i64 ver, .slice a k c] 35) = W at *
  clear hW
  have e3 : (s : Int) < n := by omega
  go_region_law (go_simp; go_at_call 36; refine (copied_calls x ver a k c m _ (HV.out.up (HU.out.drew)) HS.out).mono ?_; rintro _ w2 ⟨a', rfl, hn2, hu2⟩; have q0 := hu2.cell (p := ⟨p, 0, none⟩) (v := .slice (some ⟨S, 0, none⟩) n n) c0; have q4 := hu2.cell (p := ⟨p, 4, none⟩) (v := .int .i64 wr) c4; have q5 := hu2.cell (p := ⟨S, s * 3, none⟩) (v := u0) s0; have q6 := hu2.cell (p := ⟨S, s * 3 + 1, none⟩) (v := u1) s1; have q7 := hu2.cell (p := ⟨S, s * 3 + 2, none⟩) (v := u2) s2; have r0 := (hu2.frozen (p := ⟨S, s * 3, none⟩) hS2).trans f0; have r1 := (hu2.frozen (p := ⟨S, s * 3 + 1, none⟩) hS2).trans f1; have r2 := (hu2.frozen (p := ⟨S, s * 3 + 2, none⟩) hS2).trans f2; have r4 := (hu2.frozen (p := ⟨p, 4, none⟩) hp2).trans hfp; dsimp only)
  all_goals
    have hn3 : Hid (NewRow w.heap.size w2 a' k m) := hn2.mono (by exact hsz.out)
    have hu3 : Hid (Up w w2) := HU.out.drew.trans hu2
    have v4 : (set3 w2 S (s * 3) (.int .i64 x) (.int .i64 ver) (.slice a' k k)).cell? ⟨p, 4, none⟩ = some (.int .i64 wr) := (chg_s3 w2 S (s * 3) _ _ _).cell q4 hpS
    have t4 : (set3 w2 S (s * 3) (.int .i64 x) (.int .i64 ver) (.slice a' k k)).frozen? ⟨p, 4, none⟩ = false := by rw [frozen_set3]; exact r4
    change Exit.then _ _ _ _ (set3 w2 S (s * 3) (.int .i64 x) (.int .i64 ver) (.slice a' k k))
    clear q0 q4 q5 q6 q7 r0 r1 r2 r4 c0 c4 s0 s1 s2 f0 f1 f2 hfp hn2 hu2 b0 b1 b2
    have HWD : Hid (set3 w2 S (s * 3) (.int .i64 x) (.int .i64 ver) (.slice a' k k) = set3 w2 S (s * 3) (.int .i64 x) (.int .i64 ver) (.slice a' k k)) := rfl
    generalize hY : set3 w2 S (s * 3) (.int .i64 x) (.int .i64 ver) (.slice a' k k) = Y at v4 t4 ⊢
    replace hY := hide hY
    clear HWD
    go_wp2
    go_end0
    exact ⟨rfl, w2, a', hu3.out, hn3.out, by rw [hY.out]⟩

end Go.Proofs.Ytaodekbpjkcpeaa
