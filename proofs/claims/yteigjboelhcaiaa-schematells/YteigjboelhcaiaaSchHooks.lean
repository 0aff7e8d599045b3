/-
  Hooks of which some are there: what rialtoplay's and the law's own hooks answer, as their text runs.
-/
import Derived.Test.YteigjboelhcaiaaSchFns
import Derived.Test.YteigjboelhcaiaaOwnSlc
import Derived.Deep.AppendLies
import Derived.Deep.RegionLaw
namespace Go.Proofs.Yteigjboelhcaiaa
open Go.ChangeShapes Go.WideShapes Go.ChangeAt Go.RowKit
attribute [local go_sem ↓] Go.wp_at_zero Go.wp_at_succ

theorem extractor_calls (n : Int) (w : World) : Calls Try.prog 39 #[.int .i64 n, .pointer none] w fun e w' => (∃ f x y, e = .returned (.func f x y)) ∧ Up w w' := by
  go_enter Try.func39, Try.ntmps39
  go_wp2
  go_ret
  exact ⟨⟨_, _, _, rfl⟩, ((Up.refl _).alloc _).alloc _⟩
theorem comparator_calls (n : Int) (w : World) : Calls Try.prog 40 #[.int .i64 n, .pointer none] w fun e w' => (∃ f x y, e = .returned (.func f x y)) ∧ Up w w' := by
  go_enter Try.func40, Try.ntmps40
  go_wp2
  go_ret
  exact ⟨⟨_, _, _, rfl⟩, ((Up.refl _).alloc _).alloc _⟩

def oneC (v : Value) : List Value := [v]
theorem info_extractor : (Try.prog.info? 66).map (fun i => (i.zero, i.size, i.bytes)) = some (some .nilFunc, 1, 8) := by kernel_rfl
theorem info_comparator : (Try.prog.info? 68).map (fun i => (i.zero, i.size, i.bytes)) = some (some .nilFunc, 1, 8) := by kernel_rfl
abbrev OwnE := OwnG (α := Value) 66 1 oneC
abbrev OwnC := OwnG (α := Value) 68 1 oneC
theorem oneCell_fn {v : Value} (h : FitsFn v) : v.oneCell' = true := by
  rcases h with rfl | ⟨f, x, y, rfl⟩ <;> rfl
theorem fn_new {w : World} {t : TypeId} (v : Value) : ∀ j u, (oneC v)[j]? = some u → (w.alloc (.cells #[v] t)).cell? ((⟨w.heap.size, 0, none⟩ : Addr).add j) = some u := by
  intro j u hj
  match j with
  | 0 => simp [oneC] at hj; subst hj; simp [Addr.add]
  | j + 1 => simp [oneC] at hj

/-- append of a function at a step of a region that draws its order. -/
theorem step_append_fn {P : Program} {t e : TypeId} (ht : P.underlying t = some (.slice e)) (hi' : (P.info? e).map (fun i => (i.zero, i.size, i.bytes)) = some (some .nilFunc, 1, 8))
    {w : World} {ops : Array Oper} {o : Oper} {a : Act} {K : Act → World → Prop} {Q : Exit → Act → World → Prop} {E : Prop} (hgd : o.guard = none) (s x : Operand)
    (ho : o.op = .call { callee := .builtin .append, args := #[s, x], argTypes := #[t, t] }) (base : Nat) (v : Value) (l : List Value) (hs : a.eval s = v) (hown : OwnG e 1 oneC w base v l)
    (ad : Addr) (c : Nat) (new : Value) (hx : a.eval x = .slice (some ad) 1 c) (hfit : FitsFn new) (hnews : ∀ j u, (oneC new)[j]? = some u → w.cell? (ad.add j) = some u)
    (hlen : l.length + 1 ≤ 1000000) (hbase : base ≤ w.heap.size)
    (h : ∀ g cap w', OwnG e 1 oneC w' base (.slice (some ⟨g, 0, none⟩) (l.length + 1) cap) (l ++ [new]) → w.grownBy w' v.ownBlock → K (a.put o.dst (.slice (some ⟨g, 0, none⟩) (l.length + 1) cap)) w') : if Region.wanted o (yielded ops a.tmps) = true then Oper.wp P o a w K Q else E := by
  obtain ⟨i0, hi, hz0, hz1, hz2⟩ := info_parts hi'
  refine step_append_lies w hgd s x t ho base e i0 .nilFunc 1 8 ht hi hz0 hz1 hz2 rfl (by decide) v l.length (l.flatMap oneC) hs hown ad 1 c (oneC new) hx rfl hnews (fun u hu => ?_) (by decide) (by unfold maxLen; omega) (by omega) hbase w.heap.size rfl fun g cap w' h1 h2 _ _ => h g cap w' ?_ h2
  · simp only [oneC, List.mem_singleton] at hu; subst hu; exact oneCell_fn hfit
  · unfold OwnG
    rw [List.length_append, List.flatMap_append, List.flatMap_singleton]
    exact h1
/-- append of a function. -/
theorem append_fn {P : Program} {t e : TypeId} (ht : P.underlying t = some (.slice e)) (hi' : (P.info? e).map (fun i => (i.zero, i.size, i.bytes)) = some (some .nilFunc, 1, 8))
    {w : World} {ops : Array Oper} {rest : List Oper} {o : Oper} {a : Act} {Q : Exit → Act → World → Prop} (hgd : o.guard = none) (s x : Operand)
    (ho : o.op = .call { callee := .builtin .append, args := #[s, x], argTypes := #[t, t] }) (base : Nat) (v : Value) (l : List Value) (hs : a.eval s = v) (hown : OwnG e 1 oneC w base v l)
    (ad : Addr) (c : Nat) (new : Value) (hx : a.eval x = .slice (some ad) 1 c) (hfit : FitsFn new) (hnews : ∀ j u, (oneC new)[j]? = some u → w.cell? (ad.add j) = some u)
    (hlen : l.length + 1 ≤ 1000000) (hbase : base ≤ w.heap.size)
    (h : ∀ v' w', OwnG e 1 oneC w' base v' (l ++ [new]) → w.grownBy w' v.ownBlock → wpList P ops Q rest (a.put o.dst v') w') : wpList P ops Q (o :: rest) a w := by
  obtain ⟨i0, hi, hz0, hz1, hz2⟩ := info_parts hi'
  refine wpList_append_own w hgd s x t ho base e i0 .nilFunc 1 8 ht hi hz0 hz1 hz2 rfl (by decide) v l.length (l.flatMap oneC) hs hown ad 1 c (oneC new) hx rfl hnews (fun u hu => ?_) (by unfold maxLen; omega) (by omega) hbase fun v' w' h1 h2 _ => h v' w' ?_ h2
  · simp only [oneC, List.mem_singleton] at hu; subst hu; exact oneCell_fn hfit
  · unfold OwnG
    rw [List.length_append, List.flatMap_append, List.flatMap_singleton]
    exact h1

/-- All of them are there. -/
def AllFn (l : List Value) : Prop := ∀ i, i < l.length → ∃ f x y, l.getD i .nilFunc = .func f x y

theorem OwnG.keep {α : Type} {e : TypeId} {k : Nat} {cs : α → List Value} {w w' : World} {base B : Nat} {v : Value} {l : List α} (h : OwnG e k cs w base v l) (hb : Below B w w') (hg : ∀ g, v.ownBlock = some g → g < B) : OwnG e k cs w' base v l := by
  refine ⟨h.1, ?_⟩
  rcases h.2 with h0 | ⟨g, cap, cur, rfl, hb', hh, hr⟩
  · exact .inl h0
  · exact .inr ⟨g, cap, cur, rfl, hb', (hb.block g (hg g rfl)).trans hh, hr⟩
/-- Two cells that hold nothing yet. -/
def Free (w : World) (R : Nat) : Prop := w.cell? ⟨R, 0, none⟩ = some (.slice none 0 0) ∧ w.cell? ⟨R, 1, none⟩ = some (.slice none 0 0) ∧ ∀ j, w.frozen? ⟨R, j, none⟩ = false
theorem Free.below {w w' : World} {R B : Nat} (h : Free w R) (hb : Below B w w') (hR : R < B) : Free w' R :=
  ⟨(hb.cell (p := ⟨R, 0, none⟩) hR).trans h.1, (hb.cell (p := ⟨R, 1, none⟩) hR).trans h.2.1, fun j => (hb.frozen (p := ⟨R, j, none⟩) hR).trans (h.2.2 j)⟩
theorem Free.setCell {w : World} {R : Nat} (h : Free w R) (a : Addr) (v : Value) (ha : R ≠ a.block) : Free (w.setCell a v) R :=
  ⟨(World.cell?_setCell_other _ _ _ _ (fun e => ha (congrArg Addr.block e).symm)).trans h.1, (World.cell?_setCell_other _ _ _ _ (fun e => ha (congrArg Addr.block e).symm)).trans h.2.1, fun j => by rw [World.frozen?_setCell]; exact h.2.2 j⟩
theorem AllFn.add {l : List Value} (h : AllFn l) (f : Fn) (x y : Array Value) : AllFn (l ++ [.func f x y]) := by
  intro i hi
  rw [List.getD_eq_getElem?_getD]
  by_cases hx : i < l.length
  · rw [List.getElem?_append_left hx, ← List.getD_eq_getElem?_getD]
    exact h i hx
  · rw [List.getElem?_append_right (by omega)]
    have e : i - l.length = 0 := by simp at hi; omega
    rw [e]
    exact ⟨f, x, y, rfl⟩
theorem AllFn.fits {l : List Value} (h : AllFn l) (i : Nat) : FitsFn (l.getD i .nilFunc) := by
  by_cases hx : i < l.length
  · exact .inr (h i hx)
  · rw [List.getD_eq_getElem?_getD, List.getElem?_eq_none (by omega)]
    exact .inl rfl

set_option maxHeartbeats 4000000 in
theorem phooks_calls (w : World) : Calls Try.prog 32 #[.pointer none] w fun e w' => ∃ a c l a' c' l', e = .returned (.agg #[.slice a 5 c, .slice a' 3 c']) ∧ Fns w' a 5 l ∧ Fns w' a' 3 l' ∧ AllFn l ∧ AllFn l' ∧ Up w w' := by
  go_enter Try.func32, Try.ntmps32
  go_wp2_with fail
  obtain ⟨B, hB⟩ : ∃ B, B = w.heap.size + 2 := ⟨_, rfl⟩
  obtain ⟨D, hD⟩ : ∃ D, D = w.heap.size + 1 := ⟨_, rfl⟩
  have hsz : ((w.alloc (.cells #[.slice none 0 0, .slice none 0 0] 42)).alloc (.cells #[.slice none 0 0, .slice none 0 0] 42)).heap.size = B := by rw [hB]; simp
  have k0 : ((w.alloc (.cells #[.slice none 0 0, .slice none 0 0] 42)).alloc (.cells #[.slice none 0 0, .slice none 0 0] 42)).cell? ⟨D, 0, none⟩ = some (.slice none 0 0) := by rw [hD]; go_simp
  have k1 : ((w.alloc (.cells #[.slice none 0 0, .slice none 0 0] 42)).alloc (.cells #[.slice none 0 0, .slice none 0 0] 42)).cell? ⟨D, 1, none⟩ = some (.slice none 0 0) := by rw [hD]; go_simp
  have kf : ∀ j, ((w.alloc (.cells #[.slice none 0 0, .slice none 0 0] 42)).alloc (.cells #[.slice none 0 0, .slice none 0 0] 42)).frozen? ⟨D, j, none⟩ = false := by rw [hD]; intro j; go_simp
  have kr : Free ((w.alloc (.cells #[.slice none 0 0, .slice none 0 0] 42)).alloc (.cells #[.slice none 0 0, .slice none 0 0] 42)) w.heap.size := ⟨by go_simp, by go_simp, fun j => by go_simp⟩
  have hu0 : Up w ((w.alloc (.cells #[.slice none 0 0, .slice none 0 0] 42)).alloc (.cells #[.slice none 0 0, .slice none 0 0] 42)) := ((Up.refl _).alloc _).alloc _
  rw [← hD]
  generalize (w.alloc (.cells #[.slice none 0 0, .slice none 0 0] 42)).alloc (.cells #[.slice none 0 0, .slice none 0 0] 42) = W0 at *
  have hDB : D < B := by omega
  have hwD : w.heap.size ≤ D := by omega
  have hwD1 : w.heap.size ≠ D := by omega
  clear hB hD
  go_loopw [4] (fun i wr => ∃ (j : Nat) (v : Value) (l : List Value), j ≤ 5 ∧ i = .int .i64 j ∧ l.length = j ∧ AllFn l ∧ OwnE wr B v l ∧ Up w wr ∧ B ≤ wr.heap.size ∧ wr.cell? ⟨D, 0, none⟩ = some v ∧ wr.cell? ⟨D, 1, none⟩ = some (.slice none 0 0) ∧ (∀ j, wr.frozen? ⟨D, j, none⟩ = false) ∧ Free wr w.heap.size) (fun i _ => 5 - (intOf i).toNat)
  case atStart => exact ⟨0, _, [], by decide, rfl, rfl, fun i hi => absurd hi (Nat.not_lt_zero i), OwnG.nil _ _ _ _ _, hu0, Nat.le_of_eq hsz.symm, k0, k1, kf, kr⟩
  case round =>
    clear hsz k0 k1 kf hu0 kr
    obtain ⟨j, v, l, hj, rfl, hl, hall, ho, hu, hsz, c0, c1, fz, hr⟩ := hrel
    replace hu := hide hu
    replace hall := hide hall
    by_cases hlt : j < 5
    · have t0 : decide ((j : Int) < 5) = true := decide_eq_true (by omega)
      have f0 := fz 0
      have hDs : D < wr.heap.size := by omega
      go_wp2_with fail
      go_region_law
        (first
          | (refine step_append_fn Try.underlying39 info_extractor rfl _ _ (by rfl) B _ _ (by rfl) (OwnG.alloc (OwnG.up (w := wr.drew) ho hu2) _) _ 1 (.func f x y) (by rfl) (.inr ⟨f, x, y, rfl⟩) (fn_new _) (by omega) (Nat.le_trans hsz (Nat.le_trans hs2 (by simp))) ?_; intro g cap w3 ho3 hg3; have hb3 := OwnG.below (Below.refl B _) (Nat.le_trans hsz (Nat.le_trans hs2 (by simp))) (OwnG.alloc (OwnG.up (w := wr.drew) ho hu2) _) hg3; have ub := (Up.refl w2).alloc (.cells #[.func f x y] 66); have c3 := (hb3.cell (p := ⟨D, 0, none⟩) hDB).trans (ub.cell c0'); have f3 := (hb3.frozen (p := ⟨D, 0, none⟩) hDB).trans ((ub.frozen (p := ⟨D, 0, none⟩) hD2).trans ((hu2.frozen (p := ⟨D, 0, none⟩) hDs).trans f0)))
          | (go_simp; go_at_call 39; refine (extractor_calls _ _).mono ?_; rintro _ w2 ⟨⟨f, x, y, rfl⟩, hu2⟩; have hs2 := hu2.size; have c0' := hu2.cell (p := ⟨D, 0, none⟩) (v := v) c0; have hD2 : D < w2.heap.size := Nat.lt_of_lt_of_le hDs hs2; dsimp only))
      all_goals (
        have q1 := hide ((hb3.cell (p := ⟨D, 1, none⟩) hDB).trans (ub.cell (hu2.cell (p := ⟨D, 1, none⟩) c1)))
        have qf : Hid (∀ j, w3.frozen? ⟨D, j, none⟩ = false) := fun j => (hb3.frozen (p := ⟨D, j, none⟩) hDB).trans ((ub.frozen (p := ⟨D, j, none⟩) hD2).trans ((hu2.frozen (p := ⟨D, j, none⟩) hDs).trans (fz j)))
        have qu : Hid (Up w w3) := Below.trans (hu.out.drew.trans (hu2.trans ub)).below (Below.mono hb3 (by omega))
        have qr := hide ((((show Free wr.drew w.heap.size from hr).below (hu2.below) (Nat.lt_of_le_of_lt hwD hDs)).below ub.below (Nat.lt_of_le_of_lt hwD hD2)).below hb3 (Nat.lt_of_le_of_lt hwD hDB))
        have qs : B ≤ w3.heap.size := Nat.le_trans hsz (Nat.le_trans hs2 (Nat.le_trans (by simp) hb3.size))
        replace ho3 := hide ho3
        have ha3 := hide (hall.out.add f x y)
        replace c3 := hide c3
        clear hg3 hb3 ub f3 c0' hu2 hs2 hD2 ho c0 c1 fz f0 hr
        go_wp2
        go_roundw
        case rel =>
          exact ⟨j + 1, _, l ++ [.func f x y], by omega, by go_num, by simp [hl], ha3.out, ownsRow_setCell_below (hl ▸ ho3.out) hDB _, qu.out.setCell hwD _, by simpa using qs, World.cell?_setCell_same _ _ _ c3.out, (World.cell?_setCell_other _ _ _ _ (by simp)).trans q1.out, fun j => by rw [World.frozen?_setCell]; exact qf.out j, qr.out.setCell _ _ (by show w.heap.size ≠ D; exact hwD1)⟩
        case measure => simp [intOf]; omega)
    · obtain rfl : j = 5 := by omega
      have t0 : decide ((((5 : Nat) : Int)) < 5) = false := by decide
      obtain ⟨a, c, rfl, _, _, HE⟩ := ho.slc (z := .nilFunc) (ok := FitsFn) (fun _ => rfl) hall.out.fits
      rw [hl] at c0 ho
      rename World => wa
      obtain ⟨B2, hB2⟩ : ∃ B2, B2 = wa.heap.size := ⟨_, rfl⟩
      have hgE : ∀ g, (Value.slice a 5 c).ownBlock = some g → g < B2 := fun g hg => hB2 ▸ (ho.lt g hg).2
      have hDB1 := hDB
      have hDB2 : D < B2 := by omega
      have hallE := hall
      clear hall
      clear hlt hj HE
      go_wp2_with fail
      rw [show ((5 : Nat) : Int) = (5 : Int) from rfl]
      go_loopw [5] (fun i wr => ∃ (j : Nat) (v : Value) (l2 : List Value), j ≤ 3 ∧ i = .int .i64 j ∧ l2.length = j ∧ AllFn l2 ∧ OwnC wr B2 v l2 ∧ Up w wr ∧ B2 ≤ wr.heap.size ∧ wr.cell? ⟨D, 1, none⟩ = some v ∧ wr.cell? ⟨D, 0, none⟩ = some (.slice a 5 c) ∧ (∀ j, wr.frozen? ⟨D, j, none⟩ = false) ∧ Free wr w.heap.size ∧ OwnE wr B (.slice a 5 c) l) (fun i _ => 3 - (intOf i).toNat)
      case atStart => exact ⟨0, _, [], by decide, rfl, rfl, fun i hi => absurd hi (Nat.not_lt_zero i), OwnG.nil _ _ _ _ _, hu.out, Nat.le_of_eq hB2, c1, c0, fz, hr, ho⟩
      case round =>
        clear hu hsz c0 c1 fz hr ho
        obtain ⟨j, v, l2, hj, rfl, hl2, hall, ho, hu, hsz, c0, c1, fz, hr, hoE⟩ := hrel
        replace hu := hide hu
        replace hall := hide hall
        by_cases hlt : j < 3
        · have t2 : decide ((j : Int) < 3) = true := decide_eq_true (by omega)
          have f0 := fz 1
          have hDs : D < wr.heap.size := by omega
          go_wp2_with fail
          go_region_law
            (first
          | (refine step_append_fn Try.underlying40 info_comparator rfl _ _ (by rfl) B2 _ _ (by rfl) (OwnG.alloc (OwnG.up (w := wr.drew) ho hu2) _) _ 1 (.func f x y) (by rfl) (.inr ⟨f, x, y, rfl⟩) (fn_new _) (by omega) (Nat.le_trans hsz (Nat.le_trans hs2 (by simp))) ?_; intro g cap w3 ho3 hg3; have hb3 := OwnG.below (Below.refl B2 _) (Nat.le_trans hsz (Nat.le_trans hs2 (by simp))) (OwnG.alloc (OwnG.up (w := wr.drew) ho hu2) _) hg3; have ub := (Up.refl w2).alloc (.cells #[.func f x y] 68); have c3 := (hb3.cell (p := ⟨D, 1, none⟩) hDB2).trans (ub.cell c0'); have f3 := (hb3.frozen (p := ⟨D, 1, none⟩) hDB2).trans ((ub.frozen (p := ⟨D, 1, none⟩) hD2).trans ((hu2.frozen (p := ⟨D, 1, none⟩) hDs).trans f0)))
          | (go_simp; go_at_call 40; refine (comparator_calls _ _).mono ?_; rintro _ w2 ⟨⟨f, x, y, rfl⟩, hu2⟩; have hs2 := hu2.size; have c0' := hu2.cell (p := ⟨D, 1, none⟩) (v := v) c0; have hD2 : D < w2.heap.size := Nat.lt_of_lt_of_le hDs hs2; dsimp only))
          all_goals (
            have q1 := hide ((hb3.cell (p := ⟨D, 0, none⟩) hDB2).trans (ub.cell (hu2.cell (p := ⟨D, 0, none⟩) c1)))
            have qf : Hid (∀ j, w3.frozen? ⟨D, j, none⟩ = false) := fun j => (hb3.frozen (p := ⟨D, j, none⟩) hDB2).trans ((ub.frozen (p := ⟨D, j, none⟩) hD2).trans ((hu2.frozen (p := ⟨D, j, none⟩) hDs).trans (fz j)))
            have qu : Hid (Up w w3) := Below.trans (hu.out.drew.trans (hu2.trans ub)).below (Below.mono hb3 (by omega))
            have qr := hide ((((show Free wr.drew w.heap.size from hr).below (hu2.below) (Nat.lt_of_le_of_lt hwD hDs)).below ub.below (Nat.lt_of_le_of_lt hwD hD2)).below hb3 (Nat.lt_of_le_of_lt hwD hDB2))
            have qs : B2 ≤ w3.heap.size := Nat.le_trans hsz (Nat.le_trans hs2 (Nat.le_trans (by simp) hb3.size))
            have qe := hide (OwnG.keep (OwnG.alloc (OwnG.up (w := wr.drew) hoE hu2) _) hb3 hgE)
            replace ho3 := hide ho3
            have ha3 := hide (hall.out.add f x y)
            replace c3 := hide c3
            clear hg3 hb3 ub f3 c0' hu2 hs2 hD2 ho c0 c1 fz f0 hr hoE
            go_wp2
            go_roundw
            case rel =>
              exact ⟨j + 1, _, l2 ++ [.func f x y], by omega, by go_num, by simp [hl2], ha3.out, ownsRow_setCell_below (hl2 ▸ ho3.out) hDB2 _, qu.out.setCell hwD _, by simpa using qs, World.cell?_setCell_same _ _ _ c3.out, (World.cell?_setCell_other _ _ _ _ (by simp)).trans q1.out, fun j => by rw [World.frozen?_setCell]; exact qf.out j, qr.out.setCell _ _ (by show w.heap.size ≠ D; exact hwD1), ownsRow_setCell_below qe.out hDB1 _⟩
            case measure => simp [intOf]; omega)
        · obtain rfl : j = 3 := by omega
          have t2 : decide ((((3 : Nat) : Int)) < 3) = false := by decide
          have hRB : w.heap.size < B := Nat.lt_of_le_of_lt hwD hDB1
          have hRB2 : w.heap.size < B2 := Nat.lt_of_le_of_lt hwD hDB2
          obtain ⟨a', c', rfl, _, _, _⟩ := ho.slc (z := .nilFunc) (ok := FitsFn) (fun _ => rfl) hall.out.fits
          rw [hl2] at c0 ho
          have HC' := hide (OwnG.slc (z := .nilFunc) (ok := FitsFn) (show OwnC _ B2 _ _ from ownsRow_setCell_below (ownsRow_setCell_below (hl2 ▸ ho) (a := ⟨w.heap.size, 0, none⟩) hRB2 (.slice a 5 c)) (a := ⟨w.heap.size, 1, none⟩) hRB2 (.slice a' 3 c')) (fun _ => rfl) hall.out.fits)
          have HE' := hide (OwnG.slc (z := .nilFunc) (ok := FitsFn) (show OwnE _ B _ _ from ownsRow_setCell_below (ownsRow_setCell_below hoE (a := ⟨w.heap.size, 0, none⟩) hRB (.slice a 5 c)) (a := ⟨w.heap.size, 1, none⟩) hRB (.slice a' 3 c')) (fun _ => rfl) hallE.out.fits)
          obtain ⟨r0, r1, rf⟩ := hr
          have rf0 := rf 0
          have rf1 := rf 1
          clear ho hoE fz rf
          go_wp2
          refine bodyPost_ret (v := .agg #[.slice a 5 c, .slice a' 3 c']) (by simp [results, Try.results32, go_sem, r0, r1]) rfl ?_
          obtain ⟨a3, c3, e3, _, _, H3⟩ := HE'.out
          obtain ⟨a4, c4, e4, _, _, H4⟩ := HC'.out
          rw [hl] at e3 H3
          rw [hl2] at e4 H4
          obtain ⟨rfl, rfl⟩ : a = a3 ∧ c = c3 := by cases e3; exact ⟨rfl, rfl⟩
          obtain ⟨rfl, rfl⟩ : a' = a4 ∧ c' = c4 := by cases e4; exact ⟨rfl, rfl⟩
          exact ⟨a, c, l, a', c', l2, rfl, H3, H4, hallE.out, hall.out, (hu.out.setCell (Nat.le_refl _) _).setCell (Nat.le_refl _) _⟩

end Go.Proofs.Yteigjboelhcaiaa
