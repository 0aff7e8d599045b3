/-
  What stands with a key among entries told in a row, and where: find of the laws.
-/
import Derived.Test.YtofpakpbbpcalaaGrEnt
import Derived.Test.YtofpakpbbpcalaaRefRowsAll
import Derived.Test.YtofpakpbbpcalaaRowsOrd
namespace Go.Proofs.Ytofpakpbbpcalaa
open Go.ChangeShapes Go.WideShapes Go.ChangeAt Go.RowKit
set_option linter.unusedVariables false

/-- Two cells that hold an entry. -/
def EAt (w : World) (g o : Nat) (x : ET) : Prop := w.cell? ⟨g, o, none⟩ = some (.slice x.a x.n x.c) ∧ w.cell? ⟨g, o + 1, none⟩ = some (.int .i64 x.id)
/-- A row of entries that can be read. -/
def RdE (w : World) (a : Option Addr) (k : List ET) : Prop := k = [] ∨ ∃ g, a = some ⟨g, 0, none⟩ ∧ ∀ (i : Nat) (x : ET), k[i]? = some x → EAt w g (i * 2) x
theorem OwnE.rd {w : World} {base : Nat} {v : Value} {k : List ET} (h : OwnE w base v k) : ∃ a cap, v = .slice a k.length cap ∧ k.length ≤ cap ∧ cap ≤ maxLen ∧ RdE w a k := by
  rcases h.2 with ⟨rfl, hn⟩ | ⟨g, cap, cur, rfl, hb, hg, hc, hm, hs, ht⟩
  · have : k = [] := List.length_eq_zero_iff.1 (by simpa using hn)
    subst this
    exact ⟨none, 0, rfl, Nat.le_refl _, Nat.zero_le _, .inl rfl⟩
  · refine ⟨_, cap, rfl, hc, hm, .inr ⟨g, rfl, fun i x hx => ?_⟩⟩
    obtain ⟨hi, hxi⟩ := List.getElem?_eq_some_iff.1 hx
    have hc : ∀ j, j < 2 → w.cell? ⟨g, i * 2 + j, none⟩ = (eC x)[j]? := fun j hj => by
      have e := flatG_get (k := 2) (cs := eC) (fun _ => rfl) zeroET k i j hi hj
      rw [← ht, List.getElem?_take_of_lt (by omega)] at e
      rw [List.getD_eq_getElem?_getD, hx, Option.getD_some] at e
      simp [World.cell?, hg]
      rw [← e]
      simp
    exact ⟨hc 0 (by omega), hc 1 (by omega)⟩
/-- The numbers that stand with a key. -/
def idsF (es : List EN) (key : List VT) : List Int := (es.filter (fun e => decide (e.1 = key))).map (fun e => e.2)
/-- Where an entry stands. -/
def atN (es : List EN) (key : List VT) (id : Int) : Nat → Int
  | 0 => -1
  | n + 1 => if es[n]? = some (key, id) then (n : Int) else atN es key id n
theorem idsF_take (es : List EN) (key : List VT) (i : Nat) (e : EN) (h : es[i]? = some e) : idsF (es.take (i + 1)) key = idsF (es.take i) key ++ (if e.1 = key then [e.2] else []) := by
  rw [List.take_add_one, h]
  unfold idsF
  rw [List.filter_append, List.map_append]
  by_cases hk : e.1 = key
  · simp [hk]
  · simp [hk]
theorem Up.thenChg2 {C : Nat → Prop} {a b c : World} (h : Up a b) (k : Chg C b c) (hC : ∀ x, x < a.heap.size → ¬ C x) : Up a c := ((Chg.of_up (C := C) h).trans k (fun _ _ h => h)).up hC
theorem vals_fits {w : World} {a : Option Addr} {n : Nat} {l : List VT} (h : Vals w a n l) : ∀ v ∈ l, Fits v := fun v hv => by
  obtain ⟨i, hi, rfl⟩ := List.getElem_of_mem hv
  have := h.2.1 i
  rwa [List.getD_eq_getElem?_getD, List.getElem?_eq_getElem hi] at this

set_option maxHeartbeats 4000000 in
theorem find0_calls (a : Option Addr) (cap : Nat) (k : List ET) (es : List EN) (O : Nat → Prop) (ka : Option Addr) (kn kc : Nat) (key : List VT) (id : Int) (w : World) (hr : RdE w a k) (he : EntR O w k es) (hn : k.length ≤ 1000) (hk : Vals w ka kn key) (hkn : kn ≤ maxLen) :
    Calls Try.prog 10 #[.slice a k.length cap, .slice ka kn kc, .int .i64 id] w fun e w' => ∃ v', e = .returned (.tuple #[v', .int .i64 (atN es key id es.length)]) ∧ OwnJ w' w.heap.size v' (idsF es key) ∧ Up w w' := by
  have HR := hide hr
  have HE := hide he
  have HK := hide hk
  clear hr he hk
  go_enter Try.func10, Try.ntmps10
  go_wp2_with fail
  go_loopw [8, 9, 10] (fun v au iu wr => ∃ i : Nat, iu = .int .i64 i ∧ i ≤ k.length ∧ au = .int .i64 (atN es key id i) ∧ OwnJ wr w.heap.size v (idsF (es.take i) key) ∧ Up w wr) (fun _ _ iu _ => k.length - (intOf iu).toNat)
  case atStart => exact ⟨0, rfl, Nat.zero_le _, rfl, OwnG.nil _ _ _ _ _, Up.refl _⟩
  case round =>
    obtain ⟨i, rfl, hi, rfl, ho, hu⟩ := hrel
    have HO := hide ho
    have HU := hide hu
    clear ho hu
    by_cases hlt : i < k.length
    · obtain ⟨g, rfl, hcells⟩ : ∃ g, a = some ⟨g, 0, none⟩ ∧ ∀ (i : Nat) (x : ET), k[i]? = some x → EAt w g (i * 2) x := by
        rcases HR.out with h | h
        · rw [h] at hlt; exact absurd hlt (Nat.not_lt_zero i)
        · exact h
      have hx := List.getElem?_eq_getElem hlt
      have hei : i < es.length := by rw [← HE.out.1]; exact hlt
      have hee := List.getElem?_eq_getElem hei
      generalize k[i] = x at hx
      generalize es[i] = e at hee
      obtain ⟨y0, y1⟩ := hcells i x hx
      obtain ⟨hid, hxc, hxm, hxv⟩ := HE.out.2 i x e hx hee
      have HT := hide (idsF_take es key i e hee)
      have HA : Hid (atN es key id (i + 1) = if es[i]? = some (key, id) then (i : Int) else atN es key id i) := rfl
      obtain ⟨xa, xn, xc, xi⟩ := x
      obtain ⟨ek, ei⟩ := e
      simp only at y0 y1 hid hxc hxm hxv
      obtain rfl : xi = ei := hid
      replace y0 := HU.out.cell y0
      replace y1 := HU.out.cell y1
      have HV := hide (hxv.1.up HU.out)
      have Y1 := hide (hcells i _ hx).2
      have HK2 := hide (HK.out.up HU.out)
      have HEE := hide hee
      have HFL : Hid ((idsF (es.take i) key).length ≤ 1000) := by
        have h1 := List.length_filter_le (fun e : EN => decide (e.1 = key)) (es.take i)
        have h2 : (es.take i).length ≤ i := by simp; omega
        show _ ≤ _
        unfold idsF
        rw [List.length_map]
        omega
      clear hcells hx hee hxv
      have t1 : decide ((i : Int) < k.length) = true := decide_eq_true (by omega)
      have z1 : (i : Int) < k.length := by omega
      have z0 : (0 : Int) ≤ (i : Int) := by omega
      have lt7 : xn ≤ maxLen := by omega
      go_wp2_with fail
      go_at_call 13
      refine (rvrows_calls _ _ _ _ _ _ ek key wr lt7 hkn HV.out HK2.out).mono ?_
      rintro _ w1 ⟨rfl, hu1⟩
      replace y0 := hu1.cell y0
      replace y1 := hu1.cell y1
      have HO1 := hide (HO.out.up hu1)
      have HU1 := hide (HU.out.trans hu1)
      clear hu1
      by_cases hq : ek = key
      · have hz : rowsV ek key = 0 := by
          subst hq
          have := rowsV_turn ek ek
          omega
        have t2 : (rowsV ek key == 0) = true := by rw [hz]; rfl
        generalize rowsV ek key = rr at t2 hz
        by_cases hq2 : xi = id
        · have t3 : (xi == id) = true := by simpa using hq2
          have HA2 : Hid (atN es key id (i + 1) = (i : Int)) := by
            show _ = _
            rw [HA.out, if_pos]
            rw [HEE.out, hq, hq2]
          have HT2 : Hid (idsF (es.take (i + 1)) key = idsF (es.take i) key ++ [xi]) := by
            show _ = _
            rw [HT.out, if_pos hq]
          replace hq := hide hq
          replace hq2 := hide hq2
          clear hz
          go_wp2_with (at_builtin; refine append_ids rfl (.tmp 25) (.tmp 31) rfl w.heap.size _ _ rfl (HO1.out.alloc _) ⟨w1.heap.size, 0, none⟩ 1 1 [xi] rfl rfl (fun j hj => ?_) (by have := HFL.out; simp; omega) (by have := HU1.out.size; simp; omega) ?_)
          · obtain rfl : j = 0 := by simp at hj; omega
            rw [Addr.add_lit]
            go_simp
          · intro v' w2 ho2 hg2 _
            have HO2 := hide ho2
            have hc2 := chg_grown hg2
            have hlt2 : ∀ b, u8.ownBlock = some b → w.heap.size ≤ b := fun b hb => (HO1.out.lt b hb).1
            have hgb : ¬ u8.ownBlock = some g := fun e => by
              have h1 := hlt2 g e
              have h2 := World.block_lt_of_cell? _ _ Y1.out
              simp only at h2
              omega
            replace y0 := hc2.cell (((Up.refl w1).alloc _).cell y0) hgb
            replace y1 := hc2.cell (((Up.refl w1).alloc _).cell y1) hgb
            have HU2 := hide ((HU1.out.alloc _).thenChg2 hc2 (fun x hx e => by have := hlt2 x e; omega))
            clear ho2 hg2 hc2 hlt2 hgb HO HO1
            go_wp2
            go_roundw
            case rel => exact ⟨i + 1, by go_num, by omega, by rw [HA2.out], by rw [HT2.out]; exact HO2.out, HU2.out⟩
            case measure => simp [intOf]; omega
        · have t3 : (xi == id) = false := by simpa using hq2
          have HA2 : Hid (atN es key id (i + 1) = atN es key id i) := by
            show _ = _
            rw [HA.out, if_neg]
            rw [HEE.out]
            intro h
            injection h with h
            exact hq2 (congrArg Prod.snd h)
          have HT2 : Hid (idsF (es.take (i + 1)) key = idsF (es.take i) key ++ [xi]) := by
            show _ = _
            rw [HT.out, if_pos hq]
          replace hq := hide hq
          replace hq2 := hide hq2
          clear hz
          go_wp2_with (at_builtin; refine append_ids rfl (.tmp 25) (.tmp 31) rfl w.heap.size _ _ rfl (HO1.out.alloc _) ⟨w1.heap.size, 0, none⟩ 1 1 [xi] rfl rfl (fun j hj => ?_) (by have := HFL.out; simp; omega) (by have := HU1.out.size; simp; omega) ?_)
          · obtain rfl : j = 0 := by simp at hj; omega
            rw [Addr.add_lit]
            go_simp
          · intro v' w2 ho2 hg2 _
            have HO2 := hide ho2
            have hc2 := chg_grown hg2
            have hlt2 : ∀ b, u8.ownBlock = some b → w.heap.size ≤ b := fun b hb => (HO1.out.lt b hb).1
            have hgb : ¬ u8.ownBlock = some g := fun e => by
              have h1 := hlt2 g e
              have h2 := World.block_lt_of_cell? _ _ Y1.out
              simp only at h2
              omega
            replace y0 := hc2.cell (((Up.refl w1).alloc _).cell y0) hgb
            replace y1 := hc2.cell (((Up.refl w1).alloc _).cell y1) hgb
            have HU2 := hide ((HU1.out.alloc _).thenChg2 hc2 (fun x hx e => by have := hlt2 x e; omega))
            clear ho2 hg2 hc2 hlt2 hgb HO HO1
            go_wp2
            go_roundw
            case rel => exact ⟨i + 1, by go_num, by omega, by rw [HA2.out], by rw [HT2.out]; exact HO2.out, HU2.out⟩
            case measure => simp [intOf]; omega
      · have hz : rowsV ek key ≠ 0 := fun h => hq (rowsV_zero _ _ (vals_fits HV.out) (vals_fits HK2.out) h)
        have t2 : (rowsV ek key == 0) = false := by simpa using hz
        generalize rowsV ek key = rr at t2 hz
        have HA2 : Hid (atN es key id (i + 1) = atN es key id i) := by
          show _ = _
          rw [HA.out, if_neg]
          rw [HEE.out]
          intro h
          injection h with h
          exact hq (congrArg Prod.fst h)
        have HT2 : Hid (idsF (es.take (i + 1)) key = idsF (es.take i) key) := by
          show _ = _
          rw [HT.out, if_neg hq, List.append_nil]
        replace hq := hide hq
        clear hz HO
        go_wp2
        go_roundw
        case rel => exact ⟨i + 1, by go_num, by omega, by rw [HA2.out], by rw [HT2.out]; exact HO1.out, HU1.out⟩
        case measure => simp [intOf]; omega
    · have t1 : decide ((i : Int) < k.length) = false := decide_eq_false (by omega)
      have hie : i = es.length := by rw [← HE.out.1]; omega
      have HX : Hid (idsF (es.take i) key = idsF es key) := by show _ = _; rw [List.take_of_length_le (by omega)]
      have HX2 : Hid (atN es key id i = atN es key id es.length) := by show _ = _; rw [hie]
      clear hie
      go_wp2
      go_ret2
      exact ⟨_, by rw [← HX2.out]; rfl, by rw [← HX.out]; exact HO.out, HU.out⟩

end Go.Proofs.Ytofpakpbbpcalaa
