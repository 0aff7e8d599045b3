/-
  UndoPlays, whole.
-/
import Derived.Test.YtobalfckdknbdaaUdPlt
namespace Go.Proofs.Ytobalfckdknbdaa
open Go.ChangeShapes Go.WideShapes Go.ChangeAt Go.RowKit
set_option linter.unusedVariables false
set_option maxRecDepth 20000
attribute [local go_sem ↓] Go.wp_at_zero Go.wp_at_succ

theorem undoPlays_many (a : Option Addr) (len cap : Nat) (w : World) (hlen : ¬ len ≤ 120) :
    Calls Try.prog 3 #[.slice a len cap] w fun e w' => e = .returned (.bool true) ∧ Up w w' := by
  have z1 : (120 : Int) < (len : Int) := by omega
  go_enter Try.func3, Try.ntmps3
  go_wp2_with fail
  refine (known16_calls w).mono ?_
  rintro _ w1 ⟨rfl, hu1⟩
  replace hu1 := hide hu1
  dsimp only
  go_wp2
  go_ret
  exact ⟨rfl, hu1.out⟩

theorem pl_start (w0 w1 w2 : World) (t : TypeId) (hu : Up w0 w1) (hl : LogAt w1.heap.size [] w2) (hu2 : Up w1 w2) : PlS w0 w1.heap.size w2.heap.size [] [] (.slice none 0 0) [] (.slice none 0 0) [] (.slice none 0 0) [] (w2.alloc (.cells #[.slice none 0 0] t)) := by
  have hT := hl.old.1
  have h1 := hu.size
  have hua : Up w2 (w2.alloc (.cells #[.slice none 0 0] t)) := (Up.refl _).alloc _
  have hs : (w2.alloc (.cells #[.slice none 0 0] t)).heap.size = w2.heap.size + 1 := by simp
  refine ⟨hl.up hua, ⟨rfl, fun p hp => (by cases hp), by go_simp, by simp, Own.nil _ _ _ _, fun g hg => (by cases hg), fun k hk => (by cases hk), by omega, ?_, by omega⟩, Own.nil _ _ _ _, Own.nil _ _ _ _, fun g hg => (by cases hg), fun g hg => (by cases hg), fun g hg => (by cases hg), (hu.trans hu2).trans hua⟩
  rintro y (e | e | ⟨k, hk, e⟩)
  · omega
  · omega
  · cases hk

def slLen (v : Value) : Nat := match v with
  | Value.slice _ n _ => n
  | _ => 0
theorem pl_step (xs : List Int) (j : Nat) (h : j < xs.length) : ∃ x, (xs.reverse.take (j + 1))[j]? = some x ∧ xs.take (xs.length - j) = xs.take (xs.length - (j + 1)) ++ [x] := by
  refine ⟨xs[xs.length - (j + 1)], ?_, ?_⟩
  · rw [List.getElem?_take_of_lt (Nat.lt_succ_self j), List.getElem?_reverse h, show xs.length - 1 - j = xs.length - (j + 1) by omega, List.getElem?_eq_getElem]
  · have e : xs.length - j = (xs.length - (j + 1)) + 1 := by omega
    rw [e, List.take_add_one, List.getElem?_eq_getElem (by omega)]
    rfl
theorem pl_end (xs : List Int) (m : Nat) (h : m ≤ xs.length) : xs.reverse.take m = (xs.drop (xs.length - m)).reverse := by
  rw [List.take_reverse]
theorem pl_len {gs xs : List Int} {k L i : Nat} (h : gs.length + L ≤ i) (hk : k ≤ L) (hi : i ≤ 120) : (gs ++ xs.take k).length + 1 ≤ 100000 := by
  rw [List.length_append, List.length_take]; omega
theorem pl_len2 {gs xs : List Int} {k L i j : Nat} (h : gs.length + L ≤ i) (hk : k + j = L) : (gs ++ xs.take k).length + j ≤ i := by
  rw [List.length_append, List.length_take]; omega
theorem pl_mod (n : Int) (h : n < 0 ∧ -40000 ≤ n) : ∃ q : Nat, q < 8 ∧ (-n).tmod 8 = (q : Int) := by
  refine ⟨((-n) % 8).toNat, by omega, ?_⟩
  rw [Int.tmod_eq_emod_of_nonneg (by omega)]; omega

set_option maxHeartbeats 16000000 in
theorem undoPlays_few (a : Option Addr) (len cap : Nat) (zs : List Int) (w : World) (hlen : zs.length = len) (hrd : Rd (Value.int .i16) (fun _ => False) w (.slice a len cap) zs) (hz : ∀ x ∈ zs, -32768 ≤ x ∧ x ≤ 32767) (hfew : len ≤ 120) :
    Calls Try.prog 3 #[.slice a len cap] w fun e w' => e = .returned (.bool true) ∧ Up w w' := by
  have hmf : ∀ (fn : Fn) (first cap : Array Value) (w : World), (Instr.makeFunc fn first cap).run Try.prog w = .ok (.func fn first cap) w := fun _ _ _ _ => rfl
  have z1 : ¬ (120 : Int) < (len : Int) := by omega
  have HRD := hide (⟨hlen, hrd, hz⟩ : _ ∧ _ ∧ _)
  clear hlen hrd hz
  go_enter Try.func3, Try.ntmps3
  go_wp2_with fail
  refine (known16_calls w).mono ?_
  rintro _ w1 ⟨rfl, hu1⟩
  replace hu1 := hide hu1
  dsimp only
  go_wp2_with fail
  refine (udNew_calls w1).mono ?_
  rintro _ w2 ⟨rfl, hl2, hu2⟩
  have hS := hide (pl_start w w1 w2 26 hu1.out hl2 hu2)
  generalize w1.heap.size = T at hS ⊢
  clear hl2 hu2
  dsimp only
  go_wp2_with fail
  generalize w2.heap.size = G at *
  generalize w2.alloc (.cells #[.slice none 0 0] 26) = W at *
  go_loopw [5, 6, 7] (fun vw vm iv wr => ∃ (i : Nat) (l : List Bk) (xs gs : List Int) (vg : Value), iv = .int .i64 i ∧ i ≤ len ∧ gs.length + l.length ≤ i ∧ Hid (PlS w T G l xs vg gs vm xs.reverse vw gs wr)) (fun _ _ iv _ => len - (intOf iv).toNat)
  case atStart => exact ⟨0, [], [], [], _, rfl, Nat.zero_le _, Nat.le_refl 0, hS⟩
  case round =>
    obtain ⟨i, l, xs, gs, vg, rfl, hi, hll, hs⟩ := hrel
    clear hS hu1
    by_cases hlt : i < len
    · have hil : i < zs.length := by rw [HRD.out.1]; exact hlt
      obtain ⟨g, off, rfl, hg⟩ := (HRD.out.2.1.up hs.out.up).get (i := i) hil
      obtain ⟨n, hn, hnb⟩ : ∃ n, n = zs[i] ∧ (-32768 ≤ n ∧ n ≤ 32767) := ⟨zs[i], rfl, HRD.out.2.2 _ (List.getElem_mem hil)⟩
      rw [← hn] at hg
      have k1 : (i : Int) < (len : Int) := by omega
      have ei : IntKind.i64.wrap ((i : Int) + 1) = (i : Int) + 1 := by rw [IntKind.wrap_i64]; omega
      clear hn hil
      by_cases n0 : 0 ≤ n
      · go_wp2_with fail
        refine (hs.out.add i _ (by omega)).mono ?_
        rintro _ w3 ⟨rfl, hx3, k, hs3⟩
        have hua : Up w3 (w3.alloc (.cells #[.int .i64 (i : Int)] 2)) := (Up.refl _).alloc _
        have HO := hide ((hs3.upto hua).om)
        have HR : Hid (Rd (Value.int .i64) (fun _ => False) (w3.alloc (.cells #[.int .i64 (i : Int)] 2)) (.slice (some ⟨w3.heap.size, 0, none⟩) 1 1) [(i : Int)]) := hide ((Own.new1 (e := 2) w3 (i : Int)).rd (fun _ _ h => h))
        have HS3 := hide (hs3.upto hua)
        have hxl : xs.reverse.length ≤ 1000 := by rw [List.length_reverse, ← hs.out.r.len]; omega
        have hw3 : w.heap.size ≤ (w3.alloc (.cells #[.int .i64 (i : Int)] 2)).heap.size := HS3.out.up.size
        clear hs hs3 hua
        dsimp only
        go_wp2_with (at_builtin; refine append_rd elemL rfl _ _ rfl w.heap.size _ _ xs.reverse [(i : Int)] rfl rfl HO.out HR.out (by simp only [List.length_cons, List.length_nil]; omega) hw3 ?_)
        intro v' w' ho' hg' hb'
        have hS4 := HS3.out.appM ho' hg' (hb'.imp id (fun e => e.trans (by simp)))
        clear ho' hg' hb' HO HR HS3 hxl hw3 hx3
        have ers : xs.reverse ++ [(i : Int)] = ((i : Int) :: xs).reverse := by simp
        rw [ers] at hS4
        clear ers
        obtain ⟨am, cm, rfl, -⟩ := hS4.om.slice
        obtain ⟨nm, hnm⟩ : ∃ k, k = ((i : Int) :: xs).reverse.length := ⟨_, rfl⟩
        rw [← hnm] at hS4 ⊢
        have hnl : Hid ((k :: l).length = nm) := by unfold Hid; rw [hnm, List.length_reverse]; exact hS4.r.len
        clear hnm
        have hL := hide (udLen_calls T _ _ hS4.log)
        have hM := hide (udMark_calls T _ _ hS4.log)
        have hI := hide (ids_same (fun _ => False) (fun _ => False) _ _ _ _ (hS4.r.og.rd (fun _ _ h => h)) (hS4.ow.rd (fun _ _ h => h)) (by omega))
        have cg := hS4.r.cg
        have HSS := hide hS4
        rw [hnl.out] at hL hM
        clear hS4
        try dsimp only
        go_wp2_with (first
          | (go_at_call 12; refine hL.out.mono ?_; rintro _ wm ⟨rfl, hwm⟩; obtain rfl : w' = wm := hwm.symm)
          | (go_at_call 13; refine hM.out.mono ?_; rintro _ wm ⟨rfl, hwm⟩; obtain rfl : w' = wm := hwm.symm)
          | (go_at_call 14; refine hI.out.mono ?_; rintro _ wI ⟨rfl, huI⟩))
        have HNX := hide (HSS.out.upto huI)
        clear HSS
        go_roundw
        case rel => exact ⟨i + 1, _, _, _, _, by simp, by omega, by simp only [List.length_cons]; omega, HNX⟩
        case measure => simp [intOf]; omega
      · have n0' : ¬ 0 ≤ n := n0
        obtain ⟨am, cm, rfl, -⟩ := hs.out.om.slice
        obtain ⟨L, hLl⟩ : ∃ k, k = l.length := ⟨_, rfl⟩
        have hLx : xs.reverse.length = L := by rw [List.length_reverse, hLl]; exact hs.out.r.len.symm
        rw [hLx] at hs ⊢
        have hnl : Hid (l.length = L) := hide hLl.symm
        have hxl : Hid (xs.length = L) := by rw [List.length_reverse] at hLx; exact hLx
        have hLb : gs.length + L ≤ i := by omega
        clear hLl hLx hll
        by_cases n2 : -200 ≤ n
        · obtain ⟨q, q8, et⟩ := pl_mod n (by omega)
          have en : wrap64 (-n) = -n := IntWalk.wrap64_in _ (by omega)
          cases q with
          | zero =>
            have e1 : wrap64 (-1) = -1 := IntWalk.wrap64_in _ (by omega)
            have hB := hide (udBack_not T l (-1) wr hs.out.log (by omega))
            have et0 : (-n).tmod 8 = 0 := et
            clear et
            have hS4 := hs.out
            clear hs
            have HS4 := hide hS4
            clear hS4
            go_wp2_with (go_at_call 10; refine hB.out.mono ?_; rintro _ wm ⟨rfl, hwm⟩; obtain rfl : wr = wm := hwm.symm)
            clear hB
            go_loopw [5, 6] (fun vw vm w9 => ∃ a c, vm = .slice a L c ∧ Hid (PlS w T G l xs vg gs vm xs.reverse vw gs w9)) (fun _ _ _ => 0)
            case atStart => exact ⟨am, cm, rfl, HS4⟩
            case round =>
              obtain ⟨a9, c9, rfl, hs9⟩ := hrel
              have hS9 := hs9.out
              clear hs9 HS4
              have hL := hide (udLen_calls T _ _ hS9.log)
              have hM := hide (udMark_calls T _ _ hS9.log)
              have hI := hide (ids_same (fun _ => False) (fun _ => False) _ _ _ _ (hS9.r.og.rd (fun _ _ h => h)) (hS9.ow.rd (fun _ _ h => h)) (by omega))
              have cg := hS9.r.cg
              have HSS := hide hS9
              rw [hnl.out] at hL hM
              clear hS9
              go_wp2_with (first
                | (go_at_call 12; refine hL.out.mono ?_; rintro _ wm ⟨rfl, hwm⟩; obtain rfl : wr = wm := hwm.symm)
                | (go_at_call 13; refine hM.out.mono ?_; rintro _ wm ⟨rfl, hwm⟩; obtain rfl : wr = wm := hwm.symm)
                | (go_at_call 14; refine hI.out.mono ?_; rintro _ wI ⟨rfl, huI⟩))
              have HNX := hide (HSS.out.upto huI)
              clear HSS
              go_roundw
              case rel => exact ⟨i + 1, _, _, _, _, by simp, by omega, by rw [hnl.out]; omega, HNX⟩
              case measure => simp [intOf]; omega
          | succ m =>
            have et1 : (-n).tmod 8 = (m : Int) + 1 := et.trans (by omega)
            have em : wrap64 (m : Int) = (m : Int) := IntWalk.wrap64_in _ (by omega)
            clear et
            by_cases hmL : m ≤ L
            · have HEN := hide (⟨en, et1, em⟩ : _ ∧ _ ∧ _)
              clear en et1 em
              have e2 : (m : Int) ≤ (L : Int) := by omega
              have hB := hide (hs.out.back m (by rw [hnl.out]; exact hmL) (by rw [hnl.out]; omega))
              rw [hnl.out] at hB
              obtain ⟨d, hd⟩ : ∃ k, k = L - m := ⟨_, rfl⟩
              rw [← hd] at hB
              have HD := hide hd
              clear hs hd
              obtain ⟨en, et1, em⟩ := HEN.out
              go_wp2_with fail
              clear en et1 em
              go_at_call 10
              refine hB.out.mono ?_
              rintro _ w5 ⟨rfl, vg5, hs5⟩
              have HS5 := hide hs5
              clear hB hs5
              dsimp only
              go_wp2_with fail
              go_loopw [5, 6] (fun vw vm w9 => ∃ (j : Nat) (a : Option Addr) (c : Nat), vm = .slice a j c ∧ m ≤ j ∧ j ≤ L ∧ Hid (PlS w T G (l.drop d) (xs.drop d) vg5 (gs ++ xs.take d) vm (xs.reverse.take j) vw (gs ++ xs.take (L - j)) w9)) (fun _ vm _ => slLen vm)
              case atStart =>
                have e1 : xs.reverse.take L = xs.reverse := List.take_of_length_le (by rw [List.length_reverse, hxl.out]; exact Nat.le_refl _)
                have e2 : xs.take (L - L) = [] := by rw [Nat.sub_self]; rfl
                exact ⟨L, am, cm, rfl, hmL, Nat.le_refl _, by rw [e1, e2, List.append_nil]; exact HS5⟩
              case round =>
                obtain ⟨j, a9, c9, rfl, hj1, hj2, hs9⟩ := hrel
                clear HS5
                by_cases hjm : m < j
                · obtain ⟨j', rfl⟩ : ∃ k, j = k + 1 := ⟨j - 1, by omega⟩
                  obtain ⟨x, hx, htk⟩ := pl_step xs j' (by rw [hxl.out]; omega)
                  rw [hxl.out] at htk
                  have hjl : j' < (xs.reverse.take (j' + 1)).length := by rw [List.length_take, List.length_reverse, hxl.out]; omega
                  obtain ⟨g9, o9, rfl, y9⟩ := (hs9.out.om.rd (X := fun _ => False) (fun _ _ h => h)).get (i := j') hjl
                  have hxe : (xs.reverse.take (j' + 1))[j'] = x := by rw [List.getElem?_eq_getElem hjl] at hx; exact Option.some.inj hx
                  rw [hxe] at y9
                  have t1 : (m : Int) < (j' : Int) + 1 := by omega
                  have t0 : (0 : Int) ≤ (j' : Int) := by omega
                  have t2 : (j' : Int) < (j' : Int) + 1 := by omega
                  have ej : wrap64 (j' : Int) = (j' : Int) := IntWalk.wrap64_in _ (by omega)
                  have t3 : (j' : Int) ≤ (c9 : Int) := by
                    obtain ⟨a8, c8, h8, h9⟩ := hs9.out.om.slice
                    have h10 := Value.slice.inj h8
                    exact Int.ofNat_le.2 (Nat.le_trans (Nat.le_of_lt hjl) (h10.2.2 ▸ h9))
                  have hua : Up wr (wr.alloc (.cells #[.int .i64 x] 2)) := (Up.refl _).alloc _
                  have HS6 := hide (hs9.out.upto hua)
                  have HR : Hid (Rd (Value.int .i64) (fun _ => False) (wr.alloc (.cells #[.int .i64 x] 2)) (.slice (some ⟨wr.heap.size, 0, none⟩) 1 1) [x]) := hide ((Own.new1 (e := 2) wr x).rd (fun _ _ h => h))
                  have hw3 : w.heap.size ≤ (wr.alloc (.cells #[.int .i64 x] 2)).heap.size := HS6.out.up.size
                  have HTK := hide (⟨htk, hxl.out⟩ : _ ∧ _)
                  have hgl := pl_len (xs := xs) (k := L - (j' + 1)) hLb (Nat.sub_le _ _) (Nat.le_trans hi hfew)
                  clear hs9 hx htk hxe hua hjl
                  go_wp2_with (at_builtin; refine append_rd elemL rfl _ _ rfl w.heap.size _ _ (gs ++ xs.take (L - (j' + 1))) [x] rfl rfl HS6.out.ow HR.out (by simp only [List.length_cons, List.length_nil]; omega) hw3 ?_)
                  intro v' w' ho' hg' hb'
                  have hS7 := HS6.out.appW ho' hg' (hb'.imp id (fun e => e.trans (by simp)))
                  rw [← HTK.out.1] at hS7
                  have HS8 := hide (hS7.cutM (k := j') (by rw [List.length_take, List.length_reverse, HTK.out.2]; omega))
                  rw [List.take_take, Nat.min_eq_left (Nat.le_succ j')] at HS8
                  clear ho' hg' hb' HR HS6 hS7 hw3 hgl y9
                  go_wp2
                  go_roundw
                  case rel => exact ⟨j', _, _, rfl, by omega, by omega, HS8⟩
                  case measure => simp [slLen]
                · obtain rfl : j = m := by omega
                  have t1 : ¬ (j : Int) < (j : Int) := by omega
                  have hS9 := hs9.out
                  rw [pl_end xs j (by rw [hxl.out]; exact hmL), hxl.out, ← HD.out] at hS9
                  have hnd : Hid ((l.drop d).length = j) := by unfold Hid; rw [List.length_drop, hnl.out, HD.out]; omega
                  have hgb := pl_len2 (xs := xs) (k := d) (j := j) hLb (by rw [HD.out]; exact Nat.sub_add_cancel hmL)
                  clear hs9
                  have hL := hide (udLen_calls T _ _ hS9.log)
                  have hM := hide (udMark_calls T _ _ hS9.log)
                  have hI := hide (ids_same (fun _ => False) (fun _ => False) _ _ _ _ (hS9.r.og.rd (fun _ _ h => h)) (hS9.ow.rd (fun _ _ h => h)) (by omega))
                  have cg := hS9.r.cg
                  have HSS := hide hS9
                  rw [hnd.out] at hL hM
                  clear hS9
                  go_wp2_with (first
                    | (go_at_call 12; refine hL.out.mono ?_; rintro _ wm ⟨rfl, hwm⟩; obtain rfl : wr = wm := hwm.symm)
                    | (go_at_call 13; refine hM.out.mono ?_; rintro _ wm ⟨rfl, hwm⟩; obtain rfl : wr = wm := hwm.symm)
                    | (go_at_call 14; refine hI.out.mono ?_; rintro _ wI ⟨rfl, huI⟩))
                  have HNX := hide (HSS.out.upto huI)
                  clear HSS
                  go_roundw
                  case rel => exact ⟨i + 1, _, _, _, _, by simp, by omega, by rw [hnd.out]; omega, HNX⟩
                  case measure => simp [intOf]; omega
            · have e2 : ¬ (m : Int) ≤ (L : Int) := by omega
              have hB := hide (udBack_not T l (m : Int) wr hs.out.log (by rw [hnl.out]; omega))
              have hS4 := hs.out
              clear hs
              have HS4 := hide hS4
              clear hS4
              go_wp2_with (go_at_call 10; refine hB.out.mono ?_; rintro _ wm ⟨rfl, hwm⟩; obtain rfl : wr = wm := hwm.symm)
              clear hB
              go_loopw [5, 6] (fun vw vm w9 => ∃ a c, vm = .slice a L c ∧ Hid (PlS w T G l xs vg gs vm xs.reverse vw gs w9)) (fun _ _ _ => 0)
              case atStart => exact ⟨am, cm, rfl, HS4⟩
              case round =>
                obtain ⟨a9, c9, rfl, hs9⟩ := hrel
                have hS9 := hs9.out
                clear hs9 HS4
                have hL := hide (udLen_calls T _ _ hS9.log)
                have hM := hide (udMark_calls T _ _ hS9.log)
                have hI := hide (ids_same (fun _ => False) (fun _ => False) _ _ _ _ (hS9.r.og.rd (fun _ _ h => h)) (hS9.ow.rd (fun _ _ h => h)) (by omega))
                have cg := hS9.r.cg
                have HSS := hide hS9
                rw [hnl.out] at hL hM
                clear hS9
                go_wp2_with (first
                  | (go_at_call 12; refine hL.out.mono ?_; rintro _ wm ⟨rfl, hwm⟩; obtain rfl : wr = wm := hwm.symm)
                  | (go_at_call 13; refine hM.out.mono ?_; rintro _ wm ⟨rfl, hwm⟩; obtain rfl : wr = wm := hwm.symm)
                  | (go_at_call 14; refine hI.out.mono ?_; rintro _ wI ⟨rfl, huI⟩))
                have HNX := hide (HSS.out.upto huI)
                clear HSS
                go_roundw
                case rel => exact ⟨i + 1, _, _, _, _, by simp, by omega, by rw [hnl.out]; omega, HNX⟩
                case measure => simp [intOf]; omega
        · obtain ⟨q, q8, et⟩ := pl_mod (n + 200) (by omega)
          have en : wrap64 (n + 200) = n + 200 := IntWalk.wrap64_in _ (by omega)
          have en' : wrap64 (-(n + 200)) = -(n + 200) := IntWalk.wrap64_in _ (by omega)
          have HEN := hide (⟨en, en', et⟩ : _ ∧ _ ∧ _)
          clear en en' et
          cases q with
          | zero =>
            have e1 : wrap64 (-1) = -1 := IntWalk.wrap64_in _ (by omega)
            have hB := hide (udKeep_not T l (-1) wr hs.out.log (by omega))
            have hS4 := hs.out
            clear hs
            have HK := hB
            have hL := hide (udLen_calls T _ _ hS4.log)
            have hM := hide (udMark_calls T _ _ hS4.log)
            have hI := hide (ids_same (fun _ => False) (fun _ => False) _ _ _ _ (hS4.r.og.rd (fun _ _ h => h)) (hS4.ow.rd (fun _ _ h => h)) (by omega))
            have cg := hS4.r.cg
            have HSS := hide hS4
            rw [hnl.out] at hL hM
            clear hS4
            obtain ⟨en, en', et⟩ := HEN.out
            have et1 := et.trans Int.ofNat_zero
            clear et
            go_wp2_with (first
              | (go_at_call 11; refine HK.out.mono ?_; rintro _ wm ⟨rfl, hwm⟩; obtain rfl : wr = wm := hwm.symm)
              | (go_at_call 12; refine hL.out.mono ?_; rintro _ wm ⟨rfl, hwm⟩; obtain rfl : wr = wm := hwm.symm)
              | (go_at_call 13; refine hM.out.mono ?_; rintro _ wm ⟨rfl, hwm⟩; obtain rfl : wr = wm := hwm.symm)
              | (go_at_call 14; refine hI.out.mono ?_; rintro _ wI ⟨rfl, huI⟩))
            clear en en' et1
            have HNX := hide (HSS.out.upto huI)
            clear HSS
            go_roundw
            case rel => exact ⟨i + 1, _, _, _, _, by simp, by omega, by rw [hnl.out]; omega, HNX⟩
            case measure => simp [intOf]; omega
          | succ m =>
            have e1 : wrap64 (m : Int) = (m : Int) := IntWalk.wrap64_in _ (by omega)
            by_cases hmL : m ≤ L
            · have e2 : (m : Int) ≤ (L : Int) := by omega
              have e3 : (m : Int) ≤ (cm : Int) := by
                obtain ⟨a8, c8, h8, h9⟩ := hs.out.om.slice
                cases h8
                omega
              have e0 : (0 : Int) ≤ (m : Int) := by omega
              have hB := hide (hs.out.keep m (by rw [hnl.out]; exact hmL))
              rw [hnl.out] at hB
              obtain ⟨d, hd⟩ : ∃ k, k = L - m := ⟨_, rfl⟩
              rw [← hd] at hB
              have HD := hide hd
              clear hs hd
              obtain ⟨en, en', et⟩ := HEN.out
              have et1 := et.trans (Int.natCast_succ m)
              clear et
              go_wp2_with fail
              clear en en' et1
              go_at_call 11
              refine hB.out.mono ?_
              rintro _ w5 ⟨rfl, hs5⟩
              have hS9 := hs5.cutM (k := m) (by rw [List.length_reverse, hxl.out]; exact hmL)
              rw [pl_end xs m (by rw [hxl.out]; exact hmL), hxl.out, ← HD.out] at hS9
              have hnd : Hid ((l.drop d).length = m) := by unfold Hid; rw [List.length_drop, hnl.out, HD.out]; omega
              have hgb : gs.length + m ≤ i := by omega
              clear hB hs5
              have hL := hide (udLen_calls T _ _ hS9.log)
              have hM := hide (udMark_calls T _ _ hS9.log)
              have hI := hide (ids_same (fun _ => False) (fun _ => False) _ _ _ _ (hS9.r.og.rd (fun _ _ h => h)) (hS9.ow.rd (fun _ _ h => h)) (by omega))
              have cg := hS9.r.cg
              have HSS := hide hS9
              rw [hnd.out] at hL hM
              clear hS9
              dsimp only
              go_wp2_with (first
                | (go_at_call 12; refine hL.out.mono ?_; rintro _ wm ⟨rfl, hwm⟩; obtain rfl : w5 = wm := hwm.symm)
                | (go_at_call 13; refine hM.out.mono ?_; rintro _ wm ⟨rfl, hwm⟩; obtain rfl : w5 = wm := hwm.symm)
                | (go_at_call 14; refine hI.out.mono ?_; rintro _ wI ⟨rfl, huI⟩))
              have HNX := hide (HSS.out.upto huI)
              clear HSS
              go_roundw
              case rel => exact ⟨i + 1, _, _, _, _, by simp, by omega, by rw [hnd.out]; omega, HNX⟩
              case measure => simp [intOf]; omega
            · have e2 : ¬ (m : Int) ≤ (L : Int) := by omega
              have hB := hide (udKeep_not T l (m : Int) wr hs.out.log (by rw [hnl.out]; omega))
              have hS4 := hs.out
              clear hs
              have HK := hB
              have hL := hide (udLen_calls T _ _ hS4.log)
              have hM := hide (udMark_calls T _ _ hS4.log)
              have hI := hide (ids_same (fun _ => False) (fun _ => False) _ _ _ _ (hS4.r.og.rd (fun _ _ h => h)) (hS4.ow.rd (fun _ _ h => h)) (by omega))
              have cg := hS4.r.cg
              have HSS := hide hS4
              rw [hnl.out] at hL hM
              clear hS4
              obtain ⟨en, en', et⟩ := HEN.out
              have et1 := et.trans (Int.natCast_succ m)
              clear et
              go_wp2_with (first
                | (go_at_call 11; refine HK.out.mono ?_; rintro _ wm ⟨rfl, hwm⟩; obtain rfl : wr = wm := hwm.symm)
                | (go_at_call 12; refine hL.out.mono ?_; rintro _ wm ⟨rfl, hwm⟩; obtain rfl : wr = wm := hwm.symm)
                | (go_at_call 13; refine hM.out.mono ?_; rintro _ wm ⟨rfl, hwm⟩; obtain rfl : wr = wm := hwm.symm)
                | (go_at_call 14; refine hI.out.mono ?_; rintro _ wI ⟨rfl, huI⟩))
              clear en en' et1
              have HNX := hide (HSS.out.upto huI)
              clear HSS
              go_roundw
              case rel => exact ⟨i + 1, _, _, _, _, by simp, by omega, by rw [hnl.out]; omega, HNX⟩
              case measure => simp [intOf]; omega
    · obtain rfl : len = i := by omega
      have k1 : ¬ (len : Int) < (len : Int) := by omega
      have HU := hide hs.out.up
      clear hs
      go_wp2
      go_ret
      exact ⟨rfl, HU.out⟩

end Go.Proofs.Ytobalfckdknbdaa
