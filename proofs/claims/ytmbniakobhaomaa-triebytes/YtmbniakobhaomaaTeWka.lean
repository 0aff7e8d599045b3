/-
  The landed package trie: made, put, next, alike, as their text runs.
-/
import Derived.Test.YtmbniakobhaomaaTeMem
import Derived.Test.YtmbniakobhaomaaHookClone
import Derived.Lib.MinMax
namespace Go.Proofs.Ytmbniakobhaomaa
open Go.ChangeShapes Go.WideShapes Go.ChangeAt Go.RowKit
set_option linter.unusedVariables false
set_option maxRecDepth 100000
attribute [local go_sem ↓] Go.wp_at_zero Go.wp_at_succ

/-- A new node. -/
def newN (s : ByteArray) (st : List UInt8) (M : Nat) : ND := ⟨s, st, .slice none 0 0, [], M, fun _ => none, []⟩
def MadeOut (w : World) (T : Nat) (r : Value) (a l : Int) (s : ByteArray) (e : Ending) (w' : World) : Prop :=
  ∃ q M, e = .returned (.pointer (some ⟨q, 0, none⟩)) ∧ w.heap.size ≤ q ∧ w.heap.size ≤ M ∧ (∀ st, NAt w' q (newN s st M)) ∧ TopAt w' T r (a + 1) l ∧ Chg (fun y => y = T) w w'
set_option maxHeartbeats 2000000 in
theorem made_calls (T : Nat) (r : Value) (a l : Int) (s : ByteArray) (w : World) (ht : TopAt w T r a l) (ha : 0 ≤ a ∧ a ≤ 1000000) (hs : s.size ≤ 1000000) :
    Calls Try.prog 20 #[.pointer (some ⟨T, 0, none⟩), .string s] w fun e w' => MadeOut w T r a l s e w' := by
  have c1 := ht.c1
  have f1 := ht.fz 1
  have hw1 : wrap64 (a + 1) = a + 1 := by rw [wrap64]; omega
  have HT := hide ht
  clear ht
  go_enter Try.func20, Try.ntmps20
  go_wp2_with fail
  have ht1 := HT.out.set1 (a + 1)
  have hc1 := chg_set w ⟨T, 1, none⟩ (.int .i64 (a + 1))
  have hz1 : (w.setCell ⟨T, 1, none⟩ (.int .i64 (a + 1))).heap.size = w.heap.size := by simp
  generalize w.setCell ⟨T, 1, none⟩ (.int .i64 (a + 1)) = w1 at *
  refine (clone_calls s w1 (by omega)).mono ?_
  rintro _ w2 ⟨rfl, hu2⟩
  have ht2 := hide (ht1.up hu2)
  have hc2 := hide (hc1.andUp hu2)
  have hz2 : w.heap.size ≤ w2.heap.size := by have := hu2.size; omega
  clear ht1 hc1 hz1 hu2 c1 f1
  dsimp only
  have hmm := @run_makeMap Try.prog
  go_wp2
  go_ret
  clear hmm
  have hu3 : Up w2 ((w2.alloc (.map #[] 0)).alloc (.cells #[.string s, .slice none 0 0, .map (some w2.heap.size)] tNode)) := ((Up.refl w2).alloc _).alloc _
  refine ⟨w2.heap.size + 1, w2.heap.size, rfl, by omega, by omega, fun st => ⟨?_, OwnG.nil _ _ _ _ _, ?_⟩, ht2.out.up hu3, hc2.out.andUp hu3⟩
  · rw [show w2.heap.size + 1 = (w2.alloc (.map #[] 0)).heap.size by simp]
    exact heap_alloc_new _ _
  · exact (MapB.made w2).up ((Up.refl _).alloc _)

/-- A node comes below another one. -/
theorem put_calls (p o M c c' : Nat) (f : UInt8 → Option Nat) (lb : ByteArray) (b : UInt8) (t : List UInt8) (w : World) (hp : w.cell? ⟨p, 2, none⟩ = some (.map (some M))) (ho : w.cell? ⟨o, 0, none⟩ = some (.string lb)) (hl : lb.data.toList = b :: t) (hm : MapB w M f c) (hc : c < 1000000) (hc' : c' = if (f b).isSome then c else c + 1) :
    Calls Try.prog 35 #[.pointer (some ⟨p, 0, none⟩), .pointer (some ⟨o, 0, none⟩)] w fun e w' => e = .returned (.tuple #[]) ∧ MapB w' M (updK f b (some o)) c' ∧ Chg (fun y => y = M) w w' := by
  obtain ⟨w1, hrun, hm1, hc1⟩ := MapB.store (hm.up (Up.refl w).drew) b o hc c' hc'
  have H1 := hide hm1
  have H2 := hide hc1
  have hsz : 0 < lb.size := by
    have : lb.size = lb.data.toList.length := Array.length_toList.symm
    rw [this, hl]; simp
  have hb : lb[0] = b := by
    have h1 : lb.data.toList[0]? = some b := by rw [hl]; rfl
    rw [Array.getElem?_toList, Array.getElem?_eq_getElem (h := hsz)] at h1
    exact Option.some.inj h1
  clear hm hm1 hc1 hc'
  go_enter Try.func35, Try.ntmps35
  go_wp2_with fail
  go_region
  go_end0
  exact ⟨rfl, H1.out, (Chg.refl _ w).drew.trans H2.out (fun _ _ h => h)⟩

/-- Where it goes on. -/
def NextIs (g : Gr) (n : ND) (l : List UInt8) : Option Nat → Prop
  | some q => ∃ b t m, l = b :: t ∧ n.kid b = some q ∧ g q = some m ∧ m.lb <+: l
  | none => ∀ b t q m, l = b :: t → n.kid b = some q → g q = some m → ¬ m.lb <+: l
theorem bytes_nil {s : ByteArray} (h : s.data.toList = []) : s = ⟨#[]⟩ := by
  obtain ⟨d⟩ := s
  simp at h
  rw [h]
theorem bytes_head {s : ByteArray} {b : UInt8} {t : List UInt8} (h : s.data.toList = b :: t) : ∃ hz : 0 < s.size, s[0] = b := by
  have hsz : 0 < s.size := by
    have : s.size = s.data.toList.length := Array.length_toList.symm
    rw [this, h]; simp
  refine ⟨hsz, ?_⟩
  have h1 : s.data.toList[0]? = some b := by rw [h]; rfl
  rw [Array.getElem?_toList, Array.getElem?_eq_getElem (h := hsz)] at h1
  exact Option.some.inj h1
theorem next_calls (g : Gr) (p : Nat) (n : ND) (s : ByteArray) (w : World) (hg : GMem w g) (hp : g p = some n) (hk : ∀ b q, n.kid b = some q → ∃ m, g q = some m) :
    Calls Try.prog 30 #[.pointer (some ⟨p, 0, none⟩), .string s] w fun e w' => ∃ r, e = .returned (oP r) ∧ NextIs g n s.data.toList r ∧ Up w w' := by
  have N := hg.node p n hp
  have c2 := N.c2
  rcases hl : s.data.toList with _ | ⟨b, t⟩
  · obtain rfl := bytes_nil hl
    clear hl
    go_enter Try.func30, Try.ntmps30
    go_wp2
    go_ret
    exact ⟨none, rfl, fun b t q m e => (by cases e), Up.refl _⟩
  · obtain ⟨hz, hb⟩ := bytes_head hl
    have z1 : ¬ s.toList = [] := fun e => by rw [Lib.toList_data, hl] at e; cases e
    have z2 : s.toList.isEmpty = false := by rw [List.isEmpty_eq_false_iff]; exact z1
    have hlk : ∀ k, _ := fun k => (N.map.up ((Up.refl w).drewN k)).look b
    have HN := hide N
    clear N
    cases hf : n.kid b with
    | none =>
      rw [toldB_none hf] at hlk
      go_enter Try.func30, Try.ntmps30
      go_wp2_with fail
      go_quiet (fail)
      go_wp2
      go_ret
      exact ⟨none, rfl, fun b' t' q m e1 e2 _ => (by cases e1; rw [hf] at e2; cases e2), (Up.refl w).drewN _⟩
    | some q =>
      rw [toldB_some hf] at hlk
      obtain ⟨m, hm⟩ := hk b q hf
      have M := hg.node q m hm
      have k0 := M.c0
      clear M
      cases hh : Lib.hasPrefix s.data.toList m.lab.data.toList with
      | false =>
        go_enter Try.func30, Try.ntmps30
        go_wp2_with fail
        go_quiet (fail)
        go_wp2_with (go_at_call 26; refine (Try.strings_HasPrefix s m.lab _).mono ?_; rintro _ _ ⟨rfl, rfl⟩; rw [hh])
        go_ret
        refine ⟨none, rfl, fun b' t' q' m' e1 e2 e3 hpre => ?_, (Up.refl w).drewN _⟩
        cases e1
        rw [hf] at e2
        cases e2
        rw [hm] at e3
        cases e3
        have hpre' : m.lab.data.toList <+: b :: t := hpre
        unfold Lib.hasPrefix at hh
        rw [hl] at hh
        rw [List.isPrefixOf_iff_prefix.2 hpre'] at hh
        cases hh
      | true =>
        go_enter Try.func30, Try.ntmps30
        go_wp2_with fail
        go_quiet (fail)
        go_wp2_with (go_at_call 26; refine (Try.strings_HasPrefix s m.lab _).mono ?_; rintro _ _ ⟨rfl, rfl⟩; rw [hh])
        go_ret
        unfold Lib.hasPrefix at hh
        rw [hl] at hh
        exact ⟨some q, rfl, ⟨b, t, m, rfl, hf, hm, List.isPrefixOf_iff_prefix.1 hh⟩, (Up.refl w).drewN _⟩

/-- How many bytes two begin alike with. -/
def likeN : List UInt8 → List UInt8 → Nat
  | a :: l, b :: m => if a = b then likeN l m + 1 else 0
  | _, _ => 0
theorem likeN_spec : ∀ (l m : List UInt8), likeN l m ≤ l.length ∧ likeN l m ≤ m.length ∧ l.take (likeN l m) = m.take (likeN l m) ∧ (∀ h1 : likeN l m < l.length, ∀ h2 : likeN l m < m.length, l[likeN l m] ≠ m[likeN l m])
  | [], m => by simp [likeN]
  | a :: l, [] => by simp [likeN]
  | a :: l, b :: m => by
    by_cases e : a = b
    · subst e
      obtain ⟨h1, h2, h3, h4⟩ := likeN_spec l m
      have : likeN (a :: l) (a :: m) = likeN l m + 1 := by simp [likeN]
      refine ⟨by rw [this]; simpa using h1, by rw [this]; simpa using h2, by rw [this]; simp [h3], fun h5 h6 => ?_⟩
      simp only [this, List.getElem_cons_succ]
      exact h4 (by simpa [this] using h5) (by simpa [this] using h6)
    · have : likeN (a :: l) (b :: m) = 0 := by simp [likeN, e]
      refine ⟨by omega, by omega, by rw [this]; rfl, fun h5 h6 => ?_⟩
      simp only [this, List.getElem_cons_zero]
      exact e
theorem likeN_uniq (l m : List UInt8) (k : Nat) (h1 : k ≤ l.length) (h2 : k ≤ m.length) (h3 : l.take k = m.take k) (h4 : ∀ (a : k < l.length) (b : k < m.length), l[k] ≠ m[k]) : k = likeN l m := by
  obtain ⟨g1, g2, g3, g4⟩ := likeN_spec l m
  rcases Nat.lt_trichotomy k (likeN l m) with h | h | h
  · exfalso
    refine h4 (by omega) (by omega) ?_
    have e1 : (l.take (likeN l m))[k]? = (m.take (likeN l m))[k]? := by rw [g3]
    rw [List.getElem?_take_of_lt h, List.getElem?_take_of_lt h, List.getElem?_eq_getElem (by omega), List.getElem?_eq_getElem (by omega)] at e1
    exact Option.some.inj e1
  · exact h
  · exfalso
    refine g4 (by omega) (by omega) ?_
    have e1 : (l.take k)[likeN l m]? = (m.take k)[likeN l m]? := by rw [h3]
    rw [List.getElem?_take_of_lt h, List.getElem?_take_of_lt h, List.getElem?_eq_getElem (by omega), List.getElem?_eq_getElem (by omega)] at e1
    exact Option.some.inj e1
set_option maxHeartbeats 4000000 in
theorem alike_calls (a b : ByteArray) (w : World) (ha : a.size ≤ 1000000) (hb : b.size ≤ 1000000) : Calls Try.prog 33 #[.string a, .string b] w fun e w' => e = .returned (.int .i64 (likeN a.data.toList b.data.toList)) ∧ Up w w' := by
  have la : a.data.toList.length = a.size := Array.length_toList
  have lb : b.data.toList.length = b.size := Array.length_toList
  go_enter Try.func33, Try.ntmps33
  go_wp2_with fail
  go_loopw [5] (fun iv wr => ∃ i : Nat, i ≤ a.size ∧ i ≤ b.size ∧ iv = .int .i64 i ∧ Hid (a.data.toList.take i = b.data.toList.take i) ∧ Hid (Up w wr)) (fun iv _ => a.size - (intOf iv).toNat)
  case atStart => exact ⟨0, Nat.zero_le _, Nat.zero_le _, rfl, rfl, Up.refl _⟩
  case round =>
    obtain ⟨i, h1, h2, rfl, ht, hu⟩ := hrel
    obtain ⟨k, hk⟩ : ∃ k, k = min a.size b.size := ⟨_, rfl⟩
    have em : min (a.size : Int) (b.size : Int) = (k : Int) := by omega
    have hk1 : k ≤ a.size ∧ k ≤ b.size := by omega
    have i0 : (0 : Int) ≤ (i : Int) := by omega
    by_cases hik : i < k
    · have t1 : decide ((i : Int) < (k : Int)) = true := decide_eq_true (by omega)
      have i1 : (i : Int) < (a.size : Int) := by omega
      have i2 : (i : Int) < (b.size : Int) := by omega
      have n1 : i < a.size := by omega
      have n2 : i < b.size := by omega
      obtain ⟨x, hx⟩ : ∃ x, a[i]'n1 = x := ⟨_, rfl⟩
      obtain ⟨y, hy⟩ : ∃ y, b[i]'n2 = y := ⟨_, rfl⟩
      have HK := hide hk
      clear hk
      have px : a.data.toList[i]'(by rw [la]; exact n1) = x := by rw [← hx]; exact Array.getElem_toList ..
      have py : b.data.toList[i]'(by rw [lb]; exact n2) = y := by rw [← hy]; exact Array.getElem_toList ..
      have PX := hide px
      have PY := hide py
      clear px py
      cases hxy : ((x.toNat : Int) == (y.toNat : Int)) with
      | true =>
        go_wp2_with fail
        go_region
        have hxe : x = y := UInt8.toNat_inj.1 (by have e : (x.toNat : Int) = (y.toNat : Int) := (by simpa using hxy); omega)
        replace hxe := hide hxe
        clear hxy
        have hw1 : wrap64 ((i : Int) + 1) = (i : Int) + 1 := by rw [wrap64]; omega
        go_wp2
        go_roundw
        case rel =>
          refine ⟨i + 1, by omega, by omega, by go_num, ?_, hide (hu.out.drew)⟩
          refine hide ?_
          rw [List.take_add_one, List.take_add_one, ht.out, List.getElem?_eq_getElem (by rw [la]; exact n1), List.getElem?_eq_getElem (by rw [lb]; exact n2), PX.out, PY.out, hxe.out]
        case measure => simp [intOf]; omega
      | false =>
        go_wp2_with fail
        go_region
        have hne : x ≠ y := fun e => by subst e; simp at hxy
        replace hne := hide hne
        clear hxy
        go_wp2
        go_ret
        refine ⟨?_, hu.out.drew⟩
        have := likeN_uniq a.data.toList b.data.toList i (by rw [la]; exact h1) (by rw [lb]; exact h2) ht.out (fun u v => by rw [PX.out, PY.out]; exact hne.out)
        rw [← this]
        rfl
    · have t1 : decide ((i : Int) < (k : Int)) = false := decide_eq_false (by omega)
      have HK := hide hk
      clear hk
      go_wp2_with fail
      go_region
      go_wp2
      go_ret
      refine ⟨?_, hu.out.drew⟩
      have hk2 := HK.out
      have := likeN_uniq a.data.toList b.data.toList i (by rw [la]; exact h1) (by rw [lb]; exact h2) ht.out (fun u v => absurd (show i < k by rw [la] at u; rw [lb] at v; omega) hik)
      rw [← this]
      rfl

end Go.Proofs.Ytmbniakobhaomaa
