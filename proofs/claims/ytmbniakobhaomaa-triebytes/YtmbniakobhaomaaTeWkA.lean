/-
  The landed package trie: made, put, next, alike, as their text runs.
  The landed package trie: deepest, as its text runs.
  The landed package trie: split, as its text runs.
  The landed package trie: nodeOf, as its text runs.
-/
import Derived.Test.YtmbniakobhaomaaTeMem
import Derived.Test.YtmbniakobhaomaaHookClone
import Derived.Lib.MinMax
namespace Go.Proofs.Ytmbniakobhaomaa
open Go.ChangeShapes Go.WideShapes Go.ChangeAt Go.RowKit
set_option linter.unusedVariables false
set_option maxRecDepth 100000
attribute [local go_sem ↓] Go.wp_at_zero Go.wp_at_succ

/-- A new node. -/
def newN (s : ByteArray) (st : List UInt8) (M : Nat) : ND := ⟨s, st, .slice none 0 0, [], M, fun _ => none, []⟩
def MadeOut (w : World) (T : Nat) (r : Value) (a l : Int) (s : ByteArray) (e : Ending) (w' : World) : Prop :=
  ∃ q M, e = .returned (.pointer (some ⟨q, 0, none⟩)) ∧ w.heap.size ≤ q ∧ w.heap.size ≤ M ∧ (∀ st, NAt w' q (newN s st M)) ∧ TopAt w' T r (a + 1) l ∧ Chg (fun y => y = T) w w'
set_option maxHeartbeats 2000000 in
theorem made_calls (T : Nat) (r : Value) (a l : Int) (s : ByteArray) (w : World) (ht : TopAt w T r a l) (ha : 0 ≤ a ∧ a ≤ 1000000) (hs : s.size ≤ 1000000) :
    Calls Try.prog 20 #[.pointer (some ⟨T, 0, none⟩), .string s] w fun e w' => MadeOut w T r a l s e w' := by
  have c1 := ht.c1
  have f1 := ht.fz 1
  have hw1 : wrap64 (a + 1) = a + 1 := by rw [wrap64]; omega
  have HT := hide ht
  clear ht
  go_enter Try.func20, Try.ntmps20
  go_wp2_with fail
  have ht1 := HT.out.set1 (a + 1)
  have hc1 := chg_set w ⟨T, 1, none⟩ (.int .i64 (a + 1))
  have hz1 : (w.setCell ⟨T, 1, none⟩ (.int .i64 (a + 1))).heap.size = w.heap.size := by simp
  generalize w.setCell ⟨T, 1, none⟩ (.int .i64 (a + 1)) = w1 at *
  refine (clone_calls s w1 (by omega)).mono ?_
  rintro _ w2 ⟨rfl, hu2⟩
  have ht2 := hide (ht1.up hu2)
  have hc2 := hide (hc1.andUp hu2)
  have hz2 : w.heap.size ≤ w2.heap.size := by have := hu2.size; omega
  clear ht1 hc1 hz1 hu2 c1 f1
  dsimp only
  have hmm := @run_makeMap Try.prog
  go_wp2
  go_ret
  clear hmm
  have hu3 : Up w2 ((w2.alloc (.map #[] 0)).alloc (.cells #[.string s, .slice none 0 0, .map (some w2.heap.size)] tNode)) := ((Up.refl w2).alloc _).alloc _
  refine ⟨w2.heap.size + 1, w2.heap.size, rfl, by omega, by omega, fun st => ⟨?_, OwnG.nil _ _ _ _ _, ?_⟩, ht2.out.up hu3, hc2.out.andUp hu3⟩
  · rw [show w2.heap.size + 1 = (w2.alloc (.map #[] 0)).heap.size by simp]
    exact heap_alloc_new _ _
  · exact (MapB.made w2).up ((Up.refl _).alloc _)

/-- A node comes below another one. -/
theorem put_calls (p o M c c' : Nat) (f : UInt8 → Option Nat) (lb : ByteArray) (b : UInt8) (t : List UInt8) (w : World) (hp : w.cell? ⟨p, 2, none⟩ = some (.map (some M))) (ho : w.cell? ⟨o, 0, none⟩ = some (.string lb)) (hl : lb.data.toList = b :: t) (hm : MapB w M f c) (hc : c < 1000000) (hc' : c' = if (f b).isSome then c else c + 1) :
    Calls Try.prog 35 #[.pointer (some ⟨p, 0, none⟩), .pointer (some ⟨o, 0, none⟩)] w fun e w' => e = .returned (.tuple #[]) ∧ MapB w' M (updK f b (some o)) c' ∧ Chg (fun y => y = M) w w' := by
  obtain ⟨w1, hrun, hm1, hc1⟩ := MapB.store (hm.up (Up.refl w).drew) b o hc c' hc'
  have H1 := hide hm1
  have H2 := hide hc1
  have hsz : 0 < lb.size := by
    have : lb.size = lb.data.toList.length := Array.length_toList.symm
    rw [this, hl]; simp
  have hb : lb[0] = b := by
    have h1 : lb.data.toList[0]? = some b := by rw [hl]; rfl
    rw [Array.getElem?_toList, Array.getElem?_eq_getElem (h := hsz)] at h1
    exact Option.some.inj h1
  clear hm hm1 hc1 hc'
  go_enter Try.func35, Try.ntmps35
  go_wp2_with fail
  go_region
  go_end0
  exact ⟨rfl, H1.out, (Chg.refl _ w).drew.trans H2.out (fun _ _ h => h)⟩

/-- Where it goes on. -/
def NextIs (g : Gr) (n : ND) (l : List UInt8) : Option Nat → Prop
  | some q => ∃ b t m, l = b :: t ∧ n.kid b = some q ∧ g q = some m ∧ m.lb <+: l
  | none => ∀ b t q m, l = b :: t → n.kid b = some q → g q = some m → ¬ m.lb <+: l
theorem bytes_nil {s : ByteArray} (h : s.data.toList = []) : s = ⟨#[]⟩ := by
  obtain ⟨d⟩ := s
  simp at h
  rw [h]
theorem bytes_head {s : ByteArray} {b : UInt8} {t : List UInt8} (h : s.data.toList = b :: t) : ∃ hz : 0 < s.size, s[0] = b := by
  have hsz : 0 < s.size := by
    have : s.size = s.data.toList.length := Array.length_toList.symm
    rw [this, h]; simp
  refine ⟨hsz, ?_⟩
  have h1 : s.data.toList[0]? = some b := by rw [h]; rfl
  rw [Array.getElem?_toList, Array.getElem?_eq_getElem (h := hsz)] at h1
  exact Option.some.inj h1
theorem next_calls (g : Gr) (p : Nat) (n : ND) (s : ByteArray) (w : World) (hg : GMem w g) (hp : g p = some n) (hk : ∀ b q, n.kid b = some q → ∃ m, g q = some m) :
    Calls Try.prog 30 #[.pointer (some ⟨p, 0, none⟩), .string s] w fun e w' => ∃ r, e = .returned (oP r) ∧ NextIs g n s.data.toList r ∧ Up w w' := by
  have N := hg.node p n hp
  have c2 := N.c2
  rcases hl : s.data.toList with _ | ⟨b, t⟩
  · obtain rfl := bytes_nil hl
    clear hl
    go_enter Try.func30, Try.ntmps30
    go_wp2
    go_ret
    exact ⟨none, rfl, fun b t q m e => (by cases e), Up.refl _⟩
  · obtain ⟨hz, hb⟩ := bytes_head hl
    have z1 : ¬ s.toList = [] := fun e => by rw [Lib.toList_data, hl] at e; cases e
    have z2 : s.toList.isEmpty = false := by rw [List.isEmpty_eq_false_iff]; exact z1
    have hlk : ∀ k, _ := fun k => (N.map.up ((Up.refl w).drewN k)).look b
    have HN := hide N
    clear N
    cases hf : n.kid b with
    | none =>
      rw [toldB_none hf] at hlk
      go_enter Try.func30, Try.ntmps30
      go_wp2_with fail
      go_quiet (fail)
      go_wp2
      go_ret
      exact ⟨none, rfl, fun b' t' q m e1 e2 _ => (by cases e1; rw [hf] at e2; cases e2), (Up.refl w).drewN _⟩
    | some q =>
      rw [toldB_some hf] at hlk
      obtain ⟨m, hm⟩ := hk b q hf
      have M := hg.node q m hm
      have k0 := M.c0
      clear M
      cases hh : Lib.hasPrefix s.data.toList m.lab.data.toList with
      | false =>
        go_enter Try.func30, Try.ntmps30
        go_wp2_with fail
        go_quiet (fail)
        go_wp2_with (go_at_call 26; refine (Try.strings_HasPrefix s m.lab _).mono ?_; rintro _ _ ⟨rfl, rfl⟩; rw [hh])
        go_ret
        refine ⟨none, rfl, fun b' t' q' m' e1 e2 e3 hpre => ?_, (Up.refl w).drewN _⟩
        cases e1
        rw [hf] at e2
        cases e2
        rw [hm] at e3
        cases e3
        have hpre' : m.lab.data.toList <+: b :: t := hpre
        unfold Lib.hasPrefix at hh
        rw [hl] at hh
        rw [List.isPrefixOf_iff_prefix.2 hpre'] at hh
        cases hh
      | true =>
        go_enter Try.func30, Try.ntmps30
        go_wp2_with fail
        go_quiet (fail)
        go_wp2_with (go_at_call 26; refine (Try.strings_HasPrefix s m.lab _).mono ?_; rintro _ _ ⟨rfl, rfl⟩; rw [hh])
        go_ret
        unfold Lib.hasPrefix at hh
        rw [hl] at hh
        exact ⟨some q, rfl, ⟨b, t, m, rfl, hf, hm, List.isPrefixOf_iff_prefix.1 hh⟩, (Up.refl w).drewN _⟩

/-- How many bytes two begin alike with. -/
def likeN : List UInt8 → List UInt8 → Nat
  | a :: l, b :: m => if a = b then likeN l m + 1 else 0
  | _, _ => 0
theorem likeN_spec : ∀ (l m : List UInt8), likeN l m ≤ l.length ∧ likeN l m ≤ m.length ∧ l.take (likeN l m) = m.take (likeN l m) ∧ (∀ h1 : likeN l m < l.length, ∀ h2 : likeN l m < m.length, l[likeN l m] ≠ m[likeN l m])
  | [], m => by simp [likeN]
  | a :: l, [] => by simp [likeN]
  | a :: l, b :: m => by
    by_cases e : a = b
    · subst e
      obtain ⟨h1, h2, h3, h4⟩ := likeN_spec l m
      have : likeN (a :: l) (a :: m) = likeN l m + 1 := by simp [likeN]
      refine ⟨by rw [this]; simpa using h1, by rw [this]; simpa using h2, by rw [this]; simp [h3], fun h5 h6 => ?_⟩
      simp only [this, List.getElem_cons_succ]
      exact h4 (by simpa [this] using h5) (by simpa [this] using h6)
    · have : likeN (a :: l) (b :: m) = 0 := by simp [likeN, e]
      refine ⟨by omega, by omega, by rw [this]; rfl, fun h5 h6 => ?_⟩
      simp only [this, List.getElem_cons_zero]
      exact e
theorem likeN_uniq (l m : List UInt8) (k : Nat) (h1 : k ≤ l.length) (h2 : k ≤ m.length) (h3 : l.take k = m.take k) (h4 : ∀ (a : k < l.length) (b : k < m.length), l[k] ≠ m[k]) : k = likeN l m := by
  obtain ⟨g1, g2, g3, g4⟩ := likeN_spec l m
  rcases Nat.lt_trichotomy k (likeN l m) with h | h | h
  · exfalso
    refine h4 (by omega) (by omega) ?_
    have e1 : (l.take (likeN l m))[k]? = (m.take (likeN l m))[k]? := by rw [g3]
    rw [List.getElem?_take_of_lt h, List.getElem?_take_of_lt h, List.getElem?_eq_getElem (by omega), List.getElem?_eq_getElem (by omega)] at e1
    exact Option.some.inj e1
  · exact h
  · exfalso
    refine g4 (by omega) (by omega) ?_
    have e1 : (l.take k)[likeN l m]? = (m.take k)[likeN l m]? := by rw [h3]
    rw [List.getElem?_take_of_lt h, List.getElem?_take_of_lt h, List.getElem?_eq_getElem (by omega), List.getElem?_eq_getElem (by omega)] at e1
    exact Option.some.inj e1
set_option maxHeartbeats 4000000 in
theorem alike_calls (a b : ByteArray) (w : World) (ha : a.size ≤ 1000000) (hb : b.size ≤ 1000000) : Calls Try.prog 33 #[.string a, .string b] w fun e w' => e = .returned (.int .i64 (likeN a.data.toList b.data.toList)) ∧ Up w w' := by
  have la : a.data.toList.length = a.size := Array.length_toList
  have lb : b.data.toList.length = b.size := Array.length_toList
  go_enter Try.func33, Try.ntmps33
  go_wp2_with fail
  go_loopw [5] (fun iv wr => ∃ i : Nat, i ≤ a.size ∧ i ≤ b.size ∧ iv = .int .i64 i ∧ Hid (a.data.toList.take i = b.data.toList.take i) ∧ Hid (Up w wr)) (fun iv _ => a.size - (intOf iv).toNat)
  case atStart => exact ⟨0, Nat.zero_le _, Nat.zero_le _, rfl, rfl, Up.refl _⟩
  case round =>
    obtain ⟨i, h1, h2, rfl, ht, hu⟩ := hrel
    obtain ⟨k, hk⟩ : ∃ k, k = min a.size b.size := ⟨_, rfl⟩
    have em : min (a.size : Int) (b.size : Int) = (k : Int) := by omega
    have hk1 : k ≤ a.size ∧ k ≤ b.size := by omega
    have i0 : (0 : Int) ≤ (i : Int) := by omega
    by_cases hik : i < k
    · have t1 : decide ((i : Int) < (k : Int)) = true := decide_eq_true (by omega)
      have i1 : (i : Int) < (a.size : Int) := by omega
      have i2 : (i : Int) < (b.size : Int) := by omega
      have n1 : i < a.size := by omega
      have n2 : i < b.size := by omega
      obtain ⟨x, hx⟩ : ∃ x, a[i]'n1 = x := ⟨_, rfl⟩
      obtain ⟨y, hy⟩ : ∃ y, b[i]'n2 = y := ⟨_, rfl⟩
      have HK := hide hk
      clear hk
      have px : a.data.toList[i]'(by rw [la]; exact n1) = x := by rw [← hx]; exact Array.getElem_toList ..
      have py : b.data.toList[i]'(by rw [lb]; exact n2) = y := by rw [← hy]; exact Array.getElem_toList ..
      have PX := hide px
      have PY := hide py
      clear px py
      cases hxy : ((x.toNat : Int) == (y.toNat : Int)) with
      | true =>
        go_wp2_with fail
        go_region
        have hxe : x = y := UInt8.toNat_inj.1 (by have e : (x.toNat : Int) = (y.toNat : Int) := (by simpa using hxy); omega)
        replace hxe := hide hxe
        clear hxy
        have hw1 : wrap64 ((i : Int) + 1) = (i : Int) + 1 := by rw [wrap64]; omega
        go_wp2
        go_roundw
        case rel =>
          refine ⟨i + 1, by omega, by omega, by go_num, ?_, hide (hu.out.drew)⟩
          refine hide ?_
          rw [List.take_add_one, List.take_add_one, ht.out, List.getElem?_eq_getElem (by rw [la]; exact n1), List.getElem?_eq_getElem (by rw [lb]; exact n2), PX.out, PY.out, hxe.out]
        case measure => simp [intOf]; omega
      | false =>
        go_wp2_with fail
        go_region
        have hne : x ≠ y := fun e => by subst e; simp at hxy
        replace hne := hide hne
        clear hxy
        go_wp2
        go_ret
        refine ⟨?_, hu.out.drew⟩
        have := likeN_uniq a.data.toList b.data.toList i (by rw [la]; exact h1) (by rw [lb]; exact h2) ht.out (fun u v => by rw [PX.out, PY.out]; exact hne.out)
        rw [← this]
        rfl
    · have t1 : decide ((i : Int) < (k : Int)) = false := decide_eq_false (by omega)
      have HK := hide hk
      clear hk
      go_wp2_with fail
      go_region
      go_wp2
      go_ret
      refine ⟨?_, hu.out.drew⟩
      have hk2 := HK.out
      have := likeN_uniq a.data.toList b.data.toList i (by rw [la]; exact h1) (by rw [lb]; exact h2) ht.out (fun u v => absurd (show i < k by rw [la] at u; rw [lb] at v; omega) hik)
      rw [← this]
      rfl

end Go.Proofs.Ytmbniakobhaomaa

namespace Go.Proofs.Ytmbniakobhaomaa
open Go.ChangeShapes Go.WideShapes Go.ChangeAt Go.RowKit
set_option linter.unusedVariables false
set_option maxRecDepth 100000
attribute [local go_sem ↓] Go.wp_at_zero Go.wp_at_succ

def strLen : Value → Nat
  | .string s => s.size
  | _ => 0
def isRootV (root : Nat) : Value → Nat
  | .pointer (some a) => if a.block = root then 1 else 0
  | _ => 0
/-- On the way down. -/
structure DownA (g : Gr) (root : Nat) (s : List UInt8) (q : Nat) (m : ND) (prev : Option Nat) (r : ByteArray) : Prop where
  at_ : g q = some m
  eq : ∃ pre, s = pre ++ r.data.toList ∧ m.str = pre ++ m.lb
  pre : m.lb <+: r.data.toList
  ab : Above g root q prev
structure DownB (g : Gr) (root : Nat) (s : List UInt8) (p : Nat) (n : ND) (ab : Option Nat) (r : ByteArray) : Prop where
  deep : Deep g root s p n r.data.toList
  ab : Above g root p ab
theorem oP_some (q : Nat) : oP (some q) = .pointer (some ⟨q, 0, none⟩) := rfl
theorem DownA.sz {g : Gr} {root : Nat} {s : List UInt8} {q : Nat} {m : ND} {prev : Option Nat} {r : ByteArray} (h : DownA g root s q m prev r) : m.lab.size ≤ r.size := by
  have := h.pre.length_le
  have e1 : r.data.toList.length = r.size := Array.length_toList
  have e2 : m.lb.length = m.lab.size := Array.length_toList
  omega
def DownO (g : Gr) (root : Nat) (s : List UInt8) (q : Nat) (m : ND) (prev : Option Nat) (r' : ByteArray) : Option Nat → Prop
  | some q' => ∃ m', DownA g root s q' m' (some q) r' ∧ q' ≠ root
  | none => DownB g root s q m prev r'
theorem DownA.step {g : Gr} {root : Nat} {dom : List Nat} {s : List UInt8} {q : Nat} {m : ND} {prev : Option Nat} {r r' : ByteArray} {o : Option Nat} (h : DownA g root s q m prev r) (hw : WF g root dom) (hr : r'.data.toList = r.data.toList.drop m.lab.size) (hn : NextIs g m r'.data.toList o) :
    s = m.str ++ r'.data.toList ∧ DownO g root s q m prev r' o := by
  obtain ⟨pre, h1, h2⟩ := h.eq
  obtain ⟨u, hu⟩ := h.pre
  have e2 : m.lb.length = m.lab.size := Array.length_toList
  have hr' : r'.data.toList = u := by rw [hr, ← hu, ← e2, List.drop_left]
  have hs : s = m.str ++ r'.data.toList := by rw [h1, h2, hr', ← hu, List.append_assoc]
  refine ⟨hs, ?_⟩
  cases o with
  | none => exact ⟨⟨h.at_, hs, hn⟩, h.ab⟩
  | some q' =>
    obtain ⟨b, t, m', h3, h4, h5, h6⟩ := hn
    obtain ⟨m2, h7, h8, h9⟩ := hw.kid q m b q' h.at_ h4
    rw [h5] at h7
    cases h7
    exact ⟨m', ⟨h5, ⟨m.str, hs, h8⟩, h6, .inr ⟨q, m, b, rfl, h.at_, h4⟩⟩, (hw.kid_ne h.at_ h4).1⟩

theorem DownA.pos {g : Gr} {root : Nat} {dom : List Nat} {s : List UInt8} {q : Nat} {m : ND} {prev : Option Nat} {r : ByteArray} (h : DownA g root s q m prev r) (hw : WF g root dom) : 0 < m.lab.size + isRootV root (.pointer (some ⟨q, 0, none⟩)) := by
  show 0 < m.lab.size + (if q = root then 1 else 0)
  rcases h.ab with ⟨e, _⟩ | ⟨x, nx, b, _, h1, h2⟩
  · rw [if_pos e]; omega
  · obtain ⟨m2, h3, _, h4⟩ := hw.kid x nx b q h1 h2
    rw [h.at_] at h3
    cases h3
    obtain ⟨t, ht⟩ := head_some h4
    have e2 : m.lb.length = m.lab.size := Array.length_toList
    rw [ht] at e2
    simp at e2
    omega
theorem piece_list (t : ByteArray) (a b : Nat) : (t.extract a b).data.toList = (t.data.toList.drop a).take (b - a) := by
  rw [ByteArray.data_extract, Array.toList_extract, List.extract_eq_take_drop]
theorem rest_list (t : ByteArray) (a : Nat) : (t.extract a t.size).data.toList = t.data.toList.drop a := by
  rw [piece_list, List.take_of_length_le]
  have : t.data.toList.length = t.size := Array.length_toList
  rw [List.length_drop, this]
  exact Nat.le_refl _
theorem rest_size (t : ByteArray) (a : Nat) : (t.extract a t.size).size = t.size - a := by rw [ByteArray.size_extract]; omega
def DeepOut (w : World) (g : Gr) (root : Nat) (s : List UInt8) (e : Ending) (w' : World) : Prop :=
  ∃ p n ab r, e = .returned (.tuple #[.pointer (some ⟨p, 0, none⟩), oP ab, .string r]) ∧ DownB g root s p n ab r ∧ Up w w'
set_option maxHeartbeats 4000000 in
theorem deepest_calls (T root : Nat) (a l : Int) (g : Gr) (dom : List Nat) (s : ByteArray) (w : World) (hw : WF g root dom) (hg : GMem w g) (ht : TopAt w T (nP root) a l) :
    Calls Try.prog 24 #[.pointer (some ⟨T, 0, none⟩), .string s] w fun e w' => DeepOut w g root s.data.toList e w' := by
  obtain ⟨m0, hm0, hs0, hl0⟩ := hw.top
  have c0 := ht.c0
  unfold nP at c0
  have HW := hide hw
  have HG := hide hg
  have HA := hide (show DownA g root s.data.toList root m0 none s from ⟨hm0, ⟨[], rfl, by rw [hs0, hl0]; rfl⟩, by rw [hl0]; exact List.nil_prefix, .inl ⟨rfl, rfl⟩⟩)
  clear hw hg hm0 hs0 hl0 ht
  go_enter Try.func24, Try.ntmps24
  go_wp2_with fail
  go_loopw [4, 5, 6, 7] (fun v4 v5 v6 v7 wr => ∃ r, v6 = .string r ∧ Hid (Up w wr) ∧ ((∃ q m prev, v7 = .pointer (some ⟨q, 0, none⟩) ∧ v4 = oP prev ∧ Hid (DownA g root s.data.toList q m prev r)) ∨ (∃ p n ab, v7 = .pointer none ∧ v4 = .pointer (some ⟨p, 0, none⟩) ∧ v5 = oP ab ∧ Hid (DownB g root s.data.toList p n ab r)))) (fun v4 v5 v6 v7 _ => strLen v6 + isRootV root v7)
  case atStart => exact ⟨s, rfl, hide (Up.refl _), .inl ⟨root, m0, none, rfl, rfl, HA⟩⟩
  case round =>
    obtain ⟨r, rfl, hu, ⟨q, m, prev, rfl, rfl, hd⟩ | ⟨p, n, ab, rfl, rfl, rfl, hd⟩⟩ := hrel
    · have N := (HG.out.up hu.out).node q m hd.out.at_
      have k0 := N.c0
      have hsz := hd.out.sz
      have hz0 : (0 : Int) ≤ (m.lab.size : Int) := by omega
      have hz1 : (m.lab.size : Int) ≤ (r.size : Int) := by omega
      have hnx := next_calls g q m (r.extract m.lab.size r.size) wr (HG.out.up hu.out) hd.out.at_ (fun b y hy => by obtain ⟨k, h1, _⟩ := HW.out.kid q m b y hd.out.at_ hy; exact ⟨k, h1⟩)
      have HNX := hide hnx
      have HSZ := hide hsz
      clear N hsz hnx
      go_wp2_with fail
      refine HNX.out.mono ?_
      rintro _ w2 ⟨o, rfl, hno, hu2⟩
      have hst := hd.out.step HW.out (rest_list r m.lab.size) hno
      clear HNX hno
      replace hu := hide (hu.out.trans hu2)
      clear hu2
      cases o with
      | some q' =>
        obtain ⟨hs, m', hd', hqr⟩ := hst
        replace hd' := hide hd'
        have H := hide (⟨hs, hqr⟩ : _ ∧ _)
        clear hs hqr
        rw [oP_some]
        dsimp only
        go_wp2
        go_roundw
        case rel => exact ⟨_, rfl, hu, .inl ⟨q', m', some q, rfl, rfl, hd'⟩⟩
        case measure =>
          have hz := HSZ.out
          have e1 : isRootV root (.pointer (some ⟨q', 0, none⟩)) = 0 := by simp [isRootV, H.out.2]
          have hp := hd.out.pos HW.out
          show strLen (.string (r.extract m.lab.size r.size)) + isRootV root (.pointer (some ⟨q', 0, none⟩)) < strLen (.string r) + isRootV root (.pointer (some ⟨q, 0, none⟩))
          rw [e1]
          simp only [strLen, rest_size]
          omega
      | none =>
        obtain ⟨hs, hd'⟩ := hst
        replace hd' := hide hd'
        replace hs := hide hs
        dsimp only [oP]
        go_wp2
        go_roundw
        case rel => exact ⟨_, rfl, hu, .inr ⟨q, m, prev, rfl, rfl, rfl, hd'⟩⟩
        case measure =>
          have hz := HSZ.out
          have hp := hd.out.pos HW.out
          have e1 : isRootV root (.pointer none) = 0 := rfl
          rw [e1]
          simp only [strLen, rest_size]
          omega
    · go_wp2
      go_ret3
      exact ⟨p, n, ab, r, rfl, hd.out, hu.out⟩

end Go.Proofs.Ytmbniakobhaomaa

namespace Go.Proofs.Ytmbniakobhaomaa
open Go.ChangeShapes Go.WideShapes Go.ChangeAt Go.RowKit
set_option linter.unusedVariables false
set_option maxRecDepth 100000
attribute [local go_sem ↓] Go.wp_at_zero Go.wp_at_succ

theorem spl_funext {g : Gr} {p q c : Nat} {n N0 N m' : ND} {b : UInt8} (h1 : p ≠ q) (h2 : c ≠ q) (h3 : c ≠ p) : updG (updG (updG (updG g q (some N0)) p (some (splP n b q))) c (some m')) q (some N) = splG g p q c n N m' b := by
  funext x
  unfold splG updG
  by_cases e1 : x = q
  · subst e1; simp [h2.symm]
  · by_cases e2 : x = c
    · subst e2; simp [e1]
    · simp [e1, e2]
def cutS (s : ByteArray) (k : Nat) : ByteArray := s.extract k s.size
def topS (s : ByteArray) (k : Nat) : ByteArray := s.extract 0 k
theorem cutS_list (s : ByteArray) (k : Nat) : (cutS s k).data.toList = s.data.toList.drop k := rest_list s k
theorem topS_list (s : ByteArray) (k : Nat) : (topS s k).data.toList = s.data.toList.take k := by unfold topS; rw [piece_list]; simp
def SplOut (w : World) (T : Nat) (r : Value) (a l : Int) (g : Gr) (p c sz : Nat) (n m : ND) (b b2 : UInt8) (e : Ending) (w' : World) : Prop :=
  ∃ q M, e = .returned (.pointer (some ⟨q, 0, none⟩)) ∧ w.heap.size ≤ q ∧
    (∃ N m', SplAt g p q c n N m m' b b2 (m.lb.take sz) (m.lb.drop sz) ∧ N.mp = M ∧ GMem w' (splG g p q c n N m' b) ∧ TStep T g (splG g p q c n N m' b) w w') ∧ TopAt w' T r (a + 1) l

set_option maxHeartbeats 4000000 in
theorem split_calls (T p c sz : Nat) (r : Value) (a l : Int) (g : Gr) (n m : ND) (b b2 : UInt8) (w : World) (hg : GMem w g) (ht : TopAt w T r a l) (ha : 0 ≤ a ∧ a ≤ 1000000) (hp : g p = some n) (hc : g c = some m) (hk : n.kid b = some c) (hcp : c ≠ p)
    (hn : n.ks.length < 1000000) (hki : ∀ x, x ∈ n.ks ↔ (n.kid x).isSome = true) (hz : m.lab.size ≤ 1000000) (h1 : ∃ t, m.lb.take sz = b :: t) (h2 : ∃ t, m.lb.drop sz = b2 :: t) :
    Calls Try.prog 34 #[.pointer (some ⟨T, 0, none⟩), .pointer (some ⟨p, 0, none⟩), .pointer (some ⟨c, 0, none⟩), .int .i64 sz] w fun e w' => SplOut w T r a l g p c sz n m b b2 e w' := by
  have NP := hg.node p n hp
  have NC := hg.node c m hc
  have k0 := NC.c0
  have hszl : sz < m.lab.size := by
    obtain ⟨t, ht2⟩ := h2
    have e1 : m.lb.length = m.lab.size := Array.length_toList
    have := congrArg List.length ht2
    rw [List.length_drop] at this
    simp at this
    omega
  have z0 : (0 : Int) ≤ (sz : Int) := by omega
  have z1 : (sz : Int) ≤ (m.lab.size : Int) := by omega
  have hcut : (m.lab.extract 0 sz).size ≤ 1000000 := by rw [ByteArray.size_extract]; omega
  have HM := hide (made_calls T r a l (topS m.lab sz) w ht ha hcut)
  have H := hide (⟨hg, ht, hp, hc, hk, hcp⟩ : GMem w g ∧ TopAt w T r a l ∧ g p = some n ∧ g c = some m ∧ n.kid b = some c ∧ c ≠ p)
  have HN := hide (⟨hn, hki⟩ : _ ∧ _)
  have H1 := hide h1
  have H2 := hide h2
  have HS := hide hszl
  clear hg ht hp hc hk hn hki NP NC h1 h2 hszl hcp
  go_enter Try.func34, Try.ntmps34
  go_wp2_with fail
  refine HM.out.mono ?_
  rintro _ w1 ⟨q, M, rfl, hq, hM, hN, ht1, hc1⟩
  clear HM
  obtain ⟨hg, ht, hp, hc, hk, hcp⟩ := H.out
  have g1 : GMem w1 g := hg.chg hc1 (hg.top ht)
  have hgq : g q = none := by
    cases e : g q with
    | none => rfl
    | some x => have := (hg.node q x e).lt; omega
  have hpq : p ≠ q := fun e => by rw [e, hgq] at hp; cases hp
  have hcq : c ≠ q := fun e => by rw [e, hgq] at hc; cases hc
  have g2 := GMem.new hg g1 (n := newN (topS m.lab sz) (n.str ++ m.lb.take sz) M) hq (hN _) hM rfl
  have s2 := TStep.new1 (g := g) (n := newN (topS m.lab sz) (n.str ++ m.lb.take sz) M) hc1 hq hM rfl
  have hp2 : updG g q (some (newN (topS m.lab sz) (n.str ++ m.lb.take sz) M)) p = some n := by rw [updG_other _ _ hpq]; exact hp
  have hc2 : updG g q (some (newN (topS m.lab sz) (n.str ++ m.lb.take sz) M)) c = some m := by rw [updG_other _ _ hcq]; exact hc
  obtain ⟨t1, ht1'⟩ := H1.out
  obtain ⟨t2, ht2'⟩ := H2.out
  obtain ⟨N0, hN0⟩ : ∃ N0, N0 = newN (topS m.lab sz) (n.str ++ m.lb.take sz) M := ⟨_, rfl⟩
  have HQ0 := hide hN0
  have hNq := hN (n.str ++ m.lb.take sz)
  rw [← hN0] at g2 s2 hp2 hc2 hNq
  have hput := put_calls p q n.mp n.ks.length n.ks.length n.kid (topS m.lab sz) b t1 w1 (g2.node p n hp2).c2 (hN []).c0 (by rw [topS_list]; exact ht1') (g2.node p n hp2).map HN.out.1 (by rw [hk]; rfl)
  have HP := hide hput
  have G2 := hide g2
  have S2 := hide s2
  have HH := hide (⟨hp2, hc2, hpq, hcq, hgq, hq, hNq, ht1⟩ : _ ∧ _ ∧ _ ∧ _ ∧ _ ∧ _ ∧ _ ∧ _)
  clear hput g2 s2 hp2 hc2 hpq hcq hgq hq hN ht1 g1 hg ht hp hc hk hcp hM hc1 k0 hN0 hNq
  dsimp only
  go_wp2_with fail
  refine HP.out.mono ?_
  rintro _ w2 ⟨rfl, hm2, hc2⟩
  clear HP
  -- below the upper one
  obtain ⟨hp2, hcc, hpq, hcq, hgq, hq, hNq, ht1⟩ := HH.out
  have hcp := H.out.2.2.2.2.2
  have hkc := H.out.2.2.2.2.1
  have NP := G2.out.node p n hp2
  have NP2 : NAt w2 p (splP n b q) := ⟨(hc2.2 p NP.lt (kd_ne NP.kd1 NP.kd3 (by decide))).trans NP.blk, OwnG.chgT NP.ids hc2 (fun x hx => kd_ne (NP.kd2 hx) NP.kd3 (by decide)), hm2⟩
  have g3 := hide (G2.out.set1 hc2 hp2 (fun y _ e => .inr (.inr e)) NP2 rfl (fun b h => .inl h))
  have s3 := hide (S2.out.trans (TStep.set (T := T) (n' := splP n b q) hp2 hc2 (fun y _ e => .inr (.inr e)) rfl (fun b h => .inl h)))
  have ht2 := hide (ht1.chg hc2 (fun e => kd_ne ht1.kd4 NP.kd3 (by decide) e))
  have hc3 : updG (updG g q (some N0)) p (some (splP n b q)) c = some m := by rw [updG_other _ _ hcp]; exact hcc
  have hq3 : updG (updG g q (some N0)) p (some (splP n b q)) q = some N0 := by rw [updG_other _ _ hpq.symm]; exact updG_same ..
  have NC := g3.out.node c m hc3
  have k0 := NC.c0
  have f0 := NC.fz 0
  have HC3 := hide (⟨hc3, hq3⟩ : _ ∧ _)
  have z2 := cutS_list m.lab sz
  clear hp2 hcc hpq hcq hgq hq hNq ht1 NP NP2 hc3 hq3 NC hm2 hc2 hcp hkc G2 S2
  dsimp only
  go_wp2_with fail
  refine (clone_calls (m.lab.extract sz m.lab.size) w2 (by rw [rest_size]; omega)).mono ?_
  rintro _ w3 ⟨rfl, hu3⟩
  have f0' := (hu3.frozen (p := ⟨c, 0, none⟩) (World.block_lt_of_cell? w2 ⟨c, 0, none⟩ k0)).trans f0
  clear f0
  replace k0 := hu3.cell k0
  have HU3 := hide hu3
  clear hu3
  obtain ⟨W4, hW4⟩ : ∃ W4, W4 = w3.setCell ⟨c, 0, none⟩ (.string (cutS m.lab sz)) := ⟨_, rfl⟩
  have hc4 : Chg (fun y => y = c) w3 W4 := by rw [hW4]; exact chg_set w3 ⟨c, 0, none⟩ _
  obtain ⟨hc3, hq3⟩ := HC3.out
  have g3' := g3.out.up HU3.out
  have NC := g3'.node c m hc3
  have NC4 : NAt W4 c { m with lab := cutS m.lab sz } := ⟨by rw [hW4]; exact heap_setCell_same w3 c 0 _ _ _ NC.blk, OwnG.chgT NC.ids hc4 (fun x hx => kd_ne (NC.kd2 hx) NC.kd1 (by decide)), NC.map.chg hc4 (fun e => kd_ne NC.kd3 NC.kd1 (by decide) e)⟩
  have g4 := hide (g3'.set1 hc4 hc3 (fun y _ e => .inl e) NC4 rfl (fun b h => .inl h))
  have s4 := hide ((s3.out.trans (TStep.up HU3.out)).trans (TStep.set (T := T) (n' := { m with lab := cutS m.lab sz }) hc3 hc4 (fun y _ e => .inl e) rfl (fun b h => .inl h)))
  have ht4 := hide ((ht2.out.up HU3.out).chg hc4 (fun e => kd_ne (ht2.out.up HU3.out).kd4 NC.kd1 (by decide) e))
  have hcq := HH.out.2.2.2.1
  have hq4 : updG (updG (updG g q (some N0)) p (some (splP n b q))) c (some { m with lab := cutS m.lab sz }) q = some N0 := by rw [updG_other _ _ hcq.symm]; exact hq3
  have NQ := g4.out.node q N0 hq4
  have e0 : N0.mp = M := by rw [HQ0.out]; rfl
  have e1 : N0.kid = fun _ => none := by rw [HQ0.out]; rfl
  have e2 : N0.ks = [] := by rw [HQ0.out]; rfl
  have hput := put_calls q c N0.mp 0 1 (fun _ => none) (cutS m.lab sz) b2 t2 W4 NQ.c2 NC4.c0 (by rw [cutS_list]; exact ht2') (by have := NQ.map; rw [e1, e2] at this; exact this) (by omega) rfl
  have HP := hide hput
  have HQ4 := hide (⟨hq4, e0, e1, e2⟩ : _ ∧ _ ∧ _ ∧ _)
  have HW := hide hW4
  clear hput g3' NC NC4 hq4 NQ e0 e1 e2 hc3 hq3 hc4 hcq
  have hW5 : w3.setCell ⟨c, 0, none⟩ (.string (m.lab.extract sz m.lab.size)) = W4 := hW4.symm
  clear hW4
  dsimp only
  go_wp2_with fail
  refine HP.out.mono ?_
  rintro _ w5 ⟨rfl, hm5, hc5⟩
  clear HP
  dsimp only
  go_wp2
  go_ret
  obtain ⟨hq4, e0, e1, e2⟩ := HQ4.out
  obtain ⟨hp2, hcc, hpq, hcq, hgq, hq, hNq, ht1⟩ := HH.out
  obtain ⟨hg, ht, hp, hc, hk, hcp⟩ := H.out
  have NQ := g4.out.node q N0 hq4
  have NQ5 : NAt w5 q { N0 with kid := updK (fun _ => none) b2 (some c), ks := [b2] } := ⟨(hc5.2 q NQ.lt (kd_ne NQ.kd1 NQ.kd3 (by decide))).trans NQ.blk, OwnG.chgT NQ.ids hc5 (fun x hx => kd_ne (NQ.kd2 hx) NQ.kd3 (by decide)), hm5⟩
  have g5 := g4.out.set1 hc5 hq4 (fun y _ e => .inr (.inr e)) NQ5 rfl (fun b h => .inl h)
  have s5 := s4.out.trans (TStep.set (T := T) (n' := { N0 with kid := updK (fun _ => none) b2 (some c), ks := [b2] }) hq4 hc5 (fun y _ e => .inr (.inr e)) rfl (fun b h => .inl h))
  rw [spl_funext hpq hcq hcp] at g5 s5
  refine ⟨q, M, rfl, hq, ⟨{ N0 with kid := updK (fun _ => none) b2 (some c), ks := [b2] }, { m with lab := cutS m.lab sz }, ⟨hp, hk, hc, hgq, (List.take_append_drop sz m.lb).symm, H1.out, H2.out, ?_, ?_, rfl, rfl, ?_, rfl, ?_, rfl, rfl, rfl⟩, e0, g5, s5⟩, ht4.out.chg hc5 (fun e => kd_ne ht4.out.kd4 NQ.kd3 (by decide) e)⟩
  · rw [HQ0.out]; rfl
  · rw [HQ0.out]; exact topS_list m.lab sz
  · rw [HQ0.out]; rfl
  · exact cutS_list m.lab sz

end Go.Proofs.Ytmbniakobhaomaa

namespace Go.Proofs.Ytmbniakobhaomaa
open Go.ChangeShapes Go.WideShapes Go.ChangeAt Go.RowKit
set_option linter.unusedVariables false
set_option maxRecDepth 100000
attribute [local go_sem ↓] Go.wp_at_zero Go.wp_at_succ

/-- A trie in memory, its nodes named. -/
structure TrX (w : World) (T root : Nat) (g : Gr) (dom : List Nat) (E : List UInt8 → List Int) (len : Int) (k : Nat) : Prop where
  wf : WF g root dom
  tells : Tells g E
  gm : GMem w g
  top : TopAt w T (nP root) dom.length len
  few : dom.length ≤ 2 * k + 1
  ids : ∀ p n, g p = some n → n.ids.length ≤ k
  str : ∀ p n, g p = some n → n.str.length ≤ 1000
  lab : ∀ p n, g p = some n → n.lab.size ≤ n.str.length
theorem TrX.up {w w' : World} {T root : Nat} {g : Gr} {dom : List Nat} {E : List UInt8 → List Int} {len : Int} {k : Nat} (h : TrX w T root g dom E len k) (hu : Up w w') : TrX w' T root g dom E len k :=
  ⟨h.wf, h.tells, h.gm.up hu, h.top.up hu, h.few, h.ids, h.str, h.lab⟩
theorem WF.lab {g : Gr} {root : Nat} {dom : List Nat} (h : WF g root dom) {p q : Nat} {n m : ND} {b : UInt8} (hp : g p = some n) (hk : n.kid b = some q) (hq : g q = some m) : m.str = n.str ++ m.lb ∧ (∃ t, m.lb = b :: t) ∧ m.lab.size ≤ m.str.length := by
  obtain ⟨m2, h1, h2, h3⟩ := h.kid p n b q hp hk
  rw [hq] at h1
  cases h1
  refine ⟨h2, head_some h3, ?_⟩
  have e2 : m.lb.length = m.lab.size := Array.length_toList
  have := congrArg List.length h2
  rw [List.length_append] at this
  omega
theorem leaf_funext {g : Gr} {p q : Nat} {n leaf : ND} {b : UInt8} (h : p ≠ q) : updG (updG g q (some leaf)) p (some (leafP n b q)) = leafG g p q n leaf b := by
  funext x
  unfold leafG updG
  by_cases e1 : x = q
  · subst e1; simp [h.symm]
  · simp [e1]
/-- A leaf has come, in memory. -/
theorem leaf_mem {w w1 w2 : World} {T : Nat} {r : Value} {a l : Int} {g : Gr} {p q M : Nat} {n : ND} {b : UInt8} {s : ByteArray} {st : List UInt8} (hg : GMem w g) (ht : TopAt w T r a l) (hp : g p = some n) (hq : w.heap.size ≤ q) (hM : w.heap.size ≤ M) (hN : ∀ st, NAt w1 q (newN s st M)) (ht1 : TopAt w1 T r (a + 1) l) (hc1 : Chg (fun y => y = T) w w1)
    (hm2 : MapB w2 n.mp (updK n.kid b (some q)) (n.ks.length + 1)) (hc2 : Chg (fun y => y = n.mp) w1 w2) : GMem w2 (leafG g p q n (newN s st M) b) ∧ TStep T g (leafG g p q n (newN s st M) b) w w2 ∧ TopAt w2 T r (a + 1) l := by
  have hpq : p ≠ q := fun e => by have := (hg.node p n hp).lt; omega
  have g1 : GMem w1 g := hg.chg hc1 (hg.top ht)
  have g2 := GMem.new hg g1 (n := newN s st M) hq (hN _) hM rfl
  have s2 := TStep.new1 (g := g) (n := newN s st M) hc1 hq hM rfl
  have hp2 : updG g q (some (newN s st M)) p = some n := by rw [updG_other _ _ hpq]; exact hp
  have NP := g2.node p n hp2
  have NP2 : NAt w2 p (leafP n b q) := ⟨(hc2.2 p NP.lt (kd_ne NP.kd1 NP.kd3 (by decide))).trans NP.blk, OwnG.chgT NP.ids hc2 (fun x hx => kd_ne (NP.kd2 hx) NP.kd3 (by decide)), hm2⟩
  have g3 := g2.set1 hc2 hp2 (fun y _ e => .inr (.inr e)) NP2 rfl (fun b h => .inl h)
  have s3 := s2.trans (TStep.set (T := T) (n' := leafP n b q) hp2 hc2 (fun y _ e => .inr (.inr e)) rfl (fun b h => .inl h))
  rw [leaf_funext hpq] at g3 s3
  exact ⟨g3, s3, ht1.chg hc2 (fun e => kd_ne ht1.kd4 NP.kd3 (by decide) e)⟩
theorem leaf_str {g : Gr} {p q : Nat} {n leaf : ND} {b : UInt8} (hp : g p = some n) : ∀ x m, leafG g p q n leaf b x = some m → m = leaf ∨ ∃ m0, g x = some m0 ∧ m.str = m0.str ∧ m.ids = m0.ids ∧ m.lab = m0.lab := fun x m hx => by
  rcases get2 hx with ⟨_, e2⟩ | ⟨_, e1, e2⟩ | ⟨_, _, e2⟩
  · cases e2; exact .inl rfl
  · cases e2; exact .inr ⟨n, by rw [e1]; exact hp, rfl, rfl, rfl⟩
  · exact .inr ⟨m, e2, rfl, rfl, rfl⟩
/-- A leaf has come. -/
theorem TrX.leaf {w w1 w2 : World} {T root : Nat} {g : Gr} {dom : List Nat} {E : List UInt8 → List Int} {len : Int} {k : Nat} (h : TrX w T root g dom E len k) {p q M : Nat} {n : ND} {b : UInt8} {t s : List UInt8} {r : ByteArray} (hd : Deep g root s p n r.data.toList) (hr : r.data.toList = b :: t) (hk : n.kid b = none) (hq : w.heap.size ≤ q) (hM : w.heap.size ≤ M) (hN : ∀ st, NAt w1 q (newN r st M)) (ht1 : TopAt w1 T (nP root) ((dom.length : Int) + 1) len) (hc1 : Chg (fun y => y = T) w w1)
    (hm2 : MapB w2 n.mp (updK n.kid b (some q)) (n.ks.length + 1)) (hc2 : Chg (fun y => y = n.mp) w1 w2) (hs : s.length ≤ 1000) (k' : Nat) (hk' : k ≤ k') (hf : dom.length + 1 ≤ 2 * k' + 1) :
    TrX w2 T root (leafG g p q n (newN r s M) b) (q :: dom) E len k' ∧ TStep T g (leafG g p q n (newN r s M) b) w w2 ∧ leafG g p q n (newN r s M) b q = some (newN r s M) := by
  have hgq : g q = none := by
    cases e : g q with
    | none => rfl
    | some x => have := (h.gm.node q x e).lt; omega
  obtain ⟨g2, s2, t2⟩ := leaf_mem (st := s) h.gm h.top hd.at_ hq hM hN ht1 hc1 hm2 hc2
  refine ⟨⟨h.wf.leaf hd hr hk hgq rfl rfl (fun _ => rfl) rfl rfl, h.tells.leaf h.wf hd hr hgq rfl rfl, g2, by rw [List.length_cons]; exact t2, by rw [List.length_cons]; exact hf, fun x m hx => ?_, fun x m hx => ?_, fun x m hx => ?_⟩, s2, updG_same ..⟩
  · rcases leaf_str hd.at_ x m hx with rfl | ⟨m0, h1, _, h3, _⟩
    · exact Nat.zero_le _
    · rw [h3]; exact Nat.le_trans (h.ids x m0 h1) hk'
  · rcases leaf_str hd.at_ x m hx with rfl | ⟨m0, h1, h2, _⟩
    · exact hs
    · rw [h2]; exact h.str x m0 h1
  · rcases leaf_str hd.at_ x m hx with rfl | ⟨m0, h1, h2, _, h4⟩
    · show r.size ≤ s.length
      have e2 : r.data.toList.length = r.size := Array.length_toList
      rw [hd.eq, List.length_append]
      omega
    · rw [h2, h4]; exact h.lab x m0 h1
/-- A node was parted. -/
theorem TrX.split {w w2 : World} {T root : Nat} {g : Gr} {dom : List Nat} {E : List UInt8 → List Int} {len : Int} {k : Nat} (h : TrX w T root g dom E len k) {p q c : Nat} {n N m m' : ND} {b b2 : UInt8} {l1 l2 : List UInt8} (S : SplAt g p q c n N m m' b b2 l1 l2) (hg : GMem w2 (splG g p q c n N m' b)) (ht : TopAt w2 T (nP root) ((dom.length : Int) + 1) len) (k' : Nat) (hk' : k ≤ k') (hf : dom.length + 1 ≤ 2 * k' + 1) :
    TrX w2 T root (splG g p q c n N m' b) (q :: dom) E len k' := by
  have hcp := (h.wf.kid_ne S.hp S.hk).2
  obtain ⟨Gq, Gc, Gp, Go⟩ := S.gets hcp
  refine ⟨h.wf.split S, h.tells.split h.wf S, hg, by rw [List.length_cons]; exact ht, by rw [List.length_cons]; exact hf, fun x r hx => ?_, fun x r hx => ?_, fun x r hx => ?_⟩
  · by_cases e1 : x = c
    · rw [e1, Gc] at hx; cases hx; rw [S.m5]; exact Nat.le_trans (h.ids c m S.hc) hk'
    · by_cases e2 : x = q
      · rw [e2, Gq] at hx; cases hx; rw [S.n5]; exact Nat.zero_le _
      · by_cases e3 : x = p
        · rw [e3, Gp] at hx; cases hx; exact Nat.le_trans (h.ids p n S.hp) hk'
        · rw [Go x e1 e2 e3] at hx; exact Nat.le_trans (h.ids x r hx) hk'
  · by_cases e1 : x = c
    · rw [e1, Gc] at hx; cases hx; rw [S.m1]; exact h.str c m S.hc
    · by_cases e2 : x = q
      · rw [e2, Gq] at hx; cases hx; rw [S.n1]
        have := h.str c m S.hc
        have e3 := (h.wf.lab S.hp S.hk S.hc).1
        have e4 := congrArg List.length e3
        rw [S.lb] at e4
        simp only [List.length_append] at e4 ⊢
        omega
      · by_cases e3 : x = p
        · rw [e3, Gp] at hx; cases hx; exact h.str p n S.hp
        · rw [Go x e1 e2 e3] at hx; exact h.str x r hx
  · by_cases e1 : x = c
    · rw [e1, Gc] at hx; cases hx
      rw [S.m1]
      have e3 := h.lab c m S.hc
      have e4 : m'.lb.length = m'.lab.size := Array.length_toList
      have e5 : m.lb.length = m.lab.size := Array.length_toList
      rw [S.m2] at e4
      rw [S.lb, List.length_append] at e5
      omega
    · by_cases e2 : x = q
      · rw [e2, Gq] at hx; cases hx
        have e4 : N.lb.length = N.lab.size := Array.length_toList
        rw [S.n2] at e4
        rw [S.n1, List.length_append]
        omega
      · by_cases e3 : x = p
        · rw [e3, Gp] at hx; cases hx; exact h.lab p n S.hp
        · rw [Go x e1 e2 e3] at hx; exact h.lab x r hx

def NodeOut (w : World) (T root : Nat) (g : Gr) (E : List UInt8 → List Int) (len : Int) (k : Nat) (s : List UInt8) (e : Ending) (w' : World) : Prop :=
  ∃ q n' g' dom', e = .returned (.pointer (some ⟨q, 0, none⟩)) ∧ TrX w' T root g' dom' E len (k + 1) ∧ MinX g' root q ∧ TStep T g g' w w' ∧ g' q = some n' ∧ n'.str = s

theorem Min0.x {g : Gr} {root x : Nat} (h : Min0 g root) : MinX g root x := fun p n h1 h2 _ => h p n h1 h2
set_option maxHeartbeats 8000000 in
theorem nodeOf_calls (T root : Nat) (g : Gr) (dom : List Nat) (E : List UInt8 → List Int) (len : Int) (k : Nat) (s : ByteArray) (w : World) (h : TrX w T root g dom E len k) (hm : Min0 g root) (hs : s.size ≤ 1000) (hk : k ≤ 10000) :
    Calls Try.prog 21 #[.pointer (some ⟨T, 0, none⟩), .string s] w fun e w' => NodeOut w T root g E len k s.data.toList e w' := by
  have hsl : s.data.toList.length ≤ 1000 := by rw [show s.data.toList.length = s.size from Array.length_toList]; exact hs
  have HDP := hide (deepest_calls T root dom.length len g dom s w h.wf h.gm h.top)
  have H := hide h
  have HM := hide hm
  have HS := hide (⟨hs, hsl, hk⟩ : _ ∧ _ ∧ _)
  clear h hm hs hsl hk
  go_enter Try.func21, Try.ntmps21
  go_wp2_with fail
  refine HDP.out.mono ?_
  rintro _ w1 ⟨p, n, ab, r, rfl, hd, hu1⟩
  have X := H.out.up hu1
  have S1 := hide (TStep.up (T := T) (g := g) hu1)
  clear HDP hu1 H
  replace hd := hide hd
  dsimp only
  rcases hr : r.data.toList with _ | ⟨b, t⟩
  · obtain rfl := bytes_nil hr
    have hX := hide X
    clear X hr
    go_wp2
    go_ret
    have e1 := hd.out.deep.eq
    rw [List.append_nil] at e1
    exact ⟨p, n, g, dom, rfl, ⟨hX.out.wf, hX.out.tells, hX.out.gm, hX.out.top, by have := hX.out.few; omega, fun x m hx => Nat.le_succ_of_le (hX.out.ids x m hx), hX.out.str, hX.out.lab⟩, HM.out.x, S1.out, hd.out.deep.at_, e1.symm⟩
  · obtain ⟨hz, hb⟩ := bytes_head hr
    have z1 : ¬ r.toList = [] := fun e => by rw [Lib.toList_data, hr] at e; cases e
    have z2 : r.toList.isEmpty = false := by rw [List.isEmpty_eq_false_iff]; exact z1
    have hp := hd.out.deep.at_
    have N := X.gm.node p n hp
    have c2 := N.c2
    have hlk : ∀ k, _ := fun k => (N.map.up ((Up.refl w1).drewN k)).look b
    have hrl : r.data.toList.length = r.size := Array.length_toList
    have hrs : r.size ≤ 1000 := by
      have := congrArg List.length hd.out.deep.eq
      rw [List.length_append, hrl] at this
      have := HS.out.2.1
      omega
    have HR := hide hr
    have HP := hide hp
    have hkb : n.ks.length + 1 < 1000000 := by have := X.wf.ksle hp; have := X.few; have := HS.out.2.2; omega
    have HKB := hide hkb
    have hX := hide X
    clear X N hr hp hkb hrl
    cases hf : n.kid b with
    | none =>
      rw [toldB_none hf] at hlk
      go_wp2_with fail
      go_quiet (fail)
      have X := hX.out.up ((Up.refl w1).drewN nq)
      have S2 := hide (S1.out.trans (TStep.up (T := T) (g := g) ((Up.refl w1).drewN nq)))
      generalize w1.drewN nq = w2 at *
      clear hX hlk c2 S1
      have HMD := hide (made_calls T (nP root) dom.length len r w2 X.top (by have := X.few; have := HS.out.2.2; omega) (by omega))
      have hX := hide X
      clear X
      go_wp2_with fail
      refine HMD.out.mono ?_
      rintro _ w3 ⟨q, M, rfl, hq, hM, hN, ht1, hc1⟩
      clear HMD
      have N := hX.out.gm.node p n HP.out
      have hpT := kd_ne N.kd1 hX.out.top.kd4 (by decide)
      have hmT := kd_ne N.kd3 hX.out.top.kd4 (by decide)
      have hput := hide (put_calls p q n.mp n.ks.length (n.ks.length + 1) n.kid r b t w3 (hc1.cell N.c2 hpT) (hN []).c0 HR.out (N.map.chg hc1 hmT) (by have := HKB.out; omega) (by rw [hf]; rfl))
      have HH := hide (⟨hq, hM, hN, ht1, hc1⟩ : _ ∧ _ ∧ _ ∧ _ ∧ _)
      clear hq hM hN ht1 hc1 N hpT hmT
      dsimp only
      go_wp2_with fail
      refine hput.out.mono ?_
      rintro _ w4 ⟨rfl, hm4, hc4⟩
      clear hput
      have HE := hide (⟨hm4, hc4⟩ : _ ∧ _)
      clear hm4 hc4
      dsimp only
      go_wp2
      go_ret
      obtain ⟨hq, hM, hN, ht1, hc1⟩ := HH.out
      obtain ⟨hx, hst, hgq⟩ := hX.out.leaf hd.out.deep HR.out hf hq hM hN ht1 hc1 HE.out.1 HE.out.2 HS.out.2.1 (k + 1) (Nat.le_succ k) (by have := hX.out.few; omega)
      refine ⟨q, _, _, _, rfl, hx, ?_, S2.out.trans hst, hgq, rfl⟩
      refine MinX.leaf HM.out.x HP.out ?_
      by_cases e : p = root
      · exact .inl e
      · right
        rcases HM.out p n HP.out e with h1 | h1
        · exact .inl h1
        · right; omega
    | some c =>
      rw [toldB_some hf] at hlk
      obtain ⟨m, hc⟩ : ∃ m, g c = some m := by obtain ⟨m, h1, _⟩ := hX.out.wf.kid p n b c HP.out hf; exact ⟨m, h1⟩
      obtain ⟨hms, ⟨tm, htm⟩, hml⟩ := hX.out.wf.lab HP.out hf hc
      have hcp := (hX.out.wf.kid_ne HP.out hf).2
      have hms2 : m.lab.size ≤ 1000 := Nat.le_trans hml (hX.out.str c m hc)
      obtain ⟨sz, hsz⟩ : ∃ sz, sz = likeN m.lb r.data.toList := ⟨_, rfl⟩
      have hnp : ¬ m.lb <+: r.data.toList := hd.out.deep.stop b t c m HR.out hf hc
      obtain ⟨y1, y2, y3, y4⟩ := likeN_spec m.lb r.data.toList
      rw [← hsz] at y1 y2 y3
      have q1 : 1 ≤ sz := by rw [hsz, htm, HR.out]; simp [likeN]
      have q2 : sz < m.lb.length := by
        rcases Nat.lt_or_ge sz m.lb.length with h | h
        · exact h
        · exfalso
          have e : sz = m.lb.length := by omega
          rw [e, List.take_length] at y3
          exact hnp ⟨r.data.toList.drop m.lb.length, by have h9 := List.take_append_drop m.lb.length r.data.toList; rw [← y3] at h9; exact h9⟩
      have r1 : ∃ t, m.lb.take sz = b :: t := by
        rw [htm]
        obtain ⟨z, rfl⟩ : ∃ z, sz = z + 1 := ⟨sz - 1, by omega⟩
        exact ⟨_, rfl⟩
      obtain ⟨b2, t2, r2⟩ : ∃ b2 t2, m.lb.drop sz = b2 :: t2 := ⟨_, _, List.drop_eq_getElem_cons q2⟩
      have hrl : r.data.toList.length = r.size := Array.length_toList
      have x0 : (0 : Int) ≤ (sz : Int) := by omega
      have x1 : (sz : Int) ≤ (r.size : Int) := by omega
      have HAL : Hid (∀ W, Calls Try.prog 33 #[.string m.lab, .string r] W fun e w' => e = .returned (.int .i64 (sz : Nat)) ∧ Up W w') := hide (fun W => by rw [hsz]; exact alike_calls m.lab r W (by omega) (by omega))
      have HSP : Hid (∀ W, Up w1 W → Calls Try.prog 34 #[.pointer (some ⟨T, 0, none⟩), .pointer (some ⟨p, 0, none⟩), .pointer (some ⟨c, 0, none⟩), .int .i64 sz] W fun e w' => SplOut W T (nP root) dom.length len g p c sz n m b b2 e w') := hide (fun W hu => by
        have X := hX.out.up hu
        exact split_calls T p c sz (nP root) dom.length len g n m b b2 W X.gm X.top (by have := X.few; have := HS.out.2.2; omega) HP.out hc hf hcp (by have := HKB.out; omega) (X.wf.ks p n HP.out).2 (by omega) r1 ⟨_, r2⟩)
      have NC := hX.out.gm.node c m hc
      have k0 : ∀ j, (w1.drewN j).cell? ⟨c, 0, none⟩ = some (.string m.lab) := fun j => NC.c0
      have HC := hide (⟨hc, hms, htm, hcp, hnp, y1, y2, y3, q1, q2, r1, r2, hsz, hrl⟩ : _ ∧ _ ∧ _ ∧ _ ∧ _ ∧ _ ∧ _ ∧ _ ∧ _ ∧ _ ∧ _ ∧ _ ∧ _ ∧ _)
      have HY := hide y4
      clear hc hms htm hcp hnp y1 y2 y3 q1 q2 r1 r2 hsz hrl y4 NC hms2 hml
      go_wp2_with fail
      go_quiet (fail)
      have k0' := k0 nq
      have U2 := hide ((Up.refl w1).drewN nq)
      generalize w1.drewN nq = w2 at *
      clear k0 hlk c2
      go_wp2_with fail
      refine (HAL.out w2).mono ?_
      rintro _ w3 ⟨rfl, hu3⟩
      have U3 := hide (U2.out.trans hu3)
      clear hu3 U2 k0' HAL
      dsimp only
      go_wp2_with fail
      go_region_with (go_at_call 34; refine (HSP.out _ (by first | exact U3.out | exact U3.out.drew)).mono ?_; rintro _ w4 hsp; obtain ⟨q, M, rfl, hq, hspl, ht4⟩ := hsp; replace hspl := hide hspl; replace ht4 := hide ht4)
      obtain ⟨N, m', S, hNM, hg4, hs4⟩ := hspl.out
      have hwf1 := hX.out.wf
      have HFW := hide hX.out.few
      have X3 : TrX w3.drew T root g dom E len k := (hX.out.up U3.out).up (Up.refl _).drew
      have X4 := hide (X3.split S hg4 ht4.out (k + 1) (Nat.le_succ k) (by have := X3.few; omega))
      have S4 := hide ((S1.out.trans (TStep.up (T := T) (g := g) (U3.out.drew))).trans hs4)
      have M4 := hide (MinX.split hwf1 HM.out S)
      obtain ⟨hc, hms, htm, hcp, hnp, y1, y2, y3, q1, q2, r1, r2, hsz, hrl⟩ := HC.out
      obtain ⟨Gq, Gc, Gp, Go⟩ := S.gets hcp
      have hNs : N.str ++ (r.data.toList.drop sz) = s.data.toList := by
        rw [S.n1, hd.out.deep.eq, y3, List.append_assoc, List.take_append_drop]
      have hcut : (r.extract sz r.size).data.toList = r.data.toList.drop sz := rest_list r sz
      have HQ := hide (⟨Gq, hNs, hcut, S.n3, S.n4⟩ : _ ∧ _ ∧ _ ∧ _ ∧ _)
      have hne3 : ∀ b3 t3, r.data.toList.drop sz = b3 :: t3 → b3 ≠ b2 := fun b3 t3 e1 e2 => by
        have l1 : sz < r.data.toList.length := by
          rcases Nat.lt_or_ge sz r.data.toList.length with h | h
          · exact h
          · rw [List.drop_of_length_le h] at e1; cases e1
        rw [List.drop_eq_getElem_cons l1] at e1
        rw [List.drop_eq_getElem_cons q2] at r2
        have := HY.out (by rw [← hsz]; exact q2) (by rw [← hsz]; exact l1)
        simp only [← hsz] at this
        injection e1 with e1 _
        injection r2 with r2 _
        exact this (by rw [r2, e1, e2])
      have HNE := hide hne3
      have hrz : (r.extract sz r.size).size ≤ 1000 := by rw [rest_size]; omega
      clear hspl ht4 hg4 hs4 S X3 hc hms htm hcp hnp y1 y2 y3 q1 q2 r1 r2 hsz hrl Gq Gc Gp Go hNs hne3 S1 U3 HSP hX HC HY hNM hwf1
      obtain ⟨r2, hr2⟩ : ∃ r2, r2 = r.extract sz r.size := ⟨_, rfl⟩
      rw [← hr2] at hcut hrz ⊢
      rcases hl2 : r2.data.toList with _ | ⟨b3, t3⟩
      · obtain rfl := bytes_nil hl2
        replace hcut := hide hcut
        replace hl2 := hide hl2
        replace hr2 := hide hr2
        go_wp2
        go_ret
        obtain ⟨Gq, hNs, hc2, _⟩ := HQ.out
        rw [← hcut.out] at hNs
        exact ⟨q, N, _, _, rfl, X4.out, M4.out, S4.out, Gq, by rw [← hNs]; exact (List.append_nil _).symm⟩
      · have z3 : ¬ r2.toList = [] := fun e => by rw [Lib.toList_data, hl2] at e; cases e
        have z4 : r2.toList.isEmpty = false := by rw [List.isEmpty_eq_false_iff]; exact z3
        have HL2 := hide hl2
        replace hcut := hide hcut
        replace hr2 := hide hr2
        clear hl2
        have HMD := hide (made_calls T (nP root) (((q :: dom).length : Nat) : Int) len r2 w4 X4.out.top (by have := X4.out.few; have := HS.out.2.2; omega) (by omega))
        go_wp2_with fail
        refine HMD.out.mono ?_
        rintro _ w5 ⟨q5, M5, rfl, hq5, hM5, hN5, ht5, hc5⟩
        clear HMD
        obtain ⟨Gq, hNs, hcut', n3, n4⟩ := HQ.out
        have NN := X4.out.gm.node q N Gq
        have hpT := kd_ne NN.kd1 X4.out.top.kd4 (by decide)
        have hmT := kd_ne NN.kd3 X4.out.top.kd4 (by decide)
        have hkb3 : N.kid b3 = none := by rw [n3, updK_other _ _ (HNE.out b3 t3 (by rw [← hcut.out]; exact HL2.out))]
        have hput := hide (put_calls q q5 N.mp N.ks.length (N.ks.length + 1) N.kid r2 b3 t3 w5 (hc5.cell NN.c2 hpT) (hN5 []).c0 HL2.out (NN.map.chg hc5 hmT) (by rw [n4]; simp) (by rw [hkb3]; rfl))
        have HH := hide (⟨hq5, hM5, hN5, ht5, hc5⟩ : _ ∧ _ ∧ _ ∧ _ ∧ _)
        have HK3 := hide hkb3
        clear hq5 hM5 hN5 ht5 hc5 NN hpT hmT hkb3 Gq hNs hcut' n3 n4
        dsimp only
        go_wp2_with fail
        refine hput.out.mono ?_
        rintro _ w6 ⟨rfl, hm6, hc6⟩
        clear hput
        have HE := hide (⟨hm6, hc6⟩ : _ ∧ _)
        clear hm6 hc6
        dsimp only
        go_wp2
        go_ret
        obtain ⟨hq5, hM5, hN5, ht5, hc5⟩ := HH.out
        obtain ⟨Gq, hNs, hcut', n3, n4⟩ := HQ.out
        have hD : Deep (splG g p q c n N m' b) root s.data.toList q N r2.data.toList := ⟨Gq, by rw [hcut.out]; exact hNs.symm, fun b' t' q' m'' e1 e2 _ => by
          rw [HL2.out] at e1
          cases e1
          rw [HK3.out] at e2
          cases e2⟩
        obtain ⟨hx, hst, hgq⟩ := X4.out.leaf hD HL2.out HK3.out hq5 hM5 hN5 ht5 hc5 HE.out.1 HE.out.2 HS.out.2.1 (k + 1) (Nat.le_refl _) (by have := HFW.out; simp only [List.length_cons]; omega)
        exact ⟨q5, _, _, _, rfl, hx, MinX.leaf M4.out Gq (.inr (.inr (by rw [n4]; simp))), S4.out.trans hst, hgq, rfl⟩

end Go.Proofs.Ytmbniakobhaomaa
