/-
  The landed package trie: deepest, as its text runs.
-/
import Derived.Test.YtmbniakobhaomaaTeWka
namespace Go.Proofs.Ytmbniakobhaomaa
open Go.ChangeShapes Go.WideShapes Go.ChangeAt Go.RowKit
set_option linter.unusedVariables false
set_option maxRecDepth 100000
attribute [local go_sem ↓] Go.wp_at_zero Go.wp_at_succ

def strLen : Value → Nat
  | .string s => s.size
  | _ => 0
def isRootV (root : Nat) : Value → Nat
  | .pointer (some a) => if a.block = root then 1 else 0
  | _ => 0
/-- On the way down. -/
structure DownA (g : Gr) (root : Nat) (s : List UInt8) (q : Nat) (m : ND) (prev : Option Nat) (r : ByteArray) : Prop where
  at_ : g q = some m
  eq : ∃ pre, s = pre ++ r.data.toList ∧ m.str = pre ++ m.lb
  pre : m.lb <+: r.data.toList
  ab : Above g root q prev
structure DownB (g : Gr) (root : Nat) (s : List UInt8) (p : Nat) (n : ND) (ab : Option Nat) (r : ByteArray) : Prop where
  deep : Deep g root s p n r.data.toList
  ab : Above g root p ab
theorem oP_some (q : Nat) : oP (some q) = .pointer (some ⟨q, 0, none⟩) := rfl
theorem DownA.sz {g : Gr} {root : Nat} {s : List UInt8} {q : Nat} {m : ND} {prev : Option Nat} {r : ByteArray} (h : DownA g root s q m prev r) : m.lab.size ≤ r.size := by
  have := h.pre.length_le
  have e1 : r.data.toList.length = r.size := Array.length_toList
  have e2 : m.lb.length = m.lab.size := Array.length_toList
  omega
def DownO (g : Gr) (root : Nat) (s : List UInt8) (q : Nat) (m : ND) (prev : Option Nat) (r' : ByteArray) : Option Nat → Prop
  | some q' => ∃ m', DownA g root s q' m' (some q) r' ∧ q' ≠ root
  | none => DownB g root s q m prev r'
theorem DownA.step {g : Gr} {root : Nat} {dom : List Nat} {s : List UInt8} {q : Nat} {m : ND} {prev : Option Nat} {r r' : ByteArray} {o : Option Nat} (h : DownA g root s q m prev r) (hw : WF g root dom) (hr : r'.data.toList = r.data.toList.drop m.lab.size) (hn : NextIs g m r'.data.toList o) :
    s = m.str ++ r'.data.toList ∧ DownO g root s q m prev r' o := by
  obtain ⟨pre, h1, h2⟩ := h.eq
  obtain ⟨u, hu⟩ := h.pre
  have e2 : m.lb.length = m.lab.size := Array.length_toList
  have hr' : r'.data.toList = u := by rw [hr, ← hu, ← e2, List.drop_left]
  have hs : s = m.str ++ r'.data.toList := by rw [h1, h2, hr', ← hu, List.append_assoc]
  refine ⟨hs, ?_⟩
  cases o with
  | none => exact ⟨⟨h.at_, hs, hn⟩, h.ab⟩
  | some q' =>
    obtain ⟨b, t, m', h3, h4, h5, h6⟩ := hn
    obtain ⟨m2, h7, h8, h9⟩ := hw.kid q m b q' h.at_ h4
    rw [h5] at h7
    cases h7
    exact ⟨m', ⟨h5, ⟨m.str, hs, h8⟩, h6, .inr ⟨q, m, b, rfl, h.at_, h4⟩⟩, (hw.kid_ne h.at_ h4).1⟩

theorem DownA.pos {g : Gr} {root : Nat} {dom : List Nat} {s : List UInt8} {q : Nat} {m : ND} {prev : Option Nat} {r : ByteArray} (h : DownA g root s q m prev r) (hw : WF g root dom) : 0 < m.lab.size + isRootV root (.pointer (some ⟨q, 0, none⟩)) := by
  show 0 < m.lab.size + (if q = root then 1 else 0)
  rcases h.ab with ⟨e, _⟩ | ⟨x, nx, b, _, h1, h2⟩
  · rw [if_pos e]; omega
  · obtain ⟨m2, h3, _, h4⟩ := hw.kid x nx b q h1 h2
    rw [h.at_] at h3
    cases h3
    obtain ⟨t, ht⟩ := head_some h4
    have e2 : m.lb.length = m.lab.size := Array.length_toList
    rw [ht] at e2
    simp at e2
    omega
theorem piece_list (t : ByteArray) (a b : Nat) : (t.extract a b).data.toList = (t.data.toList.drop a).take (b - a) := by
  rw [ByteArray.data_extract, Array.toList_extract, List.extract_eq_take_drop]
theorem rest_list (t : ByteArray) (a : Nat) : (t.extract a t.size).data.toList = t.data.toList.drop a := by
  rw [piece_list, List.take_of_length_le]
  have : t.data.toList.length = t.size := Array.length_toList
  rw [List.length_drop, this]
  exact Nat.le_refl _
theorem rest_size (t : ByteArray) (a : Nat) : (t.extract a t.size).size = t.size - a := by rw [ByteArray.size_extract]; omega
def DeepOut (w : World) (g : Gr) (root : Nat) (s : List UInt8) (e : Ending) (w' : World) : Prop :=
  ∃ p n ab r, e = .returned (.tuple #[.pointer (some ⟨p, 0, none⟩), oP ab, .string r]) ∧ DownB g root s p n ab r ∧ Up w w'
set_option maxHeartbeats 4000000 in
theorem deepest_calls (T root : Nat) (a l : Int) (g : Gr) (dom : List Nat) (s : ByteArray) (w : World) (hw : WF g root dom) (hg : GMem w g) (ht : TopAt w T (nP root) a l) :
    Calls Try.prog 24 #[.pointer (some ⟨T, 0, none⟩), .string s] w fun e w' => DeepOut w g root s.data.toList e w' := by
  obtain ⟨m0, hm0, hs0, hl0⟩ := hw.top
  have c0 := ht.c0
  unfold nP at c0
  have HW := hide hw
  have HG := hide hg
  have HA := hide (show DownA g root s.data.toList root m0 none s from ⟨hm0, ⟨[], rfl, by rw [hs0, hl0]; rfl⟩, by rw [hl0]; exact List.nil_prefix, .inl ⟨rfl, rfl⟩⟩)
  clear hw hg hm0 hs0 hl0 ht
  go_enter Try.func24, Try.ntmps24
  go_wp2_with fail
  go_loopw [4, 5, 6, 7] (fun v4 v5 v6 v7 wr => ∃ r, v6 = .string r ∧ Hid (Up w wr) ∧ ((∃ q m prev, v7 = .pointer (some ⟨q, 0, none⟩) ∧ v4 = oP prev ∧ Hid (DownA g root s.data.toList q m prev r)) ∨ (∃ p n ab, v7 = .pointer none ∧ v4 = .pointer (some ⟨p, 0, none⟩) ∧ v5 = oP ab ∧ Hid (DownB g root s.data.toList p n ab r)))) (fun v4 v5 v6 v7 _ => strLen v6 + isRootV root v7)
  case atStart => exact ⟨s, rfl, hide (Up.refl _), .inl ⟨root, m0, none, rfl, rfl, HA⟩⟩
  case round =>
    obtain ⟨r, rfl, hu, ⟨q, m, prev, rfl, rfl, hd⟩ | ⟨p, n, ab, rfl, rfl, rfl, hd⟩⟩ := hrel
    · have N := (HG.out.up hu.out).node q m hd.out.at_
      have k0 := N.c0
      have hsz := hd.out.sz
      have hz0 : (0 : Int) ≤ (m.lab.size : Int) := by omega
      have hz1 : (m.lab.size : Int) ≤ (r.size : Int) := by omega
      have hnx := next_calls g q m (r.extract m.lab.size r.size) wr (HG.out.up hu.out) hd.out.at_ (fun b y hy => by obtain ⟨k, h1, _⟩ := HW.out.kid q m b y hd.out.at_ hy; exact ⟨k, h1⟩)
      have HNX := hide hnx
      have HSZ := hide hsz
      clear N hsz hnx
      go_wp2_with fail
      refine HNX.out.mono ?_
      rintro _ w2 ⟨o, rfl, hno, hu2⟩
      have hst := hd.out.step HW.out (rest_list r m.lab.size) hno
      clear HNX hno
      replace hu := hide (hu.out.trans hu2)
      clear hu2
      cases o with
      | some q' =>
        obtain ⟨hs, m', hd', hqr⟩ := hst
        replace hd' := hide hd'
        have H := hide (⟨hs, hqr⟩ : _ ∧ _)
        clear hs hqr
        rw [oP_some]
        dsimp only
        go_wp2
        go_roundw
        case rel => exact ⟨_, rfl, hu, .inl ⟨q', m', some q, rfl, rfl, hd'⟩⟩
        case measure =>
          have hz := HSZ.out
          have e1 : isRootV root (.pointer (some ⟨q', 0, none⟩)) = 0 := by simp [isRootV, H.out.2]
          have hp := hd.out.pos HW.out
          show strLen (.string (r.extract m.lab.size r.size)) + isRootV root (.pointer (some ⟨q', 0, none⟩)) < strLen (.string r) + isRootV root (.pointer (some ⟨q, 0, none⟩))
          rw [e1]
          simp only [strLen, rest_size]
          omega
      | none =>
        obtain ⟨hs, hd'⟩ := hst
        replace hd' := hide hd'
        replace hs := hide hs
        dsimp only [oP]
        go_wp2
        go_roundw
        case rel => exact ⟨_, rfl, hu, .inr ⟨q, m, prev, rfl, rfl, rfl, hd'⟩⟩
        case measure =>
          have hz := HSZ.out
          have hp := hd.out.pos HW.out
          have e1 : isRootV root (.pointer none) = 0 := rfl
          rw [e1]
          simp only [strLen, rest_size]
          omega
    · go_wp2
      go_ret3
      exact ⟨p, n, ab, r, rfl, hd.out, hu.out⟩

end Go.Proofs.Ytmbniakobhaomaa
