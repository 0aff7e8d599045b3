/-
  The landed package trie: Longest, as its text runs.
-/
import Derived.Test.YtmbniakobhaomaaTeWkh
namespace Go.Proofs.Ytmbniakobhaomaa
open Go.ChangeShapes Go.WideShapes Go.ChangeAt Go.RowKit Go.Maps
set_option linter.unusedVariables false
set_option maxRecDepth 100000
attribute [local go_sem ↓] Go.wp_at_zero Go.wp_at_succ

/-- The best of those shorter than so many. -/
def BestB (E : List UInt8 → List Int) (s : List UInt8) (bound size : Nat) (f : Bool) : Prop :=
  (f = false ∧ size = 0 ∧ ∀ t, t <+: s → t.length < bound → E t = []) ∨ (f = true ∧ size ≤ s.length ∧ E (s.take size) ≠ [] ∧ ∀ t, t <+: s → size < t.length → t.length < bound → E t = [])
theorem gap {g : Gr} {root : Nat} {dom : List Nat} {E : List UInt8 → List Int} (h : WF g root dom) (ht : Tells g E) {s : List UInt8} {q : Nat} {m : ND} {r : List UInt8} {o : Option Nat} (hq : g q = some m) (hs : s = m.str ++ r) (hn : NextIs g m r o) :
    (∀ q' m', o = some q' → g q' = some m' → ∀ t, t <+: s → m.str.length < t.length → t.length < m'.str.length → E t = []) ∧ (o = none → ∀ t, t <+: s → m.str.length < t.length → E t = []) := by
  have key : ∀ t, t <+: s → m.str.length < t.length → E t ≠ [] → ∃ b q' m' tl, m.kid b = some q' ∧ g q' = some m' ∧ m'.str <+: t ∧ m'.lb <+: r ∧ m'.lb = b :: tl := fun t h1 h2 h3 => by
    obtain ⟨x, nx, h4, h5⟩ := ht.here t h3
    have h6 : m.str <+: nx.str := by
      rw [h5]
      rcases prefix_both h1 (show m.str <+: s from ⟨r, hs.symm⟩) with h | h
      · have := h.length_le; omega
      · exact h
    have h7 : q ≠ x := fun e => by
      rw [e, h4] at hq
      cases hq
      rw [h5] at h2
      omega
    obtain ⟨b, q', m', tl, h8, h9, h10, h11, h12⟩ := h.next hq h4 h6 h7
    rw [h5] at h10
    refine ⟨b, q', m', tl, h8, h9, h10, ?_, h12⟩
    have := h10.trans h1
    rw [h11, hs] at this
    exact (List.prefix_append_right_inj _).1 this
  refine ⟨fun q' m' ho hq' t h1 h2 h3 => Classical.byContradiction fun h4 => ?_, fun ho t h1 h2 => Classical.byContradiction fun h4 => ?_⟩
  · obtain ⟨b, q2, m2, tl, h5, h6, h7, h8, h9⟩ := key t h1 h2 h4
    subst ho
    obtain ⟨b3, t3, m3, h10, h11, h12, h13⟩ := hn
    have hb : b = b3 := by
      rw [h9, h10] at h8
      obtain ⟨u, hu⟩ := h8
      simp at hu
      exact hu.1
    rw [hb, h11] at h5
    cases h5
    rw [hq'] at h6
    cases h6
    have := h7.length_le
    omega
  · obtain ⟨b, q2, m2, tl, h5, h6, h7, h8, h9⟩ := key t h1 h2 h4
    subst ho
    obtain ⟨u, hu⟩ := h8
    rw [h9] at hu
    exact hn b (tl ++ u) q2 m2 hu.symm h5 h6 ⟨u, by rw [h9]; exact hu⟩
/-- One node further. -/
theorem BestB.step {g : Gr} {E : List UInt8 → List Int} (ht : Tells g E) {s r : List UInt8} {q : Nat} {m : ND} (hq : g q = some m) (hs : s = m.str ++ r) {size : Nat} {f : Bool} (h : BestB E s m.str.length size f) (bound : Nat) (hb : ∀ t, t <+: s → m.str.length < t.length → t.length < bound → E t = []) :
    (m.ids = [] → BestB E s bound size f) ∧ (m.ids ≠ [] → BestB E s bound m.str.length true) := by
  have hm : ∀ t, t <+: s → t.length = m.str.length → t = m.str := fun t h1 h2 => by
    rcases prefix_both h1 (show m.str <+: s from ⟨r, hs.symm⟩) with h3 | h3
    · exact h3.eq_of_length h2
    · exact (h3.eq_of_length h2.symm).symm
  have hE := ht.node q m hq
  refine ⟨fun hi => ?_, fun hi => .inr ⟨rfl, by rw [hs, List.length_append]; omega, ?_, hb⟩⟩
  · have all : ∀ t, t <+: s → m.str.length ≤ t.length → t.length < bound → E t = [] := fun t h1 h2 h3 => by
      rcases Nat.lt_or_ge m.str.length t.length with h4 | h4
      · exact hb t h1 h4 h3
      · rw [hm t h1 (by omega), ← hE, hi]
    rcases h with ⟨rfl, rfl, h1⟩ | ⟨rfl, h0, h1, h2⟩
    · refine .inl ⟨rfl, rfl, fun t h2 h3 => ?_⟩
      rcases Nat.lt_or_ge t.length m.str.length with h4 | h4
      · exact h1 t h2 h4
      · exact all t h2 h4 h3
    · refine .inr ⟨rfl, h0, h1, fun t h3 h4 h5 => ?_⟩
      rcases Nat.lt_or_ge t.length m.str.length with h6 | h6
      · exact h2 t h3 h4 h6
      · exact all t h3 h6 h5
  · rw [hs, List.take_left, ← hE]
    exact hi

def LongIs (E : List UInt8 → List Int) (s t : List UInt8) (f : Bool) : Prop :=
  (f = true ∧ t <+: s ∧ E t ≠ [] ∧ ∀ u, u <+: s → E u ≠ [] → u.length ≤ t.length) ∨ (f = false ∧ t = [] ∧ ∀ u, u <+: s → E u = [])
theorem BestB.long {E : List UInt8 → List Int} {s : List UInt8} {size : Nat} {f : Bool} (h : BestB E s (s.length + 1) size f) : LongIs E s (s.take size) f := by
  rcases h with ⟨rfl, rfl, h1⟩ | ⟨rfl, h0, h1, h2⟩
  · exact .inr ⟨rfl, rfl, fun u hu => h1 u hu (by have := hu.length_le; omega)⟩
  · refine .inl ⟨rfl, List.take_prefix .., h1, fun u hu h3 => ?_⟩
    rw [List.length_take]
    have h4 := hu.length_le
    rcases Nat.lt_or_ge size u.length with h5 | h5
    · exact absurd (h2 u hu h5 (by omega)) h3
    · omega
def LongOut (w : World) (E : List UInt8 → List Int) (s : List UInt8) (e : Ending) (w' : World) : Prop :=
  ∃ t f, e = .returned (.tuple #[.string t, .bool f]) ∧ LongIs E s t.data.toList f ∧ Up w w'
set_option maxHeartbeats 8000000 in
theorem longest_calls (T : Nat) (O : Nat → Prop) (E : List UInt8 → List Int) (len : Int) (k : Nat) (s : ByteArray) (w : World) (h : TrI w T O E len k) (hs : s.size ≤ 1000000) :
    Calls Try.prog 16 #[.pointer (some ⟨T, 0, none⟩), .string s] w fun e w' => LongOut w E s.data.toList e w' := by
  obtain ⟨root, g, dom, hX, hM, rfl⟩ := h
  obtain ⟨m0, hm0, hs0, hl0⟩ := hX.wf.top
  have c0 := hX.top.c0
  unfold nP at c0
  have HW := hide hX.wf
  have HG := hide hX.gm
  have HT := hide hX.tells
  have HI := hide hX.ids
  have HA := hide (show DownA g root s.data.toList root m0 none s from ⟨hm0, ⟨[], rfl, by rw [hs0, hl0]; rfl⟩, by rw [hl0]; exact List.nil_prefix, .inl ⟨rfl, rfl⟩⟩)
  have HB := hide (show BestB E s.data.toList m0.str.length 0 false from .inl ⟨rfl, rfl, fun t _ h => by rw [hs0] at h; exact absurd h (Nat.not_lt_zero _)⟩)
  have hsl : s.data.toList.length = s.size := Array.length_toList
  have HSL := hide hsl
  clear hX hM hm0 hs0 hl0 hsl
  go_enter Try.func16, Try.ntmps16
  go_wp2_with fail
  go_loopw [6, 7, 8, 9] (fun v6 v7 v8 v9 wr => ∃ (r : ByteArray) (size : Nat) (f : Bool), v6 = .int .i64 size ∧ v7 = .bool f ∧ v8 = .string r ∧ Hid (Up w wr) ∧ ((∃ q m prev, v9 = .pointer (some ⟨q, 0, none⟩) ∧ Hid (DownA g root s.data.toList q m prev r) ∧ Hid (BestB E s.data.toList m.str.length size f)) ∨ (v9 = .pointer none ∧ Hid (BestB E s.data.toList (s.data.toList.length + 1) size f)))) (fun v6 v7 v8 v9 _ => strLen v8 + isRootV root v9)
  case atStart => exact ⟨s, 0, false, rfl, rfl, rfl, hide (Up.refl _), .inl ⟨root, m0, none, rfl, HA, HB⟩⟩
  case round =>
    obtain ⟨r, size, f, rfl, rfl, rfl, hu, ⟨q, m, prev, rfl, hd, hb⟩ | ⟨rfl, hb⟩⟩ := hrel
    · have N := (HG.out.up hu.out).node q m hd.out.at_
      have k0 := N.c0
      have k1 := N.c1
      obtain ⟨va, vc, hv, _⟩ := N.ids.rd
      rw [hv] at k1
      have hsz := hd.out.sz
      have hz0 : (0 : Int) ≤ (m.lab.size : Int) := by omega
      have hz1 : (m.lab.size : Int) ≤ (r.size : Int) := by omega
      have hnx := next_calls g q m (r.extract m.lab.size r.size) wr (HG.out.up hu.out) hd.out.at_ (fun b y hy => by obtain ⟨k, h1, _⟩ := HW.out.kid q m b y hd.out.at_ hy; exact ⟨k, h1⟩)
      have HNX := hide hnx
      have HSZ := hide hsz
      have HV := hide hv
      -- what is left
      obtain ⟨pre, hp1, hp2⟩ := hd.out.eq
      have hrest : s.data.toList = m.str ++ (r.extract m.lab.size r.size).data.toList := by
        obtain ⟨u, hu'⟩ := hd.out.pre
        have e2 : m.lb.length = m.lab.size := Array.length_toList
        rw [rest_list, hp1, hp2, ← hu', ← e2, List.drop_left, List.append_assoc]
      have hzs : (s.size : Int) - ((r.extract m.lab.size r.size).size : Int) = (m.str.length : Int) := by
        have e1 : (r.extract m.lab.size r.size).data.toList.length = (r.extract m.lab.size r.size).size := Array.length_toList
        have e3 := congrArg List.length hrest
        rw [List.length_append, e1, HSL.out] at e3
        omega
      have hml : m.str.length ≤ 1000000 := by
        have e3 := congrArg List.length hrest
        rw [List.length_append, HSL.out] at e3
        omega
      have hwz : wrap64 ((s.size : Int) - ((r.extract m.lab.size r.size).size : Int)) = (m.str.length : Int) := by rw [hzs, wrap64]; omega
      have HRS := hide hrest
      obtain ⟨r2, hr2⟩ : ∃ r2, r.extract m.lab.size r.size = r2 := ⟨_, rfl⟩
      rw [hr2] at hwz HNX HRS
      have HR2 := hide hr2
      obtain ⟨L, hL⟩ : ∃ L, L = m.ids.length := ⟨_, rfl⟩
      rw [← hL] at k1
      clear N hsz hnx hv hp1 hp2 hrest hzs hml
      by_cases hL0 : 0 < L
      · have t1 : (0 : Int) < (L : Int) := by omega
        have hne : m.ids ≠ [] := fun e => by rw [e] at hL; simp at hL; omega
        replace hne := hide hne
        replace hL := hide hL
        clear hL0
        go_wp2_with fail
        refine HNX.out.mono ?_
        rintro _ w2 ⟨o, rfl, hno, hu2⟩
        have hst := hd.out.step HW.out (by rw [← HR2.out]; exact rest_list r m.lab.size) hno
        obtain ⟨gp1, gp2⟩ := gap HW.out HT.out hd.out.at_ HRS.out hno
        clear HNX hno
        replace hu := hide (hu.out.trans hu2)
        clear hu2
        cases o with
        | some q' =>
          obtain ⟨hs', m', hd', hqr⟩ := hst
          have hbb := hide ((BestB.step HT.out hd.out.at_ HRS.out hb.out m'.str.length (gp1 q' m' rfl hd'.at_)).2 hne.out)
          replace hd' := hide hd'
          have H := hide hqr
          clear hs' hqr gp1 gp2
          rw [oP_some]
          dsimp only
          go_wp2
          go_roundw
          case rel => exact ⟨_, m.str.length, _, by rw [hwz], rfl, rfl, hu, .inl ⟨q', m', some q, rfl, hd', hbb⟩⟩
          case measure =>
            have hz := HSZ.out
            have e1 : isRootV root (.pointer (some ⟨q', 0, none⟩)) = 0 := by simp [isRootV, H.out]
            have hp := hd.out.pos HW.out
            show strLen (.string r2) + isRootV root (.pointer (some ⟨q', 0, none⟩)) < strLen (.string r) + isRootV root (.pointer (some ⟨q, 0, none⟩))
            rw [e1, ← HR2.out]
            simp only [strLen, rest_size]
            omega
        | none =>
          have hbb := hide ((BestB.step HT.out hd.out.at_ HRS.out hb.out (s.data.toList.length + 1) (fun t h1 h2 _ => gp2 rfl t h1 h2)).2 hne.out)
          clear hst gp1 gp2
          dsimp only [oP]
          go_wp2
          go_roundw
          case rel => exact ⟨_, m.str.length, _, by rw [hwz], rfl, rfl, hu, .inr ⟨rfl, hbb⟩⟩
          case measure =>
            have hz := HSZ.out
            have hp := hd.out.pos HW.out
            have e1 : isRootV root (.pointer none) = 0 := rfl
            show strLen (.string r2) + isRootV root (.pointer none) < strLen (.string r) + isRootV root (.pointer (some ⟨q, 0, none⟩))
            rw [e1, ← HR2.out]
            simp only [strLen, rest_size]
            omega
      · have hne : m.ids = [] := List.length_eq_zero_iff.1 (by omega)
        obtain rfl : L = 0 := by omega
        replace hne := hide hne
        replace hL := hide hL
        replace k1 : wr.cell? ⟨q, 1, none⟩ = some (.slice va 0 vc) := k1
        clear hL0
        go_wp2_with fail
        refine HNX.out.mono ?_
        rintro _ w2 ⟨o, rfl, hno, hu2⟩
        have hst := hd.out.step HW.out (by rw [← HR2.out]; exact rest_list r m.lab.size) hno
        obtain ⟨gp1, gp2⟩ := gap HW.out HT.out hd.out.at_ HRS.out hno
        clear HNX hno
        replace hu := hide (hu.out.trans hu2)
        clear hu2
        cases o with
        | some q' =>
          obtain ⟨hs', m', hd', hqr⟩ := hst
          have hbb := hide ((BestB.step HT.out hd.out.at_ HRS.out hb.out m'.str.length (gp1 q' m' rfl hd'.at_)).1 hne.out)
          replace hd' := hide hd'
          have H := hide hqr
          clear hs' hqr gp1 gp2
          rw [oP_some]
          dsimp only
          go_wp2
          go_roundw
          case rel => exact ⟨_, size, _, rfl, rfl, rfl, hu, .inl ⟨q', m', some q, rfl, hd', hbb⟩⟩
          case measure =>
            have hz := HSZ.out
            have e1 : isRootV root (.pointer (some ⟨q', 0, none⟩)) = 0 := by simp [isRootV, H.out]
            have hp := hd.out.pos HW.out
            show strLen (.string r2) + isRootV root (.pointer (some ⟨q', 0, none⟩)) < strLen (.string r) + isRootV root (.pointer (some ⟨q, 0, none⟩))
            rw [e1, ← HR2.out]
            simp only [strLen, rest_size]
            omega
        | none =>
          have hbb := hide ((BestB.step HT.out hd.out.at_ HRS.out hb.out (s.data.toList.length + 1) (fun t h1 h2 _ => gp2 rfl t h1 h2)).1 hne.out)
          clear hst gp1 gp2
          dsimp only [oP]
          go_wp2
          go_roundw
          case rel => exact ⟨_, size, _, rfl, rfl, rfl, hu, .inr ⟨rfl, hbb⟩⟩
          case measure =>
            have hz := HSZ.out
            have hp := hd.out.pos HW.out
            have e1 : isRootV root (.pointer none) = 0 := rfl
            show strLen (.string r2) + isRootV root (.pointer none) < strLen (.string r) + isRootV root (.pointer (some ⟨q, 0, none⟩))
            rw [e1, ← HR2.out]
            simp only [strLen, rest_size]
            omega
    · have hsz : size ≤ s.size := by
        rcases hb.out with ⟨_, rfl, _⟩ | ⟨_, h1, _⟩
        · exact Nat.zero_le _
        · rw [HSL.out] at h1; exact h1
      have hz0 : (0 : Int) ≤ (size : Int) := by omega
      have hz1 : (size : Int) ≤ (s.size : Int) := by omega
      clear hsz
      go_wp2_with fail
      refine (clone_calls (s.extract 0 size) wr (by rw [ByteArray.size_extract]; omega)).mono ?_
      rintro _ w2 ⟨rfl, hu2⟩
      replace hu2 := hide hu2
      dsimp only
      go_wp2
      go_ret2
      refine ⟨_, f, rfl, ?_, hu.out.trans hu2.out⟩
      rw [show (s.extract 0 size).data.toList = s.data.toList.take size from topS_list s size]
      exact hb.out.long

end Go.Proofs.Ytmbniakobhaomaa
