/-
  Where the first value's text ends, told in plain words, and what text.firstLength answers.
  What text.Read answers, as its text runs.
-/
import Derived.Test.YtjnnmghehoodhaaGreatDoorTextGMath
import Derived.Test.YtjnnmghehoodhaaGreatDoorTextGuess
import Derived.Test.YtjnnmghehoodhaaGreatDoorRefTRead
import Derived.Test.YtjnnmghehoodhaaGreatDoorRefAll
namespace Go.Proofs.YtjnnmghehoodhaaGreatDoor
open Go.ChangeShapes Go.WideShapes Go.ChangeAt Go.RowKit
attribute [local go_sem ↓] Go.wp_at_zero Go.wp_at_succ
set_option linter.unusedVariables false
set_option maxRecDepth 100000

/-- Up to and with the quote that ends a quoted text. -/
def scanT : List UInt8 → Nat
  | [] => 0
  | [c] => 1
  | c :: d :: r => if c = 92 then 2 + scanT r else if c = 34 then 1 else 1 + scanT (d :: r)
theorem scan_nil : scanT [] = 0 := by rw [scanT]
theorem scan_back (d : UInt8) (r : List UInt8) : scanT (92 :: d :: r) = 2 + scanT r := by rw [scanT, if_pos rfl]
theorem scan_end : scanT [92] = 1 := by rw [scanT]
theorem scan_quote (r : List UInt8) : scanT (34 :: r) = 1 := by
  cases r with
  | nil => rw [scanT]
  | cons d r => rw [scanT, if_neg (by decide), if_pos rfl]
theorem scan_plain {c : UInt8} (h1 : ¬ c = 92) (h2 : ¬ c = 34) (r : List UInt8) : scanT (c :: r) = 1 + scanT r := by
  cases r with
  | nil => rw [scanT, scanT]
  | cons d r => rw [scanT, if_neg h1, if_neg h2]
theorem scan_le : ∀ (n : Nat) (l : List UInt8), l.length ≤ n → scanT l ≤ l.length
  | _, [], _ => by rw [scanT]; exact Nat.zero_le _
  | _, [c], _ => by rw [scanT]; simp
  | 0, _ :: _ :: _, h => by simp at h
  | n + 1, c :: d :: r, h => by
    simp only [List.length_cons] at h ⊢
    rw [scanT]
    split
    · have := scan_le n r (by omega); omega
    · split
      · omega
      · have := scan_le n (d :: r) (by simp; omega)
        simp only [List.length_cons] at this
        omega
theorem scan_quoC (c : UInt8) (r : List UInt8) : scanT (quoC c ++ r) = (quoC c).length + scanT r := by
  unfold quoC
  split
  · show scanT (92 :: c :: r) = 2 + _
    rw [scan_back]
  · next hc =>
    split
    · show scanT (c :: r) = 1 + _
      exact scan_plain (fun e => hc (.inr e)) (fun e => hc (.inl e)) r
    · show scanT (92 :: 120 :: hexHi c :: hexLo c :: r) = 4 + _
      have h1 : ¬ hexHi c = 34 := (hexD_plain _ (hi_lt c)).1
      have h2 : ¬ hexHi c = 92 := (hexD_plain _ (hi_lt c)).2.1
      have h3 : ¬ hexLo c = 34 := (hexD_plain _ (lo_lt c)).1
      have h4 : ¬ hexLo c = 92 := (hexD_plain _ (lo_lt c)).2.1
      rw [scan_back, scan_plain h2 h1, scan_plain h4 h3]
      omega
theorem scan_quoL (l r : List UInt8) : scanT (quoL l ++ 34 :: r) = (quoL l).length + 1 := by
  induction l with
  | nil => exact scan_quote r
  | cons c l ih => rw [quoL, List.append_assoc, scan_quoC, ih, List.length_append]; omega

/-- How much of a text is its first value's. -/
def firstL (T : List UInt8) : Nat := if T.head? = some 34 then 1 + scanT T.tail else if Go.Lib.index T [44, 32] = -1 then T.length else (Go.Lib.index T [44, 32]).toNat
theorem index_le (T sub : List UInt8) : Go.Lib.index T sub ≤ (T.length : Int) := by
  induction T with
  | nil => unfold Go.Lib.index; split <;> simp
  | cons b l ih =>
    unfold Go.Lib.index
    split
    · simp; omega
    · split
      · simp; omega
      · simp only [List.length_cons]; omega
theorem firstL_le (T : List UInt8) : firstL T ≤ T.length := by
  unfold firstL
  split
  · next h =>
    cases T with
    | nil => simp at h
    | cons c r =>
      have := scan_le r.length r (Nat.le_refl _)
      simp only [List.tail_cons, List.length_cons]; omega
  · split
    · exact Nat.le_refl _
    · have := index_le T [44, 32]; omega
theorem index_plain : ∀ (p r : List UInt8), (∀ c ∈ p, c ≠ 44) → Go.Lib.index (p ++ 44 :: 32 :: r) [44, 32] = (p.length : Int)
  | [], r, _ => by
    show Go.Lib.index (44 :: 32 :: r) [44, 32] = 0
    unfold Go.Lib.index
    rw [if_pos (by simp [List.isPrefixOf])]
  | c :: p, r, h => by
    have hc := h c (by simp)
    have ih := index_plain p r (fun x hx => h x (by simp [hx]))
    rw [List.cons_append, Go.Lib.index]
    have hn : ([44, 32] : List UInt8).isPrefixOf (c :: (p ++ 44 :: 32 :: r)) = false := by
      simp only [List.isPrefixOf, Bool.and_eq_false_imp, beq_iff_eq]
      intro e; exact absurd e.symm hc
    rw [hn, ih, if_neg (by simp), if_neg (by simp)]
    simp
theorem index_alone : ∀ (p : List UInt8), (∀ c ∈ p, c ≠ 44) → Go.Lib.index p [44, 32] = -1
  | [], _ => by decide
  | c :: p, h => by
    have hc := h c (by simp)
    have ih := index_alone p (fun x hx => h x (by simp [hx]))
    have hn : ([44, 32] : List UInt8).isPrefixOf (c :: p) = false := by
      simp only [List.isPrefixOf, Bool.and_eq_false_imp, beq_iff_eq]
      intro e; exact absurd e.symm hc
    rw [Go.Lib.index, hn, ih]
    rfl
/-- It ends where a value's text ends that has nothing or a comma and a blank behind it. -/
theorem firstL_prn {v : VT} (hv : isB v = true) (r : List UInt8) (hr : r = [] ∨ ∃ q, r = 44 :: 32 :: q) : firstL (prnV v ++ r) = (prnV v).length := by
  obtain ⟨k, n, s, f⟩ := v
  have key : ∀ p : List UInt8, p.head? ≠ some 34 → p ≠ [] → (∀ c ∈ p, c ≠ 44) → firstL (p ++ r) = p.length := by
    intro p h1 h2 h3
    have hh : ¬ (p ++ r).head? = some 34 := by
      cases p with
      | nil => exact absurd rfl h2
      | cons a b => exact h1
    unfold firstL
    rw [if_neg hh]
    rcases hr with rfl | ⟨q, rfl⟩
    · rw [List.append_nil, index_alone p h3, if_pos rfl]
    · rw [index_plain p q h3, if_neg (by omega)]; rfl
  rcases t_cases hv with ⟨rfl, rfl, rfl⟩ | ⟨rfl, rfl | rfl, rfl, rfl⟩ | ⟨rfl | rfl, rfl, hs, rfl⟩ | ⟨rfl, rfl, rfl⟩
  · rw [prn_int]
    have hp := decI_plain n
    obtain ⟨c, q, he, _⟩ := decI_head n
    refine key _ ?_ ?_ (fun c hc => (hp c hc).2.2)
    · rw [he]; intro e
      have := Option.some.inj e
      exact (hp c (by rw [he]; simp)).1 this
    · rw [he]; simp
  · rw [prn_false]; exact key _ (by decide) (by decide) (by decide)
  · rw [prn_true]; exact key _ (by decide) (by decide) (by decide)
  · rw [prn_str hs]
    unfold firstL quoS
    rw [if_pos (show ((34 : UInt8) :: (quoL s.data.toList ++ [34]) ++ r).head? = some (34 : UInt8) from rfl)]
    show 1 + scanT ((quoL s.data.toList ++ [34]) ++ r) = _
    rw [List.append_assoc, List.singleton_append, scan_quoL, List.length_cons, List.length_append]
    simp only [List.length_singleton]
    omega
  · rw [prn_bytes hs]
    refine key _ (by simp) (by simp) ?_
    intro c hc
    rcases List.mem_cons.1 hc with rfl | hc
    · decide
    · exact (hexL_plain _ c hc).2.2
  · rw [prn_float]
    refine key _ (by simp) (by simp) ?_
    intro c hc
    rcases List.mem_cons.1 hc with rfl | hc
    · decide
    · exact (hexL_plain _ c hc).2.2

set_option maxHeartbeats 4000000 in
theorem first_other (T : ByteArray) (hm : T.size ≤ 1000000) (hq : T.data.toList.head? ≠ some 34) (w : World) (hT : Tabs w) :
    Calls Tryz.prog 25 #[.string T] w fun e w' => e = .returned (.int .i64 (firstL T.data.toList : Int)) ∧ w' = w := by
  obtain ⟨mx, hmx⟩ := hT.max
  have hI := Tryz.strings_Index T ⟨#[44, 32]⟩ mx w (by omega) hmx
  have hP := Tryz.strings_HasPrefix T ⟨#[34]⟩
  have hpf : Go.Lib.hasPrefix T.data.toList (⟨#[34]⟩ : ByteArray).data.toList = false := by
    show List.isPrefixOf [34] T.data.toList = false
    cases h : T.data.toList with
    | nil => rfl
    | cons c r =>
      rw [h] at hq
      simp only [List.isPrefixOf, Bool.and_true, beq_eq_false_iff_ne]
      intro e; exact hq (by rw [← e]; rfl)
  rw [hpf] at hP
  have hfl : firstL T.data.toList = if Go.Lib.index T.data.toList [44, 32] = -1 then T.data.toList.length else (Go.Lib.index T.data.toList [44, 32]).toNat := if_neg hq
  have hge := Go.Lib.index_ge T.data.toList [44, 32]
  obtain ⟨x, hx⟩ : ∃ x, Go.Lib.index T.data.toList [44, 32] = x := ⟨_, rfl⟩
  have hI' : Calls Tryz.prog 46 #[.string T, .string ⟨#[44, 32]⟩] w fun e w' => e = .returned (.int .i64 x) ∧ w' = w := by rw [← hx]; exact hI
  rw [hx] at hfl hge
  rw [hfl]
  clear hfl hx hpf hq hT hmx hI
  by_cases hn : x = -1
  · subst hn
    have hl : T.data.toList.length = T.size := by simp
    rw [if_pos rfl, hl]
    clear hl
    go_enter Tryz.func25, Tryz.ntmps25
    go_wp2_with (first
      | (go_at_call 45; refine (hP _).mono ?_; rintro _ _ ⟨rfl, rfl⟩)
      | (go_at_call 46; refine hI'.mono ?_; rintro _ _ ⟨rfl, rfl⟩))
    go_ret
    exact ⟨rfl, rfl⟩
  · have h0 : (0 : Int) ≤ x := by omega
    have hxn : ((x.toNat : Nat) : Int) = x := by omega
    rw [if_neg hn, hxn]
    clear hn hxn
    go_enter Tryz.func25, Tryz.ntmps25
    go_wp2_with (first
      | (go_at_call 45; refine (hP _).mono ?_; rintro _ _ ⟨rfl, rfl⟩)
      | (go_at_call 46; refine hI'.mono ?_; rintro _ _ ⟨rfl, rfl⟩))
    go_ret
    exact ⟨rfl, rfl⟩

theorem fdrop_at (T : ByteArray) (k : Nat) (h : k < T.size) : T.data.toList.drop k = T[k] :: T.data.toList.drop (k + 1) := by
  have hl : k < T.data.toList.length := by simpa using h
  rw [List.drop_eq_getElem_cons hl]
  rfl
def FiRel (T : ByteArray) (F : Nat) (i : Value) : Prop := ∃ k : Nat, i = .int .i64 (k : Int) ∧ ((k ≤ T.size ∧ F = k + scanT (T.data.toList.drop k)) ∨ (k = T.size + 1 ∧ F = T.size))

set_option maxHeartbeats 4000000 in
theorem first_quote (T : ByteArray) (hm : T.size ≤ 1000000) (hq : T.data.toList.head? = some 34) (w : World) :
    Calls Tryz.prog 25 #[.string T] w fun e w' => e = .returned (.int .i64 (firstL T.data.toList : Int)) ∧ w' = w := by
  have hP := Tryz.strings_HasPrefix T ⟨#[34]⟩
  have hpf : Go.Lib.hasPrefix T.data.toList (⟨#[34]⟩ : ByteArray).data.toList = true := by
    show List.isPrefixOf [34] T.data.toList = true
    cases h : T.data.toList with
    | nil => rw [h] at hq; cases hq
    | cons c r =>
      rw [h] at hq
      obtain rfl : c = 34 := Option.some.inj hq
      rfl
  rw [hpf] at hP
  have hfl : firstL T.data.toList = 1 + scanT T.data.toList.tail := if_pos hq
  have h1 : 1 ≤ T.size := by
    have := size_list T
    cases h : T.data.toList with
    | nil => rw [h] at hq; cases hq
    | cons c r => rw [h] at this; simp at this; omega
  obtain ⟨F, hF⟩ : ∃ F, firstL T.data.toList = F := ⟨_, rfl⟩
  rw [hF] at hfl ⊢
  have HF : Hid (F = 1 + scanT (T.data.toList.drop 1)) := by rw [hfl, List.drop_one]; exact rfl
  clear hfl hF hpf hq
  go_enter Tryz.func25, Tryz.ntmps25
  go_wp2_with (first
    | (go_at_call 45; refine (hP _).mono ?_; rintro _ _ ⟨rfl, rfl⟩))
  go_loop [4] (fun i => FiRel T F i) (fun i => T.size + 2 - (intOf i).toNat)
  case atStart => exact ⟨1, rfl, .inl ⟨h1, HF.out⟩⟩
  case round =>
    obtain ⟨k, rfl, ⟨hk, hF⟩ | ⟨rfl, rfl⟩⟩ := hrel
    · by_cases hlt : k < T.size
      · have hd := fdrop_at T k hlt
        have i1 : (k : Int) < (T.size : Int) := by omega
        obtain ⟨c, hc⟩ : ∃ c, T[k] = c := ⟨_, rfl⟩
        rw [hc] at hd
        rw [hd] at hF
        by_cases hb : c = 92
        · subst hb
          have HR : Hid (FiRel T F (.int .i64 ((k : Int) + 1 + 1))) := by
            by_cases he : k + 1 < T.size
            · rw [fdrop_at T (k + 1) he, scan_back, show k + 1 + 1 = k + 2 from rfl] at hF
              exact ⟨k + 2, by congr 1, .inl ⟨by omega, by rw [hF]; omega⟩⟩
            · have : T.data.toList.drop (k + 1) = [] := List.drop_eq_nil_of_le (by simp; omega)
              rw [this, scan_end] at hF
              exact ⟨T.size + 1, by congr 1; omega, .inr ⟨rfl, by omega⟩⟩
          clear hF hd
          go_wp2
          exact ⟨HR.out, by simp [intOf]; omega⟩
        · have n92 : ((c.toNat : Int) == 92) = false := u_ne (n := 92) (by omega) hb
          by_cases hqq : c = 34
          · subst hqq
            rw [scan_quote] at hF
            obtain rfl : F = k + 1 := hF
            clear hd
            go_wp2
            go_ret
            exact ⟨rfl, rfl⟩
          · have n34 : ((c.toNat : Int) == 34) = false := u_ne (n := 34) (by omega) hqq
            have HR : Hid (FiRel T F (.int .i64 ((k : Int) + 1))) := by
              rw [scan_plain hb hqq] at hF
              exact ⟨k + 1, by congr 1, .inl ⟨by omega, by rw [hF]; omega⟩⟩
            clear hF hd hb hqq
            go_wp2
            exact ⟨HR.out, by simp [intOf]; omega⟩
      · have hk2 : k = T.size := by omega
        have hdn : T.data.toList.drop k = [] := List.drop_eq_nil_of_le (by simp; omega)
        rw [hdn, scan_nil] at hF
        have hFk : Hid (F = T.size) := by show F = T.size; omega
        have i1 : ¬ (k : Int) < (T.size : Int) := by omega
        clear hF hdn hk2 hlt hk HF
        go_wp2
        go_ret
        exact ⟨by rw [hFk.out]; rfl, rfl⟩
    · have i1 : ¬ ((T.size + 1 : Nat) : Int) < (T.size : Int) := by omega
      go_wp2
      go_ret
      exact ⟨rfl, rfl⟩

theorem first_calls (T : ByteArray) (hm : T.size ≤ 1000000) (w : World) (hT : Tabs w) :
    Calls Tryz.prog 25 #[.string T] w fun e w' => e = .returned (.int .i64 (firstL T.data.toList : Int)) ∧ w' = w := by
  by_cases hq : T.data.toList.head? = some 34
  · exact first_quote T hm hq w
  · exact first_other T hm hq w hT

end Go.Proofs.YtjnnmghehoodhaaGreatDoor

namespace Go.Proofs.YtjnnmghehoodhaaGreatDoor
open Go.ChangeShapes Go.WideShapes Go.ChangeAt Go.RowKit
attribute [local go_sem ↓] Go.wp_at_zero Go.wp_at_succ
attribute [local go_sem] run_store_float
set_option linter.unusedVariables false
set_option maxRecDepth 100000

/-- What stands ahead of the values that are still to be read. -/
def preT (m : List VT) : List UInt8 := if m = [] then [] else joinT (m.map prnV) ++ [44, 32]
theorem pre_snoc (m : List VT) (v : VT) : joinT ((m ++ [v]).map prnV) = preT m ++ prnV v := by
  unfold preT
  by_cases h : m = []
  · subst h
    rw [if_pos rfl, List.nil_append, List.nil_append, List.map_cons, List.map_nil, joinT_one]
  · rw [if_neg h, List.map_append, List.map_cons, List.map_nil, joinT_snoc _ _ (by simpa using h), List.append_assoc]
    rfl
theorem pre_next (m : List VT) (v : VT) : preT (m ++ [v]) = preT m ++ prnV v ++ [44, 32] := by
  have := pre_snoc m v
  rw [preT, if_neg (by simp), this]
/-- Where the reading stands: m is read, T is left of M. -/
def RdT (M : List UInt8) (m : List VT) (T : List UInt8) : Prop :=
  AllV m ∧ M = preT m ++ T ∧ ∀ l, AllV l → joinT (l.map prnV) = M → ∃ l', l' ≠ [] ∧ l = m ++ l' ∧ joinT (l'.map prnV) = T
theorem RdT.start {M : List UInt8} (h : M ≠ []) : RdT M [] M := by
  refine ⟨fun v hv => by simp at hv, rfl, fun l _ hl => ⟨l, ?_, rfl, hl⟩⟩
  rintro rfl
  exact h hl.symm
/-- The first of several. -/
theorem join_first {v : VT} {l : List VT} : ∃ r, joinT ((v :: l).map prnV) = prnV v ++ r ∧ ((l = [] ∧ r = []) ∨ (l ≠ [] ∧ r = 44 :: 32 :: joinT (l.map prnV))) := by
  cases l with
  | nil => exact ⟨[], by rw [List.map_cons, List.map_nil, joinT_one, List.append_nil], .inl ⟨rfl, rfl⟩⟩
  | cons u l => exact ⟨_, by rw [List.map_cons, List.map_cons, joinT_cons2, ← List.map_cons], .inr ⟨by simp, rfl⟩⟩
/-- What the first value must be. -/
theorem RdT.first {M T : List UInt8} {m : List VT} (h : RdT M m T) {l : List VT} (hl : AllV l) (hj : joinT (l.map prnV) = M) : ∃ u l'', l = m ++ u :: l'' ∧ isB u = true ∧ Fits u ∧ T.take (firstL T) = prnV u ∧ ((l'' = [] ∧ T.drop (firstL T) = []) ∨ (l'' ≠ [] ∧ T.drop (firstL T) = 44 :: 32 :: joinT (l''.map prnV))) := by
  obtain ⟨l', hne, rfl, hT⟩ := h.2.2 l hl hj
  cases l' with
  | nil => exact absurd rfl hne
  | cons u l'' =>
    obtain ⟨r, hr, hc⟩ := join_first (v := u) (l := l'')
    have hu := hl u (by simp)
    rw [hr] at hT
    have hf : firstL T = (prnV u).length := by
      rw [← hT]
      exact firstL_prn hu.1 r (hc.elim (fun h => .inl h.2) (fun h => .inr ⟨_, h.2⟩))
    refine ⟨u, l'', rfl, hu.1, hu.2, ?_, ?_⟩
    · rw [hf, ← hT]; exact List.take_left
    · have : T.drop (firstL T) = r := by rw [hf, ← hT]; exact List.drop_left
      rw [this]; exact hc
theorem RdT.none {M T : List UInt8} {m : List VT} (h : RdT M m T) (hp : parT (T.take (firstL T)) = none) (l : List VT) (hl : AllV l) : joinT (l.map prnV) ≠ M := by
  intro hj
  obtain ⟨u, l'', _, h1, h2, h3, _⟩ := h.first hl hj
  rw [h3, parT_prn h1 h2] at hp
  cases hp
theorem RdT.cut {M T : List UInt8} {m : List VT} {v : VT} (h : RdT M m T) (hp : parT (T.take (firstL T)) = some v) : isB v = true ∧ Fits v ∧ T = prnV v ++ T.drop (firstL T) := by
  obtain ⟨h1, h2, h3⟩ := (parT_iff _ _).1 hp
  refine ⟨h1, h2, ?_⟩
  rw [h3]; exact (List.take_append_drop _ _).symm
theorem RdT.next {M T T' : List UInt8} {m : List VT} {v : VT} (h : RdT M m T) (hp : parT (T.take (firstL T)) = some v) (hd : T.drop (firstL T) = 44 :: 32 :: T') : RdT M (m ++ [v]) T' := by
  obtain ⟨h1, h2, h3⟩ := h.cut hp
  refine ⟨fun x hx => ?_, ?_, fun l hl hj => ?_⟩
  · rcases List.mem_append.1 hx with hx | hx
    · exact h.1 x hx
    · rw [List.mem_singleton.1 hx]; exact ⟨h1, h2⟩
  · rw [pre_next, h.2.1, h3, hd]; simp
  · obtain ⟨u, l'', rfl, g1, g2, g3, g4⟩ := h.first hl hj
    obtain rfl : v = u := by rw [g3, parT_prn g1 g2] at hp; exact (Option.some.inj hp).symm
    rcases g4 with ⟨_, g4⟩ | ⟨g5, g4⟩
    · rw [hd] at g4; cases g4
    · rw [hd] at g4
      exact ⟨l'', g5, by simp, (List.cons.inj (List.cons.inj g4).2).2.symm⟩
theorem RdT.last {M T : List UInt8} {m : List VT} {v : VT} (h : RdT M m T) (hp : parT (T.take (firstL T)) = some v) (hd : T.drop (firstL T) = []) : AllV (m ++ [v]) ∧ joinT ((m ++ [v]).map prnV) = M := by
  obtain ⟨h1, h2, h3⟩ := h.cut hp
  constructor
  · intro x hx
    rcases List.mem_append.1 hx with hx | hx
    · exact h.1 x hx
    · rw [List.mem_singleton.1 hx]; exact ⟨h1, h2⟩
  · rw [pre_snoc, h.2.1, h3, hd]; simp
theorem RdT.bad {M T : List UInt8} {m : List VT} {v : VT} (h : RdT M m T) (h1 : T.drop (firstL T) ≠ []) (h2 : ([44, 32] : List UInt8).isPrefixOf (T.drop (firstL T)) = false) (l : List VT) (hl : AllV l) : joinT (l.map prnV) ≠ M := by
  intro hj
  obtain ⟨u, l'', _, _, _, _, ⟨_, g⟩ | ⟨_, g⟩⟩ := h.first hl hj
  · exact h1 g
  · rw [g] at h2; simp [List.isPrefixOf] at h2

/-- The row's text and what stands between its brackets. -/
theorem red_mid {S M : List UInt8} (h : S = 40 :: (M ++ [41])) {l : List VT} (hl : AllV l) (hj : joinT (l.map prnV) = M) : redT S = some l := (redT_iff _ _).2 ⟨hl, by rw [h, ← hj]; rfl⟩
theorem red_mid_none {S M : List UInt8} (h : S = 40 :: (M ++ [41])) (hn : ∀ l, AllV l → joinT (l.map prnV) ≠ M) : redT S = none := redT_none fun l hl e => by
  rw [h, rowT] at e
  exact hn l hl (List.append_cancel_right (List.cons.inj e).2)
theorem red_open {S : List UInt8} (h : ([40] : List UInt8).isPrefixOf S = false) : redT S = none := redT_none fun l _ e => by
  rw [← e, rowT] at h; simp [List.isPrefixOf] at h
theorem red_close {S : List UInt8} (h : ([41] : List UInt8).isSuffixOf (S.drop 1) = false) : redT S = none := redT_none fun l _ e => by
  rw [← e, rowT] at h
  have : ([41] : List UInt8).isSuffixOf (List.drop 1 (40 :: (joinT (l.map prnV) ++ [41]))) = true := by
    rw [List.isSuffixOf_iff_suffix]; exact ⟨joinT (l.map prnV), rfl⟩
  rw [this] at h; cases h

theorem up_grownW {w W W' w' : World} {v : Value} {l : List VT} (hu : Up w W) (hg : W.grownBy w' v.ownBlock) (hown : OwnV W' w.heap.size v l) : Up w w' :=
  Below.grown hu hg hu.size fun k hk => (hown.lt k hk).1
def boolN (v : Value) : Nat := match v with
  | .bool true => 1
  | _ => 0
/-- The loop of Read. -/
def RdRel (s : ByteArray) (M : List UInt8) (w : World) (v0 b v7 : Value) (wr : World) : Prop :=
  ∃ (T : ByteArray) (m : List VT) (more : Bool), v0 = .string T ∧ v7 = .bool more ∧ T.size ≤ s.size ∧ Hid (OwnV wr w.heap.size b m ∧ Up w wr ∧ m.length ≤ s.size ∧
    ((more = true ∧ m.length + T.size ≤ s.size ∧ RdT M m T.data.toList) ∨ (more = false ∧ T.size = 0 ∧ AllV m ∧ joinT (m.map prnV) = M)))
theorem cut_pre (s p : ByteArray) (S : ByteArray) (b : Bool) (hb : Go.Lib.hasPrefix s.data.toList p.data.toList = b) (hS : S.data.toList = if b then s.data.toList.drop p.data.toList.length else s.data.toList) (w : World) :
    Calls Tryz.prog 23 #[.string s, .string p] w fun e w' => e = .returned (.tuple #[.string S, .bool b]) ∧ w' = w := by
  have h := Tryz.strings_CutPrefix s p w
  rw [hb] at h
  have e : (⟨(Go.Lib.trimPrefix s.data.toList p.data.toList).toArray⟩ : ByteArray) = S := by
    refine ba_of ?_
    show Go.Lib.trimPrefix s.data.toList p.data.toList = _
    rw [Go.Lib.trimPrefix, hb, hS]
  rw [e] at h
  exact h
theorem cut_suf (s p : ByteArray) (S : ByteArray) (b : Bool) (hs : s.size ≤ 1000000) (hb : Go.Lib.hasSuffix s.data.toList p.data.toList = b) (hS : S.data.toList = if b then s.data.toList.take (s.data.toList.length - p.data.toList.length) else s.data.toList) (w : World) :
    Calls Tryz.prog 24 #[.string s, .string p] w fun e w' => e = .returned (.tuple #[.string S, .bool b]) ∧ w' = w := by
  have h := Tryz.strings_CutSuffix s p w (by omega)
  rw [hb] at h
  have e : (⟨(Go.Lib.trimSuffix s.data.toList p.data.toList).toArray⟩ : ByteArray) = S := by
    refine ba_of ?_
    show Go.Lib.trimSuffix s.data.toList p.data.toList = _
    rw [Go.Lib.trimSuffix, hb, hS]
  rw [e] at h
  exact h
theorem ba_size {S : ByteArray} {l : List UInt8} (h : S.data.toList = l) : S.size = l.length := by rw [size_list, h]

set_option maxHeartbeats 4000000 in
theorem read_open (s : ByteArray) (hs : s.size ≤ 1000000) (hb : Go.Lib.hasPrefix s.data.toList [40] = false) (w : World) : Calls Tryz.prog 12 #[.string s] w fun e w' => ReadsPost w s.data.toList e w' := by
  have HN := hide (red_open hb)
  have h1 := fun W => cut_pre s ⟨#[40]⟩ s false hb rfl W
  obtain ⟨b, hb2⟩ : ∃ b, Go.Lib.hasSuffix s.data.toList [41] = b := ⟨_, rfl⟩
  obtain ⟨S, hS⟩ : ∃ S : ByteArray, S.data.toList = if b then s.data.toList.take (s.data.toList.length - 1) else s.data.toList := ⟨⟨(if b then s.data.toList.take (s.data.toList.length - 1) else s.data.toList).toArray⟩, rfl⟩
  have h2 := fun W => cut_suf s ⟨#[41]⟩ S b hs hb2 hS W
  clear hb hb2 hS
  go_enter Tryz.func12, Tryz.ntmps12
  go_wp2_with (first
    | (go_at_call 23; refine (h1 _).mono ?_; rintro _ _ ⟨rfl, rfl⟩)
    | (go_at_call 24; refine (h2 _).mono ?_; rintro _ _ ⟨rfl, rfl⟩))
  go_ret2
  exact ⟨Up.refl _, .inr ⟨HN.out, rfl⟩⟩

set_option maxHeartbeats 4000000 in
theorem read_close (s : ByteArray) (hs : s.size ≤ 1000000) (hb : Go.Lib.hasPrefix s.data.toList [40] = true) (hc : Go.Lib.hasSuffix (s.data.toList.drop 1) [41] = false) (w : World) : Calls Tryz.prog 12 #[.string s] w fun e w' => ReadsPost w s.data.toList e w' := by
  have HN := hide (red_close hc)
  obtain ⟨S, hS⟩ : ∃ S : ByteArray, S.data.toList = s.data.toList.drop 1 := ⟨⟨(s.data.toList.drop 1).toArray⟩, rfl⟩
  have hz : S.size ≤ 1000000 := by rw [ba_size hS, List.length_drop, ← size_list]; omega
  have h1 := fun W => cut_pre s ⟨#[40]⟩ S true hb hS W
  have h2 := fun W => cut_suf S ⟨#[41]⟩ S false hz (by rw [hS]; exact hc) rfl W
  clear hb hc hS
  go_enter Tryz.func12, Tryz.ntmps12
  go_wp2_with (first
    | (go_at_call 23; refine (h1 _).mono ?_; rintro _ _ ⟨rfl, rfl⟩)
    | (go_at_call 24; refine (h2 _).mono ?_; rintro _ _ ⟨rfl, rfl⟩))
  go_ret2
  exact ⟨Up.refl _, .inr ⟨HN.out, rfl⟩⟩

set_option maxHeartbeats 16000000 in
theorem read_mid (s : ByteArray) (hs : s.size ≤ 1000000) (Mb : ByteArray) (hM : s.data.toList = 40 :: (Mb.data.toList ++ [41])) (w : World) (hT : Tabs w) : Calls Tryz.prog 12 #[.string s] w fun e w' => ReadsPost w s.data.toList e w' := by
  have hsz : Mb.size + 2 = s.size := by rw [size_list s, hM]; simp
  obtain ⟨S, hS⟩ : ∃ S : ByteArray, S.data.toList = Mb.data.toList ++ [41] := ⟨⟨(Mb.data.toList ++ [41]).toArray⟩, rfl⟩
  have hz : S.size ≤ 1000000 := by rw [ba_size hS, List.length_append, ← size_list]; simp; omega
  have h1 := fun W => cut_pre s ⟨#[40]⟩ S true (by rw [hM]; simp [Go.Lib.hasPrefix, List.isPrefixOf]) (by rw [hM, hS]; rfl) W
  have h2 := fun W => cut_suf S ⟨#[41]⟩ Mb true hz (by rw [hS]; exact List.isSuffixOf_iff_suffix.2 ⟨_, rfl⟩) (by rw [hS]; simp) W
  have HM := hide hM
  have HT := hide hT
  have HSZ := hide hsz
  clear hM hS hT hsz
  by_cases h0 : Mb.size = 0
  · obtain rfl := nil_of_size h0
    have HN : Hid (redT s.data.toList = some []) := red_mid HM.out (fun v hv => by simp at hv) rfl
    clear h0
    go_enter Tryz.func12, Tryz.ntmps12
    go_wp2_with (first
      | (go_at_call 23; refine (h1 _).mono ?_; rintro _ w9 ⟨rfl, hw9⟩; obtain rfl : w = w9 := hw9.symm)
      | (go_at_call 24; refine (h2 _).mono ?_; rintro _ w9 ⟨rfl, hw9⟩; obtain rfl : w = w9 := hw9.symm))
    go_loopw [0, 6, 7] (fun v0 b v7 wr => v0 = .string ⟨#[]⟩ ∧ b = .slice none 0 0 ∧ v7 = .bool false ∧ wr = w) (fun _ _ _ _ => 0)
    case atStart => exact ⟨rfl, rfl, rfl, rfl⟩
    case round =>
      obtain ⟨rfl, rfl, rfl, rfl⟩ := hrel
      clear h1 h2
      go_wp2
      go_ret2
      exact ⟨Up.refl _, .inl ⟨[], _, HN.out, Nat.zero_le _, rfl, OwnV.nil _ _⟩⟩
  · have hne : Mb.toList.isEmpty = false := ne_empty (by omega)
    have HS0 := hide (RdT.start (M := Mb.data.toList) (ne_of_size h0))
    clear h0
    go_enter Tryz.func12, Tryz.ntmps12
    go_wp2_with (first
      | (go_at_call 23; refine (h1 _).mono ?_; rintro _ w9 ⟨rfl, hw9⟩; obtain rfl : w = w9 := hw9.symm)
      | (go_at_call 24; refine (h2 _).mono ?_; rintro _ w9 ⟨rfl, hw9⟩; obtain rfl : w = w9 := hw9.symm))
    go_loopw [0, 6, 7] (fun v0 b v7 wr => RdRel s Mb.data.toList w v0 b v7 wr) (fun v0 _ v7 _ => 2 * strLen v0 + boolN v7)
    case atStart => exact ⟨Mb, [], true, rfl, rfl, by have := HSZ.out; omega, OwnV.nil _ _, Up.refl _, Nat.zero_le _, .inl ⟨rfl, by have := HSZ.out; simp; omega, HS0.out⟩⟩
    case round =>
      obtain ⟨T, m, more, rfl, rfl, hTs, HH⟩ := hrel
      clear h1 h2 HS0
      cases more with
      | false =>
        obtain ⟨ho, hu, hml, ⟨h, _⟩ | ⟨_, hz, hall, hj⟩⟩ := HH.out
        · cases h
        have HN : Hid (redT s.data.toList = some m) := red_mid HM.out hall hj
        have HO := hide ho
        have HU := hide hu
        have HL : Hid (m.length ≤ s.data.toList.length) := by rw [← size_list]; exact hml
        clear HH ho hu hml hz hall hj
        go_wp2
        go_ret2
        exact ⟨HU.out, .inl ⟨m, _, HN.out, HL.out, rfl, HO.out⟩⟩
      | true =>
        obtain ⟨ho, hu, hml, ⟨_, hmT, hR⟩ | ⟨h, _⟩⟩ := HH.out
        case inr => cases h
        have HTr := hide (HT.out.up hu)
        have hFl := firstL_le T.data.toList
        rw [← size_list] at hFl
        have hFc := first_calls T (by omega) wr HTr.out
        have hPx : (T.extract 0 (firstL T.data.toList)).data.toList = T.data.toList.take (firstL T.data.toList) := by rw [piece_list]; simp
        have hPc := fun W => tparse_calls (T.extract 0 (firstL T.data.toList)) (by rw [ByteArray.size_extract]; omega) W
        unfold ParsePost at hPc
        rw [hPx] at hPc
        have hDx : (T.extract (firstL T.data.toList) T.size).data.toList = T.data.toList.drop (firstL T.data.toList) := drop_list _ _
        obtain ⟨F, hF⟩ : ∃ F, firstL T.data.toList = F := ⟨_, rfl⟩
        have HR := hide hR
        have HF := hide hF
        rw [hF] at hFc hPc hDx hFl
        have f1 : (F : Int) ≤ (T.size : Int) := by omega
        have f0 : (0 : Int) ≤ (F : Int) := by omega
        have HO := hide ho
        have HU := hide hu
        clear HH ho hu hR hF hPx
        go_wp2_with fail
        go_at_call 25
        refine hFc.mono ?_
        rintro _ w1 ⟨rfl, hw1⟩
        obtain rfl : wr = w1 := hw1.symm
        clear hFc
        go_wp2_with fail
        go_at_call 10
        refine (hPc _ HTr.out).mono ?_
        clear hPc
        rintro _ w2 ⟨hu2, ⟨⟨k, n, S0, f⟩, hp, rfl⟩ | ⟨hp, rfl⟩⟩
        · have hp' : parT (T.data.toList.take (firstL T.data.toList)) = some (k, n, S0, f) := by rw [HF.out]; exact hp
          have hTne : 1 ≤ T.size := by
            have h3 := (HR.out.cut hp').2.2
            have h4 := congrArg List.length h3
            rw [List.length_append, ← size_list] at h4
            cases h5 : prnV (k, n, S0, f) with
            | nil => exact absurd h5 (prn_ne _)
            | cons a r => rw [h5] at h4; simp only [List.length_cons] at h4; omega
          obtain ⟨W3, hW3⟩ : ∃ W3, w2.alloc (.cells #[.int .i64 k, .int .i64 n, .string S0, .float .f64 f] 24) = W3 := ⟨_, rfl⟩
          have e0 : W3.cell? ⟨w2.heap.size, 0, none⟩ = some (.int .i64 k) := by subst hW3; simp
          have e1 : W3.cell? ⟨w2.heap.size, 1, none⟩ = some (.int .i64 n) := by subst hW3; simp
          have e2 : W3.cell? ⟨w2.heap.size, 2, none⟩ = some (.string S0) := by subst hW3; simp
          have e3 : W3.cell? ⟨w2.heap.size, 3, none⟩ = some (.float .f64 f) := by subst hW3; simp
          have hu3 : Up w2 W3 := by subst hW3; exact (Up.refl _).alloc _
          have ho3 := (HO.out.up hu2).up hu3
          have hU3 := (HU.out.trans hu2).trans hu3
          have hb3 := hU3.size
          have HU3 := hide hU3
          have HP := hide hp'
          have HML := hide hml
          clear hp hu2 hu3 hU3 HO HU hp' hml
          go_wp2_with (at_builtin; refine append_value rfl (.tmp 42) (.tmp 44) rfl w.heap.size _ _ rfl (ho3.alloc _) _ 1 1 [(k, n, S0, f)] rfl rfl (value_new (k, n, S0, f)) (by have := HML.out; omega) (Nat.le_trans hb3 (by simp)) ?_)
          intro b4 w4 ho4 hg4
          have HU4 := hide (up_grownW (HU3.out.alloc _) hg4 ho3)
          replace ho4 := hide ho4
          clear hg4 ho3 e0 e1 e2 e3 hW3 hb3
          cases hpf : Go.Lib.hasPrefix (T.extract F T.size).data.toList [44, 32] with
          | true =>
            obtain ⟨q, hq⟩ : ∃ q, T.data.toList.drop F = 44 :: 32 :: q := by
              rw [hDx] at hpf
              obtain ⟨q, hq⟩ := List.isPrefixOf_iff_prefix.1 hpf
              exact ⟨q, hq.symm⟩
            obtain ⟨S, hS⟩ : ∃ S : ByteArray, S.data.toList = q := ⟨⟨q.toArray⟩, rfl⟩
            have hC := fun W => cut_pre (T.extract F T.size) ⟨#[44, 32]⟩ S true hpf (by rw [hDx, hq, hS]; rfl) W
            have HX : Hid (RdT Mb.data.toList (m ++ [(k, n, S0, f)]) S.data.toList) := HR.out.next HP.out (by rw [HF.out, hq, hS])
            have hSz : S.size + 2 ≤ T.size := by
              have h4 := congrArg List.length hq
              rw [List.length_drop, ← size_list] at h4
              simp only [List.length_cons] at h4
              rw [ba_size hS]; omega
            clear hq hS hDx hpf
            go_wp2_with fail
            go_at_call 23
            refine (hC _).mono ?_
            rintro _ w5 ⟨rfl, hw5⟩
            obtain rfl : w4 = w5 := hw5.symm
            clear hC
            go_wp2
            go_roundw
            case rel => exact ⟨S, m ++ [(k, n, S0, f)], true, rfl, rfl, by omega, ho4.out, HU4.out, by rw [List.length_append, List.length_singleton]; omega, .inl ⟨rfl, by rw [List.length_append, List.length_singleton]; omega, HX.out⟩⟩
            case measure => simp only [strLen, boolN]; omega
          | false =>
            obtain ⟨S, hS⟩ : ∃ S : ByteArray, T.extract F T.size = S := ⟨_, rfl⟩
            have hC := fun W => cut_pre (T.extract F T.size) ⟨#[44, 32]⟩ (T.extract F T.size) false hpf rfl W
            rw [hS] at hC hDx hpf
            by_cases hz : S.size = 0
            · have hdn : T.data.toList.drop (firstL T.data.toList) = [] := by rw [HF.out, ← hDx]; exact List.eq_nil_of_length_eq_zero (by rw [← size_list]; exact hz)
              have HX := hide (HR.out.last HP.out hdn)
              obtain rfl := nil_of_size hz
              clear hdn hDx hpf hz
              go_wp2_with fail
              go_at_call 23
              refine (hC _).mono ?_
              rintro _ w5 ⟨rfl, hw5⟩
              obtain rfl : w4 = w5 := hw5.symm
              clear hC
              go_wp2
              go_roundw
              case rel => exact ⟨⟨#[]⟩, m ++ [(k, n, S0, f)], false, rfl, rfl, Nat.zero_le _, ho4.out, HU4.out, by rw [List.length_append, List.length_singleton]; omega, .inr ⟨rfl, rfl, HX.out.1, HX.out.2⟩⟩
              case measure => simp only [strLen, boolN]; show 2 * 0 + 0 < _; omega
            · have HN : Hid (redT s.data.toList = none) := by
                refine red_mid_none HM.out (HR.out.bad (v := (k, n, S0, f)) ?_ ?_)
                · rw [HF.out, ← hDx]; exact ne_of_size hz
                · rw [HF.out, ← hDx]; exact hpf
              have hne5 : S.toList.isEmpty = false := ne_empty (by omega)
              clear hDx hpf hz
              go_wp2_with fail
              go_at_call 23
              refine (hC _).mono ?_
              rintro _ w5 ⟨rfl, hw5⟩
              obtain rfl : w4 = w5 := hw5.symm
              clear hC
              go_wp2
              go_ret2
              exact ⟨HU4.out, .inr ⟨HN.out, rfl⟩⟩
        · have HN : Hid (redT s.data.toList = none) := red_mid_none HM.out (HR.out.none (by rw [HF.out]; exact hp))
          have HU2 := hide (HU.out.trans hu2)
          clear hp hu2 HR HO
          go_wp2
          go_ret2
          exact ⟨HU2.out.alloc _, .inr ⟨HN.out, rfl⟩⟩

theorem treads_calls (s : ByteArray) (hs : s.size ≤ 1000000) (w : World) (hT : Tabs w) : Calls Tryz.prog 12 #[.string s] w fun e w' => ReadsPost w s.data.toList e w' := by
  cases hb : Go.Lib.hasPrefix s.data.toList [40] with
  | false => exact read_open s hs hb w
  | true =>
    cases hc : Go.Lib.hasSuffix (s.data.toList.drop 1) [41] with
    | false => exact read_close s hs hb hc w
    | true =>
      obtain ⟨r, hr⟩ := List.isPrefixOf_iff_prefix.1 hb
      rw [← hr] at hc
      obtain ⟨q, hq⟩ := List.isSuffixOf_iff_suffix.1 hc
      have hq' : q ++ [41] = r := hq
      exact read_mid s hs ⟨q.toArray⟩ (by rw [← hr, ← hq']; rfl) w hT

end Go.Proofs.YtjnnmghehoodhaaGreatDoor
