/-
  Plain readers of a value's and of a row's text: each reads just what is printed, and no other text. No program is named here.
-/
import Derived.Test.YtjnnmghehoodhaaGreatDoorTextMath
namespace Go.Proofs.YtjnnmghehoodhaaGreatDoor

theorem t_size (l : List UInt8) : (ByteArray.mk l.toArray).size = l.length := rfl
/-- What is read fits, if it is a value. -/
theorem rd_fits (s : List UInt8) (h : isB (rdV s) = true) : Fits (rdV s) := by
  have m1 : IntKind.i64.min = -9223372036854775808 := by decide
  have m2 : IntKind.i64.max = 9223372036854775807 := by decide
  have m3 : maxLen = 9223372036854775807 := by decide
  have hw : whole = 18446744073709551616 := rfl
  have h0 : (ByteArray.mk #[]).size = 0 := rfl
  revert h
  unfold rdV
  split
  · intro _; refine ⟨?_, ?_, ?_, ?_, ?_, ?_⟩ <;> simp only [m1, m2, m3, hw, h0] <;> omega
  split
  · intro _; refine ⟨?_, ?_, ?_, ?_, ?_, ?_⟩ <;> simp only [m1, m2, m3, hw, h0] <;> omega
  split
  · intro h
    rcases t_cases h with ⟨h, _⟩ | ⟨h, _⟩ | ⟨_, _, hs, _⟩ | ⟨h, _⟩
    · exact absurd h (by decide)
    · exact absurd h (by decide)
    · refine ⟨?_, ?_, ?_, ?_, ?_, ?_⟩ <;> simp only [m1, m2, m3, hw] <;> omega
    · exact absurd h (by decide)
  split
  · intro h
    rcases t_cases h with ⟨h, _⟩ | ⟨h, _⟩ | ⟨_, _, hs, _⟩ | ⟨h, _⟩
    · exact absurd h (by decide)
    · exact absurd h (by decide)
    · refine ⟨?_, ?_, ?_, ?_, ?_, ?_⟩ <;> simp only [m1, m2, m3, hw] <;> omega
    · exact absurd h (by decide)
  split
  · next h17 =>
    intro _
    have hn : numT ((unhexL s.tail).getD []) < whole := by
      cases hu : unhexL s.tail with
      | none => simp [numT, whole]
      | some l =>
        have hl := congrArg List.length (hexL_unhexL _ _ _ (Nat.le_refl _) hu)
        rw [hexL_length, List.length_tail, h17.1] at hl
        have := numT_lt l
        rw [show l.length = 8 by omega] at this
        simpa [whole] using this
    refine ⟨?_, ?_, ?_, ?_, ?_, hn⟩ <;> simp only [m1, m2, m3, h0] <;> omega
  · intro _
    obtain ⟨r1, r2⟩ := rdI_fits s
    refine ⟨?_, ?_, r1, r2, ?_, ?_⟩ <;> simp only [m1, m2, m3, hw, h0] <;> omega

/-- A value out of its text. -/
def parT (s : List UInt8) : Option VT := if isB (rdV s) = true ∧ prnV (rdV s) = s then some (rdV s) else none
theorem parT_iff (s : List UInt8) (v : VT) : parT s = some v ↔ isB v = true ∧ Fits v ∧ prnV v = s := by
  unfold parT
  constructor
  · intro h
    split at h
    · next hc =>
      obtain rfl := Option.some.inj h
      exact ⟨hc.1, rd_fits s hc.1, hc.2⟩
    · exact absurd h (by simp)
  · rintro ⟨hv, hf, rfl⟩
    rw [rd_prn v hv hf, if_pos ⟨hv, rfl⟩]
theorem parT_prn {v : VT} (hv : isB v = true) (hf : Fits v) : parT (prnV v) = some v := (parT_iff _ _).2 ⟨hv, hf, rfl⟩
theorem parT_none {s : List UInt8} (h : ∀ v, isB v = true → Fits v → prnV v ≠ s) : parT s = none := by
  cases hp : parT s with
  | none => rfl
  | some v =>
    obtain ⟨h1, h2, h3⟩ := (parT_iff _ _).1 hp
    exact absurd h3 (h v h1 h2)
theorem prn_ne (v : VT) : prnV v ≠ [] := by
  obtain ⟨k, n, s, f⟩ := v
  by_cases hv : isB (k, n, s, f) = true
  · rcases t_cases hv with ⟨rfl, rfl, rfl⟩ | ⟨rfl, rfl | rfl, rfl, rfl⟩ | ⟨rfl | rfl, rfl, hs, rfl⟩ | ⟨rfl, rfl, rfl⟩
    · obtain ⟨c, r, he, _⟩ := decI_head n
      rw [prn_int, he]; simp
    · rw [prn_false]; simp [falseL]
    · rw [prn_true]; simp [trueL]
    · rw [prn_str hs]; simp [quoS]
    · rw [prn_bytes hs]; simp
    · rw [prn_float]; simp
  · rw [prnV, if_neg hv]; simp
/-- What is no value's text: `?` and nothing. -/
theorem parT_nil : parT [] = none := parT_none fun v _ _ => prn_ne v
theorem parT_ask : parT [63] = none := by decide +kernel

/-- Where a value's text ends, ahead of a comma that isn't within quotes. -/
def endT : Bool → List UInt8 → Nat
  | _, [] => 0
  | o, [c] => if o = false ∧ c = 44 then 0 else 1
  | o, c :: d :: q => if o = false ∧ c = 44 then 0 else if c = 92 then 2 + endT o q else 1 + endT (if c = 34 then !o else o) (d :: q)
theorem endT_nil (o : Bool) : endT o [] = 0 := by rw [endT]
theorem endT_le : ∀ (n : Nat) (o : Bool) (s : List UInt8), s.length ≤ n → endT o s ≤ s.length
  | _, _, [], _ => by rw [endT]; simp
  | _, _, [c], _ => by rw [endT]; split <;> simp
  | 0, _, _ :: _ :: _, h => by simp at h
  | n + 1, o, c :: d :: q, h => by
    rw [endT]
    split
    · omega
    split
    · have := endT_le n o q (by simp at h; omega)
      simp only [List.length_cons]; omega
    · have := endT_le n (if c = 34 then !o else o) (d :: q) (by simp at h ⊢; omega)
      simp only [List.length_cons] at this ⊢; omega
theorem endT_comma (r : List UInt8) : endT false (44 :: r) = 0 := by
  cases r with
  | nil => rw [endT, if_pos ⟨rfl, rfl⟩]
  | cons d q => rw [endT, if_pos ⟨rfl, rfl⟩]
theorem endT_step {o : Bool} {c : UInt8} (h2 : ¬ c = 92) (h3 : ¬ (o = false ∧ c = 44)) (r : List UInt8) : endT o (c :: r) = 1 + endT (if c = 34 then !o else o) r := by
  cases r with
  | nil =>
    show (if o = false ∧ c = 44 then 0 else 1) = _
    rw [if_neg h3, endT_nil]
  | cons d q => rw [endT, if_neg h3, if_neg h2]
theorem endT_quote (o : Bool) (r : List UInt8) : endT o (34 :: r) = 1 + endT (!o) r := by
  rw [endT_step (by decide) (by rintro ⟨-, h⟩; exact absurd h (by decide)), if_pos rfl]
theorem endT_plain {o : Bool} {c : UInt8} (h1 : ¬ c = 34) (h2 : ¬ c = 92) (h3 : o = true ∨ ¬ c = 44) (r : List UInt8) : endT o (c :: r) = 1 + endT o r := by
  rw [endT_step h2, if_neg h1]
  rintro ⟨rfl, hc⟩
  rcases h3 with h3 | h3
  · exact absurd h3 (by simp)
  · exact h3 hc
theorem endT_back (o : Bool) (d : UInt8) (r : List UInt8) : endT o (92 :: d :: r) = 2 + endT o r := by
  rw [endT, if_neg (by rintro ⟨-, h⟩; exact absurd h (by decide)), if_pos rfl]
theorem endT_ahead : ∀ (p r : List UInt8), (∀ c ∈ p, c ≠ 34 ∧ c ≠ 92 ∧ c ≠ 44) → endT false (p ++ r) = p.length + endT false r
  | [], r, _ => by simp
  | c :: p, r, h => by
    have hc := h c (by simp)
    rw [List.cons_append, endT_plain hc.1 hc.2.1 (.inr hc.2.2), endT_ahead p r (fun d hd => h d (by simp [hd])), List.length_cons]
    omega
theorem endT_quoC (c : UInt8) (r : List UInt8) : endT true (quoC c ++ r) = (quoC c).length + endT true r := by
  unfold quoC
  split
  · exact endT_back true c r
  · next h =>
    split
    · exact endT_plain (fun e => h (.inl e)) (fun e => h (.inr e)) (.inl rfl) r
    · have hh := hexD_plain _ (hi_lt c)
      have hl := hexD_plain _ (lo_lt c)
      show endT true (92 :: 120 :: hexHi c :: hexLo c :: r) = 4 + _
      rw [endT_back, hexHi, endT_plain hh.1 hh.2.1 (.inl rfl), hexLo, endT_plain hl.1 hl.2.1 (.inl rfl)]
      omega
theorem endT_quoL (l r : List UInt8) : endT true (quoL l ++ r) = (quoL l).length + endT true r := by
  induction l with
  | nil => simp [quoL]
  | cons c l ih =>
    rw [quoL, List.append_assoc, endT_quoC, ih, List.length_append]; omega
theorem decI_plain (n : Int) : ∀ c ∈ decI n, c ≠ 34 ∧ c ≠ 92 ∧ c ≠ 44 := by
  have dig : ∀ c ∈ decN n.natAbs, c ≠ 34 ∧ c ≠ 92 ∧ c ≠ 44 := fun c hc => by
    have := decN_digs _ c hc
    refine ⟨?_, ?_, ?_⟩ <;> rintro rfl
    · exact absurd this.1 (by decide)
    · exact absurd this.2 (by decide)
    · exact absurd this.1 (by decide)
  intro c hc
  unfold decI at hc
  split at hc
  · rcases List.mem_cons.mp hc with rfl | hc
    · decide
    · exact dig c hc
  · exact dig c hc
theorem endT_prn (v : VT) (hv : isB v = true) (r : List UInt8) : endT false (prnV v ++ r) = (prnV v).length + endT false r := by
  obtain ⟨k, n, s, f⟩ := v
  rcases t_cases hv with ⟨rfl, rfl, rfl⟩ | ⟨rfl, rfl | rfl, rfl, rfl⟩ | ⟨rfl | rfl, rfl, hs, rfl⟩ | ⟨rfl, rfl, rfl⟩
  · rw [prn_int]; exact endT_ahead _ _ (decI_plain n)
  · rw [prn_false]; exact endT_ahead _ _ (by decide)
  · rw [prn_true]; exact endT_ahead _ _ (by decide)
  · rw [prn_str hs, quoS, List.cons_append, endT_quote, List.append_assoc, Bool.not_false, endT_quoL, List.cons_append, endT_quote, List.nil_append, Bool.not_true]
    simp only [List.length_cons, List.length_append, List.length_nil]
    omega
  · rw [prn_bytes hs]
    refine endT_ahead _ _ fun c hc => ?_
    rcases List.mem_cons.mp hc with rfl | hc
    · decide
    · exact hexL_plain _ c hc
  · rw [prn_float]
    refine endT_ahead _ _ fun c hc => ?_
    rcases List.mem_cons.mp hc with rfl | hc
    · decide
    · exact hexL_plain _ c hc

/-- Values, a comma and a blank between. -/
def getT : Nat → List UInt8 → Option (List VT)
  | 0, _ => none
  | n + 1, s =>
    if s = [] then some [] else
    match parT (s.take (endT false s)) with
    | none => none
    | some v => match s.drop (endT false s) with
      | [] => some [v]
      | a :: b :: c :: q => if a = 44 ∧ b = 32 then (getT n (c :: q)).map (v :: ·) else none
      | _ => none
theorem getT_nil (n : Nat) : getT (n + 1) [] = some [] := by rw [getT, if_pos rfl]
theorem joinT_cons2 (t u : List UInt8) (l : List (List UInt8)) : joinT (t :: u :: l) = t ++ 44 :: 32 :: joinT (u :: l) := by rw [joinT]
theorem joinT_one (t : List UInt8) : joinT [t] = t := by rw [joinT]
theorem joinT_ne (v : VT) (l : List VT) : ∃ c q, joinT ((v :: l).map prnV) = c :: q := by
  have hp := prn_ne v
  obtain ⟨c, q, hc⟩ : ∃ c q, prnV v = c :: q := by
    cases h : prnV v with
    | nil => exact absurd h hp
    | cons c q => exact ⟨c, q, rfl⟩
  cases l with
  | nil => exact ⟨c, q, by rw [List.map_cons, List.map_nil, joinT_one, hc]⟩
  | cons u l => exact ⟨c, _, by rw [List.map_cons, List.map_cons, joinT_cons2, hc]; rfl⟩
/-- All of a row are values. -/
def AllV (l : List VT) : Prop := ∀ v ∈ l, isB v = true ∧ Fits v
theorem getT_join : ∀ (l : List VT) (n : Nat), AllV l → (joinT (l.map prnV)).length < n → getT n (joinT (l.map prnV)) = some l
  | _, 0, _, h => by omega
  | [], n + 1, _, _ => getT_nil n
  | [v], n + 1, hl, _ => by
    obtain ⟨hv, hf⟩ := hl v (by simp)
    rw [List.map_cons, List.map_nil, joinT_one, getT, if_neg (prn_ne v)]
    have he := endT_prn v hv []
    rw [List.append_nil] at he
    rw [he, show endT false [] = 0 by rw [endT], Nat.add_zero, List.take_length, parT_prn hv hf, List.drop_length]
  | v :: u :: l, n + 1, hl, hn => by
    obtain ⟨hv, hf⟩ := hl v (by simp)
    rw [List.map_cons, List.map_cons, joinT_cons2, ← List.map_cons] at hn ⊢
    obtain ⟨c, q, hq⟩ := joinT_ne u l
    have ih := getT_join (u :: l) n (fun x hx => hl x (by simp at hx ⊢; exact .inr hx)) (by
      rw [List.length_append, List.length_cons, List.length_cons] at hn; omega)
    rw [hq] at ih ⊢
    rw [getT, if_neg (by simp), endT_prn v hv, endT_comma, Nat.add_zero, List.take_left' rfl, parT_prn hv hf, List.drop_left' rfl]
    show (if (44 : UInt8) = 44 ∧ (32 : UInt8) = 32 then (getT n (c :: q)).map (v :: ·) else none) = _
    rw [if_pos ⟨rfl, rfl⟩, ih]; rfl
theorem join_getT : ∀ (n : Nat) (s : List UInt8) (l : List VT), getT n s = some l → AllV l ∧ joinT (l.map prnV) = s
  | 0, s, l, h => by rw [getT] at h; exact absurd h (by simp)
  | n + 1, s, l, h => by
    rw [getT] at h
    split at h
    · next hs =>
      obtain rfl := Option.some.inj h
      exact ⟨fun v hv => by simp at hv, hs.symm⟩
    · next hs =>
      cases hp : parT (s.take (endT false s)) with
      | none => rw [hp] at h; exact absurd h (by simp)
      | some v =>
        rw [hp] at h
        obtain ⟨hv, hf, hpv⟩ := (parT_iff _ _).1 hp
        have hsp := List.take_append_drop (endT false s) s
        rw [← hpv] at hsp
        cases hd : s.drop (endT false s) with
        | nil =>
          rw [hd] at h hsp
          obtain rfl := Option.some.inj h
          refine ⟨fun x hx => ?_, ?_⟩
          · rw [List.mem_singleton] at hx; rw [hx]; exact ⟨hv, hf⟩
          · rw [List.map_cons, List.map_nil, joinT_one, ← hsp, List.append_nil]
        | cons a r =>
          cases r with
          | nil => rw [hd] at h; exact absurd h (by simp)
          | cons b r =>
            cases r with
            | nil => rw [hd] at h; exact absurd h (by simp)
            | cons c q =>
              rw [hd] at h hsp
              change (if a = 44 ∧ b = 32 then (getT n (c :: q)).map (v :: ·) else none) = some l at h
              split at h
              · next hab =>
                obtain ⟨rfl, rfl⟩ := hab
                cases hg : getT n (c :: q) with
                | none => rw [hg] at h; exact absurd h (by simp)
                | some m =>
                  rw [hg] at h
                  obtain rfl := Option.some.inj h
                  obtain ⟨hm, hj⟩ := join_getT n (c :: q) m hg
                  refine ⟨fun x hx => ?_, ?_⟩
                  · rcases List.mem_cons.mp hx with rfl | hx
                    · exact ⟨hv, hf⟩
                    · exact hm x hx
                  · cases m with
                    | nil => rw [List.map_nil, joinT] at hj; exact absurd hj (by simp)
                    | cons u m => rw [List.map_cons, List.map_cons, joinT_cons2, ← List.map_cons, hj, ← hsp]
              · exact absurd h (by simp)

/-- A row out of its text. -/
def redT (s : List UInt8) : Option (List VT) := if 2 ≤ s.length ∧ s.head? = some 40 ∧ s.getLast? = some 41 then getT s.length s.tail.dropLast else none
theorem redT_iff (s : List UInt8) (l : List VT) : redT s = some l ↔ AllV l ∧ rowT l = s := by
  unfold redT rowT
  constructor
  · intro h
    split at h
    · next hc =>
      obtain ⟨h2, hh, hl⟩ := hc
      obtain ⟨ha, hj⟩ := join_getT _ _ _ h
      refine ⟨ha, ?_⟩
      obtain ⟨r, rfl⟩ := List.head?_eq_some_iff.mp hh
      have hr : r ≠ [] := fun e => by rw [e] at h2; simp at h2
      rw [List.getLast?_cons, List.getLast?_eq_some_getLast hr, Option.getD_some] at hl
      rw [List.tail_cons] at hj
      rw [hj, ← Option.some.inj hl, List.dropLast_concat_getLast hr]
    · exact absurd h (by simp)
  · rintro ⟨ha, rfl⟩
    rw [if_pos ⟨by simp, by simp, by rw [List.getLast?_cons]; simp⟩, List.tail_cons, List.dropLast_concat, getT_join l _ ha (by simp; omega)]
theorem redT_row {l : List VT} (h : AllV l) : redT (rowT l) = some l := (redT_iff _ _).2 ⟨h, rfl⟩
theorem redT_none {s : List UInt8} (h : ∀ l, AllV l → rowT l ≠ s) : redT s = none := by
  cases hp : redT s with
  | none => rfl
  | some l =>
    obtain ⟨h1, h2⟩ := (redT_iff _ _).1 hp
    exact absurd h2 (h l h1)

end Go.Proofs.YtjnnmghehoodhaaGreatDoor
