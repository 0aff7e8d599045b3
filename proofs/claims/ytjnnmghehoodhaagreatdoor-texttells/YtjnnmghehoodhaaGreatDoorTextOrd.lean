/-
  Plain facts of texts: those of floats stand as their bits do; a text with something behind it, or cut short, or with a sign ahead, is none. No program is named here.
-/
import Derived.Test.YtjnnmghehoodhaaGreatDoorTextRows
namespace Go.Proofs.YtjnnmghehoodhaaGreatDoor

theorem hexD_less : ∀ m, m < 16 → ∀ n, n < 16 → decide (hexD m < hexD n) = decide (m < n) ∧ (hexD m == hexD n) = decide (m = n) := by decide
theorem hexL_less : ∀ (a b : List UInt8), a.length = b.length → Op.bytesLess (hexL a) (hexL b) = Op.bytesLess a b
  | [], [], _ => rfl
  | [], _ :: _, h => by simp at h
  | _ :: _, [], h => by simp at h
  | c :: a, d :: b, h => by
    have ih := hexL_less a b (by simpa using h)
    obtain ⟨h1, h2⟩ := hexD_less _ (hi_lt c) _ (hi_lt d)
    obtain ⟨h3, h4⟩ := hexD_less _ (lo_lt c) _ (lo_lt d)
    show (decide (hexHi c < hexHi d) || (hexHi c == hexHi d && (decide (hexLo c < hexLo d) || (hexLo c == hexLo d && Op.bytesLess (hexL a) (hexL b))))) = (decide (c < d) || (c == d && Op.bytesLess a b))
    unfold hexHi hexLo
    rw [h1, h2, h3, h4, ih]
    have e1 : decide (c < d) = decide (c.toNat < d.toNat) := decide_eq_decide.2 UInt8.lt_iff_toNat_lt
    have e2 : (c == d) = decide (c.toNat = d.toNat) := by
      by_cases hc : c = d
      · subst hc; simp
      · rw [beq_eq_false_iff_ne.2 hc]; symm; rw [decide_eq_false_iff_not]; exact fun e => hc (UInt8.toNat_inj.1 e)
    rw [e1, e2]
    by_cases p1 : c.toNat / 16 < d.toNat / 16
    · rw [decide_eq_true p1, decide_eq_true (by omega : c.toNat < d.toNat)]; rfl
    · by_cases p2 : c.toNat / 16 = d.toNat / 16
      · by_cases p3 : c.toNat % 16 < d.toNat % 16
        · rw [decide_eq_true p3, decide_eq_true p2, decide_eq_true (by omega : c.toNat < d.toNat)]; simp
        · by_cases p4 : c.toNat % 16 = d.toNat % 16
          · rw [decide_eq_false p1, decide_eq_true p2, decide_eq_false p3, decide_eq_true p4, decide_eq_false (by omega : ¬ c.toNat < d.toNat), decide_eq_true (by omega : c.toNat = d.toNat)]; simp
          · rw [decide_eq_false p1, decide_eq_false p3, decide_eq_false p4, decide_eq_false (by omega : ¬ c.toNat < d.toNat), decide_eq_false (by omega : ¬ c.toNat = d.toNat)]; simp
      · rw [decide_eq_false p1, decide_eq_false p2, decide_eq_false (by omega : ¬ c.toNat < d.toNat), decide_eq_false (by omega : ¬ c.toNat = d.toNat)]; simp

theorem numT_from : ∀ (l : List UInt8) (x : Nat), l.foldl (fun n c => n * 256 + c.toNat) x = x * 256 ^ l.length + numT l := by
  intro l
  induction l with
  | nil => intro x; simp [numT]
  | cons c l ih =>
    intro x
    have e : numT (c :: l) = c.toNat * 256 ^ l.length + numT l := by
      show l.foldl (fun n c => n * 256 + c.toNat) (0 * 256 + c.toNat) = _
      rw [ih]; simp
    rw [List.foldl_cons, ih, e, List.length_cons, Nat.pow_succ, Nat.add_mul, Nat.mul_assoc, Nat.mul_comm 256 (256 ^ l.length)]
    omega
theorem numT_cons (c : UInt8) (l : List UInt8) : numT (c :: l) = c.toNat * 256 ^ l.length + numT l := by
  show l.foldl (fun n c => n * 256 + c.toNat) (0 * 256 + c.toNat) = _
  rw [numT_from]; simp
theorem numT_less : ∀ (a b : List UInt8), a.length = b.length → Op.bytesLess a b = decide (numT a < numT b)
  | [], [], _ => by simp [Op.bytesLess]
  | [], _ :: _, h => by simp at h
  | _ :: _, [], h => by simp at h
  | c :: a, d :: b, h => by
    have hl : a.length = b.length := by simpa using h
    have ih := numT_less a b hl
    have ha := numT_lt a
    have hb := numT_lt b
    rw [hl] at ha
    rw [Op.bytesLess, ih, numT_cons, numT_cons, hl]
    rcases Nat.lt_trichotomy c.toNat d.toNat with p | p | p
    · have hm := Nat.mul_le_mul_right (256 ^ b.length) p
      rw [Nat.succ_mul] at hm
      rw [decide_eq_true (UInt8.lt_iff_toNat_lt.2 p), decide_eq_true (by omega : c.toNat * 256 ^ b.length + numT a < d.toNat * 256 ^ b.length + numT b)]
      rfl
    · obtain rfl := UInt8.toNat_inj.1 p
      rw [decide_eq_false (UInt8.lt_irrefl c), beq_self_eq_true, Bool.true_and, Bool.false_or]
      exact decide_eq_decide.2 (by omega)
    · have hm := Nat.mul_le_mul_right (256 ^ b.length) p
      rw [Nat.succ_mul] at hm
      have hne : (c == d) = false := beq_eq_false_iff_ne.2 fun e => by rw [e] at p; omega
      rw [decide_eq_false fun e => absurd (UInt8.lt_iff_toNat_lt.1 e) (by omega), hne, decide_eq_false (by omega : ¬ c.toNat * 256 ^ b.length + numT a < d.toNat * 256 ^ b.length + numT b)]
      rfl

/-- A float's text. -/
def fltT (a : Nat) : List UInt8 := 102 :: hexL (wordL a)
theorem fltT_length (a : Nat) : (fltT a).length = 17 := by rw [fltT, List.length_cons, hexL_length]; rfl
theorem fltT_less {a b : Nat} (ha : a < whole) (hb : b < whole) : Op.bytesLess (fltT a) (fltT b) = decide (a < b) := by
  unfold fltT
  rw [Op.bytesLess, hexL_less (wordL a) (wordL b) rfl, numT_less (wordL a) (wordL b) rfl, numT_wordL a ha, numT_wordL b hb]
  simp
theorem fltT_same {a b : Nat} (ha : a < whole) (hb : b < whole) : (fltT a == fltT b) = decide (a = b) := by
  by_cases h : a = b
  · subst h; simp
  · rw [decide_eq_false h]
    refine beq_eq_false_iff_ne.2 fun e => h ?_
    have hh : hexL (wordL a) = hexL (wordL b) := by
      unfold fltT at e
      exact (List.cons.inj e).2
    have := congrArg unhexL hh
    rw [unhexL_hexL, unhexL_hexL] at this
    rw [← numT_wordL a ha, Option.some.inj this, numT_wordL b hb]

/-- By its first byte a text is of an Int or a Str alone. -/
theorem prn_first {v : VT} (hv : isB v = true) {c : UInt8} {r : List UInt8} (h : prnV v = c :: r) :
    ((∃ n, v = (1, n, ⟨#[]⟩, 0)) ∧ (c = 45 ∨ (48 ≤ c.toNat ∧ c.toNat ≤ 57))) ∨ c = 116 ∨ c = 102 ∨ c = 120 ∨ (c = 34 ∧ ∃ s : ByteArray, v = (3, 0, s, 0) ∧ s.size ≤ 60) := by
  obtain ⟨k, n, s, f⟩ := v
  rcases t_cases hv with ⟨rfl, rfl, rfl⟩ | ⟨rfl, rfl | rfl, rfl, rfl⟩ | ⟨rfl | rfl, rfl, hs, rfl⟩ | ⟨rfl, rfl, rfl⟩
  · rw [prn_int] at h
    obtain ⟨d, q, he, hd⟩ := decI_head n
    rw [he] at h
    obtain ⟨rfl, -⟩ := List.cons.inj h
    exact .inl ⟨⟨n, rfl⟩, hd⟩
  · rw [prn_false, falseL] at h
    exact .inr (.inr (.inl (List.cons.inj h).1.symm))
  · rw [prn_true, trueL] at h
    exact .inr (.inl (List.cons.inj h).1.symm)
  · rw [prn_str hs, quoS] at h
    exact .inr (.inr (.inr (.inr ⟨(List.cons.inj h).1.symm, s, rfl, hs⟩)))
  · rw [prn_bytes hs] at h
    exact .inr (.inr (.inr (.inl (List.cons.inj h).1.symm)))
  · rw [prn_float] at h
    exact .inr (.inr (.inl (List.cons.inj h).1.symm))
theorem par_sign {c : UInt8} (h : c = 43 ∨ c = 32) (r : List UInt8) : parT (c :: r) = none := by
  refine parT_none fun v hv _ e => ?_
  rcases h with rfl | rfl
  · rcases prn_first hv e with ⟨-, p | p⟩ | p | p | p | ⟨p, -⟩
    · exact absurd p (by decide)
    · exact absurd p (by decide)
    all_goals exact absurd p (by decide)
  · rcases prn_first hv e with ⟨-, p | p⟩ | p | p | p | ⟨p, -⟩
    · exact absurd p (by decide)
    · exact absurd p (by decide)
    all_goals exact absurd p (by decide)
theorem dig_first {v : VT} (hv : isB v = true) {c : UInt8} {r : List UInt8} (h : prnV v = c :: r) (hc : c = 45 ∨ (48 ≤ c.toNat ∧ c.toNat ≤ 57)) : ∃ n, v = (1, n, ⟨#[]⟩, 0) ∧ decI n = c :: r := by
  rcases prn_first hv h with ⟨⟨n, rfl⟩, -⟩ | p | p | p | ⟨p, -⟩
  · exact ⟨n, rfl, by rw [← prn_int]; exact h⟩
  all_goals
    subst p
    rcases hc with hc | hc
    · exact absurd hc (by decide)
    · exact absurd hc (by decide)
theorem decI_signs (n : Int) : ∀ c ∈ decI n, c = 45 ∨ (48 ≤ c.toNat ∧ c.toNat ≤ 57) := by
  intro c hc
  unfold decI at hc
  split at hc
  · rcases List.mem_cons.mp hc with rfl | hc
    · exact .inl rfl
    · exact .inr (decN_digs _ c hc)
  · exact .inr (decN_digs _ c hc)
theorem par_nought (n : Int) : parT (48 :: decI n) = none := by
  refine parT_none fun v hv _ e => ?_
  obtain ⟨m, -, hm⟩ := dig_first hv e (.inr (by decide))
  obtain ⟨c, r, hr, -⟩ := decI_head n
  rw [hr] at hm
  unfold decI at hm
  split at hm
  · exact absurd (List.cons.inj hm).1 (by decide)
  · by_cases h0 : m.natAbs = 0
    · rw [h0, decN_small (by omega)] at hm
      simp at hm
    · obtain ⟨d, q, hd, hh, -⟩ := decN_head _ h0
      rw [hd] at hm
      rw [(List.cons.inj hm).1] at hh
      exact absurd hh (by decide)
theorem par_behind (n : Int) {d : UInt8} (hd : d = 32 ∨ d = 46) : parT (decI n ++ [d]) = none := by
  refine parT_none fun v hv _ e => ?_
  obtain ⟨c, r, hr, hc⟩ := decI_head n
  rw [hr, List.cons_append] at e
  obtain ⟨m, -, hm⟩ := dig_first hv e hc
  have := decI_signs m d (by rw [hm]; simp)
  rcases hd with rfl | rfl
  · rcases this with p | p
    · exact absurd p (by decide)
    · exact absurd p (by decide)
  · rcases this with p | p
    · exact absurd p (by decide)
    · exact absurd p (by decide)
theorem par_minus : parT [45, 48] = none := by
  refine parT_none fun v hv _ e => ?_
  obtain ⟨m, -, hm⟩ := dig_first hv e (.inl rfl)
  unfold decI at hm
  split at hm
  · next hn =>
    have h1 := congrArg decV (List.cons.inj hm).2
    rw [decV_decN] at h1
    have : decV [48] = 0 := by decide
    omega
  · have := decN_digs m.natAbs 45 (by rw [hm]; simp)
    exact absurd this.1 (by decide)
theorem par_int (n : Int) (h : IntKind.i64.min ≤ n ∧ n ≤ IntKind.i64.max) : parT (decI n) = some (1, n, ⟨#[]⟩, 0) := by
  rw [← prn_int]
  refine parT_prn (t_int n) ⟨(by decide : IntKind.i64.min ≤ 1), (by decide : (1 : Int) ≤ IntKind.i64.max), h.1, h.2, ?_, ?_⟩
  · exact Nat.zero_le _
  · simp [whole]

/-- A Str's text with something behind it is none; cut short it is none. -/
theorem par_more (l : List UInt8) : parT (quoS l ++ [120]) = none := by
  refine parT_none fun v hv _ e => ?_
  rcases prn_first hv (c := 34) (r := quoL l ++ [34] ++ [120]) (by rw [e]; rfl) with ⟨-, p | p⟩ | p | p | p | ⟨-, s, rfl, hs⟩
  · exact absurd p (by decide)
  · exact absurd p (by decide)
  · exact absurd p (by decide)
  · exact absurd p (by decide)
  · exact absurd p (by decide)
  · rw [prn_str hs] at e
    have := congrArg List.getLast? e
    rw [List.getLast?_append, quoS, List.getLast?_cons] at this
    simp at this
theorem par_less (l : List UInt8) : parT (34 :: quoL l) = none := by
  refine parT_none fun v hv _ e => ?_
  rcases prn_first hv e with ⟨-, p | p⟩ | p | p | p | ⟨-, s, rfl, hs⟩
  · exact absurd p (by decide)
  · exact absurd p (by decide)
  · exact absurd p (by decide)
  · exact absurd p (by decide)
  · exact absurd p (by decide)
  · rw [prn_str hs, quoS] at e
    have h := (List.cons.inj e).2
    have h1 := endT_quoL l [44]
    rw [← h, List.append_assoc, endT_quoL, List.cons_append, endT_quote, List.nil_append, Bool.not_true, endT_comma, endT_plain (by decide) (by decide) (.inl rfl), endT_nil] at h1
    have h2 := congrArg List.length h
    rw [List.length_append] at h2 h1
    simp at h2 h1
theorem quoS_seen (l : List UInt8) : ∀ d ∈ quoS l, 32 ≤ d.toNat ∧ d.toNat ≤ 126 := by
  intro d hd
  unfold quoS at hd
  rcases List.mem_cons.mp hd with rfl | hd
  · decide
  · rcases List.mem_append.mp hd with hd | hd
    · exact quoL_seen l d hd
    · rw [List.mem_singleton] at hd; rw [hd]; decide

end Go.Proofs.YtjnnmghehoodhaaGreatDoor
