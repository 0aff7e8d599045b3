/-
  Bytes of values stand as the values do: plain facts, no function of the program (CodeMath has the same beside what reads them: never import both).
-/
import Derived.Test.YtofpakpbbpcalaaCodePutL
import Derived.Test.YtofpakpbbpcalaaNewVals
namespace Go.Proofs.Ytofpakpbbpcalaa
open Go.RowKit Go.Lib

/-- A number out of its bytes. -/
def numL (l : List UInt8) : Nat := l.foldl (fun n c => n * 256 + c.toNat) 0

theorem numL_lt (l : List UInt8) : numL l < 256 ^ l.length := by
  have key : ∀ (l : List UInt8) (x d : Nat), x < d → l.foldl (fun n c => n * 256 + c.toNat) x < d * 256 ^ l.length := by
    intro l
    induction l with
    | nil => intro x d h; simpa using h
    | cons c l ih =>
      intro x d h
      rw [List.foldl_cons, List.length_cons, Nat.pow_succ]
      have := ih (x * 256 + c.toNat) (d * 256) (by have := c.toNat_lt; omega)
      rw [Nat.mul_assoc] at this
      rw [Nat.mul_comm (256 ^ l.length) 256]
      exact this
  have := key l 0 1 (by omega)
  simpa [numL] using this


theorem byteOf_toNat (x d : Nat) : (byteOf x d).toNat = x / d % 256 := by
  unfold byteOf
  rw [UInt8.toNat_ofNat']
theorem div_step (x d : Nat) : x / d = x / (d * 256) * 256 + x / d % 256 := by
  have := Nat.div_add_mod (x / d) 256
  rw [Nat.div_div_eq_div_mul] at this
  omega
theorem numL_wordL (x : Nat) (h : x < whole) : numL (wordL x) = x := by
  have s0 := div_step x 1
  have s1 := div_step x 256
  have s2 := div_step x 65536
  have s3 := div_step x 16777216
  have s4 := div_step x 4294967296
  have s5 := div_step x 1099511627776
  have s6 := div_step x 281474976710656
  have s7 := div_step x 72057594037927936
  have s8 : x / (72057594037927936 * 256) = 0 := Nat.div_eq_of_lt (by simpa [whole] using h)
  simp only [Nat.reduceMul, Nat.div_one] at s0 s1 s2 s3 s4 s5 s6 s7 s8
  simp only [numL, wordL, List.foldl_cons, List.foldl_nil, byteOf_toNat, Nat.div_one]
  omega

theorem numL_from : ∀ (l : List UInt8) (x : Nat), l.foldl (fun n c => n * 256 + c.toNat) x = x * 256 ^ l.length + numL l := by
  intro l
  induction l with
  | nil => intro x; simp [numL]
  | cons c l ih =>
    intro x
    have e : numL (c :: l) = c.toNat * 256 ^ l.length + numL l := by
      show l.foldl (fun n c => n * 256 + c.toNat) (0 * 256 + c.toNat) = _
      rw [ih]; simp
    rw [List.foldl_cons, ih, e, List.length_cons, Nat.pow_succ, Nat.add_mul, Nat.mul_assoc, Nat.mul_comm 256 (256 ^ l.length)]
    omega
theorem numL_cons (c : UInt8) (l : List UInt8) : numL (c :: l) = c.toNat * 256 ^ l.length + numL l := by
  show l.foldl (fun n c => n * 256 + c.toNat) (0 * 256 + c.toNat) = _
  rw [numL_from]; simp

/-- Numbers' bytes stand as they do. -/
theorem numL_less : ∀ (a b r q : List UInt8), a.length = b.length → numL a < numL b → compareBytes (a ++ r) (b ++ q) = -1 := by
  intro a
  induction a with
  | nil =>
    intro b r q hl h
    obtain rfl : b = [] := List.length_eq_zero_iff.1 (by simpa using hl.symm)
    simp at h
  | cons c a ih =>
    intro b r q hl h
    cases b with
    | nil => simp at hl
    | cons d b =>
      have hl2 : a.length = b.length := by simpa using hl
      rw [numL_cons, numL_cons, hl2] at h
      have hb := numL_lt b
      have ha := numL_lt a
      rw [hl2] at ha
      show compareBytes (c :: (a ++ r)) (d :: (b ++ q)) = -1
      unfold compareBytes
      by_cases h1 : c < d
      · rw [if_pos h1]
      · by_cases h2 : d < c
        · exfalso
          have h3 : d.toNat + 1 ≤ c.toNat := UInt8.lt_iff_toNat_lt.1 h2
          have h4 := Nat.mul_le_mul_right (256 ^ b.length) h3
          rw [Nat.add_mul, Nat.one_mul] at h4
          omega
        · rw [if_neg h1, if_neg h2]
          have e : c = d := UInt8.le_antisymm (UInt8.not_lt.1 h2) (UInt8.not_lt.1 h1)
          subst e
          exact ih b r q hl2 (by omega)

theorem wordL_less {x y : Nat} (hx : x < whole) (hy : y < whole) (h : x < y) (r q : List UInt8) : compareBytes (wordL x ++ r) (wordL y ++ q) = -1 :=
  numL_less _ _ r q (by simp [wordL]) (by rw [numL_wordL x hx, numL_wordL y hy]; exact h)

theorem compareBytes_same (c : UInt8) (a b : List UInt8) : compareBytes (c :: a) (c :: b) = compareBytes a b := by
  conv => lhs; unfold compareBytes
  rw [if_neg (UInt8.lt_irrefl c), if_neg (UInt8.lt_irrefl c)]
theorem cmpB_self (a : List UInt8) : compareBytes a a = 0 := by
  rcases cmpB_cases a a with ⟨y, y'⟩ | ⟨y, _⟩ | ⟨y, y'⟩ <;> omega
theorem compareBytes_less {c d : UInt8} (h : c < d) (a b : List UInt8) : compareBytes (c :: a) (d :: b) = -1 := by
  unfold compareBytes
  rw [if_pos h]
theorem compareBytes_ahead (p a b : List UInt8) : compareBytes (p ++ a) (p ++ b) = compareBytes a b := by
  induction p with
  | nil => rfl
  | cons c p ih => rw [List.cons_append, List.cons_append, compareBytes_same, ih]

theorem pos_of_ne {c : UInt8} (h : ¬ c = 0) : 0 < c := by
  refine UInt8.lt_iff_toNat_lt.2 (Nat.pos_of_ne_zero fun e => h (UInt8.toNat_inj.1 (by simpa using e)))

/-- Texts' bytes stand as they do. -/
theorem escL_less : ∀ (s t r q : List UInt8), compareBytes s t = -1 → compareBytes (escL s ++ 0 :: 1 :: r) (escL t ++ 0 :: 1 :: q) = -1 := by
  intro s
  induction s with
  | nil =>
    intro t r q h
    cases t with
    | nil => simp [compareBytes] at h
    | cons d t =>
      by_cases hd : d = 0
      · simp only [escL, hd, if_true, List.nil_append, List.cons_append]
        rw [compareBytes_same]
        exact compareBytes_less (by decide) _ _
      · simp only [escL, hd, if_false, List.nil_append, List.cons_append]
        exact compareBytes_less (pos_of_ne hd) _ _
  | cons c s ih =>
    intro t r q h
    cases t with
    | nil => simp [compareBytes] at h
    | cons d t =>
      by_cases h1 : c < d
      · have hd : ¬ d = 0 := by
          rintro rfl
          have := UInt8.lt_iff_toNat_lt.1 h1
          simp at this
        by_cases hc : c = 0
        · simp only [escL, hc, hd, if_true, if_false, List.cons_append]
          exact compareBytes_less (pos_of_ne hd) _ _
        · simp only [escL, hc, hd, if_false, List.cons_append]
          exact compareBytes_less h1 _ _
      · by_cases h2 : d < c
        · unfold compareBytes at h
          rw [if_neg h1, if_pos h2] at h
          omega
        · have e : c = d := UInt8.le_antisymm (UInt8.not_lt.1 h2) (UInt8.not_lt.1 h1)
          subst e
          rw [compareBytes_same] at h
          have := ih t r q h
          by_cases hc : c = 0
          · simp only [escL, hc, if_true, List.cons_append]
            rw [compareBytes_same, compareBytes_same]
            exact this
          · simp only [escL, hc, if_false, List.cons_append]
            rw [compareBytes_same]
            exact this

theorem ordN_bool {n m : Int} (hn : n = 0 ∨ n = 1) (hm : m = 0 ∨ m = 1) (h : n < m) : UInt8.ofNat n.toNat < UInt8.ofNat m.toNat := by
  obtain rfl : n = 0 := by omega
  obtain rfl : m = 1 := by omega
  decide
theorem kind_byte {k m : Int} (hk : 1 ≤ k ∧ k ≤ 5) (hm : 1 ≤ m ∧ m ≤ 5) (h : k < m) : UInt8.ofNat k.toNat < UInt8.ofNat m.toNat := by
  have e1 : k = 1 ∨ k = 2 ∨ k = 3 ∨ k = 4 ∨ k = 5 := by omega
  have e2 : m = 1 ∨ m = 2 ∨ m = 3 ∨ m = 4 ∨ m = 5 := by omega
  rcases e1 with rfl | rfl | rfl | rfl | rfl <;> rcases e2 with rfl | rfl | rfl | rfl | rfl <;> first | omega | decide
theorem isB_kind {k n : Int} {s : ByteArray} {f : Nat} (h : isB (k, n, s, f) = true) : 1 ≤ k ∧ k ≤ 5 := by
  rcases isB_cases h with ⟨rfl, _⟩ | ⟨rfl, _⟩ | ⟨rfl | rfl, _⟩ | ⟨rfl, _⟩ <;> omega
theorem upI_lt {n : Int} (h : IntKind.i64.min ≤ n ∧ n ≤ IntKind.i64.max) : upI n < whole := by
  have h1 : IntKind.i64.min = -9223372036854775808 := by decide
  have h2 : IntKind.i64.max = 9223372036854775807 := by decide
  rw [h1, h2] at h
  unfold upI whole
  omega
theorem empty_eq {s t : ByteArray} (hs : s.toList.isEmpty = true) (ht : t.toList.isEmpty = true) : s = t := by
  have e : s.toList = t.toList := by
    rw [List.isEmpty_iff] at hs ht
    rw [hs, ht]
  rw [toList_data, toList_data] at e
  have := Array.toList_inj.1 e
  cases s; cases t; simp_all
theorem empty_bytes {s : ByteArray} (hs : s.toList.isEmpty = true) : s = ⟨#[]⟩ := empty_eq hs (by rw [toList_data]; rfl)

/-- A value that is ahead has bytes that are. -/
theorem putV_less (u v : VT) (hu : isB u = true) (hv : isB v = true) (fu : Fits u) (fv : Fits v) (h : cmpV u v = -1) (r q : List UInt8) : compareBytes (putV u ++ r) (putV v ++ q) = -1 := by
  obtain ⟨k, n, s, f⟩ := u
  obtain ⟨k', n', s', f'⟩ := v
  have h1 : IntKind.i64.min = -9223372036854775808 := by decide
  have h2 : IntKind.i64.max = 9223372036854775807 := by decide
  unfold putV
  rw [List.cons_append, List.cons_append]
  rcases cmpV_neg.1 h with h | ⟨h, hrest⟩
  · exact compareBytes_less (kind_byte (isB_kind hu) (isB_kind hv) h) _ _
  · simp only at h hrest
    subst h
    rw [compareBytes_same]
    have fu1 : IntKind.i64.min ≤ n ∧ n ≤ IntKind.i64.max := ⟨fu.2.2.1, fu.2.2.2.1⟩
    have fv1 : IntKind.i64.min ≤ n' ∧ n' ≤ IntKind.i64.max := ⟨fv.2.2.1, fv.2.2.2.1⟩
    have ff : f < whole := fu.2.2.2.2.2
    have ff' : f' < whole := fv.2.2.2.2.2
    rcases isB_cases hu with ⟨rfl, es, rfl⟩ | ⟨rfl, hn, es, rfl⟩ | ⟨hk, rfl, hs, rfl⟩ | ⟨rfl, rfl, es⟩
    · rcases isB_cases hv with ⟨_, es', rfl⟩ | ⟨hx, _⟩ | ⟨hx, _⟩ | ⟨hx, _⟩
      · obtain rfl := empty_eq es es'
        rcases hrest with hh | ⟨_, hh | ⟨_, hh⟩⟩
        · simp only [bodyV, if_true]
          refine wordL_less (upI_lt fu1) (upI_lt fv1) ?_ r q
          rw [h1, h2] at fu1 fv1
          unfold upI; omega
        · rw [cmpS_self] at hh; omega
        · omega
      · omega
      · omega
      · omega
    · rcases isB_cases hv with ⟨hx, _⟩ | ⟨_, hn', es', rfl⟩ | ⟨hx, _⟩ | ⟨hx, _⟩
      · omega
      · obtain rfl := empty_eq es es'
        rcases hrest with hh | ⟨_, hh | ⟨_, hh⟩⟩
        · exact compareBytes_less (ordN_bool hn hn' hh) _ _
        · rw [cmpS_self] at hh; omega
        · omega
      · omega
      · omega
    · rcases isB_cases hv with ⟨hx, _⟩ | ⟨hx, _⟩ | ⟨_, rfl, hs', rfl⟩ | ⟨hx, _⟩
      · omega
      · omega
      · rcases hrest with hh | ⟨_, hh | ⟨_, hh⟩⟩
        · omega
        · have e : ∀ (t : ByteArray), bodyV (k, 0, t, 0) = escL t.data.toList ++ [0, 1] := by
            intro t
            rcases hk with rfl | rfl <;> rfl
          rw [e, e, List.append_assoc, List.append_assoc]
          exact escL_less _ _ r q hh
        · omega
      · omega
    · rcases isB_cases hv with ⟨hx, _⟩ | ⟨hx, _⟩ | ⟨hx, _⟩ | ⟨_, rfl, es'⟩
      · omega
      · omega
      · omega
      · obtain rfl := empty_eq es es'
        rcases hrest with hh | ⟨_, hh | ⟨_, hh⟩⟩
        · omega
        · rw [cmpS_self] at hh; omega
        · exact wordL_less (ordN_lt ff) (ordN_lt ff') hh r q

/-- Of rows of one length the bytes stand as the rows do. -/
theorem putL_order : ∀ (a b : List VT), a.length = b.length → (∀ i, Fits (a.getD i zeroT)) → (∀ i, Fits (b.getD i zeroT)) → a.all isB = true → b.all isB = true → compareBytes (putL a) (putL b) = rowsV a b := by
  intro a
  induction a with
  | nil =>
    intro b hl _ _ _ _
    obtain rfl : b = [] := List.length_eq_zero_iff.1 (by simpa using hl.symm)
    rfl
  | cons u a ih =>
    intro b hl fa fb ga gb
    cases b with
    | nil => simp at hl
    | cons v b =>
      have fu := fa 0
      have fv := fb 0
      simp only [List.getD_cons_zero] at fu fv
      simp only [List.all_cons, Bool.and_eq_true] at ga gb
      have step := ih b (by simpa using hl) (fun i => by simpa using fa (i + 1)) (fun i => by simpa using fb (i + 1)) ga.2 gb.2
      show compareBytes (putV u ++ putL a) (putV v ++ putL b) = if cmpV u v = 0 then rowsV a b else cmpV u v
      rcases cmpV_cases u v with ⟨h, _⟩ | ⟨h, _⟩ | ⟨h, h'⟩
      · rw [if_neg (by omega), h]
        exact putV_less u v ga.1 gb.1 fu fv h _ _
      · rw [if_pos h, cmpV_same fu fv h, compareBytes_ahead, step]
      · rw [if_neg (by omega), h]
        have := putV_less v u gb.1 ga.1 fv fu h' (putL b) (putL a)
        rcases cmpB_cases (putV u ++ putL a) (putV v ++ putL b) with ⟨_, x⟩ | ⟨_, x⟩ | ⟨x, _⟩
        · omega
        · rw [x] at this
          have : compareBytes (putV v ++ putL b) (putV v ++ putL b) = 0 := by
            rcases cmpB_cases (putV v ++ putL b) (putV v ++ putL b) with ⟨y, y'⟩ | ⟨y, _⟩ | ⟨y, y'⟩ <;> omega
          omega
        · exact x

end Go.Proofs.Ytofpakpbbpcalaa
