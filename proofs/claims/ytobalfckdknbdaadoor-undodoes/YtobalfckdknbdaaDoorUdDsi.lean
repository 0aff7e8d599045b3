/-
  UndoDoes: what it does within Do.
-/
import Derived.Test.YtobalfckdknbdaaDoorUdDos
namespace Go.Proofs.YtobalfckdknbdaaDoor
open Go.ChangeShapes Go.WideShapes Go.ChangeAt Go.RowKit
set_option linter.unusedVariables false
set_option maxRecDepth 20000
attribute [local go_sem ↓] Go.wp_at_zero Go.wp_at_succ

/-- b-1, b-2 .. 0. -/
def downN : Nat → List Int
  | 0 => []
  | k + 1 => (k : Int) :: downN k
theorem downN_len : ∀ b, (downN b).length = b
  | 0 => rfl
  | k + 1 => by rw [downN, List.length_cons, downN_len k]
theorem downN_at : ∀ (b i : Nat) (h : i < (downN b).length), (downN b)[i] = (b : Int) - 1 - i
  | 0, i, h => absurd h (Nat.not_lt_zero i)
  | k + 1, 0, h => by simp [downN]
  | k + 1, i + 1, h => by
    have e : (downN (k + 1))[i + 1] = (downN k)[i]'(by simpa [downN] using h) := rfl
    rw [e, downN_at k i]
    push_cast
    omega

/-- The log of the law while got is empty. -/
structure DsI (n0 T G : Nat) (l : List Bk) (xs : List Int) (W : World) : Prop where
  log : LogAt T l W
  r : PlR n0 T G l xs (.slice none 0 0) [] W
theorem DsI.up {n0 T G : Nat} {l : List Bk} {xs : List Int} {W W' : World} (h : DsI n0 T G l xs W) (hu : Up W W') : DsI n0 T G l xs W' := ⟨h.log.up hu, h.r.up hu⟩

/-- A step behind the others. -/
theorem DsI.push {n0 T G : Nat} {l : List Bk} {xs : List Int} {W W' : World} {k : Bk} {x : Int} (h : DsI n0 T G l xs W) (hl : LogAt T (k :: l) W') (hc : Chg (fun y => y = T) W W') (hs : Stp G k x W') (hk : k.blk ≠ G ∧ xbOf k ≠ T ∧ xbOf k ≠ G) (hb : k.blk < W'.heap.size ∧ xbOf k < W'.heap.size) : DsI n0 T G (k :: l) (x :: xs) W' := by
  have hr := h.r.turn hc
  refine ⟨hl, by rw [List.length_cons, List.length_cons, hr.len], fun p hp => ?_, hr.cg, hr.fg, hr.og, fun g hg => (by cases hg), ?_, hr.tg, ?_, hr.low⟩
  · rw [List.zip_cons_cons] at hp
    rcases List.mem_cons.1 hp with rfl | hp
    · exact hs
    · exact hr.st p hp
  · intro q hq
    rcases List.mem_cons.1 hq with rfl | hq
    · exact hk
    · exact hr.kg q hq
  · rintro y (e | e | ⟨q, hq, e⟩)
    · exact hr.old y (.inl e)
    · exact hr.old y (.inr (.inl e))
    · rcases List.mem_cons.1 hq with rfl | hq
      · rcases e with e | e
        · rw [e]; exact hb.1
        · rw [e]; exact hb.2
      · exact hr.old y (.inr (.inr ⟨q, hq, e⟩))

theorem DsI.add1 {n0 T G : Nat} {l : List Bk} {xs : List Int} {W : World} (h : DsI n0 T G l xs W) (hn : l.length < 1000) :
    Calls Tryd.prog 6 #[.pointer (some ⟨T, 0, none⟩), .func (.func 7) #[] #[.pointer (some ⟨G, 0, none⟩)]] W fun e W' => e = .returned (.tuple #[]) ∧ Chg (fun y => y = T) W W' ∧ ∃ k, DsI n0 T G (k :: l) (-1 :: xs) W' := by
  have hT := h.log.old.1
  have hG := h.r.old G (.inr (.inl rfl))
  refine (udAdd_calls T l _ _ W h.log (by omega)).mono ?_
  rintro _ W' ⟨rfl, hl, hc, hsz⟩
  refine ⟨rfl, hc, _, h.push hl hc (.inr ⟨rfl, rfl, rfl⟩) ?_ ?_⟩
  · show W.heap.size ≠ G ∧ W.heap.size ≠ T ∧ W.heap.size ≠ G
    omega
  · show W.heap.size < W'.heap.size ∧ W.heap.size < W'.heap.size
    omega

theorem DsI.add2 {n0 T G : Nat} {l : List Bk} {xs : List Int} {W : World} (h : DsI n0 T G l xs W) (x : Int) (t : TypeId) (hn : l.length < 1000) :
    Calls Tryd.prog 6 #[.pointer (some ⟨T, 0, none⟩), .func (.func 10) #[] #[.pointer (some ⟨G, 0, none⟩), .pointer (some ⟨W.heap.size, 0, none⟩)]] (W.alloc (.cells #[.int .i64 x] t)) fun e W' => e = .returned (.tuple #[]) ∧ Chg (fun y => y = T) W W' ∧ ∃ k, W.heap.size ≤ k.blk ∧ W.heap.size ≤ xbOf k ∧ DsI n0 T G (k :: l) (x :: xs) W' := by
  have hu : Up W (W.alloc (.cells #[.int .i64 x] t)) := (Up.refl _).alloc _
  have hx : (W.alloc (.cells #[.int .i64 x] t)).cell? ⟨W.heap.size, 0, none⟩ = some (.int .i64 x) := by go_simp
  have hs : (W.alloc (.cells #[.int .i64 x] t)).heap.size = W.heap.size + 1 := by simp
  have h1 := h.up hu
  have hT := h.log.old.1
  have hG := h.r.old G (.inr (.inl rfl))
  have hnT : W.heap.size ≠ T := by omega
  refine (udAdd_calls T l _ _ _ h1.log (by omega)).mono ?_
  rintro _ W' ⟨rfl, hl, hc, hsz⟩
  have hx' := hc.cell (p := ⟨W.heap.size, 0, none⟩) hx hnT
  refine ⟨rfl, (Chg.of_up hu).trans hc (fun _ _ e => e), _, ?_, Nat.le_refl _, h1.push hl hc (.inl ⟨rfl, rfl, hx'⟩) ?_ ?_⟩
  · show W.heap.size ≤ (W.alloc (.cells #[.int .i64 x] t)).heap.size
    omega
  · show (W.alloc (.cells #[.int .i64 x] t)).heap.size ≠ G ∧ W.heap.size ≠ T ∧ W.heap.size ≠ G
    omega
  · show (W.alloc (.cells #[.int .i64 x] t)).heap.size < W'.heap.size ∧ W.heap.size < W'.heap.size
    omega

/-- What the closure leaves: b steps more. -/
structure DsX (X : World) (n0 T G : Nat) (l : List Bk) (xs : List Int) (i : Nat) (p : List Bk) (W : World) : Prop where
  i' : DsI n0 T G (p ++ l) (downN i ++ xs) W
  len : p.length = i
  new : ∀ k ∈ p, X.heap.size ≤ k.blk ∧ X.heap.size ≤ xbOf k
  chg : Chg (fun y => y = T) X W

theorem bits3 (n : Int) : bits .and .i64 n 3 = n % 4 := by
  have h3 : (BitVec.ofInt 64 3).toNat = 2 ^ 2 - 1 := by decide
  have key : (BitVec.ofInt 64 n &&& BitVec.ofInt 64 3).toNat = (n % ((2 ^ 64 : Nat) : Int)).toNat % 2 ^ 2 := by
    rw [BitVec.toNat_and, BitVec.toNat_ofInt, h3, Nat.and_two_pow_sub_one_eq_mod]
  show IntKind.i64.wrap ((BitVec.ofInt 64 n &&& BitVec.ofInt 64 3).toNat : Nat) = n % 4
  rw [key, IntKind.wrap_i64]
  omega

/-- How the closure ends. -/
def DsEnd (h how : Int) (e : Ending) : Prop := (h = 1 → e = .returned (.iface 31 (.int .i64 70))) ∧ (h = 2 → e = .panicked [{ v := .iface 3 (.int .i64 how), recovered := false }]) ∧ (h ≠ 1 → h ≠ 2 → e = .returned .nilIface)

set_option maxHeartbeats 8000000 in
theorem ds_inner {X : World} {n0 T G bb bl bh : Nat} {l : List Bk} {xs : List Int} (b : Nat) (how hh : Int) (hhe : bits .and .i64 how 3 = hh) (h : DsI n0 T G l xs X) (hb : b ≤ 10) (hl : l.length ≤ 10) (cb : X.cell? ⟨bb, 0, none⟩ = some (.int .i64 b)) (cl : X.cell? ⟨bl, 0, none⟩ = some (.pointer (some ⟨T, 0, none⟩))) (ch : X.cell? ⟨bh, 0, none⟩ = some (.int .i64 how)) (hne : bb ≠ T ∧ bl ≠ T ∧ bh ≠ T) :
    Calls Tryd.prog 9 #[.pointer (some ⟨bb, 0, none⟩), .pointer (some ⟨bl, 0, none⟩), .pointer (some ⟨G, 0, none⟩), .pointer (some ⟨bh, 0, none⟩)] X fun e W' => DsEnd hh how e ∧ ∃ p, DsX X n0 T G l xs b p W' := by
  have hmf : ∀ (fn : Fn) (first cap : Array Value) (w : World), (Instr.makeFunc fn first cap).run Tryd.prog w = .ok (.func fn first cap) w := fun _ _ _ _ => rfl
  have H := hide h
  have HC := hide (⟨cb, cl, ch, hne⟩ : _ ∧ _ ∧ _ ∧ _)
  clear h cb cl ch hne
  go_enter Tryd.func9, Tryd.ntmps9
  go_wp2_with fail
  go_loopw [5] (fun iv wr => ∃ (i : Nat) (p : List Bk), iv = .int .i64 i ∧ i ≤ b ∧ Hid (DsX X n0 T G l xs i p wr)) (fun iv _ => b - (intOf iv).toNat)
  case atStart => exact ⟨0, [], rfl, Nat.zero_le _, hide ⟨H.out, rfl, fun k hk => (by cases hk), Chg.refl _ _⟩⟩
  case round =>
    obtain ⟨i, p, rfl, hi, hx⟩ := hrel
    have cb := hx.out.chg.cell (p := ⟨bb, 0, none⟩) HC.out.1 HC.out.2.2.2.1
    have cl := hx.out.chg.cell (p := ⟨bl, 0, none⟩) HC.out.2.1 HC.out.2.2.2.2.1
    by_cases hlt : i < b
    · have k1 : (i : Int) < (b : Int) := by omega
      have ei : IntKind.i64.wrap ((i : Int) + 1) = (i : Int) + 1 := by rw [IntKind.wrap_i64]; omega
      have hua : Up wr (wr.alloc (.cells #[.int .i64 (i : Int)] 2)) := (Up.refl _).alloc _
      replace cl := hua.cell cl
      have hpl : (p ++ l).length < 1000 := by rw [List.length_append, hx.out.len]; omega
      clear hua
      go_wp2_with fail
      go_at_call 6
      refine (hx.out.i'.add2 (i : Int) _ hpl).mono ?_
      rintro _ w2 ⟨rfl, hc2, k, q1, q2, hi2⟩
      have hX2 : Hid (DsX X n0 T G l xs (i + 1) (k :: p) w2) := by
        have hsz := hx.out.chg.size
        refine hide ⟨hi2, by rw [List.length_cons, hx.out.len], fun q hq => ?_, hx.out.chg.trans hc2 (fun _ _ e => e)⟩
        rcases List.mem_cons.1 hq with rfl | hq
        · omega
        · exact hx.out.new q hq
      clear hx hc2 q1 q2 hi2 hpl
      dsimp only
      go_wp2
      go_roundw
      case rel => exact ⟨i + 1, k :: p, by simp, by omega, hX2⟩
      case measure => simp [intOf]; omega
    · obtain rfl : i = b := by omega
      have k1 : ¬ (i : Int) < (i : Int) := by omega
      have ch := hx.out.chg.cell (p := ⟨bh, 0, none⟩) HC.out.2.2.1 HC.out.2.2.2.2.2
      have HX := hx
      clear hx cl
      by_cases h1 : hh = 1
      · subst h1
        go_wp2
        go_ret
        exact ⟨⟨fun _ => rfl, fun h => (by cases h), fun h => absurd rfl h⟩, p, HX.out⟩
      · by_cases h2 : hh = 2
        · subst h2
          go_wp2
          exact ⟨rfl, ⟨fun h => (by cases h), fun _ => rfl, fun _ h => absurd rfl h⟩, p, HX.out⟩
        · have t1 : (hh == 1) = false := by simpa using h1
          have t2 : (hh == 2) = false := by simpa using h2
          go_wp2
          go_ret
          exact ⟨⟨fun h => absurd h h1, fun h => absurd h h2, fun _ _ => rfl⟩, p, HX.out⟩

/-- What stands at Do. -/
structure DsS (W : World) (n0 T G bb bl bh : Nat) (l : List Bk) (xs : List Int) (b : Nat) (how hh : Int) : Prop where
  hhe : bits .and .i64 how 3 = hh
  i' : DsI n0 T G l xs W
  hb : b ≤ 10
  hl : l.length ≤ 10
  cb : W.cell? ⟨bb, 0, none⟩ = some (.int .i64 b)
  cl : W.cell? ⟨bl, 0, none⟩ = some (.pointer (some ⟨T, 0, none⟩))
  ch : W.cell? ⟨bh, 0, none⟩ = some (.int .i64 how)
  ne : bb ≠ T ∧ bl ≠ T ∧ bh ≠ T
theorem DsS.up {W W' : World} {n0 T G bb bl bh : Nat} {l : List Bk} {xs : List Int} {b : Nat} {how hh : Int} (h : DsS W n0 T G bb bl bh l xs b how hh) (hu : Up W W') : DsS W' n0 T G bb bl bh l xs b how hh :=
  ⟨h.hhe, h.i'.up hu, h.hb, h.hl, hu.cell h.cb, hu.cell h.cl, hu.cell h.ch, h.ne⟩

/-- What the closure left, Do's own variables aside. -/
def DsR (W : World) (n0 T G : Nat) (l : List Bk) (xs : List Int) (b : Nat) (y : World) : Prop := ∃ p, DsI n0 T G (p ++ l) (downN b ++ xs) y ∧ p.length = b ∧ (∀ k ∈ p, W.heap.size + 4 ≤ k.blk ∧ W.heap.size + 4 ≤ xbOf k) ∧ Chg (fun z => z = T) W y ∧ W.heap.size + 4 ≤ y.heap.size
/-- What Back left. -/
def DsQ (W : World) (n0 T G : Nat) (l : List Bk) (xs : List Int) (b : Nat) (y : World) : Prop := ∃ vg, LogAt T l y ∧ PlR n0 T G l xs vg (downN b) y ∧ Chg (fun z => z = T ∨ z = G) W y ∧ ∀ g, vg.ownBlock = some g → W.heap.size + 4 ≤ g

theorem DsS.go {W : World} {n0 T G bb bl bh : Nat} {l : List Bk} {xs : List Int} {b : Nat} {how hh : Int} (h : DsS W n0 T G bb bl bh l xs b how hh) (x : World) (hu : Up W x) (hs : x.heap.size = W.heap.size + 4) :
    Calls Tryd.prog 9 #[.pointer (some ⟨bb, 0, none⟩), .pointer (some ⟨bl, 0, none⟩), .pointer (some ⟨G, 0, none⟩), .pointer (some ⟨bh, 0, none⟩)] x fun e y => DsEnd hh how e ∧ Chg (fun z => z = T) x y ∧ DsR W n0 T G l xs b y := by
  have h1 := h.up hu
  refine (ds_inner b how hh h1.hhe h1.i' h1.hb h1.hl h1.cb h1.cl h1.ch h1.ne).mono ?_
  rintro e y ⟨he, p, hp⟩
  exact ⟨he, hp.chg, p, hp.i', hp.len, fun k hk => by have := hp.new k hk; omega, (Chg.of_up hu).trans hp.chg (fun _ _ e => e), by have := hp.chg.size; omega⟩

theorem DsI.old {W : World} {n0 T G : Nat} {l : List Bk} {xs : List Int} (h : DsI n0 T G l xs W) (z : Nat) (hz : LB T G l z) : ¬ Mid W.heap.size (W.heap.size + 4) z := fun m => by
  have := h.r.old z hz
  have := m.1
  omega

theorem DsS.stable {W : World} {n0 T G bb bl bh : Nat} {l : List Bk} {xs : List Int} {b : Nat} {how hh : Int} (h : DsS W n0 T G bb bl bh l xs b how hh) (x y : World) (hx : DsR W n0 T G l xs b x) (hc : Chg (Mid W.heap.size (W.heap.size + 4)) x y) : DsR W n0 T G l xs b y := by
  obtain ⟨p, h1, h2, h3, h4, h5⟩ := hx
  have old := h.i'.old
  have side : ∀ k ∈ p ++ l, ¬ Mid W.heap.size (W.heap.size + 4) k.blk ∧ ¬ Mid W.heap.size (W.heap.size + 4) (xbOf k) := by
    intro k hk
    rcases List.mem_append.1 hk with hk | hk
    · have := h3 k hk
      exact ⟨fun m => by have := m.2; omega, fun m => by have := m.2; omega⟩
    · exact ⟨old _ (.inr (.inr ⟨k, hk, .inl rfl⟩)), old _ (.inr (.inr ⟨k, hk, .inr rfl⟩))⟩
  exact ⟨p, ⟨h1.log.chg hc (old _ (.inl rfl)) (fun k hk => (side k hk).1), h1.r.chg hc (old _ (.inr (.inl rfl))) (fun k hk => (side k hk).2) (fun g hg => (by cases hg))⟩, h2, h3, h4.trans hc (fun z hz m => absurd m (fun m => by have := m.1; omega)), Nat.le_trans h5 hc.size⟩

/-- Back behind it. -/
theorem DsS.backs {W : World} {n0 T G bb bl bh : Nat} {l : List Bk} {xs : List Int} {b : Nat} {how hh : Int} (h : DsS W n0 T G bb bl bh l xs b how hh) (y : World) (hy : DsR W n0 T G l xs b y) :
    Calls Tryd.prog 16 #[.pointer (some ⟨T, 0, none⟩), .int .i64 l.length] y fun e y' => e = .returned (.bool true) ∧ Chg (fun z => z = T ∨ z = G) y y' ∧ DsQ W n0 T G l xs b y' := by
  obtain ⟨p, h1, h2, h3, h4, h5⟩ := hy
  have hb := h.hb
  have hl := h.hl
  refine (pl_back h1.log h1.r l.length (by rw [List.length_append]; omega) (by rw [List.length_append, h2]; simp; omega)).mono ?_
  rintro _ y' ⟨rfl, q1, vg, q2, q3, q4⟩
  have e : (p ++ l).length - l.length = p.length := by rw [List.length_append]; omega
  have e2 : p.length = (downN b).length := by rw [h2, downN_len]
  rw [e, List.drop_left] at q1 q2
  rw [e2, List.drop_left, List.take_left, List.nil_append] at q2
  have q3' : Chg (fun z => z = T ∨ z = G) y y' := q3.mono (fun z hz e => by
    rcases e with e | e | e
    · exact .inl e
    · exact .inr e
    · cases e)
  refine ⟨rfl, q3', vg, q1, q2, (h4.mono (fun _ _ e => Or.inl e)).trans q3' (fun _ _ e => e), fun g hg => ?_⟩
  rcases q4 with q4 | ⟨n, q5, q6⟩
  · rw [q4] at hg; cases hg
  · rw [q6] at hg; cases hg; omega

theorem DsS.oldT {W : World} {n0 T G bb bl bh : Nat} {l : List Bk} {xs : List Int} {b : Nat} {how hh : Int} (h : DsS W n0 T G bb bl bh l xs b how hh) (z : Nat) (e : z = T) : ¬ Mid W.heap.size (W.heap.size + 4) z := h.i'.old z (.inl e)
theorem DsS.oldG {W : World} {n0 T G bb bl bh : Nat} {l : List Bk} {xs : List Int} {b : Nat} {how hh : Int} (h : DsS W n0 T G bb bl bh l xs b how hh) (z : Nat) (e : z = T ∨ z = G) : ¬ Mid W.heap.size (W.heap.size + 4) z := h.i'.old z (e.elim .inl (fun e => .inr (.inl e)))

theorem DsS.ok {W : World} {n0 T G bb bl bh : Nat} {l : List Bk} {xs : List Int} {b : Nat} {how hh : Int} (h : DsS W n0 T G bb bl bh l xs b how hh) (h1 : hh ≠ 1) (h2 : hh ≠ 2) :
    Calls Tryd.prog 18 #[.pointer (some ⟨T, 0, none⟩), .func (.func 9) #[] #[.pointer (some ⟨bb, 0, none⟩), .pointer (some ⟨bl, 0, none⟩), .pointer (some ⟨G, 0, none⟩), .pointer (some ⟨bh, 0, none⟩)]] W fun e y => e = .returned .nilIface ∧ DsR W n0 T G l xs b y :=
  do_ok T l _ _ (fun z => z = T) _ W h.i'.log (fun _ => rfl) (fun x hu hs => (h.go x hu hs).mono (fun e y q => ⟨q.1.2.2 h1 h2, q.2⟩)) h.oldT h.stable
theorem DsS.err {W : World} {n0 T G bb bl bh : Nat} {l : List Bk} {xs : List Int} {b : Nat} {how hh : Int} (h : DsS W n0 T G bb bl bh l xs b how hh) (h1 : hh = 1) :
    Calls Tryd.prog 18 #[.pointer (some ⟨T, 0, none⟩), .func (.func 9) #[] #[.pointer (some ⟨bb, 0, none⟩), .pointer (some ⟨bl, 0, none⟩), .pointer (some ⟨G, 0, none⟩), .pointer (some ⟨bh, 0, none⟩)]] W fun e y => e = .returned (.iface 31 (.int .i64 70)) ∧ DsQ W n0 T G l xs b y :=
  do_err T l _ _ _ _ (fun z => z = T) (fun z => z = T ∨ z = G) _ _ W h.i'.log (fun _ => rfl) (fun x hu hs => (h.go x hu hs).mono (fun e y q => ⟨q.1.1 h1, q.2⟩)) h.oldT h.stable h.oldG h.backs
theorem DsS.pan {W : World} {n0 T G bb bl bh : Nat} {l : List Bk} {xs : List Int} {b : Nat} {how hh : Int} (h : DsS W n0 T G bb bl bh l xs b how hh) (h2 : hh = 2) :
    Calls Tryd.prog 18 #[.pointer (some ⟨T, 0, none⟩), .func (.func 9) #[] #[.pointer (some ⟨bb, 0, none⟩), .pointer (some ⟨bl, 0, none⟩), .pointer (some ⟨G, 0, none⟩), .pointer (some ⟨bh, 0, none⟩)]] W fun e y => e = .panicked [{ v := .iface 3 (.int .i64 how), recovered := false }] ∧ DsQ W n0 T G l xs b y :=
  do_pan T l _ _ _ (fun z => z = T) (fun z => z = T ∨ z = G) _ _ W h.i'.log (fun _ => rfl) (fun x hu hs => (h.go x hu hs).mono (fun e y q => ⟨q.1.2.1 h2, q.2⟩)) h.oldT h.stable h.oldG ⟨_, rfl⟩ h.backs

/-- What does leaves behind where all went well. -/
def DsF (W : World) (n0 T G : Nat) (l : List Bk) (xs : List Int) (b : Nat) (y : World) : Prop := ∃ p, DsI n0 T G (p ++ l) (downN b ++ xs) y ∧ p.length = b ∧ (∀ k ∈ p, W.heap.size < k.blk ∧ W.heap.size < xbOf k) ∧ Chg (fun z => z = T) W y
/-- The same where it did not. -/
def DsG (W : World) (n0 T G : Nat) (l : List Bk) (xs : List Int) (b : Nat) (y : World) : Prop := ∃ vg, LogAt T l y ∧ PlR n0 T G l xs vg (downN b) y ∧ Chg (fun z => z = T ∨ z = G) W y ∧ ∀ g, vg.ownBlock = some g → W.heap.size < g

theorem DsS.doesF {W : World} {n0 T G bb bl bh : Nat} {l : List Bk} {xs : List Int} {b : Nat} {how hh : Int} (h : DsS W n0 T G bb bl bh l xs b how hh) (x y : World) (hx : DsF W n0 T G l xs b x) (hc : Chg (fun z => z = W.heap.size) x y) : DsF W n0 T G l xs b y := by
  obtain ⟨p, h1, h2, h3, h4⟩ := hx
  have side : ∀ k ∈ p ++ l, k.blk ≠ W.heap.size ∧ xbOf k ≠ W.heap.size := by
    intro k hk
    rcases List.mem_append.1 hk with hk | hk
    · have := h3 k hk; omega
    · have a := h.i'.r.old _ (.inr (.inr ⟨k, hk, .inl rfl⟩)); have b := h.i'.r.old _ (.inr (.inr ⟨k, hk, .inr rfl⟩)); omega
  have hT := h.i'.r.old T (.inl rfl)
  have hG := h.i'.r.old G (.inr (.inl rfl))
  exact ⟨p, ⟨h1.log.chg hc (by omega) (fun k hk => (side k hk).1), h1.r.chg hc (by omega) (fun k hk => (side k hk).2) (fun g hg => (by cases hg))⟩, h2, h3, h4.trans hc (fun z hz m => by omega)⟩
theorem DsS.doesG {W : World} {n0 T G bb bl bh : Nat} {l : List Bk} {xs : List Int} {b : Nat} {how hh : Int} (h : DsS W n0 T G bb bl bh l xs b how hh) (x y : World) (hx : DsG W n0 T G l xs b x) (hc : Chg (fun z => z = W.heap.size) x y) : DsG W n0 T G l xs b y := by
  obtain ⟨vg, h1, h2, h3, h4⟩ := hx
  have side : ∀ k ∈ l, k.blk ≠ W.heap.size ∧ xbOf k ≠ W.heap.size := by
    intro k hk
    have a := h.i'.r.old _ (.inr (.inr ⟨k, hk, .inl rfl⟩)); have b := h.i'.r.old _ (.inr (.inr ⟨k, hk, .inr rfl⟩)); omega
  have hT := h.i'.r.old T (.inl rfl)
  have hG := h.i'.r.old G (.inr (.inl rfl))
  exact ⟨vg, h1.chg hc (by omega) (fun k hk => (side k hk).1), h2.chg hc (by omega) (fun k hk => (side k hk).2) (fun g hg e => by have := h4 g hg; omega), h3.trans hc (fun z hz m => by omega), h4⟩

theorem ds_keep {W x y : World} {n0 T G bb bl bh : Nat} {l : List Bk} {xs : List Int} {b : Nat} {how hh : Int} (h : DsS W n0 T G bb bl bh l xs b how hh) (hs : x.heap.size = W.heap.size + 1) (hc : Chg (fun z => z = T ∨ z = G) x y) (h1 : x.cell? ⟨W.heap.size, 0, none⟩ = some (.int .i64 0)) (h2 : x.frozen? ⟨W.heap.size, 0, none⟩ = false) : y.cell? ⟨W.heap.size, 0, none⟩ = some (.int .i64 0) ∧ y.frozen? ⟨W.heap.size, 0, none⟩ = false := by
  have hT := h.i'.r.old T (.inl rfl)
  have hG := h.i'.r.old G (.inr (.inl rfl))
  have hn : ¬ (W.heap.size = T ∨ W.heap.size = G) := by omega
  exact ⟨hc.cell (p := ⟨W.heap.size, 0, none⟩) h1 hn, (hc.frozen (p := ⟨W.heap.size, 0, none⟩) (by show W.heap.size < x.heap.size; omega) hn).trans h2⟩

theorem DsS.does_ok {W : World} {n0 T G bb bl bh : Nat} {l : List Bk} {xs : List Int} {b : Nat} {how hh : Int} (h : DsS W n0 T G bb bl bh l xs b how hh) (h1 : hh ≠ 1) (h2 : hh ≠ 2) :
    Calls Tryd.prog 8 #[.pointer (some ⟨T, 0, none⟩), .func (.func 9) #[] #[.pointer (some ⟨bb, 0, none⟩), .pointer (some ⟨bl, 0, none⟩), .pointer (some ⟨G, 0, none⟩), .pointer (some ⟨bh, 0, none⟩)]] W fun e y => e = .returned (.tuple #[.nilIface, .int .i64 0]) ∧ DsF W n0 T G l xs b y := by
  refine does_ret T _ _ (.inl rfl) _ W (fun x hu hs => ((h.up hu).ok h1 h2).mono ?_) h.doesF
  rintro _ y ⟨rfl, p, q1, q2, q3, q4, q5⟩
  exact ⟨rfl, ⟨p, q1, q2, fun k hk => by have := q3 k hk; omega, (Chg.of_up hu).trans q4 (fun _ _ e => e)⟩, ds_keep h hs (q4.mono (fun _ _ e => Or.inl e))⟩
theorem DsS.does_err {W : World} {n0 T G bb bl bh : Nat} {l : List Bk} {xs : List Int} {b : Nat} {how hh : Int} (h : DsS W n0 T G bb bl bh l xs b how hh) (h1 : hh = 1) :
    Calls Tryd.prog 8 #[.pointer (some ⟨T, 0, none⟩), .func (.func 9) #[] #[.pointer (some ⟨bb, 0, none⟩), .pointer (some ⟨bl, 0, none⟩), .pointer (some ⟨G, 0, none⟩), .pointer (some ⟨bh, 0, none⟩)]] W fun e y => e = .returned (.tuple #[.iface 31 (.int .i64 70), .int .i64 0]) ∧ DsG W n0 T G l xs b y := by
  refine does_ret T _ _ (.inr ⟨_, _, rfl⟩) _ W (fun x hu hs => ((h.up hu).err h1).mono ?_) h.doesG
  rintro _ y ⟨rfl, vg, q1, q2, q3, q4⟩
  exact ⟨rfl, ⟨vg, q1, q2, (Chg.of_up hu).trans q3 (fun _ _ e => e), fun g hg => by have := q4 g hg; omega⟩, ds_keep h hs q3⟩
theorem DsS.does_pan {W : World} {n0 T G bb bl bh : Nat} {l : List Bk} {xs : List Int} {b : Nat} {how hh : Int} (h : DsS W n0 T G bb bl bh l xs b how hh) (h2 : hh = 2) :
    Calls Tryd.prog 8 #[.pointer (some ⟨T, 0, none⟩), .func (.func 9) #[] #[.pointer (some ⟨bb, 0, none⟩), .pointer (some ⟨bl, 0, none⟩), .pointer (some ⟨G, 0, none⟩), .pointer (some ⟨bh, 0, none⟩)]] W fun e y => e = .returned (.tuple #[.nilIface, .int .i64 how]) ∧ DsG W n0 T G l xs b y := by
  refine Go.Proofs.YtobalfckdknbdaaDoor.does_pan T _ how _ W (fun x hu hs => ((h.up hu).pan h2).mono ?_) h.doesG
  rintro _ y ⟨rfl, vg, q1, q2, q3, q4⟩
  exact ⟨rfl, ⟨vg, q1, q2, (Chg.of_up hu).trans q3 (fun _ _ e => e), fun g hg => by have := q4 g hg; omega⟩, ds_keep h hs q3⟩

end Go.Proofs.YtobalfckdknbdaaDoor
