/-
  What strconv.unquote and strconv.Unquote answer at a string that opens with a quote.
-/
import Derived.Test.YtjnnmghehoodhaaGreatDoorTextUqL
namespace Go.Proofs.YtjnnmghehoodhaaGreatDoor
open Go.ChangeShapes Go.WideShapes Go.ChangeAt Go.RowKit
attribute [local go_sem ↓] Go.wp_at_zero Go.wp_at_succ
set_option linter.unusedVariables false
set_option maxRecDepth 100000

def strLen (v : Value) : Nat := match v with
  | .string T => T.size
  | _ => 0
/-- What unquote is asked for. -/
def UqPost (s : ByteArray) (w : World) (e : Ending) (w' : World) : Prop :=
  Up w w' ∧ ∃ (out rem : ByteArray) (err : Value), e = .returned (.tuple #[.string out, .string rem, err]) ∧ ErrV err ∧ out.size ≤ 4000000 ∧ (∀ l, s.data.toList = quoS l → out.data.toList = l ∧ rem.size = 0 ∧ err = .nilIface)

/-- make of a row of bytes. -/
theorem make_bytes {w : World} {ops : Array Oper} {rest : List Oper} {o : Oper} {a : Act} {Q : Exit → Act → World → Prop} (hgd : o.guard = none) (x y : Operand) (ho : o.op = Op.makeSlice 42 x y) (base : Nat)
    (C : Int) (n : Nat) (hx : a.eval x = .int .i64 0) (hy : a.eval y = .int .i64 C) (hC : C = (n : Int)) (hn : n ≤ 1000000000) (hb : base ≤ w.heap.size)
    (h : ∀ v' w', Own w' base v' [] → Up w w' → wpList Tryz.prog ops Q rest (a.put o.dst v') w') : wpList Tryz.prog ops Q (o :: rest) a w := by
  obtain ⟨i0, hi, hz0, hz1, hz2⟩ := info_parts info_byte
  refine wpList_make_own w hgd x y 42 ho base 5 i0 (.int .u8 0) 1 Tryz.underlying42 hi hz0 hz1 .i64 .i64 C n hx hy hC (by rw [hz2]; omega) (by unfold maxLen; omega) hb fun w' h1 h2 => h _ w' h1 ?_
  exact Below.grown (Below.refl _ _) h2 (Nat.le_refl _) (fun k hk => by cases hk)

set_option maxHeartbeats 16000000 in
theorem uq_slowA (s : ByteArray) (k : Nat) (h2 : 1 < s.size) (hm : s.size ≤ 1000000) (h0 : s[0] = 34) (hk : Go.Lib.indexByte (s.extract 1 s.size).data.toList 34 = (k : Int)) (hkn : k + 2 ≤ s.size) (hb : Go.Lib.indexByte (s.extract 0 (k + 2)).data.toList 92 ≠ -1) (w : World) (hT : Tabs w) :
    Calls Tryz.prog 64 #[.string s, .bool true] w fun e w' => UqPost s w e w' := by
  have q1 : (1 : Int) < (s.size : Int) := by omega
  have q2 : (1 : Int) ≤ (s.size : Int) := by omega
  have q3 : (k : Int) + 2 ≤ (s.size : Int) := by omega
  have hI := fun W => sindex_calls (s.extract 1 s.size) 34 W
  rw [hk] at hI
  have HT := hide hT
  clear hT hk
  go_enter Tryz.func64, Tryz.ntmps64
  go_wp2_with fail
  go_at_call 80
  refine (hI _).mono ?_
  rintro _ w0 ⟨rfl, hw0⟩
  obtain rfl : w = w0 := hw0.symm
  clear hI
  have hcB := fun W => scontains_calls (s.extract 0 (k + 2)) 92 92 rfl W
  rw [show (Go.Lib.indexByte (s.extract 0 (k + 2)).data.toList 92 != -1) = true from bne_iff_ne.2 hb] at hcB
  clear hb
  go_wp2_with fail
  go_at_call 81
  refine (hcB _).mono ?_
  rintro _ w0 ⟨rfl, hw0⟩
  obtain rfl : w = w0 := hw0.symm
  clear hcB
  · have HU1 : Hid (Up w w) := Up.refl w
    have hbase := HU1.out.size
    have HLs : Hid (∀ l, s.data.toList = quoS l → LeftT l [] (s.extract 1 s.size)) := fun l hl => LeftT.start hl
    have hT1 := hide (ext_size s 1)
    go_wp2_with (at_make; refine make_bytes rfl _ _ rfl w.heap.size _ ((3 * (k + 2)) / 2) rfl rfl (by omega) (by omega) hbase ?_)
    intro b2 w2 ho2 hu2
    have HU2 := hide (HU1.out.trans hu2)
    have HO2 := hide ho2
    clear hu2 ho2 HU1 hbase
    go_wp2_with fail
    go_loopw [0, 14] (fun v b wr => ∃ (T : ByteArray) (d : List UInt8), v = .string T ∧ T.size < s.size ∧ d.length + 4 * T.size ≤ 4 * s.size ∧ Hid (Own wr w.heap.size b d ∧ Up w wr ∧ ∀ l, s.data.toList = quoS l → LeftT l d T)) (fun v _ _ => strLen v)
    case atStart => exact ⟨s.extract 1 s.size, [], rfl, by have := hT1.out; omega, by have := hT1.out; simp only [List.length_nil]; omega, HO2.out, HU2.out, HLs.out⟩
    case round =>
      obtain ⟨T, d, rfl, hTs, hTd, HH⟩ := hrel
      clear HO2 HU2 HLs hT1
      have HT2 := hide (HT.out.up HH.out.2.1)
      obtain ⟨ea, eb, hsy⟩ := HT2.out.syn
      by_cases hz : T.size = 0
      · -- the text is at an end
        have HE : Hid (∀ l, s.data.toList ≠ quoS l) := fun l hl => (HH.out.2.2 l hl).ne hz
        have HU := hide HH.out.2.1
        obtain rfl : T = ⟨#[]⟩ := ByteArray.ext (Array.eq_empty_of_size_eq_zero hz)
        clear hz HH
        go_wp2_with fail
        go_quiet (fail)
        have HU' := hide (HU.out.drewN nq)
        go_wp2
        go_ret3
        exact ⟨HU'.out, _, _, _, rfl, .inr ⟨_, _, rfl⟩, by decide, fun l hl => absurd hl (HE.out l)⟩
      · have z0 : 0 < T.size := by omega
        have z1 : (0 : Int) < (T.size : Int) := by omega
        obtain ⟨c0, hc0⟩ : ∃ c0, T[0] = c0 := ⟨_, rfl⟩
        by_cases hq : c0 = 34
        · -- its quote
          subst hq
          have q1 : (1 : Int) ≤ (T.size : Int) := by omega
          have HE : Hid (∀ l, s.data.toList = quoS l → d = l ∧ (T.extract 1 T.size).size = 0) := fun l hl => (HH.out.2.2 l hl).last z0 hc0
          have hcv := HH.out.1.conv
          have HU := hide HH.out.2.1
          have hd : d.length ≤ 4000000 := by omega
          clear HH
          go_wp2
          go_ret3
          exact ⟨HU.out, _, _, _, rfl, .inl rfl, hd, fun l hl => ⟨(HE.out l hl).1, (HE.out l hl).2, rfl⟩⟩
        · have n34 : ((c0.toNat : Int) == 34) = false := u_ne (n := 34) (by omega) hq
          have hne : T[0] ≠ 34 := by rw [hc0]; exact hq
          have hUc := uc_all T z0 (by omega) hne
          go_wp2_with fail
          go_at_call 84
          refine (hUc _ HT2.out).mono ?_
          clear hUc
          rintro _ w3 (⟨c, r, tail, ht, htl, rfl, hu3⟩ | ⟨hno, hu3, r, mb, tail, err, rfl, hmb, ⟨rfl, hts⟩ | ⟨te, pe, rfl⟩⟩)
          · -- a printed byte
            have n10 : ((c0.toNat : Int) == 10) = false := by
              obtain ⟨x, r', hx, _, h10⟩ := quoC_head c
              have : T[0] = x := at_list (l := []) (r := r' ++ r) (by rw [ht, hx]; simp) z0
              rw [hc0] at this
              exact u_ne (n := 10) (by omega) (by rw [this]; exact h10)
            have hlen : tail.size < T.size := by
              have := size_list T
              have h2 := (quoC_length c).2
              rw [ht, List.length_append] at this
              have h3 : tail.size = r.length := by show tail.data.size = _; rw [htl]; simp
              omega
            have HN : Hid (∀ l, s.data.toList = quoS l → LeftT l (d ++ [c]) tail) := fun l hl => (HH.out.2.2 l hl).next z0 hne ht htl
            have ho := HH.out.1.up hu3
            have HU := hide (HH.out.2.1.trans hu3)
            have hbs := HU.out.size
            have hcv : (c.toNat : Int) % 256 = (c.toNat : Int) := by have := c.toNat_lt; omega
            have hd2 : d.length + 1 ≤ 1000000000000 := by omega
            clear HH HT2 hsy ht htl hu3 hne
            rcases (show decide ((c.toNat : Int) < 128) = true ∨ decide ((c.toNat : Int) < 128) = false by cases decide ((c.toNat : Int) < 128) <;> simp) with h128 | h128
            all_goals
              go_wp2_with (at_builtin; refine append_bytes rfl (.tmp 186) (.tmp 189) rfl w.heap.size _ _ rfl (ho.alloc _) _ 1 1 [c] rfl rfl (byte_new (by first | exact hcv | rfl | omega)) hd2 (Nat.le_trans hbs (by simp)) ?_)
              intro b4 w4 ho4 hg4
              have HU4 := hide (below_append HU.out.below hbs ho hg4)
              replace ho4 := hide ho4
              clear hg4 ho
              go_wp2
              go_roundw
              case rel => exact ⟨tail, d ++ [c], rfl, by omega, by rw [List.length_append]; simp only [List.length_singleton]; omega, ho4.out, HU4.out, HN.out⟩
              case measure => exact hlen
          · -- something else that it reads
            have HN : Hid (∀ l, s.data.toList ≠ quoS l) := fun l hl => by
              obtain ⟨c, r', e⟩ := (HH.out.2.2 l hl).some z0 hne
              exact hno c r' e
            have ho := HH.out.1.up hu3
            have HT3 := hide (HT2.out.up hu3)
            have HU := hide (HH.out.2.1.trans hu3)
            have hbs := HU.out.size
            have hd2 : d.length + 1 ≤ 1000000000000 := by omega
            replace hsy := hu3.cell hsy
            clear HH HT2 hu3 hne hno
            by_cases h10 : c0 = 10
            · subst h10
              go_wp2_with fail
              go_quiet (fail)
              have HU' := hide (HU.out.drewN nq)
              go_wp2
              go_ret3
              exact ⟨HU'.out, _, _, _, rfl, .inr ⟨_, _, rfl⟩, by decide, fun l hl => absurd hl (HN.out l)⟩
            · have n10 : ((c0.toNat : Int) == 10) = false := u_ne (n := 10) (by omega) h10
              by_cases hbyte : r < 128 ∨ mb = false
              · obtain ⟨cb, hcb⟩ : ∃ cb : UInt8, r % 256 = (cb.toNat : Int) := ⟨UInt8.ofNat (r % 256).toNat, by rw [UInt8.toNat_ofNat']; omega⟩
                have hpk : decide (r < 128) = true ∨ (decide (r < 128) = false ∧ mb = false) := by
                  by_cases h1 : r < 128
                  · exact .inl (decide_eq_true h1)
                  · exact .inr ⟨decide_eq_false h1, hbyte.resolve_left h1⟩
                clear hbyte hmb h10
                rcases hpk with h128 | ⟨h128, rfl⟩
                all_goals
                  go_wp2_with (at_builtin; refine append_bytes rfl (.tmp 186) (.tmp 189) rfl w.heap.size _ _ rfl (ho.alloc _) _ 1 1 [cb] rfl rfl (byte_new (by first | exact hcb | omega)) hd2 (Nat.le_trans hbs (by simp)) ?_)
                  intro b4 w4 ho4 hg4
                  have HU4 := hide (below_append HU.out.below hbs ho hg4)
                  replace ho4 := hide ho4
                  clear hg4 ho
                  go_wp2
                  go_roundw
                  case rel => exact ⟨tail, d ++ [cb], rfl, by omega, by rw [List.length_append]; simp only [List.length_singleton]; omega, ho4.out, HU4.out, fun l hl => absurd hl (HN.out l)⟩
                  case measure => exact hts
              · have h128 : decide (r < 128) = false := decide_eq_false (by omega)
                obtain rfl : mb = true := by cases mb <;> simp_all
                obtain ⟨r0, r1⟩ := hmb rfl
                have hA := Tryz.utf8_AppendRune_plain w.heap.size _ d.length (bcells d) r (by omega) (by omega) w3 ho (by omega) hbs
                have hrl := Go.Lib.runeCells_le r
                clear hbyte hmb h10
                go_wp2_with fail
                go_at_call 85
                refine hA.mono ?_
                rintro _ w4 ⟨b4, rfl, ho4, o4, hg4⟩
                have HU4 := hide (below_append HU.out.below hbs ho hg4)
                have ho5 : Hid (Own w4 w.heap.size b4 (d ++ Go.Lib.encodeRune r)) := by
                  show w4.ownsRow w.heap.size 5 1 b4 (d ++ Go.Lib.encodeRune r).length (bcells (d ++ Go.Lib.encodeRune r))
                  rw [List.length_append, bcells_append, ← Go.Lib.runeCells_length]
                  have e : bcells (Go.Lib.encodeRune r) = Go.Lib.runeCells r := Go.Lib.byteCells_encodeRune r
                  rw [e]
                  exact ho4
                have hel : (Go.Lib.encodeRune r).length ≤ 4 := by rw [← Go.Lib.runeCells_length]; exact hrl.2
                clear hg4 ho hA ho4 hrl
                go_wp2
                go_roundw
                case rel => exact ⟨tail, d ++ Go.Lib.encodeRune r, rfl, by omega, by rw [List.length_append]; omega, ho5.out, HU4.out, fun l hl => absurd hl (HN.out l)⟩
                case measure => exact hts
          · -- none
            have HN : Hid (∀ l, s.data.toList ≠ quoS l) := fun l hl => by
              obtain ⟨c, r', e⟩ := (HH.out.2.2 l hl).some z0 hne
              exact hno c r' e
            have HU := hide (HH.out.2.1.trans hu3)
            replace hsy := hu3.cell hsy
            clear HH HT2 hu3 hne hno hmb
            by_cases h10 : c0 = 10
            · subst h10
              go_wp2_with fail
              go_quiet (fail)
              have HU' := hide (HU.out.drewN nq)
              go_wp2
              go_ret3
              exact ⟨HU'.out, _, _, _, rfl, .inr ⟨_, _, rfl⟩, by decide, fun l hl => absurd hl (HN.out l)⟩
            · have n10 : ((c0.toNat : Int) == 10) = false := u_ne (n := 10) (by omega) h10
              clear h10
              go_wp2_with fail
              go_quiet (fail)
              have HU' := hide (HU.out.drewN nq)
              go_wp2
              go_ret3
              exact ⟨HU'.out, _, _, _, rfl, .inr ⟨_, _, rfl⟩, by decide, fun l hl => absurd hl (HN.out l)⟩

end Go.Proofs.YtjnnmghehoodhaaGreatDoor
