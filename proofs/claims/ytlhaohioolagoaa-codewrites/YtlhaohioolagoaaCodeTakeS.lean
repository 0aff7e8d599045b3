/-
  What takeString of package code answers of every slice of bytes, as its text runs.
-/
import Derived.Test.YtlhaohioolagoaaCodeTake
namespace Go.Proofs.Ytlhaohioolagoaa
open Go.ChangeShapes Go.WideShapes Go.ChangeAt Go.RowKit
attribute [local go_sem ↓] Go.wp_at_zero Go.wp_at_succ
attribute [local go_sem] run_store_float

/-- What takeString leaves. -/
def StrPost (w0 w : World) (l : List UInt8) (e : Ending) (w' : World) : Prop :=
  Up w w' ∧ ((∃ t r v, unescL l = some (t, r) ∧ e = .returned (.tuple #[.string ⟨t.toArray⟩, v, .bool true]) ∧ Sl w0 v r) ∨ (unescL l = none ∧ e = .returned (.tuple #[.string ⟨#[]⟩, .slice none 0 0, .bool false])))

theorem takeString_none (a : Option Addr) (c : Nat) (w0 w : World) : Calls Try.prog 33 #[.slice a 0 c] w fun e w' => StrPost w0 w [] e w' := by
  go_enter Try.func33, Try.ntmps33
  go_wp2_with fail
  refine wp_loop_rounds 1 ?_
  rw [rounds_succ]
  go_wp2
  go_ret3
  exact ⟨Up.refl _, .inr ⟨unescL_nil, rfl⟩⟩

theorem drop_byte {l : List UInt8} {k : Nat} (h : k < l.length) : l.drop k = l.getD k 0 :: l.drop (k + 1) := by
  rw [List.drop_eq_getElem_cons h, List.getD_eq_getElem?_getD, List.getElem?_eq_getElem h]
  rfl

theorem beq_nat {c : UInt8} (d : UInt8) (h : ¬ c = d) : ((c.toNat : Int) == (d.toNat : Int)) = false := beq_eq_false_iff_ne.2 fun e => h (UInt8.toNat_inj.1 (by omega))

set_option maxHeartbeats 4000000 in
theorem takeString_some (b off n c : Nat) (l : List UInt8) (w0 w : World) (hu0 : Up w0 w) (hn : n ≤ 1000000) (hc : n ≤ c) (hm : c ≤ maxLen) (hl : l.length = n) (hx : ∀ i, i < n → w0.cell? ⟨b, off + i, none⟩ = some (.int .u8 ((l.getD i 0).toNat : Int))) :
    Calls Try.prog 33 #[.slice (some ⟨b, off, none⟩) n c] w fun e w' => StrPost w0 w l e w' := by
  have H0 := hide hx
  have H : Hid (∀ i, i < n → w.cell? ⟨b, off + i, none⟩ = some (.int .u8 ((l.getD i 0).toNat : Int))) := hide fun i hi => hu0.cell (hx i hi)
  have HL := hide hl
  have HM := hide hm
  clear hx hl hu0
  unfold maxLen at hm
  go_enter Try.func33, Try.ntmps33
  go_wp2_with fail
  go_loopw [5, 6] (fun u i wr => ∃ (k : Nat) (got : List UInt8), k ≤ n ∧ i = .int .i64 k ∧ got.length ≤ k ∧ Own wr w.heap.size u got ∧ Up w wr ∧ Hid (unescL l = (unescL (l.drop k)).map fun p => (got ++ p.1, p.2))) (fun _ i _ => n - (intOf i).toNat)
  case atStart => exact ⟨0, [], Nat.zero_le _, rfl, Nat.le_refl _, Own.nil _ _, Up.refl _, by simp [Hid]⟩
  case round =>
    obtain ⟨k, got, hk, rfl, hgl, ho, hu, he⟩ := hrel
    have hbs := hu.size
    by_cases hlt : k < n
    · have hcell := hu.cell (H.out k hlt)
      have hdr := drop_byte (l := l) (k := k) (by rw [HL.out]; exact hlt)
      obtain ⟨x, hx⟩ : ∃ x, x = l.getD k 0 := ⟨_, rfl⟩
      rw [← hx] at hcell hdr
      have i0 : (0 : Int) ≤ (k : Int) := by omega
      have i1 : (k : Int) < (n : Int) := by omega
      replace hx := hide hx
      by_cases hz : x = 0
      · subst hz
        clear hcell
        have hcell : wr.cell? ⟨b, off + k, none⟩ = some (.int .u8 0) := by
          have := hu.cell (H.out k hlt)
          rw [← hx.out] at this
          exact this
        by_cases hlt2 : k + 1 < n
        · have hcel2 := hu.cell (H.out (k + 1) hlt2)
          have hdr2 := drop_byte (l := l) (k := k + 1) (by rw [HL.out]; exact hlt2)
          obtain ⟨y, hy⟩ : ∃ y, y = l.getD (k + 1) 0 := ⟨_, rfl⟩
          rw [← hy] at hcel2 hdr2
          rw [hdr2] at hdr
          replace hy := hide hy
          have j1 : (k : Int) + 1 < (n : Int) := by omega
          have j0 : (0 : Int) ≤ (k : Int) + 1 := by omega
          by_cases hy1 : y = 1
          · have hyes : unescL l = some (got, l.drop (k + 2)) := by
              have := he.out
              rw [hdr, hy1, unescL_end] at this
              simpa using this
            have t1 : ((y.toNat : Int) == 1) = true := by rw [hy1]; rfl
            have hcv : ∀ m, (convert 23 9 u5).run Try.prog (wr.drewN m) = .ok (.string ⟨got.toArray⟩) (wr.drewN m) := fun m => (ho.up ((Up.refl _).drewN m)).conv
            replace hyes := hide hyes
            have HU := hide hu
            clear hdr hdr2 he ho hu hy1
            go_wp2_with fail
            go_quiet (fail)
            go_wp2
            all_goals go_ret3
            · refine ⟨HU.out.drewN _, .inl ⟨_, _, _, hyes.out, rfl, ?_⟩⟩
              exact sl_end HL.out (by omega) _ (Nat.zero_le _)
            · refine ⟨HU.out.drewN _, .inl ⟨_, _, _, hyes.out, rfl, ?_⟩⟩
              exact sl_drop HL.out hc HM.out H0.out (k + 2)
          · have t1 : ((y.toNat : Int) == 1) = false := beq_nat 1 hy1
            by_cases hy2 : y = 255
            · have hst : unescL l = (unescL (l.drop (k + 2))).map fun p => ((got ++ [0]) ++ p.1, p.2) := by
                rw [he.out, hdr, hy2, unescL_zero]
                cases unescL (l.drop (k + 2)) <;> simp
              have t2 : ((y.toNat : Int) == 255) = true := by rw [hy2]; rfl
              replace hst := hide hst
              have HU := hide hu
              clear hdr hdr2 he hu hy1 hy2
              go_wp2_with (at_builtin; refine append_bytes rfl (.tmp 57) (.tmp 58) rfl w.heap.size _ _ rfl (ho.alloc _) _ 1 1 [0] rfl rfl (byte_new rfl) (by omega) (Nat.le_trans hbs (by simp)) ?_)
              intro u1 w1 ho1 hg1
              have hb1 : Hid (Up w w1) := hide (below_append HU.out hbs ho hg1)
              replace ho1 := hide ho1
              clear hg1 ho HU hcell hcel2
              go_wp2
              go_roundw
              case rel => exact ⟨k + 2, got ++ [0], by omega, by go_num, by simp; omega, ho1.out, hb1.out, hst.out⟩
              case measure => simp [intOf]; omega
            · have t2 : ((y.toNat : Int) == 255) = false := beq_nat 255 hy2
              have hno : unescL l = none := by
                have := he.out
                rw [hdr, unescL_bad hy1 hy2] at this
                simpa using this
              replace hno := hide hno
              replace hu := hide hu
              clear hdr hdr2 he ho hy1 hy2
              go_wp2
              go_ret3
              exact ⟨hu.out, .inr ⟨hno.out, rfl⟩⟩
        · have hno : unescL l = none := by
            have := he.out
            rw [hdr, List.drop_eq_nil_of_le (by rw [HL.out]; omega), unescL_last] at this
            simpa using this
          replace hno := hide hno
          replace hu := hide hu
          have j1 : decide ((k : Int) + 1 < (n : Int)) = false := decide_eq_false (by omega)
          clear hdr he ho
          go_wp2
          go_ret3
          exact ⟨hu.out, .inr ⟨hno.out, rfl⟩⟩
      · have hst : unescL l = (unescL (l.drop (k + 1))).map fun p => ((got ++ [x]) ++ p.1, p.2) := by
          rw [he.out, hdr, unescL_char hz]
          cases unescL (l.drop (k + 1)) <;> simp
        have ht : ((x.toNat : Int) == 0) = false := beq_nat 0 hz
        have ht2 : ((x.toNat : Int) != 0) = true := by simp [bne, ht]
        replace hst := hide hst
        have HU := hide hu
        clear hz hdr he
        go_wp2_with (at_builtin; refine append_bytes rfl (.tmp 18) (.tmp 23) rfl w.heap.size _ _ rfl (ho.alloc _) _ 1 1 [x] rfl rfl (byte_new rfl) (by omega) (Nat.le_trans hbs (by simp)) ?_)
        intro u1 w1 ho1 hg1
        have hb1 : Hid (Up w w1) := hide (below_append HU.out hbs ho hg1)
        replace ho1 := hide ho1
        clear hg1 ho hu HU hcell
        go_wp2
        go_roundw
        case rel => exact ⟨k + 1, got ++ [x], by omega, by go_num, by simp; omega, ho1.out, hb1.out, hst.out⟩
        case measure => simp [intOf]; omega
    · obtain rfl : k = n := by omega
      have hno : unescL l = none := by
        have := he.out
        rw [List.drop_eq_nil_of_le (by rw [HL.out]; omega), unescL_nil] at this
        simpa using this
      replace hno := hide hno
      replace hu := hide hu
      clear he ho
      go_wp2
      go_ret3
      exact ⟨hu.out, .inr ⟨hno.out, rfl⟩⟩

theorem takeString_calls (r : Value) (l : List UInt8) (w0 w : World) (hu : Up w0 w) (hn : l.length ≤ 1000000) (hs : Sl w0 r l) : Calls Try.prog 33 #[r] w fun e w' => StrPost w0 w l e w' := by
  obtain ⟨a, c, rfl, hc, hm, hl, h⟩ := hs
  rcases h with h | ⟨b, off, rfl, hx⟩
  · obtain rfl : l = [] := List.length_eq_zero_iff.1 h
    exact takeString_none _ _ _ _
  · exact takeString_some _ _ _ _ l w0 w hu hn hc hm hl hx

/-- What takeWord leaves. -/
def WordPost (w0 w : World) (l : List UInt8) (e : Ending) (w' : World) : Prop :=
  Up w w' ∧ ((8 ≤ l.length ∧ ∃ v, e = .returned (.tuple #[.int .u64 (numL (l.take 8) : Int), v, .bool true]) ∧ Sl w0 v (l.drop 8)) ∨ (l.length < 8 ∧ e = .returned (.tuple #[.int .u64 0, .slice none 0 0, .bool false])))

theorem takeWord_calls (r : Value) (l : List UInt8) (w0 w : World) (hu : Up w0 w) (hs : Sl w0 r l) : Calls Try.prog 32 #[r] w fun e w' => WordPost w0 w l e w' := by
  obtain ⟨a, c, rfl, hc, hm, hl, h⟩ := hs
  by_cases h8 : l.length < 8
  · refine (takeWord_short a l.length c w h8).mono ?_
    rintro _ _ ⟨rfl, rfl⟩
    exact ⟨Up.refl _, .inr ⟨h8, rfl⟩⟩
  · rcases h with h | ⟨b, off, rfl, hx⟩
    · omega
    · refine (takeWord_long b off l.length c l w0 w hu (by omega) hc hm rfl hx).mono ?_
      rintro _ _ ⟨v, rfl, hv, hu⟩
      exact ⟨hu, .inl ⟨by omega, v, rfl, hv⟩⟩

end Go.Proofs.Ytlhaohioolagoaa
