/-
  HashChains, walked.
-/
import Derived.Test.YtofpakpbbpcalaaHaEmp
import Derived.Test.YtofpakpbbpcalaaHaChi
import Derived.Test.YtofpakpbbpcalaaHaHlp
namespace Go.Proofs.Ytofpakpbbpcalaa
open Go.ChangeShapes Go.WideShapes Go.ChangeAt Go.RowKit
set_option linter.unusedVariables false
set_option maxRecDepth 100000
attribute [local go_sem ↓] Go.wp_at_zero Go.wp_at_succ

theorem ChI.set {p A : Nat} {w wr w' : World} {n c : Nat} {T : Tab} {O : Nat → Prop} (h : ChI p A w wr n c T O) (hc : Chg (fun y => y = A) wr w') (hA : w.heap.size ≤ A) : ChI p A w w' n c T O :=
  ⟨h.up.thenChg hc (fun x hx e => by omega), h.idx.chg hc (fun x hx e => h.notA (by rw [← e]; exact hx)), h.new, h.notA, Nat.lt_of_lt_of_le h.ltA hc.size, h.short⟩
theorem Idx.rise' {p : Nat} {O : Nat → Prop} {w : World} {u : Bool} {T : Tab} {len : Int} {c : Nat} (h : Idx p O w u T len c) (m : List VT) : Rise (T m) := by
  obtain ⟨_, K, bl, M, f, _, hG, _⟩ := h
  exact (hG.rise m).1
theorem insF_len1 {l : List Int} {x : Int} (h : Rise l) (hx : x ∉ l) : (insF l x).length = l.length + 1 := by
  induction l with
  | nil => rfl
  | cons a l ih =>
    obtain ⟨h1, h2⟩ := List.pairwise_cons.1 h
    have hne : a ≠ x := fun e => hx (by rw [e]; simp)
    have := ih h2 (fun h => hx (List.mem_cons_of_mem _ h))
    simp only [insF, List.length_append, List.length_cons, List.filter_cons] at this ⊢
    by_cases q : a < x
    · have q' : ¬ x < a := by omega
      simp only [q, q', decide_true, decide_false, if_true, Bool.false_eq_true, if_false, List.length_cons]
      omega
    · have q' : x < a := by omega
      simp only [q, q', decide_true, decide_false, if_true, Bool.false_eq_true, if_false, List.length_cons]
      omega
theorem zeros256 : ((List.range 256).all fun i => match Try.zeroCells55[i]? with | some (.bool false) => true | _ => false) = true := by kernel_rfl
theorem zeros256_at {i : Nat} (hi : i < 256) : Try.zeroCells55[i]? = some (.bool false) := by
  have h := List.all_eq_true.1 zeros256 i (List.mem_range.2 hi)
  revert h
  generalize Try.zeroCells55[i]? = o
  intro h
  split at h
  · rfl
  · cases h
theorem arr_new (w : World) : ArrB (w.alloc (.cells Try.zeroCells55 55)) w.heap.size (fun _ => false) := by
  have hb := heap_alloc_new w (.cells Try.zeroCells55 55)
  exact ⟨fun i hi => by rw [cell_of hb]; exact zeros256_at hi, fun i => by unfold World.frozen?; simp only [hb]; simp⟩

set_option maxHeartbeats 16000000 in
theorem hashChains_few (a : Option Addr) (n0 cap : Nat) (l : List UInt8) (q : Nat) (w : World) (hl : l.length = n0) (hn : n0 ≤ 80) (hq : q < 256) (hx : n0 = 0 ∨ ∃ g off, a = some ⟨g, off, none⟩ ∧ ∀ i, i < n0 → w.cell? ⟨g, off + i, none⟩ = some (.int .u8 ((l.getD i 0).toNat : Int))) :
    Calls Try.prog 5 #[.slice a n0 cap, .int .u8 q] w fun e w' => e = .returned (.bool true) ∧ Up w w' := by
  have H := hide hx
  have HL := hide hl
  have e1 : decide ((n0 : Int) > 80) = false := decide_eq_false (by omega)
  obtain ⟨n, hnd⟩ : ∃ n : Nat, n = q % 5 + 1 := ⟨_, rfl⟩
  have e2 : IntKind.u8.wrap ((q : Int) % 5) = (q : Int) % 5 := by simp [IntKind.wrap, IntKind.bits, IntKind.signed]; omega
  have e3 : (q : Int) % 5 + 1 = (n : Int) := by omega
  have hn5 : 1 ≤ n ∧ n ≤ 5 := by omega
  have HN := hide hnd
  clear hx hl hnd
  go_enter Try.func5, Try.ntmps5
  go_wp2_with fail
  go_at_call 7
  refine (known_calls _).mono ?_
  rintro _ w1 ⟨rfl, hu1⟩
  have U1 := hide hu1
  clear hu1
  go_wp2_with fail
  go_at_call 8
  refine (newX_calls false w _ U1.out).mono ?_
  rintro _ w2 ⟨p, rfl, hi2⟩
  have I2 := hide hi2
  clear hi2 U1
  go_wp2_with fail
  have harr := arr_new w2
  have HAR := hide harr
  obtain ⟨A, hA⟩ : ∃ A, A = w2.heap.size := ⟨_, rfl⟩
  rw [← hA] at HAR ⊢
  obtain ⟨W3, hW3⟩ : ∃ W3, W3 = w2.alloc (.cells Try.zeroCells55 55) := ⟨_, rfl⟩
  rw [← hW3] at HAR ⊢
  have hch : ∃ O, ChI p A w W3 n 0 (fun _ => []) O := by
    obtain ⟨h1, O, h2, h3⟩ := I2.out
    have hu : Up w2 W3 := by rw [hW3]; exact (Up.refl _).alloc _
    refine ⟨O, h1.trans hu, ?_, h3, fun h => ?_, ?_, fun m => by simp⟩
    · rw [sumT_nil (fun _ => rfl)]; exact h2.up hu
    · have := h2.1 A h; omega
    · rw [hA, hW3]; simp
  have HCH := hide hch
  have HAW : Hid (w.heap.size ≤ A) := by rw [hA]; exact I2.out.1.size
  clear harr hW3 hA I2 hch
  --C1
  go_loopw [8] (fun iv wr => ∃ i : Nat, i ≤ n0 ∧ iv = .int .i64 i ∧ ∃ T th c O, c ≤ i ∧ Hid (ChI p A w wr n c T O) ∧ Hid (CT th n 0 T) ∧ Hid (ArrB wr A th)) (fun iv _ => n0 - (intOf iv).toNat)
  case atStart =>
    obtain ⟨O, h⟩ := HCH.out
    exact ⟨0, Nat.zero_le _, rfl, _, _, 0, O, Nat.le_refl _, h, CT.start n, HAR⟩
  case round =>
    obtain ⟨i, hi, rfl, T, th, c, O, hc, hI, hCT, hAr⟩ := hrel
    by_cases hlt : i < n0
    · have hlt' : (i : Int) < (n0 : Int) := by omega
      have i0 : (0 : Int) ≤ (i : Int) := by omega
      obtain ⟨g, off, rfl, hgx⟩ := H.out.resolve_left (by omega)
      obtain ⟨b, hb⟩ : ∃ b : Nat, b = (l.getD i 0).toNat := ⟨_, rfl⟩
      have hb256 : b < 256 := by rw [hb]; exact (l.getD i 0).toNat_lt
      have S0 : Hid (w.cell? ⟨g, off + i, none⟩ = some (.int .u8 (b : Int))) := by rw [hb]; exact hgx i hlt
      have s1 := hI.out.up.cell S0.out
      have hkn : (b + 1) % n < n := Nat.mod_lt _ (by omega)
      have em : ((b : Int) + 1) % (n : Int) = (((b + 1) % n : Nat) : Int) := by
        have : ((b : Int) + 1) = ((b + 1 : Nat) : Int) := by omega
        rw [this]; exact (Int.natCast_emod (b + 1) n).symm
      have em2 : ((b : Int) + 1).tmod (n : Int) = (((b + 1) % n : Nat) : Int) := by rw [Int.tmod_eq_emod_of_nonneg (by omega)]; exact em
      have en0 : ¬ ((n : Int) = 0) := by omega
      have en1 : ((n : Int) == 0) = false := by simp; omega
      obtain ⟨k, hk⟩ : ∃ k, k = (b + 1) % n := ⟨_, rfl⟩
      rw [← hk] at hkn em em2
      have HK := hide hk
      have b0 : (0 : Int) ≤ (b : Int) := by omega
      have b1 : (b : Int) < 256 := by omega
      clear hb hk hgx
      --C2
      go_wp2_with fail
      go_at_call 22
      refine (num_calls _ _ (by omega) (by omega)).mono ?_
      rintro _ w4 ⟨a4, rfl, hv4, hu4⟩
      have I4 := hide (hI.out.upto hu4)
      have V4 : Hid (Vals w4 a4 1 (kI k)) := hv4
      have A4 := hide (hAr.out.up hu4)
      clear hv4 hu4
      --C3
      cases hth : th b
      · have hx : ((b + 1 : Nat) : Int) ∉ T (kI k) := fun hm => by
          rw [hCT.out.high k hkn (Nat.zero_le _)] at hm
          obtain ⟨j, _, h2, _, h4⟩ := chainU_mem.1 hm
          have : j = b := by omega
          subst this
          rw [hth] at h2; cases h2
        have hins : insF (T (kI k)) ((b + 1 : Nat) : Int) = chainL (setB th b) n k := by rw [hCT.out.high k hkn (Nat.zero_le _), HK.out]; exact chain_ins hb256
        have hlen : (insF (T (kI k)) ((b + 1 : Nat) : Int)).length = (T (kI k)).length + 1 := insF_len1 ((hI.out.idx.rise' (kI k))) hx
        have hl2 : (insF (T (kI k)) ((b + 1 : Nat) : Int)).length ≤ 256 := by rw [hins]; exact chainU_length _ _ _ _
        have HX := hide hx
        have HINS := hide hins
        have HLEN := hide hlen
        have HL2 := hide hl2
        clear hx hins hlen hl2
        go_wp2_with fail
        go_at_call 11
        refine (chI_ins I4.out hn5.2 hkn a4 1 ((b + 1 : Nat) : Int) V4.out HX.out HLEN.out HL2.out (by omega)).mono ?_
        rintro _ w5 ⟨rfl, hc5, c5, O5, hcc5, hi5⟩
        have A5 := hide (A4.out.chg hc5 I4.out.notA)
        have I5 := hide hi5
        have CT5 : Hid (CT (setB th b) n 0 (setT T (kI k) (insF (T (kI k)) ((b + 1 : Nat) : Int)))) := by rw [HINS.out, HK.out]; exact hCT.out.insert (by omega) hb256
        generalize setT T (kI k) (insF (T (kI k)) ((b + 1 : Nat) : Int)) = T5 at *
        have s5 := I5.out.up.cell S0.out
        have t5 := A5.out.1 b hb256
        rw [hth] at t5
        have f5 := A5.out.2 b
        have A6 : Hid (ArrB (w5.setCell ⟨A, b, none⟩ (.bool true)) A (setB th b)) := A5.out.set hb256
        have hc6 : Chg (fun y => y = A) w5 (w5.setCell ⟨A, b, none⟩ (.bool true)) := (Chg.refl _ w5).set (C := fun y => y = A) (p := ⟨A, b, none⟩) (fun _ => rfl) _
        have I6 : Hid (ChI p A w (w5.setCell ⟨A, b, none⟩ (.bool true)) n c5 T5 O5) := I5.out.set hc6 HAW.out
        clear hi5 hc5 hc6 s1
        --C4
        go_wp2
        go_roundw
        case rel => exact ⟨i + 1, by omega, by go_num, T5, setB th b, c5, O5, by omega, I6, CT5, A6⟩
        case measure => simp [intOf]; omega
      · have hx : ((b + 1 : Nat) : Int) ∈ T (kI k) := by
          rw [hCT.out.high k hkn (Nat.zero_le _)]
          exact chainU_mem.2 ⟨b, hb256, hth, HK.out.symm, rfl⟩
        have HX := hide hx
        clear hx
        go_wp2_with fail
        go_at_call 11
        refine (chI_there I4.out hn5.2 hkn a4 1 ((b + 1 : Nat) : Int) V4.out HX.out).mono ?_
        rintro _ w5 ⟨rfl, hu5⟩
        have A5 := hide (A4.out.up hu5)
        have I5 := hide (I4.out.upto hu5)
        have CT5 : Hid (CT (setB th b) n 0 T) := hCT.out.again hth
        have s5 := I5.out.up.cell S0.out
        have t5 := A5.out.1 b hb256
        rw [hth] at t5
        have f5 := A5.out.2 b
        have A6 : Hid (ArrB (w5.setCell ⟨A, b, none⟩ (.bool true)) A (setB th b)) := A5.out.set hb256
        have hc6 : Chg (fun y => y = A) w5 (w5.setCell ⟨A, b, none⟩ (.bool true)) := (Chg.refl _ w5).set (C := fun y => y = A) (p := ⟨A, b, none⟩) (fun _ => rfl) _
        have I6 : Hid (ChI p A w (w5.setCell ⟨A, b, none⟩ (.bool true)) n c T O) := I5.out.set hc6 HAW.out
        clear hu5 hc6 s1
        --C5
        go_wp2
        go_roundw
        case rel => exact ⟨i + 1, by omega, by go_num, T, setB th b, c, O, by omega, I6, CT5, A6⟩
        case measure => simp [intOf]; omega
    · obtain rfl : n0 = i := by omega
      --C6
      have hc80 : c ≤ 80 := by omega
      go_wp2_with fail
      go_loopw [11] (fun kv wr => ∃ k : Nat, k ≤ n ∧ kv = .int .i64 k ∧ ∃ T c O, c ≤ 80 ∧ Hid (ChI p A w wr n c T O) ∧ Hid (CT th n k T) ∧ Hid (ArrB wr A th)) (fun kv _ => n - (intOf kv).toNat)
      case atStart => exact ⟨0, Nat.zero_le _, rfl, T, c, O, hc80, hI, hCT, hAr⟩
      case round =>
        clear hI hCT hAr hc hc80 hi hlt
        obtain ⟨k, hk, rfl, T, c, O, hc, hI, hCT, hAr⟩ := hrel
        by_cases hkn : k < n
        · have hkn' : (k : Int) < (n : Int) := by omega
          obtain ⟨W0, rfl⟩ : ∃ W0, W0 = wr := ⟨_, rfl⟩
          have en0 : ¬ ((n : Int) = 0) := by omega
          have en1 : ((n : Int) == 0) = false := by simp; omega
          go_wp2_with fail
          --C7
          go_loopw [12, 13] (fun v iv wr => ∃ i : Nat, i ≤ 256 ∧ iv = .int .i64 i ∧ Hid (OwnJ wr W0.heap.size v (chainU th n k i)) ∧ Hid (Up W0 wr)) (fun _ iv _ => 256 - (intOf iv).toNat)
          case atStart => exact ⟨0, Nat.zero_le _, rfl, OwnG.nil _ _ _ _ _, Up.refl _⟩
          case round =>
            obtain ⟨i, hi, rfl, ho, hu⟩ := hrel
            by_cases hlt : i < 256
            · have hlt' : (i : Int) < 256 := by omega
              have i0 : (0 : Int) ≤ (i : Int) := by omega
              have s1 := hu.out.cell (hAr.out.1 i hlt)
              have em : ((i : Int) + 1) % (n : Int) = (((i + 1) % n : Nat) : Int) := by
                have : ((i : Int) + 1) = ((i + 1 : Nat) : Int) := by omega
                rw [this]; exact (Int.natCast_emod (i + 1) n).symm
              have em2 : ((i : Int) + 1).tmod (n : Int) = (((i + 1) % n : Nat) : Int) := by rw [Int.tmod_eq_emod_of_nonneg (by omega)]; exact em
              have ei : IntKind.i64.wrap ((i : Int) + 1) = (i : Int) + 1 := by rw [IntKind.wrap_i64]; omega
              obtain ⟨r, hr⟩ : ∃ r, r = (i + 1) % n := ⟨_, rfl⟩
              rw [← hr] at em em2
              have hrn : r ≤ 256 := by rw [hr]; exact Nat.le_trans (Nat.mod_le _ _) (by omega)
              cases hth : th i
              · have hno := hide (chainU_no (th := th) (n := n) (k := k) (i := i) (by rw [hth]; rfl))
                rw [hth] at s1
                clear hr
                go_wp2
                go_roundw
                case rel => exact ⟨i + 1, by omega, by go_num, by rw [hno.out]; exact ho, hu⟩
                case measure => simp [intOf]; omega
              · rw [hth] at s1
                cases hd : ((r : Int) == (k : Int))
                · have hno := hide (chainU_no (th := th) (n := n) (k := k) (i := i) (by rw [hth, ← hr]; simp at hd ⊢; omega))
                  clear hr
                  go_wp2
                  go_roundw
                  case rel => exact ⟨i + 1, by omega, by go_num, by rw [hno.out]; exact ho, hu⟩
                  case measure => simp [intOf]; omega
                · have hyes := hide (chainU_yes (th := th) (n := n) (k := k) (i := i) hth (by rw [← hr]; simp at hd; omega))
                  have hlen := chainU_length th n k i
                  have hbs := hu.out.size
                  have HLEN := hide hlen
                  clear hr hlen
                  go_wp2_with (at_builtin; refine append_ids rfl _ _ rfl W0.heap.size _ (chainU th n k i) rfl (OwnG.alloc ho.out _) ⟨wr.heap.size, 0, none⟩ 1 1 [(i : Int) + 1] rfl rfl (fun j hj => ?_) (by have := HLEN.out; simp; omega) (by simp; omega) ?_)
                  · obtain rfl : j = 0 := by simpa using hj
                    rw [Addr.add_lit]
                    go_simp
                  · intro v5 w5 ho5 hg5 _
                    have hu5 : Hid (Up W0 w5) := Below.grown ((hu.out.alloc _).below) hg5 (by simp; omega) (fun q hq => (ho.out.lt q hq).1)
                    replace ho5 : Hid (OwnJ w5 W0.heap.size v5 (chainU th n k (i + 1))) := by rw [hyes.out]; exact ho5
                    clear hg5 ho
                    go_wp2
                    go_roundw
                    case rel => exact ⟨i + 1, by omega, by go_num, ho5, hu5⟩
                    case measure => simp [intOf]; omega
            · obtain rfl : i = 256 := by omega
              --C8
              have IW := hide (hI.out.upto hu.out)
              have AW := hide (hAr.out.up hu.out)
              have hgk : GoodK (kI k) := good_kI (by omega)
              have HGK := hide hgk
              obtain ⟨L, hL⟩ : ∃ L, L = chainU th n k 256 := ⟨_, rfl⟩
              have hTk : T (kI k) = L := by rw [hL]; exact hCT.out.high k hkn (Nat.le_refl _)
              have hLl : L.length ≤ 256 := by rw [hL]; exact chainU_length _ _ _ _
              have hLr : Rise L := by rw [hL]; exact chainU_rise _ _ _ _
              rw [← hL] at ho
              have HTK := hide hTk
              have HLR := hide hLr
              have HLL := hide hLl
              obtain ⟨va, vc, hvs, hvc⟩ := ho.out.rd
              subst hvs
              obtain ⟨ln, hln⟩ : ∃ ln, ln = L.length := ⟨_, rfl⟩
              rw [← hln] at ho hvc ⊢
              have HLN := hide hln
              clear hgk hL hTk hLl hLr hln
              have lnb : ln ≤ 256 := by have := HLL.out; have := HLN.out; omega
              have hvl : Hid (∀ gq, (Value.slice va ln vc).ownBlock = some gq → W0.heap.size ≤ gq ∧ gq < wr.heap.size) := fun gq e => ho.out.lt gq e
              have hcells : Hid (∀ (W : World), OwnJ W W0.heap.size (.slice va ln vc) L → ∀ j, j < ln → ∃ gq, va = some ⟨gq, 0, none⟩ ∧ W.cell? ⟨gq, j, none⟩ = some (.int .i64 (L.getD j 0))) := fun W hW j hj => by
                have hne : L ≠ [] := fun e => by have := HLN.out; rw [e] at this; simp at this; omega
                obtain ⟨gq, _, _, e, _⟩ := OwnJ.block hW hne
                cases e
                refine ⟨gq, rfl, ?_⟩
                have := World.ownsRow.cellAt hW (j * 1 + 0) (by have := HLN.out; omega)
                rw [show j * 1 + 0 = j by omega] at this
                rw [this]
                have e2 := flatG_get (k := 1) (cs := jC) (fun _ => rfl) 0 L j 0 (by have := HLN.out; omega) (by omega)
                rw [show j * 1 + 0 = j by omega] at e2
                rw [e2]; rfl
              clear hvc
              go_wp2_with fail
              go_at_call 22
              refine (num_calls _ _ (by omega) (by omega)).mono ?_
              rintro _ w4 ⟨a4, rfl, hv4, hu4⟩
              have I4 := hide (IW.out.upto hu4)
              have V4 : Hid (Vals w4 a4 1 (kI k)) := hv4
              have A4 := hide (AW.out.up hu4)
              have O4 := hide (OwnG.up ho.out hu4)
              have S4 := hide hu4.size
              clear hv4 hu4
              go_wp2_with fail
              go_at_call 16
              refine (find_calls p O false T _ c a4 1 1 (kI k) w4 I4.out.idx HGK.out V4.out).mono ?_
              rintro _ w5 ⟨v5, rfl, ho5, hu5⟩
              rw [HTK.out] at ho5
              have I5 := hide (I4.out.upto hu5)
              have A5 := hide (A4.out.up hu5)
              have OW5 := hide (OwnG.up O4.out hu5)
              have F5 := hide ho5
              have S5 := hide hu5.size
              clear hu5 ho5
              go_wp2_with fail
              go_at_call 15
              refine (ids_calls _ _ L L _ (OwnJ.rd F5.out) (OwnJ.rd OW5.out) (by have := HLL.out; omega)).mono ?_
              rintro _ w6 ⟨rfl, hu6⟩
              rw [decide_eq_true rfl]
              have I6 := hide (I5.out.upto hu6)
              have A6 := hide (A5.out.up hu6)
              have OW6 := hide (OwnG.up OW5.out hu6)
              have hs06 : Hid (wr.heap.size ≤ w6.heap.size) := Nat.le_trans (Nat.le_trans S4.out S5.out) hu6.size
              clear hu6
              --C9
              go_wp2_with fail
              go_loopw [14] (fun jv wr6 => ∃ j : Nat, j ≤ ln ∧ jv = .int .i64 j ∧ ∃ c O', c ≤ 80 ∧ Hid (ChI p A w wr6 n c (setT T (kI k) (L.drop j)) O') ∧ Hid (∀ x, O' x → O x ∨ w6.heap.size ≤ x) ∧ Hid (OwnJ wr6 W0.heap.size (.slice va ln vc) L) ∧ Hid (ArrB wr6 A th) ∧ Hid (w6.heap.size ≤ wr6.heap.size)) (fun jv _ => ln - (intOf jv).toNat)
              case atStart => exact ⟨0, Nat.zero_le _, rfl, c, O, hc, by rw [List.drop_zero, setT_self HTK.out]; exact I6, fun x h => .inl h, OW6, A6, Nat.le_refl _⟩
              case round =>
                clear I6 I5 I4 IW A6 A5 A4 AW OW6 OW5 O4 ho F5 V4
                obtain ⟨j, hj, rfl, c, O', hc', hI', hO', hOW, hAr', hsz⟩ := hrel
                by_cases hjl : j < ln
                · have hjl' : (j : Int) < (ln : Int) := by omega
                  have j0 : (0 : Int) ≤ (j : Int) := by omega
                  obtain ⟨gq, hva, hcell⟩ := hcells.out wr hOW.out j hjl
                  obtain ⟨x, hx⟩ : ∃ x, x = L.getD j 0 := ⟨_, rfl⟩
                  rw [← hx] at hcell
                  have hdrop : L.drop j = x :: L.drop (j + 1) := by
                    have hjL : j < L.length := by have := HLN.out; omega
                    rw [List.drop_eq_getElem_cons hjL, hx, getD_mem hjL]
                  have hTk : setT T (kI k) (L.drop j) (kI k) = x :: L.drop (j + 1) := by rw [setT_same, hdrop]
                  have hrx : Rise (x :: L.drop (j + 1)) := by rw [← hdrop]; exact HLR.out.drop
                  have hgq := hvl.out gq (by rw [hva]; rfl)
                  have hnO : ¬ O' gq := fun h => by
                    rcases hO'.out gq h with h | h
                    · have := hI.out.idx.1 gq h; omega
                    · have := hs06.out; omega
                  have HTK2 := hide hTk
                  have HRX := hide hrx
                  have HNO := hide hnO
                  have HDR := hide hdrop
                  have hwu := hide (Up.refl wr).drew
                  clear hTk hrx hnO hgq hdrop hx
                  subst hva
                  --C10
                  go_wp2_with fail
                  go_region_law (first
                    | (go_simp; go_at_call 22; refine (num_calls (k : Int) _ (by omega) (by omega)).mono ?_; rintro _ w7 ⟨a7, rfl, hv7, hu7⟩; have q7 := hu7.cell (p := ⟨gq, j, none⟩) (v := .int .i64 x) hcell; dsimp only)
                    | (go_simp; go_at_call 14; refine (chI_era (hI'.out.upto (hwu.out.trans hu7)) hn5.2 hkn a7 1 x (L.drop (j + 1)) hv7 HTK2.out HRX.out (by omega)).mono ?_; rintro _ w8 ⟨rfl, hc8, c8, hcc8, hi8⟩; dsimp only))
                  --C11
                  all_goals
                    rw [setT_setT] at hi8
                    have I8 := hide hi8
                    have hu07 := hwu.out.trans hu7
                    have OW8 : Hid (OwnJ w8 W0.heap.size (.slice (some ⟨gq, 0, none⟩) ln vc) L) := OwnG.chg (OwnG.up hOW.out hu07) hc8 (fun y hy h => HNO.out (by have hy : gq = y := Option.some.inj hy; rw [hy]; exact h))
                    have A8 : Hid (ArrB w8 A th) := (hAr'.out.up hu07).chg hc8 hI'.out.notA
                    have s7 := hu07.size
                    have s8 := hc8.size
                    have S8 : Hid (w6.heap.size ≤ w8.heap.size) := by have := hsz.out; show _ ≤ _; omega
                    have OO8 : Hid (∀ y, (O' y ∨ (w7.heap.size ≤ y ∧ y < w8.heap.size)) → O y ∨ w6.heap.size ≤ y) := fun y hy => hy.elim (hO'.out y) (fun h => .inr (by have := hsz.out; omega))
                    clear hi8 hc8 hu7 hu07 s7 s8 q7 hv7 hcell
                    go_wp2
                    go_roundw
                    case rel => exact ⟨j + 1, by omega, by go_num, c8, _, by omega, I8, OO8, OW8, A8, S8⟩
                    case measure => simp [intOf]; omega
                · obtain rfl : ln = j := by omega
                  --C12
                  have hd0 : L.drop ln = [] := List.drop_eq_nil_of_le (by have := HLN.out; omega)
                  rw [hd0] at hI'
                  have CT9 : Hid (CT th n (k + 1) (setT T (kI k) [])) := hCT.out.struck hkn
                  go_wp2_with fail
                  go_at_call 22
                  refine (num_calls _ _ (by omega) (by omega)).mono ?_
                  rintro _ w7 ⟨a7, rfl, hv7, hu7⟩
                  have I7 := hide (hI'.out.upto hu7)
                  have V7 : Hid (Vals w7 a7 1 (kI k)) := hv7
                  have A7 := hide (hAr'.out.up hu7)
                  clear hv7 hu7
                  go_wp2_with fail
                  go_at_call 16
                  refine (find_calls p O' false _ _ c a7 1 1 (kI k) w7 I7.out.idx HGK.out V7.out).mono ?_
                  rintro _ w8 ⟨v8, rfl, ho8, hu8⟩
                  rw [setT_same] at ho8
                  obtain ⟨a8, c8, rfl⟩ : ∃ a8 c8, v8 = .slice a8 0 c8 := by
                    rcases ho8.2 with ⟨rfl, _⟩ | ⟨q8, c8, cur, rfl, _⟩
                    · exact ⟨none, 0, rfl⟩
                    · exact ⟨_, _, rfl⟩
                  have I8 := hide (I7.out.upto hu8)
                  have A8 := hide (A7.out.up hu8)
                  clear ho8 hu8
                  go_wp2
                  go_roundw
                  case rel => exact ⟨k + 1, by omega, by go_num, _, c, O', hc', I8, CT9, A8⟩
                  case measure => simp [intOf]; omega
        · obtain rfl : n = k := by omega
          --C13
          have hall : ∀ m, T m = [] := hCT.out.all
          have hidx : Idx p O wr false T 0 c := by
            have := hI.out.idx
            rw [sumT_nil hall] at this
            exact this
          have HALL := hide hall
          have HI := hide hidx
          have HUP := hide hI.out.up
          clear hall hidx
          go_wp2_with fail
          go_at_call 18
          refine (len_calls p O false T 0 c wr HI.out).mono ?_
          rintro _ w7 ⟨rfl, hu7⟩
          have I7 := hide (HI.out.up hu7)
          have U7 := hide (HUP.out.trans hu7)
          clear hu7
          go_wp2_with fail
          go_at_call 20
          refine (all_zero p O false T c w7 I7.out HALL.out (by omega)).mono ?_
          rintro _ w8 ⟨a8, c8, rfl, hu8⟩
          have U8 := hide (U7.out.trans hu8)
          clear hu8
          go_wp2
          go_ret
          exact ⟨rfl, U8.out⟩

set_option maxHeartbeats 4000000 in
theorem hashChains_many (a : Option Addr) (n0 cap q : Nat) (w : World) (h : 80 < n0) : Calls Try.prog 5 #[.slice a n0 cap, .int .u8 q] w fun e w' => e = .returned (.bool true) ∧ Up w w' := by
  have e1 : decide ((n0 : Int) > 80) = true := decide_eq_true (by omega)
  go_enter Try.func5, Try.ntmps5
  go_wp2_with fail
  go_at_call 7
  refine (known_calls _).mono ?_
  rintro _ w1 ⟨rfl, hu1⟩
  have U1 := hide hu1
  clear hu1
  go_wp2
  go_ret
  exact ⟨rfl, U1.out⟩

theorem hashChains_all (a : Option Addr) (n0 cap : Nat) (l : List UInt8) (q : Nat) (w : World) (hq : q < 256) (h : Bts w a n0 l) : Calls Try.prog 5 #[.slice a n0 cap, .int .u8 q] w fun e w' => e = .returned (.bool true) ∧ Up w w' := by
  by_cases hn : n0 ≤ 80
  · exact hashChains_few a n0 cap l q w h.1 hn hq h.2
  · exact hashChains_many a n0 cap q w (by omega)

end Go.Proofs.Ytofpakpbbpcalaa
