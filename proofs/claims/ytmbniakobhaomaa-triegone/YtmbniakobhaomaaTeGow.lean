/-
  TrieGone: the statement's text runs to true.
-/
import Derived.Test.YtmbniakobhaomaaTeGop
import Derived.Test.YtmbniakobhaomaaTeKnw
import Derived.Deep.CutRange
import Derived.Deep.RegionHeld3
namespace Go.Proofs.Ytmbniakobhaomaa
open Go.ChangeShapes Go.WideShapes Go.ChangeAt Go.RowKit
set_option linter.unusedVariables false
set_option maxRecDepth 100000
attribute [local go_sem ↓] Go.wp_at_zero Go.wp_at_succ

theorem info_int64 : (Try.prog.info? 2).map (fun i => (i.zero, i.size, i.bytes)) = some (some (.int .i64 0), 1, 8) := by kernel_rfl
theorem gwrap (i : Nat) (h : i ≤ 30) : wrap64 ((i : Int) + 1) = ((i + 1 : Nat) : Int) := by rw [wrap64]; omega
theorem gadd (g k : Nat) : Option.map (fun x : Addr => x.add (k + 1)) (some ⟨g, 0, none⟩) = some ⟨g, k + 1, none⟩ := by simp [Addr.add]
theorem rdJ_nil0 {w : World} : RdJ w (.slice none 0 0) [] := ⟨none, 0, rfl, Nat.le_refl _, Nat.zero_le _, .inl rfl⟩
theorem gmeas (n i : Nat) (h : i < n) : n + 1 - (intOf (.int .i64 ((i + 1 : Nat) : Int))).toNat < n + 1 - (intOf (.int .i64 (i : Int))).toNat := by
  show n + 1 - ((i + 1 : Nat) : Int).toNat < n + 1 - (i : Int).toNat
  omega
theorem gk_of (q n : Nat) (h : 0 < n) : ∃ k : Nat, k < n ∧ (q : Int).tmod (n : Int) = (k : Int) ∧ (q : Int) % (n : Int) = (k : Int) :=
  ⟨q % n, Nat.mod_lt q h, rfl, rfl⟩
set_option maxHeartbeats 8000000 in
theorem trieGone_many (a0 : Option Addr) (n0 c0 : Nat) (v1 : Value) (w : World) (hn : ¬ n0 ≤ 30) :
    Calls Try.prog 6 #[.slice a0 n0 c0, v1] w fun e w' => e = .returned (.bool true) ∧ Up w w' := by
  have g0 : (n0 : Int) > 30 := by omega
  have g1 : (30 : Int) < (n0 : Int) := by omega
  have g2 : decide ((n0 : Int) > 30) = true := decide_eq_true g0
  clear hn
  go_enter Try.func6, Try.ntmps6
  go_wp2_with fail
  refine (known15_calls w).mono ?_
  rintro _ wk ⟨rfl, huk⟩
  dsimp only
  go_wp2
  go_ret
  exact ⟨rfl, huk⟩
set_option maxHeartbeats 16000000 in
theorem trieGone_few (a0 : Option Addr) (n0 c0 : Nat) (l : List ByteArray) (a1 : Option Addr) (n1 c1 : Nat) (o : List Int) (w : World) (hl : l.length = n0) (hr : Rd Value.string (fun _ => False) w (.slice a0 n0 c0) l) (hs : ∀ x ∈ l, x.size ≤ maxLen)
    (ho : o.length = n1) (hro : Rd (Value.int .u8) (fun _ => False) w (.slice a1 n1 c1) o) (hso : ∀ x ∈ o, 0 ≤ x ∧ x ≤ 255) (hn : n0 ≤ 30) :
    Calls Try.prog 6 #[.slice a0 n0 c0, .slice a1 n1 c1] w fun e w' => e = .returned (.bool true) ∧ Up w w' := by
  have HL := hide hl
  have HR := hide hr
  have HO := hide ho
  have HRO := hide hro
  have HSO := hide hso
  have g0 : ¬ (n0 : Int) > 30 := by omega
  have g1 : ¬ (30 : Int) < (n0 : Int) := by omega
  have g2 : decide ((n0 : Int) > 30) = false := decide_eq_false g0
  clear hl hr hs ho hro hso
  obtain ⟨i0, hi, hz0, hz1, hz2⟩ := info_parts info_int64
  have hmk : ∀ W : World, (Instr.makeSlice 34 (.int .i64 (n0 : Int)) (.int .i64 (n0 : Int))).run Try.prog W = .ok (.slice (some ⟨W.heap.size, 0, none⟩) n0 n0) (W.alloc (.cells (madeCells #[.int .i64 0] n0) 2)) := fun W => by
    have h := run_make (P := Try.prog) W 34 2 i0 (.int .i64 0) Try.underlying34 hi hz0 .i64 .i64 (n0 : Int) (n0 : Int) (by omega) (by omega) (by rw [hz2]; omega) (by omega)
    rw [hz1] at h
    simpa [Value.cells] using h
  replace hmk := hide hmk
  clear hi hz0 hz1 hz2
  go_enter Try.func6, Try.ntmps6
  go_wp2_with fail
  refine (known15_calls w).mono ?_
  rintro _ wk ⟨rfl, huk⟩
  replace huk := hide huk
  dsimp only
  go_wp2_with fail
  refine (trnew_calls wk).mono ?_
  rintro _ w1 ⟨T, O, rfl, hT, htr, hO, hu⟩
  have HG0 : Hid (G1 w w1 T 0 l) := hide (by
    have hs := huk.out.size
    exact ⟨⟨O, by rw [zF_0, gE_nil]; exact htr, fun y hy => Nat.le_trans hs (hO y hy)⟩, huk.out.trans hu⟩)
  clear htr hO hu hT
  dsimp only
  go_wp2_with fail
  go_loopw [6] (fun v6 wr => ∃ i : Nat, i ≤ n0 ∧ v6 = .int .i64 i ∧ Hid (G1 w wr T i l)) (fun v6 _ => n0 + 1 - (intOf v6).toNat)
  case atStart => exact ⟨0, Nat.zero_le _, rfl, HG0⟩
  case round =>
    obtain ⟨i, hi, rfl, hG⟩ := hrel
    have z0 : (0 : Int) ≤ (i : Int) := by omega
    by_cases hlt : i < n0
    · have t1 : (i : Int) < (n0 : Int) := by omega
      have hil : i < l.length := by rw [HL.out]; exact hlt
      obtain ⟨gb, ob, rfl, hg⟩ := (HR.out.up hG.out.up).get (i := i) hil
      obtain ⟨x, hx, hg1⟩ : ∃ x, x = l[i] ∧ wr.cell? ⟨gb, ob + i, none⟩ = some (.string x) := ⟨l[i], rfl, hg⟩
      have e1 := gwrap i (by omega)
      clear hg
      by_cases h60 : x.size ≤ 60
      · have t2 : ¬ (x.size : Int) > 60 := by omega
        have HIN := hide (g1_insert hG.out hil (by rw [HL.out]; exact hn) (by rw [← hx]; exact h60))
        rw [← hx] at HIN
        clear hx
        go_wp2_with fail
        refine HIN.out.mono ?_
        rintro _ w3 ⟨rfl, hg3⟩
        replace hg3 := hide hg3
        dsimp only
        go_wp2
        go_roundw
        case rel => exact ⟨i + 1, hlt, rfl, hg3⟩
        case measure => exact gmeas n0 i hlt
      · have t2 : (x.size : Int) > 60 := by omega
        have hup := hide hG.out.up
        clear hx
        go_wp2
        try go_ret
        exact ⟨rfl, hup.out⟩
    · obtain rfl : i = n0 := by omega
      have t1 : ¬ ((i : Int) < (i : Int)) := by omega
      have HLI := hide hlt
      clear hlt hi
      obtain rfl : l.length = i := HL.out
      have HG2 := hide (hG.out.gr hn)
      clear hG
      have HRW := hide (HR.out.up HG2.out.up)
      go_wp2_with (at_builtin; refine append_rd elemS rfl _ _ rfl wr.heap.size _ _ [] l rfl rfl (OwnR.nil _ _ _ _) HRW.out (by simp only [List.length_nil]; omega) (Nat.le_refl _) ?_)
      intro v7 w7 ho7 hgr7 _
      try rw [List.nil_append] at ho7
      obtain ⟨a7, c7, e7, h7⟩ := ho7.slice
      subst e7
      have hu7 : Up wr w7 := own_below (e := 9) (enc := Value.string) (l := []) (Up.refl wr) (OwnR.nil _ _ _ _) hgr7
      have HG7 := hide (HG2.out.row8 hu7 ho7)
      have HB7 := hide (fun g (hg : (Value.slice a7 l.length c7).ownBlock = some g) => (ho7.lt g hg).2)
      have H7 := hide h7
      clear ho7 hgr7 hu7 HG2 HRW h7
      go_wp2_with fail
      rw [hmk.out]
      obtain ⟨G, hGe⟩ : ∃ G, G = w7.heap.size := ⟨_, rfl⟩
      obtain ⟨w8, hw8⟩ : ∃ w8, w8 = w7.alloc (.cells (madeCells #[.int .i64 0] l.length) 2) := ⟨_, rfl⟩
      have HG8 : Hid (GR w w8 T (.slice a7 l.length c7) (.slice (some ⟨G, 0, none⟩) l.length l.length) (zF l l.length) l (iF l.length 0)) := hide (by
        rw [iF_0, hw8, hGe]
        exact HG7.out.row9 ((Up.refl _).alloc _) (OwnR.made w7 l.length (by unfold maxLen; omega)))
      have HN7 : Hid (∀ b, (Value.slice a7 l.length c7).ownBlock = some b → b ≠ G) := hide (fun b hb => by have := HB7.out b hb; omega)
      rw [← hGe, ← hw8]
      clear hGe hw8 HG7 HB7 hmk
      obtain ⟨n, hn2⟩ : ∃ n, n = l.length := ⟨_, rfl⟩
      have HNL := hide hn2
      go_wp2_with fail
      go_loopw [9] (fun v9 wr => ∃ i : Nat, i ≤ l.length ∧ v9 = .int .i64 i ∧ Hid (GR w wr T (.slice a7 l.length c7) (.slice (some ⟨G, 0, none⟩) l.length l.length) (zF l l.length) l (iF l.length i))) (fun v9 _ => l.length + 1 - (intOf v9).toNat)
      case atStart => exact ⟨0, Nat.zero_le _, rfl, HG8⟩
      case round =>
        obtain ⟨i, hi, rfl, hG⟩ := hrel
        have z0 : (0 : Int) ≤ (i : Int) := by omega
        by_cases hlt : i < l.length
        · have t1 : (i : Int) < (l.length : Int) := by omega
          obtain ⟨g, hge, y1, y2⟩ := hG.out.ids.at (i := i) (by rw [iF_len hi]; exact hlt)
          obtain rfl : G = g := by injection hge with h; injection h
          obtain ⟨u, hu⟩ : ∃ u, wr.cell? ⟨G, i, none⟩ = some u := ⟨_, y1⟩
          have e1 := gwrap i (by omega)
          have HST := hide (hG.out.store HN7.out i i)
          rw [iF_s hlt] at HST
          clear y1 hge
          go_wp2
          go_roundw
          case rel => exact ⟨i + 1, hlt, rfl, HST⟩
          case measure => exact gmeas l.length i hlt
        · obtain rfl : l.length = i := by omega
          have t1 : ¬ ((l.length : Int) < (l.length : Int)) := by omega
          have HG9 : Hid (GR w wr T (.slice a7 (zF l l.length).length c7) (.slice (some ⟨G, 0, none⟩) (zF l l.length).length l.length) (zF l l.length) ((zF l l.length).map (·.1)) ((zF l l.length).map (·.2))) := hide (by
            rw [zF_1, zF_2, zF_len, ← iF_n]
            exact hG.out)
          clear hG HN7 HG8
          go_wp2_with fail
          have HRS := hide (zF_rise l l.length)
          have hzl := zF_len l l.length
          have H77 : Hid ((zF l l.length).length ≤ c7 ∧ (zF l l.length).length ≤ l.length) := hide ⟨by rw [hzl]; exact H7.out, by rw [hzl]; exact Nat.le_refl _⟩
          obtain ⟨N, hN⟩ : ∃ N, N = l.length := ⟨_, rfl⟩
          have hzl2 : (zF l l.length).length = N := by rw [hN]; exact hzl
          go_loopw [7, 8, 10, 11] (fun v7 v8 v10 v11 wr => ∃ (z : SZ) (a7 a8 : Option Addr) (d7 d8 i : Nat), i + z.length = N ∧ v7 = .slice a7 z.length d7 ∧ v8 = .slice a8 z.length d8 ∧ v10 = .int .i64 i ∧ Hid (GR w wr T (.slice a7 z.length d7) (.slice a8 z.length d8) z (z.map (·.1)) (z.map (·.2))) ∧ Hid (GRise z) ∧ Hid (z.length ≤ d7 ∧ z.length ≤ d8)) (fun _ _ v10 _ _ => N + 1 - (intOf v10).toNat)
          case atStart => exact ⟨zF l l.length, a7, some ⟨G, 0, none⟩, c7, l.length, 0, by rw [hzl2]; omega, by rw [hzl], by rw [hzl], rfl, HG9, HRS, H77⟩
          case round =>
            obtain ⟨z, b7, b8, d7, d8, i, hiz, rfl, rfl, rfl, hG, hR, hD⟩ := hrel
            have z0 : (0 : Int) ≤ (i : Int) := by omega
            by_cases hz : 0 < z.length
            · have t1 : (z.length : Int) > 0 := by omega
              have t2 : decide ((z.length : Int) > 0) = true := decide_eq_true t1
              obtain ⟨W, hW⟩ : ∃ W, W = wr := ⟨_, rfl⟩
              rw [← hW] at hG ⊢
              clear hW
              go_upto_if 61 with fail
              go_cut [11] from 53 to 116 (fun v wx => ∃ k : Nat, k < z.length ∧ v = .int .i64 k ∧ wx = W)
              case first =>
                by_cases hio : i < n1
                · have t3 : (i : Int) < (n1 : Int) := by omega
                  have hio2 : i < o.length := by rw [HO.out]; exact hio
                  obtain ⟨gq, oq, rfl, hq⟩ := (HRO.out.up hG.out.up).get (i := i) hio2
                  have hq2 := HSO.out _ (List.getElem_mem hio2)
                  obtain ⟨q, hqe⟩ : ∃ q : Nat, o[i] = (q : Int) := ⟨o[i].toNat, by omega⟩
                  rw [hqe] at hq hq2
                  have ew : IntKind.i64.wrap (q : Int) = (q : Int) := by rw [IntKind.wrap_i64]; omega
                  have k0 : ¬ ((z.length : Int) = 0) := by omega
                  obtain ⟨k, hk, ek1, ek2⟩ := gk_of q z.length hz
                  clear hqe hq2 t2
                  go_wp2_with fail
                  go_meet
                  exact ⟨k, hk, rfl, rfl⟩
                · have t3 : ¬ (i : Int) < (n1 : Int) := by omega
                  go_wp2_with fail
                  go_meet
                  exact ⟨0, hz, rfl, rfl⟩
              case rest =>
                obtain ⟨k, hk, rfl, hwc⟩ := hcut
                rw [hwc]
                clear hwc
                clear t2
                obtain ⟨x, hx⟩ : ∃ x, x = z[k].1 := ⟨_, rfl⟩
                obtain ⟨id, hid⟩ : ∃ id, id = z[k].2 := ⟨_, rfl⟩
                obtain ⟨z', hz'⟩ : ∃ z', z' = z.take k ++ z.drop (k + 1) := ⟨_, rfl⟩
                obtain ⟨e1, e2, e3, e4⟩ := gE_del hR.out hk
                have HNI : Hid (id ∉ gE z' x.data.toList) := hide (by rw [hid, hx, hz']; exact e3)
                have HR' : Hid (GRise z') := hide (by rw [hz']; exact e4)
                have HL' : Hid (z'.length + 1 = z.length) := hide (by rw [hz']; simp; omega)
                have HM1 : Hid (z'.map (·.1) = (z.map (·.1)).take k ++ (z.map (·.1)).drop (k + 1)) := hide (by rw [hz']; simp [List.map_take, List.map_drop])
                have HM2 : Hid (z'.map (·.2) = (z.map (·.2)).take k ++ (z.map (·.2)).drop (k + 1)) := hide (by rw [hz']; simp [List.map_take, List.map_drop])
                have HE1 : Hid (∀ w5, Up W w5 → Calls Try.prog 14 #[.pointer (some ⟨T, 0, none⟩), .string x, .int .i64 id] w5 fun e w' => e = .returned (.int .i64 0) ∧ GR w w' T (.slice b7 z.length d7) (.slice b8 z.length d8) z' (z.map (·.1)) (z.map (·.2))) := hide (fun w5 hu => by
                  rw [hx, hid, hz']
                  exact gr_erase (hG.out.upw hu) hR.out hk)
                have HE2 : Hid (∀ w5, GR w w5 T (.slice b7 z.length d7) (.slice b8 z.length d8) z' (z.map (·.1)) (z.map (·.2)) → ∀ w6, Up w5 w6 → Calls Try.prog 14 #[.pointer (some ⟨T, 0, none⟩), .string x, .int .i64 id] w6 fun e w' => e = .returned (.int .i64 71) ∧ GR w w' T (.slice b7 z.length d7) (.slice b8 z.length d8) z' (z.map (·.1)) (z.map (·.2))) := hide (fun w5 h w6 hu => gr_gone (h.upw hu) x id HNI.out)
                obtain ⟨g7, rfl, y1, _⟩ := hG.out.left.at (i := k) (by rw [List.length_map]; exact hk)
                obtain ⟨g8, rfl, y2, _⟩ := hG.out.ids.at (i := k) (by rw [List.length_map]; exact hk)
                rw [List.getElem_map, ← hx] at y1
                rw [List.getElem_map, ← hid] at y2
                have HSG : Hid (∀ (w5 : World) (zz : SZ), GR w w5 T (.slice (some ⟨g7, 0, none⟩) z.length d7) (.slice (some ⟨g8, 0, none⟩) z.length d8) zz (z.map (·.1)) (z.map (·.2)) → ∀ w6, Up w5 w6 → (w6.cell? ⟨g7, k, none⟩ = some (.string x) ∧ w6.cell? ⟨g8, k, none⟩ = some (.int .i64 id))) := hide (fun w5 zz h w6 hu => by
                  obtain ⟨h7, q7, y1, _⟩ := (h.upw hu).left.at (i := k) (by rw [List.length_map]; exact hk)
                  obtain ⟨h8, q8, y2, _⟩ := (h.upw hu).ids.at (i := k) (by rw [List.length_map]; exact hk)
                  rw [List.getElem_map, ← hx] at y1
                  rw [List.getElem_map, ← hid] at y2
                  injection q7 with q7; injection q7 with q7
                  injection q8 with q8; injection q8 with q8
                  rw [q7, q8]
                  exact ⟨y1, y2⟩)
                have HK := hide hk
                have k0 : (0 : Int) ≤ (k : Int) := by omega
                have k1 : (k : Int) < (z.length : Int) := by omega
                clear e1 e2 e3 e4 hx hid hz' y1 y2
                go_upto_region 25 with fail
                refine wp_region_noPanic ?_
                go_region_held3 (fun w' => w'.cell? ⟨g7, k, none⟩ = some (.string x) ∧ w'.cell? ⟨g8, k, none⟩ = some (.int .i64 id))
                  (first | exact HSG.out _ _ hg6 _ (by repeat' (with_reducible first | assumption | exact Up.refl _ | apply Up.alloc | apply Up.drew)) | exact HSG.out _ _ hg5 _ (by repeat' (with_reducible first | assumption | exact Up.refl _ | apply Up.alloc | apply Up.drew)) | exact HSG.out _ _ hG.out _ (by repeat' (with_reducible first | assumption | exact Up.refl _ | apply Up.alloc | apply Up.drew)))
                  (first
                    | (go_at_call 14; refine (HE2.out _ hg5 _ (by repeat' (with_reducible first | assumption | exact Up.refl _ | apply Up.alloc | apply Up.drew))).mono ?_; rintro _ w6 ⟨rfl, hg6⟩)
                    | (go_at_call 14; refine (HE1.out _ (by repeat' (with_reducible first | assumption | exact Up.refl _ | apply Up.alloc | apply Up.drew))).mono ?_; rintro _ w5 ⟨rfl, hg5⟩))
                rename_i hHeld
                clear hHeld
                replace hg6 := hide hg6
                clear hg5 HE1 HE2 HSG
                have jn : (k : Int) ≤ (z.length : Int) := by omega
                have jc7 : (k : Int) ≤ (d7 : Int) := by have := hD.out.1; omega
                have jc8 : (k : Int) ≤ (d8 : Int) := by have := hD.out.2; omega
                have nc7 : (z.length : Int) ≤ (d7 : Int) := by have := hD.out.1; omega
                have nc8 : (z.length : Int) ≤ (d8 : Int) := by have := hD.out.2; omega
                have j1 : (0 : Int) ≤ (k : Int) + 1 := by omega
                have j2 : (k : Int) + 1 ≤ (z.length : Int) := by omega
                have j37 : (k : Int) + 1 ≤ (d7 : Int) := by omega
                have j38 : (k : Int) + 1 ≤ (d8 : Int) := by omega
                have jt : ((k : Int) + 1).toNat = k + 1 := by omega
                have hf6 : z.length ≤ 31 := by have := hg6.out.few; have := HL'.out; omega
                have ew1 : IntKind.i64.wrap ((k : Int) + 1) = (k : Int) + 1 := by rw [IntKind.wrap_i64]; omega
                have HTL : Hid ((z.map (·.1)).length ≤ 31 ∧ (z.map (·.2)).length ≤ 31) := hide ⟨by rw [List.length_map]; exact hf6, by rw [List.length_map]; exact hf6⟩
                have HRT7 := hide ((hg6.out.left.rd (X := fun _ => False) (fun _ _ h => h)).take (m := k) (by have := HK.out; omega))
                have HRD7 : Hid (Rd Value.string (fun _ => False) w6 (.slice (if d7 = k + 1 then some ⟨g7, 0, none⟩ else some ⟨g7, k + 1, none⟩) (z.length - (k + 1)) (d7 - (k + 1))) ((z.map (·.1)).drop (k + 1))) := hide (by
                  have h := (hg6.out.left.rd (X := fun _ => False) (fun _ _ h => h)).drop1 (m := k + 1) (by have := HK.out; omega)
                  rwa [gadd] at h)
                refine NoPanic.normal ?_
                go_upto_region 27 with fail
                --P9
                refine wp_region_noPanic ?_
                go_region_held3 (fun w' => Up w6 w') (exact (by repeat' (with_reducible first | assumption | exact Up.refl _ | apply Up.alloc | apply Up.drew)))
                  (first
                    | (refine step_append_row elemS (W := w6) rfl _ _ rfl (.slice none 0 0) _ [] ((z.map (·.1)).take k) rfl rfl (by repeat' (with_reducible first | assumption | exact Up.refl _ | apply Up.alloc | apply Up.drew)) (OwnR.nil _ _ _ _) (Rd.up HRT7.out (by repeat' (with_reducible first | assumption | exact Up.refl _ | apply Up.alloc | apply Up.drew))) (by have := HTL.out; simp only [List.length_nil, List.length_take]; omega) ?_; intro v5 w7 ho5 hu5; try rw [List.nil_append] at ho5)
                    | (refine step_append_row elemS (W := w6) rfl _ _ rfl _ _ ((z.map (·.1)).take k) ((z.map (·.1)).drop (k + 1)) rfl rfl (by repeat' (with_reducible first | assumption | exact Up.refl _ | apply Up.alloc | apply Up.drew)) (OwnR.up ho5 (by repeat' (with_reducible first | assumption | exact Up.refl _ | apply Up.alloc | apply Up.drew))) (Rd.up HRD7.out (by repeat' (with_reducible first | assumption | exact Up.refl _ | apply Up.alloc | apply Up.drew))) (by have := HTL.out; simp only [List.length_take, List.length_drop]; omega) ?_; intro v6 w8 ho6 hu6))
                refine NoPanic.normal ?_
                rw [← HM1.out] at ho6
                obtain ⟨a6, c6, e6, h6⟩ := ho6.slice
                rw [List.length_map] at e6 h6
                subst e6
                have HG8 := hide (hg6.out.row8 hu6 ho6)
                have H6 := hide h6
                clear ho6 hu6 ho5 hu5 h6 HRT7 HRD7
                have HRT8 := hide ((HG8.out.ids.rd (X := fun _ => False) (fun _ _ h => h)).take (m := k) (by have := HK.out; omega))
                have HRD8 : Hid (Rd (Value.int .i64) (fun _ => False) w8 (.slice (if d8 = k + 1 then some ⟨g8, 0, none⟩ else some ⟨g8, k + 1, none⟩) (z.length - (k + 1)) (d8 - (k + 1))) ((z.map (·.2)).drop (k + 1))) := hide (by
                  have h := (HG8.out.ids.rd (X := fun _ => False) (fun _ _ h => h)).drop1 (m := k + 1) (by have := HK.out; omega)
                  rwa [gadd] at h)
                go_upto_region 28 with fail
                --P10
                refine wp_region_noPanic ?_
                go_region_held3 (fun w' => Up w8 w') (exact (by repeat' (with_reducible first | assumption | exact Up.refl _ | apply Up.alloc | apply Up.drew)))
                  (first
                    | (refine step_append_row elemL (W := w8) rfl _ _ rfl (.slice none 0 0) _ [] ((z.map (·.2)).take k) rfl rfl (by repeat' (with_reducible first | assumption | exact Up.refl _ | apply Up.alloc | apply Up.drew)) (OwnR.nil _ _ _ _) (Rd.up HRT8.out (by repeat' (with_reducible first | assumption | exact Up.refl _ | apply Up.alloc | apply Up.drew))) (by have := HTL.out; simp only [List.length_nil, List.length_take]; omega) ?_; intro v5 w7 ho5 hu5; try rw [List.nil_append] at ho5)
                    | (refine step_append_row elemL (W := w8) rfl _ _ rfl _ _ ((z.map (·.2)).take k) ((z.map (·.2)).drop (k + 1)) rfl rfl (by repeat' (with_reducible first | assumption | exact Up.refl _ | apply Up.alloc | apply Up.drew)) (OwnR.up ho5 (by repeat' (with_reducible first | assumption | exact Up.refl _ | apply Up.alloc | apply Up.drew))) (Rd.up HRD8.out (by repeat' (with_reducible first | assumption | exact Up.refl _ | apply Up.alloc | apply Up.drew))) (by have := HTL.out; simp only [List.length_take, List.length_drop]; omega) ?_; intro v6 w9 ho7 hu7))
                refine NoPanic.normal ?_
                rw [← HM2.out] at ho7
                obtain ⟨a9, c9, e9, h9⟩ := ho7.slice
                rw [List.length_map] at e9 h9
                subst e9
                have HG9 := hide (HG8.out.row9 hu7 ho7)
                have H9 := hide h9
                have HLN := hide (gr_len HG9.out)
                have eiw := gwrap i (by have := HL'.out; have := hg6.out.few; have := hn; omega)
                clear ho7 hu7 ho5 hu5 h9 HRT8 HRD8 HG8
                --P11
                go_wp2_with (go_at_call 18; refine HLN.out.mono ?_; rintro _ _ ⟨rfl, rfl⟩)
                go_wp2
                go_roundw
                case rel => exact ⟨z', a6, a9, c6, c9, i + 1, by have := HL'.out; omega, rfl, rfl, by rw [eiw], HG9, HR', hide ⟨H6.out, H9.out⟩⟩
                case measure =>
                  rw [eiw]
                  exact gmeas N i (by omega)
            · have hz0 : z = [] := List.length_eq_zero_iff.1 (by omega)
              subst hz0
              --P6
              obtain ⟨W, hW⟩ : ∃ W, W = wr := ⟨_, rfl⟩
              rw [← hW] at hG ⊢
              clear hW
              have HND := hide (gr_nodes hG.out)
              go_wp2_with (first
                | (go_at_call 19; refine HND.out.mono ?_; rintro _ W2 ⟨nd, hnd, rfl, rfl⟩; have t3 : (nd : Int) ≤ 1 := by omega)
                | (go_at_call 10; refine (gr_all hG.out).mono ?_; rintro _ wa ⟨a, c, rfl, hua⟩; replace hua := hide hua)
                | (go_at_call 13; refine (gr_find (hG.out.upw hua.out) _).mono ?_; rintro _ wf ⟨v, rfl, hv, huf⟩; replace hv := hide hv; replace huf := hide huf)
                | (go_at_call 12; refine (ids_calls v (.slice none 0 0) [] [] _ hv.out rdJ_nil0 (by simp)).mono ?_; rintro _ wi ⟨rfl, hui⟩; replace hui := hide hui))

              go_ret
              exact ⟨rfl, ((hG.out.up.trans hua.out).trans huf.out).trans hui.out⟩
end Go.Proofs.Ytmbniakobhaomaa
