/-
  UndoNests' own variables, add, and what is done within a log within a log.
-/
import Derived.Test.YtobalfckdknbdaaUdKnw
import Derived.Test.YtobalfckdknbdaaUdDo
namespace Go.Proofs.Ytobalfckdknbdaa
open Go.RowKit
set_option linter.unusedVariables false
set_option maxRecDepth 20000
attribute [local go_sem ↓] Go.wp_at_zero Go.wp_at_succ

/-- The log of the law: l's variable bl, n's bn, add's ba; n counts what is in the log. -/
structure NsL (T bl bn ba : Nat) (l : List Bk) (W : World) : Prop where
  log : LogAt T l W
  fns : ∀ k ∈ l, k.fn = 16 ∧ k.cap = #[.pointer (some ⟨bn, 0, none⟩)]
  apart : ∀ k ∈ l, k.blk ≠ bn ∧ k.blk ≠ bl ∧ k.blk ≠ ba
  cn : W.cell? ⟨bn, 0, none⟩ = some (.int .i64 l.length)
  free : W.frozen? ⟨bn, 0, none⟩ = false
  cl : W.cell? ⟨bl, 0, none⟩ = some (.pointer (some ⟨T, 0, none⟩))
  ca : W.cell? ⟨ba, 0, none⟩ = some (.func (.func 15) #[] #[.pointer (some ⟨bn, 0, none⟩), .pointer (some ⟨bl, 0, none⟩)])
  ne : bn ≠ T ∧ bl ≠ T ∧ ba ≠ T ∧ bl ≠ bn ∧ ba ≠ bn

/-- The blocks that add and Back turn. -/
def TB (T bn : Nat) : Nat → Prop := fun y => y = T ∨ y = bn

theorem NsL.old {T bl bn ba : Nat} {l : List Bk} {W : World} (h : NsL T bl bn ba l W) : (T < W.heap.size ∧ bl < W.heap.size ∧ bn < W.heap.size ∧ ba < W.heap.size) ∧ ∀ k ∈ l, k.blk < W.heap.size :=
  ⟨⟨h.log.old.1, World.block_lt_of_cell? W ⟨bl, 0, none⟩ h.cl, World.block_lt_of_cell? W ⟨bn, 0, none⟩ h.cn, World.block_lt_of_cell? W ⟨ba, 0, none⟩ h.ca⟩, h.log.old.2⟩
theorem NsL.chg {T bl bn ba : Nat} {l : List Bk} {W W' : World} {C : Nat → Prop} (h : NsL T bl bn ba l W) (hc : Chg C W W') (h1 : ¬ C T ∧ ¬ C bl ∧ ¬ C bn ∧ ¬ C ba) (h2 : ∀ k ∈ l, ¬ C k.blk) : NsL T bl bn ba l W' :=
  ⟨h.log.chg hc h1.1 h2, h.fns, h.apart, hc.cell (p := ⟨bn, 0, none⟩) h.cn h1.2.2.1, (hc.frozen (p := ⟨bn, 0, none⟩) h.old.1.2.2.1 h1.2.2.1).trans h.free, hc.cell (p := ⟨bl, 0, none⟩) h.cl h1.2.1, hc.cell (p := ⟨ba, 0, none⟩) h.ca h1.2.2.2, h.ne⟩
theorem NsL.up {T bl bn ba : Nat} {l : List Bk} {W W' : World} (h : NsL T bl bn ba l W) (hu : Up W W') : NsL T bl bn ba l W' :=
  h.chg (C := fun _ => False) (Chg.of_up hu) ⟨id, id, id, id⟩ (fun _ _ => id)

theorem ns_dec (B c : Nat) (hc : c < 1000000) (w : World) (h : w.cell? ⟨B, 0, none⟩ = some (.int .i64 ((c + 1 : Nat) : Int))) (hf : w.frozen? ⟨B, 0, none⟩ = false) :
    Calls Try.prog 16 #[.pointer (some ⟨B, 0, none⟩)] w fun e w' => e = .returned (.tuple #[]) ∧ w' = w.setCell ⟨B, 0, none⟩ (.int .i64 c) := by
  have hw : wrap64 (((c + 1 : Nat) : Int) - 1) = (c : Int) := by rw [IntWalk.wrap64_in _ (by omega)]; omega
  have hw' : wrap64 (((c + 1 : Nat) : Int) + -1) = (c : Int) := by rw [IntWalk.wrap64_in _ (by omega)]; omega
  go_enter Try.func16, Try.ntmps16
  go_wp2
  go_end0
  exact ⟨rfl, by simp⟩

set_option maxHeartbeats 1600000 in
theorem ns_back {T bl bn ba : Nat} {l : List Bk} {W : World} (h : NsL T bl bn ba l W) (m : Nat) (hm : m ≤ l.length) :
    Calls Try.prog 10 #[.pointer (some ⟨T, 0, none⟩), .int .i64 m] W fun e W' => e = .returned (.bool true) ∧ NsL T bl bn ba (l.drop (l.length - m)) W' ∧ Chg (TB T bn) W W' := by
  have hf := h.log.few
  refine (udBack_box T bn l m (fun r => .int .i64 r.length) W h.log hm h.ne.1 h.cn h.free (fun k hk => (h.apart k hk).1) ?_ ?_).mono ?_
  · intro k hk w'
    obtain ⟨h1, h2⟩ := h.fns k hk
    rw [h1]; rfl
  · rintro k r W' ⟨p, hp⟩ hmr hcell hfz
    have hkl : k ∈ l := by rw [hp]; exact List.mem_append_right _ (List.mem_cons_self ..)
    have hl : l.length = p.length + (r.length + 1) := by rw [hp, List.length_append, List.length_cons]
    obtain ⟨h1, h2⟩ := h.fns k hkl
    rw [h1, h2]
    exact ns_dec bn r.length (by omega) W' hcell hfz
  · rintro _ W' ⟨rfl, hl, hj⟩
    refine ⟨rfl, ⟨hl, fun k hk => h.fns k (List.mem_of_mem_drop hk), fun k hk => h.apart k (List.mem_of_mem_drop hk), hj.at', hj.free, ?_, ?_, h.ne⟩, hj.chg⟩
    · exact hj.chg.cell (p := ⟨bl, 0, none⟩) h.cl (fun e => e.elim h.ne.2.1 h.ne.2.2.2.1)
    · exact hj.chg.cell (p := ⟨ba, 0, none⟩) h.ca (fun e => e.elim h.ne.2.2.1 h.ne.2.2.2.2)

set_option maxHeartbeats 1600000 in
theorem ns_add {T bl bn ba : Nat} {l : List Bk} {W : World} (h : NsL T bl bn ba l W) (hn : l.length < 1000) :
    Calls Try.prog 15 #[.pointer (some ⟨bn, 0, none⟩), .pointer (some ⟨bl, 0, none⟩)] W fun e W' => e = .returned (.tuple #[]) ∧ ∃ k : Bk, k.blk = W.heap.size ∧ NsL T bl bn ba (k :: l) W' ∧ Chg (TB T bn) W W' := by
  have hmf : ∀ (fn : Fn) (first cap : Array Value) (w : World), (Instr.makeFunc fn first cap).run Try.prog w = .ok (.func fn first cap) w := fun _ _ _ _ => rfl
  have hw : wrap64 ((l.length : Int) + 1) = ((l.length + 1 : Nat) : Int) := by rw [IntWalk.wrap64_in _ (by omega)]; omega
  have H := hide h
  have cn := h.cn
  have cl := h.cl
  have fr := h.free
  have hne : ¬ bl = bn := h.ne.2.2.2.1
  have hne' : ¬ bn = bl := fun e => hne e.symm
  clear h
  go_enter Try.func15, Try.ntmps15
  go_wp2_with fail
  have hc1 : Chg (fun y => y = bn) W (W.setCell ⟨bn, 0, none⟩ (.int .i64 ((l.length : Int) + 1))) := Chg.chT (Chg.refl _ W) 0 _
  have hl1 : LogAt T l (W.setCell ⟨bn, 0, none⟩ (.int .i64 ((l.length : Int) + 1))) := H.out.log.chg hc1 (fun e => H.out.ne.1 e.symm) (fun k hk => (H.out.apart k hk).1)
  have hn1 : (W.setCell ⟨bn, 0, none⟩ (.int .i64 ((l.length : Int) + 1))).cell? ⟨bn, 0, none⟩ = some (.int .i64 ((l.length : Int) + 1)) := World.cell?_setCell_same _ _ _ cn
  have hf1 : (W.setCell ⟨bn, 0, none⟩ (.int .i64 ((l.length : Int) + 1))).frozen? ⟨bn, 0, none⟩ = false := by rw [World.frozen?_setCell]; exact fr
  have hcl1 := hc1.cell (p := ⟨bl, 0, none⟩) H.out.cl hne
  have hca1 := hc1.cell (p := ⟨ba, 0, none⟩) H.out.ca H.out.ne.2.2.2.2
  have hs1 : (W.setCell ⟨bn, 0, none⟩ (.int .i64 ((l.length : Int) + 1))).heap.size = W.heap.size := by simp
  generalize W.setCell ⟨bn, 0, none⟩ (.int .i64 ((l.length : Int) + 1)) = W1 at *
  go_at_call 8
  refine (udAdd_calls T l _ _ W1 hl1 (by omega)).mono ?_
  rintro _ W2 ⟨rfl, hl2, hc2, hs2⟩
  have hne1 := H.out.ne
  have n1 := hc2.cell (p := ⟨bn, 0, none⟩) hn1 hne1.1
  have n2 := (hc2.frozen (p := ⟨bn, 0, none⟩) (World.block_lt_of_cell? _ _ hn1) hne1.1).trans hf1
  have n3 := hc2.cell (p := ⟨bl, 0, none⟩) hcl1 hne1.2.1
  have n4 := hc2.cell (p := ⟨ba, 0, none⟩) hca1 hne1.2.2.1
  have hold := H.out.old.1
  have hR : Hid (∃ k : Bk, k.blk = W.heap.size ∧ NsL T bl bn ba (k :: l) W2 ∧ Chg (TB T bn) W W2) := by
    refine hide ⟨_, hs1, ⟨hl2, ?_, ?_, by rw [n1]; simp, n2, n3, n4, hne1⟩, (hc1.mono (fun _ _ h => Or.inr h)).trans hc2 (fun _ _ h => .inl h)⟩
    · intro k hk
      rcases List.mem_cons.1 hk with rfl | hk
      · exact ⟨rfl, rfl⟩
      · exact H.out.fns k hk
    · intro k hk
      rcases List.mem_cons.1 hk with rfl | hk
      · show W1.heap.size ≠ bn ∧ W1.heap.size ≠ bl ∧ W1.heap.size ≠ ba
        omega
      · exact H.out.apart k hk
  clear H hl1 hn1 hf1 hcl1 hca1 hs1 hl2 hc2 hs2 n1 n2 n3 n4 hold hc1 cn cl fr hw
  go_wp2
  go_end0
  exact ⟨rfl, hR.out⟩

set_option maxHeartbeats 4000000 in
/-- What the inner Do calls: two adds, and an error where bad says so. -/
theorem ns_inner {T bl bn ba bb : Nat} {l : List Bk} {W : World} (bad : Bool) (h : NsL T bl bn ba l W) (hb : W.cell? ⟨bb, 0, none⟩ = some (.bool bad)) (hT : ¬ TB T bn bb) (hn : l.length < 900) :
    Calls Try.prog 19 #[.pointer (some ⟨ba, 0, none⟩), .pointer (some ⟨bb, 0, none⟩)] W fun e W' => e = .returned (if bad then .iface 37 (.int .i64 70) else .nilIface) ∧ ∃ k1 k2 : Bk, W.heap.size ≤ k1.blk ∧ W.heap.size ≤ k2.blk ∧ NsL T bl bn ba (k2 :: k1 :: l) W' ∧ Chg (TB T bn) W W' := by
  have H := hide h
  have ca := h.ca
  clear h
  go_enter Try.func19, Try.ntmps19
  go_wp2_with fail
  refine (ns_add H.out (by omega)).mono ?_
  rintro _ W1 ⟨rfl, k1, hk1, h1, hc1⟩
  have ca1 := h1.ca
  have hb1 := hc1.cell (p := ⟨bb, 0, none⟩) hb hT
  have hs1 := hc1.size
  have H1 := hide h1
  have C1 := hide hc1
  clear h1 hc1 hb ca
  dsimp only
  go_wp2_with fail
  refine (ns_add H1.out (by simp; omega)).mono ?_
  rintro _ W2 ⟨rfl, k2, hk2, h2, hc2⟩
  have hb2 := hc2.cell (p := ⟨bb, 0, none⟩) hb1 hT
  have hR : Hid (∃ k1 k2 : Bk, W.heap.size ≤ k1.blk ∧ W.heap.size ≤ k2.blk ∧ NsL T bl bn ba (k2 :: k1 :: l) W2 ∧ Chg (TB T bn) W W2) :=
    hide ⟨k1, k2, by omega, by omega, h2, C1.out.trans hc2 (fun _ _ h => h)⟩
  clear H H1 C1 hk1 hk2 h2 hc2 hb1 ca1 hs1
  dsimp only
  obtain ⟨k1, k2, r1, r2, r3, r4⟩ := hR.out
  have hR := hide (⟨r3, r4⟩ : NsL T bl bn ba (k2 :: k1 :: l) W2 ∧ Chg (TB T bn) W W2)
  clear r3 r4
  cases bad
  · go_wp2
    go_ret
    exact ⟨rfl, k1, r1, k2, r2, hR.out⟩
  · go_wp2
    go_ret
    exact ⟨rfl, k1, r1, k2, r2, hR.out⟩

/-- What the inner Do leaves behind while its own variables still stand. -/
def NsR (T bl bn ba : Nat) (l : List Bk) (W x : World) : Prop := ∃ k1 k2 : Bk, W.heap.size + 4 ≤ k1.blk ∧ W.heap.size + 4 ≤ k2.blk ∧ NsL T bl bn ba (k2 :: k1 :: l) x ∧ Chg (TB T bn) W x
theorem nsR_stable {T bl bn ba : Nat} {l : List Bk} {W : World} (h : NsL T bl bn ba l W) (x y : World) (hr : NsR T bl bn ba l W x) (hc : Chg (Mid W.heap.size (W.heap.size + 4)) x y) : NsR T bl bn ba l W y := by
  obtain ⟨k1, k2, h1, h2, h3, h4⟩ := hr
  obtain ⟨⟨b1, b2, b3, b4⟩, b5⟩ := h.old
  refine ⟨k1, k2, h1, h2, h3.chg hc ⟨fun m => ?_, fun m => ?_, fun m => ?_, fun m => ?_⟩ ?_, h4.trans hc (fun z hz m => ?_)⟩
  · have := m.1; omega
  · have := m.1; omega
  · have := m.1; omega
  · have := m.1; omega
  · intro k hk m
    rcases List.mem_cons.1 hk with rfl | hk
    · have := m.2; omega
    · rcases List.mem_cons.1 hk with rfl | hk
      · have := m.2; omega
      · have := b5 k hk; have := m.1; omega
  · have := m.1; omega
theorem tb_old {T bl bn ba : Nat} {l : List Bk} {W : World} (h : NsL T bl bn ba l W) : ∀ y, TB T bn y → ¬ Mid W.heap.size (W.heap.size + 4) y := by
  obtain ⟨⟨b1, b2, b3, b4⟩, b5⟩ := h.old
  rintro y (rfl | rfl) m
  · have := m.1; omega
  · have := m.1; omega

theorem ns_do_ok {T bl bn ba bb : Nat} {l : List Bk} {W : World} (h : NsL T bl bn ba l W) (hb : W.cell? ⟨bb, 0, none⟩ = some (.bool false)) (hT : ¬ TB T bn bb) (hn : l.length < 900) :
    Calls Try.prog 17 #[.pointer (some ⟨T, 0, none⟩), .func (.func 19) #[] #[.pointer (some ⟨ba, 0, none⟩), .pointer (some ⟨bb, 0, none⟩)]] W fun e W' => e = .returned .nilIface ∧ NsR T bl bn ba l W W' := by
  refine (do_ok T l _ _ (TB T bn) (NsR T bl bn ba l W) W h.log (fun _ => rfl) ?_ (tb_old h) (fun x y => nsR_stable h x y)).mono (fun _ _ h => h)
  intro x hu hs
  refine (ns_inner false (h.up hu) (hu.cell hb) hT hn).mono ?_
  rintro _ x' ⟨rfl, k1, k2, h1, h2, h3, h4⟩
  exact ⟨rfl, h4, k1, k2, by omega, by omega, h3, (Chg.of_up hu).trans h4 (fun _ _ h => h)⟩

theorem ns_do_bad {T bl bn ba bb : Nat} {l : List Bk} {W : World} (h : NsL T bl bn ba l W) (hb : W.cell? ⟨bb, 0, none⟩ = some (.bool true)) (hT : ¬ TB T bn bb) (hn : l.length < 900) :
    Calls Try.prog 17 #[.pointer (some ⟨T, 0, none⟩), .func (.func 19) #[] #[.pointer (some ⟨ba, 0, none⟩), .pointer (some ⟨bb, 0, none⟩)]] W fun e W' => e = .returned (.iface 37 (.int .i64 70)) ∧ NsL T bl bn ba l W' ∧ Chg (TB T bn) W W' := by
  refine (do_err T l _ _ _ _ (TB T bn) (TB T bn) (NsR T bl bn ba l W) (fun y => NsL T bl bn ba l y ∧ Chg (TB T bn) W y) W h.log (fun _ => rfl) ?_ (tb_old h) (fun x y => nsR_stable h x y) (tb_old h) ?_).mono (fun _ _ h => h)
  · intro x hu hs
    refine (ns_inner true (h.up hu) (hu.cell hb) hT hn).mono ?_
    rintro _ x' ⟨rfl, k1, k2, h1, h2, h3, h4⟩
    exact ⟨rfl, h4, k1, k2, by omega, by omega, h3, (Chg.of_up hu).trans h4 (fun _ _ h => h)⟩
  · rintro y ⟨k1, k2, h1, h2, h3, h4⟩
    refine (ns_back h3 l.length (by simp; omega)).mono ?_
    rintro _ y' ⟨rfl, h5, h6⟩
    have e : (k2 :: k1 :: l).drop ((k2 :: k1 :: l).length - l.length) = l := by
      have : (k2 :: k1 :: l).length - l.length = 2 := by simp; omega
      rw [this]; rfl
    rw [e] at h5
    exact ⟨rfl, h6, h5, h4.trans h6 (fun _ _ h => h)⟩

end Go.Proofs.Ytobalfckdknbdaa
