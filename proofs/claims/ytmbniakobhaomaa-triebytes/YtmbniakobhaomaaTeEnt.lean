/-
  The keys of a map in their order; a row of entries that grows; entries, as its text runs.
-/
import Derived.Test.YtmbniakobhaomaaTeEnm
import Derived.Test.YtmbniakobhaomaaTeItr
import Derived.Test.YtmbniakobhaomaaBySmG
import Derived.Test.YtmbniakobhaomaaVals
namespace Go.Proofs.Ytmbniakobhaomaa
open Go.ChangeShapes Go.WideShapes Go.ChangeAt Go.RowKit
set_option linter.unusedVariables false
set_option maxRecDepth 100000
attribute [local go_sem ↓] Go.wp_at_zero Go.wp_at_succ

def SortedOut (w : World) (f : UInt8 → Option Nat) (e : Ending) (w' : World) : Prop :=
  ∃ (a : Option Addr) (cap : Nat) (ks : List UInt8), e = .returned (.slice a ks.length cap) ∧ ks.Pairwise (· < ·) ∧ (∀ x, x ∈ ks ↔ (f x).isSome = true) ∧ (ks = [] ∨ ∃ g, a = some ⟨g, 0, none⟩ ∧ w.heap.size ≤ g ∧ ∀ i, i < ks.length → w'.cell? ⟨g, i, none⟩ = some (.int .u8 ((ks.getD i 0).toNat : Int))) ∧ Up w w'
theorem sortedB_calls (B Bm M c : Nat) (f : UInt8 → Option Nat) (w : World) (hS : SortBy B) (hcB : c ≤ B) (hBm : Bm < w.heap.size) (hm : w.cell? ⟨Bm, 0, none⟩ = some (.map (some M))) (hmap : MapB w M f c) (hks : ∀ ks : List UInt8, ks.Nodup → (∀ x, x ∈ ks ↔ (f x).isSome = true) → ks.length ≤ c) (hc : c ≤ 1000) :
    Calls Try.prog 40 #[.func (.func 50) #[] #[.pointer (some ⟨Bm, 0, none⟩)]] w fun e w' => SortedOut w f e w' := by
  have hcol := hide (collectB_calls Bm M c f w hBm hm hmap hc)
  have HK := hide hks
  clear hm hmap hks
  go_enter Try.func40, Try.ntmps40
  go_wp2_with fail
  go_at_call 48
  refine hcol.out.mono ?_
  rintro _ w1 ⟨v, ks, rfl, hk, ho, hu⟩
  clear hcol
  have hown : Own w1 w.heap.size v ks := by
    have e : (slotsB f ks).map (Value.int .u8) = bcells ks := by simp [slotsB, bcells, Function.comp_def]
    rw [e] at ho
    exact ho
  have HU := hide hu
  have HKS := hide hk
  have hso := hide (hS w1 w.heap.size v ks hown (Nat.le_trans (HK.out ks hk.1 hk.2.1) hcB))
  have hvb := hide (hown.lt)
  have hform : Hid (v = .slice none 0 0 ∨ ∃ g n c, v = .slice (some ⟨g, 0, none⟩) n c ∧ w.heap.size ≤ g) := by
    rcases hown.2 with ⟨h, _⟩ | ⟨g, cap, cur, h, hb, _⟩
    · exact hide (.inl h)
    · exact hide (.inr ⟨g, _, cap, h, hb⟩)
  clear hu hk ho hown
  go_wp2_with fail
  go_at_call 49
  refine hso.out.mono ?_
  rintro _ w2 ⟨rfl, ks', hp, hord, hsl, hch⟩
  clear hso
  have HP := hide hp
  have HO := hide hord
  have HC := hide hch
  obtain ⟨a, cap, rfl, hc1, hc2, hb1, hb2⟩ := hsl
  have HB2 := hide hb2
  clear hp hord hch hb2
  go_wp2
  go_ret
  have hnd : ks'.Nodup := (List.Perm.nodup_iff HP.out).2 HKS.out.1
  refine ⟨a, cap, ks', rfl, ?_, fun x => by rw [HP.out.mem_iff]; exact HKS.out.2.1 x, ?_, ?_⟩
  · have h3 := List.nodup_iff_pairwise_ne.1 hnd
    exact (HO.out.and h3).imp (fun {a b} h => UInt8.lt_of_le_of_ne h.1 h.2)
  · rcases HB2.out with h0 | ⟨b, off, rfl, hx⟩
    · exact .inl (List.length_eq_zero_iff.1 h0)
    · rcases hform.out with h0 | ⟨g, n, c', h0, hg⟩
      · cases h0
      · cases h0
        exact .inr ⟨b, rfl, hg, fun i hi => by have := hx i hi; rw [Nat.zero_add] at this; exact this⟩
  · refine ((Chg.of_up HU.out).trans HC.out (fun y hy (h : _ = some y) => h)).up (fun x hx e => ?_)
    have := (hvb.out x e).1
    omega

/-- An entry in memory: the block of its key, its string, its number. -/
structure EX where
  kb : Nat
  s : ByteArray
  id : Int
def eX (x : EX) : List Value := [.slice (some ⟨x.kb, 0, none⟩) 1 1, .int .i64 x.id]
def prX (x : EX) : SI := (x.s.data.toList, x.id)
theorem eX_one (x : EX) : ∀ u ∈ eX x, u.oneCell' = true := fun u hu => by
  simp only [eX, List.mem_cons, List.not_mem_nil, or_false] at hu
  rcases hu with rfl | rfl <;> rfl
abbrev OwnX := OwnG (α := EX) tEntry 2 eX
def KeyX (w : World) (x : EX) : Prop := w.heap[x.kb]? = some (.cells #[.int .i64 3, .int .i64 0, .string x.s, .float .f64 0] tValue (0, 0))
theorem KeyX.bt {w : World} {x : EX} (h : KeyX w x) : bty w x.kb = some tValue := by unfold KeyX at h; unfold bty; rw [h]
theorem KeyX.chg {C : Nat → Prop} {w w' : World} {x : EX} (h : KeyX w x) (hc : Chg C w w') (hn : ¬ C x.kb) : KeyX w' x := (hc.2 x.kb (bty_lt h.bt) hn).trans h
theorem own_bt {w : World} {base : Nat} {v : Value} {l : List EX} (h : OwnX w base v l) {b : Nat} (hb : v.ownBlock = some b) : bty w b = some tEntry := by
  rcases h.2 with ⟨rfl, _⟩ | ⟨g, cap, cur, rfl, _, hg, _⟩
  · cases hb
  · cases hb
    unfold bty
    rw [hg]
theorem info_ent : (Try.prog.info? 33).map (fun i => (i.zero, i.size, i.bytes)) = some (some (.agg #[.slice none 0 0, .int .i64 0]), 2, 32) := by kernel_rfl
theorem append_X {w : World} {ops : Array Oper} {rest : List Oper} {o : Oper} {a : Act} {Q : Exit → Act → World → Prop} (hgd : o.guard = none) (s x : Operand)
    (ho : o.op = .call { callee := .builtin .append, args := #[s, x], argTypes := #[28, 28] }) (base : Nat) (v : Value) (l : List EX) (hs : a.eval s = v) (hown : OwnX w base v l)
    (ad : Addr) (c : Nat) (new : EX) (hx : a.eval x = .slice (some ad) 1 c) (hnews : ∀ j u, (eX new)[j]? = some u → w.cell? (ad.add j) = some u) (hlen : l.length + 1 ≤ 2000000000) (hbase : base ≤ w.heap.size)
    (h : ∀ v' w', OwnX w' base v' (l ++ [new]) → w.grownBy w' v.ownBlock → (v'.ownBlock = v.ownBlock ∨ v'.ownBlock = some w.heap.size) → wpList Try.prog ops Q rest (a.put o.dst v') w') : wpList Try.prog ops Q (o :: rest) a w := by
  obtain ⟨i0, hi, hz0, hz1, hz2⟩ := info_parts info_ent
  refine wpList_append_own_at w hgd s x 28 ho base 33 i0 (.agg #[.slice none 0 0, .int .i64 0]) 2 32 Try.underlying28 hi hz0 hz1 hz2 rfl (by decide) v l.length (l.flatMap eX) hs hown ad 1 c (eX new) hx
    rfl hnews (eX_one new) (by unfold maxLen; omega) (by omega) hbase fun v' w' h1 h2 _ h4 => h v' w' ?_ h2 h4
  unfold OwnX OwnG
  rw [List.length_append, List.flatMap_append, List.flatMap_singleton]
  exact h1

/-- What entries leaves. -/
def EntOut (w : World) (v : Value) (l : List EX) (pv : Value) (s : List UInt8) (E : List UInt8 → List Int) (e : Ending) (w' : World) : Prop :=
  ∃ v' l', e = .returned v' ∧ OwnX w' 0 v' (l ++ l') ∧ (∀ x ∈ l ++ l', KeyX w' x) ∧ EntsP E s (l'.map prX) ∧ PathAt w' pv s ∧ Chg (fun y => v.ownBlock = some y ∨ pv.ownBlock = some y) w w' ∧ (v'.ownBlock = v.ownBlock ∨ ∃ b, v'.ownBlock = some b ∧ w.heap.size ≤ b) ∧ ∀ x ∈ l', w.heap.size ≤ x.kb
/-- While the node's own go in. -/
structure EntI (w : World) (v0 : Value) (l : List EX) (L : List SI) (v : Value) (l' : List EX) (wr : World) : Prop where
  own : OwnX wr 0 v (l ++ l')
  key : ∀ x ∈ l ++ l', KeyX wr x
  map : l'.map prX = L
  chg : Chg (fun y => v0.ownBlock = some y) w wr
  blk : v.ownBlock = v0.ownBlock ∨ ∃ b, v.ownBlock = some b ∧ w.heap.size ≤ b
  new : ∀ x ∈ l', w.heap.size ≤ x.kb
/-- One more. -/
theorem EntI.step {w wr X w' : World} {v0 v v' : Value} {l l' : List EX} {L : List SI} {s : ByteArray} {id : Int} (h : EntI w v0 l L v l' wr) (hX : X = (wr.alloc (.cells #[.int .i64 3, .int .i64 0, .string s, .float .f64 0] tValue)).alloc (.cells #[.slice (some ⟨wr.heap.size, 0, none⟩) 1 1, .int .i64 id] tEntry))
    (ho : OwnX w' 0 v' ((l ++ l') ++ [⟨wr.heap.size, s, id⟩])) (hg : X.grownBy w' v.ownBlock) (hb : v'.ownBlock = v.ownBlock ∨ v'.ownBlock = some X.heap.size) : EntI w v0 l (L ++ [(s.data.toList, id)]) v' (l' ++ [⟨wr.heap.size, s, id⟩]) w' := by
  have hu : Up wr X := by rw [hX]; exact ((Up.refl wr).alloc _).alloc _
  have hk : KeyX X ⟨wr.heap.size, s, id⟩ := by
    show X.heap[wr.heap.size]? = _
    have h1 : (wr.alloc (.cells #[.int .i64 3, .int .i64 0, .string s, .float .f64 0] tValue)).heap[wr.heap.size]? = some (.cells #[.int .i64 3, .int .i64 0, .string s, .float .f64 0] tValue (0, 0)) := heap_alloc_new _ _
    rw [hX]
    exact ((Up.refl _).alloc _).heap h1
  have hXs : wr.heap.size < X.heap.size := lt_of_heap hk
  have hc : Chg (fun y => v.ownBlock = some y) X w' := ⟨⟨hg.os, hg.tape, hg.output, hg.size, fun k hk => absurd hk (Nat.not_lt_zero k)⟩, fun y hy hn => hg.block y hy (fun e => hn e.symm)⟩
  have hov : OwnX X 0 v (l ++ l') := OwnG.up h.own hu
  have hkn : ∀ x ∈ l ++ l', ¬ v.ownBlock = some x.kb := fun x hx e => bty_ne (own_bt hov e) ((h.key x hx).chg (Chg.of_up (C := fun _ => False) hu) (fun h => h)).bt (by decide) rfl
  have hall : Chg (fun y => v.ownBlock = some y) wr w' := (Chg.of_up hu).trans hc (fun _ _ h => h)
  refine ⟨by rw [← List.append_assoc]; exact ho, fun x hx => ?_, by rw [List.map_append, h.map]; rfl, ?_, ?_, fun x hx => ?_⟩
  · rw [← List.append_assoc] at hx
    rcases List.mem_append.1 hx with hx | hx
    · exact (h.key x hx).chg hall (hkn x hx)
    · obtain rfl := List.mem_singleton.1 hx
      exact hk.chg hc (fun e => bty_ne (own_bt hov e) hk.bt (by decide) rfl)
  · refine h.chg.trans hall (fun y hy e => ?_)
    rcases h.blk with h1 | ⟨b, h1, h2⟩
    · rw [← h1]; exact e
    · rw [h1] at e; cases e; omega
  · rcases hb with h1 | h1
    · rw [h1]; exact h.blk
    · exact .inr ⟨_, h1, by have := h.chg.size; omega⟩
  · rcases List.mem_append.1 hx with hx | hx
    · exact h.new x hx
    · obtain rfl := List.mem_singleton.1 hx
      exact h.chg.size

/-- While those below go in. -/
structure EntK (w W0 w3 : World) (v : Value) (l : List EX) (pv : Value) (s : List UInt8) (E : List UInt8 → List Int) (ks : List UInt8) (vv : Value) (l' : List EX) (wr : World) : Prop where
  own : OwnX wr 0 vv (l ++ l')
  key : ∀ x ∈ l ++ l', KeyX wr x
  ents : EntsU E s ks (l'.map prX)
  path : PathAt wr pv s
  chg : Chg (fun y => v.ownBlock = some y ∨ pv.ownBlock = some y) w wr
  blk : vv.ownBlock = v.ownBlock ∨ ∃ b, vv.ownBlock = some b ∧ w.heap.size ≤ b
  new : ∀ x ∈ l', w.heap.size ≤ x.kb
  kn : ∀ b, vv.ownBlock = some b → b < W0.heap.size ∨ w3.heap.size ≤ b
  sz : w3.heap.size ≤ wr.heap.size
theorem GMem.far {w wr : World} {g : Gr} {v pv : Value} {l : List EX} {s : List UInt8} (hg : GMem w g) (hv : OwnX w 0 v l) (hp : PathAt w pv s) (hc : Chg (fun y => v.ownBlock = some y ∨ pv.ownBlock = some y) w wr) : GMem wr g := by
  have k5 : ∀ b, (v.ownBlock = some b ∨ pv.ownBlock = some b) → kd w b = 5 := fun b hb => by
    rcases hb with hb | hb
    · exact bty_kd (own_bt hv hb)
    · exact bty_kd (hp.bt hb)
  exact hg.chg hc ⟨fun q m hq e => kd_ne (hg.node q m hq).kd1 (k5 _ e) (by decide) rfl, fun q m b hq hb e => kd_ne ((hg.node q m hq).kd2 hb) (k5 _ e) (by decide) rfl, fun q m hq e => kd_ne (hg.node q m hq).kd3 (k5 _ e) (by decide) rfl⟩
/-- One more below. -/
theorem EntK.step {w W0 w3 wr W w' : World} {g : Gr} {root : Nat} {dom : List Nat} {v vv v' pv pv' : Value} {l l' l'' : List EX} {E : List UInt8 → List Int} {ks : List UInt8} {p q : Nat} {n m : ND} {b : UInt8} {lab : ByteArray} (h : EntK w W0 w3 v l pv n.str E ks vv l' wr) (hw : WF g root dom) (ht : Tells g E) (hp : g p = some n) (hk : n.kid b = some q) (hq : g q = some m) (hb : ∀ c ∈ ks, c < b) (hlab : m.str = n.str ++ lab.data.toList)
    (hvb : ∀ b, v.ownBlock = some b → b < w.heap.size) (hpb : ∀ b, pv.ownBlock = some b → b < w.heap.size)
    (hpt : PathAt W pv' (n.str ++ lab.data.toList)) (hcW : Chg (fun y => pv.ownBlock = some y) wr W) (hway : (∃ g cap, pv = .slice (some ⟨g, 0, none⟩) n.str.length cap ∧ pv' = .slice (some ⟨g, 0, none⟩) (n.str ++ lab.data.toList).length cap) ∨ (pv'.ownBlock = some wr.heap.size ∧ Up wr W))
    (ho : OwnX w' 0 v' ((l ++ l') ++ l'')) (hkey : ∀ x ∈ (l ++ l') ++ l'', KeyX w' x) (hE : EntsP E m.str (l''.map prX)) (hp' : PathAt w' pv' m.str) (hc : Chg (fun y => vv.ownBlock = some y ∨ pv'.ownBlock = some y) W w') (hvo : v'.ownBlock = vv.ownBlock ∨ ∃ b, v'.ownBlock = some b ∧ W.heap.size ≤ b) (hnew : ∀ x ∈ l'', W.heap.size ≤ x.kb) :
    EntK w W0 w3 v l pv n.str E (ks ++ [b]) v' (l' ++ l'') w' := by
  have hsW := hcW.size
  have hs0 := h.chg.size
  have hpo : ∀ y, pv'.ownBlock = some y → pv.ownBlock = some y ∨ wr.heap.size ≤ y := fun y hy => by
    rcases hway with ⟨g', c', rfl, rfl⟩ | ⟨h1, _⟩
    · exact .inl hy
    · rw [h1] at hy; cases hy; exact .inr (Nat.le_refl _)
  refine ⟨by rw [← List.append_assoc]; exact ho, by rw [← List.append_assoc]; exact hkey, ?_, ?_, ?_, ?_, fun x hx => ?_, fun y hy => ?_, Nat.le_trans h.sz (Nat.le_trans hsW hc.size)⟩
  · rw [List.map_append]
    refine h.ents.step hb hE.ord (fun t i => ?_)
    rw [hE.mem]
    constructor
    · rintro ⟨h1, h2⟩; exact ⟨(kid_mem hw ht hp hk hq t i h2).1 h1, h2⟩
    · rintro ⟨h1, h2⟩; exact ⟨(kid_mem hw ht hp hk hq t i h2).2 h1, h2⟩
  · rcases hway with ⟨g', c', rfl, rfl⟩ | ⟨h1, h2⟩
    · rw [hlab] at hp'
      exact hp'.short
    · have hpW : PathAt W pv n.str := h.path.chg (Chg.of_up (C := fun _ => False) h2) (fun _ _ h => h)
      refine hpW.chg hc (fun y hy e => ?_)
      rcases e with e | e
      · exact bty_ne (h.path.bt hy) (own_bt h.own e) (by decide) rfl
      · rw [h1] at e
        cases e
        have := hpb _ hy
        omega
  · refine (h.chg.trans hcW (fun y _ e => .inr e)).trans hc (fun y hy e => ?_)
    rcases e with e | e
    · rcases h.blk with h1 | ⟨z, h1, h2⟩
      · exact .inl (by rw [← h1]; exact e)
      · rw [h1] at e; cases e; omega
    · rcases hpo y e with h1 | h1
      · exact .inr h1
      · omega
  · rcases hvo with h1 | ⟨z, h1, h2⟩
    · rw [h1]; exact h.blk
    · exact .inr ⟨z, h1, by omega⟩
  · rcases List.mem_append.1 hx with hx | hx
    · exact h.new x hx
    · have := hnew x hx; omega
  · rcases hvo with h1 | ⟨z, h1, h2⟩
    · rw [h1] at hy; exact h.kn y hy
    · rw [h1] at hy; cases hy; right; have := h.sz; omega

theorem meas_lt (i L : Nat) (h : i < L) (hw : wrap64 ((i : Int) + 1) = (i : Int) + 1) : L - (intOf (.int .i64 (wrap64 ((i : Int) + 1)))).toNat < L - (intOf (.int .i64 (i : Int))).toNat := by
  rw [hw]
  show L - ((i : Int) + 1).toNat < L - (i : Int).toNat
  omega
set_option maxHeartbeats 8000000 in
theorem entries_calls (B root : Nat) (g : Gr) (dom : List Nat) (E : List UInt8 → List Int) (k : Nat) (hS : SortBy B) (hw : WF g root dom) (ht : Tells g E) (hds : dom.length ≤ 900) (hk : k ≤ 900) (hids : ∀ p n, g p = some n → n.ids.length ≤ k) (hstr : ∀ p n, g p = some n → n.str.length ≤ 1000) (hB : ∀ p n, g p = some n → n.ks.length ≤ B) :
    ∀ (h : Nat) (p : Nat) (n : ND) (v pv : Value) (l : List EX) (w : World), g p = some n → 1000 < n.str.length + h → h ≤ 1001 → GMem w g → OwnX w 0 v l → (∀ x ∈ l, KeyX w x) → PathAt w pv n.str → l.length + h * 810000 ≤ 1000000000 →
      Calls Try.prog 25 #[.pointer (some ⟨p, 0, none⟩), v, pv] w fun e w' => EntOut w v l pv n.str E e w' := by
  have HW := hide hw
  have HT := hide ht
  have HI := hide hids
  have HST := hide hstr
  have HB := hide hB
  have HS := hide hS
  clear hw ht hids hstr hB hS
  intro h
  induction h with
  | zero => intro p n v pv l w hp h1; exact absurd (HST.out p n hp) (by omega)
  | succ h ih =>
    intro p n v pv l w hp h1 h2 hg hv hkl hpv hll
    have N := hg.node p n hp
    have c1 := N.c1
    have c2 := N.c2
    obtain ⟨ia, ic, hiv, hic1, hic2, hcell⟩ := N.ids.rd
    rw [hiv] at c1
    have IH := hide ih
    have HG := hide hg
    have HL := hide hll
    have HN := hide (⟨hp, h1, h2⟩ : _ ∧ _ ∧ _)
    have HIV := hide hiv
    have HC := hide hcell
    have HIN := hide (HI.out p n hp)
    obtain ⟨pg, pcap, hpe, hpb⟩ := hpv.bts
    have HPB := hide hpb
    have HP := hide hpv
    have hE0 : EntI w v l [] v [] w := ⟨by simpa using hv, by simpa using hkl, rfl, Chg.refl _ _, .inl rfl, fun x hx => by cases hx⟩
    have HE0 := hide hE0
    have HPE := hide hpe
    clear hiv hcell hp hg hll N ih hpb hpv hE0 hv hkl h1 h2
    rw [hpe]
    clear hpe
    obtain ⟨L, hL⟩ : ∃ L, L = n.ids.length := ⟨_, rfl⟩
    rw [← hL] at c1
    have HLL := hide hL
    clear hL
    go_enter Try.func25, Try.ntmps25
    go_wp2_with fail
    go_loopw [1, 17] (fun vv iv wr => ∃ (i : Nat) (l' : List EX), iv = .int .i64 i ∧ i ≤ L ∧ Hid (EntI w v l ((n.ids.take i).map (fun j => (n.str, j))) vv l' wr)) (fun _ iv _ => L - (intOf iv).toNat)
    case atStart => exact ⟨0, [], rfl, Nat.zero_le _, HE0⟩
    case round =>
      obtain ⟨i, l', rfl, hiL, hEI⟩ := hrel
      by_cases hlt : i < L
      · have z0 : (0 : Int) ≤ (i : Int) := by omega
        have z1 : (i : Int) < (L : Int) := by omega
        have hil : i < n.ids.length := by rw [← HLL.out]; exact hlt
        obtain ⟨gi, off, rfl, hx⟩ : ∃ g off, ia = some ⟨g, off, none⟩ ∧ ∀ i, i < n.ids.length → w.cell? ⟨g, off + i, none⟩ = some (.int .i64 (n.ids.getD i 0)) := by
          rcases HC.out with h0 | h0
          · rw [h0] at hil; exact absurd hil (Nat.not_lt_zero i)
          · exact h0
        have N := HG.out.node p n HN.out.1
        have hvb : ∀ b, v.ownBlock = some b → bty w b = some tEntry := fun b hb => own_bt HE0.out.own hb
        have hq := hEI.out.chg.cell (hx i hil) (fun e => kd_ne (N.kd2 (b := gi) (by rw [HIV.out]; rfl)) (bty_kd (hvb _ e)) (by decide) rfl)
        have hpt : Bts wr (some ⟨pg, 0, none⟩) n.str.length n.str := by
          obtain ⟨g', c', e1, e2⟩ := (HP.out.chg hEI.out.chg (fun b hb e => bty_ne (HP.out.bt hb) (hvb _ e) (by decide) rfl)).bts
          rw [HPE.out] at e1
          cases e1
          exact e2
        have hcv := conv_bts (c := pcap) hpt (fun e => by cases e)
        obtain ⟨X, hX⟩ : ∃ X, n.ids.getD i 0 = X := ⟨_, rfl⟩
        rw [hX] at hq
        have HX := hide hX
        have hown := hEI.out.own
        have hw1 : wrap64 ((i : Int) + 1) = (i : Int) + 1 := by rw [wrap64]; have := HIN.out; have := HLL.out; omega
        have hln : Hid (l.length + l'.length ≤ 1900000000) := by
          have h1 : l'.length = i := by
            have := congrArg List.length hEI.out.map
            rw [List.length_map, List.length_map, List.length_take] at this
            omega
          have h2 := HL.out
          have h3 := HIN.out
          exact hide (by omega)
        clear hX hvb hx N hpt
        go_wp2_with (at_builtin; refine append_X rfl _ _ rfl 0 u1 (l ++ l') rfl (OwnG.up hown (((Up.refl wr).alloc _).alloc _)) ⟨_, 0, none⟩ 1 ⟨wr.heap.size, ⟨n.str.toArray⟩, X⟩ rfl ?_ ?_ (Nat.zero_le _) ?_)
        · intro j u hj
          match j, hj with
          | 0, hj => cases hj; go_simp
          | 1, hj => cases hj; go_simp
          | j + 2, hj => simp [eX] at hj
        · rw [List.length_append]; have := hln.out; omega
        · intro v' w' ho hgr hbk
          have hst := hEI.out.step rfl (by rw [List.append_assoc]; exact ho) hgr (by simpa using hbk)
          rw [show (⟨n.str.toArray⟩ : ByteArray).data.toList = n.str from List.toList_toArray ..] at hst
          have HS2 := hide hst
          clear ho hgr hbk hst hown hq hcv
          go_wp2
          go_roundw
          case rel =>
            refine ⟨i + 1, l' ++ [⟨wr.heap.size, ⟨n.str.toArray⟩, X⟩], by rw [hw1]; rfl, Nat.succ_le_of_lt hlt, ?_⟩
            have e : (n.ids.take (i + 1)).map (fun j => (n.str, j)) = (n.ids.take i).map (fun j => (n.str, j)) ++ [(n.str, X)] := by
              rw [List.take_add_one, List.map_append, List.getElem?_eq_getElem hil, ← HX.out, List.getD_eq_getElem?_getD, List.getElem?_eq_getElem hil]
              rfl
            rw [e]
            exact HS2
          case measure => exact meas_lt i L hlt hw1
      · have z1 : ¬ (i : Int) < (L : Int) := by omega
        have hiL2 : i = n.ids.length := by have := HLL.out; omega
        have hown0 := hEI.out
        rw [hiL2, List.take_length] at hown0
        have HE1 := hide hown0
        have hvb : ∀ b, v.ownBlock = some b → bty w b = some tEntry := fun b hb => own_bt HE0.out.own hb
        have G1 := hide (HG.out.chg hEI.out.chg ⟨fun q m hq e => kd_ne (HG.out.node q m hq).kd1 (bty_kd (hvb _ e)) (by decide) rfl, fun q m b hq hb e => kd_ne ((HG.out.node q m hq).kd2 hb) (bty_kd (hvb _ e)) (by decide) rfl, fun q m hq e => kd_ne (HG.out.node q m hq).kd3 (bty_kd (hvb _ e)) (by decide) rfl⟩)
        have P1 := hide (HP.out.chg hEI.out.chg (fun b hb e => bty_ne (HP.out.bt hb) (hvb _ e) (by decide) rfl))
        have N1 := G1.out.node p n HN.out.1
        have c2' := N1.c2
        have hsz := hEI.out.chg.size
        have HSZ := hide hsz
        obtain ⟨W0, hW0⟩ : ∃ W0, W0 = wr := ⟨_, rfl⟩
        rw [← hW0] at c2' HE1 G1 P1 N1 HSZ ⊢
        clear hown0 hvb hsz hEI hiL hiL2 hW0 c2
        go_wp2_with fail
        go_at_call 41
        refine (keysB_calls n.mp W0).mono ?_
        rintro _ w2 ⟨rfl, hw2⟩
        have hu2 : Up W0 w2 := by rw [hw2]; exact (Up.refl _).alloc _
        have hbm : w2.cell? ⟨W0.heap.size, 0, none⟩ = some (.map (some n.mp)) := by rw [hw2]; go_simp
        have hblt : W0.heap.size < w2.heap.size := by rw [hw2]; simp
        have hso := hide (sortedB_calls B W0.heap.size n.mp n.ks.length n.kid w2 HS.out (HB.out p n HN.out.1) hblt hbm (N1.map.up hu2) (fun ks hk1 hk2 => by
          have := HW.out.ks p n HN.out.1
          refine nodup_le hk1 (fun x hx => ?_)
          rw [this.2]
          exact (hk2 x).1 hx) (by have := HW.out.ksle HN.out.1; omega))
        have HU2 := hide hu2
        clear hw2 hu2 hbm hblt N1
        go_wp2_with fail
        go_at_call 40
        refine hso.out.mono ?_
        rintro _ w3 ⟨ka, kc, ks, rfl, hk1, hk2, hk3, hu3⟩
        have HK := hide (⟨hk1, hk2⟩ : _ ∧ _)
        have HK3 := hide hk3
        have HU3 := hide (HU2.out.trans hu3)
        have HKB : Hid (ks = [] ∨ ∃ g, ka = some ⟨g, 0, none⟩ ∧ W0.heap.size ≤ g ∧ g < w3.heap.size ∧ ∀ i, i < ks.length → w3.cell? ⟨g, i, none⟩ = some (.int .u8 ((ks.getD i 0).toNat : Int))) := by
          rcases hk3 with h | ⟨g', h3, h4, h5⟩
          · exact hide (.inl h)
          · by_cases h0 : ks = []
            · exact hide (.inl h0)
            · refine hide (.inr ⟨g', h3, Nat.le_trans HU2.out.size h4, ?_, h5⟩)
              exact World.block_lt_of_cell? w3 _ (h5 0 (List.length_pos_iff.2 h0))
        clear hso hk1 hk2 hk3 hu3 HK3 HU2
        go_wp2_with fail
        have hE2 : EntK w W0 w3 v l pv n.str E (ks.take 0) u1 l' w3 := by
          refine ⟨OwnG.up HE1.out.own HU3.out, fun x hx => (HE1.out.key x hx).chg (Chg.of_up (C := fun _ => False) HU3.out) (fun h => h), ?_, P1.out.chg (Chg.of_up (C := fun _ => False) HU3.out) (fun _ _ h => h), (HE1.out.chg.mono (fun y _ e => .inl e)).andUp HU3.out, HE1.out.blk, HE1.out.new, fun b hb => .inl (HE1.out.own.lt b hb).2, Nat.le_refl _⟩
          rw [HE1.out.map]
          have e := HT.out.node p n HN.out.1
          rw [e, List.take_zero]
          exact EntsU.own (by rw [← e]; exact HW.out.rise p n HN.out.1)
        have HE2 := hide hE2
        have hvlt := hide (fun b (hb : v.ownBlock = some b) => (HE0.out.own.lt b hb).2)
        have hplt := hide (fun b (hb : pv.ownBlock = some b) => bty_lt (HP.out.bt hb))
        clear hE2 HE1 hlt c1 hic1 hic2
        obtain ⟨KL, hKL⟩ : ∃ KL, KL = ks.length := ⟨_, rfl⟩
        rw [← hKL]
        have HKL := hide hKL
        clear hKL
        go_loopw [1, 38] (fun vv iv wq => ∃ (j : Nat) (l2 : List EX), iv = .int .i64 j ∧ j ≤ KL ∧ Hid (EntK w W0 w3 v l pv n.str E (ks.take j) vv l2 wq) ∧ Hid (ks = [] ∨ ∃ g, ka = some ⟨g, 0, none⟩ ∧ W0.heap.size ≤ g ∧ g < w3.heap.size ∧ ∀ i, i < ks.length → wq.cell? ⟨g, i, none⟩ = some (.int .u8 ((ks.getD i 0).toNat : Int)))) (fun _ iv _ => KL - (intOf iv).toNat)
        case atStart => exact ⟨0, l', rfl, Nat.zero_le _, HE2, HKB⟩
        case round =>
          obtain ⟨j, l2, rfl, hjL, hEK, hKC⟩ := hrel
          by_cases hjl : j < KL
          · have y0 : (0 : Int) ≤ (j : Int) := by omega
            have y1 : (j : Int) < (KL : Int) := by omega
            have hjk : j < ks.length := by rw [← HKL.out]; exact hjl
            obtain ⟨gk, rfl, hgk1, hgk2, hcells⟩ : ∃ g, ka = some ⟨g, 0, none⟩ ∧ W0.heap.size ≤ g ∧ g < w3.heap.size ∧ ∀ i, i < ks.length → wr.cell? ⟨g, i, none⟩ = some (.int .u8 ((ks.getD i 0).toNat : Int)) := by
              rcases hKC.out with h0 | h0
              · rw [h0] at hjk; exact absurd hjk (Nat.not_lt_zero j)
              · exact h0
            have hb0 := hcells j hjk
            obtain ⟨b, hb⟩ : ∃ b, ks.getD j 0 = b := ⟨_, rfl⟩
            rw [hb] at hb0
            have hbm : b ∈ ks := by rw [← hb, List.getD_eq_getElem?_getD, List.getElem?_eq_getElem hjk]; exact List.getElem_mem hjk
            obtain ⟨q, hkq⟩ := Option.isSome_iff_exists.1 ((HK.out.2 b).1 hbm)
            obtain ⟨m, hm, _⟩ := HW.out.kid p n b q HN.out.1 hkq
            obtain ⟨hms, ⟨tl, htl⟩, hml⟩ := HW.out.lab HN.out.1 hkq hm
            have G2 := HG.out.far HE0.out.own HP.out hEK.out.chg
            have N2 := G2.node p n HN.out.1
            have c2'' := N2.c2
            have hlk := N2.map.look b
            rw [toldB_some hkq] at hlk
            have q0 := (G2.node q m hm).c0
            have hms2 := HST.out q m hm
            have hnl : n.str.length + m.lab.size ≤ 1000 := by
              have e2 : m.lb.length = m.lab.size := Array.length_toList
              have := congrArg List.length hms
              rw [List.length_append] at this
              omega
            have hml2 : n.str.length + 1 ≤ m.str.length := by
              have := congrArg List.length hms
              rw [List.length_append, htl, List.length_cons] at this
              omega
            obtain ⟨pv', W, hap, hpt, hcW, hway⟩ := append_path hEK.out.path m.lab (by omega) 52
            rw [HPE.out] at hap
            have hl2 : l2.length ≤ 810000 := by
              have h1 := ents_few HW.out HT.out HI.out hEK.out.ents.ord (fun t i h => ((hEK.out.ents.mem t i).1 h).1)
              rw [List.length_map] at h1
              have h2 : dom.length * k ≤ 900 * 900 := Nat.mul_le_mul hds hk
              omega
            have hvW : OwnX W 0 u1 (l ++ l2) := OwnG.chgT hEK.out.own hcW (fun x hx e => bty_ne (own_bt hEK.out.own hx) (hEK.out.path.bt e) (by decide) rfl)
            have hkW : ∀ x ∈ l ++ l2, KeyX W x := fun x hx => (hEK.out.key x hx).chg hcW (fun e => bty_ne (hEK.out.key x hx).bt (hEK.out.path.bt e) (by decide) rfl)
            have hGW : GMem W g := G2.far hEK.out.own hEK.out.path (hcW.mono (fun y _ e => .inr e))
            have hrec := hide (IH.out q m u1 pv' (l ++ l2) W hm (by have := HN.out.2.1; omega) (by have := HN.out.2.2; omega) hGW hvW hkW (by rw [hms]; exact hpt) (by rw [List.length_append]; have := HL.out; omega))
            have HM := hide (⟨hkq, hm, hms, hb, hjk⟩ : _ ∧ _ ∧ _ ∧ _ ∧ _)
            have HWY := hide (⟨hpt, hcW, hway⟩ : _ ∧ _ ∧ _)
            have HGK := hide (⟨hgk1, hgk2, hcells⟩ : _ ∧ _ ∧ _)
            have hw1 : wrap64 ((j : Int) + 1) = (j : Int) + 1 := by
              have h1 := HW.out.ksle HN.out.1
              have h2 : ks.length ≤ n.ks.length := nodup_le (List.nodup_iff_pairwise_ne.2 (HK.out.1.imp (fun {a b} hab (e : a = b) => UInt8.lt_irrefl a (by rw [← e] at hab; exact hab)))) (fun x hx => by
                rw [(HW.out.ks p n HN.out.1).2]
                exact (HK.out.2 x).1 hx)
              rw [wrap64]
              omega
            obtain ⟨pva, pvn, pvc, rfl⟩ : ∃ a n c, pv' = .slice a n c := by obtain ⟨g', c', h, _⟩ := hpt; exact ⟨_, _, _, h⟩
            clear hkq hm hms hb hjk hpt hcW hway hgk1 hgk2 hcells hbm htl hml G2 N2 hms2 hnl hml2 hl2 hvW hkW hGW
            go_wp2_with (at_builtin; refine Lib.wpList_append_run _ rfl _ _ _ _ rfl _ _ rfl rfl _ _ hap ?_)
            refine hrec.out.mono ?_
            rintro _ w5 ⟨v5, l5, rfl, ho5, hk5, hE5, hp5, hc5, hv5, hn5⟩
            obtain ⟨hkq, hm, hms, hb, hjk⟩ := HM.out
            obtain ⟨hpt, hcW, hway⟩ := HWY.out
            obtain ⟨hgk1, hgk2, hcells⟩ := HGK.out
            have hst := hide (hEK.out.step HW.out HT.out HN.out.1 hkq hm (fun c hc => by
              obtain ⟨i', hi', rfl⟩ := List.getElem_of_mem hc
              rw [List.length_take] at hi'
              rw [List.getElem_take]
              have h3 := List.pairwise_iff_getElem.1 HK.out.1 i' j (by omega) hjk (by omega)
              rw [← hb, List.getD_eq_getElem?_getD, List.getElem?_eq_getElem hjk]
              exact h3) hms hvlt.out hplt.out hpt hcW hway ho5 hk5 hE5 hp5 hc5 hv5 hn5)
            have htk : Hid (ks.take (j + 1) = ks.take j ++ [b]) := by
              refine hide ?_
              rw [List.take_add_one, List.getElem?_eq_getElem hjk, ← hb, List.getD_eq_getElem?_getD, List.getElem?_eq_getElem hjk]
              rfl
            have hKC2 : Hid (∀ i, i < ks.length → w5.cell? ⟨gk, i, none⟩ = some (.int .u8 ((ks.getD i 0).toNat : Int))) := by
              refine hide (fun i hi => hc5.cell (hcW.cell (hcells i hi) (fun e => ?_)) (fun e => ?_))
              · have h1 := hplt.out _ e
                have h2 := HSZ.out
                simp only at h1
                omega
              · rcases e with e | e
                · have h1 := hEK.out.kn _ e
                  simp only at h1
                  omega
                · rcases hway with ⟨g', c', h1, h2⟩ | ⟨h1, _⟩
                  · rw [h2] at e
                    cases e
                    have h3 := hplt.out gk (by rw [h1]; rfl)
                    have h2 := HSZ.out
                    omega
                  · rw [h1] at e
                    have h3 := hEK.out.sz
                    injection e with e
                    simp only at e
                    omega
            clear hkq hm hms hb hjk hpt hcW hway hcells ho5 hk5 hE5 hp5 hc5 hv5 hn5 hrec HWY
            dsimp only
            go_wp2
            go_roundw
            case rel => exact ⟨j + 1, _, by rw [hw1]; rfl, Nat.succ_le_of_lt hjl, by rw [htk.out]; exact hst, hide (.inr ⟨gk, rfl, hgk1, hgk2, hKC2.out⟩)⟩
            case measure => exact meas_lt j KL hjl hw1
          · have hjk : ks.take j = ks := List.take_of_length_le (by rw [← HKL.out]; omega)
            have HF := hEK.out
            rw [hjk] at HF
            have HF2 := hide HF
            clear HF hjk hEK hKC
            have y1 : ¬ (j : Int) < (KL : Int) := by omega
            go_wp2
            go_ret
            refine ⟨u1, l2, rfl, HF2.out.own, HF2.out.key, HF2.out.ents.all HW.out HT.out HN.out.1 (fun x => HK.out.2 x), ?_, ?_, HF2.out.blk, HF2.out.new⟩
            · have := HF2.out.path
              rw [HPE.out] at this
              exact this
            · have := HF2.out.chg
              rw [HPE.out] at this
              exact this

end Go.Proofs.Ytmbniakobhaomaa
