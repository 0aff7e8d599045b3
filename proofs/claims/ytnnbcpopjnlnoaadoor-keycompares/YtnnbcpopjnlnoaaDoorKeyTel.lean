/-
  What came of Of, for KeyTells: the error's class and place, the key, how often extractors were asked.
-/
import Derived.Test.YtnnbcpopjnlnoaaDoorKeyRof
namespace Go.Proofs.YtnnbcpopjnlnoaaDoor
open Go.ChangeShapes Go.WideShapes Go.ChangeAt Go.RowKit
set_option linter.unusedVariables false
attribute [local go_sem ↓] Go.wp_at_zero Go.wp_at_succ

theorem noTwice_num (b o : Nat) (s : ByteArray) (v pan : Value) (w : World) (hg : TabE w) (h : FaultAt w b o s (.iface 76 v) pan) (w' : World) (ta : Addr) (hu : Up w w') :
    Calls Tryd.prog 32 #[.iface 79 (.pointer (some ⟨b, o, none⟩)), .iface 88 (.pointer (some ta))] w' (Missed w') :=
  fault_twoW b o _ _ ta w' (hg.up hu) (fun w2 h2 => unwrap_err b o s _ _ pan w2 (h.up (hu.trans h2))) (fun tgt h0 h1 n w => as_missEW v tgt h0 h1 n w)
theorem noTwice_mark (b o : Nat) (s : ByteArray) (q : Addr) (pan : Value) (w : World) (hg : TabE w) (h : FaultAt w b o s (.iface 96 (.pointer (some q))) pan) (w' : World) (ta : Addr) (hu : Up w w') :
    Calls Tryd.prog 32 #[.iface 79 (.pointer (some ⟨b, o, none⟩)), .iface 88 (.pointer (some ta))] w' (Missed w') :=
  fault_twoW b o _ _ ta w' (hg.up hu) (fun w2 h2 => unwrap_err b o s _ _ pan w2 (h.up (hu.trans h2))) (fun tgt h0 h1 n w => as_missMW _ tgt h0 h1 n w)
theorem FaultK.noTwice {w : World} {b : Nat} {s : ByteArray} (h : FaultK w b s) (hg : TabE w) (w' : World) (ta : Addr) (hu : Up w w') :
    Calls Tryd.prog 32 #[.iface 79 (.pointer (some ⟨b, 0, none⟩)), .iface 88 (.pointer (some ta))] w' (Missed w') := by
  obtain ⟨err, h1, rfl | ⟨q, rfl⟩⟩ := h
  · exact noTwice_num b 0 s _ _ w hg h1 w' ta hu
  · exact noTwice_mark b 0 s q _ w hg h1 w' ta hu

/-- What came of Of. -/
structure TellsOut (w' : World) (mp : Option Addr) (a h : Int) (s : ByteArray) (pl : List PT) (m : List VT) (Bd : Int) (K : Nat) (C s1 : Int) (ev : Value) (ra : Option Addr) (rn : Nat) : Prop where
  bd : Bd = 0 ∨ Bd = 60 ∨ Bd = 50
  kle : K ≤ pl.length
  good : GoodP 5 a m pl K
  stop : K < pl.length → badP 5 a m pl K = Bd ∧ Bd ≠ 0
  full : K = pl.length → Bd = 0
  cnt0 : Bd = 0 → C = (cntP pl pl.length : Int)
  cnt60 : Bd = 60 → C = (cntP pl K : Int)
  cnt50 : Bd = 50 → C = (cntP pl K : Int) + 1
  met : MetO w' mp C a h s1
  key0 : Bd = 0 → rn = pl.length ∧ Vals w' ra rn (keyP m pl pl.length)
  key1 : Bd ≠ 0 → rn = 0
  cls : ∀ y, Up w' y → Calls Tryd.prog 17 #[ev] y fun e z => e = .returned (.int .i64 Bd) ∧ Up y z
  whr : Bd = 50 → ∀ y, Up w' y → Calls Tryd.prog 18 #[ev] y fun e z => e = .returned (.string s) ∧ Up y z
theorem tellsOut {w w' : World} {mp : Option Addr} {a h : Int} {s : ByteArray} {pl : List PT} {m : List VT} {e : Ending} (hT : TabE w) (hTm : ¬ InM mp 0) (x : OfOut w mp a h s 5 pl m e w') :
    Chg (InM mp) w w' ∧ ∃ (Bd : Int) (K : Nat) (C s1 : Int) (ev : Value) (ra : Option Addr) (rn rc : Nat), e = .returned (.tuple #[.slice ra rn rc, ev]) ∧ TellsOut w' mp a h s pl m Bd K C s1 ev ra rn := by
  obtain ⟨hc, x⟩ := x
  have hT' : TabE w' := hc.cell hT hTm
  refine ⟨hc, ?_⟩
  rcases x with ⟨hg, ra, rfl, hv, hm⟩ | ⟨k, hk, hg, hb, rfl, hm⟩ | ⟨k, b, s0, hk, hg, hb, rfl, hf, hm⟩
  · refine ⟨0, pl.length, _, _, _, ra, _, _, rfl, ⟨.inl rfl, Nat.le_refl _, hg, fun h => absurd h (Nat.lt_irrefl _), fun _ => rfl, fun _ => rfl, (fun h => absurd h (by decide)), (fun h => absurd h (by decide)), hm, fun _ => ⟨rfl, hv⟩, fun h => absurd rfl h, fun y hy => class_nil y, (fun h => absurd h (by decide))⟩⟩
  · refine ⟨60, k, _, _, _, none, _, _, rfl, ⟨.inr (.inl rfl), Nat.le_of_lt hk, hg, fun _ => ⟨hb, by decide⟩, (fun h => by omega), (fun h => absurd h (by decide)), fun _ => rfl, (fun h => absurd h (by decide)), hm, (fun h => absurd h (by decide)), fun _ => rfl, fun y hy => class_num 60 y (hT'.up hy), (fun h => absurd h (by decide))⟩⟩
  · refine ⟨50, k, _, _, _, none, _, _, rfl, ⟨.inr (.inr rfl), Nat.le_of_lt hk, hg, fun _ => ⟨hb, by decide⟩, (fun h => by omega), (fun h => absurd h (by decide)), (fun h => absurd h (by decide)), fun _ => rfl, hm, (fun h => absurd h (by decide)), fun _ => rfl, fun y hy => ?_, fun _ y hy => ?_⟩⟩
    · obtain ⟨err, h1, _⟩ := (hf.up hy)
      exact class_fault b 0 s _ _ y (hT'.up hy) h1 ((hf.up hy).noTwice (hT'.up hy))
    · obtain ⟨err, h1, _⟩ := (hf.up hy)
      exact where_fault b 0 s _ _ y (hT'.up hy) h1 ((hf.up hy).noTwice (hT'.up hy))
/-- Where the law's own count stands. -/
def TelR (pl : List PT) (Bd : Int) (K : Nat) (C : Int) (k : Nat) (c b : Int) : Prop := (k ≤ K ∧ c = (cntP pl k : Int) ∧ b = 0) ∨ (k = K + 1 ∧ K < pl.length ∧ c = C ∧ b = Bd)
theorem TelR.good {w' : World} {mp : Option Addr} {a h : Int} {s : ByteArray} {pl : List PT} {m : List VT} {Bd : Int} {K : Nat} {C s1 : Int} {ev : Value} {ra : Option Addr} {rn : Nat} (x : TellsOut w' mp a h s pl m Bd K C s1 ev ra rn) {k : Nat} (hk : k < pl.length) (hK : k ≤ K) (hb : badP 5 a m pl k = 0) {c : Int} (hc : c = (cntP pl (k + 1) : Int)) : TelR pl Bd K C (k + 1) c 0 := by
  refine .inl ⟨?_, hc, rfl⟩
  by_cases e : k = K
  · subst e
    have := x.stop hk
    rw [hb] at this
    exact absurd this.1.symm this.2
  · omega
theorem TelR.bad {w' : World} {mp : Option Addr} {a h : Int} {s : ByteArray} {pl : List PT} {m : List VT} {Bd : Int} {K : Nat} {C s1 : Int} {ev : Value} {ra : Option Addr} {rn : Nat} (x : TellsOut w' mp a h s pl m Bd K C s1 ev ra rn) {k : Nat} (hk : k < pl.length) (hK : k ≤ K) {B : Int} (hB : ¬ B = 0) (hb : badP 5 a m pl k = B) {c : Int} (hc : B = 60 ∧ c = (cntP pl k : Int) ∨ B = 50 ∧ c = (cntP pl k : Int) + 1) : TelR pl Bd K C (k + 1) c B := by
  have e : k = K := by
    by_cases e : k = K
    · exact e
    · have := x.good k (by omega)
      rw [hb] at this
      exact absurd this hB
  subst e
  have hs := x.stop hk
  rw [hb] at hs
  obtain ⟨rfl, _⟩ := hs
  refine .inr ⟨rfl, hk, ?_, rfl⟩
  rcases hc with ⟨h1, h2⟩ | ⟨h1, h2⟩
  · rw [h2, x.cnt60 h1]
  · rw [h2, x.cnt50 h1]

end Go.Proofs.YtnnbcpopjnlnoaaDoor
