/-
  The statements' example (known of rialtolaw15): it answers true.
-/
import Derived.Test.YtmbniakobhaomaaTePre
namespace Go.Proofs.Ytmbniakobhaomaa
open Go.ChangeShapes Go.WideShapes Go.ChangeAt Go.RowKit
set_option linter.unusedVariables false
set_option linter.unusedSimpArgs false
set_option maxRecDepth 100000
attribute [local go_sem ↓] Go.wp_at_zero Go.wp_at_succ

/-- A trie whose blocks are all newer than a world. -/
def KnS (w0 w : World) (T : Nat) (E : List UInt8 → List Int) (len : Int) (k : Nat) : Prop := ∃ O, TrI w T O E len k ∧ (∀ y, O y → w0.heap.size ≤ y) ∧ Up w0 w
theorem TrDid.kn {w0 w w' : World} {T : Nat} {O : Nat → Prop} {E : List UInt8 → List Int} {len : Int} {k : Nat} (h : TrDid w w' T O E len k) (hO : ∀ y, O y → w0.heap.size ≤ y) (hu : Up w0 w) : KnS w0 w' T E len k := by
  obtain ⟨O', h1, h2, h3⟩ := h
  have hs := hu.size
  refine ⟨O', h1, fun y hy => ?_, ((Chg.of_up (C := O) hu).trans h2 (fun _ _ h => h)).up (fun x hx e => by have := hO x e; omega)⟩
  rcases h3 y hy with h4 | h4
  · exact hO y h4
  · omega
theorem KnS.up {w0 w w' : World} {T : Nat} {E : List UInt8 → List Int} {len : Int} {k : Nat} (h : KnS w0 w T E len k) (hu : Up w w') : KnS w0 w' T E len k := by
  obtain ⟨O, h1, h2, h3⟩ := h
  exact ⟨O, h1.up hu, h2, h3.trans hu⟩
theorem kn_new {w0 w : World} {T : Nat} {E E' : List UInt8 → List Int} {len : Int} {k : Nat} (h : KnS w0 w T E len k) (s : ByteArray) (id : Int) (hs : s.size ≤ 1000) (hk : k ≤ 900) (hl : 0 ≤ len ∧ len ≤ 1000000) (hid : id ∉ E s.data.toList) (hE : E' = updE E s.data.toList (insF (E s.data.toList) id)) (len' : Int) (hlen : len' = len + 1) (k' : Nat) (hk' : k' = k + 2) :
    Calls Try.prog 9 #[.pointer (some ⟨T, 0, none⟩), .string s, .int .i64 id] w fun e w' => e = .returned (.int .i64 0) ∧ KnS w0 w' T E' len' k' := by
  obtain ⟨O, h1, h2, h3⟩ := h
  subst hE hlen hk'
  refine (insert_calls T O E len k s id w h1 hs hk hl).mono ?_
  intro e w' ho
  unfold InsOut at ho
  rw [if_neg hid] at ho
  exact ⟨ho.1, ho.2.kn h2 h3⟩
theorem kn_there {w0 w : World} {T : Nat} {E : List UInt8 → List Int} {len : Int} {k : Nat} (h : KnS w0 w T E len k) (s : ByteArray) (id : Int) (hs : s.size ≤ 1000) (hk : k ≤ 900) (hl : 0 ≤ len ∧ len ≤ 1000000) (hid : id ∈ E s.data.toList) (k' : Nat) (hk' : k' = k + 2) :
    Calls Try.prog 9 #[.pointer (some ⟨T, 0, none⟩), .string s, .int .i64 id] w fun e w' => e = .returned (.int .i64 72) ∧ KnS w0 w' T E len k' := by
  obtain ⟨O, h1, h2, h3⟩ := h
  subst hk'
  refine (insert_calls T O E len k s id w h1 hs hk hl).mono ?_
  intro e w' ho
  unfold InsOut at ho
  rw [if_pos hid] at ho
  exact ⟨ho.1, ho.2.kn h2 h3⟩
theorem kn_gone {w0 w : World} {T : Nat} {E : List UInt8 → List Int} {len : Int} {k : Nat} (h : KnS w0 w T E len k) (s : ByteArray) (id : Int) (hk : k ≤ 900) (hl : 0 ≤ len ∧ len ≤ 1000000) (hid : id ∉ E s.data.toList) :
    Calls Try.prog 14 #[.pointer (some ⟨T, 0, none⟩), .string s, .int .i64 id] w fun e w' => e = .returned (.int .i64 71) ∧ KnS w0 w' T E len k := by
  obtain ⟨O, h1, h2, h3⟩ := h
  refine (erase_calls T O E len k s id w h1 hk hl).mono ?_
  intro e w' ho
  unfold EraOut at ho
  rw [if_neg hid] at ho
  exact ⟨ho.1, O, h1.up ho.2, h2, h3.trans ho.2⟩
def kCar : List UInt8 := [99, 97, 114]
def kCat : List UInt8 := [99, 97, 116]
def kDog : List UInt8 := [100, 111, 103]
def kE (j : Nat) (s : List UInt8) : List Int := if s = kCar ∧ 1 ≤ j then [1] else if s = kCat ∧ 2 ≤ j then [2] else if s = kDog ∧ 3 ≤ j then [3] else []
theorem kE0 : kE 0 = fun _ => [] := by funext s; simp [kE]
theorem kE1 : kE 1 = updE (kE 0) kCar (insF (kE 0 kCar) 1) := by
  funext s
  by_cases h : s = kCar <;> simp [kE, updE, insF, h]
theorem kE2 : kE 2 = updE (kE 1) kCat (insF (kE 1 kCat) 2) := by
  funext s
  by_cases h : s = kCat
  · subst h; simp [kE, updE, insF, kCar, kCat]
  · by_cases h2 : s = kCar
    · subst h2; simp [kE, updE, insF, kCar, kCat]
    · simp [kE, updE, h, h2]
theorem kE3 : kE 3 = updE (kE 2) kDog (insF (kE 2 kDog) 3) := by
  funext s
  by_cases h : s = kDog
  · subst h; simp [kE, updE, insF, kCar, kCat, kDog]
  · by_cases h2 : s = kCar
    · subst h2; simp [kE, updE, insF, kCar, kCat, kDog]
    · by_cases h3 : s = kCat
      · subst h3; simp [kE, updE, insF, kCar, kCat, kDog]
      · simp [kE, updE, h, h2, h3]
theorem kE_mem {s : List UInt8} (h : kE 3 s ≠ []) : s ∈ [kCar, kCat, kDog] := by
  unfold kE at h
  by_cases h1 : s = kCar
  · simp [h1]
  · by_cases h2 : s = kCat
    · simp [h2]
    · by_cases h3 : s = kDog
      · simp [h3]
      · simp [h1, h2, h3] at h
/-- The longest that `cats` begins with. -/
theorem k_long {t : List UInt8} {f : Bool} (h : LongIs (kE 3) [99, 97, 116, 115] t f) : t = kCat ∧ f = true := by
  have hc : kE 3 kCat ≠ [] := by simp [kE, kCat, kCar]
  have hp : kCat <+: [99, 97, 116, 115] := ⟨[115], rfl⟩
  rcases h with ⟨h1, h2, h3, h4⟩ | ⟨_, _, h3⟩
  · have h5 := kE_mem h3
    simp only [List.mem_cons, List.not_mem_nil, or_false] at h5
    rcases h5 with rfl | rfl | rfl
    · exact absurd h2 (by decide)
    · exact ⟨rfl, h1⟩
    · exact absurd h2 (by decide)
  · exact absurd (h3 kCat hp) hc
/-- Two begin with `ca`. -/
theorem k_pre {L : List SI} (h : EntsP (kE 3) [99, 97] L) : L.length = 2 := by
  have hn : L.Nodup := List.nodup_iff_pairwise_ne.2 (h.ord.imp (fun {a b} hab (e : a = b) => ltSI_irrefl a (by rw [← e] at hab; exact hab)))
  have h1 : (kCar, (1 : Int)) ∈ L := (h.mem _ _).2 ⟨⟨[114], rfl⟩, by simp [kE]⟩
  have h2 : (kCat, (2 : Int)) ∈ L := (h.mem _ _).2 ⟨⟨[116], rfl⟩, by simp [kE, kCar, kCat]⟩
  have h3 : ∀ x ∈ L, x ∈ [(kCar, (1 : Int)), (kCat, 2)] := fun x hx => by
    obtain ⟨h4, h5⟩ := (h.mem x.1 x.2).1 hx
    have h6 := kE_mem (s := x.1) (fun e => by rw [e] at h5; cases h5)
    simp only [List.mem_cons, List.not_mem_nil, or_false] at h6 ⊢
    rcases h6 with e | e | e
    · left; rw [e] at h5; simp [kE] at h5; exact Prod.ext e h5
    · right; rw [e] at h5; simp [kE, kCar, kCat] at h5; exact Prod.ext e h5
    · rw [e] at h4; exact absurd h4 (by decide)
  have h4 := nodup_le hn h3
  have h5 := nodup_le (L := [(kCar, (1 : Int)), (kCat, 2)]) (A := L) (by decide) (fun x hx => by
    simp only [List.mem_cons, List.not_mem_nil, or_false] at hx
    rcases hx with rfl | rfl
    · exact h1
    · exact h2)
  simp at h4 h5
  omega
set_option maxHeartbeats 8000000 in
theorem known15_calls (w : World) : Calls Try.prog 7 #[] w fun e w' => e = .returned (.bool true) ∧ Up w w' := by
  go_enter Try.func7, Try.ntmps7
  go_wp2_with fail
  go_at_call 8
  refine (trnew_calls w).mono ?_
  rintro _ w1 ⟨T, O, rfl, hT, htr, hO, hu⟩
  have K0 : Hid (KnS w w1 T (kE 0) 0 0) := hide ⟨O, by rw [kE0]; exact htr, hO, hu⟩
  clear htr hO hu hT
  dsimp only
  go_wp2_with fail
  go_at_call 9
  refine (kn_new K0.out ⟨#[99, 97, 114]⟩ 1 (by decide) (by decide) (by decide) (by decide) kE1 1 rfl 2 rfl).mono ?_
  rintro _ w2 ⟨rfl, h2⟩
  have K1 := hide h2
  clear h2 K0
  dsimp only
  go_wp2_with fail
  go_at_call 9
  refine (kn_new K1.out ⟨#[99, 97, 116]⟩ 2 (by decide) (by decide) (by decide) (by decide) kE2 2 rfl 4 rfl).mono ?_
  rintro _ w3 ⟨rfl, h3⟩
  have K2 := hide h3
  clear h3 K1
  dsimp only
  go_wp2_with fail
  go_at_call 9
  refine (kn_new K2.out ⟨#[100, 111, 103]⟩ 3 (by decide) (by decide) (by decide) (by decide) kE3 3 rfl 6 rfl).mono ?_
  rintro _ w4 ⟨rfl, h4⟩
  have K3 := hide h4
  clear h4 K2
  dsimp only
  go_wp2_with fail
  go_at_call 9
  refine (kn_there K3.out ⟨#[99, 97, 114]⟩ 1 (by decide) (by decide) (by decide) (by decide) 8 rfl).mono ?_
  rintro _ w5 ⟨rfl, h5⟩
  have K4 := hide h5
  clear h5 K3
  dsimp only
  go_wp2_with fail
  go_at_call 16
  obtain ⟨O4, q1, q2, q3⟩ := K4.out
  refine (longest_calls T O4 (kE 3) 3 8 ⟨#[99, 97, 116, 115]⟩ w5 q1 (by decide)).mono ?_
  rintro _ w6 ⟨t, f, rfl, hl, hu6⟩
  obtain ⟨ht, rfl⟩ := k_long hl
  obtain rfl : t = ⟨#[99, 97, 116]⟩ := ByteArray.ext (Array.toList_inj.1 ht)
  have HU6 := hide hu6
  have Q1 := hide (q1.up hu6)
  have Q2 := hide q2
  have Q3 := hide (q3.trans hu6)
  clear hl ht hu6 q1 q2 q3 K4
  dsimp only
  go_wp2_with fail
  go_at_call 11
  refine (prefix_calls 12 T O4 (kE 3) 3 8 ⟨#[99, 97]⟩ w6 sort_few Q1.out (by decide) (by decide) ((kids_of_few [kCar, kCat, kDog] (fun s h => kE_mem h)).mono (by decide))).mono ?_
  rintro _ w7 ⟨v, l, rfl, hv, hk, hE, _, _, hu7⟩
  have h2 := k_pre hE
  rw [List.length_map] at h2
  obtain ⟨va, vc, rfl⟩ : ∃ a c, v = .slice a 2 c := by
    rcases hv.2 with ⟨rfl, h0⟩ | ⟨g', cap, cur, rfl, _⟩
    · rw [h2] at h0; cases h0
    · rw [h2]; exact ⟨_, _, rfl⟩
  have K7 : Hid (KnS w w7 T (kE 3) 3 8) := hide ⟨O4, Q1.out.up hu7, Q2.out, Q3.out.trans hu7⟩
  clear hv hk hE hu7 h2
  dsimp only
  go_wp2_with fail
  go_at_call 14
  refine (kn_gone K7.out ⟨#[99, 111, 119]⟩ 1 (by decide) (by decide) (by decide)).mono ?_
  rintro _ w8 ⟨rfl, h8⟩
  have K8 := hide h8
  clear h8
  dsimp only
  go_wp2_with fail
  go_at_call 18
  obtain ⟨O8, r1, r2, r3⟩ := K8.out
  refine (trlen_calls T O8 (kE 3) 3 8 w8 r1).mono ?_
  rintro _ w9 ⟨rfl, hw9⟩
  obtain rfl : w8 = w9 := hw9.symm
  have R3 := hide r3
  clear r1 r2 r3
  dsimp only
  go_wp2
  go_ret
  exact ⟨rfl, R3.out⟩

end Go.Proofs.Ytmbniakobhaomaa
