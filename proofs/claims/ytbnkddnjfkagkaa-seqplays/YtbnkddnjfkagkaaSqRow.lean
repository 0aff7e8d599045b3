/-
  A sequence beside rows that are appended to; rows that are parted by a choice: plain.
-/
import Derived.Test.YtbnkddnjfkagkaaSqSpG
import Derived.Test.YtbnkddnjfkagkaaSqKnw
import Derived.Test.YtbnkddnjfkagkaaSqInG
namespace Go.Proofs.Ytbnkddnjfkagkaa
open Go.ChangeShapes Go.WideShapes Go.ChangeAt Go.RowKit
set_option linter.unusedVariables false
set_option maxRecDepth 100000

variable {Y : Nat → Prop} {p q T M : Nat} {xs zs : List Int} {h n : Nat} {f : Int → Option Nat} {w w' : World}
/-- New blocks that others write into, while others of them were written into. -/
theorem PlIx.wideC {C : Nat → Prop} (i : PlIx Y p T M xs h n f w) (hc : Chg C w w') (hC : ∀ y, C y → Y y) {Z : Nat → Prop} (hZ : ∀ y, Z y → w.heap.size ≤ y ∧ y < w'.heap.size) : PlIx (fun y => Y y ∨ Z y) p T M xs h n f w' := by
  have hpl : p < w.heap.size := World.block_lt_of_cell? w _ i.c0
  have hTl : T < w.heap.size := i.tr.tr.lt
  have hMl := i.mp.lt
  obtain ⟨b, h1, sz, h2, h3⟩ := i.tr
  have j := i.other hc hC
  have hT : ¬ C T := fun e => i.yT (hC _ e)
  refine ⟨j.c0, j.c1, ⟨b, h1.chg hc hT, sz, (h2.mono (fun y hy e => ?_)).chg (hc.mono (fun y _ e => .inr (.inr (.inl (hC y e))))), h3⟩, j.mp, j.ok, i.pT, i.MT, i.pM, fun e => ?_, fun e => ?_, fun e => ?_, fun g hg => ?_⟩
  · rcases e with e | e | e | e
    · exact .inl e
    · exact .inr (.inl e)
    · exact .inr (.inr e)
    · have := hZ y e; omega
  · rcases e with e | e
    · exact i.yT e
    · have := hZ _ e; omega
  · rcases e with e | e
    · exact i.yM e
    · have := hZ _ e; omega
  · rcases e with e | e
    · exact i.yp e
    · have := hZ _ e; omega
  · rcases hg with hg | hg
    · exact j.yl g hg
    · exact (hZ g hg).2
theorem SqIx.yT' (i : SqIx Y q T M xs h n f w) : ¬ Y T := by obtain ⟨_, _, ix⟩ := i.ex; exact ix.yT
theorem SqIx.yM' (i : SqIx Y q T M xs h n f w) : ¬ Y M := by obtain ⟨_, _, ix⟩ := i.ex; exact ix.yM
theorem SqIx.yl' (i : SqIx Y q T M xs h n f w) : ∀ y, Y y → y < w.heap.size := by obtain ⟨_, _, ix⟩ := i.ex; exact ix.yl
/-- A row beside it grew by append. -/
theorem SqIx.app {v v' : Value} (i : SqIx (fun y => v.ownBlock = some y) q T M xs h n f w) (hg : w.grownBy w' v.ownBlock) (hb : v'.ownBlock = v.ownBlock ∨ v'.ownBlock = some w.heap.size) (hlt : ∀ g, v'.ownBlock = some g → g < w'.heap.size) : SqIx (fun y => v'.ownBlock = some y) q T M xs h n f w' := by
  have hc := chg_grown hg
  rcases hb with hb | hb
  · rw [hb]
    exact i.other hc (fun _ e => e)
  · obtain ⟨p, c, ix⟩ := i.ex
    have hql := World.block_lt_of_cell? w _ c
    have hql' : q < w.heap.size := hql
    refine ⟨⟨p, hc.cell c i.yq, (ix.wideC hc (fun _ e => e) (Z := fun y => v'.ownBlock = some y) (fun y e => ?_)).narrow (fun y e => .inr e)⟩, i.qT, i.qM, fun e => ?_⟩
    · rw [hb] at e; cases e; exact ⟨Nat.le_refl _, hlt _ hb⟩
    · rw [hb] at e; injection e with e; omega
/-- Another row beside a row that grew by append. -/
theorem rd_app {v v' u : Value} {m : List Int} (h : Rd (Value.int .i64) (fun y => TM T M y ∨ v.ownBlock = some y) w u m) (hg : w.grownBy w' v.ownBlock) (hb : v'.ownBlock = v.ownBlock ∨ v'.ownBlock = some w.heap.size) : Rd (Value.int .i64) (fun y => TM T M y ∨ v'.ownBlock = some y) w' u m := by
  rcases hb with hb | hb
  · rw [hb]
    exact h.chg ((chg_grown hg).mono (fun y _ e => .inr e))
  · exact ((h.mono (Y := fun y => (TM T M y ∨ v.ownBlock = some y) ∨ v'.ownBlock = some y) (fun y hy e => by
      rcases e with e | e
      · exact e
      · rw [hb] at e; injection e with e; omega)).chg ((chg_grown hg).mono (fun y _ e => .inl (.inr e)))).mono (fun y _ e => by
      rcases e with e | e
      · exact .inl (.inl e)
      · exact .inr e)
/-- Which of the numbers are chosen. -/
def chL (c : Int → Bool) (k : Nat) : List Int := ((ups k).filter c).reverse
def leL (c : Int → Bool) (k : Nat) : List Int := (ups k).filter (fun v => !c v)
theorem chL_yes {c : Int → Bool} {i : Nat} (h : c ((i : Int) + 1) = true) : chL c (i + 1) = ((i : Int) + 1) :: chL c i := by
  unfold chL
  rw [← ups_succ, List.filter_append, List.filter_cons_of_pos h, List.filter_nil, List.reverse_append]
  rfl
theorem chL_no {c : Int → Bool} {i : Nat} (h : c ((i : Int) + 1) = false) : chL c (i + 1) = chL c i := by
  unfold chL
  rw [← ups_succ, List.filter_append, List.filter_cons_of_neg (by simp [h]), List.filter_nil, List.append_nil]
theorem leL_yes {c : Int → Bool} {i : Nat} (h : c ((i : Int) + 1) = true) : leL c (i + 1) = leL c i := by
  unfold leL
  rw [← ups_succ, List.filter_append, List.filter_cons_of_neg (by simp [h]), List.filter_nil, List.append_nil]
theorem leL_no {c : Int → Bool} {i : Nat} (h : c ((i : Int) + 1) = false) : leL c (i + 1) = leL c i ++ [(i : Int) + 1] := by
  unfold leL
  rw [← ups_succ, List.filter_append, List.filter_cons_of_pos (by simp [h]), List.filter_nil]
theorem ups_nodup (k : Nat) : (ups k).Nodup := by
  unfold ups
  exact List.Pairwise.map _ (fun a b hab e => hab (by omega)) List.nodup_range
theorem chL_mem {c : Int → Bool} {k : Nat} {v : Int} : v ∈ chL c k ↔ v ∈ ups k ∧ c v = true := by unfold chL; rw [List.mem_reverse, List.mem_filter]
theorem chL_nodup (c : Int → Bool) (k : Nat) : (chL c k).Nodup := by unfold chL; exact (List.reverse_perm _).nodup_iff.2 ((ups_nodup k).filter _)
theorem chL_len (c : Int → Bool) (k : Nat) : (chL c k).length ≤ k := by
  unfold chL
  rw [List.length_reverse]
  exact Nat.le_trans (List.length_filter_le _ _) (by rw [ups_len]; exact Nat.le_refl _)
theorem leL_len (c : Int → Bool) (k : Nat) : (leL c k).length ≤ k := by
  unfold leL
  exact Nat.le_trans (List.length_filter_le _ _) (by rw [ups_len]; exact Nat.le_refl _)
/-- What the reader makes: ids ahead of b, the others as they were left. -/
def wantL (ids : List Int) (b : Int) (L : List Int) : List Int := L.flatMap (fun v => if v = b then ids ++ [v] else [v])
theorem wantL_snoc (ids : List Int) (b : Int) (L : List Int) (v : Int) : wantL ids b (L ++ [v]) = wantL ids b L ++ (if v = b then ids ++ [v] else [v]) := by
  unfold wantL; rw [List.flatMap_append]; simp
theorem wantL_off {ids : List Int} {b : Int} : ∀ {L : List Int}, b ∉ L → wantL ids b L = L
  | [], _ => rfl
  | v :: L, h => by
    have h1 : v ≠ b := fun e => h (by simp [e])
    have h2 : b ∉ L := fun e => h (by simp [e])
    show (if v = b then ids ++ [v] else [v]) ++ wantL ids b L = _
    rw [if_neg h1, wantL_off h2]; rfl
theorem wantL_app (ids : List Int) (b : Int) (P R : List Int) : wantL ids b (P ++ R) = wantL ids b P ++ wantL ids b R := by unfold wantL; rw [List.flatMap_append]
theorem leL_off {c : Int → Bool} {k : Nat} {P : List Int} (hP : ∀ v ∈ P, v ∈ ups k) : P.filter (fun v => !c v) = offL (chL c k) P := by
  unfold offL
  refine List.filter_congr (fun v hv => ?_)
  have : v ∈ chL c k ↔ c v = true := by rw [chL_mem]; exact ⟨fun e => e.2, fun e => ⟨hP v hv, e⟩⟩
  cases hcv : c v <;> simp [this, hcv]
theorem ups_at {k t : Nat} (h : t < k) : (ups k)[t]? = some ((t : Int) + 1) := by
  unfold ups
  rw [List.getElem?_map, List.getElem?_range h]
  rfl
/-- What Splice leaves is what the reader made. -/
theorem splice_want (c : Int → Bool) (k : Nat) (b : Int) (t : Nat) (hb : (b = 0 ∧ t = k) ∨ (b = (t : Int) + 1 ∧ t < k)) (hcb : c b = false) :
    ((chL c k).reverse.foldl stp (ups k, t)).1 = wantL (chL c k) b (leL c k) ++ (if b = 0 then chL c k else []) := by
  have htk : t ≤ k := by omega
  have hsp : ups k = (ups k).take t ++ (ups k).drop t := (List.take_append_drop t _).symm
  have htl : ((ups k).take t).length = t := by rw [List.length_take, ups_len]; omega
  have hst := stp_all (A := (ups k).take t) (S := (ups k).drop t) (zs := chL c k) (by rw [List.take_append_drop]; exact ups_nodup k) (chL_nodup c k) (fun z hz => by rw [List.take_append_drop]; exact (chL_mem.1 hz).1)
  rw [List.take_append_drop, htl] at hst
  rw [hst]
  have hle : leL c k = offL (chL c k) ((ups k).take t) ++ offL (chL c k) ((ups k).drop t) := by
    unfold leL
    conv => lhs; rw [hsp]
    rw [List.filter_append, leL_off (fun v hv => List.mem_of_mem_take hv), leL_off (fun v hv => List.mem_of_mem_drop hv)]
  rw [hle, wantL_app]
  rcases hb with ⟨rfl, rfl⟩ | ⟨hb, hlt⟩
  · have hd : (ups t).drop t = [] := List.drop_eq_nil_of_le (by rw [ups_len]; exact Nat.le_refl _)
    have h0 : (0 : Int) ∉ offL (chL c t) ((ups t).take t) := fun e => by
      have := (ups_mem t 0).1 (List.mem_of_mem_take (offL_mem.1 e).1)
      omega
    rw [hd, wantL_off h0, if_pos rfl]
    simp [offL, wantL]
  · have hbne : b ≠ 0 := by omega
    have hdr : (ups k).drop t = b :: (ups k).drop (t + 1) := by
      have hl : t < (ups k).length := by rw [ups_len]; exact hlt
      have := (List.getElem?_eq_some_iff.1 (ups_at hlt)).2
      rw [hb, ← this, List.getElem_cons_drop]
    have hnd := ups_nodup k
    rw [hsp, hdr, List.nodup_append, List.nodup_cons] at hnd
    obtain ⟨_, ⟨hbd, _⟩, hdis⟩ := hnd
    have hbt : b ∉ (ups k).take t := fun e => hdis b e b (by simp) rfl
    have hbc : b ∉ chL c k := fun e => by have := (chL_mem.1 e).2; rw [hcb] at this; cases this
    have e1 : offL (chL c k) ((ups k).drop t) = b :: offL (chL c k) ((ups k).drop (t + 1)) := by
      rw [hdr]; unfold offL; rw [List.filter_cons_of_pos (by simpa using hbc)]
    have h1 : b ∉ offL (chL c k) ((ups k).take t) := fun e => hbt (offL_mem.1 e).1
    have h2 : b ∉ offL (chL c k) ((ups k).drop (t + 1)) := fun e => hbd (offL_mem.1 e).1
    rw [wantL_off h1, e1]
    show _ = _ ++ ((if b = b then chL c k ++ [b] else [b]) ++ wantL (chL c k) b (offL (chL c k) ((ups k).drop (t + 1)))) ++ _
    rw [wantL_off h2, if_pos rfl, if_neg hbne]
    simp
end Go.Proofs.Ytbnkddnjfkagkaa
