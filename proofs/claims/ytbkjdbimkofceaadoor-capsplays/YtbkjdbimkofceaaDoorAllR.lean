/-
  Contracts of package slab for rows of handles, over this seat's translation: All, and what it goes through.
-/
import Derived.Test.YtbkjdbimkofceaaDoorSlabTopR
import Derived.RangeFuncNested
import Derived.RangeFuncBound
import Derived.RangeFuncCalls
import Derived.RangeFuncLeaves
import Derived.RangeFuncBox
import Derived.Shelf.Abstract
import Derived.Shelf.RegionOpen
import Derived.OwnWalkIn
import Derived.TacticsInMore
import Derived.LoopNIn
import Derived.LoopIn
namespace Go.Proofs.YtbkjdbimkofceaaDoor.SR
open Go.RowKit Go.Lib Go.Shelf
set_option maxRecDepth 100000

attribute [local go_sem] Oper.semAt_some

/-- The numbers of a set, rising, below k. -/
def mems (S : Nat → Bool) (k : Nat) : List Nat := (List.range k).filter S
theorem mems_gap (S : Nat → Bool) (a : Nat) : ∀ c, a ≤ c → (∀ q, a ≤ q → q < c → S q = false) → mems S c = mems S a
  | 0, h, _ => by have : a = 0 := by omega
                  subst this; rfl
  | c + 1, h, hS => by
    by_cases e : a = c + 1
    · subst e; rfl
    · have h1 := mems_gap S a c (by omega) (fun q h1 h2 => hS q h1 (by omega))
      have h2 := hS c (by omega) (by omega)
      rw [← h1]; simp [mems, List.range_succ, h2]
theorem mems_succ (S : Nat → Bool) (p : Nat) (h : S p = true) : mems S (p + 1) = mems S p ++ [p] := by simp [mems, List.range_succ, h]
theorem mems_len (S : Nat → Bool) : ∀ k, (mems S k).length = cnt S k
  | 0 => rfl
  | k + 1 => by
    have ih := mems_len S k
    rw [cnt, ← ih]
    cases h : S k <;> simp [mems, List.range_succ, h]
def pairs (V : Nat → Pr) (F : List Nat) : List (Nat × Pr) := F.map fun j => (j, V j)

theorem only_of_below {n₀ : Nat} {W W' : World} (h : Below n₀ W W') : Only n₀ W.heap.size W W' := ⟨h.os, h.tape, h.output, h.size, fun k hk hr => h.block k (by omega)⟩
theorem RegMem.below {w w' : World} {rb ro pb po b g n n₀ : Nat} {S : Nat → Bool} {V : Nat → Pr} (H : RegMem w rb ro pb po b g n S V) (k : Below n₀ w w') (h : rb < n₀ ∧ pb < n₀ ∧ b < n₀ ∧ g < n₀) : RegMem w' rb ro pb po b g n S V :=
  H.only (only_of_below k) (Or.inl h.1) (Or.inl h.2.1) (Or.inl h.2.2.1) (Or.inl h.2.2.2)
theorem tab_below {w w' : World} {n₀ : Nat} (h : TabAt w) (k : Below n₀ w w') (h0 : 0 < n₀) : TabAt w' := fun j hj => (k.cell (p := ⟨0, j, none⟩) h0).trans (h j hj)

theorem all_any (rb ro : Nat) (w : World) :
    Calls Tryd.prog 40 #[.pointer (some ⟨rb, ro, none⟩)] w fun e w' => e = .returned (.func (.func 51) #[] #[.pointer (some ⟨w.heap.size, 0, none⟩)]) ∧ w' = w.alloc (.cells #[.pointer (some ⟨rb, ro, none⟩)] 59) := by
  have hmf : ∀ (fn : Fn) (first cap : Array Value) (w : World), (Instr.makeFunc fn first cap).run Tryd.prog w = .ok (.func fn first cap) w := fun _ _ _ _ => rfl
  go_enter Tryd.func40, Tryd.ntmps40
  go_wp2
  go_ret
  exact ⟨rfl, rfl⟩

/-- Where a walk by Next stands, from q on: at the next number, or behind the last one. -/
def Stand (S : Nat → Bool) (n q : Nat) (k : Nat) (ok : Bool) : Prop := (ok = true ∧ q ≤ k ∧ k < n ∧ S k = true ∧ mems S k = mems S q) ∨ (ok = false ∧ mems S n = mems S q)
theorem next_stand (b g n q : Nat) (S : Nat → Bool) (v : World) (h : SetAt v b g n S) (hT : TabAt v) (hq : q ≤ n) :
    Calls Tryd.prog 52 #[.pointer (some ⟨b, 0, none⟩), .int .i64 q] v fun e w' => ∃ (k : Nat) (ok : Bool), e = .returned (.tuple #[.int .i64 k, .bool ok]) ∧ v = w' ∧ Hid (Stand S n q k ok) :=
  (next_any b g n q S v h hT).mono fun e w' ⟨hw, hp⟩ => by
    rw [Int.toNat_natCast] at hp
    rcases hp with ⟨p, h1, h2, h3, h4, rfl⟩ | ⟨h1, rfl⟩
    · exact ⟨p, true, rfl, hw, Lib.hid (Or.inl ⟨rfl, h1, h2, h3, mems_gap S q p h1 h4⟩)⟩
    · exact ⟨0, false, rfl, hw, Lib.hid (Or.inr ⟨rfl, mems_gap S q n hq h1⟩)⟩

/-- What a round keeps: all that lay below n₀, and the box Bs. -/
def KpB (n₀ Bs : Nat) (W W' : World) : Prop := Below n₀ W W' ∧ ∀ v, W.cell? ⟨Bs, 0, none⟩ = some v → W'.cell? ⟨Bs, 0, none⟩ = some v
theorem KpB.refl (n₀ Bs : Nat) (W : World) : KpB n₀ Bs W W := ⟨Below.refl _ _, fun _ h => h⟩
theorem KpB.trans {n₀ Bs : Nat} {A B C : World} (h : KpB n₀ Bs A B) (k : KpB n₀ Bs B C) : KpB n₀ Bs A C := ⟨h.1.trans k.1, fun v hv => k.2 v (h.2 v hv)⟩

set_option maxRecDepth 100000 in
set_option maxHeartbeats 4000000 in
theorem all1_in (k0 : Nat) (hk0 : 1 ≤ k0) (l Bs n₀ rb ro pb po b g n : Nat) (S : Nat → Bool) (V : Nat → Pr) (J Jx : List (Nat × Pr) → World → Prop)
    (hY : ∀ pre k W, k < n → S k = true → J pre W → pre.length < cnt S n → YieldAt Fence.wide (k0 - 1) Tryd.prog l #[.int .i64 (k : Int), (V k).val] W fun e W' =>
      (e = .returned (.bool true) ∧ J (pre ++ [(k, V k)]) W' ∧ KpB n₀ Bs W W') ∨ (e = .returned (.bool false) ∧ Jx (pre ++ [(k, V k)]) W'))
    (W : World) (hBs : W.cell? ⟨Bs, 0, none⟩ = some (.pointer (some ⟨rb, ro, none⟩))) (H : RegMem W rb ro pb po b g n S V) (hT : TabAt W) (hlt : rb < n₀ ∧ pb < n₀ ∧ b < n₀ ∧ g < n₀) (h0 : J [] W) :
    CallsIn Fence.wide k0 Tryd.prog 51 #[.func (.yield l) #[] #[], .pointer (some ⟨Bs, 0, none⟩)] W fun e W' => (∃ v, e = .returned v) ∧
      ((∃ ys, ys = pairs V (mems S n) ∧ J ys W') ∨ (∃ pre, (∃ k, k ≤ n ∧ pre = pairs V (mems S k)) ∧ Jx pre W')) := by
  have NX : Hid (∀ (q : Nat) (v : World), KpB n₀ Bs W v → q ≤ n → Calls Tryd.prog 52 #[.pointer (some ⟨b, 0, none⟩), .int .i64 q] v fun e w' => ∃ (k : Nat) (ok : Bool), e = .returned (.tuple #[.int .i64 k, .bool ok]) ∧ v = w' ∧ Hid (Stand S n q k ok)) :=
    Lib.hid fun q v hv hq => next_stand b g n q S v (H.below hv.1 hlt).set (tab_below hT hv.1 (by omega)) hq
  have HC : Hid (∀ v : World, KpB n₀ Bs W v → v.cell? ⟨Bs, 0, none⟩ = some (.pointer (some ⟨rb, ro, none⟩)) ∧ v.cell? ⟨rb, ro, none⟩ = some (.slice (some ⟨pb, po, none⟩) n n) ∧ v.cell? ⟨rb, ro + 1, none⟩ = some (.pointer (some ⟨b, 0, none⟩)) ∧ ∀ p, p < n → PlaceAt v pb (po + p * 4) (V p)) :=
    Lib.hid fun v hv => have K := H.below hv.1 hlt
      ⟨hv.2 _ hBs, K.c0, K.c1, K.cv⟩
  have HH := Lib.hid H
  have HY := Lib.hid hY
  have c1 := H.c1
  have hn := H.hn
  have hlen : Hid (∀ p, p < n → S p = true → (pairs V (mems S p)).length < cnt S n) := Lib.hid fun p hp hS => by
    have h1 : cnt S (p + 1) = cnt S p + 1 := by rw [cnt, hS]; rfl
    have h2 : cnt S (p + 1) ≤ cnt S n := by
      obtain ⟨d, rfl⟩ : ∃ d, n = p + 1 + d := ⟨n - (p + 1), by omega⟩
      have := cnt_add S (p + 1) d
      omega
    simp only [pairs, List.length_map, mems_len]; omega
  clear H hY hT
  have N0 : Hid (Calls Tryd.prog 52 #[.pointer (some ⟨b, 0, none⟩), .int .i64 0] W _) := Lib.hid (NX.out 0 W (KpB.refl _ _ _) (by omega))
  refine callsIn_of_wp Tryd.func51 rfl trivial ?_ rfl
  simp only [Tryd.ntmps51, List.size_toArray, List.length_cons, List.length_nil, Nat.reduceAdd, Nat.reduceSub, Array.replicate_succ, Array.replicate_zero, List.push_toArray, List.append_toArray, List.nil_append, List.cons_append]
  gi_wp2_with (refine ⟨trivial, ?_⟩; gi_at_call 52; refine (callsIn_wide.2 N0.out).mono ?_; rintro e w' ⟨kx, okx, rfl, rfl, hst0⟩)
  have h00 : J (pairs V (mems S 0)) W := h0
  clear h0 hBs c1 N0
  gi_loopw [3, 4] (fun kv ov wr => ∃ (q k : Nat) (ok : Bool), q ≤ n ∧ kv = .int .i64 k ∧ ov = .bool ok ∧ Hid (Stand S n q k ok) ∧ J (pairs V (mems S q)) wr ∧ KpB n₀ Bs W wr)
    (fun kv ov _ => match ov with | .bool true => n - (intOf kv).toNat | _ => 0)
  case atStart => exact ⟨0, kx, okx, Nat.zero_le _, rfl, rfl, hst0, h00, KpB.refl _ _ _⟩
  case round =>
    obtain ⟨q, k, ok, hq, rfl, rfl, hst, hJ, hB⟩ := hrel
    clear h00 hst0
    obtain ⟨d0, d1, d2, d3⟩ := HC.out wr hB
    cases ok
    · have he : mems S n = mems S q := by
        rcases hst.out with ⟨h, _⟩ | ⟨_, h⟩
        · cases h
        · exact h
      gi_wp2
      go_end0
      exact ⟨⟨_, rfl⟩, .inl ⟨_, rfl, by rw [he]; exact hJ⟩⟩
    · obtain ⟨hkn, hSk, hmk⟩ : k < n ∧ S k = true ∧ mems S k = mems S q := by
        rcases hst.out with ⟨_, _, h1, h2, h3⟩ | ⟨h, _⟩
        · exact ⟨h1, h2, h3⟩
        · cases h
      have hms : Hid (pairs V (mems S q) ++ [(k, V k)] = pairs V (mems S (k + 1))) := Lib.hid (by rw [mems_succ S k hSk, ← hmk]; simp [pairs])
      have hln := hlen.out k hkn hSk
      rw [hmk] at hln
      obtain ⟨d4, d5, d6, d7⟩ := d3 k hkn
      obtain ⟨fn, tmps, assign, body, hy, hR⟩ := HY.out (pairs V (mems S q)) k wr hkn hSk hJ hln
      dsimp only [Pr.val] at hy
      have hR' := Lib.hid hR
      clear hR d3 hmk hSk hln hst
      gi_wp2
      refine hR'.out.mono ?_
      rintro e W3 (⟨rfl, hJ3, hk3⟩ | ⟨rfl, hJx3⟩)
      · rw [hms.out] at hJ3
        have hB3 := hB.trans hk3
        obtain ⟨f0, f1, f2, f3⟩ := HC.out W3 hB3
        have N1 : Hid (Calls Tryd.prog 52 #[.pointer (some ⟨b, 0, none⟩), .int .i64 ((k : Int) + 1)] W3 _) := Lib.hid (NX.out (k + 1) W3 hB3 (by omega))
        clear f3 hB hk3 hR' d0 d1 d2 d4 d5 d6 d7 hJ hy
        gi_wp2_with (refine ⟨trivial, ?_⟩; gi_at_call 52; refine (callsIn_wide.2 N1.out).mono ?_; rintro e w' ⟨k2, ok2, rfl, rfl, hst2⟩)
        go_roundw
        case rel => exact ⟨k + 1, k2, ok2, by omega, rfl, rfl, hst2, hJ3, hB3⟩
        case measure =>
          rcases hst2.out with ⟨rfl, h1, h2, _⟩ | ⟨rfl, _⟩
          · simp [intOf]; omega
          · simp [intOf]; omega
      · rw [hms.out] at hJx3
        gi_wp2
        refine bodyPost_ret (results_none rfl _ _ _) rfl ?_
        exact ⟨⟨_, rfl⟩, .inr ⟨_, ⟨k + 1, by omega, rfl⟩, hJx3⟩⟩

theorem all_stops (k0 : Nat) (hk0 : 1 ≤ k0) (Bs n₀ rb ro pb po b g n : Nat) (S : Nat → Bool) (V : Nat → Pr) (w : World) (hBs : Bs < w.heap.size) (hn₀ : n₀ ≤ w.heap.size) (hc : w.cell? ⟨Bs, 0, none⟩ = some (.pointer (some ⟨rb, ro, none⟩)))
    (H : RegMem w rb ro pb po b g n S V) (hT : TabAt w) (hlt : rb < n₀ ∧ pb < n₀ ∧ b < n₀ ∧ g < n₀) :
    SeqStopsK Fence.wide k0 Tryd.prog 51 #[.pointer (some ⟨Bs, 0, none⟩)] (fun x : Nat × Pr => #[Value.int .i64 (x.1 : Int), x.2.val]) (KpB n₀ Bs) (fun ys => ys = pairs V (mems S n)) (fun pre => ∃ k, k ≤ n ∧ pre = pairs V (mems S k)) (cnt S n) w := fun l J Jx W hW _ _ hY h0 =>
  all1_in k0 hk0 l Bs n₀ rb ro pb po b g n S V J Jx (fun pre k W _ _ => hY pre (k, V k) W) W ((hW.cell (p := ⟨Bs, 0, none⟩) hBs).trans hc) (H.below (hW.mono hn₀) hlt) (tab_below hT (hW.mono hn₀) (by omega)) hlt h0

theorem pairs_inj {V : Nat → Pr} {F G : List Nat} (h : pairs V F = pairs V G) : F = G := by
  have e : ∀ F : List Nat, (pairs V F).map Prod.fst = F := fun F => by
    unfold pairs
    rw [List.map_map]
    exact List.map_id'' (fun _ => rfl) F
  rw [← e F, ← e G, h]
/-- The same, the elements being places. -/
theorem all_stopsF (k0 : Nat) (hk0 : 1 ≤ k0) (Bs n₀ rb ro pb po b g n : Nat) (S : Nat → Bool) (V : Nat → Pr) (w : World) (hBs : Bs < w.heap.size) (hn₀ : n₀ ≤ w.heap.size) (hc : w.cell? ⟨Bs, 0, none⟩ = some (.pointer (some ⟨rb, ro, none⟩)))
    (H : RegMem w rb ro pb po b g n S V) (hT : TabAt w) (hlt : rb < n₀ ∧ pb < n₀ ∧ b < n₀ ∧ g < n₀) :
    SeqStopsK Fence.wide k0 Tryd.prog 51 #[.pointer (some ⟨Bs, 0, none⟩)] (fun x : Fin n => #[Value.int .i64 (x.1 : Int), (V x.1).val]) (KpB n₀ Bs) (fun ys => ys.map Fin.val = mems S n) (fun _ => True) (cnt S n) w := fun l J Jx W hW _ _ hY h0 => by
  refine (all1_in k0 hk0 l Bs n₀ rb ro pb po b g n S V (fun L W => ∃ F : List (Fin n), L = pairs V (F.map Fin.val) ∧ J F W) (fun L W => ∃ F : List (Fin n), L = pairs V (F.map Fin.val) ∧ Jx F W) ?_ W ((hW.cell (p := ⟨Bs, 0, none⟩) hBs).trans hc) (H.below (hW.mono hn₀) hlt) (tab_below hT (hW.mono hn₀) (by omega)) hlt ⟨[], rfl, h0⟩).mono ?_
  · rintro pre k W1 hk hS ⟨F, rfl, hJ⟩ hl
    have e : pairs V (F.map Fin.val) ++ [(k, V k)] = pairs V ((F ++ [(⟨k, hk⟩ : Fin n)]).map Fin.val) := by simp [pairs]
    refine (hY F ⟨k, hk⟩ W1 hJ (by simpa [pairs] using hl)).mono ?_
    rintro e' W2 (⟨h1, h2, h3⟩ | ⟨h1, h2⟩)
    · exact Or.inl ⟨h1, ⟨_, e, h2⟩, h3⟩
    · exact Or.inr ⟨h1, ⟨_, e, h2⟩⟩
  · rintro e' W2 ⟨hv, h⟩
    refine ⟨hv, ?_⟩
    rcases h with ⟨ys, rfl, F, hF, hJ⟩ | ⟨pre, _, F, _, hJ⟩
    · exact Or.inl ⟨F, (pairs_inj hF).symm, hJ⟩
    · exact Or.inr ⟨F, trivial, hJ⟩

theorem kpb_b {n₀ Bs : Nat} {w : World} (hn : n₀ ≤ w.heap.size) (W : World) (l : Nat) (o o' : Obj) (hl : w.heap.size ≤ l) (h : W.heap[l]? = some o) (hc : o.isCells = false) (hw : o.isWalk = false) : KpB n₀ Bs W (W.putObj l o') :=
  ⟨belowK_b hn W l o o' hl h hc hw, fun v hv => cell_kept hv (grownBy_putObj' W l o') (fun r e => by cases e; exact ⟨o, h, hc⟩)⟩

end Go.Proofs.YtbkjdbimkofceaaDoor.SR
