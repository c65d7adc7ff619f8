/-
  Contracts of package slab for ints, over this seat's translation: All, what it goes through, and Held.
-/
import Derived.Test.YtchookgdajkipaaDoorSlabNew
import Derived.RangeFuncNested
import Derived.RangeFuncBound
import Derived.RangeFuncCalls
import Derived.RangeFuncLeaves
import Derived.RangeFuncBox
import Derived.Shelf.Abstract
import Derived.Shelf.RegionOpen
import Derived.OwnWalkIn
import Derived.TacticsInMore
import Derived.LoopNIn
import Derived.LoopIn
namespace Go.Proofs.YtchookgdajkipaaDoor.SI
open Go.RowKit Go.Lib Go.Shelf
set_option maxRecDepth 100000

attribute [local go_sem] Oper.semAt_some

/-- The numbers of a set, rising, below k. -/
def mems (S : Nat → Bool) (k : Nat) : List Nat := (List.range k).filter S
theorem mems_gap (S : Nat → Bool) (a : Nat) : ∀ c, a ≤ c → (∀ q, a ≤ q → q < c → S q = false) → mems S c = mems S a
  | 0, h, _ => by have : a = 0 := by omega
                  subst this; rfl
  | c + 1, h, hS => by
    by_cases e : a = c + 1
    · subst e; rfl
    · have h1 := mems_gap S a c (by omega) (fun q h1 h2 => hS q h1 (by omega))
      have h2 := hS c (by omega) (by omega)
      rw [← h1]; simp [mems, List.range_succ, h2]
theorem mems_succ (S : Nat → Bool) (p : Nat) (h : S p = true) : mems S (p + 1) = mems S p ++ [p] := by simp [mems, List.range_succ, h]
theorem mems_len (S : Nat → Bool) : ∀ k, (mems S k).length = cnt S k
  | 0 => rfl
  | k + 1 => by
    have ih := mems_len S k
    rw [cnt, ← ih]
    cases h : S k <;> simp [mems, List.range_succ, h]
def pairs (V : Nat → Int) (F : List Nat) : List (Nat × Int) := F.map fun j => (j, V j)

theorem only_of_below {n₀ : Nat} {W W' : World} (h : Below n₀ W W') : Only n₀ W.heap.size W W' := ⟨h.os, h.tape, h.output, h.size, fun k hk hr => h.block k (by omega)⟩
theorem RegMem.below {w w' : World} {rb ro pb po b g n n₀ : Nat} {S : Nat → Bool} {V : Nat → Int} (H : RegMem w rb ro pb po b g n S V) (k : Below n₀ w w') (h : rb < n₀ ∧ pb < n₀ ∧ b < n₀ ∧ g < n₀) : RegMem w' rb ro pb po b g n S V :=
  H.only (only_of_below k) (Or.inl h.1) (Or.inl h.2.1) (Or.inl h.2.2.1) (Or.inl h.2.2.2)
theorem tab_below {w w' : World} {n₀ : Nat} (h : TabAt w) (k : Below n₀ w w') (h0 : 0 < n₀) : TabAt w' := fun j hj => (k.cell (p := ⟨0, j, none⟩) h0).trans (h j hj)

theorem all_any (rb ro : Nat) (w : World) :
    Calls Tryd.prog 79 #[.pointer (some ⟨rb, ro, none⟩)] w fun e w' => e = .returned (.func (.func 86) #[] #[.pointer (some ⟨w.heap.size, 0, none⟩)]) ∧ w' = w.alloc (.cells #[.pointer (some ⟨rb, ro, none⟩)] 30) := by
  have hmf : ∀ (fn : Fn) (first cap : Array Value) (w : World), (Instr.makeFunc fn first cap).run Tryd.prog w = .ok (.func fn first cap) w := fun _ _ _ _ => rfl
  go_enter Tryd.func79, Tryd.ntmps79
  go_wp2
  go_ret
  exact ⟨rfl, rfl⟩

/-- Where a walk by Next stands, from q on: at the next number, or behind the last one. -/
def Stand (S : Nat → Bool) (n q : Nat) (k : Nat) (ok : Bool) : Prop := (ok = true ∧ q ≤ k ∧ k < n ∧ S k = true ∧ mems S k = mems S q) ∨ (ok = false ∧ mems S n = mems S q)
theorem next_stand (b g n q : Nat) (S : Nat → Bool) (v : World) (h : SetAt v b g n S) (hT : TabAt v) (hq : q ≤ n) :
    Calls Tryd.prog 81 #[.pointer (some ⟨b, 0, none⟩), .int .i64 q] v fun e w' => ∃ (k : Nat) (ok : Bool), e = .returned (.tuple #[.int .i64 k, .bool ok]) ∧ v = w' ∧ Hid (Stand S n q k ok) :=
  (next_any b g n q S v h hT).mono fun e w' ⟨hw, hp⟩ => by
    rw [Int.toNat_natCast] at hp
    rcases hp with ⟨p, h1, h2, h3, h4, rfl⟩ | ⟨h1, rfl⟩
    · exact ⟨p, true, rfl, hw, Lib.hid (Or.inl ⟨rfl, h1, h2, h3, mems_gap S q p h1 h4⟩)⟩
    · exact ⟨0, false, rfl, hw, Lib.hid (Or.inr ⟨rfl, mems_gap S q n hq h1⟩)⟩

/-- What a round keeps: all that lay below n₀, and the box Bs. -/
def KpB (n₀ Bs : Nat) (W W' : World) : Prop := Below n₀ W W' ∧ ∀ v, W.cell? ⟨Bs, 0, none⟩ = some v → W'.cell? ⟨Bs, 0, none⟩ = some v
theorem KpB.refl (n₀ Bs : Nat) (W : World) : KpB n₀ Bs W W := ⟨Below.refl _ _, fun _ h => h⟩
theorem KpB.trans {n₀ Bs : Nat} {A B C : World} (h : KpB n₀ Bs A B) (k : KpB n₀ Bs B C) : KpB n₀ Bs A C := ⟨h.1.trans k.1, fun v hv => k.2 v (h.2 v hv)⟩

set_option maxRecDepth 100000 in
set_option maxHeartbeats 4000000 in
theorem all1_in (k0 : Nat) (hk0 : 1 ≤ k0) (l Bs n₀ rb ro pb po b g n : Nat) (S : Nat → Bool) (V : Nat → Int) (J Jx : List (Nat × Int) → World → Prop)
    (hY : ∀ pre x W, J pre W → pre.length < cnt S n → YieldAt Fence.wide (k0 - 1) Tryd.prog l #[.int .i64 (x.1 : Int), .int .i64 x.2] W fun e W' =>
      (e = .returned (.bool true) ∧ J (pre ++ [x]) W' ∧ KpB n₀ Bs W W') ∨ (e = .returned (.bool false) ∧ Jx (pre ++ [x]) W'))
    (W : World) (hBs : W.cell? ⟨Bs, 0, none⟩ = some (.pointer (some ⟨rb, ro, none⟩))) (H : RegMem W rb ro pb po b g n S V) (hT : TabAt W) (hlt : rb < n₀ ∧ pb < n₀ ∧ b < n₀ ∧ g < n₀) (h0 : J [] W) :
    CallsIn Fence.wide k0 Tryd.prog 86 #[.func (.yield l) #[] #[], .pointer (some ⟨Bs, 0, none⟩)] W fun e W' => (∃ v, e = .returned v) ∧
      ((∃ ys, ys = pairs V (mems S n) ∧ J ys W') ∨ (∃ pre, (∃ k, k ≤ n ∧ pre = pairs V (mems S k)) ∧ Jx pre W')) := by
  have NX : Hid (∀ (q : Nat) (v : World), KpB n₀ Bs W v → q ≤ n → Calls Tryd.prog 81 #[.pointer (some ⟨b, 0, none⟩), .int .i64 q] v fun e w' => ∃ (k : Nat) (ok : Bool), e = .returned (.tuple #[.int .i64 k, .bool ok]) ∧ v = w' ∧ Hid (Stand S n q k ok)) :=
    Lib.hid fun q v hv hq => next_stand b g n q S v (H.below hv.1 hlt).set (tab_below hT hv.1 (by omega)) hq
  have HC : Hid (∀ v : World, KpB n₀ Bs W v → v.cell? ⟨Bs, 0, none⟩ = some (.pointer (some ⟨rb, ro, none⟩)) ∧ v.cell? ⟨rb, ro, none⟩ = some (.slice (some ⟨pb, po, none⟩) n n) ∧ v.cell? ⟨rb, ro + 1, none⟩ = some (.pointer (some ⟨b, 0, none⟩)) ∧ ∀ p, p < n → v.cell? ⟨pb, po + p, none⟩ = some (.int .i64 (V p))) :=
    Lib.hid fun v hv => have K := H.below hv.1 hlt
      ⟨hv.2 _ hBs, K.c0, K.c1, K.cv⟩
  have HH := Lib.hid H
  have HY := Lib.hid hY
  have c1 := H.c1
  have hn := H.hn
  have hlen : Hid (∀ p, p < n → S p = true → (pairs V (mems S p)).length < cnt S n) := Lib.hid fun p hp hS => by
    have h1 : cnt S (p + 1) = cnt S p + 1 := by rw [cnt, hS]; rfl
    have h2 : cnt S (p + 1) ≤ cnt S n := by
      obtain ⟨d, rfl⟩ : ∃ d, n = p + 1 + d := ⟨n - (p + 1), by omega⟩
      have := cnt_add S (p + 1) d
      omega
    simp only [pairs, List.length_map, mems_len]; omega
  clear H hY hT
  have N0 : Hid (Calls Tryd.prog 81 #[.pointer (some ⟨b, 0, none⟩), .int .i64 0] W _) := Lib.hid (NX.out 0 W (KpB.refl _ _ _) (by omega))
  refine callsIn_of_wp Tryd.func86 rfl trivial ?_ rfl
  simp only [Tryd.ntmps86, List.size_toArray, List.length_cons, List.length_nil, Nat.reduceAdd, Nat.reduceSub, Array.replicate_succ, Array.replicate_zero, List.push_toArray, List.append_toArray, List.nil_append, List.cons_append]
  gi_wp2_with (refine ⟨trivial, ?_⟩; gi_at_call 81; refine (callsIn_wide.2 N0.out).mono ?_; rintro e w' ⟨kx, okx, rfl, rfl, hst0⟩)
  have h00 : J (pairs V (mems S 0)) W := h0
  clear h0 hBs c1 N0
  gi_loopw [3, 4] (fun kv ov wr => ∃ (q k : Nat) (ok : Bool), q ≤ n ∧ kv = .int .i64 k ∧ ov = .bool ok ∧ Hid (Stand S n q k ok) ∧ J (pairs V (mems S q)) wr ∧ KpB n₀ Bs W wr)
    (fun kv ov _ => match ov with | .bool true => n - (intOf kv).toNat | _ => 0)
  case atStart => exact ⟨0, kx, okx, Nat.zero_le _, rfl, rfl, hst0, h00, KpB.refl _ _ _⟩
  case round =>
    obtain ⟨q, k, ok, hq, rfl, rfl, hst, hJ, hB⟩ := hrel
    clear h00 hst0
    obtain ⟨d0, d1, d2, d3⟩ := HC.out wr hB
    cases ok
    · have he : mems S n = mems S q := by
        rcases hst.out with ⟨h, _⟩ | ⟨_, h⟩
        · cases h
        · exact h
      gi_wp2
      go_end0
      exact ⟨⟨_, rfl⟩, .inl ⟨_, rfl, by rw [he]; exact hJ⟩⟩
    · obtain ⟨hkn, hSk, hmk⟩ : k < n ∧ S k = true ∧ mems S k = mems S q := by
        rcases hst.out with ⟨_, _, h1, h2, h3⟩ | ⟨h, _⟩
        · exact ⟨h1, h2, h3⟩
        · cases h
      have hms : Hid (pairs V (mems S q) ++ [(k, V k)] = pairs V (mems S (k + 1))) := Lib.hid (by rw [mems_succ S k hSk, ← hmk]; simp [pairs])
      have hln := hlen.out k hkn hSk
      rw [hmk] at hln
      have d4 := d3 k hkn
      obtain ⟨fn, tmps, assign, body, hy, hR⟩ := HY.out (pairs V (mems S q)) (k, V k) wr hJ hln
      dsimp only at hy
      have hR' := Lib.hid hR
      clear hR d3 hmk hSk hln hst
      gi_wp2
      refine hR'.out.mono ?_
      rintro e W3 (⟨rfl, hJ3, hk3⟩ | ⟨rfl, hJx3⟩)
      · rw [hms.out] at hJ3
        have hB3 := hB.trans hk3
        obtain ⟨f0, f1, f2, f3⟩ := HC.out W3 hB3
        have N1 : Hid (Calls Tryd.prog 81 #[.pointer (some ⟨b, 0, none⟩), .int .i64 ((k : Int) + 1)] W3 _) := Lib.hid (NX.out (k + 1) W3 hB3 (by omega))
        clear f3 hB hk3 hR' d0 d1 d2 d4 hJ hy
        gi_wp2_with (refine ⟨trivial, ?_⟩; gi_at_call 81; refine (callsIn_wide.2 N1.out).mono ?_; rintro e w' ⟨k2, ok2, rfl, rfl, hst2⟩)
        go_roundw
        case rel => exact ⟨k + 1, k2, ok2, by omega, rfl, rfl, hst2, hJ3, hB3⟩
        case measure =>
          rcases hst2.out with ⟨rfl, h1, h2, _⟩ | ⟨rfl, _⟩
          · simp [intOf]; omega
          · simp [intOf]; omega
      · rw [hms.out] at hJx3
        gi_wp2
        refine bodyPost_ret (results_none rfl _ _ _) rfl ?_
        exact ⟨⟨_, rfl⟩, .inr ⟨_, ⟨k + 1, by omega, rfl⟩, hJx3⟩⟩

theorem all_stops (k0 : Nat) (hk0 : 1 ≤ k0) (Bs n₀ rb ro pb po b g n : Nat) (S : Nat → Bool) (V : Nat → Int) (w : World) (hBs : Bs < w.heap.size) (hn₀ : n₀ ≤ w.heap.size) (hc : w.cell? ⟨Bs, 0, none⟩ = some (.pointer (some ⟨rb, ro, none⟩)))
    (H : RegMem w rb ro pb po b g n S V) (hT : TabAt w) (hlt : rb < n₀ ∧ pb < n₀ ∧ b < n₀ ∧ g < n₀) :
    SeqStopsK Fence.wide k0 Tryd.prog 86 #[.pointer (some ⟨Bs, 0, none⟩)] (fun x : Nat × Int => #[Value.int .i64 (x.1 : Int), Value.int .i64 x.2]) (KpB n₀ Bs) (fun ys => ys = pairs V (mems S n)) (fun pre => ∃ k, k ≤ n ∧ pre = pairs V (mems S k)) (cnt S n) w := fun l J Jx W hW _ _ hY h0 =>
  all1_in k0 hk0 l Bs n₀ rb ro pb po b g n S V J Jx hY W ((hW.cell (p := ⟨Bs, 0, none⟩) hBs).trans hc) (H.below (hW.mono hn₀) hlt) (tab_below hT (hW.mono hn₀) (by omega)) hlt h0

theorem kpb_b {n₀ Bs : Nat} {w : World} (hn : n₀ ≤ w.heap.size) (W : World) (l : Nat) (o o' : Obj) (hl : w.heap.size ≤ l) (h : W.heap[l]? = some o) (hc : o.isCells = false) (hw : o.isWalk = false) : KpB n₀ Bs W (W.putObj l o') :=
  ⟨belowK_b hn W l o o' hl h hc hw, fun v hv => cell_kept hv (grownBy_putObj' W l o') (fun r e => by cases e; exact ⟨o, h, hc⟩)⟩

theorem fst_pairs (V : Nat → Int) (F : List Nat) : (pairs V F).map Prod.fst = F := by
  unfold pairs
  rw [List.map_map]
  exact List.map_id'' (fun _ => rfl) F

set_option maxRecDepth 100000 in
set_option maxHeartbeats 4000000 in
theorem held_any {w : World} {rb ro pb po b g n : Nat} {S : Nat → Bool} {V : Nat → Int} (H : RegMem w rb ro pb po b g n S V) (hT : TabAt w) :
    Calls Tryd.prog 47 #[.pointer (some ⟨rb, ro, none⟩)] w fun e w' => ∃ r cp, e = .returned (.slice (some ⟨r, 0, none⟩) (mems S n).length cp) ∧ w.grownBy w' none ∧ RowOf w' w.heap.size r cp (mems S n) := by
  have hcn : cnt S n ≤ n := cnt_le S n
  have hn := H.hn
  have hl1 := H.l
  have hl2 := H.set.hb
  have hl3 := H.set.hg
  have CC := Lib.hid (count_any H)
  have HH := Lib.hid H
  have HTT := Lib.hid hT
  have hl0 : 0 < w.heap.size := by omega
  clear H hT
  obtain ⟨i0, hi0, hz0, hz1, hz2⟩ := int_info
  have I0 := Lib.hid hi0
  have I1 := Lib.hid hz0
  have I2 := Lib.hid hz1
  have I3 := Lib.hid hz2
  clear hi0 hz0 hz1 hz2
  have hmk : ∀ W : World, (Instr.makeSlice 22 (.int .i64 0) (.int .i64 (cnt S n : Nat))).run Tryd.prog W = _ := fun W => make_ints 0 (cnt S n) (by omega) (by omega) W
  have AA := Lib.hid (fun v : World => all_any rb ro v)
  refine (callsIn_wide (n := 4)).1 ?_
  refine callsIn_of_wp_marks Tryd.func47 rfl trivial ?_ rfl
  simp only [Tryd.ntmps47, List.size_toArray, List.length_cons, List.length_nil, Nat.reduceAdd, Nat.reduceSub, Array.replicate_succ, Array.replicate_zero, List.push_toArray, List.append_toArray, List.nil_append, List.cons_append]
  gi_wp2_with (first
    | (refine ⟨trivial, ?_⟩; gi_at_call 45; refine (callsIn_wide.2 CC.out).mono ?_; rintro e w' ⟨rfl, rfl⟩)
    | (refine ⟨trivial, ?_⟩; gi_at_call 79; refine (callsIn_wide.2 (AA.out _)).mono ?_; rintro e w' ⟨rfl, rfl⟩))
  have k0 := (World.grownBy_alloc w (.cells (madeCells #[.int .i64 0] (cnt S n)) 3) none).trans ((World.grownBy_alloc _ (.cells #[.slice (some ⟨w.heap.size, 0, none⟩) 0 (cnt S n)] 22) none).trans (World.grownBy_alloc _ (.cells #[.pointer (some ⟨rb, ro, none⟩)] 30) none))
  have bO := (Boxed.new (w.alloc (.cells (madeCells #[.int .i64 0] (cnt S n)) 3)) 22 (.slice (some ⟨w.heap.size, 0, none⟩) 0 (cnt S n))).alloc (.cells #[.pointer (some ⟨rb, ro, none⟩)] 30)
  have bN := Boxed.new ((w.alloc (.cells (madeCells #[.int .i64 0] (cnt S n)) 3)).alloc (.cells #[.slice (some ⟨w.heap.size, 0, none⟩) 0 (cnt S n)] 22)) 30 (.pointer (some ⟨rb, ro, none⟩))
  have hR0 : RowOf (((w.alloc (.cells (madeCells #[.int .i64 0] (cnt S n)) 3)).alloc (.cells #[.slice (some ⟨w.heap.size, 0, none⟩) 0 (cnt S n)] 22)).alloc (.cells #[.pointer (some ⟨rb, ro, none⟩)] 30)) w.heap.size w.heap.size (cnt S n) [] :=
    ((make_room w w.heap.size (cnt S n) (Nat.le_refl _) (by omega)).kept (World.grownBy_alloc _ _ none) (by simp)).kept (World.grownBy_alloc _ _ none) (by simp)
  have hsz : (((w.alloc (.cells (madeCells #[.int .i64 0] (cnt S n)) 3)).alloc (.cells #[.slice (some ⟨w.heap.size, 0, none⟩) 0 (cnt S n)] 22)).alloc (.cells #[.pointer (some ⟨rb, ro, none⟩)] 30)).heap.size = w.heap.size + 1 + 1 + 1 := by simp
  rw [World.size_alloc, World.size_alloc] at bN
  rw [World.size_alloc] at bO
  generalize ((w.alloc (.cells (madeCells #[.int .i64 0] (cnt S n)) 3)).alloc (.cells #[.slice (some ⟨w.heap.size, 0, none⟩) 0 (cnt S n)] 22)).alloc (.cells #[.pointer (some ⟨rb, ro, none⟩)] 30) = W0 at *
  have hB0 : Below w.heap.size w W0 := ⟨k0.os, k0.tape, k0.output, k0.size, fun j hj => k0.block j hj (by simp)⟩
  refine wpIn_rangeFunc_ownF rfl (by omega) (gf := 86) (lb := #[.pointer (some ⟨w.heap.size + 1 + 1, 0, none⟩)]) rfl trivial (enters_of Tryd.func86 (by kernel_rfl) rfl)
    (all_stops 3 (by omega) (w.heap.size + 1 + 1) w.heap.size rb ro pb po b g n S V W0 (by omega) (by omega) bN.cell (HH.out.kept k0) (HTT.out.kept k0) (by omega)) (fun h k => h.trans k) (kpb_b (by omega)) (Below.refl _ _) (fun _ => rfl)
    (fun pre W => ((∃ v, Boxed W (w.heap.size + 1) 22 v ∧ W.ownsRow w.heap.size 3 1 v pre.length (ints (pre.map Prod.fst)) ∧ v ≠ .slice none 0 0) ∧ Boxed W (w.heap.size + 1 + 1) 30 (.pointer (some ⟨rb, ro, none⟩))) ∧ Below w.heap.size w W)
    (fun _ _ _ => False)
    (OwnFrom.and (OwnFrom.and (Own.from (holdsRow_own w.heap.size (w.heap.size + 1) 22 3 1 (fun pre : List (Nat × Int) => pre.length) (fun pre => ints (pre.map Prod.fst)) (fun _ v => v ≠ .slice none 0 0)) _) (Own.from (boxed_own (w.heap.size + 1 + 1) 30 (fun _ => .pointer (some ⟨rb, ro, none⟩))) _)) (ownFrom_below (Nat.le_refl _) (by omega)))
    (fun _ _ _ _ _ hs _ _ => hs)
    ⟨⟨⟨_, bO, hR0, by intro h; cases h⟩, bN⟩, hB0⟩
    (fun x => { tmps := #[.pointer (some ⟨rb, ro, none⟩), undef, .slice none 0 0, .pointer (some ⟨w.heap.size + 1, 0, none⟩), .int .i64 (x.1 : Int), .pointer (some ⟨rb, ro, none⟩), .int .i64 (cnt S n : Nat), .slice (some ⟨w.heap.size, 0, none⟩) 0 (cnt S n), .pointer (some ⟨rb, ro, none⟩), .func (.func 86) #[] #[.pointer (some ⟨w.heap.size + 1 + 1, 0, none⟩)], .int .i64 (x.1 : Int), .int .i64 x.2, undef, undef, undef, undef, undef], defers := [] }) ?assign ?body ?done ?stop
  case assign =>
    intro l x W K hK
    gi_wp2
    exact hK
  case body =>
    rintro l pre x W ⟨⟨⟨v, hv, hrow, hnil⟩, hbx⟩, hB⟩ hlt
    have hc := hv.cell
    have hbs := hB.size
    gi_wp2_with (gi_at_builtin; refine wpListIn_append_own _ rfl _ _ 22 rfl w.heap.size 3 i0 (.int .i64 0) 1 8 Tryd.underlying22 I0.out I1.out I2.out I3.out rfl (by decide) _ _ _ rfl (hrow.alloc _) ⟨W.heap.size, 0, none⟩ 1 1 [.int .i64 (x.1 : Int)] rfl rfl (cell_one_new _ _ _) (by simp [Value.oneCell']) (by unfold maxLen; omega) (by omega) (by simp; omega) ?_; intro v' w1 hown' hgrow _; obtain ⟨g', cap', rfl⟩ := ownsRow_succ hown'; obtain ⟨hv1, hv2, hr2, hk2, hb2⟩ := hv.appended (by decide) hrow hB.size (by omega) hown' hgrow; have hc1 := hv1.cell; have hf1 := hv1.frozen)
    have hbx2 : Boxed (w1.setCell ⟨w.heap.size + 1, 0, none⟩ (.slice (some ⟨g', 0, none⟩) (pre.length + 1) cap')) (w.heap.size + 1 + 1) 30 (.pointer (some ⟨rb, ro, none⟩)) := ((hbx.alloc _).kept hgrow (hbx.not_row (by decide) hrow)).other (by omega) _
    refine ⟨hk2, ⟨hb2, fun u hu => ?_⟩, ⟨⟨_, hv2, ?_, by intro h; cases h⟩, hbx2⟩, hB.trans hb2⟩
    · rw [hbx.cell] at hu
      cases hu
      exact hbx2.cell
    · have e1 : (pre ++ [x]).length = pre.length + 1 := by simp
      have e2 : ints ((pre ++ [x]).map Prod.fst) = ints (pre.map Prod.fst) ++ [.int .i64 (x.1 : Int)] := by rw [ints_snoc]; simp
      rw [e1, e2]
      exact hr2
  case done =>
    rintro D ys W hD rfl ⟨⟨⟨v, hv, hrow, hnil⟩, hbx⟩, hB⟩ hK
    rw [fst_pairs] at hrow
    have hc := hv.cell
    gi_wp2
    refine ⟨by simp, .inl ⟨_, _, rfl, run_takeDeferred hK, ?_⟩⟩
    obtain ⟨r, cp, rfl, hR⟩ := row_of_owns (ownsRow_putObj hrow (.deferred none) hK rfl) (F := mems S n) (by simp [pairs]) rfl hnil
    have hB2 := hB.trans (belowK_b (w := w) (Nat.le_refl _) W D _ (.deferred none) (by omega) hK rfl rfl)
    exact ⟨_, results_tmp rfl _ _ _, r, cp, rfl, ⟨hB2.os, hB2.tape, hB2.output, hB2.size, fun j hj _ => hB2.block j hj⟩, hR⟩
  case stop =>
    rintro D c pre W _ _ h _
    exact h.elim

end Go.Proofs.YtchookgdajkipaaDoor.SI
