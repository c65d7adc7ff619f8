/-
  A contract of package caps, over this seat's translation: Of: by the iterator's contract.
-/
import Derived.Test.YtbkjdbimkofceaaDoorCapsObj
import Derived.Test.YtbkjdbimkofceaaDoorRef5g
namespace Go.Proofs.YtbkjdbimkofceaaDoor
open Go.RowKit Go.Lib Go.Shelf

attribute [local go_sem] Oper.semAt_some

section
variable {w w' : World} {tb rb ro pb po b g hb n G : Nat} {T : Nat → Pl}

set_option maxRecDepth 100000 in
set_option maxHeartbeats 4000000 in
theorem of_raw (kind index : Int) (H : CapMem w tb rb ro pb po b g hb n G T) (hT : TabAt w) :
    Calls Tryd.prog 35 #[.pointer (some ⟨tb, 0, none⟩), .int .i64 kind, .int .i64 index] w fun e w' => e = .returned (.int .i64 (((SR.pairs (fun j => (T j).row) (SR.mems (fun j => (T j).full G) n)).filter fun x => decide (0 < x.2.g) && decide (x.2.k = kind) && decide (x.2.i = index)).length : Nat)) ∧ w.grownBy w' none := by
  have hn := H.reg.hn
  have hl1 := H.reg.l
  have hl2 := H.reg.set.hb
  have hl3 := H.reg.set.hg
  have hcn : cnt (fun j => (T j).full G) n ≤ n := cnt_le _ n
  have HH := Lib.hid H
  have HTT := Lib.hid hT
  have kz := ((World.grownBy_alloc w (.cells #[.int .i64 kind] 3) none).trans (World.grownBy_alloc _ (.cells #[.int .i64 index] 3) none)).trans (World.grownBy_alloc _ (.cells #[.int .i64 0] 3) none)
  have t0 := (H.kept kz).t0
  have hl0 : 0 < w.heap.size := by omega
  have KZ := Lib.hid kz
  clear H hT kz
  have AA := Lib.hid (fun v : World => SR.all_any rb ro v)
  have CI := Lib.hid (fun (v : World) (x : SR.Pr) => isOut_any x.g x.k x.i x.r v)
  refine (callsIn_wide (n := 4)).1 ?_
  refine callsIn_of_wp_marks Tryd.func35 rfl trivial ?_ rfl
  simp only [Tryd.ntmps35, List.size_toArray, List.length_cons, List.length_nil, Nat.reduceAdd, Nat.reduceSub, Array.replicate_succ, Array.replicate_zero, List.push_toArray, List.append_toArray, List.nil_append, List.cons_append]
  gi_wp2_with (first
    | (refine ⟨trivial, ?_⟩; gi_at_call 40; refine (callsIn_wide.2 (AA.out _)).mono ?_; rintro e w' ⟨rfl, rfl⟩))
  have k0 := KZ.out.trans (World.grownBy_alloc (((w.alloc (.cells #[.int .i64 kind] 3)).alloc (.cells #[.int .i64 index] 3)).alloc (.cells #[.int .i64 0] 3)) (.cells #[.pointer (some ⟨rb, ro, none⟩)] 59) none)
  have bK : Boxed ((((w.alloc (.cells #[.int .i64 kind] 3)).alloc (.cells #[.int .i64 index] 3)).alloc (.cells #[.int .i64 0] 3)).alloc (.cells #[.pointer (some ⟨rb, ro, none⟩)] 59)) w.heap.size 3 (.int .i64 kind) := (((Boxed.new w 3 (.int .i64 kind)).alloc (.cells #[.int .i64 index] 3)).alloc (.cells #[.int .i64 0] 3)).alloc (.cells #[.pointer (some ⟨rb, ro, none⟩)] 59)
  have bI := ((Boxed.new (w.alloc (.cells #[.int .i64 kind] 3)) 3 (.int .i64 index)).alloc (.cells #[.int .i64 0] 3)).alloc (.cells #[.pointer (some ⟨rb, ro, none⟩)] 59)
  rw [World.size_alloc] at bI
  have bO := (Boxed.new ((w.alloc (.cells #[.int .i64 kind] 3)).alloc (.cells #[.int .i64 index] 3)) 3 (.int .i64 ((0 : Nat) : Int))).alloc (.cells #[.pointer (some ⟨rb, ro, none⟩)] 59)
  rw [World.size_alloc, World.size_alloc] at bO
  have bN := Boxed.new (((w.alloc (.cells #[.int .i64 kind] 3)).alloc (.cells #[.int .i64 index] 3)).alloc (.cells #[.int .i64 0] 3)) 59 (.pointer (some ⟨rb, ro, none⟩))
  rw [World.size_alloc, World.size_alloc, World.size_alloc] at bN
  have hsz : ((((w.alloc (.cells #[.int .i64 kind] 3)).alloc (.cells #[.int .i64 index] 3)).alloc (.cells #[.int .i64 0] 3)).alloc (.cells #[.pointer (some ⟨rb, ro, none⟩)] 59)).heap.size = w.heap.size + 1 + 1 + 1 + 1 := by simp
  have bO' : Boxed ((((w.alloc (.cells #[.int .i64 kind] 3)).alloc (.cells #[.int .i64 index] 3)).alloc (.cells #[.int .i64 0] 3)).alloc (.cells #[.pointer (some ⟨rb, ro, none⟩)] 59)) (w.heap.size + 1 + 1) 3 (.int .i64 ((0 : Nat) : Int)) := bO
  have bI' : Boxed ((((w.alloc (.cells #[.int .i64 kind] 3)).alloc (.cells #[.int .i64 index] 3)).alloc (.cells #[.int .i64 0] 3)).alloc (.cells #[.pointer (some ⟨rb, ro, none⟩)] 59)) (w.heap.size + 1) 3 (.int .i64 index) := bI
  clear bO bI
  generalize (((w.alloc (.cells #[.int .i64 kind] 3)).alloc (.cells #[.int .i64 index] 3)).alloc (.cells #[.int .i64 0] 3)).alloc (.cells #[.pointer (some ⟨rb, ro, none⟩)] 59) = W0 at *
  have hB0 : Below w.heap.size w W0 := ⟨k0.os, k0.tape, k0.output, k0.size, fun j hj => k0.block j hj (by simp)⟩
  clear t0
  refine wpIn_rangeFunc_ownH rfl (by omega) (gf := 51) (lb := #[.pointer (some ⟨w.heap.size + 1 + 1 + 1, 0, none⟩)]) rfl trivial (enters_of Tryd.func51 (by kernel_rfl) rfl)
    (SR.all_stops 3 (by omega) (w.heap.size + 1 + 1 + 1) w.heap.size rb ro pb po b g n _ _ W0 (by omega) (by omega) bN.cell (HH.out.kept k0).reg (HTT.out.kept k0) (by omega)) (fun h k => h.trans k) (SR.kpb_b (by omega)) (Below.refl _ _) (fun _ => rfl)
    (fun pre W => ((Boxed W (w.heap.size + 1 + 1) 3 (.int .i64 ((pre.filter fun x => decide (0 < x.2.g) && decide (x.2.k = kind) && decide (x.2.i = index)).length : Nat)) ∧ Boxed W (w.heap.size + 1 + 1 + 1) 59 (.pointer (some ⟨rb, ro, none⟩))) ∧ (Boxed W w.heap.size 3 (.int .i64 kind) ∧ Boxed W (w.heap.size + 1) 3 (.int .i64 index))) ∧ Below w.heap.size w W)
    (fun _ _ _ => False)
    (OwnFrom.and (OwnFrom.and (OwnFrom.and (Own.from (boxed_own (w.heap.size + 1 + 1) 3 (fun pre : List (Nat × SR.Pr) => .int .i64 ((pre.filter fun x => decide (0 < x.2.g) && decide (x.2.k = kind) && decide (x.2.i = index)).length : Nat))) _) (Own.from (boxed_own (w.heap.size + 1 + 1 + 1) 59 (fun _ => .pointer (some ⟨rb, ro, none⟩))) _)) (OwnFrom.and (Own.from (boxed_own w.heap.size 3 (fun _ => .int .i64 kind)) _) (Own.from (boxed_own (w.heap.size + 1) 3 (fun _ => .int .i64 index)) _))) (ownFrom_below (Nat.le_refl _) (by omega)))
    (fun _ _ _ _ _ hs _ _ => hs)
    ⟨⟨⟨bO', bN⟩, ⟨bK, bI'⟩⟩, hB0⟩
    (fun x a' W => ∃ c, (a' = { tmps := #[.pointer (some ⟨tb, 0, none⟩), .int .i64 kind, .int .i64 index, undef, .pointer (some ⟨w.heap.size, 0, none⟩), .pointer (some ⟨w.heap.size + 1, 0, none⟩), .int .i64 0, .pointer (some ⟨w.heap.size + 1 + 1, 0, none⟩), undef, .pointer (some ⟨c, 0, none⟩), .pointer (some ⟨tb, 0, none⟩), .pointer (some ⟨tb, 0, none⟩), .pointer (some ⟨tb, 0, none⟩), .pointer (some ⟨rb, ro, none⟩), .func (.func 51) #[] #[.pointer (some ⟨w.heap.size + 1 + 1 + 1, 0, none⟩)], .int .i64 (x.1 : Int), x.2.val, undef, undef, undef, undef, undef, undef, undef, undef, undef, undef, undef, undef, undef, undef, undef, undef, undef, undef, undef], defers := [] } ∧ w.heap.size + 4 ≤ c) ∧ RowBox W c x.2)
    ?own ?assign ?body ?done ?stop
  case own =>
    rintro x a' s X Y row ⟨c, hc, hs⟩ hg hrow
    exact ⟨c, hc, (rowbox_own (β := Unit) c x.2).from _ () X Y row hs hg hrow⟩
  case assign =>
    rintro l pre ⟨j, ⟨pg, pk, pi, pr⟩⟩ W K ⟨⟨⟨hb1, hb2⟩, ⟨hb3, hb4⟩⟩, hB⟩ hK
    dsimp only [SR.Pr.val]
    gi_wp2
    have ka := World.grownBy_alloc W (.cells #[.int .i64 pg, .int .i64 pk, .int .i64 pi, .int .i64 pr] 56) none
    have hw := hB.size
    have hw1 := hb2.lt
    exact hK _ _ (keeps_none ka) (kpb_none ka hw hw1) ⟨⟨⟨hb1.alloc _, hb2.alloc _⟩, ⟨hb3.alloc _, hb4.alloc _⟩⟩, hB.trans (below_none ka hw)⟩ ⟨W.heap.size, ⟨rfl, hw1⟩, World.alloc_heap_new W _⟩
  case body =>
    rintro l pre ⟨j, ⟨pg, pk, pi, pr⟩⟩ a' W hl hr ⟨⟨⟨hb1, hb2⟩, ⟨hb3, hb4⟩⟩, hB⟩ ⟨c, ⟨rfl, hc⟩, hbox⟩ hlt
    obtain ⟨c0, c1, c2, c3⟩ := hbox.cells
    have hle : (pre.filter fun x => decide (0 < x.2.g) && decide (x.2.k = kind) && decide (x.2.i = index)).length ≤ pre.length := List.length_filter_le _ _
    have hw := hB.size
    have hfil : Hid ((List.filter (fun x : Nat × SR.Pr => decide (0 < x.2.g) && decide (x.2.k = kind) && decide (x.2.i = index)) (pre ++ [(j, ⟨pg, pk, pi, pr⟩)])).length = (pre.filter fun x => decide (0 < x.2.g) && decide (x.2.k = kind) && decide (x.2.i = index)).length + if (decide (0 < pg) && decide (pk = kind) && decide (pi = index)) = true then 1 else 0) := Lib.hid (by
      rw [List.filter_append, List.length_append]
      by_cases h : (decide (0 < pg) && decide (pk = kind) && decide (pi = index)) = true <;> simp [h])
    generalize hL : (pre.filter fun x => decide (0 < x.2.g) && decide (x.2.k = kind) && decide (x.2.i = index)).length = L at *
    have hL' : L < 256 := by omega
    have n1 := hb1.cell
    have n2 := hb1.frozen
    have n3 := hb3.cell
    have n4 := hb4.cell
    have HB := Lib.hid hb1
    have HB2 := Lib.hid hb2
    have HB3 := Lib.hid hb3
    have HB4 := Lib.hid hb4
    have HBX := Lib.hid hbox
    have HBB := Lib.hid hB
    have hcw := hbox.lt
    clear hbox hb1 hb2 hb3 hb4 hB hr hlt hle
    dsimp only [SR.Pr.val] at c0 c1 c2 c3 ⊢
    have CX := Lib.hid (fun v : World => CI.out v ⟨pg, pk, pi, pr⟩)
    have NO : (decide (0 < pg) && decide (pk = kind) && decide (pi = index)) = false → ∀ Bq w1, W.grownBy w1 none → KeepsFrom Bq W w1 ∧ SR.KpB w.heap.size (w.heap.size + 1 + 1 + 1) W w1 ∧ (((Boxed w1 (w.heap.size + 1 + 1) 3 (.int .i64 ((List.filter (fun x : Nat × SR.Pr => decide (0 < x.2.g) && decide (x.2.k = kind) && decide (x.2.i = index)) (pre ++ [(j, ⟨pg, pk, pi, pr⟩)])).length : Nat)) ∧ Boxed w1 (w.heap.size + 1 + 1 + 1) 59 (.pointer (some ⟨rb, ro, none⟩))) ∧ (Boxed w1 w.heap.size 3 (.int .i64 kind) ∧ Boxed w1 (w.heap.size + 1) 3 (.int .i64 index))) ∧ Below w.heap.size w w1) := fun hno Bq w1 kI => by
      refine ⟨keeps_none kI, kpb_none kI hw HB2.out.lt, ⟨⟨⟨?_, HB2.out.kept kI (by simp)⟩, ⟨HB3.out.kept kI (by simp), HB4.out.kept kI (by simp)⟩⟩, HBB.out.trans (below_none kI hw)⟩⟩
      rw [hfil.out, if_neg (by rw [hno]; decide)]
      exact HB.out.kept kI (by simp)
    have HNO := Lib.hid NO
    clear NO
    by_cases hp : 0 < pg
    · have hd : decide (0 < pg) = true := by simpa using hp
      have CY : Hid (∀ v : World, Calls Tryd.prog 38 #[.agg #[.int .i64 pg, .int .i64 pk, .int .i64 pi, .int .i64 pr]] v fun e w' => e = .returned (.bool true) ∧ v.grownBy w' none) := Lib.hid fun v => by rw [← hd]; exact CX.out v
      clear CX
      by_cases h1 : pk = kind
      · by_cases h2 : pi = index
        · subst h1
          subst h2
          gi_wp2_with (first
            | (refine ⟨trivial, ?_⟩; gi_at_call 38; refine (callsIn_wide.2 (CY.out _)).mono ?_; rintro e w1 ⟨rfl, kI⟩; have m1 := (HB.out.kept kI (by simp)).cell; have m2 := (HB.out.kept kI (by simp)).frozen; have m3 := (HB3.out.kept kI (by simp)).cell; have m4 := (HB4.out.kept kI (by simp)).cell; obtain ⟨e0, e1, e2, e3⟩ := (HBX.out.kept kI (by simp)).cells))
          have hk1 := HB.out.kept kI (by simp)
          refine ⟨(keeps_none kI).trans (keeps_box _ hk1), (kpb_none kI hw HB2.out.lt).trans (kpb_box _ (by omega) (by omega)), ⟨⟨⟨?_, (HB2.out.kept kI (by simp)).other (by omega) _⟩, ⟨(HB3.out.kept kI (by simp)).other (by omega) _, (HB4.out.kept kI (by simp)).other (by omega) _⟩⟩, (HBB.out.trans (below_none kI hw)).trans (kpb_box (Bs := w.heap.size + 1 + 1 + 1) _ (by omega) (by omega)).1⟩⟩
          rw [hfil.out, if_pos (by simp [hp])]
          exact hk1.set _
        · have h2' : (pi == index) = false := by rw [beq_eq_false_iff_ne]; exact h2
          have hno : (decide (0 < pg) && decide (pk = kind) && decide (pi = index)) = false := by simp [h2]
          subst h1
          gi_wp2_with (first
            | (refine ⟨trivial, ?_⟩; gi_at_call 38; refine (callsIn_wide.2 (CY.out _)).mono ?_; rintro e w1 ⟨rfl, kI⟩; have m3 := (HB3.out.kept kI (by simp)).cell; have m4 := (HB4.out.kept kI (by simp)).cell; obtain ⟨e0, e1, e2, e3⟩ := (HBX.out.kept kI (by simp)).cells))
          exact HNO.out hno _ w1 kI
      · have h1' : (pk == kind) = false := by rw [beq_eq_false_iff_ne]; exact h1
        have hno : (decide (0 < pg) && decide (pk = kind) && decide (pi = index)) = false := by simp [h1]
        gi_wp2_with (first
          | (refine ⟨trivial, ?_⟩; gi_at_call 38; refine (callsIn_wide.2 (CY.out _)).mono ?_; rintro e w1 ⟨rfl, kI⟩; have m3 := (HB3.out.kept kI (by simp)).cell; have m4 := (HB4.out.kept kI (by simp)).cell; obtain ⟨e0, e1, e2, e3⟩ := (HBX.out.kept kI (by simp)).cells))
        exact HNO.out hno _ w1 kI
    · have hd : decide (0 < pg) = false := by simpa using hp
      have hno : (decide (0 < pg) && decide (pk = kind) && decide (pi = index)) = false := by simp [hp]
      have CY : Hid (∀ v : World, Calls Tryd.prog 38 #[.agg #[.int .i64 pg, .int .i64 pk, .int .i64 pi, .int .i64 pr]] v fun e w' => e = .returned (.bool false) ∧ v.grownBy w' none) := Lib.hid fun v => by rw [← hd]; exact CX.out v
      clear CX
      gi_wp2_with (first
        | (refine ⟨trivial, ?_⟩; gi_at_call 38; refine (callsIn_wide.2 (CY.out _)).mono ?_; rintro e w1 ⟨rfl, kI⟩))
      exact HNO.out hno _ w1 kI
  case done =>
    rintro D ys W hD rfl ⟨⟨⟨hb1, hb2⟩, ⟨hb3, hb4⟩⟩, hB⟩ hK
    have hc := hb1.cell
    gi_wp2
    refine ⟨by simp, .inl ⟨_, _, rfl, run_takeDeferred hK, ?_⟩⟩
    have hB2 := hB.trans (belowK_b (w := w) (Nat.le_refl _) W D _ (.deferred none) (by omega) hK rfl rfl)
    exact ⟨_, results_tmp rfl _ _ _, rfl, ⟨hB2.os, hB2.tape, hB2.output, hB2.size, fun j hj _ => hB2.block j hj⟩⟩
  case stop =>
    rintro D c pre W _ _ h _
    exact h.elim

theorem of_any (kind index : Int) (H : CapMem w tb rb ro pb po b g hb n G T) (hT : TabAt w) :
    Calls Tryd.prog 35 #[.pointer (some ⟨tb, 0, none⟩), .int .i64 kind, .int .i64 index] w fun e w' => e = .returned (.int .i64 (ofN T kind index n : Nat)) ∧ w.grownBy w' none := by
  have h := of_raw kind index H hT
  rw [cnt_pairs] at h
  have e : cnt (fun j => (T j).full G && (decide (0 < ((T j).row).g) && decide (((T j).row).k = kind) && decide (((T j).row).i = index))) n = ofN T kind index n := cnt_congr fun j hj => by
    obtain ⟨_, o2, _⟩ := H.ok j hj
    cases ho : (T j).out with
    | false => simp [Pl.full, Pl.row, ho, SR.Pr.none]
    | true => have h0 := o2 ho; have h1 : 0 < (T j).gen := h0; simp [Pl.full, Pl.row, ho, h1]
  rw [e] at h
  exact h
end
theorem tof {w : World} {lo hi tb n G : Nat} {T : Nat → Pl} (kind index : Int) (H : Tb w lo hi tb n G T) (hT : TabAt w) : Calls Tryd.prog 35 #[.pointer (some ⟨tb, 0, none⟩), .int .i64 kind, .int .i64 index] w fun e w' => e = .returned (.int .i64 (ofN T kind index n : Nat)) ∧ w.grownBy w' none := by
  obtain ⟨rb, ro, pb, po, b, g, hb, H, rr, s⟩ := H
  exact of_any kind index H hT
end Go.Proofs.YtbkjdbimkofceaaDoor
