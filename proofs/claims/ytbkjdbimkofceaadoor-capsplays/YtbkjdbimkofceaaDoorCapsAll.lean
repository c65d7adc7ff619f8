/-
  Contracts of package caps, over this seat's translation: Dead, Count, Of, Live: by the iterator's contract.
-/
import Derived.Test.YtbkjdbimkofceaaDoorCapsNew
namespace Go.Proofs.YtbkjdbimkofceaaDoor
open Go.RowKit Go.Lib Go.Shelf

attribute [local go_sem] Oper.semAt_some

theorem cnt_pairs (S : Nat → Bool) (V : Nat → SR.Pr) (q : Nat × SR.Pr → Bool) : ∀ n, ((SR.pairs V (SR.mems S n)).filter q).length = cnt (fun j => S j && q (j, V j)) n
  | 0 => rfl
  | n + 1 => by
    have ih := cnt_pairs S V q n
    rw [cnt, ← ih]
    cases h : S n with
    | false => simp [SR.pairs, SR.mems, List.range_succ, h]
    | true => cases h2 : q (n, V n) <;> simp [SR.pairs, SR.mems, List.range_succ, h, h2]

/-- A box of a row of a handle. -/
def RowBox (W : World) (c : Nat) (p : SR.Pr) : Prop := W.heap[c]? = some (.cells #[.int .i64 p.g, .int .i64 p.k, .int .i64 p.i, .int .i64 p.r] 56 (0, 0))
theorem RowBox.cells {W : World} {c : Nat} {p : SR.Pr} (h : RowBox W c p) : W.cell? ⟨c, 0, none⟩ = some (.int .i64 p.g) ∧ W.cell? ⟨c, 1, none⟩ = some (.int .i64 p.k) ∧ W.cell? ⟨c, 2, none⟩ = some (.int .i64 p.i) ∧ W.cell? ⟨c, 3, none⟩ = some (.int .i64 p.r) := by
  have e : ∀ j, W.cell? ⟨c, j, none⟩ = #[Value.int .i64 p.g, .int .i64 p.k, .int .i64 p.i, .int .i64 p.r][j]? := fun j => by simp [World.cell?, show W.heap[c]? = _ from h]
  exact ⟨e 0, e 1, e 2, e 3⟩
theorem RowBox.lt {W : World} {c : Nat} {p : SR.Pr} (h : RowBox W c p) : c < W.heap.size := (Array.getElem?_eq_some_iff.1 h).1
theorem RowBox.kept {W W' : World} {row : Option Nat} {c : Nat} {p : SR.Pr} (h : RowBox W c p) (hg : W.grownBy W' row) (hne : some c ≠ row) : RowBox W' c p := (hg.block c h.lt hne).trans h
theorem rowbox_own {β : Type} (c : Nat) (p : SR.Pr) : Own (fun (_ : β) W => RowBox W c p) := fun s X Y row hs hg hrow =>
  hs.kept hg (fun e' => by obtain ⟨o, ho, hc⟩ := hrow c e'.symm; rw [show X.heap[c]? = _ from hs] at ho; cases ho; cases hc)

theorem kpb_none {n₀ Bs : Nat} {W W' : World} (h : W.grownBy W' none) (hn : n₀ ≤ W.heap.size) (hb : Bs < W.heap.size) : SR.KpB n₀ Bs W W' :=
  ⟨⟨h.os, h.tape, h.output, h.size, fun j hj => h.block j (by omega) (by simp)⟩, fun _ hv => (h.cell_far ⟨Bs, 0, none⟩ hb (by simp)).trans hv⟩
theorem kpb_box {n₀ Bs B : Nat} {W : World} (u : Value) (hn : n₀ ≤ B) (hne : Bs ≠ B) : SR.KpB n₀ Bs W (W.setCell ⟨B, 0, none⟩ u) :=
  ⟨⟨rfl, rfl, rfl, by rw [size_set]; exact Nat.le_refl _, fun j hj => Below.heap_setCell W ⟨B, 0, none⟩ u j (by show j ≠ B; omega)⟩, fun _ hv => (World.cell?_setCell_other _ _ _ _ (by intro e; injection e with e1; exact hne e1.symm)).trans hv⟩
theorem keeps_none {B : Nat} {W W' : World} (h : W.grownBy W' none) : KeepsFrom B W W' := KeepsFrom.of_grownBy h (fun _ e => by cases e)
theorem keeps_box {B C : Nat} {W : World} {t : TypeId} {v : Value} (u : Value) (h : Boxed W C t v) : KeepsFrom B W (W.setCell ⟨C, 0, none⟩ u) :=
  ⟨by rw [size_set]; exact Nat.le_refl _, fun k o _ hk ho => by
    have hne : k ≠ C := fun e => by subst e; rw [show W.heap[k]? = _ from h] at hk; cases hk; cases ho
    exact ((grownBy_setCell' W C u).block k (Array.getElem?_eq_some_iff.1 hk).1 (by simpa using hne)).trans hk⟩
theorem below_none {n₀ : Nat} {W W' : World} (h : W.grownBy W' none) (hn : n₀ ≤ W.heap.size) : Below n₀ W W' := ⟨h.os, h.tape, h.output, h.size, fun j hj => h.block j (by omega) (by simp)⟩

section
variable {w w' : World} {tb rb ro pb po b g hb n G : Nat} {T : Nat → Pl}

set_option maxRecDepth 100000 in
set_option maxHeartbeats 4000000 in
theorem dead_raw (H : CapMem w tb rb ro pb po b g hb n G T) (hT : TabAt w) :
    Calls Tryd.prog 16 #[.pointer (some ⟨tb, 0, none⟩)] w fun e w' => e = .returned (.int .i64 (((SR.pairs (fun j => (T j).row) (SR.mems (fun j => (T j).full G) n)).filter fun x => !decide (0 < x.2.g)).length : Nat)) ∧ w.grownBy w' none := by
  have hn := H.reg.hn
  have hl1 := H.reg.l
  have hl2 := H.reg.set.hb
  have hl3 := H.reg.set.hg
  have hcn : cnt (fun j => (T j).full G) n ≤ n := cnt_le _ n
  have HH := Lib.hid H
  have HTT := Lib.hid hT
  have kz := World.grownBy_alloc w (.cells #[.int .i64 0] 3) none
  have t0 := (H.kept kz).t0
  have hl0 : 0 < w.heap.size := by omega
  clear H hT kz
  have AA := Lib.hid (fun v : World => SR.all_any rb ro v)
  have CI := Lib.hid (fun (v : World) (x : SR.Pr) => isOut_any x.g x.k x.i x.r v)
  refine (callsIn_wide (n := 4)).1 ?_
  refine callsIn_of_wp_marks Tryd.func16 rfl trivial ?_ rfl
  simp only [Tryd.ntmps16, List.size_toArray, List.length_cons, List.length_nil, Nat.reduceAdd, Nat.reduceSub, Array.replicate_succ, Array.replicate_zero, List.push_toArray, List.append_toArray, List.nil_append, List.cons_append]
  gi_wp2_with (first
    | (refine ⟨trivial, ?_⟩; gi_at_call 40; refine (callsIn_wide.2 (AA.out _)).mono ?_; rintro e w' ⟨rfl, rfl⟩))
  have k0 := (World.grownBy_alloc w (.cells #[.int .i64 0] 3) none).trans (World.grownBy_alloc _ (.cells #[.pointer (some ⟨rb, ro, none⟩)] 59) none)
  have bO := (Boxed.new w 3 (.int .i64 ((0 : Nat) : Int))).alloc (.cells #[.pointer (some ⟨rb, ro, none⟩)] 59)
  have bN := Boxed.new (w.alloc (.cells #[.int .i64 0] 3)) 59 (.pointer (some ⟨rb, ro, none⟩))
  rw [World.size_alloc] at bN
  have hsz : ((w.alloc (.cells #[.int .i64 0] 3)).alloc (.cells #[.pointer (some ⟨rb, ro, none⟩)] 59)).heap.size = w.heap.size + 1 + 1 := by simp
  have bO' : Boxed ((w.alloc (.cells #[.int .i64 0] 3)).alloc (.cells #[.pointer (some ⟨rb, ro, none⟩)] 59)) w.heap.size 3 (.int .i64 ((0 : Nat) : Int)) := bO
  clear bO
  generalize (w.alloc (.cells #[.int .i64 0] 3)).alloc (.cells #[.pointer (some ⟨rb, ro, none⟩)] 59) = W0 at *
  have hB0 : Below w.heap.size w W0 := ⟨k0.os, k0.tape, k0.output, k0.size, fun j hj => k0.block j hj (by simp)⟩
  clear t0
  refine wpIn_rangeFunc_ownH rfl (by omega) (gf := 51) (lb := #[.pointer (some ⟨w.heap.size + 1, 0, none⟩)]) rfl trivial (enters_of Tryd.func51 (by kernel_rfl) rfl)
    (SR.all_stops 3 (by omega) (w.heap.size + 1) w.heap.size rb ro pb po b g n _ _ W0 (by omega) (by omega) bN.cell (HH.out.kept k0).reg (HTT.out.kept k0) (by omega)) (fun h k => h.trans k) (SR.kpb_b (by omega)) (Below.refl _ _) (fun _ => rfl)
    (fun pre W => (Boxed W w.heap.size 3 (.int .i64 ((pre.filter fun x => !decide (0 < x.2.g)).length : Nat)) ∧ Boxed W (w.heap.size + 1) 59 (.pointer (some ⟨rb, ro, none⟩))) ∧ Below w.heap.size w W)
    (fun _ _ _ => False)
    (OwnFrom.and (OwnFrom.and (Own.from (boxed_own w.heap.size 3 (fun pre : List (Nat × SR.Pr) => .int .i64 ((pre.filter fun x => !decide (0 < x.2.g)).length : Nat))) _) (Own.from (boxed_own (w.heap.size + 1) 59 (fun _ => .pointer (some ⟨rb, ro, none⟩))) _)) (ownFrom_below (Nat.le_refl _) (by omega)))
    (fun _ _ _ _ _ hs _ _ => hs)
    ⟨⟨bO', bN⟩, hB0⟩
    (fun x a' W => ∃ c, (a' = { tmps := #[.pointer (some ⟨tb, 0, none⟩), undef, .int .i64 0, .pointer (some ⟨w.heap.size, 0, none⟩), undef, .pointer (some ⟨c, 0, none⟩), .pointer (some ⟨tb, 0, none⟩), .pointer (some ⟨tb, 0, none⟩), .pointer (some ⟨tb, 0, none⟩), .pointer (some ⟨rb, ro, none⟩), .func (.func 51) #[] #[.pointer (some ⟨w.heap.size + 1, 0, none⟩)], .int .i64 (x.1 : Int), x.2.val, undef, undef, undef, undef, undef, undef], defers := [] } ∧ w.heap.size + 2 ≤ c) ∧ RowBox W c x.2)
    ?own ?assign ?body ?done ?stop
  case own =>
    rintro x a' s X Y row ⟨c, hc, hs⟩ hg hrow
    exact ⟨c, hc, (rowbox_own (β := Unit) c x.2).from _ () X Y row hs hg hrow⟩
  case assign =>
    rintro l pre ⟨j, ⟨pg, pk, pi, pr⟩⟩ W K ⟨⟨hb1, hb2⟩, hB⟩ hK
    dsimp only [SR.Pr.val]
    gi_wp2
    have ka := World.grownBy_alloc W (.cells #[.int .i64 pg, .int .i64 pk, .int .i64 pi, .int .i64 pr] 56) none
    have hw := hB.size
    have hw1 := hb2.lt
    exact hK _ _ (keeps_none ka) (kpb_none ka hw hw1) ⟨⟨hb1.alloc _, hb2.alloc _⟩, hB.trans (below_none ka hw)⟩ ⟨W.heap.size, ⟨rfl, hw1⟩, World.alloc_heap_new W _⟩
  case body =>
    rintro l pre ⟨j, ⟨pg, pk, pi, pr⟩⟩ a' W hl hr ⟨⟨hb1, hb2⟩, hB⟩ ⟨c, ⟨rfl, hc⟩, hbox⟩ hlt
    obtain ⟨c0, c1, c2, c3⟩ := hbox.cells
    have hle : (pre.filter fun x => !decide (0 < x.2.g)).length ≤ pre.length := List.length_filter_le _ _
    have hw := hB.size
    have hfil : Hid ((List.filter (fun x : Nat × SR.Pr => !decide (0 < x.2.g)) (pre ++ [(j, ⟨pg, pk, pi, pr⟩)])).length = (pre.filter fun x => !decide (0 < x.2.g)).length + if 0 < pg then 0 else 1) := Lib.hid (by
      rw [List.filter_append, List.length_append]
      by_cases h : 0 < pg <;> simp [h])
    generalize hL : (pre.filter fun x => !decide (0 < x.2.g)).length = L at *
    have hL' : L < 256 := by omega
    have n1 := hb1.cell
    have n2 := hb1.frozen
    have HB := Lib.hid hb1
    have HB2 := Lib.hid hb2
    have HBX := Lib.hid hbox
    have HBB := Lib.hid hB
    have hcw := hbox.lt
    clear hbox hb1 hb2 hB hr hlt hle
    dsimp only [SR.Pr.val] at c0 c1 c2 c3 ⊢
    have CX := Lib.hid (fun v : World => CI.out v ⟨pg, pk, pi, pr⟩)
    by_cases hp : 0 < pg
    · have hd : decide (0 < pg) = true := by simpa using hp
      have CY : Hid (∀ v : World, Calls Tryd.prog 38 #[.agg #[.int .i64 pg, .int .i64 pk, .int .i64 pi, .int .i64 pr]] v fun e w' => e = .returned (.bool true) ∧ v.grownBy w' none) := Lib.hid fun v => by rw [← hd]; exact CX.out v
      clear CX
      gi_wp2_with (first
        | (refine ⟨trivial, ?_⟩; gi_at_call 38; refine (callsIn_wide.2 (CY.out _)).mono ?_; rintro e w' ⟨rfl, kI⟩))
      refine ⟨keeps_none kI, kpb_none kI hw HB2.out.lt, ⟨⟨?_, HB2.out.kept kI (by simp)⟩, HBB.out.trans (below_none kI hw)⟩⟩
      rw [hfil.out, if_pos hp]
      exact HB.out.kept kI (by simp)
    · have hd : decide (0 < pg) = false := by simpa using hp
      have CY : Hid (∀ v : World, Calls Tryd.prog 38 #[.agg #[.int .i64 pg, .int .i64 pk, .int .i64 pi, .int .i64 pr]] v fun e w' => e = .returned (.bool false) ∧ v.grownBy w' none) := Lib.hid fun v => by rw [← hd]; exact CX.out v
      clear CX
      gi_wp2_with (first
        | (refine ⟨trivial, ?_⟩; gi_at_call 38; refine (callsIn_wide.2 (CY.out _)).mono ?_; rintro e w1 ⟨rfl, kI⟩; have m1 := (HB.out.kept kI (by simp)).cell; have m2 := (HB.out.kept kI (by simp)).frozen))
      have hk1 := HB.out.kept kI (by simp)
      refine ⟨(keeps_none kI).trans (keeps_box _ hk1), (kpb_none kI hw HB2.out.lt).trans (kpb_box _ (Nat.le_refl _) (by omega)), ⟨⟨?_, (HB2.out.kept kI (by simp)).other (by omega) _⟩, (HBB.out.trans (below_none kI hw)).trans (kpb_box (Bs := w.heap.size + 1) _ (Nat.le_refl _) (by omega)).1⟩⟩
      rw [hfil.out, if_neg (by omega)]
      exact hk1.set _
  case done =>
    rintro D ys W hD rfl ⟨⟨hb1, hb2⟩, hB⟩ hK
    have hc := hb1.cell
    gi_wp2
    refine ⟨by simp, .inl ⟨_, _, rfl, run_takeDeferred hK, ?_⟩⟩
    have hB2 := hB.trans (belowK_b (w := w) (Nat.le_refl _) W D _ (.deferred none) (by omega) hK rfl rfl)
    exact ⟨_, results_tmp rfl _ _ _, rfl, ⟨hB2.os, hB2.tape, hB2.output, hB2.size, fun j hj _ => hB2.block j hj⟩⟩
  case stop =>
    rintro D c pre W _ _ h _
    exact h.elim
end
end Go.Proofs.YtbkjdbimkofceaaDoor
