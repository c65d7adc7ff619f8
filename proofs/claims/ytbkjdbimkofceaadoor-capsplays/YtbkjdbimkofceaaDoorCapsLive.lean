/-
  Contracts of package caps, over this seat's translation: Live: by the iterator's contract.
-/
import Derived.Test.YtbkjdbimkofceaaDoorCapsAll
import Derived.Stop.RegionWithIn
import Derived.Test.YtbkjdbimkofceaaDoorRoundAny
namespace Go.Proofs.YtbkjdbimkofceaaDoor
open Go.RowKit Go.Lib Go.Shelf
set_option maxRecDepth 100000

attribute [local go_sem] Oper.semAt_some

/-- Numbers as the cells of a row of words. -/
def wcells (F : List Nat) : List Value := F.map fun (x : Nat) => Value.int .u64 (x : Int)
theorem wcells_len (F : List Nat) : (wcells F).length = F.length := by simp [wcells]
theorem wcells_snoc (F : List Nat) (k : Nat) : wcells F ++ [Value.int .u64 (k : Int)] = wcells (F ++ [k]) := by simp [wcells]
theorem word_info : ∃ i : TypeInfo, Tryd.prog.info? 23 = some i ∧ i.zero = some (.int .u64 0) ∧ i.size = 1 ∧ i.bytes = 8 := ⟨_, rfl, rfl, rfl, rfl⟩
theorem make_wrow (c : Nat) (hc : c ≤ 1000000) (w : World) :
    (Instr.makeSlice 31 (.int .i64 0) (.int .i64 (c : Int))).run Tryd.prog w =
      .ok (.slice (some ⟨w.heap.size, 0, none⟩) 0 c) (w.alloc (.cells (madeCells #[.int .u64 0] c) 23)) := by
  obtain ⟨i, hi, hz⟩ : ∃ i : TypeInfo, Tryd.prog.info? 23 = some i ∧ i.zero = some (.int .u64 0) ∧ i.bytes = 8 ∧ i.size = 1 := ⟨_, rfl, rfl, rfl, rfl⟩
  have h := run_make (P := Tryd.prog) w 31 23 i _ Tryd.underlying31 hi hz.1 .i64 .i64 0 (c : Int) (by omega) (by omega) (by rw [hz.2.1]; omega) (by omega)
  rw [hz.2.2, Nat.mul_one, Int.toNat_natCast] at h
  exact h

/-- A place's handle. -/
def hOf (T : Nat → Pl) (j : Nat) : Nat := hbits j (T j).gen (T j).r
/-- All handles that are out, by rising places. -/
def liveL (T : Nat → Pl) (n : Nat) : List Nat := ((List.range n).filter fun j => (T j).out).map (hOf T)
def liveF (T : Nat → Pl) {n : Nat} (F : List (Fin n)) : List Nat := ((F.map Fin.val).filter fun j => (T j).out).map (hOf T)
theorem live_all (T : Nat → Pl) (G : Nat) {n : Nat} (F : List (Fin n)) (h : F.map Fin.val = SR.mems (fun j => (T j).full G) n) : liveF T F = liveL T n := by
  unfold liveF liveL
  rw [h]
  unfold SR.mems
  rw [List.filter_filter]
  congr 1
  apply List.filter_congr
  intro j _
  cases ho : (T j).out <;> simp [Pl.full, ho]

theorem own_push {W : World} {B L C : Nat} {e : TypeId} {xs : List Value} (u : Value) (h : W.ownsRow B e 1 (.slice (some ⟨B, 0, none⟩) L C) L xs) (hL : L < C) :
    (W.setCell ⟨B, L, none⟩ u).ownsRow B e 1 (.slice (some ⟨B, 0, none⟩) (L + 1) C) (L + 1) (xs ++ [u]) := by
  obtain ⟨hl, h2⟩ := h
  rcases h2 with ⟨h2, _⟩ | ⟨g, cap, cur, h2, hb, hg, hnc, hcm, hcs, htake⟩
  · cases h2
  · cases h2
    refine ⟨by simp [hl], Or.inr ⟨B, C, cur.setIfInBounds L u, rfl, hb, heap_setCell_same W B L cur e u hg, hL, hcm, by simpa using hcs, ?_⟩⟩
    have e2 : L < cur.toList.length := by simp [hcs]; omega
    rw [Nat.mul_one] at htake
    rw [Array.toList_setIfInBounds, Nat.mul_one, List.take_add_one, List.take_set, htake, List.getElem?_set_self e2, List.set_eq_of_length_le (by omega)]
    rfl
theorem own_room {W : World} {B L C : Nat} {e : TypeId} {xs : List Value} (h : W.ownsRow B e 1 (.slice (some ⟨B, 0, none⟩) L C) L xs) (j : Nat) (hj : j < C) : ∃ c, W.cell? ⟨B, j, none⟩ = some c := by
  rcases h.2 with ⟨h2, _⟩ | ⟨g, cap, cur, h2, hb, hg, hnc, hcm, hcs, htake⟩
  · cases h2
  · cases h2
    exact ⟨cur[j]'(by omega), by simp [World.cell?, hg]⟩

theorem keeps_row {Bq B : Nat} {W : World} {e : TypeId} {v : Value} {n : Nat} {xs : List Value} (u : Value) (j : Nat) (h : W.ownsRow B e 1 v n xs) (hv : v.ownBlock = some B) : KeepsFrom Bq W (W.setCell ⟨B, j, none⟩ u) :=
  ⟨by rw [size_set]; exact Nat.le_refl _, fun k o _ hk ho => by
    have hne : k ≠ B := fun e => by
      subst e
      rcases h.2 with ⟨h2, _⟩ | ⟨g, cap, cur, h2, _, hg, _⟩
      · rw [h2] at hv; cases hv
      · rw [h2] at hv
        obtain rfl : g = k := by simpa [Value.ownBlock] using hv
        rw [hg] at hk; cases hk; cases ho
    exact (Below.heap_setCell W ⟨B, j, none⟩ u k hne).trans hk⟩
/-- A number put behind a row of words with room, and the longer slice stored into its box. -/
theorem live_step {w W u : World} {B Bq L C h : Nat} {F : List Nat} {bt et rt : TypeId} {p : Value} (hk : W.grownBy u none) (hB : Below B w W) (hw : B ≤ W.heap.size) (hr : B + 1 + 1 < W.heap.size) (hF : F.length = L)
    (N1 : Boxed u (B + 1) bt (.slice (some ⟨B, 0, none⟩) L C)) (N2 : u.ownsRow B et 1 (.slice (some ⟨B, 0, none⟩) L C) L (wcells F)) (N3 : Boxed u (B + 1 + 1) rt p) (hL : L < C) :
    KeepsFrom Bq W ((u.setCell ⟨B, L, none⟩ (.int .u64 (h : Nat))).setCell ⟨B + 1, 0, none⟩ (.slice (some ⟨B, 0, none⟩) (L + 1) C)) ∧
    SR.KpB B (B + 1 + 1) W ((u.setCell ⟨B, L, none⟩ (.int .u64 (h : Nat))).setCell ⟨B + 1, 0, none⟩ (.slice (some ⟨B, 0, none⟩) (L + 1) C)) ∧
    ((∃ v, Boxed ((u.setCell ⟨B, L, none⟩ (.int .u64 (h : Nat))).setCell ⟨B + 1, 0, none⟩ (.slice (some ⟨B, 0, none⟩) (L + 1) C)) (B + 1) bt v ∧ ((u.setCell ⟨B, L, none⟩ (.int .u64 (h : Nat))).setCell ⟨B + 1, 0, none⟩ (.slice (some ⟨B, 0, none⟩) (L + 1) C)).ownsRow B et 1 v (F ++ [h]).length (wcells (F ++ [h])) ∧ v = .slice (some ⟨B, 0, none⟩) (F ++ [h]).length C) ∧
      Boxed ((u.setCell ⟨B, L, none⟩ (.int .u64 (h : Nat))).setCell ⟨B + 1, 0, none⟩ (.slice (some ⟨B, 0, none⟩) (L + 1) C)) (B + 1 + 1) rt p) ∧
    Below B w ((u.setCell ⟨B, L, none⟩ (.int .u64 (h : Nat))).setCell ⟨B + 1, 0, none⟩ (.slice (some ⟨B, 0, none⟩) (L + 1) C)) := by
  have g1 : u.grownBy (u.setCell ⟨B, L, none⟩ (.int .u64 (h : Nat))) (some B) := (N2.stored L _).2
  have M1 := N1.kept g1 (by simp)
  have M3 := N3.kept g1 (by simp; omega)
  have M2 := own_push (.int .u64 (h : Nat)) N2 hL
  have e1 : (F ++ [h]).length = L + 1 := by simp [hF]
  have b1 : Below B W u := ⟨hk.os, hk.tape, hk.output, hk.size, fun j hj => hk.block j (by omega) (by simp)⟩
  have b2 : Below B u (u.setCell ⟨B, L, none⟩ (.int .u64 (h : Nat))) := ⟨rfl, rfl, rfl, by rw [size_set]; exact Nat.le_refl _, fun j hj => Below.heap_setCell u ⟨B, L, none⟩ _ j (by show j ≠ B; omega)⟩
  have b3 : Below B (u.setCell ⟨B, L, none⟩ (.int .u64 (h : Nat))) ((u.setCell ⟨B, L, none⟩ (.int .u64 (h : Nat))).setCell ⟨B + 1, 0, none⟩ (.slice (some ⟨B, 0, none⟩) (L + 1) C)) := ⟨rfl, rfl, rfl, by simp [World.setCell], fun j hj => Below.heap_setCell _ ⟨B + 1, 0, none⟩ _ j (by show j ≠ B + 1; omega)⟩
  refine ⟨((keeps_none hk).trans (keeps_row _ L N2 rfl)).trans (keeps_box _ M1), ⟨(b1.trans b2).trans b3, fun v hv => ?_⟩, ⟨⟨_, M1.set _, ?_, by rw [e1]⟩, M3.other (by omega) _⟩, ((hB.trans b1).trans b2).trans b3⟩
  · have c1 : u.cell? ⟨B + 1 + 1, 0, none⟩ = some v := (hk.cell_far ⟨B + 1 + 1, 0, none⟩ hr (by simp)).trans hv
    rw [World.cell?_setCell_other _ _ _ _ (by intro e; injection e with e1; omega), World.cell?_setCell_other _ _ _ _ (by intro e; injection e with e1; omega)]
    exact c1
  · rw [e1, ← wcells_snoc]
    exact M2.kept (grownBy_setCell' _ _ _) (Or.inr (by simp [Value.ownBlock]))

section
variable {w w' : World} {tb rb ro pb po b g hb n G : Nat} {T : Nat → Pl}

set_option maxRecDepth 100000 in
set_option maxHeartbeats 8000000 in
theorem live_any (H : CapMem w tb rb ro pb po b g hb n G T) (hT : TabAt w) :
    Calls Tryd.prog 22 #[.pointer (some ⟨tb, 0, none⟩)] w fun e w' => ∃ r cp, e = .returned (.slice (some ⟨r, 0, none⟩) (liveL T n).length cp) ∧ w.grownBy w' none ∧ w'.ownsRow w.heap.size 23 1 (.slice (some ⟨r, 0, none⟩) (liveL T n).length cp) (liveL T n).length (wcells (liveL T n)) := by
  have hn := H.reg.hn
  have hl1 := H.reg.l
  have hl2 := H.reg.set.hb
  have hl3 := H.reg.set.hg
  have hcn : cnt (fun j => (T j).full G) n ≤ n := cnt_le _ n
  have CC := Lib.hid (SR.count_any H.reg)
  have HH := Lib.hid H
  have HTT := Lib.hid hT
  have t0 := H.t0
  have hl0 : 0 < w.heap.size := by omega
  obtain ⟨i0, hi0, hz0, hz1, hz2⟩ := word_info
  have I0 := Lib.hid hi0
  have I1 := Lib.hid hz0
  have I2 := Lib.hid hz1
  have I3 := Lib.hid hz2
  clear hi0 hz0 hz1 hz2
  have CP : Hid (∀ (j : Nat) (v : World), j < n → (T j).out = true → Calls Tryd.prog 25 #[.int .i64 j, .int .i64 ((T j).gen : Nat), .int .i64 ((T j).r : Nat)] v fun e w' => e = .returned (.int .u64 (hOf T j : Nat)) ∧ v = w') := Lib.hid fun j v hj ho => by
    obtain ⟨o1, o2, o3⟩ := H.ok j hj
    have := H.hG.2
    exact pack_any j (T j).gen (T j).r v (by omega) (by omega) o3
  have HO : Hid (∀ j, j < n → (T j).out = true → 0 < ((T j).gen : Int)) := Lib.hid fun j hj ho => by
    obtain ⟨o1, o2, o3⟩ := H.ok j hj
    have := o2 ho
    omega
  generalize hC : cnt (fun j => (T j).full G) n = C at *
  have hmk : ∀ W : World, (Instr.makeSlice 31 (.int .i64 0) (.int .i64 (C : Nat))).run Tryd.prog W = _ := fun W => make_wrow C (by omega) W
  have AA := Lib.hid (fun v : World => SR.all_any rb ro v)
  have CI := Lib.hid (fun (v : World) (x : SR.Pr) => isOut_any x.g x.k x.i x.r v)
  have kz := (World.grownBy_alloc w (.cells (madeCells #[.int .u64 0] C) 23) none).trans (World.grownBy_alloc _ (.cells #[.slice (some ⟨w.heap.size, 0, none⟩) 0 C] 31) none)
  have t1 := (H.kept kz).t0
  clear H hT kz
  refine (callsIn_wide (n := 4)).1 ?_
  refine callsIn_of_wp_marks Tryd.func22 rfl trivial ?_ rfl
  simp only [Tryd.ntmps22, List.size_toArray, List.length_cons, List.length_nil, Nat.reduceAdd, Nat.reduceSub, Array.replicate_succ, Array.replicate_zero, List.push_toArray, List.append_toArray, List.nil_append, List.cons_append]
  gi_wp2_with (first
    | (refine ⟨trivial, ?_⟩; gi_at_call 39; refine (callsIn_wide.2 CC.out).mono ?_; rintro e w' ⟨rfl, rfl⟩)
    | (refine ⟨trivial, ?_⟩; gi_at_call 40; refine (callsIn_wide.2 (AA.out _)).mono ?_; rintro e w' ⟨rfl, rfl⟩))
  have k0 := (World.grownBy_alloc w (.cells (madeCells #[.int .u64 0] C) 23) none).trans ((World.grownBy_alloc _ (.cells #[.slice (some ⟨w.heap.size, 0, none⟩) 0 C] 31) none).trans (World.grownBy_alloc _ (.cells #[.pointer (some ⟨rb, ro, none⟩)] 59) none))
  have bO := (Boxed.new (w.alloc (.cells (madeCells #[.int .u64 0] C) 23)) 31 (.slice (some ⟨w.heap.size, 0, none⟩) 0 C)).alloc (.cells #[.pointer (some ⟨rb, ro, none⟩)] 59)
  have bN := Boxed.new ((w.alloc (.cells (madeCells #[.int .u64 0] C) 23)).alloc (.cells #[.slice (some ⟨w.heap.size, 0, none⟩) 0 C] 31)) 59 (.pointer (some ⟨rb, ro, none⟩))
  have hR0 : (((w.alloc (.cells (madeCells #[.int .u64 0] C) 23)).alloc (.cells #[.slice (some ⟨w.heap.size, 0, none⟩) 0 C] 31)).alloc (.cells #[.pointer (some ⟨rb, ro, none⟩)] 59)).ownsRow w.heap.size 23 1 (.slice (some ⟨w.heap.size, 0, none⟩) 0 C) 0 [] :=
    ((World.ownsRow_made (base := w.heap.size) (e := 23) (size := 1) w (madeCells #[.int .u64 0] C) C (Nat.le_refl _) (by unfold maxLen; omega) (by simp [madeCells])).alloc _).alloc _
  have hsz : (((w.alloc (.cells (madeCells #[.int .u64 0] C) 23)).alloc (.cells #[.slice (some ⟨w.heap.size, 0, none⟩) 0 C] 31)).alloc (.cells #[.pointer (some ⟨rb, ro, none⟩)] 59)).heap.size = w.heap.size + 1 + 1 + 1 := by simp
  rw [World.size_alloc, World.size_alloc] at bN
  rw [World.size_alloc] at bO
  generalize ((w.alloc (.cells (madeCells #[.int .u64 0] C) 23)).alloc (.cells #[.slice (some ⟨w.heap.size, 0, none⟩) 0 C] 31)).alloc (.cells #[.pointer (some ⟨rb, ro, none⟩)] 59) = W0 at *
  have hB0 : Below w.heap.size w W0 := ⟨k0.os, k0.tape, k0.output, k0.size, fun j hj => k0.block j hj (by simp)⟩
  clear t0 t1 hmk
  have AS := SR.all_stopsF 3 (by omega) (w.heap.size + 1 + 1) w.heap.size rb ro pb po b g n _ _ W0 (by omega) (by omega) bN.cell (HH.out.kept k0).reg (HTT.out.kept k0) (by omega)
  rw [hC] at AS
  refine wpIn_rangeFunc_ownH rfl (by omega) (gf := 51) (lb := #[.pointer (some ⟨w.heap.size + 1 + 1, 0, none⟩)]) rfl trivial (enters_of Tryd.func51 (by kernel_rfl) rfl)
    AS (fun h k => h.trans k) (SR.kpb_b (by omega)) (Below.refl _ _) (fun _ => rfl)
    (fun F W => ((∃ v, Boxed W (w.heap.size + 1) 31 v ∧ W.ownsRow w.heap.size 23 1 v (liveF T F).length (wcells (liveF T F)) ∧ v = .slice (some ⟨w.heap.size, 0, none⟩) (liveF T F).length C) ∧ Boxed W (w.heap.size + 1 + 1) 59 (.pointer (some ⟨rb, ro, none⟩))) ∧ Below w.heap.size w W)
    (fun _ _ _ => False)
    (OwnFrom.and (OwnFrom.and (Own.from (holdsRow_own w.heap.size (w.heap.size + 1) 31 23 1 (fun F : List (Fin n) => (liveF T F).length) (fun F => wcells (liveF T F)) (fun F v => v = .slice (some ⟨w.heap.size, 0, none⟩) (liveF T F).length C)) _) (Own.from (boxed_own (w.heap.size + 1 + 1) 59 (fun _ => .pointer (some ⟨rb, ro, none⟩))) _)) (ownFrom_below (Nat.le_refl _) (by omega)))
    (fun _ _ _ _ _ hs _ _ => hs)
    ⟨⟨⟨_, bO, hR0, rfl⟩, bN⟩, hB0⟩
    (fun x a' W => ∃ c, (a' = { tmps := #[.pointer (some ⟨tb, 0, none⟩), undef, .slice none 0 0, .pointer (some ⟨w.heap.size + 1, 0, none⟩), .int .i64 (x.1 : Int), .pointer (some ⟨c, 0, none⟩), .pointer (some ⟨tb, 0, none⟩), .pointer (some ⟨tb, 0, none⟩), .pointer (some ⟨tb, 0, none⟩), .pointer (some ⟨rb, ro, none⟩), .int .i64 (C : Nat), .slice (some ⟨w.heap.size, 0, none⟩) 0 C, .pointer (some ⟨tb, 0, none⟩), .pointer (some ⟨tb, 0, none⟩), .pointer (some ⟨tb, 0, none⟩), .pointer (some ⟨rb, ro, none⟩), .func (.func 51) #[] #[.pointer (some ⟨w.heap.size + 1 + 1, 0, none⟩)], .int .i64 (x.1 : Int), (T x.1).row.val, undef, undef, undef, undef, undef, undef, undef, undef, undef, undef, undef, undef, undef], defers := [] } ∧ w.heap.size + 3 ≤ c) ∧ RowBox W c (T x.1).row)
    ?own ?assign ?body ?done ?stop
  case own =>
    rintro x a' s X Y row ⟨c, hc, hs⟩ hg hrow
    exact ⟨c, hc, (rowbox_own (β := Unit) c (T x.1).row).from _ () X Y row hs hg hrow⟩
  case assign =>
    rintro l pre ⟨j, hj⟩ W K ⟨⟨hv, hb2⟩, hB⟩ hK
    have hb2' := hb2
    dsimp only [SR.Pr.val]
    generalize (T j).row = pj at *
    obtain ⟨pg, pk, pi, pr⟩ := pj
    dsimp only
    gi_wp2
    have ka := World.grownBy_alloc W (.cells #[.int .i64 pg, .int .i64 pk, .int .i64 pi, .int .i64 pr] 56) none
    have hw := hB.size
    have hw1 := hb2.lt
    obtain ⟨v, hv1, hv2, hv3⟩ := hv
    exact hK _ _ (keeps_none ka) (kpb_none ka hw hw1) ⟨⟨⟨v, hv1.alloc _, hv2.alloc _, hv3⟩, hb2.alloc _⟩, hB.trans (below_none ka hw)⟩ ⟨W.heap.size, ⟨rfl, hw1⟩, World.alloc_heap_new W _⟩
  case body =>
    rintro l pre ⟨j, hj⟩ a' W hl hr ⟨⟨⟨v, hv1, hv2, rfl⟩, hb2⟩, hB⟩ ⟨c, ⟨rfl, hc⟩, hbox⟩ hlt
    have hw := hB.size
    have hle : (liveF T pre).length ≤ pre.length := by
      unfold liveF
      rw [List.length_map]
      exact Nat.le_trans (List.length_filter_le _ _) (by simp)
    have hL : (liveF T pre).length < C := by omega
    have hcw := hbox.lt
    cases ho : (T j).out with
    | false =>
      have hrow : (T j).row = SR.Pr.none := by simp [Pl.row, ho]
      have hfil : liveF T (pre ++ [(⟨j, hj⟩ : Fin n)]) = liveF T pre := by simp [liveF, ho]
      rw [hrow] at hbox
      have CY : Hid (∀ v : World, Calls Tryd.prog 38 #[.agg #[.int .i64 0, .int .i64 0, .int .i64 0, .int .i64 0]] v fun e w' => e = .returned (.bool false) ∧ v.grownBy w' none) := Lib.hid fun v => CI.out v SR.Pr.none
      obtain ⟨c0, c1, c2, c3⟩ := hbox.cells
      dsimp only [SR.Pr.none] at c0 c1 c2 c3
      rw [hrow]
      dsimp only [SR.Pr.val, SR.Pr.none]
      have HV1 := Lib.hid hv1
      have HV2 := Lib.hid hv2
      have HB2 := Lib.hid hb2
      have HBB := Lib.hid hB
      have hb2l := hb2.lt
      have HF := Lib.hid hfil
      clear hv1 hv2 hb2 hB hr hlt hle hbox hrow hfil CI
      generalize liveF T pre = F at *
      gi_wp2_with (first
        | (refine ⟨trivial, ?_⟩; gi_at_call 38; refine (callsIn_wide.2 (CY.out _)).mono ?_; rintro e w' ⟨rfl, kI⟩))
      refine ⟨keeps_none kI, kpb_none kI hw hb2l, ⟨⟨⟨.slice (some ⟨w.heap.size, 0, none⟩) F.length C, HV1.out.kept kI (by simp), ?_, ?_⟩, HB2.out.kept kI (by simp)⟩, HBB.out.trans (below_none kI hw)⟩⟩
      · rw [HF.out]; exact HV2.out.kept kI (Or.inr (by simp [Value.ownBlock]))
      · rw [HF.out]
    | true =>
      have hrow : (T j).row = ⟨(T j).gen, (T j).k, (T j).i, (T j).r⟩ := by simp [Pl.row, ho]
      have hfil : liveF T (pre ++ [(⟨j, hj⟩ : Fin n)]) = liveF T pre ++ [hOf T j] := by simp [liveF, ho]
      have hgp := HO.out j hj ho
      have CP1 := Lib.hid (fun v => CP.out j v hj ho)
      rw [hrow] at hbox
      have CY : Hid (∀ v : World, Calls Tryd.prog 38 #[.agg #[.int .i64 ((T j).gen : Nat), .int .i64 (T j).k, .int .i64 (T j).i, .int .i64 ((T j).r : Nat)]] v fun e w' => e = .returned (.bool true) ∧ v.grownBy w' none) := Lib.hid fun v => by
        have := CI.out v ⟨(T j).gen, (T j).k, (T j).i, (T j).r⟩
        rwa [show decide ((0 : Int) < (⟨(T j).gen, (T j).k, (T j).i, (T j).r⟩ : SR.Pr).g) = true by simpa using hgp] at this
      rw [hrow]
      dsimp only [SR.Pr.val]
      have HX := Lib.hid hbox
      have HV1 := Lib.hid hv1
      have HV2 := Lib.hid hv2
      have HB2 := Lib.hid hb2
      have HBB := Lib.hid hB
      have hb2l := hb2.lt
      have HF := Lib.hid hfil
      obtain ⟨c0, c1, c2, c3⟩ := hbox.cells
      dsimp only at c0 c1 c2 c3
      clear hv1 hv2 hb2 hB hr hlt hle hbox hrow hfil CI
      generalize liveF T pre = F at *
      generalize hOf T j = h at *
      generalize (T j).gen = gn at *
      generalize (T j).k = k at *
      generalize (T j).i = i at *
      generalize (T j).r = r at *
      gi_wp2_with (first
        | (refine ⟨trivial, ?_⟩; gi_at_call 38; refine (callsIn_wide.2 (CY.out _)).mono ?_; rintro e w1 ⟨rfl, kI⟩))
      have N1 := HV1.out.kept kI (by simp)
      have N2 := HV2.out.kept kI (Or.inr (by simp [Value.ownBlock]))
      have N3 := HB2.out.kept kI (by simp)
      have NX := HX.out.kept kI (by simp)
      obtain ⟨d0, d1, d2, d3⟩ := NX.cells
      dsimp only at d0 d1 d2 d3
      obtain ⟨cl, hcl⟩ := own_room N2 F.length hL
      have hfl := N2.frozenAt F.length
      have x0 := N1.cell
      have x1 := N1.frozen
      have hL1 : F.length + 1 ≤ C := hL
      have kz := World.grownBy_alloc w1 (.cells #[.int .u64 (h : Nat)] 23) none
      have N1a := N1.alloc (.cells #[.int .u64 (h : Nat)] 23)
      have N2a := N2.alloc (.cells #[.int .u64 (h : Nat)] 23)
      have hz1 := N1.lt
      have e1 : (w1.alloc (.cells #[.int .u64 (h : Nat)] 23)).cell? ⟨w.heap.size, F.length, none⟩ = some cl := (kz.cell_far ⟨w.heap.size, F.length, none⟩ (by show w.heap.size < _; omega) (by simp)).trans hcl
      have e2 := N2a.frozenAt F.length
      have e4 := N1a.cell
      have e5 := N1a.frozen
      have e6 : (w1.alloc (.cells #[.int .u64 (h : Nat)] 23)).cell? ⟨w1.heap.size, 0, none⟩ = some (.int .u64 (h : Nat)) := World.cell?_alloc_new ..
      have NA := Lib.hid N1a
      have NB := Lib.hid N2a
      have NC := Lib.hid (N3.alloc (.cells #[.int .u64 (h : Nat)] 23))
      have KZ := Lib.hid kz
      have HL1 := Lib.hid hL
      have HSZ : Hid (w.heap.size ≤ W.heap.size) := Lib.hid hw
      have HCW : Hid (w.heap.size + 1 + 1 < W.heap.size) := Lib.hid hb2l
      have KI := Lib.hid kI
      clear N1a N2a kz N1 N2 N3 NX d1 d2 hcl hfl x1 c0 c1 c2 c3 hn hl1 hl2 hl3 hcn hl0 hC hsz hB0 bO bN hR0 k0 hw hc hcw hb2l hz1 hgp AS CC CY AA CP HO HH HTT kI hl ho
      have HFIN := Lib.hid (live_step (Bq := W0.heap.size) (h := h) (u := (w1.alloc (.cells #[.int .u64 (h : Nat)] 23)).drew) (KI.out.trans (KZ.out.trans ⟨rfl, rfl, rfl, Nat.le_refl _, fun _ _ _ => rfl⟩)) HBB.out HSZ.out HCW.out rfl NA.out NB.out NC.out HL1.out)
      --ORDERS
      refine region_round (by kernel_rfl) (by kernel_rfl) ?_
      refine wpAnyIn_take (i := 1) (v := .int .i64 (j : Int)) rfl rfl (by kernel_rfl) (by kernel_rfl) (by kernel_rfl) (fun _ _ _ h => h) ⟨Or.inl ⟨by rfl, fun w => by go_simp⟩, fun _ => rfl⟩ ?_
      refine wpAnyIn_take (i := 2) (v := .pointer (some ⟨c, 0, none⟩)) rfl rfl (by kernel_rfl) (by kernel_rfl) (by kernel_rfl) (fun _ _ _ h => h) ⟨Or.inl ⟨by rfl, fun w => by go_simp⟩, fun _ => rfl⟩ ?_
      refine wpAnyIn_take (i := 4) (v := .pointer (some ⟨c, 1, none⟩)) rfl rfl (by kernel_rfl) (by kernel_rfl) (by kernel_rfl) (fun _ _ _ h => h) ⟨Or.inl ⟨by rfl, fun w => by go_simp⟩, fun _ => rfl⟩ ?_
      refine wpAnyIn_take (i := 5) (v := .pointer (some ⟨c, 3, none⟩)) rfl rfl (by kernel_rfl) (by kernel_rfl) (by kernel_rfl) (fun _ _ _ h => h) ⟨Or.inl ⟨by rfl, fun w => by go_simp⟩, fun _ => rfl⟩ ?_
      refine wpAnyIn_ready (rs := [0, 3, 6]) (by kernel_rfl) (by simp) ?_
      refine AllReadyIn.cons rfl (fun K hK => ?_) ?_
      · go_simp
        refine hK _ _ ?_
        clear hK K
        refine wpAnyIn_ready (rs := [3, 6]) (by kernel_rfl) (by simp) ?_
        refine AllReadyIn.cons rfl (fun K hK => ?_) ?_
        · go_simp
          refine hK _ _ ?_
          clear hK K
          refine wpAnyIn_ready (rs := [6]) (by kernel_rfl) (by simp) ?_
          refine AllReadyIn.cons rfl (fun K hK => ?_) ?_
          · go_simp
            refine hK _ _ ?_
            clear hK K
            refine wpAnyIn_ready (rs := [7]) (by kernel_rfl) (by simp) ?_
            refine AllReadyIn.cons rfl (fun K hK => ?_) ?_
            · go_simp
              gi_wp2_with (first | (refine ⟨trivial, ?_⟩; gi_at_call 25; refine (callsIn_wide.2 (CP1.out _)).mono ?_; rintro e w2 ⟨rfl, rfl⟩))
              refine wpAnyIn_ready (rs := [8]) (by kernel_rfl) (by simp) ?_
              refine AllReadyIn.cons rfl (fun K hK => ?_) ?_
              · go_simp
                refine hK _ _ ?_
                clear hK K
                refine wpAnyIn_ready (rs := [9]) (by kernel_rfl) (by simp) ?_
                refine AllReadyIn.cons rfl (fun K hK => ?_) ?_
                · go_simp
                  refine hK _ _ ?_
                  clear hK K
                  refine wpAnyIn_ready (rs := [10]) (by kernel_rfl) (by simp) ?_
                  refine AllReadyIn.cons rfl (fun K hK => ?_) ?_
                  · go_simp
                    refine hK _ _ ?_
                    clear hK K
                    refine wpAnyIn_done (by kernel_rfl) ?_ _
                    show (_ ∧ _)
                    dsimp only
                    rw [HF.out]
                    exact HFIN.out
                  exact AllReadyIn.nil
                exact AllReadyIn.nil
              exact AllReadyIn.nil
            exact AllReadyIn.nil
          exact AllReadyIn.nil
        refine AllReadyIn.cons rfl (fun K hK => ?_) ?_
        · go_simp
          refine hK _ _ ?_
          clear hK K
          refine wpAnyIn_ready (rs := [3]) (by kernel_rfl) (by simp) ?_
          refine AllReadyIn.cons rfl (fun K hK => ?_) ?_
          · go_simp
            refine hK _ _ ?_
            clear hK K
            refine wpAnyIn_ready (rs := [7]) (by kernel_rfl) (by simp) ?_
            refine AllReadyIn.cons rfl (fun K hK => ?_) ?_
            · go_simp
              gi_wp2_with (first | (refine ⟨trivial, ?_⟩; gi_at_call 25; refine (callsIn_wide.2 (CP1.out _)).mono ?_; rintro e w2 ⟨rfl, rfl⟩))
              refine wpAnyIn_ready (rs := [8]) (by kernel_rfl) (by simp) ?_
              refine AllReadyIn.cons rfl (fun K hK => ?_) ?_
              · go_simp
                refine hK _ _ ?_
                clear hK K
                refine wpAnyIn_ready (rs := [9]) (by kernel_rfl) (by simp) ?_
                refine AllReadyIn.cons rfl (fun K hK => ?_) ?_
                · go_simp
                  refine hK _ _ ?_
                  clear hK K
                  refine wpAnyIn_ready (rs := [10]) (by kernel_rfl) (by simp) ?_
                  refine AllReadyIn.cons rfl (fun K hK => ?_) ?_
                  · go_simp
                    refine hK _ _ ?_
                    clear hK K
                    refine wpAnyIn_done (by kernel_rfl) ?_ _
                    show (_ ∧ _)
                    dsimp only
                    rw [HF.out]
                    exact HFIN.out
                  exact AllReadyIn.nil
                exact AllReadyIn.nil
              exact AllReadyIn.nil
            exact AllReadyIn.nil
          exact AllReadyIn.nil
        exact AllReadyIn.nil
      refine AllReadyIn.cons rfl (fun K hK => ?_) ?_
      · go_simp
        refine hK _ _ ?_
        clear hK K
        refine wpAnyIn_ready (rs := [0, 6]) (by kernel_rfl) (by simp) ?_
        refine AllReadyIn.cons rfl (fun K hK => ?_) ?_
        · go_simp
          refine hK _ _ ?_
          clear hK K
          refine wpAnyIn_ready (rs := [6]) (by kernel_rfl) (by simp) ?_
          refine AllReadyIn.cons rfl (fun K hK => ?_) ?_
          · go_simp
            refine hK _ _ ?_
            clear hK K
            refine wpAnyIn_ready (rs := [7]) (by kernel_rfl) (by simp) ?_
            refine AllReadyIn.cons rfl (fun K hK => ?_) ?_
            · go_simp
              gi_wp2_with (first | (refine ⟨trivial, ?_⟩; gi_at_call 25; refine (callsIn_wide.2 (CP1.out _)).mono ?_; rintro e w2 ⟨rfl, rfl⟩))
              refine wpAnyIn_ready (rs := [8]) (by kernel_rfl) (by simp) ?_
              refine AllReadyIn.cons rfl (fun K hK => ?_) ?_
              · go_simp
                refine hK _ _ ?_
                clear hK K
                refine wpAnyIn_ready (rs := [9]) (by kernel_rfl) (by simp) ?_
                refine AllReadyIn.cons rfl (fun K hK => ?_) ?_
                · go_simp
                  refine hK _ _ ?_
                  clear hK K
                  refine wpAnyIn_ready (rs := [10]) (by kernel_rfl) (by simp) ?_
                  refine AllReadyIn.cons rfl (fun K hK => ?_) ?_
                  · go_simp
                    refine hK _ _ ?_
                    clear hK K
                    refine wpAnyIn_done (by kernel_rfl) ?_ _
                    show (_ ∧ _)
                    dsimp only
                    rw [HF.out]
                    exact HFIN.out
                  exact AllReadyIn.nil
                exact AllReadyIn.nil
              exact AllReadyIn.nil
            exact AllReadyIn.nil
          exact AllReadyIn.nil
        refine AllReadyIn.cons rfl (fun K hK => ?_) ?_
        · go_simp
          refine hK _ _ ?_
          clear hK K
          refine wpAnyIn_ready (rs := [0, 7]) (by kernel_rfl) (by simp) ?_
          refine AllReadyIn.cons rfl (fun K hK => ?_) ?_
          · go_simp
            refine hK _ _ ?_
            clear hK K
            refine wpAnyIn_ready (rs := [7]) (by kernel_rfl) (by simp) ?_
            refine AllReadyIn.cons rfl (fun K hK => ?_) ?_
            · go_simp
              gi_wp2_with (first | (refine ⟨trivial, ?_⟩; gi_at_call 25; refine (callsIn_wide.2 (CP1.out _)).mono ?_; rintro e w2 ⟨rfl, rfl⟩))
              refine wpAnyIn_ready (rs := [8]) (by kernel_rfl) (by simp) ?_
              refine AllReadyIn.cons rfl (fun K hK => ?_) ?_
              · go_simp
                refine hK _ _ ?_
                clear hK K
                refine wpAnyIn_ready (rs := [9]) (by kernel_rfl) (by simp) ?_
                refine AllReadyIn.cons rfl (fun K hK => ?_) ?_
                · go_simp
                  refine hK _ _ ?_
                  clear hK K
                  refine wpAnyIn_ready (rs := [10]) (by kernel_rfl) (by simp) ?_
                  refine AllReadyIn.cons rfl (fun K hK => ?_) ?_
                  · go_simp
                    refine hK _ _ ?_
                    clear hK K
                    refine wpAnyIn_done (by kernel_rfl) ?_ _
                    show (_ ∧ _)
                    dsimp only
                    rw [HF.out]
                    exact HFIN.out
                  exact AllReadyIn.nil
                exact AllReadyIn.nil
              exact AllReadyIn.nil
            exact AllReadyIn.nil
          refine AllReadyIn.cons rfl (fun K hK => ?_) ?_
          · go_simp
            gi_wp2_with (first | (refine ⟨trivial, ?_⟩; gi_at_call 25; refine (callsIn_wide.2 (CP1.out _)).mono ?_; rintro e w2 ⟨rfl, rfl⟩))
            refine wpAnyIn_ready (rs := [0, 8]) (by kernel_rfl) (by simp) ?_
            refine AllReadyIn.cons rfl (fun K hK => ?_) ?_
            · go_simp
              refine hK _ _ ?_
              clear hK K
              refine wpAnyIn_ready (rs := [8]) (by kernel_rfl) (by simp) ?_
              refine AllReadyIn.cons rfl (fun K hK => ?_) ?_
              · go_simp
                refine hK _ _ ?_
                clear hK K
                refine wpAnyIn_ready (rs := [9]) (by kernel_rfl) (by simp) ?_
                refine AllReadyIn.cons rfl (fun K hK => ?_) ?_
                · go_simp
                  refine hK _ _ ?_
                  clear hK K
                  refine wpAnyIn_ready (rs := [10]) (by kernel_rfl) (by simp) ?_
                  refine AllReadyIn.cons rfl (fun K hK => ?_) ?_
                  · go_simp
                    refine hK _ _ ?_
                    clear hK K
                    refine wpAnyIn_done (by kernel_rfl) ?_ _
                    show (_ ∧ _)
                    dsimp only
                    rw [HF.out]
                    exact HFIN.out
                  exact AllReadyIn.nil
                exact AllReadyIn.nil
              exact AllReadyIn.nil
            refine AllReadyIn.cons rfl (fun K hK => ?_) ?_
            · go_simp
              refine hK _ _ ?_
              clear hK K
              refine wpAnyIn_ready (rs := [0]) (by kernel_rfl) (by simp) ?_
              refine AllReadyIn.cons rfl (fun K hK => ?_) ?_
              · go_simp
                refine hK _ _ ?_
                clear hK K
                refine wpAnyIn_ready (rs := [9]) (by kernel_rfl) (by simp) ?_
                refine AllReadyIn.cons rfl (fun K hK => ?_) ?_
                · go_simp
                  refine hK _ _ ?_
                  clear hK K
                  refine wpAnyIn_ready (rs := [10]) (by kernel_rfl) (by simp) ?_
                  refine AllReadyIn.cons rfl (fun K hK => ?_) ?_
                  · go_simp
                    refine hK _ _ ?_
                    clear hK K
                    refine wpAnyIn_done (by kernel_rfl) ?_ _
                    show (_ ∧ _)
                    dsimp only
                    rw [HF.out]
                    exact HFIN.out
                  exact AllReadyIn.nil
                exact AllReadyIn.nil
              exact AllReadyIn.nil
            exact AllReadyIn.nil
          exact AllReadyIn.nil
        exact AllReadyIn.nil
      refine AllReadyIn.cons rfl (fun K hK => ?_) ?_
      · go_simp
        refine hK _ _ ?_
        clear hK K
        refine wpAnyIn_ready (rs := [0, 3]) (by kernel_rfl) (by simp) ?_
        refine AllReadyIn.cons rfl (fun K hK => ?_) ?_
        · go_simp
          refine hK _ _ ?_
          clear hK K
          refine wpAnyIn_ready (rs := [3]) (by kernel_rfl) (by simp) ?_
          refine AllReadyIn.cons rfl (fun K hK => ?_) ?_
          · go_simp
            refine hK _ _ ?_
            clear hK K
            refine wpAnyIn_ready (rs := [7]) (by kernel_rfl) (by simp) ?_
            refine AllReadyIn.cons rfl (fun K hK => ?_) ?_
            · go_simp
              gi_wp2_with (first | (refine ⟨trivial, ?_⟩; gi_at_call 25; refine (callsIn_wide.2 (CP1.out _)).mono ?_; rintro e w2 ⟨rfl, rfl⟩))
              refine wpAnyIn_ready (rs := [8]) (by kernel_rfl) (by simp) ?_
              refine AllReadyIn.cons rfl (fun K hK => ?_) ?_
              · go_simp
                refine hK _ _ ?_
                clear hK K
                refine wpAnyIn_ready (rs := [9]) (by kernel_rfl) (by simp) ?_
                refine AllReadyIn.cons rfl (fun K hK => ?_) ?_
                · go_simp
                  refine hK _ _ ?_
                  clear hK K
                  refine wpAnyIn_ready (rs := [10]) (by kernel_rfl) (by simp) ?_
                  refine AllReadyIn.cons rfl (fun K hK => ?_) ?_
                  · go_simp
                    refine hK _ _ ?_
                    clear hK K
                    refine wpAnyIn_done (by kernel_rfl) ?_ _
                    show (_ ∧ _)
                    dsimp only
                    rw [HF.out]
                    exact HFIN.out
                  exact AllReadyIn.nil
                exact AllReadyIn.nil
              exact AllReadyIn.nil
            exact AllReadyIn.nil
          exact AllReadyIn.nil
        refine AllReadyIn.cons rfl (fun K hK => ?_) ?_
        · go_simp
          refine hK _ _ ?_
          clear hK K
          refine wpAnyIn_ready (rs := [0, 7]) (by kernel_rfl) (by simp) ?_
          refine AllReadyIn.cons rfl (fun K hK => ?_) ?_
          · go_simp
            refine hK _ _ ?_
            clear hK K
            refine wpAnyIn_ready (rs := [7]) (by kernel_rfl) (by simp) ?_
            refine AllReadyIn.cons rfl (fun K hK => ?_) ?_
            · go_simp
              gi_wp2_with (first | (refine ⟨trivial, ?_⟩; gi_at_call 25; refine (callsIn_wide.2 (CP1.out _)).mono ?_; rintro e w2 ⟨rfl, rfl⟩))
              refine wpAnyIn_ready (rs := [8]) (by kernel_rfl) (by simp) ?_
              refine AllReadyIn.cons rfl (fun K hK => ?_) ?_
              · go_simp
                refine hK _ _ ?_
                clear hK K
                refine wpAnyIn_ready (rs := [9]) (by kernel_rfl) (by simp) ?_
                refine AllReadyIn.cons rfl (fun K hK => ?_) ?_
                · go_simp
                  refine hK _ _ ?_
                  clear hK K
                  refine wpAnyIn_ready (rs := [10]) (by kernel_rfl) (by simp) ?_
                  refine AllReadyIn.cons rfl (fun K hK => ?_) ?_
                  · go_simp
                    refine hK _ _ ?_
                    clear hK K
                    refine wpAnyIn_done (by kernel_rfl) ?_ _
                    show (_ ∧ _)
                    dsimp only
                    rw [HF.out]
                    exact HFIN.out
                  exact AllReadyIn.nil
                exact AllReadyIn.nil
              exact AllReadyIn.nil
            exact AllReadyIn.nil
          refine AllReadyIn.cons rfl (fun K hK => ?_) ?_
          · go_simp
            gi_wp2_with (first | (refine ⟨trivial, ?_⟩; gi_at_call 25; refine (callsIn_wide.2 (CP1.out _)).mono ?_; rintro e w2 ⟨rfl, rfl⟩))
            refine wpAnyIn_ready (rs := [0, 8]) (by kernel_rfl) (by simp) ?_
            refine AllReadyIn.cons rfl (fun K hK => ?_) ?_
            · go_simp
              refine hK _ _ ?_
              clear hK K
              refine wpAnyIn_ready (rs := [8]) (by kernel_rfl) (by simp) ?_
              refine AllReadyIn.cons rfl (fun K hK => ?_) ?_
              · go_simp
                refine hK _ _ ?_
                clear hK K
                refine wpAnyIn_ready (rs := [9]) (by kernel_rfl) (by simp) ?_
                refine AllReadyIn.cons rfl (fun K hK => ?_) ?_
                · go_simp
                  refine hK _ _ ?_
                  clear hK K
                  refine wpAnyIn_ready (rs := [10]) (by kernel_rfl) (by simp) ?_
                  refine AllReadyIn.cons rfl (fun K hK => ?_) ?_
                  · go_simp
                    refine hK _ _ ?_
                    clear hK K
                    refine wpAnyIn_done (by kernel_rfl) ?_ _
                    show (_ ∧ _)
                    dsimp only
                    rw [HF.out]
                    exact HFIN.out
                  exact AllReadyIn.nil
                exact AllReadyIn.nil
              exact AllReadyIn.nil
            refine AllReadyIn.cons rfl (fun K hK => ?_) ?_
            · go_simp
              refine hK _ _ ?_
              clear hK K
              refine wpAnyIn_ready (rs := [0]) (by kernel_rfl) (by simp) ?_
              refine AllReadyIn.cons rfl (fun K hK => ?_) ?_
              · go_simp
                refine hK _ _ ?_
                clear hK K
                refine wpAnyIn_ready (rs := [9]) (by kernel_rfl) (by simp) ?_
                refine AllReadyIn.cons rfl (fun K hK => ?_) ?_
                · go_simp
                  refine hK _ _ ?_
                  clear hK K
                  refine wpAnyIn_ready (rs := [10]) (by kernel_rfl) (by simp) ?_
                  refine AllReadyIn.cons rfl (fun K hK => ?_) ?_
                  · go_simp
                    refine hK _ _ ?_
                    clear hK K
                    refine wpAnyIn_done (by kernel_rfl) ?_ _
                    show (_ ∧ _)
                    dsimp only
                    rw [HF.out]
                    exact HFIN.out
                  exact AllReadyIn.nil
                exact AllReadyIn.nil
              exact AllReadyIn.nil
            exact AllReadyIn.nil
          exact AllReadyIn.nil
        exact AllReadyIn.nil
      exact AllReadyIn.nil
      --END ORDERS
  case done =>
    rintro D ys W hD hys ⟨⟨⟨v, hv1, hv2, rfl⟩, hb2⟩, hB⟩ hK
    rw [live_all T G ys hys] at hv1 hv2
    have hc := hv1.cell
    gi_wp2
    refine ⟨by simp, .inl ⟨_, _, rfl, run_takeDeferred hK, ?_⟩⟩
    have hB2 := hB.trans (belowK_b (w := w) (Nat.le_refl _) W D _ (.deferred none) (by omega) hK rfl rfl)
    exact ⟨_, results_tmp rfl _ _ _, w.heap.size, C, rfl, ⟨hB2.os, hB2.tape, hB2.output, hB2.size, fun j hj _ => hB2.block j hj⟩, ownsRow_putObj hv2 (.deferred none) hK rfl⟩
  case stop =>
    rintro D c pre W _ _ h _
    exact h.elim
end
end Go.Proofs.YtbkjdbimkofceaaDoor
