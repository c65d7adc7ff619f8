/-
  The walk of the statement SlabWalks: gone through, a region has all places that are taken, rising, each with what is in it.
-/
import Derived.Test.YtgbodembcnppaaaDoorFillsWalk
import Derived.Test.YtgbodembcnppaaaDoorSApartWalk
import Derived.Maps.OwnIn
namespace Go.Proofs.YtgbodembcnppaaaDoor
open Go.RowKit Go.Lib Go.Shelf

attribute [local go_sem] Oper.semAt_some

theorem heap5 (w : World) (A B C D E : Obj) :
    (((((w.alloc A).alloc B).alloc C).alloc D).alloc E).heap[w.heap.size]? = some A ∧ (((((w.alloc A).alloc B).alloc C).alloc D).alloc E).heap[w.heap.size + 1]? = some B ∧
    (((((w.alloc A).alloc B).alloc C).alloc D).alloc E).heap[w.heap.size + 1 + 1]? = some C ∧ (((((w.alloc A).alloc B).alloc C).alloc D).alloc E).heap[w.heap.size + 1 + 1 + 1]? = some D ∧
    (((((w.alloc A).alloc B).alloc C).alloc D).alloc E).heap[w.heap.size + 1 + 1 + 1 + 1]? = some E ∧ (((((w.alloc A).alloc B).alloc C).alloc D).alloc E).heap.size = w.heap.size + 1 + 1 + 1 + 1 + 1 ∧ w.grownBy (((((w.alloc A).alloc B).alloc C).alloc D).alloc E) none := by
  refine ⟨?_, ?_, ?_, ?_, ?_, ?_, ?_⟩
  all_goals first
    | exact (((((World.grownBy_alloc w A none).trans (World.grownBy_alloc _ B none)).trans (World.grownBy_alloc _ C none)).trans (World.grownBy_alloc _ D none)).trans (World.grownBy_alloc _ E none))
    | (have e : (((((w.alloc A).alloc B).alloc C).alloc D).alloc E).heap = ((((w.heap.push A).push B).push C).push D).push E := rfl
       rw [e]
       simp only [Array.getElem?_push, Array.size_push]
       repeat (first | rw [if_pos trivial] | rw [if_neg (by omega)]))

/-- A row of ints of the call's own, each told by itself. -/
def vals (F : List (Nat × Int)) : List Value := F.map fun p => Value.int .i64 p.2
theorem row_ne {A B : World} {row : Option Nat} {base : Nat} {e : TypeId} {size r n cp m : Nat} {xs : List Value} (h : A.ownsRow base e size (.slice (some ⟨r, 0, none⟩) n cp) m xs) (hr : ∀ q, row = some q → ∃ o : Obj, A.heap[q]? = some o ∧ o.isCells = false) (hg : A.grownBy B row) : B.ownsRow base e size (.slice (some ⟨r, 0, none⟩) n cp) m xs := by
  refine h.kept hg (Or.inr fun e' => ?_)
  obtain ⟨o, ho, hc⟩ := hr r (by simpa [Value.ownBlock] using e'.symm)
  rcases h.2 with ⟨hv, _⟩ | ⟨g, cap, cur, hv, _, hgb, _⟩
  · cases hv
  · cases hv
    rw [hgb] at ho; cases ho; cases hc
/-- The two boxes that collect, and the iterator's. -/
def Twin (X rb : Nat) (w : World) (pre : List (Nat × Int)) (W : World) : Prop :=
  ((∃ r1 c1 r2 c2, Boxed W (X + 1 + 1) 22 (.slice (some ⟨r1, 0, none⟩) pre.length c1) ∧ Boxed W (X + 1 + 1 + 1) 22 (.slice (some ⟨r2, 0, none⟩) pre.length c2) ∧
    W.ownsRow X 3 1 (.slice (some ⟨r1, 0, none⟩) pre.length c1) pre.length (ints (pre.map Prod.fst)) ∧ W.ownsRow X 3 1 (.slice (some ⟨r2, 0, none⟩) pre.length c2) pre.length (vals pre) ∧ r1 ≠ r2) ∧
    Boxed W (X + 1 + 1 + 1 + 1) 30 (.pointer (some ⟨rb, 0, none⟩))) ∧ Below X w W
theorem box_ne {A B : World} {row : Option Nat} {b : Nat} {t : TypeId} {v : Value} (h : Boxed A b t v) (hr : ∀ q, row = some q → ∃ o : Obj, A.heap[q]? = some o ∧ o.isCells = false) (hg : A.grownBy B row) : Boxed B b t v :=
  h.kept hg (fun e' => by obtain ⟨o, ho, hc⟩ := hr b e'.symm; rw [show A.heap[b]? = _ from h] at ho; cases ho; cases hc)
theorem twin_own (X rb B : Nat) (w : World) (hX : X ≤ w.heap.size) (hB : X ≤ B) : OwnFrom B (Twin X rb w) := by
  rintro s A A' row ⟨⟨⟨r1, c1, r2, c2, b1, b2, o1, o2, hne⟩, b3⟩, hb⟩ hg hr
  have hr' : ∀ q, row = some q → ∃ o : Obj, A.heap[q]? = some o ∧ o.isCells = false := fun q e => (hr q e).2
  exact ⟨⟨⟨r1, c1, r2, c2, box_ne b1 hr' hg, box_ne b2 hr' hg, row_ne o1 hr' hg, row_ne o2 hr' hg, hne⟩, box_ne b3 hr' hg⟩, hb.grown hg (Nat.le_trans hX hb.size) (fun k e => Nat.le_trans hB (hr k e).1)⟩

theorem mems_at (S : Nat → Bool) (n i : Nat) (h : i < (SI.mems S n).length) : (SI.mems S n)[i] < n ∧ S (SI.mems S n)[i] = true := by
  have := List.mem_filter.1 (List.getElem_mem h)
  exact ⟨List.mem_range.1 this.1, this.2⟩
theorem mems_up (S : Nat → Bool) (n i : Nat) (h0 : i < (SI.mems S n).length) (h : i + 1 < (SI.mems S n).length) : (SI.mems S n)[i] < (SI.mems S n)[i + 1] :=
  List.pairwise_iff_getElem.1 ((List.pairwise_lt_range (n := n)).filter S) i (i + 1) (by simp only [SI.mems] at h; omega) (by simpa only [SI.mems] using h) (by omega)

set_option maxRecDepth 100000 in
set_option maxHeartbeats 8000000 in
theorem swalks_walk (room : Int) (sa : Option Addr) (len cap sb off : Nat) (zs : Nat → Nat → Int) (w : World) (hT : TabAt w)
    (_hm : len ≤ maxLen) (hsa : 0 < len → sa = some ⟨sb, off, none⟩ ∧ sb < w.heap.size) (hz : ∀ j, j < len → ∀ i, i < 4 → w.cell? ⟨sb, off + j * 4 + i, none⟩ = some (.int .i64 (zs j i))) :
    Calls Tryd.prog 6 #[.int .i64 room, .slice sa len cap] w fun e w' => e = .returned (.bool true) ∧ w.grownBy w' none := by
  have HSA := Lib.hid hsa
  have HZ := Lib.hid hz
  have HT := Lib.hid hT
  have hpos := tab_pos hT
  clear hsa hz _hm hT
  have hmask := mask_31 room
  have hrm := mk31_lt room
  generalize mk31 room = rm at *
  have AA := Lib.hid (fun (v : World) (rb : Nat) => SI.all_any rb 0 v)
  refine (callsIn_wide (n := 5)).1 ?_
  refine callsIn_of_wp_marks Tryd.func6 rfl trivial ?_ rfl
  simp only [Tryd.ntmps6, List.size_toArray, List.length_cons, List.length_nil, Nat.reduceAdd, Nat.reduceSub, Array.replicate_succ, Array.replicate_zero, List.push_toArray, List.append_toArray, List.nil_append, List.cons_append]
  refine wpIn_wide.2 ?_
  go_wp2_with fail
  refine (alive3 _ HT.out).mono ?_
  rintro e w0 ⟨rfl, hG0⟩
  by_cases hl : 50 < len
  · go_wp2
    exact ⟨_, results_tmp rfl _ _ _, rfl, hG0⟩
  have ka := World.grownBy_alloc w0 (.cells #[.int .i64 (rm : Int)] 3) none
  have CA := Lib.hid (SI.new_made _ 1 1 _ _ (caps_one w0 (rm : Int)))
  have G1 := grow_to hG0 ka
  clear hG0 ka
  go_wp2_with fail
  refine CA.out.mono ?_
  rintro e w1 ⟨sbA, rb, rfl, k1, A1⟩
  have G2 := grow_to G1 k1
  have hlo : w.heap.size ≤ (w0.alloc (.cells #[.int .i64 (rm : Int)] 3)).heap.size := G1.size
  generalize (w0.alloc (.cells #[.int .i64 (rm : Int)] 3)).heap.size = lo at A1 hlo
  have hlo0 : 0 < lo := by omega
  have CR : Hid (Calls Tryd.prog 12 #[.pointer (some ⟨sbA, 0, none⟩), .int .i64 0] w1 fun e w' => e = .returned (.pointer (some ⟨rb, 0, none⟩)) ∧ w1.grownBy w' none) := Lib.hid (SI.region_in 0 A1 (by decide))
  have R1 := regAt_of A1 0 (by decide)
  rw [room_small rm (by omega)] at R1
  generalize w1.heap.size = hi at R1
  clear CA G1 k1 A1
  go_wp2_with fail
  refine CR.out.mono ?_
  rintro e w2 ⟨rfl, k2⟩
  have R2 := R1.grown k2
  have G3 := grow_to G2 k2
  clear CR R1 G2 k2 hmask
  go_wp2
  go_loopw [28] (fun it wr => ∃ (j : Nat) (S : Nat → Bool) (V : Nat → Int), j ≤ len ∧ it = .int .i64 j ∧ RegAt wr lo hi rb 0 rm S V ∧ w.grownBy wr none) (fun it _ => len - (intOf it).toNat)
  case atStart => exact ⟨0, _, _, Nat.zero_le _, rfl, R2, G3⟩
  case round =>
    obtain ⟨j, S, V, hj, rfl, R, hG⟩ := hrel
    clear R2 G3
    by_cases hlt : j < len
    · obtain ⟨rfl, hsb⟩ := HSA.out (by omega)
      have hc0 : wr.cell? ⟨sb, off + j * 4, none⟩ = some (.int .i64 (zs j 0)) := (hG.cell_far ⟨sb, off + j * 4, none⟩ hsb (by simp)).trans (HZ.out j hlt 0 (by decide))
      have hc1 : wr.cell? ⟨sb, off + j * 4 + 1, none⟩ = some (.int .i64 (zs j 1)) := (hG.cell_far ⟨sb, off + j * 4 + 1, none⟩ hsb (by simp)).trans (HZ.out j hlt 1 (by decide))
      have hc2 : wr.cell? ⟨sb, off + j * 4 + 2, none⟩ = some (.int .i64 (zs j 2)) := (hG.cell_far ⟨sb, off + j * 4 + 2, none⟩ hsb (by simp)).trans (HZ.out j hlt 2 (by decide))
      have hc3 : wr.cell? ⟨sb, off + j * 4 + 3, none⟩ = some (.int .i64 (zs j 3)) := (hG.cell_far ⟨sb, off + j * 4 + 3, none⟩ hsb (by simp)).trans (HZ.out j hlt 3 (by decide))
      generalize zs j 0 = rz at *
      generalize zs j 1 = kind at *
      generalize zs j 2 = kz at *
      generalize zs j 3 = vz at *
      have k3 := World.grownBy_alloc wr (.cells #[.int .i64 rz, .int .i64 kind, .int .i64 kz, .int .i64 vz] 33) none
      have R3 := R.grown k3
      have G3 := grow_to hG k3
      have T3 := HT.out.kept G3
      clear R hG k3
      by_cases hk0 : kind = 0
      · subst hk0
        obtain ⟨p, ok, S', V', hop⟩ := take_op rm S V vz
        have C1 := Lib.hid (hop.reg R3 T3)
        clear R3 T3 hop
        go_wp2_with fail
        refine C1.out.mono ?_
        rintro e w3 ⟨rfl, y3, R4⟩
        have G4 := Only.on G3 y3 hlo
        clear C1 y3 G3
        go_wp2
        go_roundw
        case rel => exact ⟨j + 1, _, _, by omega, by go_num, R4, G4⟩
        case measure => simp [intOf]; omega
      have e0 : (kind == 0) = false := by rw [beq_eq_false_iff_ne]; exact hk0
      by_cases hk1 : kind = 1
      · subst hk1
        obtain ⟨ok, S', V', hop⟩ := give_op rm S V kz
        have C1 := Lib.hid (hop.reg R3 T3)
        clear R3 T3 hop
        go_wp2_with fail
        refine C1.out.mono ?_
        rintro e w3 ⟨rfl, y3, R4⟩
        have G4 := Only.on G3 y3 hlo
        clear C1 y3 G3
        go_wp2
        go_roundw
        case rel => exact ⟨j + 1, _, _, by omega, by go_num, R4, G4⟩
        case measure => simp [intOf]; omega
      have e1 : (kind == 1) = false := by rw [beq_eq_false_iff_ne]; exact hk1
      by_cases hk2 : kind = 2
      · subst hk2
        obtain ⟨ok, S', V', hop⟩ := set_op rm S V kz vz
        have C1 := Lib.hid (hop.reg R3 T3)
        clear R3 T3 hop
        go_wp2_with fail
        refine C1.out.mono ?_
        rintro e w3 ⟨rfl, y3, R4⟩
        have G4 := Only.on G3 y3 hlo
        clear C1 y3 G3
        go_wp2
        go_roundw
        case rel => exact ⟨j + 1, _, _, by omega, by go_num, R4, G4⟩
        case measure => simp [intOf]; omega
      have e2 : (kind == 2) = false := by rw [beq_eq_false_iff_ne]; exact hk2
      go_wp2
      go_roundw
      case rel => exact ⟨j + 1, S, V, by omega, by go_num, R3, G3⟩
      case measure => simp [intOf]; omega
    · clear HSA HZ
      go_wp2_with fail
      refine (AA.out _ rb).mono ?_
      rintro e w3 ⟨rfl, hw3⟩
      go_wp2_with fail
      clear hw3
      obtain ⟨f0, f1, f2, f3, f4, fs, k0⟩ := heap5 wr (.cells #[] 3) (.cells #[] 3) (.cells #[.slice (some ⟨wr.heap.size, 0, none⟩) 0 0] 22) (.cells #[.slice (some ⟨wr.heap.size + 1, 0, none⟩) 0 0] 22) (.cells #[.pointer (some ⟨rb, 0, none⟩)] 30)
      have hRr := R.grown k0
      have G5 := grow_to hG k0
      have T5 := HT.out.kept G5
      have hrz := R.sz
      generalize ((((wr.alloc (.cells #[] 3)).alloc (.cells #[] 3)).alloc (.cells #[.slice (some ⟨wr.heap.size, 0, none⟩) 0 0] 22)).alloc (.cells #[.slice (some ⟨wr.heap.size + 1, 0, none⟩) 0 0] 22)).alloc (.cells #[.pointer (some ⟨rb, 0, none⟩)] 30) = W0 at f0 f1 f2 f3 f4 fs k0 hRr G5 T5 ⊢
      obtain ⟨pb, po, b, g, RM, q1, q2, q3, q4, q5, q6, q7, q8, q9⟩ := hRr
      generalize hX : wr.heap.size = X at *
      have hB0 : Below X wr W0 := ⟨k0.os, k0.tape, k0.output, by rw [hX] at *; omega, fun i hi => k0.block i (by omega) (by simp)⟩
      have o1 : W0.ownsRow X 3 1 (.slice (some ⟨X, 0, none⟩) 0 0) 0 [] := ⟨rfl, .inr ⟨X, 0, #[], rfl, Nat.le_refl _, f0, Nat.le_refl _, Nat.zero_le _, rfl, rfl⟩⟩
      have o2 : W0.ownsRow X 3 1 (.slice (some ⟨X + 1, 0, none⟩) 0 0) 0 [] := ⟨rfl, .inr ⟨X + 1, 0, #[], rfl, by omega, f1, Nat.le_refl _, Nat.zero_le _, rfl, rfl⟩⟩
      obtain ⟨i0, hi0, hz0, hz1, hz2⟩ := int_info
      have I0 := Lib.hid hi0
      have I1 := Lib.hid hz0
      have I2 := Lib.hid hz1
      have I3 := Lib.hid hz2
      have hcn : cnt S rm ≤ rm := cnt_le S rm
      clear hi0 hz0 hz1 hz2
      refine (wpIn_wide (n := 5)).1 ?_
      refine wpIn_rangeFunc_ownF rfl (by omega) (gf := 44) (lb := #[.pointer (some ⟨X + 1 + 1 + 1 + 1, 0, none⟩)]) rfl trivial (enters_of Tryd.func44 (by kernel_rfl) rfl)
        (SI.all_stops 4 (by omega) (X + 1 + 1 + 1 + 1) X rb 0 pb po b g rm S V W0 (by omega) (by omega) (Boxed.cell f4) RM T5 (by omega)) (fun h k => h.trans k) (SI.kpb_b (by omega)) (Below.refl _ _) (fun _ => rfl)
        (Twin X rb wr) (fun _ _ _ => False) (twin_own X rb _ wr (by omega) (by omega)) (fun _ _ _ _ _ hs _ _ => hs)
        ⟨⟨⟨X, 0, X + 1, 0, f2, f3, o1, o2, by omega⟩, f4⟩, hB0⟩ ?a1 ?assign ?body ?done ?stop
      case assign =>
        intro l x W K hK
        gi_wp2
        exact hK
      case body =>
        rintro l pre x W ⟨⟨⟨r1, c1, r2, c2, b1, b2, o1, o2, hne⟩, b3⟩, hB⟩ hlt2
        have hc8 := b1.cell
        have hb3 := Lib.hid b3.cell
        have hXW := hB.size
        have hXW2 : X ≤ W.heap.size := by omega
        gi_wp2_with (first
          | (
            gi_at_builtin
            refine wpListIn_append_own_at _ rfl _ _ 22 rfl X 3 i0 (.int .i64 0) 1 8 Tryd.underlying22 I0.out I1.out I2.out I3.out rfl (by decide) _ _ _ rfl (o1.alloc _) ⟨W.heap.size, 0, none⟩ 1 1 [.int .i64 (x.1 : Int)] rfl rfl (cell_one_new _ _ _) (by simp [Value.oneCell']) (by unfold maxLen; omega) (by omega) (by simp; omega) ?_
            intro v1 w1 own1 grow1 _ at1
            obtain ⟨r1', c1', rfl⟩ := ownsRow_succ own1
            have g1 : (W.alloc (.cells #[.int .i64 (x.1 : Int)] 3)).grownBy w1 (some r1) := grow1
            have at1' : r1' = r1 ∨ r1' = W.heap.size + 1 := (by
              have h : (some r1' : Option Nat) = some r1 ∨ some r1' = some (W.alloc (.cells #[.int .i64 (x.1 : Int)] 3)).heap.size := at1
              simpa using h)
            have hr2 : r2 < W.heap.size := (o2.lt r2 rfl).2
            obtain ⟨a1, a2, a3, a4, a5⟩ := b1.appended (by decide) o1 hXW2 (by omega) own1 grow1
            have hc8a := a1.cell
            have hf8a := a1.frozen
            have b2a : Boxed w1 (X + 1 + 1 + 1) 22 (.slice (some ⟨r2, 0, none⟩) pre.length c2) := (b2.alloc _).kept g1 (b2.not_row (by decide) o1)
            have b2b := b2a.other (B' := X + 1 + 1) (by omega) (.slice (some ⟨r1', 0, none⟩) (pre.length + 1) c1')
            have b3b := ((b3.alloc (.cells #[.int .i64 (x.1 : Int)] 3)).kept g1 (b3.not_row (by decide) o1)).other (B' := X + 1 + 1) (by omega) (.slice (some ⟨r1', 0, none⟩) (pre.length + 1) c1')
            have o2a : w1.ownsRow X 3 1 (.slice (some ⟨r2, 0, none⟩) pre.length c2) pre.length (vals pre) := (o2.alloc _).kept g1 (Or.inr (show (some r2 : Option Nat) ≠ some r1 from fun h => hne (Option.some.inj h).symm))
            have o2b : (w1.setCell ⟨X + 1 + 1, 0, none⟩ (.slice (some ⟨r1', 0, none⟩) (pre.length + 1) c1')).ownsRow X 3 1 (.slice (some ⟨r2, 0, none⟩) pre.length c2) pre.length (vals pre) := o2a.kept (grownBy_setCell' w1 (X + 1 + 1) (.slice (some ⟨r1', 0, none⟩) (pre.length + 1) c1')) (Or.inr (a1.not_row (by decide) o2a).symm)
            have hc9b := b2b.cell
            have hsz1 : X ≤ w1.heap.size := (by have := g1.size; simp at this; omega)
            have cn2 : ∀ j u, [Value.int .i64 x.2][j]? = some u → ((w1.setCell ⟨X + 1 + 1, 0, none⟩ (.slice (some ⟨r1', 0, none⟩) (pre.length + 1) c1')).alloc (.cells #[.int .i64 x.2] 3)).cell? ((⟨w1.heap.size, 0, none⟩ : Addr).add j) = some u := (by
              have h := cell_one_new (w1.setCell ⟨X + 1 + 1, 0, none⟩ (.slice (some ⟨r1', 0, none⟩) (pre.length + 1) c1')) (.int .i64 x.2) 3
              rwa [size_set] at h)
            have hr1w : r1' < w1.heap.size := (own1.lt r1' rfl).2
            clear o1 b1 own1 grow1 at1 o2 b2 b3 hc8
            )
          | (
            gi_at_builtin
            refine wpListIn_append_own_at _ rfl _ _ 22 rfl X 3 i0 (.int .i64 0) 1 8 Tryd.underlying22 I0.out I1.out I2.out I3.out rfl (by decide) _ _ _ rfl (o2b.alloc _) ⟨w1.heap.size, 0, none⟩ 1 1 [.int .i64 x.2] rfl rfl cn2 (by simp [Value.oneCell']) (by unfold maxLen; omega) (by omega) (by simp; omega) ?_
            intro v2 w2 own2 grow2 _ at2
            obtain ⟨r2', c2', rfl⟩ := ownsRow_succ own2
            have g2 : ((w1.setCell ⟨X + 1 + 1, 0, none⟩ (.slice (some ⟨r1', 0, none⟩) (pre.length + 1) c1')).alloc (.cells #[.int .i64 x.2] 3)).grownBy w2 (some r2) := grow2
            have at2' : r2' = r2 ∨ r2' = w1.heap.size + 1 := (by
              have h : (some r2' : Option Nat) = some r2 ∨ some r2' = some ((w1.setCell ⟨X + 1 + 1, 0, none⟩ (.slice (some ⟨r1', 0, none⟩) (pre.length + 1) c1')).alloc (.cells #[.int .i64 x.2] 3)).heap.size := at2
              simpa using h)
            obtain ⟨e1, e2, e3, e4, e5⟩ := b2b.appended (by decide) o2b (by rw [size_set]; exact hsz1) (by omega) own2 grow2
            have hc9c := e1.cell
            have hf9c := e1.frozen
            have a2b := ((a2.alloc (.cells #[.int .i64 x.2] 3)).kept g2 (a2.not_row (by decide) o2b)).other (B' := X + 1 + 1 + 1) (by omega) (.slice (some ⟨r2', 0, none⟩) (pre.length + 1) c2')
            have b3c := ((b3b.alloc (.cells #[.int .i64 x.2] 3)).kept g2 (b3b.not_row (by decide) o2b)).other (B' := X + 1 + 1 + 1) (by omega) (.slice (some ⟨r2', 0, none⟩) (pre.length + 1) c2')
            have hn12 : r1' ≠ r2 := (by omega)
            have a3a := (a3.alloc (.cells #[.int .i64 x.2] 3)).kept g2 (Or.inr (show (some r1' : Option Nat) ≠ some r2 from fun h => hn12 (Option.some.inj h)))
            have a3b := a3a.kept (grownBy_setCell' w2 (X + 1 + 1 + 1) (.slice (some ⟨r2', 0, none⟩) (pre.length + 1) c2')) (Or.inr (e1.not_row (by decide) a3a).symm)
            clear own2 grow2 at2 g2
            ))
        refine ⟨a4.trans e4, ⟨a5.trans e5, fun u hu => ?_⟩, ⟨⟨r1', c1', r2', c2', ?_, ?_, ?_, ?_, by omega⟩, b3c⟩, (hB.trans a5).trans e5⟩
        · rw [hb3.out] at hu; cases hu; exact b3c.cell
        · simpa using a2b
        · simpa using e2
        · simpa [ints_snoc] using a3b
        · simpa [vals] using e3
      case done =>
        rintro D ys W hD rfl ⟨⟨⟨r1, c1, r2, c2, b1, b2, o1, o2, hne⟩, b3⟩, hB⟩ hK
        rw [SI.fst_pairs] at o1
        have hl : (SI.pairs V (SI.mems S rm)).length = (SI.mems S rm).length := by simp [SI.pairs]
        rw [hl] at b1 b2 o1 o2
        have hl3 := SI.mems_len S rm
        have hl1 := mems_at S rm
        have hl2 := mems_up S rm
        obtain ⟨pb', po', b', g', RM', q1', q2', q3', q4', q5', q6', q7', q8', q9'⟩ := R
        have kB : wr.grownBy W none := ⟨hB.os, hB.tape, hB.output, hB.size, fun j hj _ => hB.block j (by omega)⟩
        have GW := grow_to hG kB
        have RW := RM'.below hB (by omega)
        have TW := HT.out.kept GW
        have hDw : w.heap.size ≤ D := Nat.le_trans G5.size hD
        have hDlt : D < W.heap.size := (Array.getElem?_eq_some_iff.1 hK).1
        have kd : W.grownBy W.drew none := ⟨rfl, rfl, rfl, Nat.le_refl _, fun _ _ _ => rfl⟩
        have CH := Lib.hid (SI.held_any (RW.kept kd) (TW.kept kd))
        have hb8 : X + 1 + 1 < W.heap.size := b1.lt
        have hb9 : X + 1 + 1 + 1 < W.heap.size := b2.lt
        have FIN : Hid (∀ v : World, W.grownBy v none → (SI.RegMem v rb 0 pb' po' b' g' rm S V ∧ w.grownBy v none ∧ v.heap[D]? = some (.deferred (some [])) ∧ RowOf v X r1 c1 (SI.mems S rm) ∧ v.ownsRow X 3 1 (.slice (some ⟨r2, 0, none⟩) (SI.mems S rm).length c2) (SI.mems S rm).length (vals (SI.pairs V (SI.mems S rm)))) ∧
            v.cell? ⟨X + 1 + 1, 0, none⟩ = some (.slice (some ⟨r1, 0, none⟩) (SI.mems S rm).length c1) ∧ v.cell? ⟨X + 1 + 1 + 1, 0, none⟩ = some (.slice (some ⟨r2, 0, none⟩) (SI.mems S rm).length c2)) := Lib.hid fun v hv =>
          ⟨⟨RW.kept hv, grow_to GW hv, (hv.block D hDlt (by simp)).trans hK, RowOf.kept o1 hv (by simp), World.ownsRow.kept o2 hv (Or.inr (by simp [Value.ownBlock]))⟩, (hv.cell_far ⟨X + 1 + 1, 0, none⟩ hb8 (by simp)).trans b1.cell, (hv.cell_far ⟨X + 1 + 1 + 1, 0, none⟩ hb9 (by simp)).trans b2.cell⟩
        have CS : Hid (∀ (v : World) (r cp : Nat), W.drew.grownBy v none → RowOf v W.drew.heap.size r cp (SI.mems S rm) → Calls Tryd.prog 19 #[.slice (some ⟨r1, 0, none⟩) (SI.mems S rm).length c1, .slice (some ⟨r, 0, none⟩) (SI.mems S rm).length cp] v fun e w' => e = .returned (.bool true) ∧ v.grownBy w' none) := Lib.hid fun v r cp hv hr =>
          same_yes (RowOf.kept o1 (kd.trans hv) (by simp)).reads hr.reads (by omega)
        have hc8 := (FIN.out W.drew kd).2.1
        have KD := Lib.hid kd
        clear hB f0 f1 f2 f3 f4 fs k0 hB0 b1 b2 b3 kd GW RW TW kB RM' RM q1 q2 q3 q4 q5 q6 q7 q8 q9 q1' q2' q3' q4' q5' q6' q7' q8' q9' o1 o2 hl G5 T5 I0 I1 I2 I3 hK hG HT AA
        generalize SI.mems S rm = L at hl1 hl2 hl3 CH FIN CS hc8
        have hLle : L.length ≤ rm := by omega
        have HL1 := Lib.hid hl1
        have HL2 := Lib.hid hl2
        have HL3 := Lib.hid hl3
        clear hl1 hl2 hl3 hcn
        go_upto_region 23 with fail
        go_region_held3 (fun w' => w'.cell? ⟨X + 1 + 1, 0, none⟩ = some (.slice (some ⟨r1, 0, none⟩) L.length c1)) (first | exact hc8 | exact hc8a | exact hc8b)
          (first
            | (go_at_call 20; (with_reducible refine CH.out.mono ?_); rintro e va ⟨rr, rcp, rfl, ga, Ra⟩; have hc8a := (FIN.out va (KD.out.trans ga)).2.1)
            | (go_at_call 19; (with_reducible refine (CS.out va rr rcp ga Ra).mono ?_); rintro e vb ⟨rfl, gb⟩; have hc8b := (FIN.out vb (KD.out.trans (ga.trans gb))).2.1))
        have gW := (KD.out.trans ga).trans gb
        clear CH CS KD ga gb Ra hc8 hc8a
        go_wp2
        go_loopw [76] (fun it wz => ∃ i : Nat, i ≤ L.length ∧ it = .int .i64 i ∧ W.grownBy wz none) (fun it _ => L.length - (intOf it).toNat)
        case atStart => exact ⟨0, Nat.zero_le _, rfl, gW⟩
        case round =>
          obtain ⟨i, hi1, rfl, gZ⟩ := hrel
          obtain ⟨⟨ZR, ZG, ZD, Z1, Z2⟩, z8, z9⟩ := FIN.out _ gZ
          clear gW hc8b
          by_cases hlt : i < L.length
          · obtain ⟨hk1, hk2⟩ := HL1.out i hlt
            have p1 : wr.cell? ⟨r1, i, none⟩ = some (.int .i64 (L[i] : Nat)) := Z1.cell i hlt
            have C1 : Hid (Calls Tryd.prog 21 #[.pointer (some ⟨rb, 0, none⟩), .int .i64 (L[i] : Nat)] wr _) := Lib.hid (SI.at_in L[i] ZR hk1 hk2)
            have LATE : Hid (∀ v : World, wr.grownBy v none → v.cell? ⟨X + 1 + 1, 0, none⟩ = some (.slice (some ⟨r1, 0, none⟩) L.length c1) ∧ v.cell? ⟨X + 1 + 1 + 1, 0, none⟩ = some (.slice (some ⟨r2, 0, none⟩) L.length c2) ∧ v.cell? ⟨r2, i, none⟩ = some (.int .i64 (V L[i])) ∧
                (∀ i', i' + 1 = i → ∃ kp : Nat, v.cell? ⟨r1, i', none⟩ = some (.int .i64 (kp : Nat)) ∧ kp < L[i])) := Lib.hid fun v hv => by
              obtain ⟨⟨_, _, _, Y1, Y2⟩, y8, y9⟩ := FIN.out v (gZ.trans hv)
              refine ⟨y8, y9, ?_, fun i' e => ?_⟩
              · rw [World.ownsRow.cellAt Y2 i (by omega)]; simp [vals, SI.pairs, hlt]
              · subst e
                exact ⟨L[i'], Y1.cell i' (by omega), HL2.out i' (by omega) hlt⟩
            clear ZR ZG ZD Z1 Z2 z8 z9
            generalize L[i] = k at *
            generalize V k = vk at *
            go_wp2_with fail
            refine C1.out.mono ?_
            rintro e w4 ⟨rfl, g4⟩
            obtain ⟨y8, y9, y2, yp⟩ := LATE.out w4 g4
            have g5 := gZ.trans g4
            clear LATE C1 p1 g4 gZ
            rcases Nat.eq_zero_or_pos i with h0 | h0
            · subst h0
              clear yp
              go_wp2
              go_roundw
              case rel => exact ⟨1, by omega, by go_num, g5⟩
              case measure => simp [intOf]; omega
            · obtain ⟨i', rfl⟩ : ∃ i', i = i' + 1 := ⟨i - 1, by omega⟩
              obtain ⟨kp, yp1, hkp⟩ := yp i' rfl
              clear yp
              go_wp2
              go_roundw
              case rel => exact ⟨i' + 1 + 1, by omega, by go_num, g5⟩
              case measure => simp [intOf]; omega
          · have ZRR := Lib.hid ZR
            have ZGG := Lib.hid ZG
            have ZDD := Lib.hid ZD
            have hcnt : ((L.length : Int) == (cnt S rm : Nat)) = true := by rw [HL3.out]; simp
            clear ZR ZG ZD Z1 Z2 z9 gZ
            go_upto_region 32 with fail
            go_quiet ((go_at_call 18; exact Calls.quiet_of_same ((SI.count_any (ZRR.out.only (Only.drewN 0 0 _ _) (Or.inr (Nat.zero_le _)) (Or.inr (Nat.zero_le _)) (Or.inr (Nat.zero_le _)) (Or.inr (Nat.zero_le _)))).mono fun _ _ ⟨a, c⟩ => ⟨a, c.symm⟩)))
            go_wp2
            have od := Only.drewN 0 0 wr nq
            have hszd := od.size
            have hKd : (wr.drewN nq).heap[D]? = some (.deferred (some [])) := (od.block D (Array.getElem?_eq_some_iff.1 ZDD.out).1 (Or.inr (Nat.zero_le _))).trans ZDD.out
            refine ⟨by simp, .inl ⟨_, _, rfl, run_takeDeferred hKd, ?_⟩⟩
            have G2 := ZGG.out
            have hB1 : Below w.heap.size w (wr.drewN nq) := ⟨od.os.trans G2.os, od.tape.trans G2.tape, od.output.trans G2.output, Nat.le_trans G2.size hszd, fun j hj => (od.block j (Nat.lt_of_lt_of_le hj G2.size) (Or.inr (Nat.zero_le _))).trans (G2.block j hj (by simp))⟩
            have hB2 := hB1.trans (belowK_b (w := w) (Nat.le_refl _) (wr.drewN nq) D _ (.deferred none) hDw hKd rfl rfl)
            exact ⟨_, results_tmp rfl _ _ _, rfl, ⟨hB2.os, hB2.tape, hB2.output, hB2.size, fun j hj _ => hB2.block j hj⟩⟩
      case stop =>
        rintro D c pre W _ _ h _
        exact h.elim

end Go.Proofs.YtgbodembcnppaaaDoor
