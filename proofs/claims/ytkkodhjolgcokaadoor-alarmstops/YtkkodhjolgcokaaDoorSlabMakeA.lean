/-
  Contracts of package slab for rows of timers, over this seat's translation: New.
-/
import Derived.Test.YtkkodhjolgcokaaDoorSlabNew
import Derived.Test.YtkkodhjolgcokaaDoorSlabA
import Derived.Deep.RegionHeld3
import Derived.Deep.RegionLaw
import Derived.WalkSmall
namespace Go.Proofs.YtkkodhjolgcokaaDoor.SA
open Go.RowKit Go.Lib
set_option maxRecDepth 100000

/-- Where a region's places begin. -/
def poff (n : Nat → Nat) (t : Nat) : Nat := if n t = 0 then 0 else pre n t * 4

/-- While the regions are being made: the first i of m stand. -/
structure Pre (w : World) (sb rb pb m i : Nat) (n : Nat → Nat) (b g : Nat → Nat) : Prop where
  c0 : w.cell? ⟨sb, 0, none⟩ = some (.slice (some ⟨rb, 0, none⟩) i m)
  f0 : w.frozen? ⟨sb, 0, none⟩ = false
  reg : ∀ t, t < i → RegMem w rb (2 * t) pb (poff n t) (b t) (g t) (n t) (fun _ => false) (fun _ => Pr.none)
  spare : ∀ j, j < 2 * m → (w.cell? ⟨rb, j, none⟩).isSome = true ∧ w.frozen? ⟨rb, j, none⟩ = false
  pl : ∀ j, j < pre n m → PlaceAt w pb (j * 4) Pr.none ∧ FreeAt w pb (j * 4)
  d : sb ≠ rb ∧ sb ≠ pb ∧ rb ≠ pb
  l : sb < w.heap.size ∧ rb < w.heap.size ∧ pb < w.heap.size
  ord : ∀ t, t < i → sb < g t ∧ rb < g t ∧ pb < g t ∧ g t < b t
  inc : ∀ s t, s < t → t < i → b s < g t

theorem Pre.kept {w w' : World} {sb rb pb m i : Nat} {n b g : Nat → Nat} (H : Pre w sb rb pb m i n b g) (k : w.grownBy w' none) : Pre w' sb rb pb m i n b g :=
  ⟨(k.cell_far ⟨sb, 0, none⟩ H.l.1 (by simp)).trans H.c0, (k.frozen_far ⟨sb, 0, none⟩ H.l.1 (by simp)).trans H.f0, fun t ht => (H.reg t ht).kept k,
    fun j hj => ⟨by rw [k.cell_far ⟨rb, j, none⟩ H.l.2.1 (by simp)]; exact (H.spare j hj).1, (k.frozen_far ⟨rb, j, none⟩ H.l.2.1 (by simp)).trans (H.spare j hj).2⟩,
    fun j hj => ⟨(H.pl j hj).1.of fun _ _ => k.cell_far ⟨pb, _, none⟩ H.l.2.2 (by simp), (H.pl j hj).2.of fun _ _ => k.frozen_far ⟨pb, _, none⟩ H.l.2.2 (by simp)⟩, H.d, ⟨Nat.lt_of_lt_of_le H.l.1 k.size, Nat.lt_of_lt_of_le H.l.2.1 k.size, Nat.lt_of_lt_of_le H.l.2.2 k.size⟩, H.ord, H.inc⟩

theorem reg_info : ∃ i : TypeInfo, Tryd.prog.info? 70 = some i ∧ i.zero = some (.agg #[.slice none 0 0, .pointer none]) ∧ i.size = 2 ∧ i.bytes = 32 := ⟨_, rfl, rfl, rfl, rfl⟩
theorem make_regs (c : Nat) (hc : c ≤ 64) (w : World) :
    (Instr.makeSlice 64 (.int .i64 0) (.int .i64 (c : Int))).run Tryd.prog w =
      .ok (.slice (some ⟨w.heap.size, 0, none⟩) 0 c) (w.alloc (.cells (madeCells #[.slice none 0 0, .pointer none] (c * 2)) 70)) := by
  obtain ⟨i, hi, hz, hs, hb⟩ := reg_info
  have h := run_make (P := Tryd.prog) w 64 70 i _ Tryd.underlying64 hi hz .i64 .i64 0 (c : Int) (by omega) (by omega) (by rw [hb]; omega) (by omega)
  rw [hs, Int.toNat_natCast] at h
  exact h

theorem row_info : ∃ i : TypeInfo, Tryd.prog.info? 33 = some i ∧ i.zero = some (.agg #[.int .i64 0, .int .u64 0, .int .u64 0, .int .u64 0]) ∧ i.size = 4 ∧ i.bytes = 32 := ⟨_, rfl, rfl, rfl, rfl⟩
theorem make_rows (c : Nat) (hc : c ≤ 1000000) (w : World) :
    (Instr.makeSlice 62 (.int .i64 (c : Int)) (.int .i64 (c : Int))).run Tryd.prog w =
      .ok (.slice (some ⟨w.heap.size, 0, none⟩) c c) (w.alloc (.cells (madeCells #[.int .i64 0, .int .u64 0, .int .u64 0, .int .u64 0] (c * 4)) 33)) := by
  obtain ⟨i, hi, hz, hs, hb⟩ := row_info
  have h := run_make (P := Tryd.prog) w 62 33 i _ Tryd.underlying62 hi hz .i64 .i64 (c : Int) (c : Int) (by omega) (by omega) (by rw [hb]; omega) (by omega)
  rw [hs, Int.toNat_natCast] at h
  exact h

/-- A region more stands: its set is made, its struct is laid into the row, the row's length is told. -/
theorem Pre.step {w w1 w2 : World} {sb rb pb m i b0 g0 : Nat} {n b g : Nat → Nat} (H : Pre w sb rb pb m i n b g) (him : i < m) (hn : n i ≤ 256) (k1 : w.grownBy w1 none) (hs : SetAt w1 b0 g0 (n i) (fun _ => false)) (hg0 : w.heap.size ≤ g0) (hgb : g0 < b0)
    (k2 : w1.grownBy w2 none) : Pre ((w2.setCells rb (i * 2) [.slice (some ⟨pb, poff n i, none⟩) (n i) (n i), .pointer (some ⟨b0, 0, none⟩)]).setCell ⟨sb, 0, none⟩ (.slice (some ⟨rb, 0, none⟩) (i + 1) m)) sb rb pb m (i + 1) n (fun t => if t = i then b0 else b t) (fun t => if t = i then g0 else g t) := by
  obtain ⟨d1, d2, d3⟩ := H.d
  obtain ⟨l1, l2, l3⟩ := H.l
  have hz1 := k1.size
  have hz2 := k2.size
  have H2 := (H.kept k1).kept k2
  have hs2 := hs.kept k2 (by simp) (by simp)
  have hb0 : b0 < w2.heap.size := hs2.hb
  have hg1 : g0 < w2.heap.size := hs2.hg
  generalize hx : (Value.slice (some ⟨pb, poff n i, none⟩) (n i) (n i)) = x
  generalize hy : (Value.pointer (some ⟨b0, 0, none⟩)) = y
  generalize hq : (Value.slice (some ⟨rb, 0, none⟩) (i + 1) m) = q
  have sp := H2.spare
  have far : ∀ c j, c ≠ rb → c ≠ sb → ((w2.setCells rb (i * 2) [x, y]).setCell ⟨sb, 0, none⟩ q).cell? ⟨c, j, none⟩ = w2.cell? ⟨c, j, none⟩ := fun c j h1 h2 => by
    rw [World.cell?_setCell_other _ _ _ _ (by intro e; cases e; exact h2 rfl), World.cell?_setCells_out _ _ _ _ _ (fun e _ => absurd e h1)]
  have atr : ∀ j, (j < i * 2 ∨ i * 2 + 2 ≤ j) → ((w2.setCells rb (i * 2) [x, y]).setCell ⟨sb, 0, none⟩ q).cell? ⟨rb, j, none⟩ = w2.cell? ⟨rb, j, none⟩ := fun j hj => by
    rw [World.cell?_setCell_other _ _ _ _ (by intro e; cases e; exact d1 rfl), World.cell?_setCells_out _ _ _ _ _ (fun _ _ => by simpa using hj)]
  have inr : ∀ j (hj : j < 2), ((w2.setCells rb (i * 2) [x, y]).setCell ⟨sb, 0, none⟩ q).cell? ⟨rb, i * 2 + j, none⟩ = some ([x, y][j]'(by simpa using hj)) := fun j hj => by
    rw [World.cell?_setCell_other _ _ _ _ (by intro e; injection e with e1 e2; exact d1 e1)]
    exact World.cell?_setCells_in rb [x, y] (i * 2) w2 (fun t ht => (sp _ (by have : t < 2 := ht
                                                                              omega)).1) j hj
  have fz : ∀ a, ((w2.setCells rb (i * 2) [x, y]).setCell ⟨sb, 0, none⟩ q).frozen? a = w2.frozen? a := fun a => by
    rw [World.frozen?_setCell, World.frozen?_setCells]
  have zz : ((w2.setCells rb (i * 2) [x, y]).setCell ⟨sb, 0, none⟩ q).heap.size = w2.heap.size := by
    rw [size_set]; simp [World.setCells]
  have cs : ((w2.setCells rb (i * 2) [x, y]).setCell ⟨sb, 0, none⟩ q).cell? ⟨sb, 0, none⟩ = some q := by
    refine World.cell?_setCell_same' _ _ _ ?_
    rw [World.cell?_setCells_out _ _ _ _ _ (fun e _ => absurd e d1), H2.c0]; rfl
  generalize (w2.setCells rb (i * 2) [x, y]).setCell ⟨sb, 0, none⟩ q = w3 at *
  have setk : ∀ b' g' n' S, SetAt w2 b' g' n' S → b' ≠ rb → b' ≠ sb → g' ≠ rb → g' ≠ sb → SetAt w3 b' g' n' S := fun b' g' n' S h h1 h2 h3 h4 =>
    ⟨h.size, h.bound, (far _ _ h1 h2).trans h.c0, (far _ _ h1 h2).trans h.c1, fun j hj => (far _ _ h3 h4).trans (h.cw j hj), fun j hj => (fz _).trans (h.cf j hj), h.bg, by rw [zz]; exact h.hb, by rw [zz]; exact h.hg⟩
  refine ⟨by rw [cs, ← hq], (fz _).trans H2.f0, fun t ht => ?_, fun j hj => ⟨?_, (fz _).trans (sp j hj).2⟩, fun j hj => ⟨(H2.pl j hj).1.of fun _ _ => far _ _ (Ne.symm d3) (Ne.symm d2), (H2.pl j hj).2.of fun _ _ => fz _⟩, H.d, by rw [zz]; omega, fun t ht => ?_, fun s t hst ht => ?_⟩
  · by_cases e : t = i
    · subst e
      simp only [if_true]
      have hp : pre n (t + 1) ≤ pre n m := pre_mono n (t + 1) m (by omega)
      rw [pre_succ] at hp
      have ho : ∀ j, j < n t → poff n t + j * 4 = (pre n t + j) * 4 ∧ pre n t + j < pre n m := fun j hj => by
        unfold poff; rw [if_neg (by omega)]; omega
      refine ⟨?_, ?_, fun j hj => by rw [(ho j hj).1]; exact (H2.pl _ (ho j hj).2).1.of fun _ _ => far _ _ (Ne.symm d3) (Ne.symm d2), fun j hj => by rw [(ho j hj).1]; exact (H2.pl _ (ho j hj).2).2.of fun _ _ => fz _, setk _ _ _ _ hs2 (by omega) (by omega) (by omega) (by omega), hn, by omega, by rw [zz]; omega⟩
      · have := inr 0 (by decide)
        rw [show 2 * t = t * 2 + 0 by omega, this, hx]; rfl
      · have := inr 1 (by decide)
        rw [show 2 * t + 1 = t * 2 + 1 by omega, this, hy]; rfl
    · have hti : t < i := by omega
      simp only [if_neg e]
      have R := H2.reg t hti
      obtain ⟨o1, o2, o3, o4⟩ := H.ord t hti
      exact ⟨(atr _ (by omega)).trans R.c0, (atr _ (by omega)).trans R.c1, fun j hj => (R.cv j hj).of fun _ _ => far _ _ (Ne.symm d3) (Ne.symm d2), fun j hj => (R.fv j hj).of fun _ _ => fz _, setk _ _ _ _ R.set (by omega) (by omega) (by omega) (by omega), R.hn, R.d, by rw [zz]; exact R.l⟩
  · by_cases h1 : j < i * 2 ∨ i * 2 + 2 ≤ j
    · rw [atr j h1]; exact (sp j hj).1
    · obtain ⟨c, rfl⟩ : ∃ c, j = i * 2 + c := ⟨j - i * 2, by omega⟩
      rw [inr c (by omega)]; rfl
  · by_cases e : t = i
    · subst e; simp only [if_true]; omega
    · simp only [if_neg e]; exact H.ord t (by omega)
  · by_cases e : t = i
    · subst e
      have hne : s ≠ t := by omega
      simp only [if_true, if_neg hne]
      have := (H2.reg s (by omega)).set.hb
      have h3 := (H.reg s (by omega)).set.hb
      omega
    · have hne : s ≠ i := by omega
      simp only [if_neg e, if_neg hne]
      exact H.inc s t hst (by omega)

theorem pre_start (w : World) (m : Nat) (n : Nat → Nat) (b g : Nat → Nat) :
    Pre (((w.alloc (.cells (madeCells #[.int .i64 0, .int .u64 0, .int .u64 0, .int .u64 0] (pre n m * 4)) 33)).alloc (.cells (madeCells #[.slice none 0 0, .pointer none] (m * 2)) 70)).alloc (.cells #[.slice (some ⟨w.heap.size + 1, 0, none⟩) 0 m] 66))
      (w.heap.size + 1 + 1) (w.heap.size + 1) w.heap.size m 0 n b g := by
  generalize hA : (Obj.cells (madeCells #[.int .i64 0, .int .u64 0, .int .u64 0, .int .u64 0] (pre n m * 4)) 33) = A
  generalize hB : (Obj.cells (madeCells #[.slice none 0 0, .pointer none] (m * 2)) 70) = B
  generalize hC : (Obj.cells #[.slice (some ⟨w.heap.size + 1, 0, none⟩) 0 m] 66) = C
  have e : (((w.alloc A).alloc B).alloc C).heap = ((w.heap.push A).push B).push C := rfl
  have f0 : (((w.alloc A).alloc B).alloc C).heap[w.heap.size]? = some A := by
    rw [e]; simp only [Array.getElem?_push, Array.size_push]; rw [if_neg (by omega), if_neg (by omega), if_pos trivial]
  have f1 : (((w.alloc A).alloc B).alloc C).heap[w.heap.size + 1]? = some B := by
    rw [e]; simp only [Array.getElem?_push, Array.size_push]; rw [if_neg (by omega), if_pos trivial]
  have f2 : (((w.alloc A).alloc B).alloc C).heap[w.heap.size + 1 + 1]? = some C := by
    rw [e]; simp only [Array.getElem?_push, Array.size_push]; rw [if_pos trivial]
  have fs : (((w.alloc A).alloc B).alloc C).heap.size = w.heap.size + 3 := by rw [e]; simp
  generalize ((w.alloc A).alloc B).alloc C = w3 at f0 f1 f2 fs
  subst hA hB hC
  refine ⟨by rw [World.cell?]; simp only [f2]; rfl, by rw [World.frozen?]; simp only [f2]; rfl, fun t ht => absurd ht (by omega), fun j hj => ⟨?_, by rw [World.frozen?]; simp only [f1]; simp⟩, fun j hj => ⟨?_, by refine ⟨?_, ?_, ?_, ?_⟩ <;> (rw [World.frozen?]; simp only [f0]; simp)⟩, by omega, by omega, fun t ht => absurd ht (by omega), fun s t _ ht => absurd ht (by omega)⟩
  · rw [World.cell?]; simp only [f1]
    simp [madeCells, show j < m * 2 by omega]
  · refine ⟨?_, ?_, ?_, ?_⟩
    · rw [World.cell?]; simp only [f0]
      simp [madeCells, show j * 4 < pre n m * 4 by omega, show j * 4 % 4 = 0 by omega, Pr.none]
    · rw [World.cell?]; simp only [f0]
      simp [madeCells, show j * 4 + 1 < pre n m * 4 by omega, show (j * 4 + 1) % 4 = 1 by omega, Pr.none]
    · rw [World.cell?]; simp only [f0]
      simp [madeCells, show j * 4 + 2 < pre n m * 4 by omega, show (j * 4 + 2) % 4 = 2 by omega, Pr.none]
    · rw [World.cell?]; simp only [f0]
      simp [madeCells, show j * 4 + 3 < pre n m * 4 by omega, show (j * 4 + 3) % 4 = 3 by omega, Pr.none]

set_option maxHeartbeats 8000000 in
theorem new_any (sa : Option Addr) (len cap : Nat) (zs : Nat → Int) (w : World) (h : CapsAt w sa len cap zs) :
    Calls Tryd.prog 18 #[.slice sa len cap] w fun e w' => ∃ sb rb pb b g, e = .returned (.pointer (some ⟨sb, 0, none⟩)) ∧ w.grownBy w' none ∧ w.heap.size ≤ sb ∧ w.heap.size ≤ rb ∧ w.heap.size ≤ pb ∧ Pre w' sb rb pb (min len 64) (min len 64) (nOf zs) b g := by
  have c1 := roomsOf_any sa len cap zs w h
  have hm64 : min len 64 ≤ 64 := by omega
  generalize min len 64 = m at *
  have C1 := Lib.hid c1
  clear c1 h
  go_enter Tryd.func18, Tryd.ntmps18
  go_wp2_with fail
  refine C1.out.mono ?_
  rintro e w1 ⟨r, cp, rfl, k1, R1⟩
  have C2 := Lib.hid (sum_any w.heap.size r cp m zs w1 R1 hm64)
  clear C1
  go_wp2_with fail
  refine (C2.out).mono ?_
  rintro e w' ⟨rfl, rfl⟩
  have htot : pre (nOf zs) m ≤ 16384 := by have := pre_le (nOf zs) (fun t => roomN_le (zs t)) m; omega
  have m1 : ∀ W : World, (Instr.makeSlice 62 (.int .i64 (pre (nOf zs) m : Nat)) (.int .i64 (pre (nOf zs) m : Nat))).run Tryd.prog W = _ := fun W => make_rows (pre (nOf zs) m) (by omega) W
  have m2 : ∀ W : World, (Instr.makeSlice 64 (.int .i64 0) (.int .i64 (m : Int))).run Tryd.prog W = _ := fun W => make_regs m hm64 W
  have P0 := pre_start w1 m (nOf zs) (fun _ => 0) (fun _ => 0)
  have k2 := (World.grownBy_alloc w1 (.cells (madeCells #[.int .i64 0, .int .u64 0, .int .u64 0, .int .u64 0] (pre (nOf zs) m * 4)) 33) none).trans ((World.grownBy_alloc _ (.cells (madeCells #[.slice none 0 0, .pointer none] (m * 2)) 70) none).trans (World.grownBy_alloc _ (.cells #[.slice (some ⟨w1.heap.size + 1, 0, none⟩) 0 m] 66) none))
  have hG0 := k1.trans k2
  have RR := R1.kept k2 (by simp)
  have hr := R1.lt
  have hW := k1.size
  go_wp2
  clear m1 m2 C2 k2 R1 k1
  generalize ((w1.alloc (.cells (madeCells #[.int .i64 0, .int .u64 0, .int .u64 0, .int .u64 0] (pre (nOf zs) m * 4)) 33)).alloc (.cells (madeCells #[.slice none 0 0, .pointer none] (m * 2)) 70)).alloc (.cells #[.slice (some ⟨w1.heap.size + 1, 0, none⟩) 0 m] 66) = wz at P0 hG0 RR ⊢
  generalize w1.heap.size = hh at P0 hr hW ⊢
  have hsr : hh + 1 + 1 ≠ hh + 1 ∧ hh + 1 + 1 ≠ hh ∧ hh + 1 ≠ hh ∧ w.heap.size ≤ hh + 1 + 1 ∧ w.heap.size ≤ hh + 1 ∧ hh + 1 < hh + 1 + 1 + 1 ∧ r < hh + 1 := by omega
  generalize hh + 1 + 1 = sb at P0 hsr ⊢
  generalize hh + 1 = rb at P0 hsr ⊢
  have HROOM : Hid (∀ j, nOf zs j ≤ 256) := Lib.hid fun j => roomN_le _
  have HPRE : Hid (∀ j, j < m → pre (nOf zs) (j + 1) = pre (nOf zs) j + nOf zs j ∧ pre (nOf zs) j + nOf zs j ≤ pre (nOf zs) m) := Lib.hid fun j hj => ⟨rfl, pre_mono (nOf zs) (j + 1) m (by omega)⟩
  have HRC : Hid (∀ (wy : World), RowOf wy w.heap.size r cp (rooms zs m) → ∀ j, j < m → wy.cell? ⟨r, j, none⟩ = some (.int .i64 (nOf zs j : Nat))) := Lib.hid fun wy hy j hj => by rw [hy.cell j (by rw [rooms_len]; exact hj), rooms_at zs m j hj]
  go_loopw [6, 22] (fun fv it wr => ∃ (j : Nat) (b g : Nat → Nat), j ≤ m ∧ it = .int .i64 j ∧ fv = .int .i64 (pre (nOf zs) j : Nat) ∧ Pre wr sb rb hh m j (nOf zs) b g ∧ RowOf wr w.heap.size r cp (rooms zs m) ∧ w.grownBy wr none) (fun _ it _ => m - (intOf it).toNat)
  case atStart => exact ⟨0, _, _, Nat.zero_le _, rfl, rfl, P0, RR, hG0⟩
  case round =>
    obtain ⟨j, b, g, hj, rfl, rfl, HP, R, hG⟩ := hrel
    clear P0 RR hG0
    by_cases hlt : j < m
    · have hc := HRC.out wr R j hlt
      have hrm := HROOM.out j
      obtain ⟨hp1, hp2⟩ := HPRE.out j hlt
      have HP1 := Lib.hid hp1
      clear hp1
      have h0 := HP.c0
      have hf0 := HP.f0
      have HPP := Lib.hid HP
      have HRR := Lib.hid R
      have CN : Hid (∀ v : World, Calls Tryd.prog 34 #[.int .i64 (nOf zs j : Nat)] v fun e w' => e = .returned (.pointer (some ⟨v.heap.size + 1, 0, none⟩)) ∧ v.grownBy w' none ∧ SetAt w' (v.heap.size + 1) v.heap.size (nOf zs j) (fun _ => false)) := Lib.hid fun v => by
        have := Go.Proofs.YtkkodhjolgcokaaDoor.new_any (nOf zs j : Nat) v
        rwa [show clampN ((nOf zs j : Nat) : Int) = nOf zs j by unfold clampN; omega] at this
      have SPARE : Hid (∀ w2 : World, wr.drew.grownBy w2 none → ∀ t, t < 2 → (w2.cell? ⟨rb, 0 + j * 2 + t, none⟩).isSome = true ∧ w2.frozen? ⟨rb, 0 + j * 2 + t, none⟩ = false) := Lib.hid fun w2 k t ht => (HPP.out.kept (w' := w2) ⟨k.os, k.tape, k.output, k.size, k.block⟩).spare _ (by omega)
      have SB : Hid (∀ w2 : World, wr.drew.grownBy w2 none → w2.cell? ⟨sb, 0, none⟩ = some (.slice (some ⟨rb, 0, none⟩) j m) ∧ w2.frozen? ⟨sb, 0, none⟩ = false) := Lib.hid fun w2 k => have K := HPP.out.kept (w' := w2) ⟨k.os, k.tape, k.output, k.size, k.block⟩
        ⟨K.c0, K.f0⟩
      clear HP R
      generalize hPj : pre (nOf zs) j = P at *
      generalize hRj : nOf zs j = R at *
      generalize hTj : pre (nOf zs) m = T at *
      have q1 : (0 : Int) ≤ (P : Int) := by omega
      have q2 : (P : Int) ≤ (P : Int) + R := by omega
      have q3 : (P : Int) + R ≤ (T : Int) := by omega
      have q4 : (0 : Int) ≤ (P : Int) + R := by omega
      obtain ⟨j0, hj0, hjz, hjs, hjb⟩ := reg_info
      have J0 := Lib.hid hj0
      have J2 := Lib.hid hjs
      clear hj0 hjz hjs hjb
      have e1 : ((P : Int) + (R : Int)).toNat = P + R := by omega
      have e2 : P + R - P = R := by omega
      have hout : ∀ (W : World) (o : Nat) (vs : List Value), (W.setCells rb o vs).cell? ⟨sb, 0, none⟩ = W.cell? ⟨sb, 0, none⟩ := fun W o vs => World.cell?_setCells_out _ _ _ _ _ (fun e _ => absurd e hsr.1)
      have hfrz : ∀ (W : World) (o : Nat) (vs : List Value), (W.setCells rb o vs).frozen? ⟨sb, 0, none⟩ = W.frozen? ⟨sb, 0, none⟩ := fun W o vs => World.frozen?_setCells _ _ _ _ _
      obtain ⟨O, hO⟩ : ∃ O, O = (if R = 0 then 0 else P * 4) := ⟨_, rfl⟩
      have STEP : Hid (∀ (w2 : World) (o : Obj), wr.drew.grownBy w2 none → SetAt w2 (wr.heap.size + 1) wr.heap.size R (fun _ => false) →
          Pre (((w2.alloc o).setCells rb (j * 2) [.slice (some ⟨hh, O, none⟩) R R, .pointer (some ⟨wr.heap.size + 1, 0, none⟩)]).setCell ⟨sb, 0, none⟩ (.slice (some ⟨rb, 0, none⟩) (j + 1) m)) sb rb hh m (j + 1) (nOf zs) (fun t => if t = j then wr.heap.size + 1 else b t) (fun t => if t = j then wr.heap.size else g t) ∧
          RowOf (((w2.alloc o).setCells rb (j * 2) [.slice (some ⟨hh, O, none⟩) R R, .pointer (some ⟨wr.heap.size + 1, 0, none⟩)]).setCell ⟨sb, 0, none⟩ (.slice (some ⟨rb, 0, none⟩) (j + 1) m)) w.heap.size r cp (rooms zs m) ∧
          w.grownBy (((w2.alloc o).setCells rb (j * 2) [.slice (some ⟨hh, O, none⟩) R R, .pointer (some ⟨wr.heap.size + 1, 0, none⟩)]).setCell ⟨sb, 0, none⟩ (.slice (some ⟨rb, 0, none⟩) (j + 1) m)) none) := Lib.hid fun w2 o k hs => by
        have k1 : wr.grownBy w2 none := ⟨k.os, k.tape, k.output, k.size, k.block⟩
        have hpo : poff (nOf zs) j = O := by unfold poff; rw [hRj, hPj, hO]
        have h3 := HPP.out.step hlt (by rw [hRj]; exact hrm) k1 (by rw [hRj]; exact hs) (Nat.le_refl _) (by omega) (World.grownBy_alloc w2 o none)
        rw [hRj, hpo] at h3
        have ks : Only rb (sb + 1) w2 (((w2.alloc o).setCells rb (j * 2) [.slice (some ⟨hh, O, none⟩) R R, .pointer (some ⟨wr.heap.size + 1, 0, none⟩)]).setCell ⟨sb, 0, none⟩ (.slice (some ⟨rb, 0, none⟩) (j + 1) m)) :=
          (Only.alloc rb (sb + 1) w2 o).trans (((Only.set _ ⟨rb, j * 2, none⟩ _ (Nat.le_refl _) hsr.2.2.2.2.2.1).trans (Only.set _ ⟨rb, j * 2 + 1, none⟩ _ (Nat.le_refl _) hsr.2.2.2.2.2.1)).trans (Only.set _ ⟨sb, 0, none⟩ _ (by have := hsr.2.2.2.2.2.1; show rb ≤ sb; omega) (Nat.lt_succ_self _)))
        exact ⟨h3, (HRR.out.kept k1 (by simp)).only ks (Or.inl (by omega)), Only.on (hG.trans k1) ks hsr.2.2.2.2.1⟩
      by_cases hR0 : R = 0
      focus
        subst hR0
        have qT : (P : Int) ≤ (T : Int) := by omega
        clear e1 e2 q2 q3 q4
        rw [if_pos rfl] at hO
        subst hO
        simp only [Int.natCast_zero] at CN hc
      focus
        skip
      rotate_left
      focus
        rw [if_neg hR0] at hO
        subst hO
      rotate_left
      all_goals
        go_upto_region 18 with fail
        go_region_law (first
          | (refine step_append_room (by rfl) _ _ _ (by rfl) 70 j0 2 Tryd.underlying64 J0.out J2.out rb 0 j m (by rfl) _ 1 1 _ (by rfl) (by rfl) (cell_two_new _ _ _ _) (fun u hu => by simp at hu; rcases hu with rfl | rfl <;> rfl) (by omega) (SPARE.out _ (grow_to ‹wr.drew.grownBy _ none› (World.grownBy_alloc _ _ none))) ?_)
          | (go_simp; go_at_call 34; refine (CN.out _).mono ?_; rintro e w2 ⟨rfl, k2, hs2⟩; have hs0 := (SB.out _ k2).1; have hal := fun o : Obj => (SB.out _ (grow_to k2 (World.grownBy_alloc w2 o none))).1; have haf := fun o : Obj => (SB.out _ (grow_to k2 (World.grownBy_alloc w2 o none))).2))
      all_goals
        clear hout hfrz hal haf hs0 SPARE SB CN
        go_wp2
        exact ⟨⟨j + 1, _, _, by omega, by go_num, by rw [HP1.out]; go_num, (STEP.out w2 _ k2 hs2).1, (STEP.out w2 _ k2 hs2).2.1, (STEP.out w2 _ k2 hs2).2.2⟩, by simp [intOf]; omega⟩
    · have e : j = m := by omega
      subst e
      go_wp2
      go_ret
      exact ⟨_, _, _, b, g, rfl, hG, by omega, by omega, by omega, HP⟩

end Go.Proofs.YtkkodhjolgcokaaDoor.SA
