/-
  The walk of CapsPlays, over this seat's translation: for all numbers, steps and questions it answers true, and leaves all that was as it was.
-/
import Derived.Test.YtbkjdbimkofceaaDoorSameC
import Derived.Deep.DeepCutAuto
import Derived.Deep.CutBlock
namespace Go.Proofs.YtbkjdbimkofceaaDoor
open Go.RowKit Go.Lib
set_option maxRecDepth 100000

theorem room15p (x : Int) : ∃ r : Nat, (x ≤ 0 → bits .and .i64 0 15 = (r : Int)) ∧ (0 < x → bits .and .i64 x 15 = (r : Int)) ∧ r ≤ 15 := by
  have e : ∀ y : Int, bits .and .i64 y 15 = y % 16 := fun y => by
    have := i64_mask 4 (by decide) y
    simpa using this
  refine ⟨(max 0 x % 16).toNat, fun h => ?_, fun h => ?_, by omega⟩
  · rw [e]; omega
  · rw [e]; omega
theorem mintH_lt {T : Nat → Pl} {G n : Nat} (q : Int) (hn : n ≤ 15) (hG : G ≤ 16777215) (ok : ∀ j, j < n → (T j).ok G) : mintH T G n q < 18446744073709551616 := by
  unfold mintH
  cases e : firstP (fun q => (T q).full G) n with
  | none => exact (by decide : (0 : Nat) < 18446744073709551616)
  | some p =>
    obtain ⟨hp, _, _⟩ := first_at e
    obtain ⟨a, _, _⟩ := ok p hp
    exact hbits_lt _ _ _ (by omega) (by omega) (by omega)
theorem mintE_or (T : Nat → Pl) (G n : Nat) : mintE T G n = 0 ∨ mintE T G n = 4 := by
  unfold mintE
  cases firstP (fun q => (T q).full G) n with
  | none => exact Or.inr rfl
  | some p => exact Or.inl rfl

/-- The table below, the document's table in the box xb, the row of all handles that were made. -/
structure PlC (w : World) (lo hi tb n G xb r cp mr mc : Nat) (T : Nat → Pl) (M : List Nat) : Prop where
  tab : Tb w lo hi tb n G T
  rows : PlAt5 w r n T
  x0 : w.cell? ⟨xb, 0, none⟩ = some (.slice (some ⟨r, 0, none⟩) n cp)
  x1 : w.cell? ⟨xb, 1, none⟩ = some (.int .i64 (G : Nat))
  f0 : ∀ j, w.frozen? ⟨xb, j, none⟩ = false
  row : w.ownsRow (xb + 1) 23 1 (.slice (some ⟨mr, 0, none⟩) M.length mc) M.length (wcells M)
  bd : ∀ h, h ∈ M → h < 18446744073709551616
  lt : hi ≤ r ∧ r ≠ xb ∧ r ≠ mr ∧ hi ≤ xb ∧ xb < mr ∧ mr < w.heap.size
section
variable {w w' : World} {lo hi tb n G xb r cp mr mc : Nat} {T : Nat → Pl} {M : List Nat}
theorem PlC.kept (H : PlC w lo hi tb n G xb r cp mr mc T M) (k : w.grownBy w' none) : PlC w' lo hi tb n G xb r cp mr mc T M := by
  obtain ⟨a1, a2, a3, a4, a5, a6⟩ := H.lt
  exact ⟨H.tab.grown k, H.rows.kept k, (k.cell_far ⟨xb, 0, none⟩ (show xb < _ by omega) (by simp)).trans H.x0, (k.cell_far ⟨xb, 1, none⟩ (show xb < _ by omega) (by simp)).trans H.x1, fun j => (k.frozen_far ⟨xb, j, none⟩ (show xb < _ by omega) (by simp)).trans (H.f0 j), World.ownsRow.kept H.row k (Or.inr (show (some mr : Option Nat) ≠ none from fun e => by cases e)), H.bd, ⟨a1, a2, a3, a4, a5, Nat.lt_of_lt_of_le a6 k.size⟩⟩
/-- The table has turned, and the document's new one is stored. -/
theorem PlC.step {w1 w2 w3 : World} {T' : Nat → Pl} {r' cp' : Nat} (H : PlC w lo hi tb n G xb r cp mr mc T M) (k1 : Only lo hi w w1) (A : Tb w1 lo hi tb n G T') (k2 : w1.grownBy w2 none) (R : PlAt5 w2 r' n T') (hr : r' = r ∨ w1.heap.size ≤ r') (h3 : w3 = put2 w2 xb (.slice (some ⟨r', 0, none⟩) n cp') G) :
    PlC w3 lo hi tb n G xb r' cp' mr mc T' M := by
  obtain ⟨a1, a2, a3, a4, a5, a6⟩ := H.lt
  have s1 := k1.size
  have s2 := k2.size
  have hr1 : hi ≤ r' ∧ r' ≠ xb ∧ r' ≠ mr := by
    rcases hr with rfl | hr
    · exact ⟨a1, a2, a3⟩
    · have := A.sz
      omega
  have o3 : Only xb (xb + 1) w2 w3 := by
    rw [h3]
    exact (Only.set (lo := xb) (hi := xb + 1) w2 ⟨xb, 0, none⟩ _ (Nat.le_refl _) (Nat.lt_succ_self _)).trans (Only.set (lo := xb) (hi := xb + 1) _ ⟨xb, 1, none⟩ _ (Nat.le_refl _) (Nat.lt_succ_self _))
  have y0 : w2.cell? ⟨xb, 0, none⟩ = some (.slice (some ⟨r, 0, none⟩) n cp) := (k2.cell_far ⟨xb, 0, none⟩ (show xb < _ by omega) (by simp)).trans ((k1.cell ⟨xb, 0, none⟩ (show xb < _ by omega) (Or.inr a4)).trans H.x0)
  have y1 : w2.cell? ⟨xb, 1, none⟩ = some (.int .i64 (G : Nat)) := (k2.cell_far ⟨xb, 1, none⟩ (show xb < _ by omega) (by simp)).trans ((k1.cell ⟨xb, 1, none⟩ (show xb < _ by omega) (Or.inr a4)).trans H.x1)
  have c0 : w3.cell? ⟨xb, 0, none⟩ = some (.slice (some ⟨r', 0, none⟩) n cp') := by rw [h3]; exact (set_far5 _ _ _ _ _ _ (Or.inr (by omega))).trans (World.cell?_setCell_same _ _ _ y0)
  have c1 : w3.cell? ⟨xb, 1, none⟩ = some (.int .i64 (G : Nat)) := by rw [h3]; exact World.cell?_setCell_same _ _ _ ((set_far5 _ _ _ _ _ _ (Or.inr (by omega))).trans y1)
  refine ⟨(A.grown k2).kept o3 (Or.inl a4), R.only o3 (by omega), c0, c1, fun j => ?_, own_only (World.ownsRow.kept (own_only H.row k1 (Or.inr (by omega))) k2 (Or.inr (show (some mr : Option Nat) ≠ none from fun e => by cases e))) o3 (Or.inr (by omega)), H.bd, ⟨hr1.1, hr1.2.1, hr1.2.2, a4, a5, by have := o3.size; omega⟩⟩
  rw [h3]
  exact (World.frozen?_setCell ..).trans ((World.frozen?_setCell ..).trans ((k2.frozen_far ⟨xb, j, none⟩ (show xb < _ by omega) (by simp)).trans ((k1.frozen ⟨xb, j, none⟩ (show xb < _ by omega) (Or.inr a4)).trans (H.f0 j))))
/-- The document's new table is stored, and then the table turns. -/
theorem PlC.stepR {w2 w3 w4 : World} {T' : Nat → Pl} {r' cp' : Nat} (H : PlC w lo hi tb n G xb r cp mr mc T M) (k2 : w.grownBy w2 none) (R : PlAt5 w2 r' n T') (hr : r' = r ∨ w.heap.size ≤ r') (h3 : w3 = put2 w2 xb (.slice (some ⟨r', 0, none⟩) n cp') G) (k4 : Only lo hi w3 w4) (A : Tb w4 lo hi tb n G T') :
    PlC w4 lo hi tb n G xb r' cp' mr mc T' M := by
  obtain ⟨a1, a2, a3, a4, a5, a6⟩ := H.lt
  have s2 := k2.size
  have s4 := k4.size
  have hsz := H.tab.sz
  have hr1 : hi ≤ r' ∧ r' ≠ xb ∧ r' ≠ mr := by
    rcases hr with rfl | hr
    · exact ⟨a1, a2, a3⟩
    · omega
  have o3 : Only xb (xb + 1) w2 w3 := by
    rw [h3]
    exact (Only.set (lo := xb) (hi := xb + 1) w2 ⟨xb, 0, none⟩ _ (Nat.le_refl _) (Nat.lt_succ_self _)).trans (Only.set (lo := xb) (hi := xb + 1) _ ⟨xb, 1, none⟩ _ (Nat.le_refl _) (Nat.lt_succ_self _))
  have s3 := o3.size
  have H2 := H.kept k2
  have c0 : w3.cell? ⟨xb, 0, none⟩ = some (.slice (some ⟨r', 0, none⟩) n cp') := by rw [h3]; exact (set_far5 _ _ _ _ _ _ (Or.inr (by omega))).trans (World.cell?_setCell_same _ _ _ H2.x0)
  have c1 : w3.cell? ⟨xb, 1, none⟩ = some (.int .i64 (G : Nat)) := by rw [h3]; exact World.cell?_setCell_same _ _ _ ((set_far5 _ _ _ _ _ _ (Or.inr (by omega))).trans H2.x1)
  refine ⟨A, (R.only o3 (by omega)).only k4 (Or.inr hr1.1), (k4.cell ⟨xb, 0, none⟩ (show xb < _ by omega) (Or.inr a4)).trans c0, (k4.cell ⟨xb, 1, none⟩ (show xb < _ by omega) (Or.inr a4)).trans c1, fun j => ?_, own_only (own_only H2.row o3 (Or.inr (by omega))) k4 (Or.inr (by omega)), H.bd, ⟨hr1.1, hr1.2.1, hr1.2.2, a4, a5, by omega⟩⟩
  refine (k4.frozen ⟨xb, j, none⟩ (show xb < _ by omega) (Or.inr a4)).trans ?_
  rw [h3]
  exact (World.frozen?_setCell ..).trans ((World.frozen?_setCell ..).trans (H2.f0 j))
theorem PlC.cell (H : PlC w lo hi tb n G xb r cp mr mc T M) (j : Nat) (hj : j < M.length) : w.cell? ⟨mr, j, none⟩ = some (.int .u64 (M[j] : Nat)) := by
  rw [World.ownsRow.cellAt H.row j (by omega)]; simp [wcells, hj]
end

set_option maxRecDepth 100000 in
set_option maxHeartbeats 32000000 in
theorem cplay5_walk (x gens : Int) (sa : Option Addr) (len cap sb off : Nat) (zs : Nat → Nat → Int) (hh : Nat → Nat) (ask : Nat) (kind rights : Int) (w : World) (hT : TabAt w)
    (_hm : len ≤ maxLen) (hsa : 0 < len → sa = some ⟨sb, off, none⟩ ∧ sb < w.heap.size)
    (hz : ∀ j, j < len → (∀ i, i < 5 → w.cell? ⟨sb, off + j * 6 + i, none⟩ = some (.int .i64 (zs j i))) ∧ w.cell? ⟨sb, off + j * 6 + 5, none⟩ = some (.int .u64 (hh j : Nat)) ∧ hh j < 18446744073709551616)
    (hask : ask < 18446744073709551616) (hrt : -9223372036854775808 ≤ rights ∧ rights ≤ 9223372036854775807) :
    Calls Tryd.prog 3 #[.int .i64 x, .int .i64 gens, .slice sa len cap, .int .u64 ask, .int .i64 kind, .int .i64 rights] w fun e w' => e = .returned (.bool true) ∧ w.grownBy w' none := by
  have C0 := Lib.hid (alive5 w hT)
  have HT := Lib.hid hT
  have hpos := tab_pos hT
  have HSA := Lib.hid hsa
  have HZ := Lib.hid hz
  have HRT := Lib.hid hrt
  clear hT hsa hz _hm hrt
  by_cases hl : 40 < len
  · have ql : (40 : Int) < (len : Int) := by omega
    go_enter Tryd.func3, Tryd.ntmps3
    go_wp2_with fail
    refine C0.out.mono ?_
    rintro e w0 ⟨rfl, hG0⟩
    go_wp2
    go_ret
    exact ⟨rfl, hG0⟩
  obtain ⟨n, hn0, hn1, hn15⟩ := room15p x
  have HN0 := Lib.hid hn0
  have HN1 := Lib.hid hn1
  clear hn0 hn1
  have ql : ¬ (40 : Int) < (len : Int) := by omega
  obtain ⟨i0, hi0, hi1, hi2, hi3⟩ := u64_info5
  have I0 := Lib.hid hi0
  have I1 := Lib.hid hi1
  have I2 := Lib.hid hi2
  have I3 := Lib.hid hi3
  clear hi0 hi1 hi2 hi3
  go_enter Tryd.func3, Tryd.ntmps3
  go_wp2_with fail
  refine C0.out.mono ?_
  rintro e w1 ⟨rfl, k1⟩
  have hw1 := k1.size
  clear C0
  go_upto_region 5 with fail
  go_cut [0] (fun v wc => v = .int .i64 (n : Int) ∧ wc = w1)
  case first =>
    go_wp2_with fail
    · go_meet
      case rel => exact ⟨by congr 1; apply HN1.out; omega, rfl⟩
    · go_meet
      case rel => exact ⟨by congr 1; apply HN0.out; omega, rfl⟩
  case rest =>
    obtain ⟨rfl, hwc⟩ := hcut
    have hwc' := hwc.symm
    subst hwc'
    have C1 := Lib.hid (table_made n gens w1 (by omega))
    go_wp2_with fail
    refine C1.out.mono ?_
    rintro e w2 ⟨tb, rfl, k2, H0⟩
    have C2 := Lib.hid (rnew5 n gens w2 hn15)
    have HH0 := Lib.hid H0
    clear C1 H0
    go_wp2_with fail
    refine C2.out.mono ?_
    rintro e w3 ⟨r0, rfl, k3, hr0, R0⟩
    have k4 := World.grownBy_alloc w3 (.cells #[.slice (some ⟨r0, 0, none⟩) n n, .int .i64 (gensOf gens : Nat)] 29) none
    have k5 := World.grownBy_alloc (w3.alloc (.cells #[.slice (some ⟨r0, 0, none⟩) n n, .int .i64 (gensOf gens : Nat)] 29)) (.cells #[] 23) none
    have P0 : PlC ((w3.alloc (.cells #[.slice (some ⟨r0, 0, none⟩) n n, .int .i64 (gensOf gens : Nat)] 29)).alloc (.cells #[] 23)) w1.heap.size w2.heap.size tb n (gensOf gens) w3.heap.size r0 n (w3.heap.size + 1) 0 (fun _ => Pl.fresh) [] := by
      have s3 := k3.size
      have rl := R0.lt
      refine ⟨((HH0.out.grown k3).grown k4).grown k5, (R0.kept k4).kept k5, by rw [at2a]; rfl, by rw [at2a]; rfl, fun j => ?_, ?_, fun h hh => (by cases hh), ⟨hr0, by omega, by omega, s3, by omega, by simp⟩⟩
      · exact (k5.frozen_far ⟨w3.heap.size, j, none⟩ (show w3.heap.size < _ by simp) (by simp)).trans (frozen_new ..)
      · have := World.ownsRow_made (e := 23) (size := 1) (w3.alloc (.cells #[.slice (some ⟨r0, 0, none⟩) n n, .int .i64 (gensOf gens : Nat)] 29)) #[] 0 (Nat.le_refl _) (by decide) rfl
        rw [World.size_alloc] at this
        exact this
    have HP := Lib.hid P0
    have HG := Lib.hid ((((k1.trans k2).trans k3).trans k4).trans k5)
    obtain ⟨lo, hlo'⟩ : ∃ l, l = w1.heap.size := ⟨_, rfl⟩
    obtain ⟨hi, hhi⟩ : ∃ l, l = w2.heap.size := ⟨_, rfl⟩
    obtain ⟨G, hGe⟩ : ∃ g, g = gensOf gens := ⟨_, rfl⟩
    rw [← hlo', ← hhi, ← hGe] at HP
    rw [← hGe] at HG
    have hlo : w.heap.size ≤ lo := by omega
    clear C2 HH0 P0 R0 k1 k2 k3 k4 k5 hr0 HN0 HN1 hwc hlo' hhi
    go_wp2
    rw [← hGe] at *
    generalize (w3.alloc (.cells #[.slice (some ⟨r0, 0, none⟩) n n, .int .i64 (G : Nat)] 29)).alloc (.cells #[] 23) = wx at *
    generalize w3.heap.size = xb at *
    clear hGe
    go_loopw [15, 43] (fun mv it wr => ∃ (j r cp mr mc : Nat) (T : Nat → Pl) (M : List Nat), j ≤ len ∧ it = .int .i64 j ∧ mv = .slice (some ⟨mr, 0, none⟩) M.length mc ∧ M.length ≤ j ∧ Hid (PlC wr lo hi tb n G xb r cp mr mc T M) ∧ w.grownBy wr none) (fun _ it _ => len - (intOf it).toNat)
    case atStart => exact ⟨0, r0, n, xb + 1, 0, _, [], Nat.zero_le _, rfl, rfl, Nat.le_refl _, HP, HG.out⟩
    case round =>
      obtain ⟨j, r, cp, mr, mc, T, M, hj, rfl, rfl, hMj, P0, G0⟩ := hrel
      clear HP HG
      by_cases hlt : j < len
      · obtain ⟨rfl, hsb⟩ := HSA.out (by omega)
        have qlt : (j : Int) < (len : Int) := by omega
        have hzj := HZ.out j hlt
        have hc : ∀ i, i < 5 → wr.cell? ⟨sb, off + j * 6 + i, none⟩ = some (.int .i64 (zs j i)) := fun i hi => (G0.cell_far ⟨sb, off + j * 6 + i, none⟩ hsb (by simp)).trans (hzj.1 i hi)
        have c5 : wr.cell? ⟨sb, off + j * 6 + 5, none⟩ = some (.int .u64 (hh j : Nat)) := (G0.cell_far ⟨sb, off + j * 6 + 5, none⟩ hsb (by simp)).trans hzj.2.1
        have hh0 := hzj.2.2
        have c0 : wr.cell? ⟨sb, off + j * 6, none⟩ = some (.int .i64 (zs j 0)) := hc 0 (by decide)
        have c1 := hc 1 (by decide)
        have c2 := hc 2 (by decide)
        have c3 := hc 3 (by decide)
        have c4 := hc 4 (by decide)
        clear hc hzj
        generalize zs j 0 = kd at *
        generalize zs j 1 = nn at *
        generalize zs j 2 = ck at *
        generalize zs j 3 = ci at *
        generalize zs j 4 = cr at *
        generalize hh j = h0 at *
        have k3 := World.grownBy_alloc wr (.cells #[.int .i64 kd, .int .i64 nn, .int .i64 ck, .int .i64 ci, .int .i64 cr, .int .u64 (h0 : Nat)] 35) none
        have o0 : (wr.alloc (.cells #[.int .i64 kd, .int .i64 nn, .int .i64 ck, .int .i64 ci, .int .i64 cr, .int .u64 (h0 : Nat)] 35)).cell? ⟨wr.heap.size, 0, none⟩ = some (.int .i64 kd) := by simp
        have o1 : (wr.alloc (.cells #[.int .i64 kd, .int .i64 nn, .int .i64 ck, .int .i64 ci, .int .i64 cr, .int .u64 (h0 : Nat)] 35)).cell? ⟨wr.heap.size, 1, none⟩ = some (.int .i64 nn) := by simp
        have o2 : (wr.alloc (.cells #[.int .i64 kd, .int .i64 nn, .int .i64 ck, .int .i64 ci, .int .i64 cr, .int .u64 (h0 : Nat)] 35)).cell? ⟨wr.heap.size, 2, none⟩ = some (.int .i64 ck) := by simp
        have o3 : (wr.alloc (.cells #[.int .i64 kd, .int .i64 nn, .int .i64 ck, .int .i64 ci, .int .i64 cr, .int .u64 (h0 : Nat)] 35)).cell? ⟨wr.heap.size, 2 + 1, none⟩ = some (.int .i64 ci) := by simp
        have o4 : (wr.alloc (.cells #[.int .i64 kd, .int .i64 nn, .int .i64 ck, .int .i64 ci, .int .i64 cr, .int .u64 (h0 : Nat)] 35)).cell? ⟨wr.heap.size, 2 + 2, none⟩ = some (.int .i64 cr) := by simp
        have o5 : (wr.alloc (.cells #[.int .i64 kd, .int .i64 nn, .int .i64 ck, .int .i64 ci, .int .i64 cr, .int .u64 (h0 : Nat)] 35)).cell? ⟨wr.heap.size, 5, none⟩ = some (.int .u64 (h0 : Nat)) := by simp
        have hob : wr.heap.size < (wr.alloc (.cells #[.int .i64 kd, .int .i64 nn, .int .i64 ck, .int .i64 ci, .int .i64 cr, .int .u64 (h0 : Nat)] 35)).heap.size := by simp
        have lt1 := P0.out.lt
        have hlh := P0.out.tab.sz
        have hxw : w.heap.size ≤ xb := by omega
        clear hlh
        have P1 := Lib.hid (P0.out.kept k3)
        have G1 := Lib.hid (grow_to G0 k3)
        clear k3 P0 G0
        go_upto_block 2 with fail
        generalize wr.alloc (.cells #[.int .i64 kd, .int .i64 nn, .int .i64 ck, .int .i64 ci, .int .i64 cr, .int .u64 (h0 : Nat)] 35) = wo at *
        generalize wr.heap.size = ob at *
        have hobm : mr < ob := by omega
        go_cut [15, 18] (fun mv hv wc => ∃ (r cp mr mc : Nat) (T : Nat → Pl) (M : List Nat) (h : Nat), mv = .slice (some ⟨mr, 0, none⟩) M.length mc ∧ hv = .int .u64 (h : Nat) ∧ h < 18446744073709551616 ∧ M.length ≤ j + 1 ∧ Hid (PlC wc lo hi tb n G xb r cp mr mc T M) ∧ w.grownBy wc none ∧ wc.cell? ⟨ob, 2, none⟩ = some (.int .i64 ck) ∧ ob < wc.heap.size)
        case first =>
          by_cases hk0 : kd = 0
          · subst hk0
            obtain ⟨_, hGG, ok⟩ := P1.out.tab.ok
            have CM := Lib.hid (rmint ck ci cr P1.out.tab (HT.out.kept G1.out))
            have HOK := Lib.hid ok
            have hml := mintH_lt cr hn15 hGG.2 ok
            have hme := mintE_or T G n
            have ok2 : ∀ v : World, Tb v lo hi tb n G (mintT T G n ck ci cr) → True := fun _ _ => trivial
            clear ok ok2
            go_wp2_with fail
            refine CM.out.mono ?_
            rintro e w3 ⟨rfl, k3, A3⟩
            have sz3 := k3.size
            have R3 := P1.out.rows.only k3 (Or.inr lt1.1)
            have CR := Lib.hid (rmint5 (cp := cp) (G := G) ck ci cr R3 hn15 HOK.out hGG.2)
            have y0 : w3.cell? ⟨xb, 0, none⟩ = _ := (k3.cell ⟨xb, 0, none⟩ (show xb < _ by omega) (Or.inr lt1.2.2.2.1)).trans P1.out.x0
            have y1 : w3.cell? ⟨xb, 0 + 1, none⟩ = _ := (k3.cell ⟨xb, 1, none⟩ (show xb < _ by omega) (Or.inr lt1.2.2.2.1)).trans P1.out.x1
            have p2 := (k3.cell ⟨ob, 2, none⟩ hob (Or.inr (show hi ≤ ob by omega))).trans o2
            have p3 := (k3.cell ⟨ob, 2 + 1, none⟩ hob (Or.inr (show hi ≤ ob by omega))).trans o3
            have p4 := (k3.cell ⟨ob, 2 + 2, none⟩ hob (Or.inr (show hi ≤ ob by omega))).trans o4
            have HA3 := Lib.hid A3
            clear CM R3 A3
            go_wp2_with fail
            refine CR.out.mono ?_
            rintro e w5 ⟨r', cp', rfl, k5, hr', R5⟩
            have k6 := World.grownBy_alloc w5 (.cells #[.slice (some ⟨r', 0, none⟩) n cp', .int .i64 (G : Nat)] 29) none
            have PS := Lib.hid (P1.out.step (cp' := cp') k3 HA3.out (k5.trans k6) (R5.kept k6) hr' rfl)
            have z0 : (w5.alloc (.cells #[.slice (some ⟨r', 0, none⟩) n cp', .int .i64 (G : Nat)] 29)).cell? ⟨xb, 0, none⟩ = some (.slice (some ⟨r, 0, none⟩) n cp) := (k6.cell_far ⟨xb, 0, none⟩ (show xb < _ by have := k5.size; omega) (by simp)).trans ((k5.cell_far ⟨xb, 0, none⟩ (show xb < _ by omega) (by simp)).trans y0)
            have z1 : (w5.alloc (.cells #[.slice (some ⟨r', 0, none⟩) n cp', .int .i64 (G : Nat)] 29)).cell? ⟨xb, 0 + 1, none⟩ = some (.int .i64 (G : Nat)) := (k6.cell_far ⟨xb, 0 + 1, none⟩ (show xb < _ by have := k5.size; omega) (by simp)).trans ((k5.cell_far ⟨xb, 0 + 1, none⟩ (show xb < _ by omega) (by simp)).trans y1)
            have z2 : ∀ j, (w5.alloc (.cells #[.slice (some ⟨r', 0, none⟩) n cp', .int .i64 (G : Nat)] 29)).frozen? ⟨xb, j, none⟩ = false := fun j => (k6.frozen_far ⟨xb, j, none⟩ (show xb < _ by have := k5.size; omega) (by simp)).trans ((k5.frozen_far ⟨xb, j, none⟩ (show xb < _ by omega) (by simp)).trans ((k3.frozen ⟨xb, j, none⟩ (show xb < _ by omega) (Or.inr lt1.2.2.2.1)).trans (P1.out.f0 j)))
            have z2a := z2 0
            have z3 : ((w5.alloc (.cells #[.slice (some ⟨r', 0, none⟩) n cp', .int .i64 (G : Nat)] 29)).setCell ⟨xb, 0, none⟩ (.slice (some ⟨r', 0, none⟩) n cp')).cell? ⟨xb, 0 + 1, none⟩ = some (.int .i64 (G : Nat)) := (set_far5 _ _ _ _ _ _ (Or.inr (by omega))).trans z1
            have z4 : ((w5.alloc (.cells #[.slice (some ⟨r', 0, none⟩) n cp', .int .i64 (G : Nat)] 29)).setCell ⟨xb, 0, none⟩ (.slice (some ⟨r', 0, none⟩) n cp')).frozen? ⟨xb, 0 + 1, none⟩ = false := (World.frozen?_setCell ..).trans (z2 _)
            have on7 : Only xb (xb + 1) (w5.alloc (.cells #[.slice (some ⟨r', 0, none⟩) n cp', .int .i64 (G : Nat)] 29)) (put2 (w5.alloc (.cells #[.slice (some ⟨r', 0, none⟩) n cp', .int .i64 (G : Nat)] 29)) xb (.slice (some ⟨r', 0, none⟩) n cp') G) := (Only.set (lo := xb) (hi := xb + 1) _ ⟨xb, 0, none⟩ _ (Nat.le_refl _) (Nat.lt_succ_self _)).trans (Only.set (lo := xb) (hi := xb + 1) _ ⟨xb, 1, none⟩ _ (Nat.le_refl _) (Nat.lt_succ_self _))
            have ob6 : ob < (w5.alloc (.cells #[.slice (some ⟨r', 0, none⟩) n cp', .int .i64 (G : Nat)] 29)).heap.size := by have := k5.size; have := k6.size; omega
            have p2z : (put2 (w5.alloc (.cells #[.slice (some ⟨r', 0, none⟩) n cp', .int .i64 (G : Nat)] 29)) xb (.slice (some ⟨r', 0, none⟩) n cp') G).cell? ⟨ob, 2, none⟩ = some (.int .i64 ck) := (on7.cell ⟨ob, 2, none⟩ ob6 (Or.inr (show xb + 1 ≤ ob by omega))).trans ((k6.cell_far ⟨ob, 2, none⟩ (show ob < _ by have := k5.size; omega) (by simp)).trans ((k5.cell_far ⟨ob, 2, none⟩ (show ob < _ by omega) (by simp)).trans p2))
            have ob7 : ob < (put2 (w5.alloc (.cells #[.slice (some ⟨r', 0, none⟩) n cp', .int .i64 (G : Nat)] 29)) xb (.slice (some ⟨r', 0, none⟩) n cp') G).heap.size := Nat.lt_of_lt_of_le ob6 on7.size
            have G7 := Lib.hid (Only.on (grow_to (grow_to (Only.on G1.out k3 hlo) k5) k6) on7 (by omega))
            generalize mintH T G n cr = mh at *
            generalize mintE T G n = me at *
            clear CR y0 y1 p3 p4 k6 k5 R5
            rcases hme with rfl | rfl
            · have P7 := PS.out
              have lt7 := P7.lt
              have row7 := P7.row
              have GH : Hid (put2 (w5.alloc (.cells #[.slice (some ⟨r', 0, none⟩) n cp', .int .i64 (G : Nat)] 29)) xb (.slice (some ⟨r', 0, none⟩) n cp') G = ((w5.alloc (.cells #[.slice (some ⟨r', 0, none⟩) n cp', .int .i64 (G : Nat)] 29)).setCell ⟨xb, 0, none⟩ (.slice (some ⟨r', 0, none⟩) n cp')).setCell ⟨xb, 1, none⟩ (.int .i64 (G : Nat))) := Lib.hid rfl
              rw [GH.out] at row7 p2z ob7 G7 P7 lt7
              have HP7 := Lib.hid P7
              clear PS P7 on7 HA3
              go_upto_region 20 with fail
              clear z0 z1 z2 z2a z3 z4
              generalize ((w5.alloc (.cells #[.slice (some ⟨r', 0, none⟩) n cp', .int .i64 (G : Nat)] 29)).setCell ⟨xb, 0, none⟩ (.slice (some ⟨r', 0, none⟩) n cp')).setCell ⟨xb, 1, none⟩ (.int .i64 (G : Nat)) = w7 at *
              go_wp2_with (
                at_builtin
                refine wpList_append_own_at _ rfl _ _ 31 rfl (xb + 1) 23 i0 (.int .u64 0) 1 8 Tryd.underlying31 I0.out I1.out I2.out I3.out rfl (by decide) _ _ _ rfl (World.ownsRow.alloc row7 _) ⟨w7.heap.size, 0, none⟩ 1 1 [.int .u64 (mh : Int)] rfl rfl (cell_one_new _ _ _) (fun x hx => by simp at hx; subst hx; rfl) (by unfold maxLen; omega) (by omega) (by simp; omega) ?_
                intro v' w9 hown' hgrow3 hnil3 hat0
                have hgr9 : (w7.alloc (.cells #[.int .u64 (mh : Int)] 23)).grownBy w9 (some mr) := hgrow3
                have hat : v'.ownBlock = some mr ∨ v'.ownBlock = some (w7.alloc (.cells #[.int .u64 (mh : Int)] 23)).heap.size := hat0
                have hnn : v' ≠ .slice none 0 0 := fun h => absurd (hnil3.1 h).2 (by decide)
                have k8 := World.grownBy_alloc w7 (.cells #[.int .u64 (mh : Int)] 23) none
                have s8 : (w7.alloc (.cells #[.int .u64 (mh : Int)] 23)).heap.size = w7.heap.size + 1 := by simp
                obtain ⟨mr', mc', rfl, row9⟩ := urow5 hown' (F := M ++ [mh]) (by simp) (by rw [wcells_snoc]) hnn
                have hmr : mr' = mr ∨ mr' = w7.heap.size + 1 := by
                  rcases hat with e | e
                  · exact Or.inl (by injection e)
                  · rw [s8] at e; exact Or.inr (by injection e)
                have on9 : Only mr (mr + 1) (w7.alloc (.cells #[.int .u64 (mh : Int)] 23)) w9 := Only.of_some hgr9 (Nat.le_refl _) (Nat.lt_succ_self _)
                have P8 := HP7.out.kept k8
                have lr9 := World.ownsRow.lt row9 mr' rfl
                have rl8 := P8.rows.lt
                rw [s8] at rl8
                have P9 := Lib.hid (show PlC w9 lo hi tb n G xb r' cp' mr' mc' _ (M ++ [mh]) from ⟨P8.tab.kept on9 (Or.inl (by omega)), P8.rows.only on9 (by omega), (on9.cell ⟨xb, 0, none⟩ (show xb < _ by omega) (Or.inl (show xb < mr by omega))).trans P8.x0, (on9.cell ⟨xb, 1, none⟩ (show xb < _ by omega) (Or.inl (show xb < mr by omega))).trans P8.x1, fun j => (on9.frozen ⟨xb, j, none⟩ (show xb < _ by omega) (Or.inl (show xb < mr by omega))).trans (P8.f0 j), row9, fun h hh => by
                  rcases List.mem_append.1 hh with hh | hh
                  · exact P8.bd h hh
                  · rw [List.mem_singleton.1 hh]; exact hml, ⟨lt7.1, lt7.2.1, by omega, lt7.2.2.2.1, by omega, lr9.2⟩⟩)
                have G9 := Lib.hid (Only.on (grow_to G7.out k8) on9 (by omega))
                have p9 := (on9.cell ⟨ob, 2, none⟩ (show ob < _ by omega) (show ob < mr ∨ mr + 1 ≤ ob by omega)).trans ((k8.cell_far ⟨ob, 2, none⟩ ob7 (by simp)).trans p2z)
                have ob9 : ob < w9.heap.size := by have := hgr9.size; omega
                clear hgrow3 hnil3 hat0 hat hgr9 hown' hnn k8 s8 row9 on9 P8 lr9 rl8 hmr
                )
              go_meet
              case rel => exact ⟨r', cp', mr', mc', _, _, mh, by simp, rfl, hml, by simp; omega, P9, G9.out, p9, ob9⟩
            · have P7 := PS.out
              have GH : Hid (put2 (w5.alloc (.cells #[.slice (some ⟨r', 0, none⟩) n cp', .int .i64 (G : Nat)] 29)) xb (.slice (some ⟨r', 0, none⟩) n cp') G = ((w5.alloc (.cells #[.slice (some ⟨r', 0, none⟩) n cp', .int .i64 (G : Nat)] 29)).setCell ⟨xb, 0, none⟩ (.slice (some ⟨r', 0, none⟩) n cp')).setCell ⟨xb, 1, none⟩ (.int .i64 (G : Nat))) := Lib.hid rfl
              rw [GH.out] at p2z ob7 G7 P7
              have HP7 := Lib.hid P7
              clear PS P7 on7 HA3
              go_wp2
              go_meet
              case rel => exact ⟨r', cp', mr, mc, _, M, mh, rfl, rfl, hml, by omega, HP7, G7.out, p2z, ob7⟩
          by_cases hk1 : kd = 1
          · subst hk1
            by_cases hM : M.length = 0
            · have qM : ¬ (0 : Int) < (M.length : Nat) := by omega
              have qMd : decide ((0 : Int) < (M.length : Nat)) = false := by rw [decide_eq_false_iff_not]; omega
              obtain ⟨hx, hxe⟩ : ∃ x, x = h0 := ⟨_, rfl⟩
              subst hxe
              have hxl := hh0
              obtain ⟨_, hGG, ok⟩ := P1.out.tab.ok
              have HOK := Lib.hid ok
              clear ok
              have CR := Lib.hid (rrev5 (cp := cp) (G := G) hx P1.out.rows hn15 HOK.out hGG.2)
              have y0 := P1.out.x0
              have y1 : wo.cell? ⟨xb, 0 + 1, none⟩ = _ := P1.out.x1
              have p2 := o2
              go_wp2_with fail
              refine CR.out.mono ?_
              rintro e w5 ⟨r', cp', rfl, k5, hr', R5⟩
              have k6 := World.grownBy_alloc w5 (.cells #[.slice (some ⟨r', 0, none⟩) n cp', .int .i64 (G : Nat)] 29) none
              have z0 : (w5.alloc (.cells #[.slice (some ⟨r', 0, none⟩) n cp', .int .i64 (G : Nat)] 29)).cell? ⟨xb, 0, none⟩ = some (.slice (some ⟨r, 0, none⟩) n cp) := (k6.cell_far ⟨xb, 0, none⟩ (show xb < _ by have := k5.size; omega) (by simp)).trans ((k5.cell_far ⟨xb, 0, none⟩ (show xb < _ by omega) (by simp)).trans y0)
              have z1 : (w5.alloc (.cells #[.slice (some ⟨r', 0, none⟩) n cp', .int .i64 (G : Nat)] 29)).cell? ⟨xb, 0 + 1, none⟩ = some (.int .i64 (G : Nat)) := (k6.cell_far ⟨xb, 0 + 1, none⟩ (show xb < _ by have := k5.size; omega) (by simp)).trans ((k5.cell_far ⟨xb, 0 + 1, none⟩ (show xb < _ by omega) (by simp)).trans y1)
              have z2 : ∀ j, (w5.alloc (.cells #[.slice (some ⟨r', 0, none⟩) n cp', .int .i64 (G : Nat)] 29)).frozen? ⟨xb, j, none⟩ = false := fun j => (k6.frozen_far ⟨xb, j, none⟩ (show xb < _ by have := k5.size; omega) (by simp)).trans ((k5.frozen_far ⟨xb, j, none⟩ (show xb < _ by omega) (by simp)).trans (P1.out.f0 j))
              have z2a := z2 0
              have z3 : ((w5.alloc (.cells #[.slice (some ⟨r', 0, none⟩) n cp', .int .i64 (G : Nat)] 29)).setCell ⟨xb, 0, none⟩ (.slice (some ⟨r', 0, none⟩) n cp')).cell? ⟨xb, 0 + 1, none⟩ = some (.int .i64 (G : Nat)) := (set_far5 _ _ _ _ _ _ (Or.inr (by omega))).trans z1
              have z4 : ((w5.alloc (.cells #[.slice (some ⟨r', 0, none⟩) n cp', .int .i64 (G : Nat)] 29)).setCell ⟨xb, 0, none⟩ (.slice (some ⟨r', 0, none⟩) n cp')).frozen? ⟨xb, 0 + 1, none⟩ = false := (World.frozen?_setCell ..).trans (z2 _)
              have on7 : Only xb (xb + 1) (w5.alloc (.cells #[.slice (some ⟨r', 0, none⟩) n cp', .int .i64 (G : Nat)] 29)) (put2 (w5.alloc (.cells #[.slice (some ⟨r', 0, none⟩) n cp', .int .i64 (G : Nat)] 29)) xb (.slice (some ⟨r', 0, none⟩) n cp') G) := (Only.set (lo := xb) (hi := xb + 1) _ ⟨xb, 0, none⟩ _ (Nat.le_refl _) (Nat.lt_succ_self _)).trans (Only.set (lo := xb) (hi := xb + 1) _ ⟨xb, 1, none⟩ _ (Nat.le_refl _) (Nat.lt_succ_self _))
              have ob6 : ob < (w5.alloc (.cells #[.slice (some ⟨r', 0, none⟩) n cp', .int .i64 (G : Nat)] 29)).heap.size := by have := k5.size; have := k6.size; omega
              have p2z : (put2 (w5.alloc (.cells #[.slice (some ⟨r', 0, none⟩) n cp', .int .i64 (G : Nat)] 29)) xb (.slice (some ⟨r', 0, none⟩) n cp') G).cell? ⟨ob, 2, none⟩ = some (.int .i64 ck) := (on7.cell ⟨ob, 2, none⟩ ob6 (Or.inr (show xb + 1 ≤ ob by omega))).trans ((k6.cell_far ⟨ob, 2, none⟩ (show ob < _ by have := k5.size; omega) (by simp)).trans ((k5.cell_far ⟨ob, 2, none⟩ (show ob < _ by omega) (by simp)).trans p2))
              have ob7 : ob < (put2 (w5.alloc (.cells #[.slice (some ⟨r', 0, none⟩) n cp', .int .i64 (G : Nat)] 29)) xb (.slice (some ⟨r', 0, none⟩) n cp') G).heap.size := Nat.lt_of_lt_of_le ob6 on7.size
              have LK := Lib.hid ((P1.out.tab.grown (k5.trans k6)).kept on7 (Or.inl lt1.2.2.2.1))
              have GH : Hid (put2 (w5.alloc (.cells #[.slice (some ⟨r', 0, none⟩) n cp', .int .i64 (G : Nat)] 29)) xb (.slice (some ⟨r', 0, none⟩) n cp') G = ((w5.alloc (.cells #[.slice (some ⟨r', 0, none⟩) n cp', .int .i64 (G : Nat)] 29)).setCell ⟨xb, 0, none⟩ (.slice (some ⟨r', 0, none⟩) n cp')).setCell ⟨xb, 1, none⟩ (.int .i64 (G : Nat))) := Lib.hid rfl
              have CV := Lib.hid (rrev hx LK.out hxl)
              rw [GH.out] at CV p2z ob7
              have HR5 := Lib.hid R5
              have K5 := Lib.hid k5
              have K6 := Lib.hid k6
              have ON7 := Lib.hid on7
              clear CR on7 R5 k5 k6 LK
              go_wp2_with fail
              refine CV.out.mono ?_
              rintro e w8 ⟨rfl, k8, A8⟩
              have P8 := Lib.hid (P1.out.stepR (cp' := cp') (K5.out.trans K6.out) (HR5.out.kept K6.out) hr' rfl (GH.out ▸ k8) A8)
              have G8 := Lib.hid (Only.on (Only.on (grow_to (grow_to G1.out K5.out) K6.out) (GH.out ▸ ON7.out) (by omega)) k8 hlo)
              have p8 := (k8.cell ⟨ob, 2, none⟩ ob7 (Or.inr (show hi ≤ ob by omega))).trans p2z
              have ob8 := Nat.lt_of_lt_of_le ob7 k8.size
              clear CV z0 z1 z2 z2a z3 z4 y0 y1
              go_wp2
              go_meet
              case rel => exact ⟨r', cp', mr, mc, _, M, hx, (by first | rfl | rw [hM]), rfl, hxl, by omega, P8, G8.out, p8, ob8⟩
            · have qM : (0 : Int) < (M.length : Nat) := by omega
              have qMd : decide ((0 : Int) < (M.length : Nat)) = true := by rw [decide_eq_true_iff]; omega
              obtain ⟨q, hqm, hqe⟩ : ∃ q : Nat, q < M.length ∧ (bits .and .i64 nn 255).tmod (M.length : Int) = (q : Int) := by
                have e1 := and255 nn
                refine ⟨(nn % 256).toNat % M.length, Nat.mod_lt _ (by omega), ?_⟩
                obtain ⟨a, ha⟩ : ∃ a : Nat, nn % 256 = (a : Int) := ⟨(nn % 256).toNat, by omega⟩
                rw [e1, Int.tmod_eq_emod_of_nonneg (by omega), ha, Int.toNat_natCast, Int.natCast_emod]
              have cq := P1.out.cell q hqm
              have hxl := P1.out.bd _ (List.getElem_mem hqm)
              generalize M[q] = hx at *
              obtain ⟨_, hGG, ok⟩ := P1.out.tab.ok
              have HOK := Lib.hid ok
              clear ok
              have CR := Lib.hid (rrev5 (cp := cp) (G := G) hx P1.out.rows hn15 HOK.out hGG.2)
              have y0 := P1.out.x0
              have y1 : wo.cell? ⟨xb, 0 + 1, none⟩ = _ := P1.out.x1
              have p2 := o2
              go_wp2_with fail
              refine CR.out.mono ?_
              rintro e w5 ⟨r', cp', rfl, k5, hr', R5⟩
              have k6 := World.grownBy_alloc w5 (.cells #[.slice (some ⟨r', 0, none⟩) n cp', .int .i64 (G : Nat)] 29) none
              have z0 : (w5.alloc (.cells #[.slice (some ⟨r', 0, none⟩) n cp', .int .i64 (G : Nat)] 29)).cell? ⟨xb, 0, none⟩ = some (.slice (some ⟨r, 0, none⟩) n cp) := (k6.cell_far ⟨xb, 0, none⟩ (show xb < _ by have := k5.size; omega) (by simp)).trans ((k5.cell_far ⟨xb, 0, none⟩ (show xb < _ by omega) (by simp)).trans y0)
              have z1 : (w5.alloc (.cells #[.slice (some ⟨r', 0, none⟩) n cp', .int .i64 (G : Nat)] 29)).cell? ⟨xb, 0 + 1, none⟩ = some (.int .i64 (G : Nat)) := (k6.cell_far ⟨xb, 0 + 1, none⟩ (show xb < _ by have := k5.size; omega) (by simp)).trans ((k5.cell_far ⟨xb, 0 + 1, none⟩ (show xb < _ by omega) (by simp)).trans y1)
              have z2 : ∀ j, (w5.alloc (.cells #[.slice (some ⟨r', 0, none⟩) n cp', .int .i64 (G : Nat)] 29)).frozen? ⟨xb, j, none⟩ = false := fun j => (k6.frozen_far ⟨xb, j, none⟩ (show xb < _ by have := k5.size; omega) (by simp)).trans ((k5.frozen_far ⟨xb, j, none⟩ (show xb < _ by omega) (by simp)).trans (P1.out.f0 j))
              have z2a := z2 0
              have z3 : ((w5.alloc (.cells #[.slice (some ⟨r', 0, none⟩) n cp', .int .i64 (G : Nat)] 29)).setCell ⟨xb, 0, none⟩ (.slice (some ⟨r', 0, none⟩) n cp')).cell? ⟨xb, 0 + 1, none⟩ = some (.int .i64 (G : Nat)) := (set_far5 _ _ _ _ _ _ (Or.inr (by omega))).trans z1
              have z4 : ((w5.alloc (.cells #[.slice (some ⟨r', 0, none⟩) n cp', .int .i64 (G : Nat)] 29)).setCell ⟨xb, 0, none⟩ (.slice (some ⟨r', 0, none⟩) n cp')).frozen? ⟨xb, 0 + 1, none⟩ = false := (World.frozen?_setCell ..).trans (z2 _)
              have on7 : Only xb (xb + 1) (w5.alloc (.cells #[.slice (some ⟨r', 0, none⟩) n cp', .int .i64 (G : Nat)] 29)) (put2 (w5.alloc (.cells #[.slice (some ⟨r', 0, none⟩) n cp', .int .i64 (G : Nat)] 29)) xb (.slice (some ⟨r', 0, none⟩) n cp') G) := (Only.set (lo := xb) (hi := xb + 1) _ ⟨xb, 0, none⟩ _ (Nat.le_refl _) (Nat.lt_succ_self _)).trans (Only.set (lo := xb) (hi := xb + 1) _ ⟨xb, 1, none⟩ _ (Nat.le_refl _) (Nat.lt_succ_self _))
              have ob6 : ob < (w5.alloc (.cells #[.slice (some ⟨r', 0, none⟩) n cp', .int .i64 (G : Nat)] 29)).heap.size := by have := k5.size; have := k6.size; omega
              have p2z : (put2 (w5.alloc (.cells #[.slice (some ⟨r', 0, none⟩) n cp', .int .i64 (G : Nat)] 29)) xb (.slice (some ⟨r', 0, none⟩) n cp') G).cell? ⟨ob, 2, none⟩ = some (.int .i64 ck) := (on7.cell ⟨ob, 2, none⟩ ob6 (Or.inr (show xb + 1 ≤ ob by omega))).trans ((k6.cell_far ⟨ob, 2, none⟩ (show ob < _ by have := k5.size; omega) (by simp)).trans ((k5.cell_far ⟨ob, 2, none⟩ (show ob < _ by omega) (by simp)).trans p2))
              have ob7 : ob < (put2 (w5.alloc (.cells #[.slice (some ⟨r', 0, none⟩) n cp', .int .i64 (G : Nat)] 29)) xb (.slice (some ⟨r', 0, none⟩) n cp') G).heap.size := Nat.lt_of_lt_of_le ob6 on7.size
              have LK := Lib.hid ((P1.out.tab.grown (k5.trans k6)).kept on7 (Or.inl lt1.2.2.2.1))
              have GH : Hid (put2 (w5.alloc (.cells #[.slice (some ⟨r', 0, none⟩) n cp', .int .i64 (G : Nat)] 29)) xb (.slice (some ⟨r', 0, none⟩) n cp') G = ((w5.alloc (.cells #[.slice (some ⟨r', 0, none⟩) n cp', .int .i64 (G : Nat)] 29)).setCell ⟨xb, 0, none⟩ (.slice (some ⟨r', 0, none⟩) n cp')).setCell ⟨xb, 1, none⟩ (.int .i64 (G : Nat))) := Lib.hid rfl
              have CV := Lib.hid (rrev hx LK.out hxl)
              rw [GH.out] at CV p2z ob7
              have HR5 := Lib.hid R5
              have K5 := Lib.hid k5
              have K6 := Lib.hid k6
              have ON7 := Lib.hid on7
              clear CR on7 R5 k5 k6 LK
              go_wp2_with fail
              refine CV.out.mono ?_
              rintro e w8 ⟨rfl, k8, A8⟩
              have P8 := Lib.hid (P1.out.stepR (cp' := cp') (K5.out.trans K6.out) (HR5.out.kept K6.out) hr' rfl (GH.out ▸ k8) A8)
              have G8 := Lib.hid (Only.on (Only.on (grow_to (grow_to G1.out K5.out) K6.out) (GH.out ▸ ON7.out) (by omega)) k8 hlo)
              have p8 := (k8.cell ⟨ob, 2, none⟩ ob7 (Or.inr (show hi ≤ ob by omega))).trans p2z
              have ob8 := Nat.lt_of_lt_of_le ob7 k8.size
              clear CV z0 z1 z2 z2a z3 z4 y0 y1
              go_wp2
              go_meet
              case rel => exact ⟨r', cp', mr, mc, _, M, hx, (by first | rfl | rw [hM]), rfl, hxl, by omega, P8, G8.out, p8, ob8⟩
          by_cases hk2 : kd = 2
          · subst hk2
            have h21 : ((2 : Int) == 1) = false := by decide
            obtain ⟨hx, hxe⟩ : ∃ x, x = h0 := ⟨_, rfl⟩
            subst hxe
            have hxl := hh0
            obtain ⟨_, hGG, ok⟩ := P1.out.tab.ok
            have HOK := Lib.hid ok
            clear ok
            have CR := Lib.hid (rrev5 (cp := cp) (G := G) hx P1.out.rows hn15 HOK.out hGG.2)
            have y0 := P1.out.x0
            have y1 : wo.cell? ⟨xb, 0 + 1, none⟩ = _ := P1.out.x1
            have p2 := o2
            go_wp2_with fail
            refine CR.out.mono ?_
            rintro e w5 ⟨r', cp', rfl, k5, hr', R5⟩
            have k6 := World.grownBy_alloc w5 (.cells #[.slice (some ⟨r', 0, none⟩) n cp', .int .i64 (G : Nat)] 29) none
            have z0 : (w5.alloc (.cells #[.slice (some ⟨r', 0, none⟩) n cp', .int .i64 (G : Nat)] 29)).cell? ⟨xb, 0, none⟩ = some (.slice (some ⟨r, 0, none⟩) n cp) := (k6.cell_far ⟨xb, 0, none⟩ (show xb < _ by have := k5.size; omega) (by simp)).trans ((k5.cell_far ⟨xb, 0, none⟩ (show xb < _ by omega) (by simp)).trans y0)
            have z1 : (w5.alloc (.cells #[.slice (some ⟨r', 0, none⟩) n cp', .int .i64 (G : Nat)] 29)).cell? ⟨xb, 0 + 1, none⟩ = some (.int .i64 (G : Nat)) := (k6.cell_far ⟨xb, 0 + 1, none⟩ (show xb < _ by have := k5.size; omega) (by simp)).trans ((k5.cell_far ⟨xb, 0 + 1, none⟩ (show xb < _ by omega) (by simp)).trans y1)
            have z2 : ∀ j, (w5.alloc (.cells #[.slice (some ⟨r', 0, none⟩) n cp', .int .i64 (G : Nat)] 29)).frozen? ⟨xb, j, none⟩ = false := fun j => (k6.frozen_far ⟨xb, j, none⟩ (show xb < _ by have := k5.size; omega) (by simp)).trans ((k5.frozen_far ⟨xb, j, none⟩ (show xb < _ by omega) (by simp)).trans (P1.out.f0 j))
            have z2a := z2 0
            have z3 : ((w5.alloc (.cells #[.slice (some ⟨r', 0, none⟩) n cp', .int .i64 (G : Nat)] 29)).setCell ⟨xb, 0, none⟩ (.slice (some ⟨r', 0, none⟩) n cp')).cell? ⟨xb, 0 + 1, none⟩ = some (.int .i64 (G : Nat)) := (set_far5 _ _ _ _ _ _ (Or.inr (by omega))).trans z1
            have z4 : ((w5.alloc (.cells #[.slice (some ⟨r', 0, none⟩) n cp', .int .i64 (G : Nat)] 29)).setCell ⟨xb, 0, none⟩ (.slice (some ⟨r', 0, none⟩) n cp')).frozen? ⟨xb, 0 + 1, none⟩ = false := (World.frozen?_setCell ..).trans (z2 _)
            have on7 : Only xb (xb + 1) (w5.alloc (.cells #[.slice (some ⟨r', 0, none⟩) n cp', .int .i64 (G : Nat)] 29)) (put2 (w5.alloc (.cells #[.slice (some ⟨r', 0, none⟩) n cp', .int .i64 (G : Nat)] 29)) xb (.slice (some ⟨r', 0, none⟩) n cp') G) := (Only.set (lo := xb) (hi := xb + 1) _ ⟨xb, 0, none⟩ _ (Nat.le_refl _) (Nat.lt_succ_self _)).trans (Only.set (lo := xb) (hi := xb + 1) _ ⟨xb, 1, none⟩ _ (Nat.le_refl _) (Nat.lt_succ_self _))
            have ob6 : ob < (w5.alloc (.cells #[.slice (some ⟨r', 0, none⟩) n cp', .int .i64 (G : Nat)] 29)).heap.size := by have := k5.size; have := k6.size; omega
            have p2z : (put2 (w5.alloc (.cells #[.slice (some ⟨r', 0, none⟩) n cp', .int .i64 (G : Nat)] 29)) xb (.slice (some ⟨r', 0, none⟩) n cp') G).cell? ⟨ob, 2, none⟩ = some (.int .i64 ck) := (on7.cell ⟨ob, 2, none⟩ ob6 (Or.inr (show xb + 1 ≤ ob by omega))).trans ((k6.cell_far ⟨ob, 2, none⟩ (show ob < _ by have := k5.size; omega) (by simp)).trans ((k5.cell_far ⟨ob, 2, none⟩ (show ob < _ by omega) (by simp)).trans p2))
            have ob7 : ob < (put2 (w5.alloc (.cells #[.slice (some ⟨r', 0, none⟩) n cp', .int .i64 (G : Nat)] 29)) xb (.slice (some ⟨r', 0, none⟩) n cp') G).heap.size := Nat.lt_of_lt_of_le ob6 on7.size
            have LK := Lib.hid ((P1.out.tab.grown (k5.trans k6)).kept on7 (Or.inl lt1.2.2.2.1))
            have GH : Hid (put2 (w5.alloc (.cells #[.slice (some ⟨r', 0, none⟩) n cp', .int .i64 (G : Nat)] 29)) xb (.slice (some ⟨r', 0, none⟩) n cp') G = ((w5.alloc (.cells #[.slice (some ⟨r', 0, none⟩) n cp', .int .i64 (G : Nat)] 29)).setCell ⟨xb, 0, none⟩ (.slice (some ⟨r', 0, none⟩) n cp')).setCell ⟨xb, 1, none⟩ (.int .i64 (G : Nat))) := Lib.hid rfl
            have CV := Lib.hid (rrev hx LK.out hxl)
            rw [GH.out] at CV p2z ob7
            have HR5 := Lib.hid R5
            have K5 := Lib.hid k5
            have K6 := Lib.hid k6
            have ON7 := Lib.hid on7
            clear CR on7 R5 k5 k6 LK
            go_wp2_with fail
            refine CV.out.mono ?_
            rintro e w8 ⟨rfl, k8, A8⟩
            have P8 := Lib.hid (P1.out.stepR (cp' := cp') (K5.out.trans K6.out) (HR5.out.kept K6.out) hr' rfl (GH.out ▸ k8) A8)
            have G8 := Lib.hid (Only.on (Only.on (grow_to (grow_to G1.out K5.out) K6.out) (GH.out ▸ ON7.out) (by omega)) k8 hlo)
            have p8 := (k8.cell ⟨ob, 2, none⟩ ob7 (Or.inr (show hi ≤ ob by omega))).trans p2z
            have ob8 := Nat.lt_of_lt_of_le ob7 k8.size
            clear CV z0 z1 z2 z2a z3 z4 y0 y1
            go_wp2
            go_meet
            case rel => exact ⟨r', cp', mr, mc, _, M, hx, (by first | rfl | rw [hM]), rfl, hxl, by omega, P8, G8.out, p8, ob8⟩
          have e0 : (kd == 0) = false := by rw [beq_eq_false_iff_ne]; exact hk0
          have e1 : (kd == 1) = false := by rw [beq_eq_false_iff_ne]; exact hk1
          have e2 : (kd == 2) = false := by rw [beq_eq_false_iff_ne]; exact hk2
          go_wp2
          go_meet
          case rel => exact ⟨r, cp, mr, mc, T, M, h0, rfl, rfl, hh0, by omega, P1, G1.out, o2, hob⟩
        case rest =>
          obtain ⟨r2, cp2, mr2, mc2, T2, M2, h2, hmv, hhv, hh2, hM2, P2, G2, p2, hob2⟩ := hcut
          subst hmv
          subst hhv
          have y0 := P2.out.x0
          have y1 : wc.cell? ⟨xb, 0 + 1, none⟩ = _ := P2.out.x1
          have CS : Hid (∀ (u : World) (a : Nat) (b : Int), wc.grownBy u none → a < 18446744073709551616 → Calls Tryd.prog 13 #[.pointer (some ⟨tb, 0, none⟩), .agg #[.slice (some ⟨r2, 0, none⟩) n cp2, .int .i64 (G : Nat)], .int .u64 (a : Nat), .int .i64 b, .int .i64 rights] u fun e w' => e = .returned (.bool true) ∧ u.grownBy w' none) := Lib.hid fun u a b ku ha => same_caps a b rights (P2.out.kept ku).tab (P2.out.kept ku).rows (HT.out.kept (grow_to G2 ku)) hn15 ha HRT.out
          go_wp2_with fail
          refine (CS.out _ _ _ (SR.grow_refl _) hh2).mono ?_
          rintro e w6 ⟨rfl, k6⟩
          have P6 := P2.out.kept k6
          have z0 := P6.x0
          have z1 : w6.cell? ⟨xb, 0 + 1, none⟩ = _ := P6.x1
          have HP6 := Lib.hid P6
          clear P6 y0 y1
          go_wp2_with fail
          refine (CS.out _ _ _ k6 hask).mono ?_
          rintro e w7 ⟨rfl, k7⟩
          have P7 := Lib.hid (HP6.out.kept k7)
          have G7 := grow_to (grow_to G2 k6) k7
          clear z0 z1
          go_wp2
          go_roundw
          case rel => exact ⟨j + 1, r2, cp2, mr2, mc2, T2, M2, by omega, by go_num, rfl, hM2, P7, G7⟩
          case measure => simp [intOf]; omega
      · have qlt : ¬ (j : Int) < (len : Int) := by omega
        go_wp2
        go_ret
        exact ⟨rfl, G0⟩
end Go.Proofs.YtbkjdbimkofceaaDoor
