/-
  The walk of CapsNever, over this seat's translation: for all numbers and steps it answers true, and leaves all that was as it was.
-/
import Derived.Test.YtbkjdbimkofceaaDoorNever0
import Derived.Deep.RegionWith
import Derived.Deep.RegionHeld3
import Derived.Deep.DeepCutAuto
import Derived.Deep.CutBlock
namespace Go.Proofs.YtbkjdbimkofceaaDoor
open Go.RowKit Go.Lib Go.Maps
set_option maxRecDepth 100000

theorem room15 (x : Int) : ∃ r : Nat, (x ≤ 0 → bits .and .i64 0 15 = (r : Int)) ∧ (0 < x → bits .and .i64 x 15 = (r : Int)) ∧ r ≤ 15 := by
  have e : ∀ y : Int, bits .and .i64 y 15 = y % 16 := fun y => by
    have := i64_mask 4 (by decide) y
    simpa using this
  refine ⟨(max 0 x % 16).toNat, fun h => ?_, fun h => ?_, by omega⟩
  · rw [e]; omega
  · rw [e]; omega

set_option maxRecDepth 100000 in
set_option maxHeartbeats 16000000 in
theorem never_walk (x gens : Int) (sa : Option Addr) (len cap sb off : Nat) (zs : Nat → Nat → Int) (hh : Nat → Nat) (other : Nat) (w : World) (hT : TabAt w)
    (_hm : len ≤ maxLen) (hsa : 0 < len → sa = some ⟨sb, off, none⟩ ∧ sb < w.heap.size)
    (hz : ∀ j, j < len → (∀ i, i < 5 → w.cell? ⟨sb, off + j * 6 + i, none⟩ = some (.int .i64 (zs j i))) ∧ w.cell? ⟨sb, off + j * 6 + 5, none⟩ = some (.int .u64 (hh j : Nat)) ∧ hh j < 18446744073709551616)
    (hot : other < 18446744073709551616) :
    Calls Tryd.prog 4 #[.int .i64 x, .int .i64 gens, .slice sa len cap, .int .u64 other] w fun e w' => e = .returned (.bool true) ∧ w.grownBy w' none := by
  have C0 := Lib.hid (alive5 w hT)
  have HT := Lib.hid hT
  have hpos := tab_pos hT
  have HSA := Lib.hid hsa
  have HZ := Lib.hid hz
  clear hT hsa hz _hm
  by_cases hl : 40 < len
  · have ql : (40 : Int) < (len : Int) := by omega
    go_enter Tryd.func4, Tryd.ntmps4
    go_wp2_with fail
    refine C0.out.mono ?_
    rintro e w0 ⟨rfl, hG0⟩
    go_wp2
    go_ret
    exact ⟨rfl, hG0⟩
  obtain ⟨n, hn0, hn1, hn15⟩ := room15 x
  have HN0 := Lib.hid hn0
  have HN1 := Lib.hid hn1
  clear hn0 hn1
  have ql : ¬ (40 : Int) < (len : Int) := by omega
  obtain ⟨i0, hi0, hi1, hi2, hi3⟩ := u64_info
  have I0 := Lib.hid hi0
  have I1 := Lib.hid hi1
  have I2 := Lib.hid hi2
  have I3 := Lib.hid hi3
  clear hi0 hi1 hi2 hi3
  go_enter Tryd.func4, Tryd.ntmps4
  go_wp2_with fail
  refine C0.out.mono ?_
  rintro e w1 ⟨rfl, k1⟩
  have hw1 := k1.size
  clear C0
  go_upto_region 5 with fail
  go_cut [0] (fun v wc => v = .int .i64 (n : Int) ∧ wc = w1)
  case first =>
    go_wp2_with fail
    · go_meet
      case rel => exact ⟨by congr 1; apply HN1.out; omega, rfl⟩
    · go_meet
      case rel => exact ⟨by congr 1; apply HN0.out; omega, rfl⟩
  case rest =>
    obtain ⟨rfl, hwc⟩ := hcut
    have hwc' := hwc.symm
    subst hwc'
    have C1 := Lib.hid (table_made n gens w1 (by omega))
    go_wp2_with fail
    refine C1.out.mono ?_
    rintro e w2 ⟨tb, rfl, k2, H0⟩
    have G0 := grow_to k1 k2
    obtain ⟨G, hG⟩ : ∃ g, g = gensOf gens := ⟨_, rfl⟩
    rw [← hG] at H0
    obtain ⟨lo, hlo⟩ : ∃ l, l = w1.heap.size := ⟨_, rfl⟩
    obtain ⟨hi, hhi⟩ : ∃ l, l = w2.heap.size := ⟨_, rfl⟩
    have hhi' : hi ≤ w2.heap.size := by omega
    rw [← hlo, ← hhi] at H0
    rw [← hlo] at hw1
    clear C1 k1 k2 hG hlo hhi HN0 HN1 hwc
    have hmk : ∀ W : World, (Instr.makeMap 47 none).run Tryd.prog W = .ok (.map (some W.heap.size)) (W.alloc (.map #[] 0)) := fun W => run_makeMap _ W
    have km := World.grownBy_alloc w2 (.map #[] 0) none
    have ks := World.grownBy_alloc (w2.alloc (.map #[] 0)) (.cells #[] 23) none
    have N0 : Nev ((w2.alloc (.map #[] 0)).alloc (.cells #[] 23)) lo hi tb n G w2.heap.size (w2.heap.size + 1) 0 0 (fun _ => 0) (fun _ => Pl.fresh) [] (.map []) :=
      ⟨(H0.grown km).grown ks, nv_new n, (World.ownsMap_made (H := Unit) w2 Tryd.prog 23 (plainElem Tryd.prog 3)).kept ks (by simp), mapIs_nil, by have := ulit_room (w2.alloc (.map #[] 0)) (w2.heap.size + 1) (by simp); simpa using this, Nat.le_refl _, hhi'⟩
    have HN := Lib.hid N0
    have HG := Lib.hid (grow_to (grow_to G0 km) ks)
    clear N0 G0 km ks H0
    go_wp2
    clear hmk
    generalize (w2.alloc (.map #[] 0)).alloc (.cells #[] 23) = wx at *
    generalize w2.heap.size = mb at *
    go_loopw [11, 41] (fun mv it wr => ∃ (j r cp : Nat) (st : Nat → Nat) (T : Nat → Pl) (M : List Nat) (D : DataW Unit), j ≤ len ∧ it = .int .i64 j ∧ mv = .slice (some ⟨r, 0, none⟩) M.length cp ∧ Hid (Nev wr lo hi tb n G mb r cp j st T M D) ∧ w.grownBy wr none) (fun _ it _ => len - (intOf it).toNat)
    case atStart => exact ⟨0, _, _, _, _, _, _, Nat.zero_le _, rfl, rfl, HN, HG.out⟩
    case round =>
      obtain ⟨j, r, cp, st, T, M, D, hj, rfl, rfl, N1, G1⟩ := hrel
      clear HN HG
      by_cases hlt : j < len
      · obtain ⟨rfl, hsb⟩ := HSA.out (by omega)
        have qlt : (j : Int) < (len : Int) := by omega
        have hzj := HZ.out j hlt
        have hc : ∀ i, i < 5 → wr.cell? ⟨sb, off + j * 6 + i, none⟩ = some (.int .i64 (zs j i)) := fun i hi => (G1.cell_far ⟨sb, off + j * 6 + i, none⟩ hsb (by simp)).trans (hzj.1 i hi)
        have c5 : wr.cell? ⟨sb, off + j * 6 + 5, none⟩ = some (.int .u64 (hh j : Nat)) := (G1.cell_far ⟨sb, off + j * 6 + 5, none⟩ hsb (by simp)).trans hzj.2.1
        have hh0 := hzj.2.2
        have c0 : wr.cell? ⟨sb, off + j * 6, none⟩ = some (.int .i64 (zs j 0)) := hc 0 (by decide)
        have c1 := hc 1 (by decide)
        have c2 := hc 2 (by decide)
        have c3 := hc 3 (by decide)
        have c4 := hc 4 (by decide)
        clear hc hzj
        generalize zs j 0 = kd at *
        generalize zs j 1 = nn at *
        generalize zs j 2 = ck at *
        generalize zs j 3 = ci at *
        generalize zs j 4 = cr at *
        generalize hh j = h0 at *
        have k3 := World.grownBy_alloc wr (.cells #[.int .i64 kd, .int .i64 nn, .int .i64 ck, .int .i64 ci, .int .i64 cr, .int .u64 (h0 : Nat)] 35) none
        have o0 : (wr.alloc (.cells #[.int .i64 kd, .int .i64 nn, .int .i64 ck, .int .i64 ci, .int .i64 cr, .int .u64 (h0 : Nat)] 35)).cell? ⟨wr.heap.size, 0, none⟩ = some (.int .i64 kd) := by simp
        have o1 : (wr.alloc (.cells #[.int .i64 kd, .int .i64 nn, .int .i64 ck, .int .i64 ci, .int .i64 cr, .int .u64 (h0 : Nat)] 35)).cell? ⟨wr.heap.size, 1, none⟩ = some (.int .i64 nn) := by simp
        have o2 : (wr.alloc (.cells #[.int .i64 kd, .int .i64 nn, .int .i64 ck, .int .i64 ci, .int .i64 cr, .int .u64 (h0 : Nat)] 35)).cell? ⟨wr.heap.size, 2, none⟩ = some (.int .i64 ck) := by simp
        have o3 : (wr.alloc (.cells #[.int .i64 kd, .int .i64 nn, .int .i64 ck, .int .i64 ci, .int .i64 cr, .int .u64 (h0 : Nat)] 35)).cell? ⟨wr.heap.size, 2 + 1, none⟩ = some (.int .i64 ci) := by simp
        have o4 : (wr.alloc (.cells #[.int .i64 kd, .int .i64 nn, .int .i64 ck, .int .i64 ci, .int .i64 cr, .int .u64 (h0 : Nat)] 35)).cell? ⟨wr.heap.size, 2 + 2, none⟩ = some (.int .i64 cr) := by simp
        have o5 : (wr.alloc (.cells #[.int .i64 kd, .int .i64 nn, .int .i64 ck, .int .i64 ci, .int .i64 cr, .int .u64 (h0 : Nat)] 35)).cell? ⟨wr.heap.size, 5, none⟩ = some (.int .u64 (h0 : Nat)) := by simp
        have hob : wr.heap.size < (wr.alloc (.cells #[.int .i64 kd, .int .i64 nn, .int .i64 ck, .int .i64 ci, .int .i64 cr, .int .u64 (h0 : Nat)] 35)).heap.size := by simp
        have hrl := N1.out.lt
        have N2 := Lib.hid (N1.out.grown k3)
        have HG2 := Lib.hid (grow_to G1 k3)
        clear k3 N1
        go_upto_block 2 with fail
        generalize wr.alloc (.cells #[.int .i64 kd, .int .i64 nn, .int .i64 ck, .int .i64 ci, .int .i64 cr, .int .u64 (h0 : Nat)] 35) = wo at *
        generalize wr.heap.size = ob at *
        go_cut [11] (fun mv wc => ∃ (r cp : Nat) (st : Nat → Nat) (T : Nat → Pl) (M : List Nat) (D : DataW Unit), mv = .slice (some ⟨r, 0, none⟩) M.length cp ∧ Hid (Nev wc lo hi tb n G mb r cp (j + 1) st T M D) ∧ w.grownBy wc none ∧ wc.cell? ⟨ob, 5, none⟩ = some (.int .u64 (h0 : Nat)) ∧ ob < wc.heap.size)
        case first =>
          by_cases hk0 : kd = 0
          · subst hk0
            rcases nmint ck ci cr N2.out.tab (HT.out.kept HG2.out) N2.out.nv with ⟨h, hs0, hhl, CM0⟩ | CM0
            · have CM := Lib.hid CM0
              clear CM0
              go_wp2_with fail
              refine CM.out.mono ?_
              rintro e w3 ⟨T', rfl, k3, H3, nv3⟩
              have mp3 := map_only N2.out.mp k3 (Or.inr (by omega))
              have hrun := map_look mp3 N2.out.is h hhl
              rw [hs0] at hrun
              have row3 := N2.out.row.only k3 (Or.inr (by omega))
              have p5 : w3.cell? ⟨ob, 5, none⟩ = some (.int .u64 (h0 : Nat)) := (k3.cell ⟨ob, 5, none⟩ hob (Or.inr (show hi ≤ ob by omega))).trans o5
              have hob3 := Nat.lt_of_lt_of_le hob k3.size
              have HG3 := Lib.hid (Only.on HG2.out k3 hw1)
              have hkey := keyOf_int_mk Tryd.underlying23 (wf_u64 h hhl)
              have his := Lib.hid (mapIs_put N2.out.is mp3.isMap h 1)
              have hml := N2.out.ml
              have hmm := N2.out.hm
              have H3' := Lib.hid H3
              have nv3' := Lib.hid nv3
              clear CM k3 o0 o1 o2 o3 o4 o5 hob H3 nv3 N2
              unfold URow at row3
              go_wp2_with (first
                | (
                  at_mapUpdate
                  refine wpList_mapUpdate_own _ rfl _ _ _ 47 rfl 23 3 law_u64 Tryd.underlying47 (plainElem Tryd.prog 3) mb j D rfl mp3 (by unfold maxLen; omega) _ _ _ rfl rfl hkey _ [] (plainElem_int Tryd.underlying3 (wf_i64 1 (by omega))) ?_
                  intro w5 mp5 k5
                  have row5 := World.ownsRow.kept row3 k5 (Or.inr (show (some r : Option Nat) ≠ some mb from fun h => by cases h; omega))
                  have H5 := Lib.hid (H3'.out.kept (Only.of_some (lo := mb) (hi := mb + 1) k5 (Nat.le_refl _) (by omega)) (Or.inl hmm))
                  have HG5 := Lib.hid (grow_on HG3.out k5 (by omega))
                  have p5b := (k5.cell_far ⟨ob, 5, none⟩ hob3 (show (some ob : Option Nat) ≠ some mb from fun h => by cases h; omega)).trans p5
                  have hob5 := Nat.lt_of_lt_of_le hob3 k5.size
                  clear hrun mp3 row3 H3' HG3 p5 k5
                  )
                | (
                  at_builtin
                  refine wpList_append_own_at _ rfl _ _ 31 rfl (mb + 1) 23 i0 (.int .u64 0) 1 8 Tryd.underlying31 I0.out I1.out I2.out I3.out rfl (by decide) _ _ _ rfl (World.ownsRow.alloc row5 _) ⟨w5.heap.size, 0, none⟩ 1 1 [.int .u64 (h : Int)] rfl rfl (cell_one_new _ _ _) (fun x hx => by simp at hx; subst hx; rfl) (by unfold maxLen; omega) (by omega) (by simp; omega) ?_
                  intro v' w6 hown' hgrow3 hnil3 hat0
                  have hgr : (w5.alloc (.cells #[.int .u64 (h : Int)] 23)).grownBy w6 (some r) := hgrow3
                  have hnn : v' ≠ .slice none 0 0 := fun h => absurd (hnil3.1 h).2 (by decide)
                  have k4 := World.grownBy_alloc w5 (.cells #[.int .u64 (h : Int)] 23) none
                  have HG6 := Lib.hid (grow_on (grow_to HG5.out k4) hgr (by omega))
                  have H6 := (H5.out.grown k4).kept (Only.of_some (lo := r) (hi := r + 1) hgr (Nat.le_refl _) (by omega)) (Or.inl (by omega))
                  have mp6 := (mp5.kept k4 (by simp)).kept hgr (fun h => by cases h; omega)
                  have p6 := (hgr.cell_far ⟨ob, 5, none⟩ (Nat.lt_of_lt_of_le hob5 k4.size) (show (some ob : Option Nat) ≠ some r from fun h => by cases h; omega)).trans ((k4.cell_far ⟨ob, 5, none⟩ hob5 (by simp)).trans p5b)
                  have hob6 := Nat.lt_of_lt_of_le hob5 (Nat.le_trans k4.size hgr.size)
                  obtain ⟨r', cp', rfl, row6⟩ := urow_of_owns hown' (F := M ++ [h]) (by simp) (by rw [ucells_snoc]) hnn
                  have N6 := Lib.hid (show Nev w6 lo hi tb n G mb r' cp' (j + 1) (upV st h 1) T' (M ++ [h]) _ from ⟨H6, nv3'.out, mp6, his.out, row6, by simp; omega, hmm⟩)
                  clear hgrow3 hnil3 hat0 hgr hown' hnn k4 HG5 row5 H5 mp5 mp6 H6 p5b row6
                  ))
              go_meet
              case rel => exact ⟨r', cp', _, _, _, _, by simp, N6, HG6.out, p6, hob6⟩
            · have CM := Lib.hid CM0
              clear CM0
              go_wp2_with fail
              refine CM.out.mono ?_
              rintro e w3 ⟨rfl, k3⟩
              have N3 := Lib.hid ((N2.out.grown k3).later (Nat.le_succ j))
              have HG3 := Lib.hid (grow_to HG2.out k3)
              have p5 := (k3.cell_far ⟨ob, 5, none⟩ hob (by simp)).trans o5
              have hob3 := Nat.lt_of_lt_of_le hob k3.size
              clear CM k3 o0 o1 o2 o3 o4 o5 hob N2
              go_wp2
              go_meet
              case rel => exact ⟨r, cp, _, _, _, _, rfl, N3, HG3.out, p5, hob3⟩
          · by_cases hk1 : kd = 1
            · subst hk1
              have hml := N2.out.ml
              by_cases hM : M.length = 0
              · have qM : ¬ (0 : Int) < (M.length : Nat) := by omega
                have N3 := Lib.hid (N2.out.later (Nat.le_succ j))
                clear N2
                go_wp2
                go_meet
                case rel => exact ⟨r, cp, _, _, _, _, by rw [hM], N3, HG2.out, o5, hob⟩
              · have qM : (0 : Int) < (M.length : Nat) := by omega
                obtain ⟨q, hq, hqe⟩ : ∃ q : Nat, q < M.length ∧ (bits .and .i64 nn 255).tmod (M.length : Int) = (q : Int) := by
                  have e1 := and255 nn
                  refine ⟨(nn % 256).toNat % M.length, Nat.mod_lt _ (by omega), ?_⟩
                  obtain ⟨a, ha⟩ : ∃ a : Nat, nn % 256 = (a : Int) := ⟨(nn % 256).toNat, by omega⟩
                  rw [e1, Int.tmod_eq_emod_of_nonneg (by omega), ha, Int.toNat_natCast, Int.natCast_emod]
                have cq := N2.out.row.cell q hq
                have hmem : M[q] ∈ M := List.getElem_mem hq
                have hhl := N2.out.nv.lt _ hmem
                generalize M[q] = h at *
                have mp2 := N2.out.mp
                have hmm := N2.out.hm
                have hkey := keyOf_int_mk Tryd.underlying23 (wf_u64 h hhl)
                have his := Lib.hid (mapIs_put N2.out.is mp2.isMap h 2)
                have LK : Hid (∀ v : World, v.ownsMap Tryd.prog 23 (plainElem Tryd.prog 3) mb j D → (Instr.lookup 47 (.map (some mb)) (.int .u64 (h : Int)) false).run Tryd.prog v = .ok (.int .i64 (st h : Nat)) v) := Lib.hid fun v hv => map_look hv N2.out.is h hhl
                have kd : wo.grownBy wo.drew none := ⟨rfl, rfl, rfl, Nat.le_refl _, fun _ _ _ => rfl⟩
                by_cases hs1 : st h = 1
                · have CR := Lib.hid (nrev_yes h (N2.out.grown kd).tab (N2.out.grown kd).nv hs1)
                  rw [hs1] at LK
                  go_upto_region 25 with fail
                  have r0 := LK.out wo.drew mp2.drew
                  go_region_with (go_at_call 12; refine CR.out.mono ?_; rintro e w5 ⟨T', rfl, k5, H5, nv5⟩; have mp5 := map_only mp2.drew k5 (Or.inr (by omega)); have r5 := LK.out w5 mp5; have HG5 := Lib.hid (Only.on (HG2.out.trans kd) k5 hw1); have row5 := Lib.hid ((N2.out.row.kept kd (by simp)).only k5 (Or.inr (by omega))); have p5 := (k5.cell ⟨ob, 5, none⟩ (show ob < wo.drew.heap.size from hob) (Or.inr (show hi ≤ ob by omega))).trans (show wo.drew.cell? ⟨ob, 5, none⟩ = _ from o5); have hob5 : ob < w5.heap.size := Nat.lt_of_lt_of_le hob k5.size)
                  all_goals (
                    go_wp2_with (
                      at_mapUpdate
                      refine wpList_mapUpdate_own _ rfl _ _ _ 47 rfl 23 3 law_u64 Tryd.underlying47 (plainElem Tryd.prog 3) mb j D rfl mp5 (by unfold maxLen; omega) _ _ _ rfl rfl hkey _ [] (plainElem_int Tryd.underlying3 (wf_i64 2 (by omega))) ?_
                      intro w6 mp6 k6
                      have HG6 := Lib.hid (grow_on HG5.out k6 (by omega))
                      have row6 := row5.out.kept k6 (show (some r : Option Nat) ≠ some mb from fun h => by cases h; omega)
                      have H6 := H5.kept (Only.of_some (lo := mb) (hi := mb + 1) k6 (Nat.le_refl _) (by omega)) (Or.inl hmm)
                      have p6 := (k6.cell_far ⟨ob, 5, none⟩ hob5 (show (some ob : Option Nat) ≠ some mb from fun h => by cases h; omega)).trans p5
                      have hob6 := Nat.lt_of_lt_of_le hob5 k6.size
                      have N6 := Lib.hid (show Nev w6 lo hi tb n G mb r cp (j + 1) (upV st h 2) T' M _ from ⟨H6, nv5, mp6, his.out, row6, by omega, hmm⟩)
                      clear k6 mp6 row6 H6
                      )
                    go_meet
                    case rel => exact ⟨r, cp, _, _, _, _, rfl, N6, HG6.out, p6, hob6⟩)
                · have CR := Lib.hid (nrev_no h (N2.out.grown kd).tab (N2.out.grown kd).nv hhl hs1)
                  have qs : (((st h : Nat) : Int) == 1) = false := by rw [beq_eq_false_iff_ne]; omega
                  have nv5 : Nv (upV st h 2) T M n := (nv_idle N2.out.nv hmem hs1).symm ▸ N2.out.nv
                  go_upto_region 25 with fail
                  have r0 := LK.out wo.drew mp2.drew
                  go_region_with (go_at_call 12; refine CR.out.mono ?_; rintro e w5 ⟨rfl, k5⟩; have mp5 := mp2.drew.kept k5 (show some mb ≠ none by simp); have r5 := LK.out w5 mp5; have HG5 := Lib.hid ((HG2.out.trans kd).trans k5); have row5 := Lib.hid ((N2.out.row.kept kd (by simp)).kept k5 (by simp)); have H5 := ((N2.out.grown kd).grown k5).tab; have p5 := (k5.cell_far ⟨ob, 5, none⟩ (show ob < wo.drew.heap.size from hob) (by simp)).trans (show wo.drew.cell? ⟨ob, 5, none⟩ = _ from o5); have hob5 : ob < w5.heap.size := Nat.lt_of_lt_of_le hob k5.size)
                  all_goals (
                    go_wp2_with (
                      at_mapUpdate
                      refine wpList_mapUpdate_own _ rfl _ _ _ 47 rfl 23 3 law_u64 Tryd.underlying47 (plainElem Tryd.prog 3) mb j D rfl mp5 (by unfold maxLen; omega) _ _ _ rfl rfl hkey _ [] (plainElem_int Tryd.underlying3 (wf_i64 2 (by omega))) ?_
                      intro w6 mp6 k6
                      have HG6 := Lib.hid (grow_on HG5.out k6 (by omega))
                      have row6 := row5.out.kept k6 (show (some r : Option Nat) ≠ some mb from fun h => by cases h; omega)
                      have H6 := H5.kept (Only.of_some (lo := mb) (hi := mb + 1) k6 (Nat.le_refl _) (by omega)) (Or.inl hmm)
                      have p6 := (k6.cell_far ⟨ob, 5, none⟩ hob5 (show (some ob : Option Nat) ≠ some mb from fun h => by cases h; omega)).trans p5
                      have hob6 := Nat.lt_of_lt_of_le hob5 k6.size
                      have N6 := Lib.hid (show Nev w6 lo hi tb n G mb r cp (j + 1) (upV st h 2) T M _ from ⟨H6, nv5, mp6, his.out, row6, by omega, hmm⟩)
                      clear k6 mp6 row6 H6
                      )
                    go_meet
                    case rel => exact ⟨r, cp, _, _, _, _, rfl, N6, HG6.out, p6, hob6⟩)
            · have e0 : (kd == 0) = false := by rw [beq_eq_false_iff_ne]; exact hk0
              have e1 : (kd == 1) = false := by rw [beq_eq_false_iff_ne]; exact hk1
              have N3 := Lib.hid (N2.out.later (Nat.le_succ j))
              clear N2
              go_wp2
              go_meet
              case rel => exact ⟨r, cp, _, _, _, _, rfl, N3, HG2.out, o5, hob⟩
        case rest =>
          obtain ⟨r2, cp2, st2, T2, M2, D2, hmv, N3, G3, p5, hob3⟩ := hcut
          subst hmv
          have k6 := World.grownBy_alloc wc (.cells #[.int .u64 (h0 : Nat), .int .u64 (other : Nat)] 23) none
          have N4 := Lib.hid (N3.out.grown k6)
          have HG4 := Lib.hid (grow_to G3 k6)
          have HL : Hid (∀ (v : World) (i : Nat), i < 2 → (wc.alloc (.cells #[.int .u64 (h0 : Nat), .int .u64 (other : Nat)] 23)).grownBy v none → ∃ q : Nat, q < 18446744073709551616 ∧ v.cell? ⟨wc.heap.size, i, none⟩ = some (.int .u64 (q : Nat))) := Lib.hid fun v i hi kv => by
            have e : v.cell? ⟨wc.heap.size, i, none⟩ = _ := (kv.cell_far ⟨wc.heap.size, i, none⟩ (by simp) (by simp)).trans (World.cell?_alloc_new ..)
            match i, hi with
            | 0, _ => exact ⟨_, hh0, e⟩
            | 1, _ => exact ⟨_, hot, e⟩
          clear k6 G3 N3
          go_wp2_with fail
          generalize wc.alloc (.cells #[.int .u64 (h0 : Nat), .int .u64 (other : Nat)] 23) = wl at *
          generalize wc.heap.size = lb at *
          go_loopw [100] (fun it wr => ∃ i : Nat, i ≤ 2 ∧ it = .int .i64 i ∧ wl.grownBy wr none) (fun it _ => 2 - (intOf it).toNat)
          case atStart => exact ⟨0, by omega, rfl, SR.grow_refl _⟩
          case round =>
            obtain ⟨i, hi2, rfl, hG⟩ := hrel
            by_cases hlt2 : i < 2
            · obtain ⟨q, hq, cq⟩ := HL.out wr i hlt2 hG
              have qi : (i : Int) < 2 := by omega
              have N5 := N4.out.grown hG
              have LK : Hid (∀ v : World, wl.grownBy v none → (Instr.lookup 47 (.map (some mb)) (.int .u64 (q : Int)) false).run Tryd.prog v = .ok (.int .i64 (st2 q : Nat)) v) := Lib.hid fun v kv => (N4.out.grown kv).look q hq
              by_cases hs : st2 q = 1
              · obtain ⟨a, b, c, CL0⟩ := nlook_yes q N5.tab N5.nv hs
                have CL := Lib.hid CL0
                clear CL0 N5
                go_wp2_with fail
                refine CL.out.mono ?_
                rintro e w7 ⟨rfl, k7⟩
                have k8 := World.grownBy_alloc w7 (.cells #[.int .i64 a, .int .i64 b, .int .i64 c] 33) none
                have r8 := LK.out _ ((hG.trans k7).trans k8)
                rw [hs] at r8
                go_wp2
                go_roundw
                case rel => exact ⟨i + 1, by omega, by go_num, (hG.trans k7).trans k8⟩
                case measure => simp [intOf]; omega
              · have CL := Lib.hid (nlook_no q N5.tab N5.nv hq hs)
                have qs : (((st2 q : Nat) : Int) == 1) = false := by rw [beq_eq_false_iff_ne]; omega
                clear N5
                go_wp2_with fail
                refine CL.out.mono ?_
                rintro e w7 ⟨rfl, k7⟩
                have k8 := World.grownBy_alloc w7 (.cells #[.int .i64 0, .int .i64 0, .int .i64 0] 33) none
                have r8 := LK.out _ ((hG.trans k7).trans k8)
                go_wp2
                go_roundw
                case rel => exact ⟨i + 1, by omega, by go_num, (hG.trans k7).trans k8⟩
                case measure => simp [intOf]; omega
            · have hi3 : i = 2 := by omega
              subst hi3
              have N5 := Lib.hid (N4.out.grown hG)
              have G5 := grow_to HG4.out hG
              go_wp2
              go_roundw
              case rel => exact ⟨j + 1, r2, cp2, st2, T2, M2, D2, by omega, by go_num, rfl, N5, G5⟩
              case measure => simp [intOf]; omega
      · have qlt : ¬ (j : Int) < (len : Int) := by omega
        have hml := N1.out.ml
        have LK : Hid (∀ (v : World) (q : Nat), q < 18446744073709551616 → wr.grownBy v none → (Instr.lookup 47 (.map (some mb)) (.int .u64 (q : Int)) false).run Tryd.prog v = .ok (.int .i64 (st q : Nat)) v) := Lib.hid fun v q hq kv => (N1.out.grown kv).look q hq
        go_wp2_with fail
        generalize hw0 : wr = w0 at *
        go_loopw [21, 121] (fun cv it wr => ∃ i : Nat, i ≤ M.length ∧ it = .int .i64 i ∧ cv = .int .i64 (((M.take i).filter fun k => decide (st k = 1)).length : Nat) ∧ w0.grownBy wr none) (fun _ it _ => M.length - (intOf it).toNat)
        case atStart => exact ⟨0, Nat.zero_le _, rfl, rfl, SR.grow_refl _⟩
        case round =>
          obtain ⟨i, hi2, rfl, rfl, hG⟩ := hrel
          by_cases hlt2 : i < M.length
          · have qi : (i : Int) < (M.length : Nat) := by omega
            have N5 := N1.out.grown hG
            have cq := N5.row.cell i hlt2
            have hq := N5.nv.lt _ (List.getElem_mem hlt2)
            have htk : M.take (i + 1) = M.take i ++ [M[i]] := by rw [List.take_succ_eq_append_getElem hlt2]
            have hle : ((M.take i).filter fun k => decide (st k = 1)).length ≤ 40 := by
              have h1 := List.length_filter_le (fun k => decide (st k = 1)) (M.take i)
              rw [List.length_take] at h1
              omega
            have HTK := Lib.hid htk
            clear htk
            generalize hcc : ((M.take i).filter fun k => decide (st k = 1)).length = cc at *
            have HCC := Lib.hid hcc
            clear hcc
            generalize hMi : M[i] = q at *
            by_cases hs : st q = 1
            · obtain ⟨a, b, c, CL0⟩ := nlook_yes q N5.tab N5.nv hs
              have CL := Lib.hid CL0
              clear CL0 N5
              go_wp2_with fail
              refine CL.out.mono ?_
              rintro e w7 ⟨rfl, k7⟩
              have k8 := World.grownBy_alloc w7 (.cells #[.int .i64 a, .int .i64 b, .int .i64 c] 33) none
              have r8 := LK.out _ q hq ((hG.trans k7).trans k8)
              rw [hs] at r8
              go_wp2
              go_roundw
              case rel => exact ⟨i + 1, by omega, by go_num, by rw [HTK.out, List.filter_append, List.length_append, HCC.out]; simp [hs], (hG.trans k7).trans k8⟩
              case measure => simp [intOf]; omega
            · have CL := Lib.hid (nlook_no q N5.tab N5.nv hq hs)
              have qs : (((st q : Nat) : Int) == 1) = false := by rw [beq_eq_false_iff_ne]; omega
              clear N5
              go_wp2_with fail
              refine CL.out.mono ?_
              rintro e w7 ⟨rfl, k7⟩
              have k8 := World.grownBy_alloc w7 (.cells #[.int .i64 0, .int .i64 0, .int .i64 0] 33) none
              have r8 := LK.out _ q hq ((hG.trans k7).trans k8)
              go_wp2
              go_roundw
              case rel => exact ⟨i + 1, by omega, by go_num, by rw [HTK.out, List.filter_append, List.length_append, HCC.out]; simp [hs], (hG.trans k7).trans k8⟩
              case measure => simp [intOf]; omega
          · have hi3 : i = M.length := by omega
            subst hi3
            have N5 := N1.out.grown hG
            have hlive : ((M.take M.length).filter fun k => decide (st k = 1)).length = liveN T n := by rw [List.take_length]; exact N5.nv.live
            have hfp := full_parts T G n
            have hcl := cnt_le (fun j => (T j).full G) n
            rw [hlive]
            generalize hL : liveN T n = L at *
            generalize hDd : deadN T G n = Dd at *
            generalize cnt (fun j => (T j).full G) n = Ff at *
            have CC : Hid (∀ v : World, wr.grownBy v none → Calls Tryd.prog 15 #[.pointer (some ⟨tb, 0, none⟩)] v fun e w' => e = .returned (.int .i64 (L : Nat)) ∧ v.grownBy w' none) := Lib.hid fun v kv => by
              have := tcount (N5.grown kv).tab (HT.out.kept (grow_to (grow_to G1 hG) kv))
              rwa [hL] at this
            have CD : Hid (∀ v : World, wr.grownBy v none → Calls Tryd.prog 16 #[.pointer (some ⟨tb, 0, none⟩)] v fun e w' => e = .returned (.int .i64 (Dd : Nat)) ∧ v.grownBy w' none) := Lib.hid fun v kv => by
              have := tdead (N5.grown kv).tab (HT.out.kept (grow_to (grow_to G1 hG) kv))
              rwa [hDd] at this
            clear N5 hlive
            go_wp2_with fail
            refine (CC.out _ (SR.grow_refl _)).mono ?_
            rintro e w7 ⟨rfl, k7⟩
            go_wp2_with fail
            refine (CC.out _ k7).mono ?_
            rintro e w8 ⟨rfl, k8⟩
            go_wp2_with fail
            refine (CD.out _ (k7.trans k8)).mono ?_
            rintro e w9 ⟨rfl, k9⟩
            have hfin : decide (((L : Nat) : Int) + (Dd : Nat) ≤ (n : Int)) = true := by rw [decide_eq_true_iff]; omega
            go_wp2
            go_ret
            exact ⟨rfl, grow_to (grow_to (grow_to (grow_to G1 hG) k7) k8) k9⟩
end Go.Proofs.YtbkjdbimkofceaaDoor
