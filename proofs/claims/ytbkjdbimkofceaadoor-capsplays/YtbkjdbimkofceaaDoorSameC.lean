/-
  A contract of nightjarlaw05's same, over this seat's translation: a table and the document's that hold the same are the same.
-/
import Derived.Test.YtbkjdbimkofceaaDoorCapsOf
import Derived.Test.YtbkjdbimkofceaaDoorRef5h
namespace Go.Proofs.YtbkjdbimkofceaaDoor
open Go.RowKit Go.Lib
set_option maxRecDepth 100000

theorem liveL_len (T : Nat → Pl) : ∀ n, (liveL T n).length = liveN T n
  | 0 => rfl
  | n + 1 => by
    rw [liveL_succ, List.length_append, liveL_len T n]
    unfold liveN
    rw [cnt_at]
    cases (T n).out <;> simp

/-- What Look answers. -/
noncomputable def lookI (T : Nat → Pl) (n h : Nat) : Int × Int × Int × Int := match findP T n h with | some p => ((T p).k, (T p).i, ((T p).r : Nat), 0) | none => (0, 0, 0, 5)

section
variable {w : World} {lo hi tb r n cp G : Nat} {T : Nat → Pl}
theorem rlook (h : Nat) (H : Tb w lo hi tb n G T) (hh : h < 18446744073709551616) :
    Calls Tryd.prog 14 #[.pointer (some ⟨tb, 0, none⟩), .int .u64 (h : Nat)] w fun e w' => e = .returned (.tuple #[.agg #[.int .i64 (lookI T n h).1, .int .i64 (lookI T n h).2.1, .int .i64 (lookI T n h).2.2.1], .int .i64 (lookI T n h).2.2.2]) ∧ w.grownBy w' none := by
  unfold lookI
  cases e : findP T n h with
  | some p =>
    obtain ⟨hp, ho, rfl⟩ := find_at e
    exact tlook_in p H hp ho
  | none => exact tlook_no h H hh (find_no e)
theorem rneed (h : Nat) (kind rights : Int) (H : Tb w lo hi tb n G T) (hh : h < 18446744073709551616) :
    Calls Tryd.prog 23 #[.pointer (some ⟨tb, 0, none⟩), .int .u64 (h : Nat), .int .i64 kind, .int .i64 rights] w fun x w' => x = .returned (needR T n h kind rights) ∧ w.grownBy w' none := by
  unfold needR
  cases e : findP T n h with
  | some p =>
    obtain ⟨hp, ho, rfl⟩ := find_at e
    exact tneed_in p kind rights H hp ho
  | none => exact tneed_no h kind rights H hh (find_no e)
theorem rlive (H : Tb w lo hi tb n G T) (hT : TabAt w) : Calls Tryd.prog 22 #[.pointer (some ⟨tb, 0, none⟩)] w fun e w' => ∃ v, e = .returned v ∧ w.grownBy w' none ∧ Hid (UReads w' v (liveL T n)) := by
  obtain ⟨rb, ro, pb, po, b, g, hb, H, rr, s⟩ := H
  exact (live_any H hT).mono fun e w' ⟨r, cp, he, k, ho⟩ => ⟨_, he, k, Lib.hid (ureads_of ho)⟩

set_option maxRecDepth 100000 in
set_option maxHeartbeats 16000000 in
theorem same_caps (h : Nat) (kind rights : Int) (H : Tb w lo hi tb n G T) (R : PlAt5 w r n T) (hT : TabAt w) (hn : n ≤ 15) (hh : h < 18446744073709551616) (hq : -9223372036854775808 ≤ rights ∧ rights ≤ 9223372036854775807) :
    Calls Tryd.prog 13 #[.pointer (some ⟨tb, 0, none⟩), .agg #[.slice (some ⟨r, 0, none⟩) n cp, .int .i64 (G : Nat)], .int .u64 (h : Nat), .int .i64 kind, .int .i64 rights] w fun e w' => e = .returned (.bool true) ∧ w.grownBy w' none := by
  obtain ⟨_, hGG, ok⟩ := H.ok
  have ka := World.grownBy_alloc w (.cells #[.slice (some ⟨r, 0, none⟩) n cp, .int .i64 (G : Nat)] 29) none
  have kb := World.grownBy_alloc (w.alloc (.cells #[.slice (some ⟨r, 0, none⟩) n cp, .int .i64 (G : Nat)] 29)) (.cells #[.int .i64 0, .int .i64 0, .int .i64 0] 33) none
  obtain ⟨wz, hwz⟩ : ∃ z, z = (w.alloc (.cells #[.slice (some ⟨r, 0, none⟩) n cp, .int .i64 (G : Nat)] 29)).alloc (.cells #[.int .i64 0, .int .i64 0, .int .i64 0] 33) := ⟨_, rfl⟩
  have kab := ka.trans kb
  rw [← hwz] at kab
  have t0 : wz.cell? ⟨w.heap.size, 0, none⟩ = some (.slice (some ⟨r, 0, none⟩) n cp) := by rw [hwz, at2a]; rfl
  have t1 : wz.cell? ⟨w.heap.size, 0 + 1, none⟩ = some (.int .i64 (G : Nat)) := by rw [hwz, at2a]; rfl
  have q0 : wz.cell? ⟨w.heap.size + 1, 0, none⟩ = some (.int .i64 0) := by rw [hwz, at2b]; rfl
  have q1 : wz.cell? ⟨w.heap.size + 1, 0 + 1, none⟩ = some (.int .i64 0) := by rw [hwz, at2b]; rfl
  have q2 : wz.cell? ⟨w.heap.size + 1, 0 + 2, none⟩ = some (.int .i64 0) := by rw [hwz, at2b]; rfl
  have f0 : ∀ j, wz.frozen? ⟨w.heap.size + 1, j, none⟩ = false := fun j => by rw [hwz]; exact fr2b ..
  have hsz : w.heap.size + 2 ≤ wz.heap.size := by rw [hwz]; simp
  have HH := Lib.hid (H.grown kab)
  have HR := Lib.hid (R.kept kab)
  have HTT := Lib.hid (hT.kept kab)
  have KAB := Lib.hid kab
  have HOK := Lib.hid ok
  have hrl := R.lt
  have hpos := tab_pos hT
  have hsl := H.sz
  clear ka kb kab H R hT ok
  have CF := Lib.hid (rfind5 (cp := cp) h HR.out hn HOK.out hGG.2)
  go_enter Tryd.func13, Tryd.ntmps13
  go_upto_region 2 with fail
  rw [← hwz]
  clear hwz
  go_upto_region 3 with fail
  refine CF.out.mono ?_
  rintro e w2 ⟨rfl, k2⟩
  have s0 := (k2.cell_far ⟨w.heap.size, 0, none⟩ (show w.heap.size < _ by omega) (by simp)).trans t0
  have s1 := (k2.cell_far ⟨w.heap.size, 0 + 1, none⟩ (show w.heap.size < _ by omega) (by simp)).trans t1
  have v0 := (k2.cell_far ⟨w.heap.size + 1, 0, none⟩ (show w.heap.size + 1 < _ by omega) (by simp)).trans q0
  have v1 := (k2.cell_far ⟨w.heap.size + 1, 0 + 1, none⟩ (show w.heap.size + 1 < _ by omega) (by simp)).trans q1
  have v2 := (k2.cell_far ⟨w.heap.size + 1, 0 + 2, none⟩ (show w.heap.size + 1 < _ by omega) (by simp)).trans q2
  have e0 : ∀ j, w2.frozen? ⟨w.heap.size + 1, j, none⟩ = false := fun j => (k2.frozen_far ⟨w.heap.size + 1, j, none⟩ (show w.heap.size + 1 < _ by omega) (by simp)).trans (f0 j)
  have sz2 : w.heap.size + 2 ≤ w2.heap.size := Nat.le_trans hsz k2.size
  have HH2 := Lib.hid (HH.out.grown k2)
  have HR2 := Lib.hid (HR.out.kept k2)
  have HT2 := Lib.hid (HTT.out.kept k2)
  have K2 := Lib.hid (KAB.out.trans k2)
  clear CF t0 t1 q0 q1 q2 f0 k2 HH HR HTT KAB hsz
  go_upto_if 24 with fail
  obtain ⟨fI, hfI⟩ : ∃ f, f = findI T n h := ⟨_, rfl⟩
  obtain ⟨l1, hl1⟩ : ∃ f, f = (lookI T n h).1 := ⟨_, rfl⟩
  obtain ⟨l2, hl2⟩ : ∃ f, f = (lookI T n h).2.1 := ⟨_, rfl⟩
  obtain ⟨l3, hl3⟩ : ∃ f, f = (lookI T n h).2.2.1 := ⟨_, rfl⟩
  obtain ⟨l4, hl4⟩ : ∃ f, f = (lookI T n h).2.2.2 := ⟨_, rfl⟩
  rw [← hfI]
  have HF : Hid ((fI = -1 ∧ l1 = 0 ∧ l2 = 0 ∧ l3 = 0 ∧ l4 = 5) ∨ ∃ p : Nat, fI = p ∧ p < n ∧ l1 = (T p).k ∧ l2 = (T p).i ∧ l3 = ((T p).r : Nat) ∧ l4 = 0) := Lib.hid (by
    rw [hfI, hl1, hl2, hl3, hl4]
    unfold findI lookI
    cases e : findP T n h with
    | none => exact Or.inl ⟨rfl, rfl, rfl, rfl, rfl⟩
    | some p => exact Or.inr ⟨p, rfl, (find_at e).1, rfl, rfl, rfl, rfl⟩)
  have CLK : Hid (∀ v : World, w2.grownBy v none → True) := Lib.hid fun _ _ => trivial
  have HL : Hid (lookI T n h = (l1, l2, l3, l4)) := Lib.hid (by rw [hl1, hl2, hl3, hl4])
  clear hfI hl1 hl2 hl3 hl4 CLK
  go_cut [] (fun wc => wc.cell? ⟨w.heap.size, 0, none⟩ = some (.slice (some ⟨r, 0, none⟩) n cp) ∧ wc.cell? ⟨w.heap.size, 0 + 1, none⟩ = some (.int .i64 (G : Nat)) ∧ wc.cell? ⟨w.heap.size + 1, 0, none⟩ = some (.int .i64 l1) ∧ wc.cell? ⟨w.heap.size + 1, 0 + 1, none⟩ = some (.int .i64 l2) ∧ wc.cell? ⟨w.heap.size + 1, 0 + 2, none⟩ = some (.int .i64 l3) ∧ w.heap.size + 2 ≤ wc.heap.size ∧ Hid (Tb wc lo hi tb n G T) ∧ Hid (PlAt5 wc r n T) ∧ Hid (TabAt wc) ∧ w.grownBy wc none)
  case first =>
    rcases HF.out with ⟨h1, h2, h3, h4, h5⟩ | ⟨p, h1, hp, h2, h3, h4, h5⟩
    · subst h1
      go_wp2
      go_meet
      case rel =>
        rw [h2, h3, h4]
        exact ⟨s0, s1, v0, v1, v2, sz2, HH2, HR2, HT2, K2.out⟩
    · subst h1
      have qp : (p : Int) < (n : Int) := by omega
      have qp0 : (0 : Int) ≤ (p : Int) := by omega
      obtain ⟨_, _, c2, c3', c4'⟩ := HR2.out.pl p hp
      have c3 : w2.cell? ⟨r, p * 5 + 2 + 1, none⟩ = some (.int .i64 (T p).i) := c3'
      have c4 : w2.cell? ⟨r, p * 5 + 2 + 2, none⟩ = some (.int .i64 ((T p).r : Nat)) := c4'
      rw [← h2] at c2
      rw [← h3] at c3
      rw [← h4] at c4
      have e0a := e0 0
      have g1 : (w2.setCell ⟨w.heap.size + 1, 0, none⟩ (.int .i64 l1)).cell? ⟨w.heap.size + 1, 0 + 1, none⟩ = some (.int .i64 0) := (set_far5 _ _ _ _ _ _ (Or.inr (by omega))).trans v1
      have g1f : (w2.setCell ⟨w.heap.size + 1, 0, none⟩ (.int .i64 l1)).frozen? ⟨w.heap.size + 1, 0 + 1, none⟩ = false := (World.frozen?_setCell ..).trans (e0 _)
      have g2 : ((w2.setCell ⟨w.heap.size + 1, 0, none⟩ (.int .i64 l1)).setCell ⟨w.heap.size + 1, 0 + 1, none⟩ (.int .i64 l2)).cell? ⟨w.heap.size + 1, 0 + 2, none⟩ = some (.int .i64 0) := (set_far5 _ _ _ _ _ _ (Or.inr (by omega))).trans ((set_far5 _ _ _ _ _ _ (Or.inr (by omega))).trans v2)
      have g2f : ((w2.setCell ⟨w.heap.size + 1, 0, none⟩ (.int .i64 l1)).setCell ⟨w.heap.size + 1, 0 + 1, none⟩ (.int .i64 l2)).frozen? ⟨w.heap.size + 1, 0 + 2, none⟩ = false := (World.frozen?_setCell ..).trans ((World.frozen?_setCell ..).trans (e0 _))
      have HV0 := Lib.hid v0
      clear h2 h3 h4 h5 c3' c4'
      go_wp2
      go_meet
      case rel =>
        have on : Only (w.heap.size + 1) (w.heap.size + 2) w2 (((w2.setCell ⟨w.heap.size + 1, 0, none⟩ (.int .i64 l1)).setCell ⟨w.heap.size + 1, 0 + 1, none⟩ (.int .i64 l2)).setCell ⟨w.heap.size + 1, 0 + 2, none⟩ (.int .i64 l3)) := ((Only.set (lo := w.heap.size + 1) (hi := w.heap.size + 2) _ ⟨w.heap.size + 1, 0, none⟩ _ (Nat.le_refl _) (Nat.lt_succ_self _)).trans (Only.set (lo := w.heap.size + 1) (hi := w.heap.size + 2) _ ⟨w.heap.size + 1, 0 + 1, none⟩ _ (Nat.le_refl _) (Nat.lt_succ_self _))).trans (Only.set (lo := w.heap.size + 1) (hi := w.heap.size + 2) _ ⟨w.heap.size + 1, 0 + 2, none⟩ _ (Nat.le_refl _) (Nat.lt_succ_self _))
        refine ⟨(on.cell ⟨w.heap.size, 0, none⟩ (show w.heap.size < _ by omega) (Or.inl (Nat.lt_succ_self _))).trans s0, (on.cell ⟨w.heap.size, 0 + 1, none⟩ (show w.heap.size < _ by omega) (Or.inl (Nat.lt_succ_self _))).trans s1, ?_, ?_, ?_, Nat.le_trans sz2 on.size, Lib.hid (HH2.out.kept on (Or.inl (by omega))), Lib.hid (HR2.out.only on (Or.inl (by omega))), Lib.hid (tab_only HT2.out on (by omega)), Only.on K2.out on (by omega)⟩
        · exact (set_far5 _ _ _ _ _ _ (Or.inr (by omega))).trans ((set_far5 _ _ _ _ _ _ (Or.inr (by omega))).trans (World.cell?_setCell_same _ _ _ HV0.out))
        · exact (set_far5 _ _ _ _ _ _ (Or.inr (by omega))).trans (World.cell?_setCell_same _ _ _ g1)
        · exact World.cell?_setCell_same _ _ _ g2
  case rest =>
    obtain ⟨s0, s1, v0, v1, v2, sz3, HH3, HR3, HT3, K3⟩ := hcut
    have CL := Lib.hid (rlook h HH3.out hh)
    rw [HL.out] at CL
    clear HH2 HR2 HT2 K2 sz2 e0
    go_wp2_with fail
    refine CL.out.mono ?_
    rintro e w4 ⟨rfl, k4⟩
    have k5 := World.grownBy_alloc w4 (.cells #[.int .i64 l1, .int .i64 l2, .int .i64 l3] 33) none
    have k6 := k4.trans k5
    have a0 : (w4.alloc (.cells #[.int .i64 l1, .int .i64 l2, .int .i64 l3] 33)).cell? ⟨w4.heap.size, 0, none⟩ = some (.int .i64 l1) := by simp
    have a1 : (w4.alloc (.cells #[.int .i64 l1, .int .i64 l2, .int .i64 l3] 33)).cell? ⟨w4.heap.size, 0 + 1, none⟩ = some (.int .i64 l2) := by simp
    have a2 : (w4.alloc (.cells #[.int .i64 l1, .int .i64 l2, .int .i64 l3] 33)).cell? ⟨w4.heap.size, 0 + 2, none⟩ = some (.int .i64 l3) := by simp
    have b0 := (k6.cell_far ⟨w.heap.size + 1, 0, none⟩ (show w.heap.size + 1 < _ by omega) (by simp)).trans v0
    have b1 := (k6.cell_far ⟨w.heap.size + 1, 0 + 1, none⟩ (show w.heap.size + 1 < _ by omega) (by simp)).trans v1
    have b2 := (k6.cell_far ⟨w.heap.size + 1, 0 + 2, none⟩ (show w.heap.size + 1 < _ by omega) (by simp)).trans v2
    have d0 := (k6.cell_far ⟨w.heap.size, 0, none⟩ (show w.heap.size < _ by omega) (by simp)).trans s0
    have d1 := (k6.cell_far ⟨w.heap.size, 0 + 1, none⟩ (show w.heap.size < _ by omega) (by simp)).trans s1
    have HH6 := Lib.hid (HH3.out.grown k6)
    have HR6 := Lib.hid (HR3.out.kept k6)
    have HT6 := Lib.hid (HT3.out.kept k6)
    have K6 := Lib.hid (K3.trans k6)
    have sz6 : w.heap.size + 2 ≤ (w4.alloc (.cells #[.int .i64 l1, .int .i64 l2, .int .i64 l3] 33)).heap.size := Nat.le_trans sz3 k6.size
    clear CL s0 s1 v0 v1 v2 HH3 HR3 HT3 K3 k4 k5 k6
    go_upto_region 6 with fail
    generalize w4.alloc (.cells #[.int .i64 l1, .int .i64 l2, .int .i64 l3] 33) = w6 at *
    generalize w4.heap.size = cb at *
    go_cut [54] (fun v wc => v = .bool false ∧ wc = w6)
    case first =>
      rcases HF.out with ⟨h1, h2, h3, h4, h5⟩ | ⟨p, h1, hp, h2, h3, h4, h5⟩
      · subst h1
        subst h2
        subst h3
        subst h4
        subst h5
        go_wp2
        go_meet
        case rel => exact ⟨rfl, rfl⟩
      · subst h1
        subst h5
        have qp0 : (0 : Int) ≤ (p : Int) := by omega
        clear h2 h3 h4
        go_wp2
        go_meet
        case rel => exact ⟨rfl, rfl⟩
    case rest =>
      obtain ⟨rfl, hw6⟩ := hcut
      have hw6' := hw6.symm
      subst hw6'
      obtain ⟨na, nb, hnr⟩ := needR_form T n h kind rights
      have CN := Lib.hid (rneed h kind rights HH6.out hh)
      rw [hnr] at CN
      have CRN : Hid (∀ v : World, w6.grownBy v none → Calls Tryd.prog 32 #[.agg #[.slice (some ⟨r, 0, none⟩) n cp, .int .i64 (G : Nat)], .int .u64 (h : Nat), .int .i64 kind, .int .i64 rights] v fun e w' => e = .returned (.tuple #[.int .i64 na, .int .i64 nb]) ∧ v.grownBy w' none) := Lib.hid fun v kv => by
        have := rneed5 (cp := cp) h kind rights (HR6.out.kept kv) hn HOK.out hGG.2 hq
        rwa [hnr] at this
      clear hnr HL HF a0 a1 a2 hw6
      go_wp2_with fail
      refine CN.out.mono ?_
      rintro e w7 ⟨rfl, k7⟩
      have s0 := (k7.cell_far ⟨w.heap.size, 0, none⟩ (show w.heap.size < _ by omega) (by simp)).trans d0
      have s1 := (k7.cell_far ⟨w.heap.size, 0 + 1, none⟩ (show w.heap.size < _ by omega) (by simp)).trans d1
      clear CN
      go_wp2_with fail
      refine (CRN.out _ k7).mono ?_
      rintro e w8 ⟨rfl, k8⟩
      have kd : w8.grownBy w8.drew none := ⟨rfl, rfl, rfl, Nat.le_refl _, fun _ _ _ => rfl⟩
      have k9 := (k7.trans k8).trans kd
      have HH9 := Lib.hid (HH6.out.grown k9)
      have HR9 := Lib.hid (HR6.out.kept k9)
      have HT9 := Lib.hid (HT6.out.kept k9)
      have K9 := Lib.hid (K6.out.trans k9)
      have KF : Hid (∀ v : World, w8.drew.grownBy v none → v.cell? ⟨w.heap.size, 0, none⟩ = some (.slice (some ⟨r, 0, none⟩) n cp) ∧ v.cell? ⟨w.heap.size, 0 + 1, none⟩ = some (.int .i64 (G : Nat)) ∧ v.cell? ⟨w.heap.size + 1, 1, none⟩ = some (.int .i64 l2)) := Lib.hid fun v kv => by
        have kk := k9.trans kv
        exact ⟨(kk.cell_far ⟨w.heap.size, 0, none⟩ (show w.heap.size < _ by omega) (by simp)).trans d0, (kk.cell_far ⟨w.heap.size, 0 + 1, none⟩ (show w.heap.size < _ by omega) (by simp)).trans d1, (kk.cell_far ⟨w.heap.size + 1, 1, none⟩ (show w.heap.size + 1 < _ by omega) (by simp)).trans b1⟩
      have hlen := liveL_len T n
      have hlle := liveL_le T n
      have HLL : Hid ((liveL T n).length ≤ 1000000) := Lib.hid (by omega)
      have CC : Hid (∀ v : World, w8.drew.grownBy v none → Calls Tryd.prog 15 #[.pointer (some ⟨tb, 0, none⟩)] v fun e w' => e = .returned (.int .i64 ((liveL T n).length : Nat)) ∧ v.grownBy w' none) := Lib.hid fun v kv => by
        rw [hlen]; exact tcount (HH9.out.grown kv) (HT9.out.kept kv)
      have CRL : Hid (∀ v : World, w8.drew.grownBy v none → Calls Tryd.prog 33 #[.agg #[.slice (some ⟨r, 0, none⟩) n cp, .int .i64 (G : Nat)]] v fun e w' => ∃ b c, e = .returned (.slice (some ⟨b, 0, none⟩) (liveL T n).length c) ∧ v.grownBy w' none ∧ Hid (UReads w' (.slice (some ⟨b, 0, none⟩) (liveL T n).length c) (liveL T n))) := Lib.hid fun v kv => (rlive5 (cp := cp) (HR9.out.kept kv) hn HOK.out hGG.2).mono fun e w' ⟨u, he, k, hu⟩ => by
        have hu' := hu.out
        obtain ⟨b, c, rfl, _⟩ := hu.out
        exact ⟨b, c, he, k, Lib.hid hu'⟩
      have CL : Hid (∀ v : World, w8.drew.grownBy v none → Calls Tryd.prog 22 #[.pointer (some ⟨tb, 0, none⟩)] v fun e w' => ∃ b c, e = .returned (.slice (some ⟨b, 0, none⟩) (liveL T n).length c) ∧ v.grownBy w' none ∧ Hid (UReads w' (.slice (some ⟨b, 0, none⟩) (liveL T n).length c) (liveL T n))) := Lib.hid fun v kv => (rlive (HH9.out.grown kv) (HT9.out.kept kv)).mono fun e w' ⟨u, he, k, hu⟩ => by
        have hu' := hu.out
        obtain ⟨b, c, rfl, _⟩ := hu.out
        exact ⟨b, c, he, k, Lib.hid hu'⟩
      have CD : Hid (∀ v : World, w8.drew.grownBy v none → Calls Tryd.prog 16 #[.pointer (some ⟨tb, 0, none⟩)] v fun e w' => e = .returned (.int .i64 (deadN T G n : Nat)) ∧ v.grownBy w' none) := Lib.hid fun v kv => tdead (HH9.out.grown kv) (HT9.out.kept kv)
      have CRD : Hid (∀ v : World, w8.drew.grownBy v none → Calls Tryd.prog 34 #[.agg #[.slice (some ⟨r, 0, none⟩) n cp, .int .i64 (G : Nat)]] v fun e w' => e = .returned (.int .i64 (deadN T G n : Nat)) ∧ v.grownBy w' none) := Lib.hid fun v kv => rdead5 (HR9.out.kept kv) hn
      have COF : Hid (∀ v : World, w8.drew.grownBy v none → Calls Tryd.prog 35 #[.pointer (some ⟨tb, 0, none⟩), .int .i64 kind, .int .i64 l2] v fun e w' => e = .returned (.int .i64 (ofN T kind l2 n : Nat)) ∧ v.grownBy w' none) := Lib.hid fun v kv => tof kind l2 (HH9.out.grown kv) (HT9.out.kept kv)
      have CRO : Hid (∀ v : World, w8.drew.grownBy v none → Calls Tryd.prog 36 #[.agg #[.slice (some ⟨r, 0, none⟩) n cp, .int .i64 (G : Nat)], .int .i64 kind, .int .i64 l2] v fun e w' => e = .returned (.int .i64 (ofN T kind l2 n : Nat)) ∧ v.grownBy w' none) := Lib.hid fun v kv => rof5 kind l2 (HR9.out.kept kv) hn
      have CSM : Hid (∀ (v : World) (x y : Value), UReads v x (liveL T n) → UReads v y (liveL T n) → Calls Tryd.prog 21 #[x, y] v fun e w' => e = .returned (.bool true) ∧ v.grownBy w' none) := Lib.hid fun v x y hx hy => same5_yes hx hy HLL.out
      have kz0 : w8.drew.grownBy w8.drew none := SR.grow_refl _
      clear hlen hlle kd k7 k8 s0 s1 d0 d1 b0 b1 b2 CRN
      go_upto_region 10 with fail
      generalize deadN T G n = dd at *
      generalize ofN T kind l2 n = oo at *
      generalize liveL T n = ll at *
      go_region_held3 (fun w' => w'.cell? ⟨w.heap.size, 0, none⟩ = some (.slice (some ⟨r, 0, none⟩) n cp) ∧ w'.cell? ⟨w.heap.size, 0 + 1, none⟩ = some (.int .i64 (G : Nat)) ∧ w'.cell? ⟨w.heap.size + 1, 1, none⟩ = some (.int .i64 l2)) (first | exact KF.out _ kz9 | exact KF.out _ kz8 | exact KF.out _ kz7 | exact KF.out _ kz6 | exact KF.out _ kz5 | exact KF.out _ kz4 | exact KF.out _ kz3 | exact KF.out _ kz2 | exact KF.out _ kz1 | exact KF.out _ kz0)
        (first
          | (go_at_call 15; with_reducible refine (CC.out _ kz0).mono ?_; rintro e x1 ⟨rfl, y1⟩; have kz1 := kz0.trans y1)
          | (go_at_call 33; with_reducible refine (CRL.out _ kz1).mono ?_; rintro e x2 ⟨b2, c2, rfl, y2, u2⟩; have kz2 := kz1.trans y2)
          | (go_at_call 16; with_reducible refine (CD.out _ kz2).mono ?_; rintro e x3 ⟨rfl, y3⟩; have kz3 := kz2.trans y3)
          | (go_at_call 34; with_reducible refine (CRD.out _ kz3).mono ?_; rintro e x4 ⟨rfl, y4⟩; have kz4 := kz3.trans y4)
          | (go_at_call 22; with_reducible refine (CL.out _ kz4).mono ?_; rintro e x5 ⟨b5, c5, rfl, y5, u5⟩; have kz5 := kz4.trans y5)
          | (go_at_call 33; with_reducible refine (CRL.out _ kz5).mono ?_; rintro e x6 ⟨b6, c6, rfl, y6, u6⟩; have kz6 := kz5.trans y6)
          | (go_at_call 21; with_reducible refine (CSM.out _ _ _ (u5.out.kept y6) u6.out).mono ?_; rintro e x7 ⟨rfl, y7⟩; have kz7 := kz6.trans y7)
          | (go_at_call 35; with_reducible refine (COF.out _ kz7).mono ?_; rintro e x8 ⟨rfl, y8⟩; have kz8 := kz7.trans y8)
          | (go_at_call 36; with_reducible refine (CRO.out _ kz8).mono ?_; rintro e x9 ⟨rfl, y9⟩; have kz9 := kz8.trans y9))
      go_wp2
      go_ret
      exact ⟨rfl, K9.out.trans kz9⟩
end
end Go.Proofs.YtbkjdbimkofceaaDoor
