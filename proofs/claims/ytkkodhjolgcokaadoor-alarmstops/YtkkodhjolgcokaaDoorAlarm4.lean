/-
  Contracts of package alarm, over this seat's translation: New, To.
-/
import Derived.Test.YtkkodhjolgcokaaDoorAlarm3
import Derived.Deep.RegionHeld3
namespace Go.Proofs.YtkkodhjolgcokaaDoor
open Go.RowKit Go.Lib
set_option maxRecDepth 100000

theorem bk_new {w : World} {rb ro pb po b g n : Nat} (now : Nat) (hnow : now < 18446744073709551616) (R : SA.RegMem w rb ro pb po b g n (fun _ => false) (fun _ => SA.Pr.none)) :
    Calls Tryd.prog 20 #[.pointer (some ⟨rb, ro, none⟩), .int .u64 (now : Nat)] w fun e w' => ∃ bb wb, e = .returned (.pointer (some ⟨bb, 0, none⟩)) ∧ w.grownBy w' none ∧ w.heap.size ≤ bb ∧ bb < w'.heap.size ∧ BkMem w' bb rb ro pb po b g w.heap.size bb wb n now 0 (fun _ => Ti.none) := by
  have hn := R.hn
  have C1 := Lib.hid (SA.room_any R)
  have C2 : Hid (Calls Tryd.prog 35 #[.int .i64 (n : Nat), .int .u64 (now : Nat)] w fun e w' => ∃ wb, e = .returned (.pointer (some ⟨wb, 0, none⟩)) ∧ w.grownBy w' none ∧ Wl w' w.heap.size w'.heap.size wb n now (fun _ => none)) := Lib.hid (by
    have := wl_new (n : Int) now hnow w
    rwa [show clampC (n : Int) = n by unfold clampC; omega] at this)
  have HR := Lib.hid R
  clear R
  go_enter Tryd.func20, Tryd.ntmps20
  go_wp2_with fail
  refine (C1.out).mono ?_
  rintro e w' ⟨rfl, rfl⟩
  go_wp2_with fail
  refine C2.out.mono ?_
  rintro e w1 ⟨wb, rfl, k1, h1⟩
  have K1 := Lib.hid k1
  have H1 := Lib.hid h1
  clear k1 h1 C1 C2
  go_wp2
  go_ret
  have k2 := World.grownBy_alloc w1 (.cells #[.pointer (some ⟨rb, ro, none⟩), .pointer (some ⟨wb, 0, none⟩), .int .u64 0] 55) none
  have l := HR.out.l
  have d := HR.out.d
  have s1 := HR.out.set.hb
  have s2 := HR.out.set.hg
  have hsz := K1.out.size
  refine ⟨w1.heap.size, wb, rfl, K1.out.trans k2, hsz, by simp, ⟨⟨World.cell?_alloc_new .., World.cell?_alloc_new .., World.cell?_alloc_new .., by simp, (HR.out.kept K1.out).kept k2, H1.out.kept k2, by decide, by simp, by simp, by omega, by omega⟩, TiOk.new _ _⟩⟩

/-- Those that are told are due. -/
def dueT (T : Nat → Ti) (R : List Nat) : Nat → Ti := fun k => if k ∈ R then (T k).due else T k
theorem dueT_nil (T : Nat → Ti) : dueT T [] = T := by funext k; simp [dueT]
theorem dueT_step (T : Nat → Ti) (R : List Nat) (i : Nat) (hi : i < R.length) : upV (fun k => (dueT T (R.take i) k).row) R[i] (T R[i]).due.row = fun k => (dueT T (R.take (i + 1)) k).row := by
  funext k
  have hm : k ∈ R.take (i + 1) ↔ k ∈ R.take i ∨ k = R[i] := by rw [List.take_succ_eq_append_getElem hi, List.mem_append, List.mem_singleton]
  by_cases h : k = R[i]
  · subst h; rw [upV_same]; unfold dueT; rw [if_pos (hm.2 (Or.inr rfl))]
  · rw [upV_other _ _ _ _ h]
    unfold dueT
    by_cases h2 : k ∈ R.take i
    · rw [if_pos h2, if_pos (hm.2 (Or.inl h2))]
    · rw [if_neg h2, if_neg (fun x => (hm.1 x).elim h2 h)]

section
variable {w w' : World} {bb rb ro pb po b g lo hi wb n now tu : Nat} {T : Nat → Ti}
theorem due_onW (H : TiOk n tu T) (t k : Nat) : dueS (onW T) n t k ↔ (T k).st = 1 ∧ (T k).t ≤ t := by
  unfold dueS onW
  constructor
  · rintro ⟨h1, v, h2, h3⟩
    by_cases e : (T k).st = 1
    · rw [if_pos e] at h2; injection h2 with h2; subst h2; exact ⟨e, h3⟩
    · rw [if_neg e] at h2; cases h2
  · rintro ⟨h1, h2⟩
    refine ⟨?_, ((T k).t, (T k).u), by rw [if_pos h1], h2⟩
    rcases Nat.lt_or_ge k n with h | h
    · exact h
    · rw [H.far k h] at h1; cases h1
theorem TiOk.due (H : TiOk n tu T) (R : List Nat) (hR : ∀ k, k ∈ R → (T k).st = 1) : TiOk n tu (dueT T R) := by
  have hst : ∀ k, (dueT T R k).st = 1 → dueT T R k = T k := fun k h => by
    unfold dueT at h ⊢
    by_cases e : k ∈ R
    · rw [if_pos e] at h; cases h
    · rw [if_neg e]
  refine ⟨fun k => ?_, fun k hk => ?_, fun k h => ?_, fun j k hj hk e => ?_⟩
  · unfold dueT
    by_cases e : k ∈ R
    · rw [if_pos e]
      have o := H.ok k
      have h1 := hR k e
      refine ⟨fun h => ?_, fun _ h => (by cases h), Nat.le_refl 2, o.bd⟩
      have h2 := o.off h
      rw [h2] at h1
      cases h1
    · rw [if_neg e]; exact H.ok k
  · unfold dueT
    by_cases e : k ∈ R
    · have h1 := hR k e
      rw [H.far k hk] at h1
      cases h1
    · rw [if_neg e]; exact H.far k hk
  · have e := hst k h
    rw [e] at h ⊢
    exact H.tu k h
  · rw [hst j hj, hst k hk] at e
    rw [hst j hj] at hj
    rw [hst k hk] at hk
    exact H.inj j k hj hk e
theorem off_due (R : List Nat) (k : Nat) : offS (onW T) R k = onW (dueT T R) k := by
  unfold offS onW dueT
  by_cases e : k ∈ R
  · rw [if_pos e, if_pos e]; rfl
  · rw [if_neg e, if_neg e]
theorem order_onW (H : TiOk n tu T) (a b : Nat) (ha : (T a).st = 1) (hb : (T b).st = 1) (hne : a ≠ b) (h : ¬ ltA (valS (onW T)) b a) : (T a).t < (T b).t ∨ (T a).t = (T b).t ∧ (T a).u < (T b).u := by
  have va : valS (onW T) a = ((T a).t, (T a).u) := by unfold valS onW; rw [if_pos ha]; rfl
  have vb : valS (onW T) b = ((T b).t, (T b).u) := by unfold valS onW; rw [if_pos hb]; rfl
  have hu : (T a).u ≠ (T b).u := fun e => hne (H.inj a b ha hb e)
  unfold ltA at h
  rw [va, vb] at h
  dsimp only at h
  omega

set_option maxHeartbeats 4000000 in
theorem bk_to (tg : Nat) (H : BkMem w bb rb ro pb po b g lo hi wb n now tu T) (htg : tg < 18446744073709551616) :
    Calls Tryd.prog 11 #[.pointer (some ⟨bb, 0, none⟩), .int .u64 (tg : Nat)] w fun e w' => ∃ (R : List Nat) (r cp : Nat), e = .returned (.slice (some ⟨r, 0, none⟩) R.length cp) ∧ RowOf w' w.heap.size r cp R ∧ BTouch g pb po (n * 4) lo hi bb w w' ∧ BkMem w' bb rb ro pb po b g lo hi wb n (max now tg) tu (dueT T R) ∧ R.Nodup ∧ (∀ k, k ∈ R ↔ (T k).st = 1 ∧ (T k).t ≤ max now tg) ∧ R.Pairwise fun a b => (T a).t < (T b).t ∨ (T a).t = (T b).t ∧ (T a).u < (T b).u := by
  have h1 := H.m.c1
  have C1 := Lib.hid (wl_to H.m.wl tg htg H.m.hw)
  have HH := Lib.hid H
  clear H
  go_enter Tryd.func11, Tryd.ntmps11
  go_wp2_with fail
  refine C1.out.mono ?_
  rintro e w1 ⟨R, r, cp, rfl, hr, k1, W1, hnd, hm, hs⟩
  have P1 := HH.out.m.turn k1 W1
  have HR := Lib.hid hr
  have ok := HH.out.ok
  have hm2 : ∀ k, k ∈ R ↔ (T k).st = 1 ∧ (T k).t ≤ max now tg := fun k => (hm k).trans (due_onW ok _ k)
  have HM := Lib.hid hm2
  have hs2 : R.Pairwise fun a b => (T a).t < (T b).t ∨ (T a).t = (T b).t ∧ (T a).u < (T b).u := by
    have h3 := hs.and hnd
    exact List.Pairwise.imp_of_mem (fun {a b} ha hb hab => order_onW ok a b ((hm2 a).1 ha).1 ((hm2 b).1 hb).1 hab.2 hab.1) h3
  have HS := Lib.hid hs2
  have HN := Lib.hid hnd
  have hlen : R.length ≤ 4096 := by
    have h256 := HH.out.m.reg.hn
    have := few_of_nodup n R hnd fun k hk => ((hm k).1 hk).1
    omega
  have HP : Hid (BkP w1 bb rb ro pb po b g lo hi wb n (max now tg) tu (fun k => (T k).is) (fun k => (dueT T (R.take 0) k).row) (offS (onW T) R)) := Lib.hid (by
    rw [List.take_zero, dueT_nil]; exact P1.1)
  have HB := Lib.hid P1.2
  clear P1 hr k1 W1 hnd hm hs C1 h1 ok hm2 hs2
  generalize hL : R.length = L at *
  have HL := Lib.hid hL
  clear hL
  generalize hmx : max now tg = mx at *
  have HMX := Lib.hid hmx
  clear hmx
  go_wp2_with fail
  go_loopw [18] (fun it wr => ∃ i : Nat, i ≤ L ∧ it = .int .i64 i ∧ Hid (BkP wr bb rb ro pb po b g lo hi wb n mx tu (fun k => (T k).is) (fun k => (dueT T (R.take i) k).row) (offS (onW T) R)) ∧ Hid (RowOf wr w.heap.size r cp R) ∧ Hid (BTouch g pb po (n * 4) lo hi bb w wr)) (fun it _ => L - (intOf it).toNat)
  case atStart => exact ⟨0, Nat.zero_le _, rfl, HP, HR, HB⟩
  case round =>
    clear HP HR HB
    obtain ⟨i, hi', rfl, HP, HR, HB⟩ := hrel
    by_cases hlt : i < L
    · have qi : (i : Int) < (L : Int) := by omega
      have hltR : i < R.length := by rw [HL.out]; exact hlt
      have hc := HR.out.cell i hltR
      have hst := Lib.hid (dueT_step T R i hltR)
      have hkm : R[i] ∈ R := List.getElem_mem hltR
      obtain ⟨hk1, _⟩ := (HM.out R[i]).1 hkm
      obtain ⟨his, hkn⟩ := HH.out.isd (p := R[i]) (by omega)
      have hnot : R[i] ∉ R.take i := by
        intro hm
        obtain ⟨j, hj, e⟩ := List.mem_take_iff_getElem.1 hm
        have := (List.getElem_inj HN.out).1 e
        omega
      have hrow : (dueT T (R.take i) R[i]).row = (T R[i]).row := by unfold dueT; rw [if_neg hnot]
      have CA : Hid (Calls Tryd.prog 27 #[.pointer (some ⟨rb, ro, none⟩), .int .i64 (R[i] : Nat)] wr fun e w' => e = .returned (.tuple #[.agg #[.int .i64 ((T R[i]).st : Nat), .int .u64 ((T R[i]).h : Nat), .int .u64 ((T R[i]).t : Nat), .int .u64 ((T R[i]).p : Nat)], .bool true]) ∧ wr.grownBy w' none) := Lib.hid (by
        have := SA.at_in R[i] HP.out.reg hkn his
        rw [hrow] at this
        exact this)
      have CS : Hid (∀ v, SA.RegMem v rb ro pb po b g n (fun k => (T k).is) (fun k => (dueT T (R.take i) k).row) → Calls Tryd.prog 23 #[.pointer (some ⟨rb, ro, none⟩), .int .i64 (R[i] : Nat), .agg #[.int .i64 2, .int .u64 ((T R[i]).h : Nat), .int .u64 ((T R[i]).t : Nat), .int .u64 ((T R[i]).p : Nat)]] v fun e w' => e = .returned (.bool true) ∧ Touch g pb po (n * 4) v w' ∧ SA.RegMem w' rb ro pb po b g n (fun k => (T k).is) (fun k => (dueT T (R.take (i + 1)) k).row)) := Lib.hid fun v h => by
        have := SA.set_in R[i] (T R[i]).due.row h hkn his
        rw [hst.out] at this
        exact this
      clear hst hkm hk1 hnot hrow his hkn
      generalize R[i] = kk at *
      generalize (T kk).st = s1 at *
      generalize (T kk).h = s2 at *
      generalize (T kk).t = s3 at *
      generalize (T kk).p = s4 at *
      have h0 := HP.out.c0
      go_wp2_with fail
      refine CA.out.mono ?_
      rintro e u1 ⟨rfl, k1⟩
      have P1 := Lib.hid (HP.out.grown k1)
      have R1 := Lib.hid (HR.out.kept k1 (by simp))
      have B1 : Hid (BTouch g pb po (n * 4) lo hi bb w u1) := Lib.hid (HB.out.trans (BTouch.of_none k1 HP.out.reg.l.2))
      clear HP HR HB CA k1 h0 hc
      have k2 := World.grownBy_alloc u1 (.cells #[.int .i64 2, .int .u64 s2, .int .u64 s3, .int .u64 s4] 33) none
      have P2 := Lib.hid (P1.out.grown k2)
      have R2 := Lib.hid (R1.out.kept k2 (by simp))
      have B2 : Hid (BTouch g pb po (n * 4) lo hi bb w (u1.alloc (.cells #[.int .i64 2, .int .u64 s2, .int .u64 s3, .int .u64 s4] 33))) := Lib.hid (B1.out.trans (BTouch.of_none k2 P1.out.reg.l.2))
      have x0 : (u1.alloc (.cells #[.int .i64 2, .int .u64 s2, .int .u64 s3, .int .u64 s4] 33)).cell? ⟨u1.heap.size, 0, none⟩ = some (.int .i64 2) := World.cell?_alloc_new ..
      have x1 : (u1.alloc (.cells #[.int .i64 2, .int .u64 s2, .int .u64 s3, .int .u64 s4] 33)).cell? ⟨u1.heap.size, 1, none⟩ = some (.int .u64 s2) := World.cell?_alloc_new ..
      have x2 : (u1.alloc (.cells #[.int .i64 2, .int .u64 s2, .int .u64 s3, .int .u64 s4] 33)).cell? ⟨u1.heap.size, 2, none⟩ = some (.int .u64 s3) := World.cell?_alloc_new ..
      have x3 : (u1.alloc (.cells #[.int .i64 2, .int .u64 s2, .int .u64 s3, .int .u64 s4] 33)).cell? ⟨u1.heap.size, 3, none⟩ = some (.int .u64 s4) := World.cell?_alloc_new ..
      have hxb : Hid (pb < u1.heap.size ∧ g < u1.heap.size) := Lib.hid ⟨P1.out.reg.l.2, P1.out.reg.set.hg⟩
      clear P1 R1 B1 k2
      have h0 := P2.out.c0
      go_wp2_with fail
      have kd : (u1.alloc (.cells #[.int .i64 2, .int .u64 s2, .int .u64 s3, .int .u64 s4] 33)).grownBy (u1.alloc (.cells #[.int .i64 2, .int .u64 s2, .int .u64 s3, .int .u64 s4] 33)).drew none := ⟨rfl, rfl, rfl, Nat.le_refl _, fun _ _ _ => rfl⟩
      refine wp_region_held_drew (S := fun x => x.cell? ⟨bb, 0, none⟩ = some (.pointer (some ⟨rb, ro, none⟩)) ∧ x.cell? ⟨u1.heap.size, 0, none⟩ = some (.int .i64 2) ∧ x.cell? ⟨u1.heap.size, 1, none⟩ = some (.int .u64 s2) ∧ x.cell? ⟨u1.heap.size, 2, none⟩ = some (.int .u64 s3) ∧ x.cell? ⟨u1.heap.size, 3, none⟩ = some (.int .u64 s4)) (by kernel_rfl) ⟨h0, x0, x1, x2, x3⟩ (fun hHeld => ?_)
      have P3 := Lib.hid (P2.out.grown kd)
      have R3 := Lib.hid (R2.out.kept kd (by simp))
      have B3 := Lib.hid (B2.out.trans (BTouch.of_none kd P2.out.reg.l.2))
      clear P2 R2 B2 kd h0 x0 x1 x2 x3
      generalize (u1.alloc (.cells #[.int .i64 2, .int .u64 s2, .int .u64 s3, .int .u64 s4] 33)).drew = v1 at *
      have hx1 : Hid (u1.heap.size < v1.heap.size) := Lib.hid (World.block_lt_of_cell? v1 ⟨u1.heap.size, 0, none⟩ hHeld.2.1)
      generalize u1.heap.size = xb at *
      refine wpAnyH_take (i := 0) (oi := ⟨_, _, _, _, _, _⟩) (v := ?_) rfl (by kernel_rfl) (by kernel_rfl) (by kernel_rfl) (fun _ _ _ h => h) (Or.inl ⟨by rfl, ?_⟩) (by assumption) ?_
      rotate_left
      · intro wz hSw
        try dsimp only at hSw
        go_simp
        try with_reducible rfl
      simp only [Act.put, List.setIfInBounds_toArray, List.set_cons_zero, List.set_cons_succ]
      refine wpAnyH_take (i := 1) (oi := ⟨_, _, _, _, _, _⟩) (v := ?_) rfl (by kernel_rfl) (by kernel_rfl) (by kernel_rfl) (fun _ _ _ h => h) (Or.inl ⟨by rfl, ?_⟩) (by assumption) ?_
      rotate_left
      · intro wz hSw
        try dsimp only at hSw
        go_simp
        try with_reducible rfl
      simp only [Act.put, List.setIfInBounds_toArray, List.set_cons_zero, List.set_cons_succ]
      refine wpAnyH_take (i := 2) (oi := ⟨_, _, _, _, _, _⟩) (v := ?_) rfl (by kernel_rfl) (by kernel_rfl) (by kernel_rfl) (fun _ _ _ h => h) (Or.inl ⟨by rfl, ?_⟩) (by assumption) ?_
      rotate_left
      · intro wz hSw
        try dsimp only at hSw
        go_simp
        try with_reducible rfl
      simp only [Act.put, List.setIfInBounds_toArray, List.set_cons_zero, List.set_cons_succ]
      refine wpAnyH_take (i := 3) (oi := ⟨_, _, _, _, _, _⟩) (v := ?_) rfl (by kernel_rfl) (by kernel_rfl) (by kernel_rfl) (fun _ _ _ h => h) (Or.inl ⟨by rfl, ?_⟩) (by assumption) ?_
      rotate_left
      · intro wz hSw
        try dsimp only at hSw
        go_simp
        try with_reducible rfl
      simp only [Act.put, List.setIfInBounds_toArray, List.set_cons_zero, List.set_cons_succ]
      refine wpAnyH_take (i := 4) (oi := ⟨_, _, _, _, _, _⟩) (v := ?_) rfl (by kernel_rfl) (by kernel_rfl) (by kernel_rfl) (fun _ _ _ h => h) (Or.inl ⟨by rfl, ?_⟩) (by assumption) ?_
      rotate_left
      · intro wz hSw
        try dsimp only at hSw
        go_simp
        try with_reducible rfl
      simp only [Act.put, List.setIfInBounds_toArray, List.set_cons_zero, List.set_cons_succ]
      refine wpAnyH_take (i := 5) (oi := ⟨_, _, _, _, _, _⟩) (v := ?_) rfl (by kernel_rfl) (by kernel_rfl) (by kernel_rfl) (fun _ _ _ h => h) (Or.inl ⟨by rfl, ?_⟩) (by assumption) ?_
      rotate_left
      · intro wz hSw
        try dsimp only at hSw
        go_simp
        try with_reducible rfl
      simp only [Act.put, List.setIfInBounds_toArray, List.set_cons_zero, List.set_cons_succ]
      refine wpAnyH_ready (rs := [6]) (by kernel_rfl) (by simp) ?_
      refine AllReadyH.cons (o := ⟨_, _, _, _, _, _⟩) rfl (fun K hK => ?_) AllReadyH.nil
      go_simp
      refine (CS.out _ P3.out.reg).mono ?_
      rintro e v2 ⟨rfl, t3, r3⟩
      have P4 := Lib.hid (P3.out.touch t3 r3)
      have B4 := Lib.hid (B3.out.trans P4.out.2)
      have R4 := Lib.hid (R3.out.only (t3.only (lo := 0) (hi := w.heap.size) ⟨Nat.zero_le _, HH.out.m.reg.set.hg⟩ ⟨Nat.zero_le _, HH.out.m.reg.l.2⟩) (Or.inr R3.out.lt.1))
      have y : ∀ j, v2.cell? ⟨xb, j, none⟩ = v1.cell? ⟨xb, j, none⟩ := fun j => t3.far xb j hx1.out (by have := hxb.out; omega) (by have := hxb.out; omega)
      have hz := hHeld
      clear t3 r3 P3 B3 R3 CS
      refine hK.out _ _ ⟨P4.out.1.c0, (y 0).trans hz.2.1, (y 1).trans hz.2.2.1, (y 2).trans hz.2.2.2.1, (y 3).trans hz.2.2.2.2⟩ (fun hHeld => ?_)
      clear hK K
      try simp only [Act.put, List.setIfInBounds_toArray, List.set_cons_zero, List.set_cons_succ]
      refine wpAnyH_done (by kernel_rfl) ?_ _
      have P5 := Lib.hid P4.out.1
      clear P4 y hz hxb hx1
      go_wp2
      go_roundw
      case rel => exact ⟨i + 1, hlt, by go_num, P5, R4, B4⟩
      case measure => simp [intOf]; omega
    · obtain rfl : i = L := by omega
      have qi : ¬ (i : Int) < (i : Int) := by omega
      go_wp2
      go_ret
      rw [HMX.out]
      refine ⟨R, r, cp, by rw [HL.out]; rfl, HR.out, HB.out, ?_, HN.out, HM.out, HS.out⟩
      have hP := HP.out
      rw [show R.take i = R from List.take_of_length_le (by rw [HL.out]; exact Nat.le_refl _)] at hP
      refine hP.fit (fun k => ?_) (fun k => rfl) (fun k => off_due R k) (HH.out.ok.due R fun k hk => ((HM.out k).1 hk).1)
      unfold dueT
      split <;> rfl
end
end Go.Proofs.YtkkodhjolgcokaaDoor
