/-
  Texts of one claim, joined, one behind the other.
-/
import Derived.Test.YtkkodhjolgcokaaDoorJoin13
import Derived.Deep.RegionHeld3
import Derived.Test.YtkkodhjolgcokaaDoorJoin5
/-
  Contracts of package alarm, over this seat's translation: New, To.
-/
namespace Go.Proofs.YtkkodhjolgcokaaDoor
open Go.RowKit Go.Lib
set_option maxRecDepth 100000

theorem bk_new {w : World} {rb ro pb po b g n : Nat} (now : Nat) (hnow : now < 18446744073709551616) (R : SA.RegMem w rb ro pb po b g n (fun _ => false) (fun _ => SA.Pr.none)) :
    Calls Tryd.prog 20 #[.pointer (some ⟨rb, ro, none⟩), .int .u64 (now : Nat)] w fun e w' => ∃ bb wb, e = .returned (.pointer (some ⟨bb, 0, none⟩)) ∧ w.grownBy w' none ∧ w.heap.size ≤ bb ∧ bb < w'.heap.size ∧ BkMem w' bb rb ro pb po b g w.heap.size bb wb n now 0 (fun _ => Ti.none) := by
  have hn := R.hn
  have C1 := Lib.hid (SA.room_any R)
  have C2 : Hid (Calls Tryd.prog 35 #[.int .i64 (n : Nat), .int .u64 (now : Nat)] w fun e w' => ∃ wb, e = .returned (.pointer (some ⟨wb, 0, none⟩)) ∧ w.grownBy w' none ∧ Wl w' w.heap.size w'.heap.size wb n now (fun _ => none)) := Lib.hid (by
    have := wl_new (n : Int) now hnow w
    rwa [show clampC (n : Int) = n by unfold clampC; omega] at this)
  have HR := Lib.hid R
  clear R
  go_enter Tryd.func20, Tryd.ntmps20
  go_wp2_with fail
  refine (C1.out).mono ?_
  rintro e w' ⟨rfl, rfl⟩
  go_wp2_with fail
  refine C2.out.mono ?_
  rintro e w1 ⟨wb, rfl, k1, h1⟩
  have K1 := Lib.hid k1
  have H1 := Lib.hid h1
  clear k1 h1 C1 C2
  go_wp2
  go_ret
  have k2 := World.grownBy_alloc w1 (.cells #[.pointer (some ⟨rb, ro, none⟩), .pointer (some ⟨wb, 0, none⟩), .int .u64 0] 55) none
  have l := HR.out.l
  have d := HR.out.d
  have s1 := HR.out.set.hb
  have s2 := HR.out.set.hg
  have hsz := K1.out.size
  refine ⟨w1.heap.size, wb, rfl, K1.out.trans k2, hsz, by simp, ⟨⟨World.cell?_alloc_new .., World.cell?_alloc_new .., World.cell?_alloc_new .., by simp, (HR.out.kept K1.out).kept k2, H1.out.kept k2, by decide, by simp, by simp, by omega, by omega⟩, TiOk.new _ _⟩⟩

/-- Those that are told are due. -/
def dueT (T : Nat → Ti) (R : List Nat) : Nat → Ti := fun k => if k ∈ R then (T k).due else T k
theorem dueT_nil (T : Nat → Ti) : dueT T [] = T := by funext k; simp [dueT]
theorem dueT_step (T : Nat → Ti) (R : List Nat) (i : Nat) (hi : i < R.length) : upV (fun k => (dueT T (R.take i) k).row) R[i] (T R[i]).due.row = fun k => (dueT T (R.take (i + 1)) k).row := by
  funext k
  have hm : k ∈ R.take (i + 1) ↔ k ∈ R.take i ∨ k = R[i] := by rw [List.take_succ_eq_append_getElem hi, List.mem_append, List.mem_singleton]
  by_cases h : k = R[i]
  · subst h; rw [upV_same]; unfold dueT; rw [if_pos (hm.2 (Or.inr rfl))]
  · rw [upV_other _ _ _ _ h]
    unfold dueT
    by_cases h2 : k ∈ R.take i
    · rw [if_pos h2, if_pos (hm.2 (Or.inl h2))]
    · rw [if_neg h2, if_neg (fun x => (hm.1 x).elim h2 h)]

section
variable {w w' : World} {bb rb ro pb po b g lo hi wb n now tu : Nat} {T : Nat → Ti}
theorem due_onW (H : TiOk n tu T) (t k : Nat) : dueS (onW T) n t k ↔ (T k).st = 1 ∧ (T k).t ≤ t := by
  unfold dueS onW
  constructor
  · rintro ⟨h1, v, h2, h3⟩
    by_cases e : (T k).st = 1
    · rw [if_pos e] at h2; injection h2 with h2; subst h2; exact ⟨e, h3⟩
    · rw [if_neg e] at h2; cases h2
  · rintro ⟨h1, h2⟩
    refine ⟨?_, ((T k).t, (T k).u), by rw [if_pos h1], h2⟩
    rcases Nat.lt_or_ge k n with h | h
    · exact h
    · rw [H.far k h] at h1; cases h1
theorem TiOk.due (H : TiOk n tu T) (R : List Nat) (hR : ∀ k, k ∈ R → (T k).st = 1) : TiOk n tu (dueT T R) := by
  have hst : ∀ k, (dueT T R k).st = 1 → dueT T R k = T k := fun k h => by
    unfold dueT at h ⊢
    by_cases e : k ∈ R
    · rw [if_pos e] at h; cases h
    · rw [if_neg e]
  refine ⟨fun k => ?_, fun k hk => ?_, fun k h => ?_, fun j k hj hk e => ?_⟩
  · unfold dueT
    by_cases e : k ∈ R
    · rw [if_pos e]
      have o := H.ok k
      have h1 := hR k e
      refine ⟨fun h => ?_, fun _ h => (by cases h), Nat.le_refl 2, o.bd⟩
      have h2 := o.off h
      rw [h2] at h1
      cases h1
    · rw [if_neg e]; exact H.ok k
  · unfold dueT
    by_cases e : k ∈ R
    · have h1 := hR k e
      rw [H.far k hk] at h1
      cases h1
    · rw [if_neg e]; exact H.far k hk
  · have e := hst k h
    rw [e] at h ⊢
    exact H.tu k h
  · rw [hst j hj, hst k hk] at e
    rw [hst j hj] at hj
    rw [hst k hk] at hk
    exact H.inj j k hj hk e
theorem off_due (R : List Nat) (k : Nat) : offS (onW T) R k = onW (dueT T R) k := by
  unfold offS onW dueT
  by_cases e : k ∈ R
  · rw [if_pos e, if_pos e]; rfl
  · rw [if_neg e, if_neg e]
theorem order_onW (H : TiOk n tu T) (a b : Nat) (ha : (T a).st = 1) (hb : (T b).st = 1) (hne : a ≠ b) (h : ¬ ltA (valS (onW T)) b a) : (T a).t < (T b).t ∨ (T a).t = (T b).t ∧ (T a).u < (T b).u := by
  have va : valS (onW T) a = ((T a).t, (T a).u) := by unfold valS onW; rw [if_pos ha]; rfl
  have vb : valS (onW T) b = ((T b).t, (T b).u) := by unfold valS onW; rw [if_pos hb]; rfl
  have hu : (T a).u ≠ (T b).u := fun e => hne (H.inj a b ha hb e)
  unfold ltA at h
  rw [va, vb] at h
  dsimp only at h
  omega

set_option maxHeartbeats 4000000 in
theorem bk_to (tg : Nat) (H : BkMem w bb rb ro pb po b g lo hi wb n now tu T) (htg : tg < 18446744073709551616) :
    Calls Tryd.prog 11 #[.pointer (some ⟨bb, 0, none⟩), .int .u64 (tg : Nat)] w fun e w' => ∃ (R : List Nat) (r cp : Nat), e = .returned (.slice (some ⟨r, 0, none⟩) R.length cp) ∧ RowOf w' w.heap.size r cp R ∧ BTouch g pb po (n * 4) lo hi bb w w' ∧ BkMem w' bb rb ro pb po b g lo hi wb n (max now tg) tu (dueT T R) ∧ R.Nodup ∧ (∀ k, k ∈ R ↔ (T k).st = 1 ∧ (T k).t ≤ max now tg) ∧ R.Pairwise fun a b => (T a).t < (T b).t ∨ (T a).t = (T b).t ∧ (T a).u < (T b).u := by
  have h1 := H.m.c1
  have C1 := Lib.hid (wl_to H.m.wl tg htg H.m.hw)
  have HH := Lib.hid H
  clear H
  go_enter Tryd.func11, Tryd.ntmps11
  go_wp2_with fail
  refine C1.out.mono ?_
  rintro e w1 ⟨R, r, cp, rfl, hr, k1, W1, hnd, hm, hs⟩
  have P1 := HH.out.m.turn k1 W1
  have HR := Lib.hid hr
  have ok := HH.out.ok
  have hm2 : ∀ k, k ∈ R ↔ (T k).st = 1 ∧ (T k).t ≤ max now tg := fun k => (hm k).trans (due_onW ok _ k)
  have HM := Lib.hid hm2
  have hs2 : R.Pairwise fun a b => (T a).t < (T b).t ∨ (T a).t = (T b).t ∧ (T a).u < (T b).u := by
    have h3 := hs.and hnd
    exact List.Pairwise.imp_of_mem (fun {a b} ha hb hab => order_onW ok a b ((hm2 a).1 ha).1 ((hm2 b).1 hb).1 hab.2 hab.1) h3
  have HS := Lib.hid hs2
  have HN := Lib.hid hnd
  have hlen : R.length ≤ 4096 := by
    have h256 := HH.out.m.reg.hn
    have := few_of_nodup n R hnd fun k hk => ((hm k).1 hk).1
    omega
  have HP : Hid (BkP w1 bb rb ro pb po b g lo hi wb n (max now tg) tu (fun k => (T k).is) (fun k => (dueT T (R.take 0) k).row) (offS (onW T) R)) := Lib.hid (by
    rw [List.take_zero, dueT_nil]; exact P1.1)
  have HB := Lib.hid P1.2
  clear P1 hr k1 W1 hnd hm hs C1 h1 ok hm2 hs2
  generalize hL : R.length = L at *
  have HL := Lib.hid hL
  clear hL
  generalize hmx : max now tg = mx at *
  have HMX := Lib.hid hmx
  clear hmx
  go_wp2_with fail
  go_loopw [18] (fun it wr => ∃ i : Nat, i ≤ L ∧ it = .int .i64 i ∧ Hid (BkP wr bb rb ro pb po b g lo hi wb n mx tu (fun k => (T k).is) (fun k => (dueT T (R.take i) k).row) (offS (onW T) R)) ∧ Hid (RowOf wr w.heap.size r cp R) ∧ Hid (BTouch g pb po (n * 4) lo hi bb w wr)) (fun it _ => L - (intOf it).toNat)
  case atStart => exact ⟨0, Nat.zero_le _, rfl, HP, HR, HB⟩
  case round =>
    clear HP HR HB
    obtain ⟨i, hi', rfl, HP, HR, HB⟩ := hrel
    by_cases hlt : i < L
    · have qi : (i : Int) < (L : Int) := by omega
      have hltR : i < R.length := by rw [HL.out]; exact hlt
      have hc := HR.out.cell i hltR
      have hst := Lib.hid (dueT_step T R i hltR)
      have hkm : R[i] ∈ R := List.getElem_mem hltR
      obtain ⟨hk1, _⟩ := (HM.out R[i]).1 hkm
      obtain ⟨his, hkn⟩ := HH.out.isd (p := R[i]) (by omega)
      have hnot : R[i] ∉ R.take i := by
        intro hm
        obtain ⟨j, hj, e⟩ := List.mem_take_iff_getElem.1 hm
        have := (List.getElem_inj HN.out).1 e
        omega
      have hrow : (dueT T (R.take i) R[i]).row = (T R[i]).row := by unfold dueT; rw [if_neg hnot]
      have CA : Hid (Calls Tryd.prog 27 #[.pointer (some ⟨rb, ro, none⟩), .int .i64 (R[i] : Nat)] wr fun e w' => e = .returned (.tuple #[.agg #[.int .i64 ((T R[i]).st : Nat), .int .u64 ((T R[i]).h : Nat), .int .u64 ((T R[i]).t : Nat), .int .u64 ((T R[i]).p : Nat)], .bool true]) ∧ wr.grownBy w' none) := Lib.hid (by
        have := SA.at_in R[i] HP.out.reg hkn his
        rw [hrow] at this
        exact this)
      have CS : Hid (∀ v, SA.RegMem v rb ro pb po b g n (fun k => (T k).is) (fun k => (dueT T (R.take i) k).row) → Calls Tryd.prog 23 #[.pointer (some ⟨rb, ro, none⟩), .int .i64 (R[i] : Nat), .agg #[.int .i64 2, .int .u64 ((T R[i]).h : Nat), .int .u64 ((T R[i]).t : Nat), .int .u64 ((T R[i]).p : Nat)]] v fun e w' => e = .returned (.bool true) ∧ Touch g pb po (n * 4) v w' ∧ SA.RegMem w' rb ro pb po b g n (fun k => (T k).is) (fun k => (dueT T (R.take (i + 1)) k).row)) := Lib.hid fun v h => by
        have := SA.set_in R[i] (T R[i]).due.row h hkn his
        rw [hst.out] at this
        exact this
      clear hst hkm hk1 hnot hrow his hkn
      generalize R[i] = kk at *
      generalize (T kk).st = s1 at *
      generalize (T kk).h = s2 at *
      generalize (T kk).t = s3 at *
      generalize (T kk).p = s4 at *
      have h0 := HP.out.c0
      go_wp2_with fail
      refine CA.out.mono ?_
      rintro e u1 ⟨rfl, k1⟩
      have P1 := Lib.hid (HP.out.grown k1)
      have R1 := Lib.hid (HR.out.kept k1 (by simp))
      have B1 : Hid (BTouch g pb po (n * 4) lo hi bb w u1) := Lib.hid (HB.out.trans (BTouch.of_none k1 HP.out.reg.l.2))
      clear HP HR HB CA k1 h0 hc
      have k2 := World.grownBy_alloc u1 (.cells #[.int .i64 2, .int .u64 s2, .int .u64 s3, .int .u64 s4] 33) none
      have P2 := Lib.hid (P1.out.grown k2)
      have R2 := Lib.hid (R1.out.kept k2 (by simp))
      have B2 : Hid (BTouch g pb po (n * 4) lo hi bb w (u1.alloc (.cells #[.int .i64 2, .int .u64 s2, .int .u64 s3, .int .u64 s4] 33))) := Lib.hid (B1.out.trans (BTouch.of_none k2 P1.out.reg.l.2))
      have x0 : (u1.alloc (.cells #[.int .i64 2, .int .u64 s2, .int .u64 s3, .int .u64 s4] 33)).cell? ⟨u1.heap.size, 0, none⟩ = some (.int .i64 2) := World.cell?_alloc_new ..
      have x1 : (u1.alloc (.cells #[.int .i64 2, .int .u64 s2, .int .u64 s3, .int .u64 s4] 33)).cell? ⟨u1.heap.size, 1, none⟩ = some (.int .u64 s2) := World.cell?_alloc_new ..
      have x2 : (u1.alloc (.cells #[.int .i64 2, .int .u64 s2, .int .u64 s3, .int .u64 s4] 33)).cell? ⟨u1.heap.size, 2, none⟩ = some (.int .u64 s3) := World.cell?_alloc_new ..
      have x3 : (u1.alloc (.cells #[.int .i64 2, .int .u64 s2, .int .u64 s3, .int .u64 s4] 33)).cell? ⟨u1.heap.size, 3, none⟩ = some (.int .u64 s4) := World.cell?_alloc_new ..
      have hxb : Hid (pb < u1.heap.size ∧ g < u1.heap.size) := Lib.hid ⟨P1.out.reg.l.2, P1.out.reg.set.hg⟩
      clear P1 R1 B1 k2
      have h0 := P2.out.c0
      go_wp2_with fail
      have kd : (u1.alloc (.cells #[.int .i64 2, .int .u64 s2, .int .u64 s3, .int .u64 s4] 33)).grownBy (u1.alloc (.cells #[.int .i64 2, .int .u64 s2, .int .u64 s3, .int .u64 s4] 33)).drew none := ⟨rfl, rfl, rfl, Nat.le_refl _, fun _ _ _ => rfl⟩
      refine wp_region_held_drew (S := fun x => x.cell? ⟨bb, 0, none⟩ = some (.pointer (some ⟨rb, ro, none⟩)) ∧ x.cell? ⟨u1.heap.size, 0, none⟩ = some (.int .i64 2) ∧ x.cell? ⟨u1.heap.size, 1, none⟩ = some (.int .u64 s2) ∧ x.cell? ⟨u1.heap.size, 2, none⟩ = some (.int .u64 s3) ∧ x.cell? ⟨u1.heap.size, 3, none⟩ = some (.int .u64 s4)) (by kernel_rfl) ⟨h0, x0, x1, x2, x3⟩ (fun hHeld => ?_)
      have P3 := Lib.hid (P2.out.grown kd)
      have R3 := Lib.hid (R2.out.kept kd (by simp))
      have B3 := Lib.hid (B2.out.trans (BTouch.of_none kd P2.out.reg.l.2))
      clear P2 R2 B2 kd h0 x0 x1 x2 x3
      generalize (u1.alloc (.cells #[.int .i64 2, .int .u64 s2, .int .u64 s3, .int .u64 s4] 33)).drew = v1 at *
      have hx1 : Hid (u1.heap.size < v1.heap.size) := Lib.hid (World.block_lt_of_cell? v1 ⟨u1.heap.size, 0, none⟩ hHeld.2.1)
      generalize u1.heap.size = xb at *
      refine wpAnyH_take (i := 0) (oi := ⟨_, _, _, _, _, _⟩) (v := ?_) rfl (by kernel_rfl) (by kernel_rfl) (by kernel_rfl) (fun _ _ _ h => h) (Or.inl ⟨by rfl, ?_⟩) (by assumption) ?_
      rotate_left
      · intro wz hSw
        try dsimp only at hSw
        go_simp
        try with_reducible rfl
      simp only [Act.put, List.setIfInBounds_toArray, List.set_cons_zero, List.set_cons_succ]
      refine wpAnyH_take (i := 1) (oi := ⟨_, _, _, _, _, _⟩) (v := ?_) rfl (by kernel_rfl) (by kernel_rfl) (by kernel_rfl) (fun _ _ _ h => h) (Or.inl ⟨by rfl, ?_⟩) (by assumption) ?_
      rotate_left
      · intro wz hSw
        try dsimp only at hSw
        go_simp
        try with_reducible rfl
      simp only [Act.put, List.setIfInBounds_toArray, List.set_cons_zero, List.set_cons_succ]
      refine wpAnyH_take (i := 2) (oi := ⟨_, _, _, _, _, _⟩) (v := ?_) rfl (by kernel_rfl) (by kernel_rfl) (by kernel_rfl) (fun _ _ _ h => h) (Or.inl ⟨by rfl, ?_⟩) (by assumption) ?_
      rotate_left
      · intro wz hSw
        try dsimp only at hSw
        go_simp
        try with_reducible rfl
      simp only [Act.put, List.setIfInBounds_toArray, List.set_cons_zero, List.set_cons_succ]
      refine wpAnyH_take (i := 3) (oi := ⟨_, _, _, _, _, _⟩) (v := ?_) rfl (by kernel_rfl) (by kernel_rfl) (by kernel_rfl) (fun _ _ _ h => h) (Or.inl ⟨by rfl, ?_⟩) (by assumption) ?_
      rotate_left
      · intro wz hSw
        try dsimp only at hSw
        go_simp
        try with_reducible rfl
      simp only [Act.put, List.setIfInBounds_toArray, List.set_cons_zero, List.set_cons_succ]
      refine wpAnyH_take (i := 4) (oi := ⟨_, _, _, _, _, _⟩) (v := ?_) rfl (by kernel_rfl) (by kernel_rfl) (by kernel_rfl) (fun _ _ _ h => h) (Or.inl ⟨by rfl, ?_⟩) (by assumption) ?_
      rotate_left
      · intro wz hSw
        try dsimp only at hSw
        go_simp
        try with_reducible rfl
      simp only [Act.put, List.setIfInBounds_toArray, List.set_cons_zero, List.set_cons_succ]
      refine wpAnyH_take (i := 5) (oi := ⟨_, _, _, _, _, _⟩) (v := ?_) rfl (by kernel_rfl) (by kernel_rfl) (by kernel_rfl) (fun _ _ _ h => h) (Or.inl ⟨by rfl, ?_⟩) (by assumption) ?_
      rotate_left
      · intro wz hSw
        try dsimp only at hSw
        go_simp
        try with_reducible rfl
      simp only [Act.put, List.setIfInBounds_toArray, List.set_cons_zero, List.set_cons_succ]
      refine wpAnyH_ready (rs := [6]) (by kernel_rfl) (by simp) ?_
      refine AllReadyH.cons (o := ⟨_, _, _, _, _, _⟩) rfl (fun K hK => ?_) AllReadyH.nil
      go_simp
      refine (CS.out _ P3.out.reg).mono ?_
      rintro e v2 ⟨rfl, t3, r3⟩
      have P4 := Lib.hid (P3.out.touch t3 r3)
      have B4 := Lib.hid (B3.out.trans P4.out.2)
      have R4 := Lib.hid (R3.out.only (t3.only (lo := 0) (hi := w.heap.size) ⟨Nat.zero_le _, HH.out.m.reg.set.hg⟩ ⟨Nat.zero_le _, HH.out.m.reg.l.2⟩) (Or.inr R3.out.lt.1))
      have y : ∀ j, v2.cell? ⟨xb, j, none⟩ = v1.cell? ⟨xb, j, none⟩ := fun j => t3.far xb j hx1.out (by have := hxb.out; omega) (by have := hxb.out; omega)
      have hz := hHeld
      clear t3 r3 P3 B3 R3 CS
      refine hK.out _ _ ⟨P4.out.1.c0, (y 0).trans hz.2.1, (y 1).trans hz.2.2.1, (y 2).trans hz.2.2.2.1, (y 3).trans hz.2.2.2.2⟩ (fun hHeld => ?_)
      clear hK K
      try simp only [Act.put, List.setIfInBounds_toArray, List.set_cons_zero, List.set_cons_succ]
      refine wpAnyH_done (by kernel_rfl) ?_ _
      have P5 := Lib.hid P4.out.1
      clear P4 y hz hxb hx1
      go_wp2
      go_roundw
      case rel => exact ⟨i + 1, hlt, by go_num, P5, R4, B4⟩
      case measure => simp [intOf]; omega
    · obtain rfl : i = L := by omega
      have qi : ¬ (i : Int) < (i : Int) := by omega
      go_wp2
      go_ret
      rw [HMX.out]
      refine ⟨R, r, cp, by rw [HL.out]; rfl, HR.out, HB.out, ?_, HN.out, HM.out, HS.out⟩
      have hP := HP.out
      rw [show R.take i = R from List.take_of_length_le (by rw [HL.out]; exact Nat.le_refl _)] at hP
      refine hP.fit (fun k => ?_) (fun k => rfl) (fun k => off_due R k) (HH.out.ok.due R fun k hk => ((HM.out k).1 hk).1)
      unfold dueT
      split <;> rfl
end
end Go.Proofs.YtkkodhjolgcokaaDoor
/-
  A book of timers as one object: all its blocks lie in a range; each of its calls as a function of what it holds.
-/
namespace Go.Proofs.YtkkodhjolgcokaaDoor
open Go.RowKit Go.Lib

/-- A book in block bb; all its blocks lie from lo on, below hi. -/
def Bo (w : World) (lo hi bb n now tu : Nat) (T : Nat → Ti) : Prop :=
  ∃ rb ro pb po b g l h wb, BkMem w bb rb ro pb po b g l h wb n now tu T ∧ (lo ≤ bb ∧ bb < hi ∧ lo ≤ rb ∧ rb < hi ∧ lo ≤ pb ∧ pb < hi ∧ lo ≤ b ∧ b < hi ∧ lo ≤ g ∧ g < hi ∧ lo ≤ l ∧ h ≤ hi) ∧ hi ≤ w.heap.size
def atT (T : Nat → Ti) (k : Int) : Ti := if k < 0 then Ti.none else T k.toNat
def upT (T : Nat → Ti) (k : Int) (x : Ti) : Nat → Ti := if k < 0 then T else upV T k.toNat x
theorem atT_nat (T : Nat → Ti) (k : Nat) : atT T (k : Int) = T k := by unfold atT; rw [if_neg (by omega)]; rfl
theorem upT_nat (T : Nat → Ti) (k : Nat) (x : Ti) : upT T (k : Int) x = upV T k x := by unfold upT; rw [if_neg (by omega)]; rfl
theorem upT_self (T : Nat → Ti) (k : Int) : upT T k (atT T k) = T := by
  unfold upT atT
  split
  · rfl
  · exact SA.upV_self T _
/-- Can a timer that is told be set again, and for when? -/
def overT (x : Ti) (s : Nat) : Prop := x.p = 0 ∨ 18446744073709551616 ≤ x.t + turnsN x.t x.p s * x.p
instance (x : Ti) (s : Nat) : Decidable (overT x s) := inferInstanceAs (Decidable (_ ∨ _))
def sentV (x : Ti) (s : Nat) : Nat := if x.st ≠ 2 then 0 else if overT x s then 1 else turnsN x.t x.p s
def sentX (x : Ti) (s u : Nat) : Ti := if x.st ≠ 2 then x else if overT x s then Ti.idle else ⟨true, 1, x.h, x.t + turnsN x.t x.p s * x.p, x.p, u⟩
def sentU (x : Ti) (s u : Nat) : Nat := if x.st ≠ 2 then u else if overT x s then u else u + 1

section
variable {w w' : World} {lo hi bb n now tu : Nat} {T : Nat → Ti}
theorem Bo.kept {l h : Nat} (H : Bo w lo hi bb n now tu T) (k : Only l h w w') (hd : hi ≤ l ∨ h ≤ lo) : Bo w' lo hi bb n now tu T := by
  obtain ⟨rb, ro, pb, po, b, g, l', h', wb, M, r, s⟩ := H
  exact ⟨rb, ro, pb, po, b, g, l', h', wb, ⟨M.m.only k (by omega) (by omega) (by omega) (by omega) (by omega) (by omega), M.ok⟩, r, Nat.le_trans s k.size⟩
theorem Bo.grown (H : Bo w lo hi bb n now tu T) (k : w.grownBy w' none) : Bo w' lo hi bb n now tu T := H.kept (Only.of_none (lo := 0) (hi := 0) k) (Or.inr (Nat.zero_le _))
theorem Bo.sz (H : Bo w lo hi bb n now tu T) : hi ≤ w.heap.size := by
  obtain ⟨rb, ro, pb, po, b, g, l', h', wb, M, r, s⟩ := H
  exact s
theorem Bo.ok (H : Bo w lo hi bb n now tu T) : TiOk n tu T := by
  obtain ⟨rb, ro, pb, po, b, g, l', h', wb, M, r, s⟩ := H
  exact M.ok
theorem Bo.same {T' : Nat → Ti} (H : Bo w lo hi bb n now tu T) (h : T = T') : Bo w lo hi bb n now tu T' := h ▸ H
theorem TiOk.isk (H : TiOk n tu T) {p : Nat} (h : (T p).is = true) : p < n := by
  rcases Nat.lt_or_ge p n with h1 | h1
  · exact h1
  · rw [H.far p h1] at h; cases h

theorem bo_look (k : Int) (H : Bo w lo hi bb n now tu T) :
    Calls Tryd.prog 12 #[.pointer (some ⟨bb, 0, none⟩), .int .i64 k] w fun e w' => e = .returned (.tuple #[(atT T k).row.val, .bool (atT T k).is]) ∧ w.grownBy w' none := by
  have ok := H.ok
  obtain ⟨rb, ro, pb, po, b, g, l', h', wb, M, r, s⟩ := H
  by_cases hk : k < 0
  · have e : atT T k = Ti.none := by unfold atT; rw [if_pos hk]
    rw [e]
    exact bk_look_no k M (Or.inl hk)
  · obtain ⟨p, rfl⟩ := Int.eq_ofNat_of_zero_le (show 0 ≤ k by omega)
    rw [show atT T ((p : Nat) : Int) = T p from atT_nat T p]
    cases h : (T p).is with
    | true => exact bk_look_in p M (ok.isk h) h
    | false =>
      rw [(ok.ok p).off h]
      exact bk_look_no p M (Or.inr h)
theorem bo_count (H : Bo w lo hi bb n now tu T) : Calls Tryd.prog 15 #[.pointer (some ⟨bb, 0, none⟩)] w fun e w' => e = .returned (.int .i64 (cnt (fun k => (T k).is) n : Nat)) ∧ w = w' := by
  obtain ⟨rb, ro, pb, po, b, g, l', h', wb, M, r, s⟩ := H
  exact bk_count M
theorem bo_armed (H : Bo w lo hi bb n now tu T) : Calls Tryd.prog 14 #[.pointer (some ⟨bb, 0, none⟩)] w fun e w' => e = .returned (.int .i64 (setN (onW T) n : Nat)) ∧ w = w' := by
  obtain ⟨rb, ro, pb, po, b, g, l', h', wb, M, r, s⟩ := H
  exact bk_armed M
theorem bo_make_some (p : Nat) (H : Bo w lo hi bb n now tu T) (hT : TabAt w) (hp : p < n) (his : (T p).is = false) (hl : ∀ q, q < p → (T q).is = true) :
    Calls Tryd.prog 9 #[.pointer (some ⟨bb, 0, none⟩)] w fun e w' => e = .returned (.tuple #[.int .i64 p, .bool true]) ∧ Only lo hi w w' ∧ Bo w' lo hi bb n now tu (upV T p Ti.idle) := by
  obtain ⟨rb, ro, pb, po, b, g, l', h', wb, M, r, s⟩ := H
  exact (bk_make_some p M hT hp his hl).mono fun e w' ⟨he, t, c⟩ => ⟨he, t.only (by omega) (by omega) (by omega) (by omega), rb, ro, pb, po, b, g, l', h', wb, c, r, Nat.le_trans s t.size⟩
theorem bo_make_none (H : Bo w lo hi bb n now tu T) (hT : TabAt w) (hl : ∀ q, q < n → (T q).is = true) :
    Calls Tryd.prog 9 #[.pointer (some ⟨bb, 0, none⟩)] w fun e w' => e = .returned (.tuple #[.int .i64 0, .bool false]) ∧ w.grownBy w' none := by
  obtain ⟨rb, ro, pb, po, b, g, l', h', wb, M, r, s⟩ := H
  exact bk_make_none M hT hl
theorem bo_free (k : Int) (H : Bo w lo hi bb n now tu T) :
    Calls Tryd.prog 17 #[.pointer (some ⟨bb, 0, none⟩), .int .i64 k] w fun e w' => e = .returned (.bool (atT T k).is) ∧ Only lo hi w w' ∧ Bo w' lo hi bb n now tu (upT T k Ti.none) := by
  have ok := H.ok
  have HH := H
  obtain ⟨rb, ro, pb, po, b, g, l', h', wb, M, r, s⟩ := H
  by_cases hk : k < 0
  · have e : atT T k = Ti.none := by unfold atT; rw [if_pos hk]
    have e2 : upT T k Ti.none = T := by unfold upT; rw [if_pos hk]
    rw [e, e2]
    exact (bk_free_no k M (Or.inl hk)).mono fun e w' ⟨he, t⟩ => ⟨he, Only.of_none t, HH.grown t⟩
  · obtain ⟨p, rfl⟩ := Int.eq_ofNat_of_zero_le (show 0 ≤ k by omega)
    rw [show atT T ((p : Nat) : Int) = T p from atT_nat T p, show upT T ((p : Nat) : Int) Ti.none = upV T p Ti.none from upT_nat T p _]
    cases h : (T p).is with
    | true => exact (bk_free_in p M (ok.isk h) h).mono fun e w' ⟨he, t, c⟩ => ⟨he, t.only (by omega) (by omega) (by omega) (by omega), rb, ro, pb, po, b, g, l', h', wb, c, r, Nat.le_trans s t.size⟩
    | false =>
      rw [← (ok.ok p).off h, SA.upV_self]
      exact (bk_free_no p M (Or.inr h)).mono fun e w' ⟨he, t⟩ => ⟨he, Only.of_none t, HH.grown t⟩
theorem bo_arm (k : Int) (hd t pe : Nat) (H : Bo w lo hi bb n now tu T) (bh : hd < 18446744073709551616) (bt : t < 18446744073709551616) (bp : pe < 18446744073709551616) (htu : tu + 1 < 18446744073709551616) :
    Calls Tryd.prog 10 #[.pointer (some ⟨bb, 0, none⟩), .int .i64 k, .int .u64 (hd : Nat), .int .u64 (t : Nat), .int .u64 (pe : Nat)] w fun e w' => e = .returned (.bool (atT T k).is) ∧ Only lo hi w w' ∧ Bo w' lo hi bb n now (if (atT T k).is = true then tu + 1 else tu) (if (atT T k).is = true then upT T k ⟨true, 1, hd, t, pe, tu⟩ else T) := by
  have ok := H.ok
  have HH := H
  obtain ⟨rb, ro, pb, po, b, g, l', h', wb, M, r, s⟩ := H
  by_cases hk : k < 0
  · have e : atT T k = Ti.none := by unfold atT; rw [if_pos hk]
    rw [e, if_neg (show ¬ Ti.none.is = true by decide), if_neg (show ¬ Ti.none.is = true by decide)]
    exact (bk_arm_no k hd t pe M (Or.inl hk)).mono fun e w' ⟨he, t⟩ => ⟨he, Only.of_none t, HH.grown t⟩
  · obtain ⟨p, rfl⟩ := Int.eq_ofNat_of_zero_le (show 0 ≤ k by omega)
    rw [show atT T ((p : Nat) : Int) = T p from atT_nat T p, show upT T ((p : Nat) : Int) ⟨true, 1, hd, t, pe, tu⟩ = upV T p ⟨true, 1, hd, t, pe, tu⟩ from upT_nat T p _]
    cases h : (T p).is with
    | true =>
      rw [if_pos rfl, if_pos rfl]
      exact (bk_arm_in p hd t pe M (ok.isk h) h bh bt bp htu).mono fun e w' ⟨he, t, c⟩ => ⟨he, t.only (by omega) (by omega) (by omega) (by omega), rb, ro, pb, po, b, g, l', h', wb, c, r, Nat.le_trans s t.size⟩
    | false =>
      rw [if_neg (by decide), if_neg (by decide)]
      exact (bk_arm_no p hd t pe M (Or.inr h)).mono fun e w' ⟨he, t⟩ => ⟨he, Only.of_none t, HH.grown t⟩
theorem bo_stop (k : Int) (H : Bo w lo hi bb n now tu T) :
    Calls Tryd.prog 16 #[.pointer (some ⟨bb, 0, none⟩), .int .i64 k] w fun e w' => e = .returned (.bool (decide ((atT T k).st ≠ 0))) ∧ Only lo hi w w' ∧ Bo w' lo hi bb n now tu (if (atT T k).st ≠ 0 then upT T k Ti.idle else T) := by
  have ok := H.ok
  have HH := H
  obtain ⟨rb, ro, pb, po, b, g, l', h', wb, M, r, s⟩ := H
  by_cases hk : k < 0
  · have e : atT T k = Ti.none := by unfold atT; rw [if_pos hk]
    rw [e, if_neg (show ¬ Ti.none.st ≠ 0 by decide)]
    exact (bk_stop_no k M (Or.inl hk)).mono fun e w' ⟨he, t⟩ => ⟨he, Only.of_none t, HH.grown t⟩
  · obtain ⟨p, rfl⟩ := Int.eq_ofNat_of_zero_le (show 0 ≤ k by omega)
    rw [show atT T ((p : Nat) : Int) = T p from atT_nat T p, show upT T ((p : Nat) : Int) Ti.idle = upV T p Ti.idle from upT_nat T p _]
    by_cases h : (T p).st = 0
    · rw [if_neg (by simpa using h), show decide ((T p).st ≠ 0) = false by simp [h]]
      exact (bk_stop_no p M (Or.inr (by simpa using h))).mono fun e w' ⟨he, t⟩ => ⟨he, Only.of_none t, HH.grown t⟩
    · rw [if_pos h, show decide ((T p).st ≠ 0) = true by simp [h]]
      exact (bk_stop_in p M (M.isd h).2 h).mono fun e w' ⟨he, t, c⟩ => ⟨he, t.only (by omega) (by omega) (by omega) (by omega), rb, ro, pb, po, b, g, l', h', wb, c, r, Nat.le_trans s t.size⟩
theorem bo_sent (k : Int) (s : Nat) (H : Bo w lo hi bb n now tu T) (bs : s < 18446744073709551616) (htu : tu + 1 < 18446744073709551616) :
    Calls Tryd.prog 13 #[.pointer (some ⟨bb, 0, none⟩), .int .i64 k, .int .u64 (s : Nat)] w fun e w' => e = .returned (.int .u64 (sentV (atT T k) s : Nat)) ∧ Only lo hi w w' ∧ Bo w' lo hi bb n now (sentU (atT T k) s tu) (upT T k (sentX (atT T k) s tu)) := by
  have HH := H
  obtain ⟨rb, ro, pb, po, b, g, l', h', wb, M, r, sz⟩ := H
  by_cases h2 : (atT T k).st = 2
  · have hk : ¬ k < 0 := fun hk => by
      rw [show atT T k = Ti.none by unfold atT; rw [if_pos hk]] at h2; cases h2
    obtain ⟨p, rfl⟩ := Int.eq_ofNat_of_zero_le (show 0 ≤ k by omega)
    rw [show atT T ((p : Nat) : Int) = T p from atT_nat T p] at *
    rw [show upT T ((p : Nat) : Int) (sentX (T p) s tu) = upV T p (sentX (T p) s tu) from upT_nat T p _]
    have e1 : sentV (T p) s = if overT (T p) s then 1 else turnsN (T p).t (T p).p s := by unfold sentV; rw [if_neg (fun h => h h2)]
    have e2 : sentX (T p) s tu = if overT (T p) s then Ti.idle else ⟨true, 1, (T p).h, (T p).t + turnsN (T p).t (T p).p s * (T p).p, (T p).p, tu⟩ := by unfold sentX; rw [if_neg (fun h => h h2)]
    have e3 : sentU (T p) s tu = if overT (T p) s then tu else tu + 1 := by unfold sentU; rw [if_neg (fun h => h h2)]
    rw [e1, e2, e3]
    by_cases ho : overT (T p) s
    · rw [if_pos ho, if_pos ho, if_pos ho]
      exact (bk_sent_once p s M h2 bs ho).mono fun e w' ⟨he, t, c⟩ => ⟨he, t.only (by omega) (by omega) (by omega) (by omega), rb, ro, pb, po, b, g, l', h', wb, c, r, Nat.le_trans sz t.size⟩
    · rw [if_neg ho, if_neg ho, if_neg ho]
      unfold overT at ho
      exact (bk_sent_again p s M h2 bs (by omega) (by omega) htu).mono fun e w' ⟨he, t, c⟩ => ⟨he, t.only (by omega) (by omega) (by omega) (by omega), rb, ro, pb, po, b, g, l', h', wb, c, r, Nat.le_trans sz t.size⟩
  · unfold sentV sentX sentU
    rw [if_pos h2, if_pos h2, if_pos h2, upT_self]
    refine (bk_sent_no k s M ?_).mono fun e w' ⟨he, t⟩ => ⟨he, Only.of_none t, HH.grown t⟩
    by_cases hk : k < 0
    · exact Or.inl hk
    · refine Or.inr ?_
      unfold atT at h2
      rwa [if_neg hk] at h2
theorem bo_to (tg : Nat) (H : Bo w lo hi bb n now tu T) (htg : tg < 18446744073709551616) :
    Calls Tryd.prog 11 #[.pointer (some ⟨bb, 0, none⟩), .int .u64 (tg : Nat)] w fun e w' => ∃ (R : List Nat) (r cp : Nat), e = .returned (.slice (some ⟨r, 0, none⟩) R.length cp) ∧ RowOf w' w.heap.size r cp R ∧ Only lo hi w w' ∧ Bo w' lo hi bb n (max now tg) tu (dueT T R) ∧ R.Nodup ∧ (∀ k, k ∈ R ↔ (T k).st = 1 ∧ (T k).t ≤ max now tg) ∧ R.Pairwise fun a b => (T a).t < (T b).t ∨ (T a).t = (T b).t ∧ (T a).u < (T b).u := by
  obtain ⟨rb, ro, pb, po, b, g, l', h', wb, M, r, s⟩ := H
  exact (bk_to tg M htg).mono fun e w' ⟨R, rr, cp, he, hr, t, c, x⟩ => ⟨R, rr, cp, he, hr, t.only (by omega) (by omega) (by omega) (by omega), ⟨rb, ro, pb, po, b, g, l', h', wb, c, r, Nat.le_trans s t.size⟩, x⟩
end
/-- A new book in a region of a slab in which nothing is taken. -/
theorem bo_new {w : World} {lo hi sb rb m : Nat} {n : Nat → Nat} (k now : Nat) (hnow : now < 18446744073709551616) (hk : k < m) (H : SA.SlabAt w lo hi sb rb m n (fun _ _ => false) (fun _ _ => SA.Pr.none)) :
    Calls Tryd.prog 20 #[.pointer (some ⟨rb, 2 * k, none⟩), .int .u64 (now : Nat)] w fun e w' => ∃ bb, e = .returned (.pointer (some ⟨bb, 0, none⟩)) ∧ w.grownBy w' none ∧ Bo w' lo w'.heap.size bb (n k) now 0 (fun _ => Ti.none) := by
  obtain ⟨pb, po, b, g, H⟩ := H
  obtain ⟨a1, a2, a3, a4, a5, a6, a7⟩ := H.r0
  have r1 := H.r1 k hk
  refine (bk_new now hnow (H.reg k hk)).mono ?_
  rintro e w' ⟨bb, wb, he, hg, h1, h2, C⟩
  have := hg.size
  exact ⟨bb, he, hg, rb, 2 * k, pb, po k, b k, g k, w.heap.size, bb, wb, C, by omega, Nat.le_refl _⟩
end Go.Proofs.YtkkodhjolgcokaaDoor
/-
  The table deBruijn64tab behind what turns elsewhere; the sizes of a slab's regions as a literal of one or two numbers.
-/
namespace Go.Proofs.YtkkodhjolgcokaaDoor
open Go.RowKit Go.Lib

theorem tab_only {w w' : World} {lo hi : Nat} (h : TabAt w) (k : Only lo hi w w') (h0 : 0 < lo) : TabAt w' := fun j hj => by
  have hc := h j hj
  exact (k.cell ⟨0, j, none⟩ (World.block_lt_of_cell? w ⟨0, j, none⟩ hc) (Or.inl h0)).trans hc
theorem tab_pos {w : World} (h : TabAt w) : 0 < w.heap.size := World.block_lt_of_cell? w ⟨0, 0, none⟩ (h 0 (by decide))
theorem caps_one (w : World) (x : Int) : CapsAt (w.alloc (.cells #[.int .i64 x] 3)) (some ⟨w.heap.size, 0, none⟩) 1 1 (fun _ => x) :=
  ⟨Nat.le_refl _, by decide, fun _ => ⟨w.heap.size, 0, rfl, by simp, fun j hj => by
    have : j = 0 := by omega
    subst this
    rw [World.cell?_alloc_new]; rfl⟩⟩
theorem caps_two (w : World) (x y : Int) : CapsAt (w.alloc (.cells #[.int .i64 x, .int .i64 y] 3)) (some ⟨w.heap.size, 0, none⟩) 2 2 (fun j => if j = 0 then x else y) :=
  ⟨Nat.le_refl _, by decide, fun _ => ⟨w.heap.size, 0, rfl, by simp, fun j hj => by
    rw [World.cell?_alloc_new]
    match j, hj with
    | 0, _ => rfl
    | 1, _ => rfl⟩⟩
theorem caps_three (w : World) (x y z : Int) : CapsAt (w.alloc (.cells #[.int .i64 x, .int .i64 y, .int .i64 z] 3)) (some ⟨w.heap.size, 0, none⟩) 3 3 (fun j => if j = 0 then x else if j = 1 then y else z) :=
  ⟨Nat.le_refl _, by decide, fun _ => ⟨w.heap.size, 0, rfl, by simp, fun j hj => by
    rw [World.cell?_alloc_new]
    match j, hj with
    | 0, _ => rfl
    | 1, _ => rfl
    | 2, _ => rfl⟩⟩

end Go.Proofs.YtkkodhjolgcokaaDoor
/-
  A book of at most two timers; each call on a timer that there is.
-/
namespace Go.Proofs.YtkkodhjolgcokaaDoor
open Go.RowKit Go.Lib

/-- Two timers. -/
def two (a b : Ti) : Nat → Ti := fun k => if k = 0 then a else if k = 1 then b else Ti.none
theorem two_none : (fun _ => Ti.none) = two Ti.none Ti.none := by funext k; unfold two; split; · rfl
                                                                  split <;> rfl
theorem two_up0 (a b x : Ti) : upV (two a b) 0 x = two x b := by
  funext k
  by_cases e : k = 0
  · subst e; rw [upV_same]; rfl
  · rw [upV_other _ _ _ _ e]; unfold two; rw [if_neg e, if_neg e]
theorem two_up1 (a b x : Ti) : upV (two a b) 1 x = two a x := by
  funext k
  by_cases e : k = 1
  · subst e; rw [upV_same]; rfl
  · rw [upV_other _ _ _ _ e]; unfold two; rw [if_neg e, if_neg e]
theorem two_0 (a b : Ti) : two a b 0 = a := rfl
theorem two_1 (a b : Ti) : two a b 1 = b := rfl
theorem two_far (a b : Ti) (k : Nat) (h : 2 ≤ k) : two a b k = Ti.none := by unfold two; rw [if_neg (by omega), if_neg (by omega)]
theorem two_due (a b : Ti) (R : List Nat) (h : ∀ k, k ∈ R → k < 2) : dueT (two a b) R = two (if 0 ∈ R then a.due else a) (if 1 ∈ R then b.due else b) := by
  funext k
  unfold dueT
  match k with
  | 0 => rw [two_0, two_0]
  | 1 => rw [two_1, two_1]
  | k + 2 => rw [if_neg (fun x => absurd (h _ x) (by omega)), two_far _ _ _ (by omega), two_far _ _ _ (by omega)]
theorem two_lt (a b : Ti) (R : List Nat) (t : Nat) (h : ∀ k, k ∈ R ↔ (two a b k).st = 1 ∧ (two a b k).t ≤ t) (k : Nat) (hk : k ∈ R) : k < 2 := by
  rcases Nat.lt_or_ge k 2 with h1 | h1
  · exact h1
  · have := ((h k).1 hk).1
    rw [two_far _ _ _ h1] at this
    cases this

section
variable {w w' : World} {lo hi bb n now tu : Nat} {T : Nat → Ti}
theorem bo_look_in (p : Nat) (H : Bo w lo hi bb n now tu T) :
    Calls Tryd.prog 12 #[.pointer (some ⟨bb, 0, none⟩), .int .i64 p] w fun e w' => e = .returned (.tuple #[.agg #[.int .i64 ((T p).st : Nat), .int .u64 ((T p).h : Nat), .int .u64 ((T p).t : Nat), .int .u64 ((T p).p : Nat)], .bool (T p).is]) ∧ w.grownBy w' none := by
  have h := bo_look (p : Int) H
  rw [atT_nat] at h
  exact h
theorem bo_free_in (p : Nat) (H : Bo w lo hi bb n now tu T) :
    Calls Tryd.prog 17 #[.pointer (some ⟨bb, 0, none⟩), .int .i64 p] w fun e w' => e = .returned (.bool (T p).is) ∧ Only lo hi w w' ∧ Bo w' lo hi bb n now tu (upV T p Ti.none) := by
  have h := bo_free (p : Int) H
  rw [atT_nat, upT_nat] at h
  exact h
theorem bo_arm_in (p hd t pe : Nat) (H : Bo w lo hi bb n now tu T) (his : (T p).is = true) (bh : hd < 18446744073709551616) (bt : t < 18446744073709551616) (bp : pe < 18446744073709551616) (htu : tu + 1 < 18446744073709551616) :
    Calls Tryd.prog 10 #[.pointer (some ⟨bb, 0, none⟩), .int .i64 p, .int .u64 (hd : Nat), .int .u64 (t : Nat), .int .u64 (pe : Nat)] w fun e w' => e = .returned (.bool true) ∧ Only lo hi w w' ∧ Bo w' lo hi bb n now (tu + 1) (upV T p ⟨true, 1, hd, t, pe, tu⟩) := by
  have h := bo_arm (p : Int) hd t pe H bh bt bp htu
  rw [atT_nat, upT_nat, if_pos his, if_pos his, his] at h
  exact h
theorem bo_stop_in (p : Nat) (H : Bo w lo hi bb n now tu T) (hst : (T p).st ≠ 0) :
    Calls Tryd.prog 16 #[.pointer (some ⟨bb, 0, none⟩), .int .i64 p] w fun e w' => e = .returned (.bool true) ∧ Only lo hi w w' ∧ Bo w' lo hi bb n now tu (upV T p Ti.idle) := by
  have h := bo_stop (p : Int) H
  rw [atT_nat, upT_nat, if_pos hst, decide_eq_true hst] at h
  exact h
theorem bo_stop_no (p : Nat) (H : Bo w lo hi bb n now tu T) (hst : (T p).st = 0) :
    Calls Tryd.prog 16 #[.pointer (some ⟨bb, 0, none⟩), .int .i64 p] w fun e w' => e = .returned (.bool false) ∧ Only lo hi w w' ∧ Bo w' lo hi bb n now tu T := by
  have h := bo_stop (p : Int) H
  have hn : ¬ (T p).st ≠ 0 := fun x => x hst
  rw [atT_nat, if_neg hn, decide_eq_false hn] at h
  exact h
theorem bo_sent_in (p s : Nat) (H : Bo w lo hi bb n now tu T) (bs : s < 18446744073709551616) (htu : tu + 1 < 18446744073709551616) :
    Calls Tryd.prog 13 #[.pointer (some ⟨bb, 0, none⟩), .int .i64 p, .int .u64 (s : Nat)] w fun e w' => e = .returned (.int .u64 (sentV (T p) s : Nat)) ∧ Only lo hi w w' ∧ Bo w' lo hi bb n now (sentU (T p) s tu) (upV T p (sentX (T p) s tu)) := by
  have h := bo_sent (p : Int) s H bs htu
  rw [atT_nat, upT_nat] at h
  exact h
end
theorem sent_not (x : Ti) (s u : Nat) (h : x.st ≠ 2) : sentV x s = 0 ∧ sentX x s u = x ∧ sentU x s u = u := by
  simp [sentV, sentX, sentU, h]
theorem sent_one (x : Ti) (s u : Nat) (h : x.st = 2) (ho : overT x s) : sentV x s = 1 ∧ sentX x s u = Ti.idle ∧ sentU x s u = u := by
  simp [sentV, sentX, sentU, h, ho]
theorem sent_more (x : Ti) (s u : Nat) (h : x.st = 2) (ho : ¬ overT x s) : sentV x s = turnsN x.t x.p s ∧ sentX x s u = ⟨true, 1, x.h, x.t + turnsN x.t x.p s * x.p, x.p, u⟩ ∧ sentU x s u = u + 1 := by
  simp [sentV, sentX, sentU, h, ho]
theorem list_one {R : List Nat} {a : Nat} (hn : R.Nodup) (hm : ∀ k, k ∈ R ↔ k = a) : R = [a] := by
  match R, hn, hm with
  | [], _, hm => exact absurd ((hm a).2 rfl) (by simp)
  | [x], _, hm => rw [(hm x).1 (by simp)]
  | x :: y :: l, hn, hm =>
    have h1 := (hm x).1 (by simp)
    have h2 := (hm y).1 (by simp)
    subst h1
    subst h2
    simp at hn
theorem list_two {R : List Nat} {a b : Nat} (hab : a ≠ b) (hn : R.Nodup) (hm : ∀ k, k ∈ R ↔ k = a ∨ k = b) {P : Nat → Nat → Prop} (hp : R.Pairwise P) (hno : ¬ P b a) : R = [a, b] := by
  match R, hn, hm, hp with
  | [], _, hm, _ => exact absurd ((hm a).2 (Or.inl rfl)) (by simp)
  | [x], _, hm, _ =>
    have h1 := (hm a).2 (Or.inl rfl)
    have h2 := (hm b).2 (Or.inr rfl)
    simp at h1 h2
    omega
  | [x, y], hn, hm, hp =>
    have h1 := (hm x).1 (by simp)
    have h2 := (hm y).1 (by simp)
    have hne : x ≠ y := by simpa using hn
    have hxy : P x y := by simpa using hp
    rcases h1 with rfl | rfl <;> rcases h2 with rfl | rfl
    · exact absurd rfl hne
    · rfl
    · exact absurd hxy hno
    · exact absurd rfl hne
  | x :: y :: z :: l, hn, hm, _ =>
    have h1 := (hm x).1 (by simp)
    have h2 := (hm y).1 (by simp)
    have h3 := (hm z).1 (by simp)
    simp at hn
    omega
end Go.Proofs.YtkkodhjolgcokaaDoor
/-
  The walk of layer 8's first test 'alive', over this seat's translation: it answers true, and leaves all that was as it was.
-/
namespace Go.Proofs.YtkkodhjolgcokaaDoor
open Go.RowKit Go.Lib
set_option maxRecDepth 100000
set_option linter.unusedVariables false
set_option maxRecDepth 100000 in
set_option maxHeartbeats 16000000 in
theorem alive8 (w : World) (hT : TabAt w) : Calls Tryd.prog 7 #[] w fun e w' => e = .returned (.bool true) ∧ w.grownBy w' none := by
  have hp := tab_pos hT
  have ka := World.grownBy_alloc w (.cells #[.int .i64 2] 3) none
  have CA := Lib.hid (SA.new_made _ 1 1 _ _ (caps_one w 2))
  have KA := Lib.hid ka
  clear ka
  go_enter Tryd.func7, Tryd.ntmps7
  go_wp2_with fail
  refine CA.out.mono ?_
  rintro e u0 ⟨sb, rb, rfl, q0, A0⟩
  have g0 := grow_to KA.out q0
  have hlo : w.heap.size ≤ (w.alloc (.cells #[.int .i64 2] 3)).heap.size := KA.out.size
  generalize (w.alloc (.cells #[.int .i64 2] 3)).heap.size = lo at A0 hlo
  have hl0 : 0 < lo := by omega
  clear CA q0
  have C1 : Hid (Calls Tryd.prog 19 #[.pointer (some ⟨sb, 0, none⟩), .int .i64 0] u0 fun e w' => e = .returned (.pointer (some ⟨rb, 0, none⟩)) ∧ u0.grownBy w' none) := Lib.hid (SA.region_in 0 A0 (by decide))
  go_wp2_with fail
  refine C1.out.mono ?_
  rintro e u1 ⟨rfl, q1⟩
  have A1 := A0.grown q1
  have g1 := grow_to g0 q1
  clear C1 A0 g0 q1
  have C1 : Hid (Calls Tryd.prog 19 #[.pointer (some ⟨sb, 0, none⟩), .int .i64 0] u1 fun e w' => e = .returned (.pointer (some ⟨rb, 0, none⟩)) ∧ u1.grownBy w' none) := Lib.hid (SA.region_in 0 A1 (by decide))
  go_wp2_with fail
  refine C1.out.mono ?_
  rintro e u2 ⟨rfl, q2⟩
  have A2 := A1.grown q2
  have g2 := grow_to g1 q2
  clear C1 A1 g1 q2
  have C1 : Hid (Calls Tryd.prog 20 #[.pointer (some ⟨rb, 0, none⟩), .int .u64 100] u2 fun e w' => ∃ bb, e = .returned (.pointer (some ⟨bb, 0, none⟩)) ∧ u2.grownBy w' none ∧ Bo w' lo w'.heap.size bb 2 100 0 (two Ti.none Ti.none)) := Lib.hid (by
    have h := bo_new 0 100 (by decide) (by decide) A2
    rw [two_none] at h
    exact h)
  go_wp2_with fail
  refine C1.out.mono ?_
  rintro e v0 ⟨bb, rfl, k0, h0⟩
  have G0 := Lib.hid (grow_to g2 k0)
  have T0 := Lib.hid (hT.kept G0.out)
  obtain ⟨hi, hhi⟩ : ∃ h, h = v0.heap.size := ⟨_, rfl⟩
  rw [← hhi] at h0
  have H0 := Lib.hid h0
  replace hhi := Lib.hid (Nat.le_of_eq hhi)
  clear C1 A2 g2 k0 hT h0 KA hp
  have C : Hid (Calls Tryd.prog 9 #[.pointer (some ⟨bb, 0, none⟩)] v0 fun e w' => e = .returned (.tuple #[.int .i64 0, .bool true]) ∧ Only lo hi v0 w' ∧ Bo w' lo hi bb 2 100 0 (two Ti.idle Ti.none)) := Lib.hid (by
    have h := bo_make_some 0 H0.out T0.out (by decide) rfl (fun q h => absurd h (Nat.not_lt_zero q))
    rw [two_up0] at h
    exact h)
  go_wp2_with fail
  refine C.out.mono ?_
  rintro e v1 ⟨rfl, k, h⟩
  clear C
  have H1 := Lib.hid h
  have G1 := Lib.hid (Only.on G0.out k hlo)
  have T1 := Lib.hid (tab_only T0.out k hl0)
  clear H0 G0 k h T0
  replace hhi : Hid (hi ≤ v1.heap.size) := Lib.hid H1.out.sz
  have C : Hid (Calls Tryd.prog 9 #[.pointer (some ⟨bb, 0, none⟩)] v1 fun e w' => e = .returned (.tuple #[.int .i64 1, .bool true]) ∧ Only lo hi v1 w' ∧ Bo w' lo hi bb 2 100 0 (two Ti.idle Ti.idle)) := Lib.hid (by
    have h := bo_make_some 1 H1.out T1.out (by decide) rfl (fun q h => by
      obtain rfl : q = 0 := by omega
      rfl)
    rw [two_up1] at h
    exact h)
  go_wp2_with fail
  refine C.out.mono ?_
  rintro e v2 ⟨rfl, k, h⟩
  clear C
  have H2 := Lib.hid h
  have G2 := Lib.hid (Only.on G1.out k hlo)
  have T2 := Lib.hid (tab_only T1.out k hl0)
  clear H1 G1 k h T1
  have C : Hid (Calls Tryd.prog 9 #[.pointer (some ⟨bb, 0, none⟩)] v2 fun e w' => e = .returned (.tuple #[.int .i64 0, .bool false]) ∧ v2.grownBy w' none) := Lib.hid (by
    exact bo_make_none H2.out T2.out (fun q hq => by
      match q, hq with
      | 0, _ => rfl
      | 1, _ => rfl))
  go_wp2_with fail
  refine C.out.mono ?_
  rintro e v3 ⟨rfl, k⟩
  clear C
  have H3 := Lib.hid (H2.out.grown k)
  have G3 := Lib.hid (G2.out.trans k)
  have T3 := Lib.hid (T2.out.kept k)
  clear H2 G2 k T2
  clear T3
  have C : Hid (Calls Tryd.prog 10 #[.pointer (some ⟨bb, 0, none⟩), .int .i64 0, .int .u64 7, .int .u64 150, .int .u64 20] v3 fun e w' => e = .returned (.bool true) ∧ Only lo hi v3 w' ∧ Bo w' lo hi bb 2 100 1 (two ⟨true, 1, 7, 150, 20, 0⟩ Ti.idle)) := Lib.hid (by
    have h := bo_arm_in 0 7 150 20 H3.out rfl (by decide) (by decide) (by decide) (by decide)
    rw [two_up0] at h
    exact h)
  go_wp2_with fail
  refine C.out.mono ?_
  rintro e v4 ⟨rfl, k, h⟩
  clear C
  have H4 := Lib.hid h
  have G4 := Lib.hid (Only.on G3.out k hlo)
  clear H3 G3 k h
  have C : Hid (Calls Tryd.prog 10 #[.pointer (some ⟨bb, 0, none⟩), .int .i64 1, .int .u64 8, .int .u64 140, .int .u64 0] v4 fun e w' => e = .returned (.bool true) ∧ Only lo hi v4 w' ∧ Bo w' lo hi bb 2 100 2 (two ⟨true, 1, 7, 150, 20, 0⟩ ⟨true, 1, 8, 140, 0, 1⟩)) := Lib.hid (by
    have h := bo_arm_in 1 8 140 0 H4.out rfl (by decide) (by decide) (by decide) (by decide)
    rw [two_up1] at h
    exact h)
  go_wp2_with fail
  refine C.out.mono ?_
  rintro e v5 ⟨rfl, k, h⟩
  clear C
  have H5 := Lib.hid h
  have G5 := Lib.hid (Only.on G4.out k hlo)
  clear H4 G4 k h
  have C : Hid (Calls Tryd.prog 11 #[.pointer (some ⟨bb, 0, none⟩), .int .u64 160] v5 fun e w' => ∃ r cp, e = .returned (.slice (some ⟨r, 0, none⟩) 2 cp) ∧ RowOf w' hi r cp [1, 0] ∧ Only lo hi v5 w' ∧ Bo w' lo hi bb 2 160 2 (two ⟨true, 2, 7, 150, 20, 0⟩ ⟨true, 2, 8, 140, 0, 1⟩)) := Lib.hid (by
    refine (bo_to 160 H5.out (by decide)).mono ?_
    rintro e w' ⟨R, r, cp, he, hr, hk, hb, hn, hm, hs⟩
    have hR : R = [1, 0] := list_two (by decide) hn (fun k => by
      rw [hm k]
      match k with
      | 0 => decide
      | 1 => decide
      | k + 2 => rw [two_far _ _ _ (by omega)]; simp [Ti.none]) hs (by decide)
    subst hR
    rw [two_due _ _ _ (by decide)] at hb
    exact ⟨r, cp, he, hr.mono H5.out.sz, hk, hb⟩)
  go_wp2_with fail
  refine C.out.mono ?_
  rintro e v6 ⟨r, cp, rfl, hr, k, h⟩
  have R6 := Lib.hid hr
  clear C hr
  have H6 := Lib.hid h
  have G6 := Lib.hid (Only.on G5.out k hlo)
  clear H5 G5 k h
  have hhi : Hid (hi ≤ hi) := Lib.hid (Nat.le_refl _)
  have C : Hid (Calls Tryd.prog 13 #[.pointer (some ⟨bb, 0, none⟩), .int .i64 1, .int .u64 160] v6 fun e w' => e = .returned (.int .u64 1) ∧ Only lo hi v6 w' ∧ Bo w' lo hi bb 2 160 2 (two ⟨true, 2, 7, 150, 20, 0⟩ Ti.idle)) := Lib.hid (by
    have h := bo_sent_in 1 160 H6.out (by decide) (by decide)
    rw [two_1] at h
    obtain ⟨e1, e2, e3⟩ := sent_one ⟨true, 2, 8, 140, 0, 1⟩ 160 2 rfl (Or.inl rfl)
    rw [e1, e2, e3, two_up1] at h
    exact h)
  go_wp2_with fail
  refine C.out.mono ?_
  rintro e v7 ⟨rfl, k, h⟩
  clear C
  have H7 := Lib.hid h
  have G7 := Lib.hid (Only.on G6.out k hlo)
  have R7 := Lib.hid (R6.out.only k (Or.inr (Nat.le_trans hhi.out R6.out.lt.1)))
  clear H6 G6 k h R6
  have C : Hid (Calls Tryd.prog 13 #[.pointer (some ⟨bb, 0, none⟩), .int .i64 0, .int .u64 160] v7 fun e w' => e = .returned (.int .u64 1) ∧ Only lo hi v7 w' ∧ Bo w' lo hi bb 2 160 3 (two ⟨true, 1, 7, 170, 20, 2⟩ Ti.idle)) := Lib.hid (by
    have h := bo_sent_in 0 160 H7.out (by decide) (by decide)
    rw [two_0] at h
    obtain ⟨e1, e2, e3⟩ := sent_more ⟨true, 2, 7, 150, 20, 0⟩ 160 2 rfl (by unfold overT; decide)
    rw [e1, e2, e3, two_up0] at h
    exact h)
  go_wp2_with fail
  refine C.out.mono ?_
  rintro e v8 ⟨rfl, k, h⟩
  clear C
  have H8 := Lib.hid h
  have G8 := Lib.hid (Only.on G7.out k hlo)
  have R8 := Lib.hid (R7.out.only k (Or.inr (Nat.le_trans hhi.out R7.out.lt.1)))
  clear H7 G7 k h R7
  have C : Hid (Calls Tryd.prog 12 #[.pointer (some ⟨bb, 0, none⟩), .int .i64 0] v8 fun e w' => e = .returned (.tuple #[.agg #[.int .i64 1, .int .u64 7, .int .u64 170, .int .u64 20], .bool true]) ∧ v8.grownBy w' none) := Lib.hid (by
    exact bo_look_in 0 H8.out)
  go_wp2_with fail
  refine C.out.mono ?_
  rintro e v9 ⟨rfl, k⟩
  clear C
  have H9 := Lib.hid (H8.out.grown k)
  have G9 := Lib.hid (G8.out.trans k)
  have R9 := Lib.hid (R8.out.kept k (by simp))
  clear H8 G8 k R8
  have k := World.grownBy_alloc v9 (.cells #[.int .i64 1, .int .u64 7, .int .u64 170, .int .u64 20] 33) none
  have kk := Lib.hid k
  have H10 := Lib.hid (H9.out.grown k)
  have G10 := Lib.hid (G9.out.trans k)
  have R10 := Lib.hid (R9.out.kept k (by simp))
  clear H9 G9 k R9
  have rc_0 : Hid ((v9.alloc (.cells #[.int .i64 1, .int .u64 7, .int .u64 170, .int .u64 20] 33)).cell? ⟨v9.heap.size, 0, none⟩ = some (.int .i64 1)) := Lib.hid (World.cell?_alloc_new ..)
  have rc_1 : Hid ((v9.alloc (.cells #[.int .i64 1, .int .u64 7, .int .u64 170, .int .u64 20] 33)).cell? ⟨v9.heap.size, 1, none⟩ = some (.int .u64 7)) := Lib.hid (World.cell?_alloc_new ..)
  have rc_2 : Hid ((v9.alloc (.cells #[.int .i64 1, .int .u64 7, .int .u64 170, .int .u64 20] 33)).cell? ⟨v9.heap.size, 2, none⟩ = some (.int .u64 170)) := Lib.hid (World.cell?_alloc_new ..)
  have rc_3 : Hid ((v9.alloc (.cells #[.int .i64 1, .int .u64 7, .int .u64 170, .int .u64 20] 33)).cell? ⟨v9.heap.size, 3, none⟩ = some (.int .u64 20)) := Lib.hid (World.cell?_alloc_new ..)
  have rcz : Hid (v9.heap.size < (v9.alloc (.cells #[.int .i64 1, .int .u64 7, .int .u64 170, .int .u64 20] 33)).heap.size) := Lib.hid (by simp)
  clear kk
  have rcB : Hid (v9.heap.size < (v9.alloc (.cells #[.int .i64 1, .int .u64 7, .int .u64 170, .int .u64 20] 33)).heap.size) := rcz
  have C : Hid (Calls Tryd.prog 12 #[.pointer (some ⟨bb, 0, none⟩), .int .i64 1] (v9.alloc (.cells #[.int .i64 1, .int .u64 7, .int .u64 170, .int .u64 20] 33)) fun e w' => e = .returned (.tuple #[.agg #[.int .i64 0, .int .u64 0, .int .u64 0, .int .u64 0], .bool true]) ∧ (v9.alloc (.cells #[.int .i64 1, .int .u64 7, .int .u64 170, .int .u64 20] 33)).grownBy w' none) := Lib.hid (by
    exact bo_look_in 1 H10.out)
  go_wp2_with fail
  refine C.out.mono ?_
  rintro e v11 ⟨rfl, k⟩
  have kk := Lib.hid k
  clear C
  have H11 := Lib.hid (H10.out.grown k)
  have G11 := Lib.hid (G10.out.trans k)
  have R11 := Lib.hid (R10.out.kept k (by simp))
  clear H10 G10 k R10
  replace rc_0 := Lib.hid ((kk.out.cell_far ⟨v9.heap.size, 0, none⟩ rcz.out (by simp)).trans rc_0.out)
  replace rc_1 := Lib.hid ((kk.out.cell_far ⟨v9.heap.size, 1, none⟩ rcz.out (by simp)).trans rc_1.out)
  replace rc_2 := Lib.hid ((kk.out.cell_far ⟨v9.heap.size, 2, none⟩ rcz.out (by simp)).trans rc_2.out)
  replace rc_3 := Lib.hid ((kk.out.cell_far ⟨v9.heap.size, 3, none⟩ rcz.out (by simp)).trans rc_3.out)
  replace rcz := Lib.hid (Nat.lt_of_lt_of_le rcz.out kk.out.size)
  clear kk
  generalize v9.heap.size = rk at *
  have rcz0 := rcz.out
  clear rcB
  have k := World.grownBy_alloc v11 (.cells #[.int .i64 0, .int .u64 0, .int .u64 0, .int .u64 0] 33) none
  have kk := Lib.hid k
  have H12 := Lib.hid (H11.out.grown k)
  have G12 := Lib.hid (G11.out.trans k)
  have R12 := Lib.hid (R11.out.kept k (by simp))
  clear H11 G11 k R11
  replace rc_0 := Lib.hid ((kk.out.cell_far ⟨rk, 0, none⟩ rcz.out (by simp)).trans rc_0.out)
  replace rc_1 := Lib.hid ((kk.out.cell_far ⟨rk, 1, none⟩ rcz.out (by simp)).trans rc_1.out)
  replace rc_2 := Lib.hid ((kk.out.cell_far ⟨rk, 2, none⟩ rcz.out (by simp)).trans rc_2.out)
  replace rc_3 := Lib.hid ((kk.out.cell_far ⟨rk, 3, none⟩ rcz.out (by simp)).trans rc_3.out)
  replace rcz := Lib.hid (Nat.lt_of_lt_of_le rcz.out kk.out.size)
  have hne_rcqc : rk ≠ v11.heap.size := by have := rcz0; omega
  have qc_0 : Hid ((v11.alloc (.cells #[.int .i64 0, .int .u64 0, .int .u64 0, .int .u64 0] 33)).cell? ⟨v11.heap.size, 0, none⟩ = some (.int .i64 0)) := Lib.hid (World.cell?_alloc_new ..)
  have qc_1 : Hid ((v11.alloc (.cells #[.int .i64 0, .int .u64 0, .int .u64 0, .int .u64 0] 33)).cell? ⟨v11.heap.size, 1, none⟩ = some (.int .u64 0)) := Lib.hid (World.cell?_alloc_new ..)
  have qc_2 : Hid ((v11.alloc (.cells #[.int .i64 0, .int .u64 0, .int .u64 0, .int .u64 0] 33)).cell? ⟨v11.heap.size, 2, none⟩ = some (.int .u64 0)) := Lib.hid (World.cell?_alloc_new ..)
  have qc_3 : Hid ((v11.alloc (.cells #[.int .i64 0, .int .u64 0, .int .u64 0, .int .u64 0] 33)).cell? ⟨v11.heap.size, 3, none⟩ = some (.int .u64 0)) := Lib.hid (World.cell?_alloc_new ..)
  have qcz : Hid (v11.heap.size < (v11.alloc (.cells #[.int .i64 0, .int .u64 0, .int .u64 0, .int .u64 0] 33)).heap.size) := Lib.hid (by simp)
  clear kk
  have k := World.grownBy_alloc (v11.alloc (.cells #[.int .i64 0, .int .u64 0, .int .u64 0, .int .u64 0] 33)) (.cells #[.int .i64 1, .int .i64 0] 3) none
  have kk := Lib.hid k
  have H13 := Lib.hid (H12.out.grown k)
  have G13 := Lib.hid (G12.out.trans k)
  have R13 := Lib.hid (R12.out.kept k (by simp))
  clear H12 G12 k R12
  replace rc_0 := Lib.hid ((kk.out.cell_far ⟨rk, 0, none⟩ rcz.out (by simp)).trans rc_0.out)
  replace rc_1 := Lib.hid ((kk.out.cell_far ⟨rk, 1, none⟩ rcz.out (by simp)).trans rc_1.out)
  replace rc_2 := Lib.hid ((kk.out.cell_far ⟨rk, 2, none⟩ rcz.out (by simp)).trans rc_2.out)
  replace rc_3 := Lib.hid ((kk.out.cell_far ⟨rk, 3, none⟩ rcz.out (by simp)).trans rc_3.out)
  replace rcz := Lib.hid (Nat.lt_of_lt_of_le rcz.out kk.out.size)
  replace qc_0 := Lib.hid ((kk.out.cell_far ⟨v11.heap.size, 0, none⟩ qcz.out (by simp)).trans qc_0.out)
  replace qc_1 := Lib.hid ((kk.out.cell_far ⟨v11.heap.size, 1, none⟩ qcz.out (by simp)).trans qc_1.out)
  replace qc_2 := Lib.hid ((kk.out.cell_far ⟨v11.heap.size, 2, none⟩ qcz.out (by simp)).trans qc_2.out)
  replace qc_3 := Lib.hid ((kk.out.cell_far ⟨v11.heap.size, 3, none⟩ qcz.out (by simp)).trans qc_3.out)
  replace qcz := Lib.hid (Nat.lt_of_lt_of_le qcz.out kk.out.size)
  clear kk
  have hz : (v11.alloc (.cells #[.int .i64 0, .int .u64 0, .int .u64 0, .int .u64 0] 33)).heap.size = v11.heap.size + 1 := by simp
  have RL : Reads ((v11.alloc (.cells #[.int .i64 0, .int .u64 0, .int .u64 0, .int .u64 0] 33)).alloc (.cells #[.int .i64 1, .int .i64 0] 3)) (.slice (some ⟨v11.heap.size + 1, 0, none⟩) 2 2) [1, 0] := ⟨_, 2, rfl, fun j hj => ⟨_, 0, rfl, by simp, by
    have hj : j < 2 := hj
    match j, hj with
    | 0, _ => rw [← hz]; exact World.cell?_alloc_at _ _ _ 0 rfl
    | 1, _ => rw [← hz]; exact World.cell?_alloc_at _ _ _ 1 rfl⟩⟩
  have C : Hid (Calls Tryd.prog 21 #[.slice (some ⟨r, 0, none⟩) 2 cp, .slice (some ⟨v11.heap.size + 1, 0, none⟩) 2 2] ((v11.alloc (.cells #[.int .i64 0, .int .u64 0, .int .u64 0, .int .u64 0] 33)).alloc (.cells #[.int .i64 1, .int .i64 0] 3)) fun e w' => e = .returned (.bool true) ∧ ((v11.alloc (.cells #[.int .i64 0, .int .u64 0, .int .u64 0, .int .u64 0] 33)).alloc (.cells #[.int .i64 1, .int .i64 0] 3)).grownBy w' none) := Lib.hid (same_yes R13.out.reads RL (by decide))
  clear RL hz
  go_wp2_with fail
  refine C.out.mono ?_
  rintro e v14 ⟨rfl, k⟩
  have kk := Lib.hid k
  clear C
  have H14 := Lib.hid (H13.out.grown k)
  have G14 := Lib.hid (G13.out.trans k)
  have R14 := Lib.hid (R13.out.kept k (by simp))
  clear H13 G13 k R13
  replace rc_0 := Lib.hid ((kk.out.cell_far ⟨rk, 0, none⟩ rcz.out (by simp)).trans rc_0.out)
  replace rc_1 := Lib.hid ((kk.out.cell_far ⟨rk, 1, none⟩ rcz.out (by simp)).trans rc_1.out)
  replace rc_2 := Lib.hid ((kk.out.cell_far ⟨rk, 2, none⟩ rcz.out (by simp)).trans rc_2.out)
  replace rc_3 := Lib.hid ((kk.out.cell_far ⟨rk, 3, none⟩ rcz.out (by simp)).trans rc_3.out)
  replace rcz := Lib.hid (Nat.lt_of_lt_of_le rcz.out kk.out.size)
  replace qc_0 := Lib.hid ((kk.out.cell_far ⟨v11.heap.size, 0, none⟩ qcz.out (by simp)).trans qc_0.out)
  replace qc_1 := Lib.hid ((kk.out.cell_far ⟨v11.heap.size, 1, none⟩ qcz.out (by simp)).trans qc_1.out)
  replace qc_2 := Lib.hid ((kk.out.cell_far ⟨v11.heap.size, 2, none⟩ qcz.out (by simp)).trans qc_2.out)
  replace qc_3 := Lib.hid ((kk.out.cell_far ⟨v11.heap.size, 3, none⟩ qcz.out (by simp)).trans qc_3.out)
  replace qcz := Lib.hid (Nat.lt_of_lt_of_le qcz.out kk.out.size)
  clear kk
  generalize v11.heap.size = qk at *
  have rcp0 := rc_0.out
  have rcp1 := rc_1.out
  have rcp2 := rc_2.out
  have rcp3 := rc_3.out
  have qcp0 := qc_0.out
  have qcp1 := qc_1.out
  have qcp2 := qc_2.out
  have qcp3 := qc_3.out
  have C : Hid (Calls Tryd.prog 16 #[.pointer (some ⟨bb, 0, none⟩), .int .i64 0] v14 fun e w' => e = .returned (.bool true) ∧ Only lo hi v14 w' ∧ Bo w' lo hi bb 2 160 3 (two Ti.idle Ti.idle)) := Lib.hid (by
    have h := bo_stop_in 0 H14.out (by decide)
    rw [two_up0] at h
    exact h)
  go_wp2_with fail
  refine C.out.mono ?_
  rintro e v15 ⟨rfl, k, h⟩
  clear C
  have H15 := Lib.hid h
  have G15 := Lib.hid (Only.on G14.out k hlo)
  have R15 := Lib.hid (R14.out.only k (Or.inr (Nat.le_trans hhi.out R14.out.lt.1)))
  clear H14 G14 k h R14
  clear rc_0 rcp0 rc_1 rcp1 rc_2 rcp2 rc_3 rcp3 qc_0 qcp0 qc_1 qcp1 qc_2 qcp2 qc_3 qcp3
  have C : Hid (Calls Tryd.prog 16 #[.pointer (some ⟨bb, 0, none⟩), .int .i64 0] v15 fun e w' => e = .returned (.bool false) ∧ Only lo hi v15 w' ∧ Bo w' lo hi bb 2 160 3 (two Ti.idle Ti.idle)) := Lib.hid (by
    have h := bo_stop_no 0 H15.out rfl
    exact h)
  go_wp2_with fail
  refine C.out.mono ?_
  rintro e v16 ⟨rfl, k, h⟩
  clear C
  have H16 := Lib.hid h
  have G16 := Lib.hid (Only.on G15.out k hlo)
  have R16 := Lib.hid (R15.out.only k (Or.inr (Nat.le_trans hhi.out R15.out.lt.1)))
  clear H15 G15 k h R15
  have C : Hid (Calls Tryd.prog 14 #[.pointer (some ⟨bb, 0, none⟩)] v16 fun e w' => e = .returned (.int .i64 0) ∧ v16 = w') := Lib.hid (bo_armed H16.out)
  go_wp2_with fail
  refine (C.out).mono ?_
  rintro e w' ⟨rfl, rfl⟩
  clear C
  have C : Hid (Calls Tryd.prog 17 #[.pointer (some ⟨bb, 0, none⟩), .int .i64 0] v16 fun e w' => e = .returned (.bool true) ∧ Only lo hi v16 w' ∧ Bo w' lo hi bb 2 160 3 (two Ti.none Ti.idle)) := Lib.hid (by
    have h := bo_free_in 0 H16.out
    rw [two_up0] at h
    exact h)
  go_wp2_with fail
  refine C.out.mono ?_
  rintro e v17 ⟨rfl, k, h⟩
  clear C
  have H17 := Lib.hid h
  have G17 := Lib.hid (Only.on G16.out k hlo)
  have R17 := Lib.hid (R16.out.only k (Or.inr (Nat.le_trans hhi.out R16.out.lt.1)))
  clear H16 G16 k h R16
  have C : Hid (Calls Tryd.prog 15 #[.pointer (some ⟨bb, 0, none⟩)] v17 fun e w' => e = .returned (.int .i64 1) ∧ v17 = w') := Lib.hid (bo_count H17.out)
  go_wp2_with fail
  refine (C.out).mono ?_
  rintro e w' ⟨rfl, rfl⟩
  clear C
  go_wp2
  go_ret
  exact ⟨rfl, G17.out⟩
end Go.Proofs.YtkkodhjolgcokaaDoor
