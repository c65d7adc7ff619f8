/-
  The walk of ChainPlays, over this seat's translation: for all numbers and steps it answers true, and leaves all that was as it was.
-/
import Derived.Test.YtbkjdbimkofceaaSame4
import Derived.BigQuiet
import Derived.Deep.RegionHeld3
namespace Go.Proofs.Ytbkjdbimkofceaa
open Go.RowKit Go.Lib
set_option maxRecDepth 100000

/-- The links in memory from block lo on, the lists of the document in the box xb, the question in the box qb. -/
structure Pl4 (w : World) (lo n m xb qb : Nat) (B : Nat → Prop) (qi qk : Int) (v : Value) (L : Nat → List Nat) : Prop where
  links : LinksAt w lo n m L
  rows : Rows4 w B v m L
  x0 : w.cell? ⟨xb, 0, none⟩ = some (.int .i64 (n : Nat))
  x1 : w.cell? ⟨xb, 1, none⟩ = some v
  f0 : ∀ j, w.frozen? ⟨xb, j, none⟩ = false
  q1 : w.cell? ⟨qb, 1, none⟩ = some (.int .i64 qi)
  q2 : w.cell? ⟨qb, 2, none⟩ = some (.int .i64 qk)
  lt : qb < lo ∧ lo + 5 ≤ xb ∧ xb < w.heap.size
  hB : ∀ b, B b → b ≠ xb ∧ lo + 5 ≤ b
  hB' : ∀ b, xb < b → B b
section
variable {w w' : World} {lo n m xb qb : Nat} {B : Nat → Prop} {qi qk : Int} {v : Value} {L : Nat → List Nat}
theorem Pl4.kept (H : Pl4 w lo n m xb qb B qi qk v L) (k : w.grownBy w' none) : Pl4 w' lo n m xb qb B qi qk v L := by
  obtain ⟨l1, l2, l3⟩ := H.lt
  exact ⟨H.links.kept (Only.of_none (lo := 0) (hi := 0) k) (Or.inr (by omega)), H.rows.kept k, (k.cell_far ⟨xb, 0, none⟩ l3 (by simp)).trans H.x0, (k.cell_far ⟨xb, 1, none⟩ l3 (by simp)).trans H.x1, fun j => (k.frozen_far ⟨xb, j, none⟩ l3 (by simp)).trans (H.f0 j), (k.cell_far ⟨qb, 1, none⟩ (show qb < _ by omega) (by simp)).trans H.q1, (k.cell_far ⟨qb, 2, none⟩ (show qb < _ by omega) (by simp)).trans H.q2, ⟨l1, l2, Nat.lt_of_lt_of_le l3 k.size⟩, H.hB, H.hB'⟩
/-- Behind a step of the links, and the store of the new lists. -/
theorem Pl4.step {w1 w2 w3 : World} {v' : Value} {L' : Nat → List Nat} (H : Pl4 w lo n m xb qb B qi qk v L) (k1 : w.grownBy w1 none) (R : Rows4 w1 B v' m L') (h2 : w2 = (w1.setCell ⟨xb, 0, none⟩ (.int .i64 (n : Nat))).setCell ⟨xb, 1, none⟩ v') (k3 : Only lo (lo + 5) w2 w3) (A : LinksAt w3 lo n m L') :
    Pl4 w3 lo n m xb qb B qi qk v' L' := by
  have H1 := H.kept k1
  obtain ⟨l1, l2, l3⟩ := H1.lt
  have s2 : w2.heap.size = w1.heap.size := by rw [h2, size_set, size_set]
  have far : ∀ b j, b ≠ xb → w2.cell? ⟨b, j, none⟩ = w1.cell? ⟨b, j, none⟩ := fun b j hb => by rw [h2]; exact (set_far _ _ _ _ _ _ (Or.inl hb)).trans (set_far _ _ _ _ _ _ (Or.inl hb))
  have on2 : Only xb (xb + 1) w1 w2 := by
    rw [h2]
    exact (Only.set (lo := xb) (hi := xb + 1) w1 ⟨xb, 0, none⟩ _ (Nat.le_refl _) (Nat.lt_succ_self _)).trans (Only.set (lo := xb) (hi := xb + 1) _ ⟨xb, 1, none⟩ _ (Nat.le_refl _) (Nat.lt_succ_self _))
  have R2 := R.only on2 (fun b hb => by have := (H.hB b hb).1; omega)
  have R3 := R2.only k3 (fun b hb => by have := (H.hB b hb).2; omega)
  have c0 : w2.cell? ⟨xb, 0, none⟩ = some (.int .i64 (n : Nat)) := by rw [h2]; exact (set_far _ _ _ _ _ _ (Or.inr (by omega))).trans (World.cell?_setCell_same _ _ _ H1.x0)
  have c1 : w2.cell? ⟨xb, 1, none⟩ = some v' := by rw [h2]; exact World.cell?_setCell_same _ _ _ ((set_far _ _ _ _ _ _ (Or.inr (by omega))).trans H1.x1)
  refine ⟨A, R3, (k3.cell ⟨xb, 0, none⟩ (show xb < _ by omega) (Or.inr l2)).trans c0, (k3.cell ⟨xb, 1, none⟩ (show xb < _ by omega) (Or.inr l2)).trans c1, fun j => ?_, (k3.cell ⟨qb, 1, none⟩ (show qb < _ by omega) (Or.inl l1)).trans ((far _ _ (by omega)).trans H1.q1), (k3.cell ⟨qb, 2, none⟩ (show qb < _ by omega) (Or.inl l1)).trans ((far _ _ (by omega)).trans H1.q2), ⟨l1, l2, by have := k3.size; omega⟩, H.hB, H.hB'⟩
  refine (k3.frozen ⟨xb, j, none⟩ (show xb < _ by omega) (Or.inr l2)).trans ?_
  rw [h2]
  exact (World.frozen?_setCell ..).trans ((World.frozen?_setCell ..).trans (H1.f0 j))
end

theorem erase_filter {l : List Nat} (h : l.Nodup) (k : Nat) : l.erase k = l.filter fun x => !decide (x = k) := by
  rw [h.erase_eq_filter]
  exact List.filter_congr fun x _ => by
    by_cases e : x = k <;> simp [e]

set_option maxRecDepth 100000 in
set_option maxHeartbeats 16000000 in
theorem cplays_walk (nu li : Int) (sa : Option Addr) (len cap sb off : Nat) (zs : Nat → Nat → Int) (qd qi qk : Int) (w : World)
    (_hm : len ≤ maxLen) (hsa : 0 < len → sa = some ⟨sb, off, none⟩ ∧ sb < w.heap.size) (hz : ∀ j, j < len → ∀ i, i < 3 → w.cell? ⟨sb, off + j * 3 + i, none⟩ = some (.int .i64 (zs j i))) :
    Calls Try.prog 3 #[.int .i64 nu, .int .i64 li, .slice sa len cap, .agg #[.int .i64 qd, .int .i64 qi, .int .i64 qk]] w fun e w' => e = .returned (.bool true) ∧ w.grownBy w' none := by
  have ka := World.grownBy_alloc w (.cells #[.int .i64 qd, .int .i64 qi, .int .i64 qk] 24) none
  have C0 := Lib.hid (alive4 (w.alloc (.cells #[.int .i64 qd, .int .i64 qi, .int .i64 qk] 24)))
  have u1 : (w.alloc (.cells #[.int .i64 qd, .int .i64 qi, .int .i64 qk] 24)).cell? ⟨w.heap.size, 1, none⟩ = some (.int .i64 qi) := by simp
  have u2 : (w.alloc (.cells #[.int .i64 qd, .int .i64 qi, .int .i64 qk] 24)).cell? ⟨w.heap.size, 2, none⟩ = some (.int .i64 qk) := by simp
  have hsz : (w.alloc (.cells #[.int .i64 qd, .int .i64 qi, .int .i64 qk] 24)).heap.size = w.heap.size + 1 := by simp
  have HSA := Lib.hid hsa
  have HZ := Lib.hid hz
  have KA := Lib.hid ka
  clear hsa hz _hm ka
  by_cases hl : 50 < len
  · have ql : (50 : Int) < (len : Int) := by omega
    go_enter Try.func3, Try.ntmps3
    go_wp2_with fail
    refine C0.out.mono ?_
    rintro e w0 ⟨rfl, hG0⟩
    go_wp2
    go_ret
    exact ⟨rfl, KA.out.trans hG0⟩
  have ql : ¬ (50 : Int) < (len : Int) := by omega
  obtain ⟨n, hn⟩ : ∃ n, clampN nu = n := ⟨_, rfl⟩
  obtain ⟨m, hm⟩ : ∃ m, clampN li = m := ⟨_, rfl⟩
  go_enter Try.func3, Try.ntmps3
  go_wp2_with fail
  refine C0.out.mono ?_
  rintro e w1 ⟨rfl, k1⟩
  have s1 := k1.size
  rw [hsz] at s1
  have u1 := (k1.cell_far ⟨w.heap.size, 1, none⟩ (show w.heap.size < _ by omega) (by simp)).trans u1
  have u2 := (k1.cell_far ⟨w.heap.size, 2, none⟩ (show w.heap.size < _ by omega) (by simp)).trans u2
  have C1 := Lib.hid (new_made nu li n m hn hm w1)
  have K1 := Lib.hid (KA.out.trans k1)
  clear C0 k1 KA hsz
  go_wp2_with fail
  refine C1.out.mono ?_
  rintro e w2 ⟨lo, rfl, hlo, k2, H2⟩
  have s2 := k2.size
  have hsz2 := H2.sz
  have C2 := Lib.hid (rnew4 nu li w2)
  rw [hn, hm] at C2
  have HH2 := Lib.hid H2
  clear C1 H2
  go_wp2_with fail
  refine C2.out.mono ?_
  rintro e w3 ⟨v0, rfl, k3, s3, rr⟩
  have k4 := World.grownBy_alloc w3 (.cells #[.int .i64 (n : Nat), v0] 30) none
  have P0 : Pl4 (w3.alloc (.cells #[.int .i64 (n : Nat), v0] 30)) lo n m w3.heap.size w.heap.size (fun b => b ≠ w3.heap.size ∧ lo + 5 ≤ b) qi qk v0 (fun _ => []) := by
    have kk := (k2.trans k3).trans k4
    have s4 := k4.size
    have s3' := k3.size
    exact ⟨HH2.out.kept (Only.of_none (lo := 0) (hi := 0) (k3.trans k4)) (Or.inr (by omega)), (rr _ ⟨by omega, by omega⟩).kept k4, by simp, by simp, fun j => by simp, (kk.cell_far ⟨w.heap.size, 1, none⟩ (show w.heap.size < _ by omega) (by simp)).trans u1, (kk.cell_far ⟨w.heap.size, 2, none⟩ (show w.heap.size < _ by omega) (by simp)).trans u2, ⟨by omega, by omega, by simp⟩, fun b hb => hb, fun b hb => ⟨by omega, by omega⟩⟩
  have HP := Lib.hid P0
  have HG := Lib.hid (((K1.out.trans k2).trans k3).trans k4)
  have x0 := P0.x0
  have x1 := P0.x1
  have hv0 : ∃ b c, v0 = .slice (some ⟨b, 0, none⟩) m c := by
    obtain ⟨R, cp, V, h, _⟩ := P0.rows
    exact ⟨R, cp, h⟩
  obtain ⟨vb, vc, rfl⟩ := hv0
  clear C2 P0 rr HH2 u1 u2 K1 k2 k3 k4 hn hm
  go_upto_region 7 with fail
  generalize w3.alloc (.cells #[.int .i64 (n : Nat), .slice (some ⟨vb, 0, none⟩) m vc] 30) = w4 at *
  obtain ⟨B, hBe⟩ : ∃ B : Nat → Prop, B = fun b => b ≠ w3.heap.size ∧ lo + 5 ≤ b := ⟨_, rfl⟩
  rw [← hBe] at HP
  generalize w3.heap.size = xb at *
  generalize hqb : w.heap.size = qb at *
  clear hBe s2 s3 hsz2 hlo s1
  go_quiet ((first | (go_at_call 9; exact Calls.quiet_of_same ((numbers_any (HP.out.links.kept (Only.drewN 0 0 _ _) (Or.inr (by omega)))).mono fun _ _ ⟨a, c⟩ => ⟨a, c.symm⟩)) | (go_at_call 10; exact Calls.quiet_of_same ((lists_any (HP.out.links.kept (Only.drewN 0 0 _ _) (Or.inr (by omega)))).mono fun _ _ ⟨a, c⟩ => ⟨a, c.symm⟩))))
  have kq : w4.grownBy (w4.drewN nq) none := ⟨rfl, rfl, rfl, Nat.le_refl _, fun _ _ _ => rfl⟩
  have HP4 := Lib.hid (HP.out.kept kq)
  have HG4 := Lib.hid (HG.out.trans kq)
  clear HP HG x0 x1
  go_wp2_with fail
  go_loopw [43] (fun it wr => ∃ (j : Nat) (v : Value) (L : Nat → List Nat), j ≤ len ∧ it = .int .i64 j ∧ Hid (Pl4 wr lo n m xb qb B qi qk v L) ∧ w.grownBy wr none) (fun it _ => len - (intOf it).toNat)
  case atStart => exact ⟨0, _, _, Nat.zero_le _, rfl, HP4, HG4.out⟩
  case round =>
    obtain ⟨j, v, L, hj, rfl, P0, G0⟩ := hrel
    obtain ⟨vb2, vc2, rfl⟩ : ∃ b c, v = .slice (some ⟨b, 0, none⟩) m c := by
      obtain ⟨R, cp, V, h, _⟩ := P0.out.rows
      exact ⟨R, cp, h⟩
    clear HP4 HG4 kq
    by_cases hlt : j < len
    · obtain ⟨rfl, hsb⟩ := HSA.out (by omega)
      have qlt : (j : Int) < (len : Int) := by omega
      have hc : ∀ i, i < 3 → wr.cell? ⟨sb, off + j * 3 + i, none⟩ = some (.int .i64 (zs j i)) := fun i hi => (G0.cell_far ⟨sb, off + j * 3 + i, none⟩ (show sb < w.heap.size by omega) (by simp)).trans (HZ.out j hlt i hi)
      have c0 : wr.cell? ⟨sb, off + j * 3, none⟩ = some (.int .i64 (zs j 0)) := hc 0 (by decide)
      have c1 := hc 1 (by decide)
      have c2 := hc 2 (by decide)
      clear hc
      generalize zs j 0 = kd at *
      generalize zs j 1 = oi at *
      generalize zs j 2 = okk at *
      have k3 := World.grownBy_alloc wr (.cells #[.int .i64 kd, .int .i64 oi, .int .i64 okk] 24) none
      have o0 : (wr.alloc (.cells #[.int .i64 kd, .int .i64 oi, .int .i64 okk] 24)).cell? ⟨wr.heap.size, 0, none⟩ = some (.int .i64 kd) := by simp
      have o1 : (wr.alloc (.cells #[.int .i64 kd, .int .i64 oi, .int .i64 okk] 24)).cell? ⟨wr.heap.size, 1, none⟩ = some (.int .i64 oi) := by simp
      have o2 : (wr.alloc (.cells #[.int .i64 kd, .int .i64 oi, .int .i64 okk] 24)).cell? ⟨wr.heap.size, 2, none⟩ = some (.int .i64 okk) := by simp
      have hob : wr.heap.size < (wr.alloc (.cells #[.int .i64 kd, .int .i64 oi, .int .i64 okk] 24)).heap.size := by simp
      have hl0 := P0.out.lt
      have hqw : w.heap.size ≤ qb := by omega
      have P1 := Lib.hid (P0.out.kept k3)
      have G1 := Lib.hid (grow_to G0 k3)
      have hnm := P0.out.links.hn
      have HLEN : Hid (∀ i, i < m → (L i).length ≤ 4096) := Lib.hid fun i hi => Nat.le_trans (P1.out.links.few i hi) hnm.1
      clear k3 P0 G0
      go_upto_block 2 with fail
      generalize wr.alloc (.cells #[.int .i64 kd, .int .i64 oi, .int .i64 okk] 24) = wo at *
      generalize wr.heap.size = ob at *
      have x0 := P1.out.x0
      have x1 : wo.cell? ⟨xb, 0 + 1, none⟩ = some (.slice (some ⟨vb2, 0, none⟩) m vc2) := P1.out.x1
      go_cut [] (fun wc => ∃ (v : Value) (L : Nat → List Nat), Hid (Pl4 wc lo n m xb qb B qi qk v L) ∧ w.grownBy wc none ∧ wc.cell? ⟨ob, 1, none⟩ = some (.int .i64 oi) ∧ wc.cell? ⟨ob, 2, none⟩ = some (.int .i64 okk) ∧ ob < wc.heap.size)
      case first =>
        by_cases hk0 : kd = 0
        · subst hk0
          by_cases hP : (0 ≤ oi ∧ oi < (m : Int)) ∧ (0 ≤ okk ∧ okk < (n : Int)) ∧ ∀ j, j < m → ∀ x ∈ L j, (x : Int) ≠ okk
          · obtain ⟨⟨p1, p2⟩, ⟨p3, p4⟩, p5⟩ := hP
            obtain ⟨i, rfl⟩ := Int.eq_ofNat_of_zero_le p1
            obtain ⟨k, rfl⟩ := Int.eq_ofNat_of_zero_le p3
            have hi : i < m := by omega
            have hk : k < n := by omega
            have hfr : ∀ j, j < m → k ∉ L j := fun j hj hx => p5 j hj k hx rfl
            have CP := Lib.hid (rpush4_ok i k (n := n) P1.out.rows hnm.2 HLEN.out (fun b hb => P1.out.hB' b (by have := P1.out.lt; omega)) hi hk hfr)
            clear p5
            go_wp2_with fail
            refine CP.out.mono ?_
            rintro e w5 ⟨v', rfl, k5, R5⟩
            obtain ⟨vb3, vc3, rfl⟩ : ∃ b c, v' = .slice (some ⟨b, 0, none⟩) m c := by
              obtain ⟨R, cp, V, h, _⟩ := R5
              exact ⟨R, cp, h⟩
            have k6 := World.grownBy_alloc w5 (.cells #[.int .i64 (n : Nat), .slice (some ⟨vb3, 0, none⟩) m vc3] 30) none
            have P6 := P1.out.kept (k5.trans k6)
            have y0 := P6.x0
            have y1 : (w5.alloc (.cells #[.int .i64 (n : Nat), .slice (some ⟨vb3, 0, none⟩) m vc3] 30)).cell? ⟨xb, 0 + 1, none⟩ = some (.slice (some ⟨vb2, 0, none⟩) m vc2) := P6.x1
            have y2 := P6.f0 0
            have y3 := P6.f0 (0 + 1)
            have y4 : ((w5.alloc (.cells #[.int .i64 (n : Nat), .slice (some ⟨vb3, 0, none⟩) m vc3] 30)).setCell ⟨xb, 0, none⟩ (.int .i64 (n : Nat))).cell? ⟨xb, 0 + 1, none⟩ = some (.slice (some ⟨vb2, 0, none⟩) m vc2) := (set_far _ _ _ _ _ _ (Or.inr (by omega))).trans y1
            have y5 : ((w5.alloc (.cells #[.int .i64 (n : Nat), .slice (some ⟨vb3, 0, none⟩) m vc3] 30)).setCell ⟨xb, 0, none⟩ (.int .i64 (n : Nat))).frozen? ⟨xb, 0 + 1, none⟩ = false := (World.frozen?_setCell ..).trans y3
            have t1 := ((k5.trans k6).cell_far ⟨ob, 1, none⟩ hob (by simp)).trans o1
            have t2 := ((k5.trans k6).cell_far ⟨ob, 2, none⟩ hob (by simp)).trans o2
            have xl := P6.lt
            have ob6 := Nat.lt_of_lt_of_le hob (k5.trans k6).size
            have R6 := Lib.hid (R5.kept k6)
            have K6 := Lib.hid (k5.trans k6)
            have S2 : Only xb (xb + 1) (w5.alloc (.cells #[.int .i64 (n : Nat), .slice (some ⟨vb3, 0, none⟩) m vc3] 30)) (((w5.alloc (.cells #[.int .i64 (n : Nat), .slice (some ⟨vb3, 0, none⟩) m vc3] 30)).setCell ⟨xb, 0, none⟩ (.int .i64 (n : Nat))).setCell ⟨xb, 1, none⟩ (.slice (some ⟨vb3, 0, none⟩) m vc3)) := (Only.set (lo := xb) (hi := xb + 1) _ ⟨xb, 0, none⟩ _ (Nat.le_refl _) (Nat.lt_succ_self _)).trans (Only.set (lo := xb) (hi := xb + 1) _ ⟨xb, 1, none⟩ _ (Nat.le_refl _) (Nat.lt_succ_self _))
            have LK := P6.links.kept S2 (Or.inl xl.2.1)
            have e1 := (S2.cell ⟨ob, 1, none⟩ ob6 (Or.inr (show xb + 1 ≤ ob by omega))).trans t1
            have e2 := (S2.cell ⟨ob, 2, none⟩ ob6 (Or.inr (show xb + 1 ≤ ob by omega))).trans t2
            have ob7 := Nat.lt_of_lt_of_le ob6 S2.size
            have G7 := Lib.hid (Only.on (G1.out.trans K6.out) S2 (by omega))
            have CLK := Lib.hid (push_ok i k LK hi hk hfr)
            clear CP S2 LK k5 k6 P6 t1 t2 R5
            go_wp2_with fail
            refine CLK.out.mono ?_
            rintro e w8 ⟨rfl, k8, A8⟩
            go_wp2
            go_meet
            case rel => exact ⟨_, _, Lib.hid (P1.out.step K6.out R6.out rfl k8 A8), Only.on G7.out k8 (by omega), (k8.cell ⟨ob, 1, none⟩ ob7 (Or.inr (show lo + 5 ≤ ob by omega))).trans e1, (k8.cell ⟨ob, 2, none⟩ ob7 (Or.inr (show lo + 5 ≤ ob by omega))).trans e2, Nat.lt_of_lt_of_le ob7 k8.size⟩
          · have hno : (oi < 0 ∨ (m : Int) ≤ oi) ∨ (okk < 0 ∨ (n : Int) ≤ okk) ∨ ∃ j, j < m ∧ ∃ x ∈ L j, (x : Int) = okk := by
              apply Classical.byContradiction
              intro hc
              apply hP
              refine ⟨by omega, by omega, fun j hj x hx e => hc (Or.inr (Or.inr ⟨j, hj, x, hx, e⟩))⟩
            have hno' : (oi < 0 ∨ (m : Int) ≤ oi) ∨ (okk < 0 ∨ (n : Int) ≤ okk) ∨ ∃ j, j < m ∧ okk.toNat ∈ L j := by
              rcases hno with h | h | ⟨j, hj, x, hx, e⟩
              · exact Or.inl h
              · exact Or.inr (Or.inl h)
              · exact Or.inr (Or.inr ⟨j, hj, by rw [← e]; exact hx⟩)
            have CP := Lib.hid (rpush4_no oi okk (n := n) P1.out.rows hnm.2 HLEN.out hno)
            have HNO := Lib.hid hno'
            clear hP hno hno'
            go_wp2_with fail
            refine CP.out.mono ?_
            rintro e w5 ⟨rfl, k5⟩
            have k6 := World.grownBy_alloc w5 (.cells #[.int .i64 (n : Nat), .slice (some ⟨vb2, 0, none⟩) m vc2] 30) none
            have P6 := P1.out.kept (k5.trans k6)
            have y0 := P6.x0
            have y1 : (w5.alloc (.cells #[.int .i64 (n : Nat), .slice (some ⟨vb2, 0, none⟩) m vc2] 30)).cell? ⟨xb, 0 + 1, none⟩ = some (.slice (some ⟨vb2, 0, none⟩) m vc2) := P6.x1
            have y2 := P6.f0 0
            have y3 := P6.f0 (0 + 1)
            have y4 : ((w5.alloc (.cells #[.int .i64 (n : Nat), .slice (some ⟨vb2, 0, none⟩) m vc2] 30)).setCell ⟨xb, 0, none⟩ (.int .i64 (n : Nat))).cell? ⟨xb, 0 + 1, none⟩ = some (.slice (some ⟨vb2, 0, none⟩) m vc2) := (set_far _ _ _ _ _ _ (Or.inr (by omega))).trans y1
            have y5 : ((w5.alloc (.cells #[.int .i64 (n : Nat), .slice (some ⟨vb2, 0, none⟩) m vc2] 30)).setCell ⟨xb, 0, none⟩ (.int .i64 (n : Nat))).frozen? ⟨xb, 0 + 1, none⟩ = false := (World.frozen?_setCell ..).trans y3
            have t1 := ((k5.trans k6).cell_far ⟨ob, 1, none⟩ hob (by simp)).trans o1
            have t2 := ((k5.trans k6).cell_far ⟨ob, 2, none⟩ hob (by simp)).trans o2
            have xl := P6.lt
            have ob6 := Nat.lt_of_lt_of_le hob (k5.trans k6).size
            have R6 := Lib.hid P6.rows
            have K6 := Lib.hid (k5.trans k6)
            have S2 : Only xb (xb + 1) (w5.alloc (.cells #[.int .i64 (n : Nat), .slice (some ⟨vb2, 0, none⟩) m vc2] 30)) (((w5.alloc (.cells #[.int .i64 (n : Nat), .slice (some ⟨vb2, 0, none⟩) m vc2] 30)).setCell ⟨xb, 0, none⟩ (.int .i64 (n : Nat))).setCell ⟨xb, 1, none⟩ (.slice (some ⟨vb2, 0, none⟩) m vc2)) := (Only.set (lo := xb) (hi := xb + 1) _ ⟨xb, 0, none⟩ _ (Nat.le_refl _) (Nat.lt_succ_self _)).trans (Only.set (lo := xb) (hi := xb + 1) _ ⟨xb, 1, none⟩ _ (Nat.le_refl _) (Nat.lt_succ_self _))
            have LK := P6.links.kept S2 (Or.inl xl.2.1)
            have e1 := (S2.cell ⟨ob, 1, none⟩ ob6 (Or.inr (show xb + 1 ≤ ob by omega))).trans t1
            have e2 := (S2.cell ⟨ob, 2, none⟩ ob6 (Or.inr (show xb + 1 ≤ ob by omega))).trans t2
            have ob7 := Nat.lt_of_lt_of_le ob6 S2.size
            have G7 := Lib.hid (Only.on (G1.out.trans K6.out) S2 (by omega))
            have LKH := Lib.hid LK
            have CLK := Lib.hid (push_no oi okk LK HNO.out)
            clear CP S2 LK k5 k6 P6 t1 t2
            go_wp2_with fail
            refine CLK.out.mono ?_
            rintro e w8 ⟨rfl, rfl⟩
            have k8 := Only.refl lo (lo + 5) (((w5.alloc (.cells #[.int .i64 (n : Nat), .slice (some ⟨vb2, 0, none⟩) m vc2] 30)).setCell ⟨xb, 0, none⟩ (.int .i64 (n : Nat))).setCell ⟨xb, 1, none⟩ (.slice (some ⟨vb2, 0, none⟩) m vc2))
            have A8 := LKH.out
            go_wp2
            go_meet
            case rel => exact ⟨_, _, Lib.hid (P1.out.step K6.out R6.out rfl k8 A8), Only.on G7.out k8 (by omega), (k8.cell ⟨ob, 1, none⟩ ob7 (Or.inr (show lo + 5 ≤ ob by omega))).trans e1, (k8.cell ⟨ob, 2, none⟩ ob7 (Or.inr (show lo + 5 ≤ ob by omega))).trans e2, Nat.lt_of_lt_of_le ob7 k8.size⟩
        by_cases hk1 : kd = 1
        · subst hk1
          by_cases hP : ∃ i x : Nat, i < m ∧ x ∈ L i ∧ (x : Int) = okk
          · obtain ⟨i, x, hi, hx, rfl⟩ := hP
            have CP := Lib.hid (rpull4_ok i x (n := n) P1.out.rows hnm.2 HLEN.out (fun b hb => P1.out.hB' b (by have := P1.out.lt; omega)) hi hx (fun j hj hx' => P1.out.links.once j i x hj hi hx' hx))
            go_wp2_with fail
            refine CP.out.mono ?_
            rintro e w5 ⟨v', rfl, k5, R5⟩
            obtain ⟨vb3, vc3, rfl⟩ : ∃ b c, v' = .slice (some ⟨b, 0, none⟩) m c := by
              obtain ⟨R, cp, V, h, _⟩ := R5
              exact ⟨R, cp, h⟩
            have k6 := World.grownBy_alloc w5 (.cells #[.int .i64 (n : Nat), .slice (some ⟨vb3, 0, none⟩) m vc3] 30) none
            have P6 := P1.out.kept (k5.trans k6)
            have y0 := P6.x0
            have y1 : (w5.alloc (.cells #[.int .i64 (n : Nat), .slice (some ⟨vb3, 0, none⟩) m vc3] 30)).cell? ⟨xb, 0 + 1, none⟩ = some (.slice (some ⟨vb2, 0, none⟩) m vc2) := P6.x1
            have y2 := P6.f0 0
            have y3 := P6.f0 (0 + 1)
            have y4 : ((w5.alloc (.cells #[.int .i64 (n : Nat), .slice (some ⟨vb3, 0, none⟩) m vc3] 30)).setCell ⟨xb, 0, none⟩ (.int .i64 (n : Nat))).cell? ⟨xb, 0 + 1, none⟩ = some (.slice (some ⟨vb2, 0, none⟩) m vc2) := (set_far _ _ _ _ _ _ (Or.inr (by omega))).trans y1
            have y5 : ((w5.alloc (.cells #[.int .i64 (n : Nat), .slice (some ⟨vb3, 0, none⟩) m vc3] 30)).setCell ⟨xb, 0, none⟩ (.int .i64 (n : Nat))).frozen? ⟨xb, 0 + 1, none⟩ = false := (World.frozen?_setCell ..).trans y3
            have t1 := ((k5.trans k6).cell_far ⟨ob, 1, none⟩ hob (by simp)).trans o1
            have t2 := ((k5.trans k6).cell_far ⟨ob, 2, none⟩ hob (by simp)).trans o2
            have xl := P6.lt
            have ob6 := Nat.lt_of_lt_of_le hob (k5.trans k6).size
            have R6 := Lib.hid (R5.kept k6)
            have K6 := Lib.hid (k5.trans k6)
            have S2 : Only xb (xb + 1) (w5.alloc (.cells #[.int .i64 (n : Nat), .slice (some ⟨vb3, 0, none⟩) m vc3] 30)) (((w5.alloc (.cells #[.int .i64 (n : Nat), .slice (some ⟨vb3, 0, none⟩) m vc3] 30)).setCell ⟨xb, 0, none⟩ (.int .i64 (n : Nat))).setCell ⟨xb, 1, none⟩ (.slice (some ⟨vb3, 0, none⟩) m vc3)) := (Only.set (lo := xb) (hi := xb + 1) _ ⟨xb, 0, none⟩ _ (Nat.le_refl _) (Nat.lt_succ_self _)).trans (Only.set (lo := xb) (hi := xb + 1) _ ⟨xb, 1, none⟩ _ (Nat.le_refl _) (Nat.lt_succ_self _))
            have LK := P6.links.kept S2 (Or.inl xl.2.1)
            have e1 := (S2.cell ⟨ob, 1, none⟩ ob6 (Or.inr (show xb + 1 ≤ ob by omega))).trans t1
            have e2 := (S2.cell ⟨ob, 2, none⟩ ob6 (Or.inr (show xb + 1 ≤ ob by omega))).trans t2
            have ob7 := Nat.lt_of_lt_of_le ob6 S2.size
            have G7 := Lib.hid (Only.on (G1.out.trans K6.out) S2 (by omega))
            have CLK := Lib.hid (pull_ok x i LK hi hx)
            clear CP S2 LK k5 k6 P6 t1 t2 R5
            go_wp2_with fail
            refine CLK.out.mono ?_
            rintro e w8 ⟨rfl, k8, A8⟩
            rw [erase_filter (P1.out.links.nodup i hi)] at A8
            go_wp2
            go_meet
            case rel => exact ⟨_, _, Lib.hid (P1.out.step K6.out R6.out rfl k8 A8), Only.on G7.out k8 (by omega), (k8.cell ⟨ob, 1, none⟩ ob7 (Or.inr (show lo + 5 ≤ ob by omega))).trans e1, (k8.cell ⟨ob, 2, none⟩ ob7 (Or.inr (show lo + 5 ≤ ob by omega))).trans e2, Nat.lt_of_lt_of_le ob7 k8.size⟩
          · have hno : ∀ i, i < m → ∀ x ∈ L i, (x : Int) ≠ okk := fun i hi x hx e => hP ⟨i, x, hi, hx, e⟩
            have CP := Lib.hid (rpull4_no okk (n := n) P1.out.rows hnm.2 HLEN.out hno)
            have HNO := Lib.hid hno
            clear hP hno
            go_wp2_with fail
            refine CP.out.mono ?_
            rintro e w5 ⟨rfl, k5⟩
            have k6 := World.grownBy_alloc w5 (.cells #[.int .i64 (n : Nat), .slice (some ⟨vb2, 0, none⟩) m vc2] 30) none
            have P6 := P1.out.kept (k5.trans k6)
            have y0 := P6.x0
            have y1 : (w5.alloc (.cells #[.int .i64 (n : Nat), .slice (some ⟨vb2, 0, none⟩) m vc2] 30)).cell? ⟨xb, 0 + 1, none⟩ = some (.slice (some ⟨vb2, 0, none⟩) m vc2) := P6.x1
            have y2 := P6.f0 0
            have y3 := P6.f0 (0 + 1)
            have y4 : ((w5.alloc (.cells #[.int .i64 (n : Nat), .slice (some ⟨vb2, 0, none⟩) m vc2] 30)).setCell ⟨xb, 0, none⟩ (.int .i64 (n : Nat))).cell? ⟨xb, 0 + 1, none⟩ = some (.slice (some ⟨vb2, 0, none⟩) m vc2) := (set_far _ _ _ _ _ _ (Or.inr (by omega))).trans y1
            have y5 : ((w5.alloc (.cells #[.int .i64 (n : Nat), .slice (some ⟨vb2, 0, none⟩) m vc2] 30)).setCell ⟨xb, 0, none⟩ (.int .i64 (n : Nat))).frozen? ⟨xb, 0 + 1, none⟩ = false := (World.frozen?_setCell ..).trans y3
            have t1 := ((k5.trans k6).cell_far ⟨ob, 1, none⟩ hob (by simp)).trans o1
            have t2 := ((k5.trans k6).cell_far ⟨ob, 2, none⟩ hob (by simp)).trans o2
            have xl := P6.lt
            have ob6 := Nat.lt_of_lt_of_le hob (k5.trans k6).size
            have R6 := Lib.hid P6.rows
            have K6 := Lib.hid (k5.trans k6)
            have S2 : Only xb (xb + 1) (w5.alloc (.cells #[.int .i64 (n : Nat), .slice (some ⟨vb2, 0, none⟩) m vc2] 30)) (((w5.alloc (.cells #[.int .i64 (n : Nat), .slice (some ⟨vb2, 0, none⟩) m vc2] 30)).setCell ⟨xb, 0, none⟩ (.int .i64 (n : Nat))).setCell ⟨xb, 1, none⟩ (.slice (some ⟨vb2, 0, none⟩) m vc2)) := (Only.set (lo := xb) (hi := xb + 1) _ ⟨xb, 0, none⟩ _ (Nat.le_refl _) (Nat.lt_succ_self _)).trans (Only.set (lo := xb) (hi := xb + 1) _ ⟨xb, 1, none⟩ _ (Nat.le_refl _) (Nat.lt_succ_self _))
            have LK := P6.links.kept S2 (Or.inl xl.2.1)
            have e1 := (S2.cell ⟨ob, 1, none⟩ ob6 (Or.inr (show xb + 1 ≤ ob by omega))).trans t1
            have e2 := (S2.cell ⟨ob, 2, none⟩ ob6 (Or.inr (show xb + 1 ≤ ob by omega))).trans t2
            have ob7 := Nat.lt_of_lt_of_le ob6 S2.size
            have G7 := Lib.hid (Only.on (G1.out.trans K6.out) S2 (by omega))
            have LKH := Lib.hid LK
            have CLK := Lib.hid (pull_no okk LK HNO.out)
            clear CP S2 LK k5 k6 P6 t1 t2
            go_wp2_with fail
            refine CLK.out.mono ?_
            rintro e w8 ⟨rfl, rfl⟩
            have k8 := Only.refl lo (lo + 5) (((w5.alloc (.cells #[.int .i64 (n : Nat), .slice (some ⟨vb2, 0, none⟩) m vc2] 30)).setCell ⟨xb, 0, none⟩ (.int .i64 (n : Nat))).setCell ⟨xb, 1, none⟩ (.slice (some ⟨vb2, 0, none⟩) m vc2))
            have A8 := LKH.out
            go_wp2
            go_meet
            case rel => exact ⟨_, _, Lib.hid (P1.out.step K6.out R6.out rfl k8 A8), Only.on G7.out k8 (by omega), (k8.cell ⟨ob, 1, none⟩ ob7 (Or.inr (show lo + 5 ≤ ob by omega))).trans e1, (k8.cell ⟨ob, 2, none⟩ ob7 (Or.inr (show lo + 5 ≤ ob by omega))).trans e2, Nat.lt_of_lt_of_le ob7 k8.size⟩
        have e0 : (kd == 0) = false := by rw [beq_eq_false_iff_ne]; exact hk0
        have e1 : (kd == 1) = false := by rw [beq_eq_false_iff_ne]; exact hk1
        go_wp2
        go_meet
        case rel => exact ⟨_, L, P1, G1.out, o1, o2, hob⟩
      case rest =>
        obtain ⟨v2, L2, P2, G2, p1, p2, hob2⟩ := hcut
        obtain ⟨vb4, vc4, rfl⟩ : ∃ b c, v2 = .slice (some ⟨b, 0, none⟩) m c := by
          obtain ⟨R, cp, V, h, _⟩ := P2.out.rows
          exact ⟨R, cp, h⟩
        have y0 := P2.out.x0
        have y1 : wc.cell? ⟨xb, 0 + 1, none⟩ = some (.slice (some ⟨vb4, 0, none⟩) m vc4) := P2.out.x1
        have CS : Hid (∀ (u : World) (a b : Int), wc.grownBy u none → Calls Try.prog 15 #[.pointer (some ⟨lo + 4, 0, none⟩), .agg #[.int .i64 (n : Nat), .slice (some ⟨vb4, 0, none⟩) m vc4], .int .i64 a, .int .i64 b] u fun e w' => e = .returned (.bool true) ∧ u.grownBy w' none) := Lib.hid fun u a b ku => same4 a b (P2.out.kept ku).links (P2.out.kept ku).rows
        go_wp2_with fail
        refine (CS.out _ _ _ (grow_refl _)).mono ?_
        rintro e w6 ⟨rfl, k6⟩
        have P6 := P2.out.kept k6
        have z0 := P6.x0
        have z1 : w6.cell? ⟨xb, 0 + 1, none⟩ = some (.slice (some ⟨vb4, 0, none⟩) m vc4) := P6.x1
        have z2 := P6.q1
        have z3 := P6.q2
        have HP6 := Lib.hid P6
        clear P6 y0 y1
        go_wp2_with fail
        refine (CS.out _ _ _ k6).mono ?_
        rintro e w7 ⟨rfl, k7⟩
        have P7 := Lib.hid (HP6.out.kept k7)
        have G7 := grow_to (grow_to G2 k6) k7
        clear z0 z1 z2 z3
        go_wp2
        go_roundw
        case rel => exact ⟨j + 1, _, L2, by omega, by go_num, P7, G7⟩
        case measure => simp [intOf]; omega
    · have qlt : ¬ (j : Int) < (len : Int) := by omega
      go_wp2
      go_ret
      exact ⟨rfl, G0⟩
end Go.Proofs.Ytbkjdbimkofceaa
