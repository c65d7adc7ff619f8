/-
  The walk of SlabPlays, over this seat's translation: for all sizes, steps and asked places it answers true, and leaves all that was as it was.
-/
import Derived.Test.YtchookgdajkipaaDoorDoesD
import Derived.Test.YtchookgdajkipaaDoorRef3New
import Derived.Deep.RegionHeld3
namespace Go.Proofs.YtchookgdajkipaaDoor
open Go.RowKit Go.Lib
set_option maxRecDepth 100000

/-- A slab, and the document's regions beside it: they agree. -/
structure Both (w : World) (lo hi sb rb m ob : Nat) (n r cp : Nat → Nat) (S : Nat → Nat → Bool) (U V : Nat → Nat → Int) : Prop where
  slab : SI.SlabAt w lo hi sb rb m n S V
  obl : hi ≤ ob ∧ ob < w.heap.size
  cel : ∀ k, k < m → w.cell? ⟨ob, k, none⟩ = some (.slice (some ⟨r k, 0, none⟩) (n k) (cp k)) ∧ w.frozen? ⟨ob, k, none⟩ = false
  pl : ∀ k, k < m → PlAt w (r k) (n k) (S k) (U k) ∧ hi ≤ r k ∧ r k ≠ ob ∧ ∀ q, q < n k → S k q = true → U k q = V k q
  le : ∀ k, n k ≤ 256

section
variable {w w' : World} {lo hi sb rb m ob : Nat} {n r cp : Nat → Nat} {S : Nat → Nat → Bool} {U V : Nat → Nat → Int}
theorem Both.kept (H : Both w lo hi sb rb m ob n r cp S U V) (k : w.grownBy w' none) : Both w' lo hi sb rb m ob n r cp S U V :=
  ⟨H.slab.grown k, ⟨H.obl.1, Nat.lt_of_lt_of_le H.obl.2 k.size⟩, fun i hi => ⟨(k.cell_far ⟨ob, i, none⟩ H.obl.2 (by simp)).trans (H.cel i hi).1, (k.frozen_far ⟨ob, i, none⟩ H.obl.2 (by simp)).trans (H.cel i hi).2⟩, fun i hi => ⟨(H.pl i hi).1.kept k, (H.pl i hi).2⟩, H.le⟩

/-- A region of both, and what may be done in it: behind it both are so again. -/
theorem Both.step (H : Both w lo hi sb rb m ob n r cp S U V) (R : Nat) (hR : R < m) :
    ∃ pb po b g, SI.RegMem w rb (2 * R) pb po b g (n R) (S R) (V R) ∧ (g < hi ∧ pb < hi) ∧ ∀ w' S' U' V' r' cp', Touch g pb po (n R) w w' → SI.RegMem w' rb (2 * R) pb po b g (n R) S' V' → PlAt w' r' (n R) S' U' → (∀ q, q < n R → S' q = true → U' q = V' q) → (r' = r R ∨ w.heap.size ≤ r') →
      Only lo hi w w' ∧ w'.cell? ⟨ob, R, none⟩ = some (.slice (some ⟨r R, 0, none⟩) (n R) (cp R)) ∧ w'.frozen? ⟨ob, R, none⟩ = false ∧ Both (w'.setCell ⟨ob, R, none⟩ (.slice (some ⟨r', 0, none⟩) (n R) cp')) lo hi sb rb m ob n (upV r R r') (upV cp R cp') (upV S R S') (upV U R U') (upV V R V') := by
  obtain ⟨pb, po, b, g, HM⟩ := H.slab
  obtain ⟨a1, a2, a3, a4, a5, a6, a7⟩ := HM.r0
  have hr := HM.r1 R hR
  refine ⟨pb, po R, b R, g R, HM.reg R hR, ⟨hr.2.2.2, a6⟩, fun w' S' U' V' r' cp' T RM P hU hr' => ?_⟩
  have on : Only lo hi w w' := T.only ⟨hr.2.2.1, hr.2.2.2⟩ ⟨a5, a6⟩
  have hsl : SI.SlabAt w' lo hi sb rb m n (upV S R S') (upV V R V') := by
    refine ⟨pb, po, b, g, (T.far sb 0 (by omega) (HM.sbd.2 R hR) HM.sbd.1).trans HM.c0, fun i hi' => ?_, HM.apart, HM.sbd, ⟨a1, a2, a3, a4, a5, a6, Nat.le_trans a7 T.size⟩, HM.r1⟩
    by_cases e : i = R
    · subst e; rw [upV_same, upV_same]; exact RM
    · rw [upV_other _ _ _ _ e, upV_other _ _ _ _ e]
      obtain ⟨b1, b2, b3⟩ := HM.apart i R hi' hR e
      exact (HM.reg i hi').touch T (HM.reg R hR).d.2.2.1 b1 b2 b3
  have oc : ∀ i, i < m → w'.cell? ⟨ob, i, none⟩ = some (.slice (some ⟨r i, 0, none⟩) (n i) (cp i)) ∧ w'.frozen? ⟨ob, i, none⟩ = false := fun i hi' =>
    ⟨(on.cell' ob i H.obl.2 (Or.inr H.obl.1)).trans (H.cel i hi').1, (on.frozen' ob i H.obl.2 (Or.inr H.obl.1)).trans (H.cel i hi').2⟩
  have os : Only ob (ob + 1) w' (w'.setCell ⟨ob, R, none⟩ (.slice (some ⟨r', 0, none⟩) (n R) cp')) := Only.set w' ⟨ob, R, none⟩ _ (Nat.le_refl _) (Nat.lt_succ_self _)
  have hob : ob < w'.heap.size := Nat.lt_of_lt_of_le H.obl.2 on.size
  have hrR : hi ≤ r' ∧ r' ≠ ob := by
    rcases hr' with h | h
    · rw [h]; exact ⟨(H.pl R hR).2.1, (H.pl R hR).2.2.1⟩
    · have := H.obl; omega
  refine ⟨on, (oc R hR).1, (oc R hR).2, hsl.kept os (Or.inl H.obl.1), ⟨H.obl.1, Nat.lt_of_lt_of_le hob os.size⟩, fun i hi' => ?_, fun i hi' => ?_, H.le⟩
  · refine ⟨?_, (World.frozen?_setCell ..).trans (oc i hi').2⟩
    by_cases e : i = R
    · subst e; rw [upV_same, upV_same]; exact World.cell?_setCell_same _ _ _ (oc i hi').1
    · rw [upV_other _ _ _ _ e, upV_other _ _ _ _ e]
      exact (World.cell?_setCell_other _ _ _ _ (by intro h; injection h with h1 h2; exact e h2.symm)).trans (oc i hi').1
  · by_cases e : i = R
    · subst e
      rw [upV_same, upV_same, upV_same, upV_same]
      exact ⟨P.only os (by omega), hrR.1, hrR.2, hU⟩
    · rw [upV_other _ _ _ _ e, upV_other _ _ _ _ e, upV_other _ _ _ _ e, upV_other _ _ _ _ e]
      obtain ⟨p1, p2, p3, p4⟩ := H.pl i hi'
      exact ⟨(p1.only on (Or.inr p2)).only os (by omega), p2, p3, p4⟩
end

set_option maxRecDepth 100000 in
set_option maxHeartbeats 8000000 in
theorem splays_walk (sa : Option Addr) (len cap sb0 off : Nat) (zs : Nat → Int) (sa1 : Option Addr) (len1 cap1 sb1 off1 : Nat) (zs1 : Nat → Nat → Int) (ask : Int) (w : World) (hT : TabAt w) (hle : len ≤ cap ∧ cap ≤ maxLen)
    (hsa : 0 < len → sa = some ⟨sb0, off, none⟩ ∧ sb0 < w.heap.size) (hz : ∀ j, j < len → w.cell? ⟨sb0, off + j, none⟩ = some (.int .i64 (zs j)))
    (_hm1 : len1 ≤ maxLen) (hsa1 : 0 < len1 → sa1 = some ⟨sb1, off1, none⟩ ∧ sb1 < w.heap.size) (hz1 : ∀ j, j < len1 → ∀ i, i < 4 → w.cell? ⟨sb1, off1 + j * 4 + i, none⟩ = some (.int .i64 (zs1 j i))) :
    Calls Tryd.prog 3 #[.slice sa len cap, .slice sa1 len1 cap1, .int .i64 ask] w fun e w' => e = .returned (.bool true) ∧ w.grownBy w' none := by
  have HCAPS : Hid (CapsAt w sa len cap zs) := Lib.hid ⟨hle.1, hle.2, fun h0 => ⟨sb0, off, (hsa h0).1, (hsa h0).2, hz⟩⟩
  have HSA1 := Lib.hid hsa1
  have HZ1 := Lib.hid hz1
  have HT := Lib.hid hT
  have hpos := tab_pos hT
  clear hsa hz hsa1 hz1 _hm1 hT hle
  by_cases hl : 8 < len
  · have q : (8 : Int) < (len : Int) := by omega
    go_enter Tryd.func3, Tryd.ntmps3
    go_wp2_with fail
    refine (alive3 _ HT.out).mono ?_
    rintro e w0 ⟨rfl, hG0⟩
    go_wp2
    go_ret
    exact ⟨rfl, hG0⟩
  have q8 : ¬ (8 : Int) < (len : Int) := by omega
  by_cases hl1 : 50 < len1
  · have q : (50 : Int) < (len1 : Int) := by omega
    go_enter Tryd.func3, Tryd.ntmps3
    go_wp2_with fail
    refine (alive3 _ HT.out).mono ?_
    rintro e w0 ⟨rfl, hG0⟩
    go_wp2
    go_ret
    exact ⟨rfl, hG0⟩
  have q50 : ¬ (50 : Int) < (len1 : Int) := by omega
  have hmin : min len 64 = len := by omega
  go_enter Tryd.func3, Tryd.ntmps3
  go_wp2_with fail
  refine (alive3 _ HT.out).mono ?_
  rintro e w0 ⟨rfl, hG0⟩
  have ca := SI.new_made sa len cap zs w0 (HCAPS.out.kept hG0)
  rw [hmin] at ca
  have CA := Lib.hid ca
  clear ca hmin
  go_wp2_with fail
  refine CA.out.mono ?_
  rintro e w1 ⟨sb, rb, rfl, k1, A1⟩
  have G1 := grow_to hG0 k1
  have hlo : w.heap.size ≤ w0.heap.size := hG0.size
  generalize w0.heap.size = lo at A1 hlo
  have CN := Lib.hid (new3_any (HCAPS.out.kept G1) (by omega))
  obtain ⟨hi, hhi⟩ : ∃ h, h = w1.heap.size := ⟨_, rfl⟩
  rw [← hhi] at A1
  clear CA k1 hG0
  go_wp2_with fail
  refine CN.out.mono ?_
  rintro e w2 ⟨ob, ocp, r0, rfl, k2, O2, P2⟩
  have G2 := grow_to G1 k2
  have hobl := O2.lt ob rfl
  have B2 : Both w2 lo hi sb rb len ob (nOf zs) r0 (nOf zs) (fun _ _ => false) (fun _ _ => 0) (fun _ _ => 0) :=
    ⟨A1.grown k2, ⟨by rw [hhi]; exact hobl.1, hobl.2⟩, fun k hk => ⟨(O2.cellAt k (by omega)).trans (rcells_at r0 (nOf zs) len k hk), O2.frozenAt k⟩, fun k hk => ⟨(P2 k hk).1, by rw [hhi]; exact (P2 k hk).2.1, (P2 k hk).2.2, fun q _ h => by cases h⟩, fun k => roomN_le _⟩
  have hlo0 : 0 < lo := by omega
  have CR := Lib.hid (SI.regions_any B2.slab)
  have CO1 := Lib.hid (SI.region_out (-1) B2.slab (by omega))
  have HB := Lib.hid B2
  clear CN k2 O2 P2 G1 A1 hobl hhi HCAPS B2
  generalize nOf zs = n at *
  go_wp2_with fail
  refine (CR.out).mono ?_
  rintro e w' ⟨rfl, rfl⟩
  go_wp2_with fail
  refine CO1.out.mono ?_
  rintro e w3 ⟨rfl, k3⟩
  have B3 := HB.out.kept k3
  have CO2 := Lib.hid (SI.region_out (len : Int) B3.slab (by omega))
  have G3 := grow_to G2 k3
  clear CO1 k3 HB G2 CR
  go_wp2_with fail
  refine CO2.out.mono ?_
  rintro e w4 ⟨rfl, k4⟩
  have B4 := B3.kept k4
  have G4 := grow_to G3 k4
  clear CO2 k4 B3 G3
  go_wp2_with fail
  go_loopw [47] (fun it wr => ∃ (i : Nat) (r cp : Nat → Nat) (S : Nat → Nat → Bool) (U V : Nat → Nat → Int), i ≤ len1 ∧ it = .int .i64 i ∧ Both wr lo hi sb rb len ob n r cp S U V ∧ w.grownBy wr none) (fun it _ => len1 - (intOf it).toNat)
  case atStart => exact ⟨0, _, _, _, _, _, Nat.zero_le _, rfl, B4, G4⟩
  case round =>
    obtain ⟨i, r, cp, S, U, V, hi1, rfl, B5, G5⟩ := hrel
    clear B4 G4
    by_cases hlt : i < len1
    · obtain ⟨rfl, hsb⟩ := HSA1.out (by omega)
      have hc : ∀ q, q < 4 → wr.cell? ⟨sb1, off1 + i * 4 + q, none⟩ = some (.int .i64 (zs1 i q)) := fun q hq => (G5.cell_far ⟨sb1, off1 + i * 4 + q, none⟩ hsb (by simp)).trans (HZ1.out i hlt q hq)
      have c0 : wr.cell? ⟨sb1, off1 + i * 4, none⟩ = some (.int .i64 (zs1 i 0)) := hc 0 (by decide)
      have c1 := hc 1 (by decide)
      have c2 := hc 2 (by decide)
      have c3 := hc 3 (by decide)
      clear hc
      have q1 : (i : Int) < (len1 : Int) := by omega
      generalize zs1 i 0 = R at *
      generalize zs1 i 1 = kind at *
      generalize zs1 i 2 = K at *
      generalize zs1 i 3 = val at *
      have ka := World.grownBy_alloc wr (.cells #[.int .i64 R, .int .i64 kind, .int .i64 K, .int .i64 val] 33) none
      have hx : ∀ j, (wr.alloc (.cells #[.int .i64 R, .int .i64 kind, .int .i64 K, .int .i64 val] 33)).cell? ⟨wr.heap.size, j, none⟩ = #[Value.int .i64 R, .int .i64 kind, .int .i64 K, .int .i64 val][j]? := fun j => World.cell?_alloc_new ..
      have x0 := hx 0
      have x1 := hx 1
      have x2 := hx 2
      have x3 := hx 3
      simp only [List.getElem?_toArray, List.getElem?_cons_zero, List.getElem?_cons_succ] at x0 x1 x2 x3
      have B6 := B5.kept ka
      have G6 := G5.trans ka
      have hoc : wr.heap.size < (wr.alloc (.cells #[.int .i64 R, .int .i64 kind, .int .i64 K, .int .i64 val] 33)).heap.size := by simp
      have hoh : hi ≤ wr.heap.size := B5.slab.sz
      have hoo : wr.heap.size ≠ ob := by have := B5.obl.2; omega
      clear hx ka B5 G5
      by_cases hR : R < 0 ∨ (len : Int) ≤ R
      · have CO := Lib.hid (SI.region_out R B6.slab hR)
        by_cases hR0 : R < 0
        · go_wp2_with fail
          refine CO.out.mono ?_
          rintro e w5 ⟨rfl, k5⟩
          have B7 := B6.kept k5
          have G7 := grow_to G6 k5
          go_wp2
          go_roundw
          case rel => exact ⟨i + 1, _, _, _, _, _, by omega, by go_num, B7, G7⟩
          case measure => simp [intOf]; omega
        · have hR1 : (len : Int) ≤ R := by omega
          go_wp2_with fail
          refine CO.out.mono ?_
          rintro e w5 ⟨rfl, k5⟩
          have B7 := B6.kept k5
          have G7 := grow_to G6 k5
          go_wp2
          go_roundw
          case rel => exact ⟨i + 1, _, _, _, _, _, by omega, by go_num, B7, G7⟩
          case measure => simp [intOf]; omega
      · obtain ⟨p, rfl⟩ : ∃ p : Nat, R = (p : Int) := ⟨R.toNat, by omega⟩
        have hp : p < len := by omega
        have qp : (p : Int) < (len : Int) := by omega
        have qp0 : ¬ (p : Int) < 0 := by omega
        clear hR
        go_wp2_with fail
        generalize wr.alloc (.cells #[.int .i64 (p : Int), .int .i64 kind, .int .i64 K, .int .i64 val] 33) = wo at *
        generalize wr.heap.size = oc at *
        have kd : wo.grownBy wo.drew none := ⟨rfl, rfl, rfl, Nat.le_refl _, fun _ _ _ => rfl⟩
        have B7 := B6.kept kd
        have CRG := Lib.hid (SI.region_in p B7.slab hp)
        have HB7 := Lib.hid B7
        have HG7 := Lib.hid (G6.trans kd)
        have CDX : Hid (∀ v : World, wo.drew.grownBy v none → Calls Tryd.prog 15 #[.pointer (some ⟨rb, 2 * p, none⟩), .slice (some ⟨r p, 0, none⟩) (n p) (cp p), .agg #[.int .i64 (p : Int), .int .i64 kind, .int .i64 K, .int .i64 val]] v fun e w' => ∃ r' cp' S' U' V', e = .returned (.tuple #[.slice (some ⟨r', 0, none⟩) (n p) cp', .bool true]) ∧ Only lo hi v w' ∧ w'.cell? ⟨ob, p, none⟩ = some (.slice (some ⟨r p, 0, none⟩) (n p) (cp p)) ∧ w'.frozen? ⟨ob, p, none⟩ = false ∧ Both (w'.setCell ⟨ob, p, none⟩ (.slice (some ⟨r', 0, none⟩) (n p) cp')) lo hi sb rb len ob n (upV r p r') (upV cp p cp') (upV S p S') (upV U p U') (upV V p V')) := Lib.hid fun v hv => by
          have BV := HB7.out.kept hv
          obtain ⟨pb, po, b, g, RM, ⟨hg1, hg2⟩, back⟩ := BV.step p hp
          obtain ⟨p1, p2, p3, p4⟩ := BV.pl p hp
          refine (does_any (cp := cp p) (p : Int) kind K val RM (HT.out.kept (HG7.out.trans hv)) p1 p4 (BV.le p) (by omega) (by omega)).mono ?_
          rintro e w' ⟨r', cp', S', U', V', he, t, rm, pl, hu, hr⟩
          obtain ⟨b1, b2, b3, b4⟩ := back w' S' U' V' r' cp' t rm pl hu hr
          exact ⟨r', cp', S', U', V', he, b1, b2, b3, b4⟩
        have t0 : wo.drew.cell? ⟨oc, 0, none⟩ = some (.int .i64 (p : Int)) := x0
        have t1 : wo.drew.cell? ⟨oc, 0 + 1, none⟩ = some (.int .i64 kind) := x1
        have t2 : wo.drew.cell? ⟨oc, 0 + 2, none⟩ = some (.int .i64 K) := x2
        have t3 : wo.drew.cell? ⟨oc, 0 + 3, none⟩ = some (.int .i64 val) := x3
        have t4 : wo.drew.cell? ⟨ob, p, none⟩ = some (.slice (some ⟨r p, 0, none⟩) (n p) (cp p)) := (B7.cel p hp).1
        have hocd : oc < wo.drew.heap.size := hoc
        have hobd : ob < wo.drew.heap.size := B7.obl.2
        have hobh : hi ≤ ob := B7.obl.1
        clear B7 B6 kd x0 x1 x2 x3 G6 hoc
        go_region_held3 (fun w' => w'.cell? ⟨oc, 0, none⟩ = some (.int .i64 (p : Int)) ∧ w'.cell? ⟨oc, 0 + 1, none⟩ = some (.int .i64 kind) ∧ w'.cell? ⟨oc, 0 + 2, none⟩ = some (.int .i64 K) ∧ w'.cell? ⟨oc, 0 + 3, none⟩ = some (.int .i64 val) ∧ w'.cell? ⟨ob, p, none⟩ = some (.slice (some ⟨r p, 0, none⟩) (n p) (cp p))) (exact ⟨t0, t1, t2, t3, t4⟩)
          (first
            | (go_at_call 14; with_reducible refine CRG.out.mono ?_; rintro e w7 ⟨rfl, k7⟩; have t0 := (k7.cell_far ⟨oc, 0, none⟩ hocd (by simp)).trans t0; have t1 := (k7.cell_far ⟨oc, 0 + 1, none⟩ hocd (by simp)).trans t1; have t2 := (k7.cell_far ⟨oc, 0 + 2, none⟩ hocd (by simp)).trans t2; have t3 := (k7.cell_far ⟨oc, 0 + 3, none⟩ hocd (by simp)).trans t3; have t4 := (k7.cell_far ⟨ob, p, none⟩ hobd (by simp)).trans t4; have CD := Lib.hid (CDX.out w7 k7); have ho7 := Nat.lt_of_lt_of_le hocd k7.size)
            | (go_at_call 15; with_reducible refine CD.out.mono ?_; rintro e w8 ⟨r', cp', S', U', V', rfl, on8, cb8, fb8, B8⟩; have t0 := (on8.cell' oc 0 ho7 (Or.inr hoh)).trans t0; have t1 := (on8.cell' oc (0 + 1) ho7 (Or.inr hoh)).trans t1; have t2 := (on8.cell' oc (0 + 2) ho7 (Or.inr hoh)).trans t2; have t3 := (on8.cell' oc (0 + 3) ho7 (Or.inr hoh)).trans t3; have t4 := cb8; have ho8 := Nat.lt_of_lt_of_le ho7 on8.size))
        have hoo2 : oc ≠ ob := hoo
        have G8 := Only.on (HG7.out.trans k7) on8 hlo
        have os := Only.set (lo := ob) (hi := ob + 1) w8 ⟨ob, p, none⟩ (.slice (some ⟨r', 0, none⟩) (n p) cp') (Nat.le_refl _) (Nat.lt_succ_self _)
        have hiw : w.heap.size ≤ ob := by have := HB7.out.slab; obtain ⟨_, _, _, _, HH⟩ := this; have := HH.r0; omega
        have G9 := Lib.hid (Only.on G8 os hiw)
        have x2 : (w8.setCell ⟨ob, p, none⟩ (.slice (some ⟨r', 0, none⟩) (n p) cp')).cell? ⟨oc, 2, none⟩ = some (.int .i64 K) := (os.cell' oc 2 ho8 (by omega)).trans t2
        have ho9 : oc < (w8.setCell ⟨ob, p, none⟩ (.slice (some ⟨r', 0, none⟩) (n p) cp')).heap.size := Nat.lt_of_lt_of_le ho8 os.size
        have HB9 := Lib.hid B8
        have HX2 := Lib.hid x2
        have HO9 := Lib.hid ho9
        clear B8 os G8 on8 k7 t1 t2 t3 t4 CD CDX CRG x2 ho9 ho8 ho7 hocd hobd
        go_wp2_with fail
        generalize w8.setCell ⟨ob, p, none⟩ (.slice (some ⟨r', 0, none⟩) (n p) cp') = w9 at *
        generalize upV r p r' = r9 at *
        generalize upV cp p cp' = cp9 at *
        generalize upV S p S' = S9 at *
        generalize upV U p U' = U9 at *
        generalize upV V p V' = V9 at *
        go_loopw [89] (fun it wr => ∃ k : Nat, k ≤ len ∧ it = .int .i64 k ∧ Both wr lo hi sb rb len ob n r9 cp9 S9 U9 V9 ∧ wr.cell? ⟨oc, 2, none⟩ = some (.int .i64 K) ∧ oc < wr.heap.size ∧ w.grownBy wr none) (fun it _ => len - (intOf it).toNat)
        case atStart => exact ⟨0, Nat.zero_le _, rfl, HB9.out, HX2.out, HO9.out, G9.out⟩
        case round =>
          obtain ⟨k, hk, rfl, B1, hx, ho, G1⟩ := hrel
          by_cases hkl : k < len
          · have qk : (k : Int) < (len : Int) := by omega
            have kd : wr.grownBy wr.drew none := ⟨rfl, rfl, rfl, Nat.le_refl _, fun _ _ _ => rfl⟩
            have HB1 := Lib.hid (B1.kept kd)
            have HG1 := Lib.hid (G1.trans kd)
            have CRG : Hid (∀ v : World, wr.drew.grownBy v none → Calls Tryd.prog 14 #[.pointer (some ⟨sb, 0, none⟩), .int .i64 (k : Int)] v fun e w' => e = .returned (.pointer (some ⟨rb, 2 * k, none⟩)) ∧ v.grownBy w' none) := Lib.hid fun v hv => SI.region_in k (HB1.out.kept hv).slab hkl
            have CSM : Hid (∀ (v : World) (a : Int), wr.drew.grownBy v none → Calls Tryd.prog 16 #[.pointer (some ⟨rb, 2 * k, none⟩), .slice (some ⟨r9 k, 0, none⟩) (n k) (cp9 k), .int .i64 a] v fun e w' => e = .returned (.bool true) ∧ v.grownBy w' none) := Lib.hid fun v a hv => by
              have BV := HB1.out.kept hv
              obtain ⟨pb, po, b, g, RM, _, _⟩ := BV.step k hkl
              obtain ⟨p1, p2, p3, p4⟩ := BV.pl k hkl
              exact psame (cp := cp9 k) a RM (HT.out.kept (HG1.out.trans hv)) p1 (BV.le k) p4
            have t1 : wr.drew.cell? ⟨ob, k, none⟩ = some (.slice (some ⟨r9 k, 0, none⟩) (n k) (cp9 k)) := (B1.cel k hkl).1
            have t2 : wr.drew.cell? ⟨oc, 2, none⟩ = some (.int .i64 K) := hx
            have hob : ob < wr.drew.heap.size := B1.obl.2
            have hoc : oc < wr.drew.heap.size := ho
            have kk : wr.drew.grownBy wr.drew none := SI.grow_refl _
            have HKD := Lib.hid kd
            have HB := Lib.hid B1
            have HX := Lib.hid hx
            have HO := Lib.hid ho
            have HG := Lib.hid G1
            have HKK := Lib.hid kk
            clear B1 hx ho G1 kd kk
            go_wp2_with fail
            go_region_held3 (fun w' => w'.cell? ⟨ob, k, none⟩ = some (.slice (some ⟨r9 k, 0, none⟩) (n k) (cp9 k)) ∧ w'.cell? ⟨oc, 2, none⟩ = some (.int .i64 K)) (exact ⟨t1, t2⟩)
              (first
                | (go_at_call 14; with_reducible refine (CRG.out _ HKK.out).mono ?_; rintro e w7 ⟨rfl, k7⟩; have t1 := (k7.cell_far ⟨ob, k, none⟩ (Nat.lt_of_lt_of_le hob HKK.out.size) (by simp)).trans t1; have t2 := (k7.cell_far ⟨oc, 2, none⟩ (Nat.lt_of_lt_of_le hoc HKK.out.size) (by simp)).trans t2; have HKK := Lib.hid (HKK.out.trans k7); clear k7)
                | (go_at_call 16; with_reducible refine (CSM.out _ _ HKK.out).mono ?_; rintro e w7 ⟨rfl, k7⟩; have t1 := (k7.cell_far ⟨ob, k, none⟩ (Nat.lt_of_lt_of_le hob HKK.out.size) (by simp)).trans t1; have t2 := (k7.cell_far ⟨oc, 2, none⟩ (Nat.lt_of_lt_of_le hoc HKK.out.size) (by simp)).trans t2; have HKK := Lib.hid (HKK.out.trans k7); clear k7))
            all_goals
              have HZZ := Lib.hid (HKD.out.trans HKK.out)
              clear t1 t2 CRG CSM
              go_wp2
              go_roundw
              case rel => exact ⟨k + 1, by omega, by go_num, HB.out.kept HZZ.out, (HZZ.out.cell_far ⟨oc, 2, none⟩ HO.out (by simp)).trans HX.out, Nat.lt_of_lt_of_le HO.out HZZ.out.size, HG.out.trans HZZ.out⟩
              case measure => simp [intOf]; omega
          · obtain rfl : k = len := by omega
            go_wp2
            go_roundw
            case rel => exact ⟨i + 1, _, _, _, _, _, by omega, by go_num, B1, G1⟩
            case measure => simp [intOf]; omega
    · obtain rfl : i = len1 := by omega
      go_wp2
      go_ret
      exact ⟨rfl, G5⟩
end Go.Proofs.YtchookgdajkipaaDoor
