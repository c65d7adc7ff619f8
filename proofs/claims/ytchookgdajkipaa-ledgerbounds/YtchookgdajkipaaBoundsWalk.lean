/-
  The walk of LedgerBounds, over this seat's translation: for all bounds, keys and amounts it answers true, and leaves all that was as it was.
-/
import Derived.Test.YtchookgdajkipaaAlive6
import Derived.Deep.DeepCutAuto
import Derived.Deep.CutBlock
namespace Go.Proofs.Ytchookgdajkipaa
open Go.RowKit Go.Lib
set_option maxRecDepth 100000

/-- A row of numbers. -/
def SumAt (w : World) (sr n : Nat) (s : Nat → Int) : Prop := sr < w.heap.size ∧ ∀ i, i < n → w.cell? ⟨sr, i, none⟩ = some (.int .i64 (s i)) ∧ w.frozen? ⟨sr, i, none⟩ = false
theorem SumAt.block {w w' : World} {sr n : Nat} {s : Nat → Int} (H : SumAt w sr n s) (hz : w.heap.size ≤ w'.heap.size) (hb : w'.heap[sr]? = w.heap[sr]?) : SumAt w' sr n s :=
  ⟨Nat.lt_of_lt_of_le H.1 hz, fun i hi => ⟨(World.cell?_of_block (a := ⟨sr, i, none⟩) hb).trans (H.2 i hi).1, (World.frozen?_of_block (a := ⟨sr, i, none⟩) hb).trans (H.2 i hi).2⟩⟩
theorem SumAt.kept {w w' : World} {sr n : Nat} {s : Nat → Int} (H : SumAt w sr n s) (k : w.grownBy w' none) : SumAt w' sr n s := H.block k.size (k.block sr H.1 (by simp))
theorem SumAt.off {w w' : World} {sr n bb : Nat} {ob : Option Nat} {s : Nat → Int} (H : SumAt w sr n s) (k : Off bb ob w w') (h1 : sr ≠ bb) (h2 : some sr ≠ ob) : SumAt w' sr n s := H.block k.size (k.block sr H.1 h1 h2)
theorem SumAt.set {w : World} {sr n : Nat} {s : Nat → Int} (H : SumAt w sr n s) (p : Nat) (hp : p < n) (x : Int) : SumAt (w.setCell ⟨sr, p, none⟩ (.int .i64 x)) sr n (upd s p x) :=
  ⟨by simp [World.setCell]; exact H.1, fun i hi => ⟨by
    by_cases e : i = p
    · subst e; simp only [upd, if_true]; exact World.cell?_setCell_same _ _ _ (H.2 i hi).1
    · simp only [upd, e, if_false]; exact (World.cell?_setCell_other _ _ _ _ (by intro h; injection h with h1 h2; exact e h2.symm)).trans (H.2 i hi).1, (World.frozen?_setCell ..).trans (H.2 i hi).2⟩⟩
theorem bk_store {w : World} {B bb sr n j : Nat} {v : Value} {K M U : Nat → Int} (H : LI.Bk w B bb v n K M U) (u : Value) (h1 : bb ≠ sr) (h2 : v.ownBlock ≠ some sr) : LI.Bk (w.setCell ⟨sr, j, none⟩ u) B bb v n K M U :=
  H.off (o := none) (Off.set w j u) h1 (by simp) h2 (by cases h : v.ownBlock with | none => exact Or.inl rfl | some r => exact Or.inr (by simp))

set_option maxRecDepth 100000 in
set_option maxHeartbeats 16000000 in
theorem bounds_walk (sa0 : Option Addr) (len0 cap0 sb0 off0 : Nat) (zs0 : Nat → Int) (sa1 : Option Addr) (len1 cap1 sb1 off1 : Nat) (zs1 : Nat → Int) (sa2 : Option Addr) (len2 cap2 sb2 off2 : Nat) (zs2 : Nat → Int) (w : World)
    (_hm0 : len0 ≤ maxLen) (hs0 : 0 < len0 → sa0 = some ⟨sb0, off0, none⟩ ∧ sb0 < w.heap.size) (hz0 : ∀ j, j < len0 → w.cell? ⟨sb0, off0 + j, none⟩ = some (.int .i64 (zs0 j)) ∧ -9223372036854775808 ≤ zs0 j ∧ zs0 j < 9223372036854775808)
    (_hm1 : len1 ≤ maxLen) (hs1 : 0 < len1 → sa1 = some ⟨sb1, off1, none⟩ ∧ sb1 < w.heap.size) (hz1 : ∀ j, j < len1 → w.cell? ⟨sb1, off1 + j, none⟩ = some (.int .i64 (zs1 j)))
    (_hm2 : len2 ≤ maxLen) (hs2 : 0 < len2 → sa2 = some ⟨sb2, off2, none⟩ ∧ sb2 < w.heap.size) (hz2 : ∀ j, j < len2 → w.cell? ⟨sb2, off2 + j, none⟩ = some (.int .i64 (zs2 j)) ∧ -9223372036854775808 ≤ zs2 j ∧ zs2 j < 9223372036854775808) :
    Calls Try.prog 4 #[.slice sa0 len0 cap0, .slice sa1 len1 cap1, .slice sa2 len2 cap2] w fun e w' => e = .returned (.bool true) ∧ w.grownBy w' none := by
  have C0 := Lib.hid (alive6 w)
  have H0 : Hid (∀ (v : World) (j : Nat), w.grownBy v none → j < len0 → sa0 = some ⟨sb0, off0, none⟩ ∧ sb0 < v.heap.size ∧ v.cell? ⟨sb0, off0 + j, none⟩ = some (.int .i64 (zs0 j))) := Lib.hid fun v j k hj => by
    obtain ⟨h1, h2⟩ := hs0 (by omega)
    exact ⟨h1, Nat.lt_of_lt_of_le h2 k.size, (k.cell_far ⟨sb0, off0 + j, none⟩ h2 (by simp)).trans (hz0 j hj).1⟩
  have H1 : Hid (∀ (v : World) (j : Nat), w.grownBy v none → j < len1 → sa1 = some ⟨sb1, off1, none⟩ ∧ v.cell? ⟨sb1, off1 + j, none⟩ = some (.int .i64 (zs1 j))) := Lib.hid fun v j k hj => by
    obtain ⟨h1, h2⟩ := hs1 (by omega)
    exact ⟨h1, (k.cell_far ⟨sb1, off1 + j, none⟩ h2 (by simp)).trans (hz1 j hj)⟩
  have H2 : Hid (∀ (v : World) (j : Nat), w.grownBy v none → j < len2 → sa2 = some ⟨sb2, off2, none⟩ ∧ v.cell? ⟨sb2, off2 + j, none⟩ = some (.int .i64 (zs2 j)) ∧ -9223372036854775808 ≤ zs2 j ∧ zs2 j < 9223372036854775808) := Lib.hid fun v j k hj => by
    obtain ⟨h1, h2⟩ := hs2 (by omega)
    exact ⟨h1, (k.cell_far ⟨sb2, off2 + j, none⟩ h2 (by simp)).trans (hz2 j hj).1, (hz2 j hj).2⟩
  have HB0 : Hid (∀ j, j < len0 → zs0 j < 9223372036854775808) := Lib.hid fun j hj => (hz0 j hj).2.2
  clear hs0 hz0 hs1 hz1 hs2 hz2
  by_cases hl0 : 9 < len0
  · have q : (9 : Int) < (len0 : Int) := by omega
    go_enter Try.func4, Try.ntmps4
    go_wp2_with fail
    refine C0.out.mono ?_
    rintro e w1 ⟨rfl, k1⟩
    go_wp2
    go_ret
    exact ⟨rfl, k1⟩
  have q0 : ¬ (9 : Int) < (len0 : Int) := by omega
  by_cases hl1 : 40 < len1
  · have q : (40 : Int) < (len1 : Int) := by omega
    go_enter Try.func4, Try.ntmps4
    go_wp2_with fail
    refine C0.out.mono ?_
    rintro e w1 ⟨rfl, k1⟩
    go_wp2
    go_ret
    exact ⟨rfl, k1⟩
  have q1 : ¬ (40 : Int) < (len1 : Int) := by omega
  by_cases hl2 : len2 < len1
  · have q : (len2 : Int) < (len1 : Int) := by omega
    go_enter Try.func4, Try.ntmps4
    go_wp2_with fail
    refine C0.out.mono ?_
    rintro e w1 ⟨rfl, k1⟩
    go_wp2
    go_ret
    exact ⟨rfl, k1⟩
  have q2 : ¬ (len2 : Int) < (len1 : Int) := by omega
  go_enter Try.func4, Try.ntmps4
  go_wp2_with fail
  refine C0.out.mono ?_
  rintro e w1 ⟨rfl, k1⟩
  have ka := World.grownBy_alloc w1 (.cells #[.slice none 0 0] 43) none
  have A0 : LI.Bk _ w1.heap.size w1.heap.size (.slice none 0 0) 0 (fun i => (i : Int)) (fun i => max (zs0 i) 0) (fun _ => 0) := (LI.bk_new w1 w1.heap.size (Nat.le_refl _)).congr (fun j h => absurd h (by omega))
  have G0 := k1.trans ka
  have hB : w.heap.size ≤ w1.heap.size := k1.size
  clear ka C0 k1
  go_wp2_with fail
  generalize w1.alloc (.cells #[.slice none 0 0] 43) = w2 at *
  generalize w1.heap.size = bb at *
  go_loopw [35] (fun it wr => ∃ (j : Nat) (v : Value), j ≤ len0 ∧ it = .int .i64 j ∧ LI.Bk wr bb bb v j (fun i => (i : Int)) (fun i => max (zs0 i) 0) (fun _ => 0) ∧ w.grownBy wr none) (fun it _ => len0 - (Go.RowKit.intOf it).toNat)
  case atStart => exact ⟨0, _, Nat.zero_le _, rfl, A0, G0⟩
  case round =>
    obtain ⟨j, v, hj, rfl, A1, G1⟩ := hrel
    clear A0 G0
    by_cases hlt : j < len0
    · obtain ⟨rfl, _, hc⟩ := H0.out wr j G1 hlt
      have qj : (j : Int) < (len0 : Int) := by omega
      have C := Lib.hid (LI.limit_end (j : Int) (zs0 j) A1 (fun p hp => by simp [LI.klt]; omega) (by omega) (HB0.out j hlt))
      have hA : w.heap.size ≤ bb ∧ ∀ r, v.ownBlock = some r → w.heap.size ≤ r := ⟨hB, fun r h => Nat.le_trans hB (A1.rowlt r h).1⟩
      unfold LI.kv at *
      clear A1
      go_wp2_with fail
      refine C.out.mono ?_
      rintro e w3 ⟨⟨y, rfl⟩, k3, v', _, A2⟩
      have A2 := Lib.hid A2
      have G2 := Lib.hid (k3.grown_own G1 hA)
      clear C k3 G1
      go_wp2
      go_roundw
      case rel => exact ⟨j + 1, v', by omega, by go_num, A2.out.congr (fun i hi => by
          by_cases e : i = j
          · subst e; simp [insK]
          · have : i < j := by omega
            simp [insK, this]), G2.out⟩
      case measure => simp [Go.RowKit.intOf]; omega
    · obtain rfl : j = len0 := by omega
      have hmk : ∀ W : World, (Instr.makeSlice 40 (.int .i64 (j : Nat)) (.int .i64 (j : Nat))).run Try.prog W = _ := fun W => make_ints j j (by omega) (by omega) W
      have ka := World.grownBy_alloc wr (.cells (madeCells #[.int .i64 0] j) 3) none
      have A2 := A1.kept ka
      have S2 : SumAt (wr.alloc (.cells (madeCells #[.int .i64 0] j) 3)) wr.heap.size j (fun _ => 0) := ⟨by simp, fun i hi => ⟨by rw [World.cell?_alloc_new]; exact made_at _ j i hi, by simp⟩⟩
      have hsr : wr.heap.size ≠ bb := by have := A1.lb.2; omega
      have hvr : v.ownBlock ≠ some wr.heap.size := fun h => by have := (A1.rowlt _ h).2; omega
      have hsw : w.heap.size ≤ wr.heap.size := G1.size
      have G2 := G1.trans ka
      have hA : w.heap.size ≤ bb ∧ ∀ r, v.ownBlock = some r → w.heap.size ≤ r := ⟨hB, fun r h => Nat.le_trans hB (A1.rowlt r h).1⟩
      clear A1 G1 ka
      go_wp2_with fail
      generalize wr.alloc (.cells (madeCells #[.int .i64 0] j) 3) = w4 at *
      generalize wr.heap.size = sr at *
      clear hmk
      have HM : Hid (∀ k : Nat, (0 : Int) ≤ max (zs0 k) 0) := Lib.hid fun k => by omega
      go_loopw [49] (fun it wr => ∃ (i : Nat) (s : Nat → Int), i ≤ len1 ∧ it = .int .i64 i ∧ LI.Bk wr bb bb v j (fun i => (i : Int)) (fun i => max (zs0 i) 0) s ∧ SumAt wr sr j s ∧ Hid (∀ k, k < j → 0 ≤ s k ∧ s k ≤ max (zs0 k) 0) ∧ w.grownBy wr none) (fun it _ => len1 - (Go.RowKit.intOf it).toNat)
      case atStart => exact ⟨0, _, Nat.zero_le _, rfl, A2, S2, Lib.hid fun k _ => ⟨by omega, HM.out k⟩, G2⟩
      case round =>
        obtain ⟨i, s, hi, rfl, A1, S1, HS, G1⟩ := hrel
        clear A2 S2 G2
        by_cases hlt2 : i < len1
        · obtain ⟨rfl, hc1⟩ := H1.out wr i G1 hlt2
          obtain ⟨rfl, hc2, hb1, hb2⟩ := H2.out wr i G1 (by omega)
          have qi : (i : Int) < (len1 : Int) := by omega
          have qi2 : (i : Int) < (len2 : Int) := by omega
          generalize zs1 i = key at *
          generalize zs2 i = n at *
          by_cases hkey : key < 0 ∨ (j : Int) ≤ key
          · have hun : ∀ p, p < j → LI.keq ((p : Nat) : Int) key = false := fun p hp => by simp [LI.keq]; omega
            have HUN := Lib.hid hun
            have C := Lib.hid (LI.take_un key 0 A1 HUN.out)
            clear hun
            unfold LI.kv at *
            by_cases hk0 : key < 0
            · go_wp2_with fail
              refine C.out.mono ?_
              rintro e w5 ⟨rfl, k5⟩
              have A2 := A1.kept k5
              have S2 := S1.kept k5
              have G2 := G1.trans k5
              clear C k5 A1 S1 G1
              have C := Lib.hid (LI.give_un key 0 A2 HUN.out)
              unfold LI.kv at *
              go_wp2_with fail
              refine C.out.mono ?_
              rintro e w6 ⟨rfl, k5⟩
              have A3 := A2.kept k5
              have S3 := S2.kept k5
              have G3 := G2.trans k5
              clear C k5 A2 S2 G2
              have C := Lib.hid (LI.left_no key A3 HUN.out)
              unfold LI.kv at *
              go_wp2_with fail
              refine C.out.mono ?_
              rintro e w7 ⟨rfl, k5⟩
              have A4 := A3.kept k5
              have S4 := S3.kept k5
              have G4 := G3.trans k5
              clear C k5 A3 S3 G3
              go_wp2
              go_roundw
              case rel => exact ⟨i + 1, s, by omega, by go_num, A4, S4, HS, G4⟩
              case measure => simp [Go.RowKit.intOf]; omega
            · have hk1 : (j : Int) ≤ key := by omega
              go_wp2_with fail
              refine C.out.mono ?_
              rintro e w5 ⟨rfl, k5⟩
              have A2 := A1.kept k5
              have S2 := S1.kept k5
              have G2 := G1.trans k5
              clear C k5 A1 S1 G1
              have C := Lib.hid (LI.give_un key 0 A2 HUN.out)
              unfold LI.kv at *
              go_wp2_with fail
              refine C.out.mono ?_
              rintro e w6 ⟨rfl, k5⟩
              have A3 := A2.kept k5
              have S3 := S2.kept k5
              have G3 := G2.trans k5
              clear C k5 A2 S2 G2
              have C := Lib.hid (LI.left_no key A3 HUN.out)
              unfold LI.kv at *
              go_wp2_with fail
              refine C.out.mono ?_
              rintro e w7 ⟨rfl, k5⟩
              have A4 := A3.kept k5
              have S4 := S3.kept k5
              have G4 := G3.trans k5
              clear C k5 A3 S3 G3
              go_wp2
              go_roundw
              case rel => exact ⟨i + 1, s, by omega, by go_num, A4, S4, HS, G4⟩
              case measure => simp [Go.RowKit.intOf]; omega
          · obtain ⟨p, rfl⟩ : ∃ p : Nat, key = (p : Int) := ⟨key.toNat, by omega⟩
            have hpj : p < j := by omega
            have qp : (p : Int) < (j : Int) := by omega
            have kn : LI.Known (fun i => (i : Int)) j (p : Int) p := ⟨hpj, LI.keq_self _⟩
            have KN := Lib.hid kn
            clear hkey kn
            obtain ⟨sc, sf⟩ := S1.2 p hpj
            obtain ⟨b1, b2⟩ := HS.out p hpj
            go_upto_if 78 with fail
            go_cut [] (fun wc => ∃ s' : Nat → Int, LI.Bk wc bb bb v j (fun i => (i : Int)) (fun i => max (zs0 i) 0) s' ∧ SumAt wc sr j s' ∧ Hid (∀ k, k < j → 0 ≤ s' k ∧ s' k ≤ max (zs0 k) 0) ∧ w.grownBy wc none)
            case first =>
             by_cases hn : 0 ≤ n
             · by_cases hok : n ≤ max (zs0 p) 0 - s p
               · have C := Lib.hid (LI.take_ok (p : Int) p n A1 KN.out hn hok)
                 unfold LI.kv at *
                 clear A1
                 go_wp2_with fail
                 refine C.out.mono ?_
                 rintro e w5 ⟨rfl, k5, A2⟩
                 have S2 := S1.off k5 hsr (fun h => hvr h.symm)
                 have G2 := k5.grown_own G1 hA
                 obtain ⟨sc2, sf2⟩ := S2.2 p hpj
                 have A3 := bk_store (j := p) A2 (.int .i64 (s p + n)) (Ne.symm hsr) hvr
                 have S3 := S2.set p hpj (s p + n)
                 have G3 := (Off.set (bb := sr) (o := none) w5 p (.int .i64 (s p + n))).grown_own G2 ⟨hsw, fun r h => by cases h⟩
                 have hov : s p + n < 9223372036854775808 := by have := HB0.out p (by omega); omega
                 have HS3 : Hid (∀ k, k < j → 0 ≤ upd s p (s p + n) k ∧ upd s p (s p + n) k ≤ max (zs0 k) 0) := Lib.hid fun k hk => by
                   unfold upd
                   split
                   · subst_vars; omega
                   · exact HS.out k hk
                 have HA3 := Lib.hid A3
                 have HSS := Lib.hid S3
                 have HG3 := Lib.hid G3
                 have HHH := Lib.hid hov
                 clear C k5 A2 S2 G2 A3 S3 G3 S1 G1 HS
                 go_wp2
                 go_meet
                 case rel => exact ⟨_, HA3.out, HSS.out, HS3, HG3.out⟩
               · have C := Lib.hid (LI.take_no (p : Int) p n A1 KN.out (by omega))
                 unfold LI.kv at *
                 go_wp2_with fail
                 refine C.out.mono ?_
                 rintro e w6 ⟨rfl, k5⟩
                 have HA3 := Lib.hid (A1.kept k5)
                 have HSS := Lib.hid (S1.kept k5)
                 have HG3 := Lib.hid (G1.trans k5)
                 have HS3 := HS
                 clear C k5 A1 S1 G1 HS
                 go_wp2
                 go_meet
                 case rel => exact ⟨_, HA3.out, HSS.out, HS3, HG3.out⟩
             · have hn0 : n < 0 := by omega
               by_cases hbig : -1099511627776 < n
               · by_cases hok : -n ≤ s p
                 · have C := Lib.hid (LI.give_ok (p : Int) p (-n) A1 KN.out (by omega) hok)
                   unfold LI.kv at *
                   clear A1
                   go_wp2_with fail
                   refine C.out.mono ?_
                   rintro e w5 ⟨rfl, k5, A2⟩
                   have es : s p - -n = s p + n := by omega
                   rw [es] at A2
                   have S2 := S1.off k5 hsr (fun h => hvr h.symm)
                   have G2 := k5.grown_own G1 hA
                   obtain ⟨sc2, sf2⟩ := S2.2 p hpj
                   have A3 := bk_store (j := p) A2 (.int .i64 (s p + n)) (Ne.symm hsr) hvr
                   have S3 := S2.set p hpj (s p + n)
                   have G3 := (Off.set (bb := sr) (o := none) w5 p (.int .i64 (s p + n))).grown_own G2 ⟨hsw, fun r h => by cases h⟩
                   have hov : s p + n < 9223372036854775808 := by have := HB0.out p (by omega); omega
                   have HS3 : Hid (∀ k, k < j → 0 ≤ upd s p (s p + n) k ∧ upd s p (s p + n) k ≤ max (zs0 k) 0) := Lib.hid fun k hk => by
                     unfold upd
                     split
                     · subst_vars; omega
                     · exact HS.out k hk
                   have HA3 := Lib.hid A3
                   have HSS := Lib.hid S3
                   have HG3 := Lib.hid G3
                   have HHH := Lib.hid hov
                   clear C k5 A2 S2 G2 A3 S3 G3 S1 G1 HS es
                   go_wp2
                   go_meet
                   case rel => exact ⟨_, HA3.out, HSS.out, HS3, HG3.out⟩
                 · have C := Lib.hid (LI.give_no (p : Int) p (-n) A1 KN.out (by omega))
                   unfold LI.kv at *
                   go_wp2_with fail
                   refine C.out.mono ?_
                   rintro e w6 ⟨rfl, k5⟩
                   have HA3 := Lib.hid (A1.kept k5)
                   have HSS := Lib.hid (S1.kept k5)
                   have HG3 := Lib.hid (G1.trans k5)
                   have HS3 := HS
                   clear C k5 A1 S1 G1 HS
                   go_wp2
                   go_meet
                   case rel => exact ⟨_, HA3.out, HSS.out, HS3, HG3.out⟩
               · have hbig' : n ≤ -1099511627776 := by omega
                 have HA3 := Lib.hid A1
                 have HSS := Lib.hid S1
                 have HG3 := Lib.hid G1
                 have HS3 := HS
                 clear A1 S1 G1 HS
                 go_wp2
                 go_meet
                 case rel => exact ⟨_, HA3.out, HSS.out, HS3, HG3.out⟩
            case rest =>
              obtain ⟨s', A3, S3, HS3, G3⟩ := hcut
              have HA3 := Lib.hid A3
              have HSS := Lib.hid S3
              have HG3 := Lib.hid G3
              clear A3 S3 G3 A1 S1 G1 HS hc1 hc2 sc sf b1 b2
              go_wp2_with fail
              go_loopw [106] (fun it wr => ∃ k : Nat, k ≤ j ∧ it = .int .i64 k ∧ LI.Bk wr bb bb v j (fun i => (i : Int)) (fun i => max (zs0 i) 0) s' ∧ SumAt wr sr j s' ∧ w.grownBy wr none) (fun it _ => j - (Go.RowKit.intOf it).toNat)
              case atStart => exact ⟨0, Nat.zero_le _, rfl, HA3.out, HSS.out, HG3.out⟩
              case round =>
                obtain ⟨k, hk, rfl, A4, S4, G4⟩ := hrel
                by_cases hkj : k < j
                · obtain ⟨t1, t2⟩ := S4.2 k hkj
                  obtain ⟨rfl, hsb, t3⟩ := H0.out wr k G4 (by omega)
                  obtain ⟨d1, d2⟩ := HS3.out k hkj
                  have qk : (k : Int) < (j : Int) := by omega
                  have kn : LI.Known (fun i => (i : Int)) j (k : Int) k := ⟨hkj, LI.keq_self _⟩
                  have kd : wr.grownBy wr.drew none := ⟨rfl, rfl, rfl, Nat.le_refl _, fun _ _ _ => rfl⟩
                  have A5 := A4.kept kd
                  have CU := Lib.hid (LI.used_in (k : Int) k A5 kn)
                  have CL := Lib.hid (fun (v' : World) (k' : wr.drew.grownBy v' none) => LI.left_in (k : Int) k (A5.kept k') kn)
                  have HA4 := Lib.hid A4
                  have HS4 := Lib.hid S4
                  have HG4 := Lib.hid G4
                  have hbz := HB0.out k (by omega)
                  have t3d : wr.drew.cell? ⟨sb0, off0 + k, none⟩ = some (.int .i64 (zs0 k)) := t3
                  have hsd : sb0 < wr.drew.heap.size := hsb
                  generalize hsk : s' k = sk at *
                  generalize hzk : zs0 k = zk at *
                  clear hsk hzk A5 A4 S4 G4 kn kd
                  unfold LI.kv at *
                  by_cases hzn : zk < 0
                  · have e0 : max zk 0 = 0 := by omega
                    rw [e0] at d2 CL
                    obtain rfl : sk = 0 := by omega
                    have e1 : max ((0 : Int) - 0) 0 = 0 := by omega
                    rw [e1] at CL
                    clear e0 e1
                    have f1 : (if zk < 0 then (0 : Int) else zk) = 0 := by simp [hzn]
                    have f2 : (if 0 > zk then (0 : Int) else zk) = 0 := by simp [hzn]
                    have f3 : max zk 0 = 0 := by omega
                    go_wp2_with fail
                    go_region_held3 (fun w' => w'.cell? ⟨sb0, off0 + k, none⟩ = some (.int .i64 zk)) (first | exact t3d | exact t4)
                      (first
                        | (go_at_call 25; refine CU.out.mono ?_; rintro e w7 ⟨rfl, k7⟩; have t4 := (k7.cell_far ⟨sb0, off0 + k, none⟩ hsd (by simp)).trans t3d; have CL2 := Lib.hid (CL.out w7 k7); have hs7 := Nat.lt_of_lt_of_le hsd k7.size)
                        | (go_at_call 24; refine CL2.out.mono ?_; rintro e w8 ⟨rfl, k8⟩; have t4 := (k8.cell_far ⟨sb0, off0 + k, none⟩ hs7 (by simp)).trans t4))
                    all_goals
                      have kd : wr.grownBy wr.drew none := ⟨rfl, rfl, rfl, Nat.le_refl _, fun _ _ _ => rfl⟩
                      have kk : wr.grownBy w8 none := (kd.trans k7).trans k8
                      have KK := Lib.hid kk
                      clear kd kk k7 k8 t4 t3d CL CL2 CU
                      go_wp2
                      go_roundw
                      case rel => exact ⟨k + 1, by omega, by go_num, HA4.out.kept KK.out, HS4.out.kept KK.out, HG4.out.trans KK.out⟩
                      case measure => simp [Go.RowKit.intOf]; omega
                  · have e0 : max zk 0 = zk := by omega
                    rw [e0] at d2 CL
                    have e1 : max (zk - sk) 0 = zk - sk := by omega
                    rw [e1] at CL
                    clear e0 e1
                    have f1 : (if zk < 0 then (0 : Int) else zk) = zk := by simp [hzn]
                    have f2 : (if 0 > zk then (0 : Int) else zk) = zk := by simp [hzn]
                    have f3 : max zk 0 = zk := by omega
                    have f4 : decide (sk < 0) = false := by simp; omega
                    have f5 : decide (zk < sk) = false := by simp; omega
                    have f6 : IntKind.i64.wrap (zk - sk) = zk - sk := by rw [IntKind.wrap_i64]; omega
                    go_wp2_with fail
                    go_region_held3 (fun w' => w'.cell? ⟨sb0, off0 + k, none⟩ = some (.int .i64 zk)) (first | exact t3d | exact t4)
                      (first
                        | (go_at_call 25; refine CU.out.mono ?_; rintro e w7 ⟨rfl, k7⟩; have t4 := (k7.cell_far ⟨sb0, off0 + k, none⟩ hsd (by simp)).trans t3d; have CL2 := Lib.hid (CL.out w7 k7); have hs7 := Nat.lt_of_lt_of_le hsd k7.size)
                        | (go_at_call 24; refine CL2.out.mono ?_; rintro e w8 ⟨rfl, k8⟩; have t4 := (k8.cell_far ⟨sb0, off0 + k, none⟩ hs7 (by simp)).trans t4))
                    all_goals
                      have kd : wr.grownBy wr.drew none := ⟨rfl, rfl, rfl, Nat.le_refl _, fun _ _ _ => rfl⟩
                      have kk : wr.grownBy w8 none := (kd.trans k7).trans k8
                      have KK := Lib.hid kk
                      clear kd kk k7 k8 t4 t3d CL CL2 CU
                      go_wp2
                      go_roundw
                      case rel => exact ⟨k + 1, by omega, by go_num, HA4.out.kept KK.out, HS4.out.kept KK.out, HG4.out.trans KK.out⟩
                      case measure => simp [Go.RowKit.intOf]; omega
                · obtain rfl : k = j := by omega
                  go_wp2
                  go_roundw
                  case rel => exact ⟨i + 1, s', by omega, by go_num, A4, S4, HS3, G4⟩
                  case measure => simp [Go.RowKit.intOf]; omega
        · obtain rfl : i = len1 := by omega
          go_wp2
          go_ret
          exact ⟨rfl, G1⟩
end Go.Proofs.Ytchookgdajkipaa
