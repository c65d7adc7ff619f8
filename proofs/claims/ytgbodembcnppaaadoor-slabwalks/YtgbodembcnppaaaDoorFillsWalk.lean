/-
  The walk of the statement SlabFills: places are filled from below, each once, until there is none left; of places that become free the first one is filled first.
-/
import Derived.Test.YtgbodembcnppaaaDoorAlive3
import Derived.Test.YtgbodembcnppaaaDoorRegAt
namespace Go.Proofs.YtgbodembcnppaaaDoor
open Go.RowKit Go.Lib

def mk31 (z : Int) : Nat := (z % 32).toNat
theorem mk31_lt (z : Int) : mk31 z < 32 := by unfold mk31; omega
theorem mask_31 (z : Int) : bits .and .i64 z 31 = (mk31 z : Int) := by
  have h := i64_mask 5 (by decide) z
  have e : bits .and .i64 z 31 = z % 32 := h
  rw [e]; unfold mk31; omega
theorem room_small (k : Nat) (h : k ≤ 256) : nOf (fun _ => (k : Int)) 0 = k := by show roomN (k : Int) = k; unfold roomN; omega

/-- All places below j are taken, no other one. -/
def below_ (j : Nat) : Nat → Bool := fun i => decide (i < j)
theorem below_zero : (fun _ => false) = below_ 0 := by funext i; simp [below_]
theorem below_succ (j : Nat) : ins (below_ j) j = below_ (j + 1) := by
  funext i
  simp only [ins, below_]
  by_cases h : i = j
  · subst h; simp
  · have : (i == j) = false := by rw [beq_eq_false_iff_ne]; exact h
    rw [this, Bool.false_or]
    apply decide_eq_decide.2; omega

/-- Marks of a set's gaps, below n, in a row. -/
structure GapsAt (w : World) (fr n : Nat) (S : Nat → Bool) : Prop where
  c : ∀ i, i < n → w.cell? ⟨fr, i, none⟩ = some (.int .i64 ((!S i).toNat : Nat))
  f : ∀ i, i < n → w.frozen? ⟨fr, i, none⟩ = false
  l : fr < w.heap.size
theorem GapsAt.only {w w' : World} {fr n lo hi : Nat} {S : Nat → Bool} (h : GapsAt w fr n S) (k : Only lo hi w w') (hr : fr < lo ∨ hi ≤ fr) : GapsAt w' fr n S :=
  ⟨fun i hi => (k.cell ⟨fr, i, none⟩ h.l hr).trans (h.c i hi), fun i hi => (k.frozen ⟨fr, i, none⟩ h.l hr).trans (h.f i hi), Nat.lt_of_lt_of_le h.l k.size⟩
theorem GapsAt.del {w : World} {fr n k : Nat} {S : Nat → Bool} (h : GapsAt w fr n S) (hk : k < n) (_hS : S k = true) : GapsAt (w.setCell ⟨fr, k, none⟩ (.int .i64 1)) fr n (del S k) := by
  refine ⟨fun i hi => ?_, fun i hi => (World.frozen?_setCell ..).trans (h.f i hi), by rw [size_set]; exact h.l⟩
  by_cases e : i = k
  · subst e
    have : Go.Proofs.YtgbodembcnppaaaDoor.del S i i = false := by simp [Go.Proofs.YtgbodembcnppaaaDoor.del]
    rw [this]; exact World.cell?_setCell_same _ _ _ (h.c i hi)
  · have : Go.Proofs.YtgbodembcnppaaaDoor.del S k i = S i := by simp [Go.Proofs.YtgbodembcnppaaaDoor.del, e]
    rw [this, World.cell?_setCell_other _ _ _ _ (by intro e'; injection e' with e1 e2; exact e e2.symm)]; exact h.c i hi

/-- Behind t numbers taken, the last of them told. -/
structure Filled (S0 S : Nat → Bool) (n t : Nat) (last : Int) : Prop where
  le : ∀ i : Nat, (i : Int) ≤ last → i < n → S i = true
  gt : ∀ i : Nat, last < (i : Int) → S i = S0 i
  c : cnt S n = cnt S0 n + t

theorem filled_step {S0 S : Nat → Bool} {n t p : Nat} {last : Int} (h : Filled S0 S n t last) (hp : p < n) (hS : S p = false) (hl : ∀ q, q < p → S q = true) : last < (p : Int) ∧ S0 p = false ∧ Filled S0 (ins S p) n (t + 1) p := by
  have h1 : last < (p : Int) := by
    refine Decidable.byContradiction fun hn => ?_
    have := h.le p (by omega) hp
    rw [hS] at this; cases this
  refine ⟨h1, (h.gt p h1).symm.trans hS, fun i hi hin => ?_, fun i hi => ?_, ?_⟩
  · by_cases e : i = p
    · subst e; simp [ins]
    · simp [ins, hl i (by omega)]
  · have : ¬ i = p := by omega
    simp [ins, this, h.gt i (by omega)]
  · rw [cnt_ins S p hS, h.c]; simp [hp]; omega

set_option maxRecDepth 100000 in
set_option maxHeartbeats 8000000 in
theorem fills_walk (room : Int) (sa : Option Addr) (len cap sb off : Nat) (zs : Nat → Int) (w : World) (hT : TabAt w)
    (_hm : len ≤ maxLen) (hsa : 0 < len → sa = some ⟨sb, off, none⟩ ∧ sb < w.heap.size) (hz : ∀ j, j < len → w.cell? ⟨sb, off + j, none⟩ = some (.int .i64 (zs j))) :
    Calls Tryd.prog 7 #[.int .i64 room, .slice sa len cap] w fun e w' => e = .returned (.bool true) ∧ w.grownBy w' none := by
  have HSA := Lib.hid hsa
  have HZ := Lib.hid hz
  have HT := Lib.hid hT
  have hpos := tab_pos hT
  clear hsa hz _hm hT
  by_cases hl : 40 < len
  · go_enter Tryd.func7, Tryd.ntmps7
    go_wp2_with fail
    refine (alive3 _ HT.out).mono ?_
    rintro e w0 ⟨rfl, hG0⟩
    go_wp2
    go_ret
    exact ⟨rfl, hG0⟩
  have hmask := mask_31 room
  have hrm := mk31_lt room
  generalize mk31 room = rm at *
  go_enter Tryd.func7, Tryd.ntmps7
  go_wp2_with fail
  refine (alive3 _ HT.out).mono ?_
  rintro e w0 ⟨rfl, hG0⟩
  have ka := World.grownBy_alloc w0 (.cells #[.int .i64 (rm : Int)] 3) none
  have CA := Lib.hid (SI.new_made _ 1 1 _ _ (caps_one w0 (rm : Int)))
  have G1 := grow_to hG0 ka
  clear hG0 ka
  go_wp2_with fail
  refine CA.out.mono ?_
  rintro e w1 ⟨sbA, rb, rfl, k1, A1⟩
  have G2 := grow_to G1 k1
  have hlo : w.heap.size ≤ (w0.alloc (.cells #[.int .i64 (rm : Int)] 3)).heap.size := G1.size
  generalize (w0.alloc (.cells #[.int .i64 (rm : Int)] 3)).heap.size = lo at A1 hlo
  have hlo0 : 0 < lo := by omega
  have CR : Hid (Calls Tryd.prog 12 #[.pointer (some ⟨sbA, 0, none⟩), .int .i64 0] w1 fun e w' => e = .returned (.pointer (some ⟨rb, 0, none⟩)) ∧ w1.grownBy w' none) := Lib.hid (SI.region_in 0 A1 (by decide))
  have R1 := regAt_of A1 0 (by decide)
  rw [room_small rm (by omega), below_zero] at R1
  generalize w1.heap.size = hi at R1
  clear CA G1 k1 A1
  go_wp2_with fail
  refine CR.out.mono ?_
  rintro e w2 ⟨rfl, k2⟩
  have R2 := R1.grown k2
  have G3 := grow_to G2 k2
  clear CR R1 G2 k2 hmask
  go_wp2
  go_loopw [30] (fun it wr => ∃ (j : Nat) (V : Nat → Int), j ≤ rm ∧ it = .int .i64 j ∧ RegAt wr lo hi rb 0 rm (below_ j) V ∧ w.grownBy wr none) (fun it _ => rm - (intOf it).toNat)
  case atStart => exact ⟨0, _, Nat.zero_le _, rfl, R2, G3⟩
  case round =>
    obtain ⟨j, V, hj, rfl, R, hG⟩ := hrel
    clear R2 G3
    by_cases hlt : j < rm
    · have C1 := r_take j (j : Int) R (HT.out.kept hG) hlt (by simp [below_]) (fun q hq => by simp [below_, hq])
      rw [below_succ] at C1
      have C1' := Lib.hid C1
      clear R C1
      go_wp2_with fail
      refine C1'.out.mono ?_
      rintro e w3 ⟨rfl, y3, R3⟩
      have G3 := Only.on hG y3 hlo
      clear hG y3 C1'
      go_wp2
      go_roundw
      case rel => exact ⟨j + 1, _, by omega, by go_num, R3, G3⟩
      case measure => simp [intOf]; omega
    · have e : j = rm := by omega
      subst e
      have hTr := HT.out.kept hG
      have C1 := Lib.hid (r_full 9 R hTr (fun q hq => by simp [below_, hq]))
      have C2 := Lib.hid (r_count j R (cnt_all _ _ fun i hi => by simp [below_, hi]))
      have hmk : ∀ W : World, (Instr.makeSlice 22 (.int .i64 (j : Int)) (.int .i64 (j : Int))).run Tryd.prog W = _ := fun W => make_ints j j (Nat.le_refl _) (by omega) W
      have kf := World.grownBy_alloc wr (.cells (madeCells #[.int .i64 0] j) 3) none
      have Rf := R.grown kf
      have Gf := grow_to hG kf
      have hfr := R.sz
      have gf : GapsAt (wr.alloc (.cells (madeCells #[.int .i64 0] j) 3)) wr.heap.size j (below_ j) := ⟨fun i hi => by
        rw [World.cell?_alloc_new]
        simpa [below_, hi] using made_at (.int .i64 0) j i hi, fun i hi => by simp, by simp⟩
      have hc0 : Hid (cnt (below_ j) j = j) := Lib.hid (cnt_all _ _ fun i hi => by simp [below_, hi])
      clear R hG kf hTr
      go_wp2_with fail
      refine (C1.out).mono ?_
      rintro e w' ⟨rfl, rfl⟩
      go_wp2_with fail
      refine (C2.out).mono ?_
      rintro e w' ⟨rfl, rfl⟩
      go_wp2
      clear hmk C1 C2
      generalize wr.alloc (.cells (madeCells #[.int .i64 0] j) 3) = wz at Rf Gf gf ⊢
      generalize wr.heap.size = fr at gf hfr ⊢
      clear wr
      go_loopw [12, 63] (fun nv it wr => ∃ (t : Nat) (S : Nat → Bool) (V : Nat → Int) (c : Nat), t ≤ len ∧ it = .int .i64 t ∧ nv = .int .i64 c ∧ Hid (cnt S j + c = j) ∧ RegAt wr lo hi rb 0 j S V ∧ GapsAt wr fr j S ∧ w.grownBy wr none) (fun _ it _ => len - (intOf it).toNat)
      case atStart => exact ⟨0, _, _, 0, Nat.zero_le _, rfl, rfl, hc0, Rf, gf, Gf⟩
      case round =>
        obtain ⟨t, S, V, c, ht, rfl, rfl, hc, R, gg, hG⟩ := hrel
        clear Rf gf Gf hc0
        have hcj : c ≤ j := by have := hc.out; omega
        by_cases hlt2 : t < len
        · obtain ⟨rfl, hsb⟩ := HSA.out (by omega)
          have hcell : wr.cell? ⟨sb, off + t, none⟩ = some (.int .i64 (zs t)) := (hG.cell_far ⟨sb, off + t, none⟩ hsb (by simp)).trans (HZ.out t hlt2)
          generalize zs t = z at *
          by_cases hin : z < 0 ∨ (j : Int) ≤ z ∨ S z.toNat = false
          · have C1 := Lib.hid (r_give_no z R hin)
            clear hin
            go_wp2_with fail
            refine C1.out.mono ?_
            rintro e w3 ⟨rfl, k3⟩
            have R3 := R.grown k3
            have g3 := gg.only (Only.of_none (lo := 0) (hi := 0) k3) (Or.inr (Nat.zero_le _))
            have G3 := grow_to hG k3
            clear R gg hG k3 C1 hcell
            go_wp2
            go_roundw
            case rel => exact ⟨t + 1, S, V, c, by omega, by go_num, rfl, hc, R3, g3, G3⟩
            case measure => simp [intOf]; omega
          · obtain ⟨k, rfl⟩ := Int.eq_ofNat_of_zero_le (show 0 ≤ z by omega)
            have hk : k < j := by omega
            have hS : S k = true := by
              cases h : S k
              · exact absurd (Or.inr (Or.inr (by simpa using h))) hin
              · rfl
            have C1 := Lib.hid (r_give k R hk hS)
            have hcd : Hid (cnt (del S k) j + (c + 1) = j) := Lib.hid (by have := cnt_del S k hS j; simp [hk] at this; have := hc.out; omega)
            clear hin
            go_wp2_with fail
            refine C1.out.mono ?_
            rintro e w3 ⟨rfl, y3, R3⟩
            have g3 := gg.only y3 (Or.inr hfr.1)
            have G3 := Only.on hG y3 hlo
            have h1 := g3.c k hk
            rw [hS] at h1
            have h2 := g3.f k hk
            have g4 := Lib.hid (g3.del hk hS)
            have R4 := Lib.hid (R3.kept (Only.set (lo := fr) (hi := fr + 1) w3 ⟨fr, k, none⟩ (.int .i64 1) (Nat.le_refl _) (Nat.lt_succ_self _)) (Or.inl hfr.1))
            have G4 := Lib.hid (Only.on G3 (Only.set (lo := fr) (hi := fr + 1) w3 ⟨fr, k, none⟩ (.int .i64 1) (Nat.le_refl _) (Nat.lt_succ_self _)) (by omega))
            clear R gg hG y3 C1 hcell R3 g3 G3 hS
            go_wp2
            go_roundw
            case rel => exact ⟨t + 1, _, _, c + 1, by omega, by go_num, by go_num, hcd, R4.out, g4.out, G4.out⟩
            case measure => simp [intOf]; omega
        · clear HSA HZ
          have F0 : Hid (Filled S S j 0 (-1)) := Lib.hid ⟨fun i h1 _ => absurd h1 (by omega), fun _ _ => rfl, by omega⟩
          go_wp2
          go_loopw [15, 80] (fun lv it wr => ∃ (i : Nat) (S' : Nat → Bool) (V' : Nat → Int) (last : Int), i ≤ c ∧ it = .int .i64 i ∧ lv = .int .i64 last ∧ Hid (Filled S S' j i last) ∧ RegAt wr lo hi rb 0 j S' V' ∧ GapsAt wr fr j S ∧ w.grownBy wr none) (fun _ it _ => c - (intOf it).toNat)
          case atStart => exact ⟨0, S, V, -1, Nat.zero_le _, rfl, rfl, F0, R, gg, hG⟩
          case round =>
            obtain ⟨i, S', V', last, hi', rfl, rfl, hF, R', gg', hG'⟩ := hrel
            clear F0 R gg hG
            by_cases hlt3 : i < c
            · obtain ⟨p, hp, hS, hpl⟩ := least_gap S' j (cnt_gap S' j (by have := hF.out.c; have := hc.out; omega))
              obtain ⟨f1, f2, f3⟩ := filled_step hF.out hp hS hpl
              have F3 := Lib.hid f3
              have C1 := Lib.hid (r_take p 100 R' (HT.out.kept hG') hp hS hpl)
              clear hpl hS hF f3 R'
              go_wp2_with fail
              refine C1.out.mono ?_
              rintro e w3 ⟨rfl, y3, R3⟩
              have g3 := gg'.only y3 (Or.inr hfr.1)
              have G3 := Only.on hG' y3 hlo
              have h1 := g3.c p hp
              rw [f2] at h1
              have hle : ((p : Int) ≤ last) = False := eq_false (by omega)
              clear gg' hG' y3 C1 f2
              go_wp2
              go_roundw
              case rel => exact ⟨i + 1, _, _, _, by omega, by go_num, rfl, F3, R3, g3, G3⟩
              case measure => simp [intOf]; omega
            · have e : i = c := by omega
              subst e
              have D1 := Lib.hid (r_count j R' (by have := hF.out.c; have := hc.out; omega))
              have D2 := Lib.hid (r_room R')
              go_wp2_with fail
              refine (D1.out).mono ?_
              rintro e w' ⟨rfl, rfl⟩
              go_wp2_with fail
              refine (D2.out).mono ?_
              rintro e w' ⟨rfl, rfl⟩
              go_wp2
              go_ret
              exact ⟨rfl, hG'⟩

end Go.Proofs.YtgbodembcnppaaaDoor
