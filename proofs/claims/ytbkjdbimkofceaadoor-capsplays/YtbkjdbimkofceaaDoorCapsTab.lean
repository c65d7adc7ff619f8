/-
  Contracts of package caps, over this seat's translation: how a table lies in memory; Mint, Look, Need, Revoke.
-/
import Derived.Test.YtbkjdbimkofceaaDoorCaps
import Derived.Deep.RegionHeld3
namespace Go.Proofs.YtbkjdbimkofceaaDoor
open Go.RowKit Go.Lib
set_option maxRecDepth 100000

/-- A place of a table: how many handles it has had; whether one is out, and what that stands for. -/
structure Pl where
  gen : Nat
  out : Bool
  k : Int
  i : Int
  r : Nat
def Pl.row (p : Pl) : SR.Pr := if p.out then ⟨p.gen, p.k, p.i, p.r⟩ else SR.Pr.none
def Pl.full (G : Nat) (p : Pl) : Bool := p.out || decide (G ≤ p.gen)
def Pl.ok (G : Nat) (p : Pl) : Prop := p.gen ≤ G ∧ (p.out = true → 1 ≤ p.gen) ∧ p.r < 256

/-- A table: its struct in block tb, how many handles each place has had in block hb, its region. -/
structure CapMem (w : World) (tb rb ro pb po b g hb n G : Nat) (T : Nat → Pl) : Prop where
  t0 : w.cell? ⟨tb, 0, none⟩ = some (.pointer (some ⟨rb, ro, none⟩))
  t1 : w.cell? ⟨tb, 1, none⟩ = some (.slice (some ⟨hb, 0, none⟩) n n)
  t2 : w.cell? ⟨tb, 2, none⟩ = some (.int .i64 (G : Nat))
  reg : SR.RegMem w rb ro pb po b g n (fun j => (T j).full G) (fun j => (T j).row)
  hc : ∀ j, j < n → w.cell? ⟨hb, j, none⟩ = some (.int .i64 ((T j).gen : Nat))
  hf : ∀ j, j < n → w.frozen? ⟨hb, j, none⟩ = false
  ok : ∀ j, j < n → (T j).ok G
  hG : 1 ≤ G ∧ G ≤ 16777215
  d : tb ≠ hb ∧ tb ≠ pb ∧ tb ≠ g ∧ hb ≠ rb ∧ hb ≠ pb ∧ hb ≠ b ∧ hb ≠ g
  l : tb < w.heap.size ∧ hb < w.heap.size
  pl : ∃ c t, w.heap[tb]? = some (.cells c t (0, 0))

/-- From w to w' nothing has turned but blocks g and hb and the cells of block pb from po on, below po + n. -/
structure CTouch (hb g pb po n : Nat) (w w' : World) : Prop where
  os : w'.os = w.os
  tape : w'.tape = w.tape
  output : w'.output = w.output
  size : w.heap.size ≤ w'.heap.size
  block : ∀ k, k < w.heap.size → k ≠ hb → k ≠ g → k ≠ pb → w'.heap[k]? = w.heap[k]?
  cell : ∀ j, (j < po ∨ po + n ≤ j) → w'.cell? ⟨pb, j, none⟩ = w.cell? ⟨pb, j, none⟩
  frz : ∀ j, w'.frozen? ⟨pb, j, none⟩ = w.frozen? ⟨pb, j, none⟩
section
variable {hb g pb po n : Nat} {w w' w2 : World}
theorem CTouch.of_touch (h : Touch g pb po n w w') : CTouch hb g pb po n w w' := ⟨h.os, h.tape, h.output, h.size, fun k hk _ h1 h2 => h.block k hk h1 h2, h.cell, h.frz⟩
theorem CTouch.of_none (h : w.grownBy w' none) (hp : pb < w.heap.size) : CTouch hb g pb po n w w' := CTouch.of_touch (Touch.of_none h hp)
theorem CTouch.trans (h : CTouch hb g pb po n w w') (k : CTouch hb g pb po n w' w2) : CTouch hb g pb po n w w2 :=
  ⟨k.os.trans h.os, k.tape.trans h.tape, k.output.trans h.output, Nat.le_trans h.size k.size, fun i hi h0 h1 h2 => (k.block i (Nat.lt_of_lt_of_le hi h.size) h0 h1 h2).trans (h.block i hi h0 h1 h2), fun j hj => (k.cell j hj).trans (h.cell j hj), fun j => (k.frz j).trans (h.frz j)⟩
theorem CTouch.set (w : World) (j : Nat) (v : Value) (hne : pb ≠ hb) : CTouch hb g pb po n w (w.setCell ⟨hb, j, none⟩ v) :=
  ⟨rfl, rfl, rfl, by rw [size_set]; exact Nat.le_refl _, fun k _ hk _ _ => Below.heap_setCell w ⟨hb, j, none⟩ v k hk, fun i _ => World.cell?_setCell_other _ _ _ _ (by intro e; injection e with e1; exact hne e1.symm), fun i => World.frozen?_setCell ..⟩
theorem CTouch.only {lo hi : Nat} (h : CTouch hb g pb po n w w') (h0 : lo ≤ hb ∧ hb < hi) (h1 : lo ≤ g ∧ g < hi) (h2 : lo ≤ pb ∧ pb < hi) : Only lo hi w w' :=
  ⟨h.os, h.tape, h.output, h.size, fun k hk hr => h.block k hk (by omega) (by omega) (by omega)⟩
theorem CTouch.far (h : CTouch hb g pb po n w w') (k j : Nat) (hk : k < w.heap.size) (h0 : k ≠ hb) (h1 : k ≠ g) (h2 : k ≠ pb) : w'.cell? ⟨k, j, none⟩ = w.cell? ⟨k, j, none⟩ :=
  World.cell?_of_block (a := ⟨k, j, none⟩) (h.block k hk h0 h1 h2)
theorem CTouch.farF (h : CTouch hb g pb po n w w') (k j : Nat) (hk : k < w.heap.size) (h0 : k ≠ hb) (h1 : k ≠ g) (h2 : k ≠ pb) : w'.frozen? ⟨k, j, none⟩ = w.frozen? ⟨k, j, none⟩ :=
  World.frozen?_of_block (a := ⟨k, j, none⟩) (h.block k hk h0 h1 h2)
end

section
variable {w w' : World} {tb rb ro pb po b g hb n G : Nat} {T : Nat → Pl}
theorem CapMem.only {lo hi : Nat} (H : CapMem w tb rb ro pb po b g hb n G T) (k : Only lo hi w w') (h0 : tb < lo ∨ hi ≤ tb) (h5 : hb < lo ∨ hi ≤ hb) (h1 : rb < lo ∨ hi ≤ rb) (h2 : pb < lo ∨ hi ≤ pb) (h3 : b < lo ∨ hi ≤ b) (h4 : g < lo ∨ hi ≤ g) : CapMem w' tb rb ro pb po b g hb n G T :=
  ⟨(k.cell' tb _ H.l.1 h0).trans H.t0, (k.cell' tb _ H.l.1 h0).trans H.t1, (k.cell' tb _ H.l.1 h0).trans H.t2, H.reg.only k h1 h2 h3 h4, fun j hj => (k.cell' hb _ H.l.2 h5).trans (H.hc j hj), fun j hj => (k.frozen' hb _ H.l.2 h5).trans (H.hf j hj), H.ok, H.hG, H.d, ⟨Nat.lt_of_lt_of_le H.l.1 k.size, Nat.lt_of_lt_of_le H.l.2 k.size⟩, by rw [k.block tb H.l.1 h0]; exact H.pl⟩
theorem CapMem.kept (H : CapMem w tb rb ro pb po b g hb n G T) (k : w.grownBy w' none) : CapMem w' tb rb ro pb po b g hb n G T :=
  H.only (Only.of_none (lo := 0) (hi := 0) k) (Or.inr (by omega)) (Or.inr (by omega)) (Or.inr (by omega)) (Or.inr (by omega)) (Or.inr (by omega)) (Or.inr (by omega))
/-- Behind what is done in another table of the same slab. -/
theorem CapMem.touch {hb' g' po' n' : Nat} (H : CapMem w tb rb ro pb po b g hb n G T) (k : CTouch hb' g' pb po' n' w w') (h0 : tb ≠ hb' ∧ tb ≠ g') (h1 : hb ≠ hb' ∧ hb ≠ g') (h2 : rb ≠ hb' ∧ rb ≠ g') (h3 : b ≠ hb' ∧ b ≠ g') (h4 : g ≠ hb' ∧ g ≠ g') (h5 : po + n * 4 ≤ po' ∨ po' + n' ≤ po) : CapMem w' tb rb ro pb po b g hb n G T := by
  have R := H.reg
  obtain ⟨d1, d2, d3, d4, d5, d6, d7⟩ := H.d
  obtain ⟨e1, e2, e3, e4, e5⟩ := R.d
  have hs := R.set
  refine ⟨(k.far tb _ H.l.1 h0.1 h0.2 d2).trans H.t0, (k.far tb _ H.l.1 h0.1 h0.2 d2).trans H.t1, (k.far tb _ H.l.1 h0.1 h0.2 d2).trans H.t2, ⟨(k.far rb _ R.l.1 h2.1 h2.2 e1).trans R.c0, (k.far rb _ R.l.1 h2.1 h2.2 e1).trans R.c1, fun j hj => (R.cv j hj).of fun i hi => k.cell _ (by omega), fun j hj => (R.fv j hj).of fun _ _ => k.frz _, ?_, R.hn, R.d, ⟨Nat.lt_of_lt_of_le R.l.1 k.size, Nat.lt_of_lt_of_le R.l.2 k.size⟩⟩, fun j hj => (k.far hb _ H.l.2 h1.1 h1.2 d5).trans (H.hc j hj), fun j hj => (k.farF hb _ H.l.2 h1.1 h1.2 d5).trans (H.hf j hj), H.ok, H.hG, H.d, ⟨Nat.lt_of_lt_of_le H.l.1 k.size, Nat.lt_of_lt_of_le H.l.2 k.size⟩, by rw [k.block tb H.l.1 h0.1 h0.2 d2]; exact H.pl⟩
  exact ⟨hs.size, hs.bound, (k.far b 0 hs.hb h3.1 h3.2 (Ne.symm e4)).trans hs.c0, (k.far b 1 hs.hb h3.1 h3.2 (Ne.symm e4)).trans hs.c1, fun j hj => (k.far g j hs.hg h4.1 h4.2 (Ne.symm e5)).trans (hs.cw j hj), fun j hj => (k.farF g j hs.hg h4.1 h4.2 (Ne.symm e5)).trans (hs.cf j hj), hs.bg, Nat.lt_of_lt_of_le hs.hb k.size, Nat.lt_of_lt_of_le hs.hg k.size⟩

/-- A place behind a handle was made in it. -/
def Pl.mint (p : Pl) (k i r : Int) : Pl := ⟨p.gen + 1, true, k, i, (r % 256).toNat⟩
/-- A place behind its handle was revoked. -/
def Pl.drop (p : Pl) : Pl := ⟨p.gen, false, 0, 0, 0⟩


theorem mask_nat (r : Int) : bits .and .i64 r 255 = ((r % 256).toNat : Nat) := by rw [and255]; omega
/-- A table behind its region, and how many handles the places have had, have turned. -/
theorem CapMem.turned {w1 : World} {T' : Nat → Pl} (H : CapMem w tb rb ro pb po b g hb n G T) (k : CTouch hb g pb po (n * 4) w w1) {S' : Nat → Bool} {V' : Nat → SR.Pr} (R : SR.RegMem w1 rb ro pb po b g n S' V') (hS : ∀ j, S' j = (T' j).full G) (hV : ∀ j, V' j = (T' j).row)
    (hc : ∀ j, j < n → w1.cell? ⟨hb, j, none⟩ = some (.int .i64 ((T' j).gen : Nat))) (hf : ∀ j, w1.frozen? ⟨hb, j, none⟩ = w.frozen? ⟨hb, j, none⟩) (ok : ∀ j, j < n → (T' j).ok G) : CapMem w1 tb rb ro pb po b g hb n G T' := by
  obtain ⟨d1, d2, d3, d4, d5, d6, d7⟩ := H.d
  have e1 : S' = fun j => (T' j).full G := funext hS
  have e2 : V' = fun j => (T' j).row := funext hV
  subst e1
  subst e2
  exact ⟨(k.far tb _ H.l.1 d1 d3 d2).trans H.t0, (k.far tb _ H.l.1 d1 d3 d2).trans H.t1, (k.far tb _ H.l.1 d1 d3 d2).trans H.t2, R, hc, fun j hj => (hf j).trans (H.hf j hj), ok, H.hG, H.d, ⟨Nat.lt_of_lt_of_le H.l.1 k.size, Nat.lt_of_lt_of_le H.l.2 k.size⟩, by rw [k.block tb H.l.1 d1 d3 d2]; exact H.pl⟩

set_option maxHeartbeats 4000000 in
theorem mint_ok (p : Nat) (k i r : Int) (H : CapMem w tb rb ro pb po b g hb n G T) (hT : TabAt w) (hp : p < n) (h1 : (T p).out = false) (h2 : (T p).gen < G) (hl : ∀ q, q < p → (T q).full G = true) :
    Calls Tryd.prog 9 #[.pointer (some ⟨tb, 0, none⟩), .agg #[.int .i64 k, .int .i64 i, .int .i64 r]] w fun e w' => e = .returned (.tuple #[.int .u64 (hbits p ((T p).gen + 1) (r % 256).toNat : Nat), .int .i64 0]) ∧ CTouch hb g pb po (n * 4) w w' ∧ CapMem w' tb rb ro pb po b g hb n G (upV T p ((T p).mint k i r)) := by
  have hm := mask_nat r
  have hr : (r % 256).toNat < 256 := by omega
  have hmi : Hid ((T p).mint k i r = ⟨(T p).gen + 1, true, k, i, (r % 256).toNat⟩) := Lib.hid rfl
  generalize (r % 256).toNat = rr at hm hr hmi ⊢
  have ka := World.grownBy_alloc w (.cells #[.int .i64 k, .int .i64 i, .int .i64 (rr : Nat)] 33) none
  have kb : (w.alloc (.cells #[.int .i64 k, .int .i64 i, .int .i64 (rr : Nat)] 33)).grownBy (w.alloc (.cells #[.int .i64 k, .int .i64 i, .int .i64 (rr : Nat)] 33)).drew none := ⟨rfl, rfl, rfl, Nat.le_refl _, fun _ _ _ => rfl⟩
  have kc := ka.trans kb
  have H1 := H.kept kc
  have T1 := hT.kept kc
  have x0 : (w.alloc (.cells #[.int .i64 k, .int .i64 i, .int .i64 (rr : Nat)] 33)).drew.cell? ⟨w.heap.size, 0, none⟩ = some (.int .i64 k) := World.cell?_alloc_new ..
  have x1 : (w.alloc (.cells #[.int .i64 k, .int .i64 i, .int .i64 (rr : Nat)] 33)).drew.cell? ⟨w.heap.size, 0 + 1, none⟩ = some (.int .i64 i) := World.cell?_alloc_new ..
  have x2 : (w.alloc (.cells #[.int .i64 k, .int .i64 i, .int .i64 (rr : Nat)] 33)).drew.cell? ⟨w.heap.size, 0 + 2, none⟩ = some (.int .i64 (rr : Nat)) := World.cell?_alloc_new ..
  have hX : w.heap.size < (w.alloc (.cells #[.int .i64 k, .int .i64 i, .int .i64 (rr : Nat)] 33)).drew.heap.size := by simp [World.drew]
  have KC := Lib.hid kc
  have HH := Lib.hid H
  clear H hT ka kb kc
  go_enter Tryd.func9, Tryd.ntmps9
  go_wp2_with fail
  generalize w.alloc (.cells #[.int .i64 k, .int .i64 i, .int .i64 (rr : Nat)] 33) = w0 at *
  generalize hXX : w.heap.size = X at *
  have t0 := H1.t0
  have C1 := Lib.hid (SR.take_some p ⟨0, k, i, rr⟩ H1.reg T1 hp (by simp [Pl.full, h1, h2]) hl)
  have HH1 := Lib.hid H1
  have HN := Lib.hid hXX
  have HL := Lib.hid hl
  have hd : X ≠ g ∧ X ≠ pb := ⟨by have := HH.out.reg.set.hg; omega, by have := HH.out.reg.l.2; omega⟩
  have HTB := Lib.hid H1.d
  have HTL := Lib.hid H1.l
  clear H1 T1 hl hXX
  go_region_held3 (fun w' => w'.cell? ⟨tb, 0, none⟩ = some (.pointer (some ⟨rb, ro, none⟩)) ∧ w'.cell? ⟨X, 0, none⟩ = some (.int .i64 k) ∧ w'.cell? ⟨X, 0 + 1, none⟩ = some (.int .i64 i) ∧ w'.cell? ⟨X, 0 + 2, none⟩ = some (.int .i64 (rr : Nat))) (first | exact ⟨t0, x0, x1, x2⟩ | exact ⟨t0a, x0a, x1a, x2a⟩)
    (first
      | (go_at_call 26; refine C1.out.mono ?_; rintro e w2 ⟨rfl, T2, R2⟩; have t0a := (T2.far tb 0 HTL.out.1 HTB.out.2.2.1 HTB.out.2.1).trans t0; have x0a := (T2.far X 0 hX hd.1 hd.2).trans x0; have x1a := (T2.far X (0 + 1) hX hd.1 hd.2).trans x1; have x2a := (T2.far X (0 + 2) hX hd.1 hd.2).trans x2))
  have hbd := HTB.out.2.2.2.2
  have u1 := (T2.far tb 1 HTL.out.1 HTB.out.2.2.1 HTB.out.2.1).trans HH1.out.t1
  have u2 := (T2.far hb p HTL.out.2 hbd.2.2 hbd.1).trans (HH1.out.hc p hp)
  have u3 := (T2.farF hb p HTL.out.2 hbd.2.2 hbd.1).trans (HH1.out.hf p hp)
  have q1 : (p : Int) < (n : Int) := by omega
  have q2 : (T p).gen < 16777215 := by have := HH.out.hG.2; omega
  generalize hgen : (T p).gen = gn at *
  have RR := Lib.hid R2
  have TT := Lib.hid T2
  clear R2 T2 C1 t0 x0 x1 x2
  go_wp2_with fail
  refine wp_region_still_tail 14 (by kernel_rfl) (by kernel_rfl) ?_
  simp only [List.take_succ_cons, List.take_zero, List.drop_succ_cons, List.drop_zero]
  change wpStill _ _ (w2.setCell ⟨hb, p, none⟩ (.int .i64 ((gn : Int) + 1))).drew (fun a' => wpList _ _ _ _ a' (w2.setCell ⟨hb, p, none⟩ (.int .i64 ((gn : Int) + 1))).drew) _ _
  have hXh : X ≠ hb := by have := HH.out.l.2; have := HN.out; omega
  have hXz : X < w2.heap.size := Nat.lt_of_lt_of_le hX TT.out.size
  have kd : (w2.setCell ⟨hb, p, none⟩ (.int .i64 ((gn : Int) + 1))).grownBy (w2.setCell ⟨hb, p, none⟩ (.int .i64 ((gn : Int) + 1))).drew none := ⟨rfl, rfl, rfl, Nat.le_refl _, fun _ _ _ => rfl⟩
  have ot : ∀ c j, c ≠ hb → (w2.setCell ⟨hb, p, none⟩ (.int .i64 ((gn : Int) + 1))).drew.cell? ⟨c, j, none⟩ = w2.cell? ⟨c, j, none⟩ := fun c j hc => World.cell?_setCell_other _ _ _ _ (by intro e; injection e with e1; exact hc e1.symm)
  have oh : ∀ j, j ≠ p → (w2.setCell ⟨hb, p, none⟩ (.int .i64 ((gn : Int) + 1))).drew.cell? ⟨hb, j, none⟩ = w2.cell? ⟨hb, j, none⟩ := fun j hj => World.cell?_setCell_other _ _ _ _ (by intro e; injection e with e1 e2; exact hj e2.symm)
  have OH := Lib.hid oh
  have ofz : Hid (∀ a, (w2.setCell ⟨hb, p, none⟩ (.int .i64 ((gn : Int) + 1))).drew.frozen? a = w2.frozen? a) := Lib.hid fun a => World.frozen?_setCell ..
  have R3 := Lib.hid ((RR.out.only (Only.set (lo := hb) (hi := hb + 1) w2 ⟨hb, p, none⟩ (.int .i64 ((gn : Int) + 1)) (Nat.le_refl _) (Nat.lt_succ_self _)) (by have := HTB.out; omega) (by have := HTB.out; omega) (by have := HTB.out; omega) (by have := HTB.out; omega)).kept kd)
  have T3 : Hid (CTouch hb g pb po (n * 4) w2 (w2.setCell ⟨hb, p, none⟩ (.int .i64 ((gn : Int) + 1))).drew) := Lib.hid ((CTouch.set w2 p _ (Ne.symm hbd.1)).trans (CTouch.of_none kd (by rw [size_set]; exact RR.out.l.2)))
  have t0b := (ot tb 0 HTB.out.1).trans t0a
  have t1b := (ot tb 1 HTB.out.1).trans u1
  have x0b := (ot X 0 hXh).trans x0a
  have x1b := (ot X (0 + 1) hXh).trans x1a
  have x2b := (ot X (0 + 2) hXh).trans x2a
  have u2b : (w2.setCell ⟨hb, p, none⟩ (.int .i64 ((gn : Int) + 1))).drew.cell? ⟨hb, p, none⟩ = some (.int .i64 ((gn : Int) + 1)) := World.cell?_setCell_same _ _ _ u2
  have hX3 : X < (w2.setCell ⟨hb, p, none⟩ (.int .i64 ((gn : Int) + 1))).drew.heap.size := by show X < (w2.setCell _ _).heap.size; rw [size_set]; exact hXz
  have hL3 : tb < (w2.setCell ⟨hb, p, none⟩ (.int .i64 ((gn : Int) + 1))).drew.heap.size ∧ hb < (w2.setCell ⟨hb, p, none⟩ (.int .i64 ((gn : Int) + 1))).drew.heap.size := by show tb < (w2.setCell _ _).heap.size ∧ hb < (w2.setCell _ _).heap.size; rw [size_set]; exact ⟨Nat.lt_of_lt_of_le HTL.out.1 TT.out.size, Nat.lt_of_lt_of_le HTL.out.2 TT.out.size⟩
  clear ot oh kd t0a u1 u2 u3 x0a x1a x2a hXz
  generalize (w2.setCell ⟨hb, p, none⟩ (.int .i64 ((gn : Int) + 1))).drew = w3 at *
  have C3 := Lib.hid (SR.set_in p ⟨(gn : Int) + 1, k, i, rr⟩ R3.out hp (by simp [ins]))
  repeat still_step
  refine wpStill_nil ?_
  go_wp2_with fail
  refine C3.out.mono ?_
  rintro e w4 ⟨rfl, T4, R4⟩
  have s0 := (T4.far tb 1 hL3.1 HTB.out.2.2.1 HTB.out.2.1).trans t1b
  have s1 := (T4.far hb p hL3.2 hbd.2.2 hbd.1).trans u2b
  have s2 := (T4.far X (0 + 2) hX3 hd.1 hd.2).trans x2b
  have OH4 : Hid (∀ j, w4.cell? ⟨hb, j, none⟩ = w3.cell? ⟨hb, j, none⟩) := Lib.hid fun j => T4.far hb j hL3.2 hbd.2.2 hbd.1
  have OF4 : Hid (∀ j, w4.frozen? ⟨hb, j, none⟩ = w3.frozen? ⟨hb, j, none⟩) := Lib.hid fun j => T4.farF hb j hL3.2 hbd.2.2 hbd.1
  have RR4 := Lib.hid R4
  have TT4 := Lib.hid T4
  have CP : Hid (∀ v : World, Calls Tryd.prog 25 #[.int .i64 p, .int .i64 ((gn : Int) + 1), .int .i64 rr] v fun e w' => e = .returned (.int .u64 (hbits p (gn + 1) rr : Nat)) ∧ w' = v) := Lib.hid fun v => by
    have := pack_any p (gn + 1) rr v (by have := HH.out.reg.hn; omega) (by omega) hr
    exact this.mono fun _ _ ⟨a, b⟩ => ⟨a, b.symm⟩
  clear R4 T4 t0b t1b x0b x1b x2b u2b C3
  go_wp2_with fail
  go_quiet ((go_at_call 25; exact Calls.quiet_of_same (CP.out _)))
  go_wp2
  go_ret2
  have kz : w4.grownBy (w4.drewN nq) none := ⟨rfl, rfl, rfl, Nat.le_refl _, fun _ _ _ => rfl⟩
  have C14 : CTouch hb g pb po (n * 4) w0.drew (w4.drewN nq) := (((CTouch.of_touch TT.out).trans T3.out).trans (CTouch.of_touch TT4.out)).trans (CTouch.of_none kz RR4.out.l.2)
  have ho := HH.out.ok
  rw [hgen]
  refine ⟨rfl, (CTouch.of_none KC.out HH.out.reg.l.2).trans C14, ?_⟩
  rw [hmi.out]
  refine HH1.out.turned C14 (RR4.out.kept kz) (fun j => ?_) (fun j => ?_) (fun j hj => ?_) (fun j => ?_) (fun j hj => ?_)
  · by_cases e : j = p
    · subst e; simp [ins, upV_same, Pl.full]
    · simp [ins, upV_other _ _ _ _ e, e]
  · by_cases e : j = p
    · subst e; simp [upV_same, Pl.row]
    · simp [upV_other _ _ _ _ e]
  · by_cases e : j = p
    · subst e; rw [upV_same]; exact s1
    · rw [upV_other _ _ _ _ e]
      exact (OH4.out j).trans ((OH.out j e).trans ((TT.out.far hb j HTL.out.2 hbd.2.2 hbd.1).trans (HH1.out.hc j hj)))
  · exact (OF4.out j).trans ((ofz.out _).trans (TT.out.farF hb j HTL.out.2 hbd.2.2 hbd.1))
  · by_cases e : j = p
    · subst e; rw [upV_same]; exact ⟨by show gn + 1 ≤ G; omega, fun _ => by show 1 ≤ gn + 1; omega, hr⟩
    · rw [upV_other _ _ _ _ e]; exact ho j hj
end
end Go.Proofs.YtbkjdbimkofceaaDoor
