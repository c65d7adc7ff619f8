/-
  Contracts of package caps, over this seat's translation: Mint of a table that is full; Look, Need, Revoke.
-/
import Derived.Test.YtbkjdbimkofceaaDoorCapsTab
namespace Go.Proofs.YtbkjdbimkofceaaDoor
open Go.RowKit Go.Lib
set_option maxRecDepth 100000

section
variable {w w' : World} {tb rb ro pb po b g hb n G : Nat} {T : Nat → Pl}

set_option maxHeartbeats 4000000 in
theorem mint_no (k i r : Int) (H : CapMem w tb rb ro pb po b g hb n G T) (hT : TabAt w) (hl : ∀ q, q < n → (T q).full G = true) :
    Calls Tryd.prog 9 #[.pointer (some ⟨tb, 0, none⟩), .agg #[.int .i64 k, .int .i64 i, .int .i64 r]] w fun e w' => e = .returned (.tuple #[.int .u64 0, .int .i64 4]) ∧ w.grownBy w' none := by
  have hm := mask_nat r
  generalize (r % 256).toNat = rr at hm
  have ka := World.grownBy_alloc w (.cells #[.int .i64 k, .int .i64 i, .int .i64 (rr : Nat)] 33) none
  have kb : (w.alloc (.cells #[.int .i64 k, .int .i64 i, .int .i64 (rr : Nat)] 33)).grownBy (w.alloc (.cells #[.int .i64 k, .int .i64 i, .int .i64 (rr : Nat)] 33)).drew none := ⟨rfl, rfl, rfl, Nat.le_refl _, fun _ _ _ => rfl⟩
  have kc := ka.trans kb
  have H1 := H.kept kc
  have T1 := hT.kept kc
  have x0 : (w.alloc (.cells #[.int .i64 k, .int .i64 i, .int .i64 (rr : Nat)] 33)).drew.cell? ⟨w.heap.size, 0, none⟩ = some (.int .i64 k) := World.cell?_alloc_new ..
  have x1 : (w.alloc (.cells #[.int .i64 k, .int .i64 i, .int .i64 (rr : Nat)] 33)).drew.cell? ⟨w.heap.size, 0 + 1, none⟩ = some (.int .i64 i) := World.cell?_alloc_new ..
  have x2 : (w.alloc (.cells #[.int .i64 k, .int .i64 i, .int .i64 (rr : Nat)] 33)).drew.cell? ⟨w.heap.size, 0 + 2, none⟩ = some (.int .i64 (rr : Nat)) := World.cell?_alloc_new ..
  have hX : w.heap.size < (w.alloc (.cells #[.int .i64 k, .int .i64 i, .int .i64 (rr : Nat)] 33)).drew.heap.size := by simp [World.drew]
  have KC := Lib.hid kc
  clear H hT ka kb kc
  go_enter Tryd.func9, Tryd.ntmps9
  go_wp2_with fail
  generalize w.alloc (.cells #[.int .i64 k, .int .i64 i, .int .i64 (rr : Nat)] 33) = w0 at *
  generalize hXX : w.heap.size = X at *
  have t0 := H1.t0
  have C1 := Lib.hid (SR.take_none ⟨0, k, i, rr⟩ H1.reg T1 hl)
  have htl := H1.l.1
  clear H1 T1 hl hXX
  go_region_held3 (fun w' => w'.cell? ⟨tb, 0, none⟩ = some (.pointer (some ⟨rb, ro, none⟩)) ∧ w'.cell? ⟨X, 0, none⟩ = some (.int .i64 k) ∧ w'.cell? ⟨X, 0 + 1, none⟩ = some (.int .i64 i) ∧ w'.cell? ⟨X, 0 + 2, none⟩ = some (.int .i64 (rr : Nat))) (first | exact ⟨t0, x0, x1, x2⟩ | exact ⟨t0a, x0a, x1a, x2a⟩)
    (first
      | (go_at_call 26; refine C1.out.mono ?_; rintro e w2 ⟨rfl, T2⟩; have t0a := (T2.cell_far ⟨tb, 0, none⟩ htl (by simp)).trans t0; have x0a := (T2.cell_far ⟨X, 0, none⟩ hX (by simp)).trans x0; have x1a := (T2.cell_far ⟨X, 0 + 1, none⟩ hX (by simp)).trans x1; have x2a := (T2.cell_far ⟨X, 0 + 2, none⟩ hX (by simp)).trans x2))
  have TT := Lib.hid T2
  clear T2 C1 t0 x0 x1 x2
  go_wp2
  go_ret2
  exact ⟨rfl, grow_to KC.out TT.out⟩

set_option maxHeartbeats 4000000 in
theorem look_in (p : Nat) (H : CapMem w tb rb ro pb po b g hb n G T) (hp : p < n) (ho : (T p).out = true) :
    Calls Tryd.prog 14 #[.pointer (some ⟨tb, 0, none⟩), .int .u64 (hbits p (T p).gen (T p).r : Nat)] w fun e w' => e = .returned (.tuple #[.agg #[.int .i64 (T p).k, .int .i64 (T p).i, .int .i64 ((T p).r : Nat)], .int .i64 0]) ∧ w.grownBy w' none := by
  obtain ⟨o1, o2, o3⟩ := H.ok p hp
  have o2 := o2 ho
  have hn := H.reg.hn
  have hG := H.hG.2
  have ka := World.grownBy_alloc w (.cells #[.int .i64 0, .int .i64 0, .int .i64 0] 33) none
  have Ha := H.kept ka
  have t0 := Ha.t0
  have C2 := SR.at_in p Ha.reg hp (by simp [Pl.full, ho])
  have hrow : (T p).row.val = .agg #[.int .i64 ((T p).gen : Nat), .int .i64 (T p).k, .int .i64 (T p).i, .int .i64 ((T p).r : Nat)] := by simp [Pl.row, ho, SR.Pr.val]
  rw [hrow] at C2
  clear hrow
  generalize (T p).gen = gn at *
  generalize (T p).k = k at *
  generalize (T p).i = i at *
  generalize (T p).r = r at *
  have C1 : Hid (∀ v : World, Calls Tryd.prog 24 #[.int .u64 (hbits p gn r : Nat)] v fun e w' => e = .returned (.tuple #[.int .i64 p, .int .u64 gn, .int .i64 r]) ∧ v = w') := Lib.hid fun v => by
    have := parts_any (hbits p gn r) v (hbits_lt p gn r (by omega) (by omega) o3)
    rwa [hbits_slot p gn r (by omega) o3, hbits_gen p gn r (by omega) o3, hbits_rights p gn r o3] at this
  have CP : Hid (∀ v : World, Calls Tryd.prog 25 #[.int .i64 p, .int .i64 (gn : Nat), .int .i64 r] v fun e w' => e = .returned (.int .u64 (hbits p gn r : Nat)) ∧ v = w') := Lib.hid fun v => pack_any p gn r v (by omega) (by omega) o3
  have hlt : hbits p gn r < 18446744073709551616 := hbits_lt p gn r (by omega) (by omega) o3
  generalize hbits p gn r = h at *
  have CI : Hid (∀ v : World, Calls Tryd.prog 38 #[.agg #[.int .i64 (gn : Nat), .int .i64 k, .int .i64 i, .int .i64 (r : Nat)]] v fun e w' => e = .returned (.bool true) ∧ v.grownBy w' none) := Lib.hid fun v => by
    have := isOut_any gn k i r v
    rwa [show decide ((0 : Int) < (gn : Nat)) = true by simp; omega] at this
  have KA := Lib.hid ka
  have CC2 := Lib.hid C2
  clear H Ha ka C2
  go_enter Tryd.func14, Tryd.ntmps14
  go_wp2_with fail
  refine (C1.out _).mono ?_
  rintro e w' ⟨rfl, rfl⟩
  go_wp2_with fail
  refine CC2.out.mono ?_
  rintro e w1 ⟨rfl, k1⟩
  have hsz : w.heap.size < w1.heap.size := Nat.lt_of_lt_of_le (by simp) k1.size
  have bx : ∀ j, w1.cell? ⟨w.heap.size, j, none⟩ = (w.alloc (.cells #[.int .i64 0, .int .i64 0, .int .i64 0] 33)).cell? ⟨w.heap.size, j, none⟩ := fun j => k1.cell_far ⟨w.heap.size, j, none⟩ (by simp) (by simp)
  have bf : ∀ j, w1.frozen? ⟨w.heap.size, j, none⟩ = (w.alloc (.cells #[.int .i64 0, .int .i64 0, .int .i64 0] 33)).frozen? ⟨w.heap.size, j, none⟩ := fun j => k1.frozen_far ⟨w.heap.size, j, none⟩ (by simp) (by simp)
  have kk := KA.out.trans k1
  have x0 : w1.cell? ⟨w.heap.size, 0, none⟩ = some (.int .i64 0) := (bx 0).trans (World.cell?_alloc_new ..)
  have x1 : w1.cell? ⟨w.heap.size, 1, none⟩ = some (.int .i64 0) := (bx 1).trans (World.cell?_alloc_new ..)
  have x2 : w1.cell? ⟨w.heap.size, 2, none⟩ = some (.int .i64 0) := (bx 2).trans (World.cell?_alloc_new ..)
  have f0 : ∀ j, w1.frozen? ⟨w.heap.size, j, none⟩ = false := fun j => (bf j).trans (by simp)
  have kc := World.grownBy_alloc w1 (.cells #[.int .i64 (gn : Nat), .int .i64 k, .int .i64 i, .int .i64 (r : Nat)] 56) none
  have KK := Lib.hid (kk.trans kc)
  clear bx bf kk k1
  go_wp2_with fail
  refine (CI.out _).mono ?_
  rintro e w2 ⟨rfl, k2⟩
  have kd := kc.trans k2
  have a0 := (kd.cell_far ⟨w.heap.size, 0, none⟩ hsz (by simp)).trans x0
  have a1 := (kd.cell_far ⟨w.heap.size, 1, none⟩ hsz (by simp)).trans x1
  have a2 := (kd.cell_far ⟨w.heap.size, 2, none⟩ hsz (by simp)).trans x2
  have g0 := (kd.frozen_far ⟨w.heap.size, 0, none⟩ hsz (by simp)).trans (f0 0)
  have g1 := (kd.frozen_far ⟨w.heap.size, 1, none⟩ hsz (by simp)).trans (f0 1)
  have g2 := (kd.frozen_far ⟨w.heap.size, 2, none⟩ hsz (by simp)).trans (f0 2)
  have yy : ∀ j, w2.cell? ⟨w1.heap.size, j, none⟩ = (w1.alloc (.cells #[.int .i64 (gn : Nat), .int .i64 k, .int .i64 i, .int .i64 (r : Nat)] 56)).cell? ⟨w1.heap.size, j, none⟩ := fun j => k2.cell_far ⟨w1.heap.size, j, none⟩ (by simp) (by simp)
  have y0 : w2.cell? ⟨w1.heap.size, 0, none⟩ = some (.int .i64 (gn : Nat)) := (yy 0).trans (World.cell?_alloc_new ..)
  have y1 : w2.cell? ⟨w1.heap.size, 1, none⟩ = some (.int .i64 k) := (yy 1).trans (World.cell?_alloc_new ..)
  have y2 : w2.cell? ⟨w1.heap.size, 2, none⟩ = some (.int .i64 i) := (yy 2).trans (World.cell?_alloc_new ..)
  have y3 : w2.cell? ⟨w1.heap.size, 3, none⟩ = some (.int .i64 (r : Nat)) := (yy 3).trans (World.cell?_alloc_new ..)
  have K2 := Lib.hid (grow_to KK.out k2)
  have hne : w1.heap.size ≠ w.heap.size := by omega
  clear yy kd kc k2 x0 x1 x2 f0 t0 CI CC2 C1
  go_wp2_with fail
  refine (CP.out _).mono ?_
  rintro e w' ⟨rfl, rfl⟩
  go_wp2
  exact bodyPost_ret (v := .tuple #[.agg #[.int .i64 k, .int .i64 i, .int .i64 (r : Nat)], .int .i64 0]) (by simp [results, Tryd.results14, go_sem, a0, a1, a2]) rfl
    ⟨rfl, Only.on K2.out (((Only.set (lo := w.heap.size) (hi := w.heap.size + 1) _ ⟨w.heap.size, 0, none⟩ _ (Nat.le_refl _) (Nat.lt_succ_self _)).trans (Only.set _ ⟨w.heap.size, 1, none⟩ _ (Nat.le_refl _) (Nat.lt_succ_self _))).trans (Only.set _ ⟨w.heap.size, 2, none⟩ _ (Nat.le_refl _) (Nat.lt_succ_self _))) (Nat.le_refl _)⟩
end
end Go.Proofs.YtbkjdbimkofceaaDoor
