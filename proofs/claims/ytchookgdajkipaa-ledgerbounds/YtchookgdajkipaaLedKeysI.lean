/-
  Contracts of package ledger, over this seat's translation, for a book of numbers: Keys.
-/
import Derived.Test.YtchookgdajkipaaLedLimI
namespace Go.Proofs.Ytchookgdajkipaa.LI
open Go.RowKit Go.Lib
set_option maxRecDepth 100000

def kcells (K : Nat → Int) : Nat → List Value
  | 0 => []
  | n + 1 => kcells K n ++ [kv (K n)]
theorem kcells_len (K : Nat → Int) : ∀ n, (kcells K n).length = n
  | 0 => rfl
  | n + 1 => by simp [kcells, kcells_len K n]
theorem kcells_at (K : Nat → Int) : ∀ n j, j < n → (kcells K n)[j]? = some (kv (K j))
  | n + 1, j, hj => by
    have hl := kcells_len K n
    simp only [kcells]
    by_cases h : j < n
    · rw [List.getElem?_append_left (by omega)]; exact kcells_at K n j h
    · obtain rfl : j = n := by omega
      rw [List.getElem?_append_right (by omega), hl]; simp

theorem key_info : ∃ i : TypeInfo, Try.prog.info? 3 = some i ∧ i.zero = some (kv 0) ∧ i.size = 1 ∧ i.bytes = 8 := ⟨_, rfl, rfl, rfl, rfl⟩
theorem make_keys (c : Nat) (hc : c ≤ 1000000) (w : World) :
    (Instr.makeSlice 40 (.int .i64 0) (.int .i64 (c : Int))).run Try.prog w =
      .ok (.slice (some ⟨w.heap.size, 0, none⟩) 0 c) (w.alloc (.cells (madeCells #[kv 0] c) 3)) := by
  obtain ⟨i, hi, hz⟩ : ∃ i : TypeInfo, Try.prog.info? 3 = some i ∧ i.zero = some (kv 0) ∧ i.bytes = 8 ∧ i.size = 1 := ⟨_, rfl, rfl, rfl, rfl⟩
  have h := run_make (P := Try.prog) w 40 3 i _ Try.underlying40 hi hz.1 .i64 .i64 0 (c : Int) (by omega) (by omega) (by rw [hz.2.1]; omega) (by omega)
  rw [hz.2.2, Nat.mul_one, Int.toNat_natCast] at h
  exact h

section
variable {w : World} {B bb n : Nat} {v : Value} {K : Nat → Int} {M U : Nat → Int}
set_option maxRecDepth 100000 in
set_option maxHeartbeats 4000000 in
theorem keys_any (H : Bk w B bb v n K M U) :
    Calls Try.prog 26 #[.pointer (some ⟨bb, 0, none⟩)] w fun e w' => ∃ r cp, e = .returned (.slice (some ⟨r, 0, none⟩) n cp) ∧ w.grownBy w' none ∧ w'.ownsRow w.heap.size 3 1 (.slice (some ⟨r, 0, none⟩) n cp) n (kcells K n) := by
  obtain ⟨a, cap, rfl⟩ := H.form
  have hn := H.hn
  have c0 := H.c0
  obtain ⟨i0, hi0, hz0, hz1, hz2⟩ := key_info
  have I0 := Lib.hid hi0
  have I1 := Lib.hid hz0
  have I2 := Lib.hid hz1
  have I3 := Lib.hid hz2
  clear hi0 hz0 hz1 hz2
  have hmk : ∀ W : World, (Instr.makeSlice 40 (.int .i64 0) (.int .i64 (n : Nat))).run Try.prog W = _ := fun W => make_keys n (by omega) W
  have HR : Hid (∀ (wr : World) (j : Nat), w.grownBy wr none → j < n → ∃ r, a = some ⟨r, 0, none⟩ ∧ wr.cell? ⟨r, j * 3, none⟩ = some (kv (K j)) ∧ wr.cell? ⟨r, j * 3 + 1, none⟩ = some (.int .i64 (M j)) ∧ wr.cell? ⟨r, j * 3 + 2, none⟩ = some (.int .i64 (U j))) := Lib.hid fun wr j hg hj => by
    obtain ⟨r, c2, e, _, _, _, h⟩ := (H.kept hg).row (by omega)
    obtain ⟨h1, h2, h3, _⟩ := h j hj
    cases e
    exact ⟨r, rfl, h1, h2, h3⟩
  have k0 := World.grownBy_alloc w (.cells (madeCells #[kv 0] n) 3) none
  have c1 := (H.kept k0).c0
  have hR0 : (w.alloc (.cells (madeCells #[kv 0] n) 3)).ownsRow w.heap.size 3 1 (.slice (some ⟨w.heap.size, 0, none⟩) 0 n) 0 (kcells K 0) := World.ownsRow_made w _ n (Nat.le_refl _) (by unfold maxLen; omega) (by simp [madeCells])
  clear H
  unfold kv at *
  go_enter Try.func26, Try.ntmps26
  go_wp2_with fail
  generalize w.alloc (.cells (madeCells #[_] n) 3) = w1 at *
  go_loopw [3, 17] (fun kx it wr => ∃ (j : Nat) (kvv : Value), j ≤ n ∧ it = .int .i64 j ∧ kvv = kx ∧ wr.ownsRow w.heap.size 3 1 kvv j (kcells K j) ∧ kvv ≠ .slice none 0 0 ∧ w.grownBy wr none ∧ w.heap.size ≤ wr.heap.size) (fun _ it _ => n - (Go.RowKit.intOf it).toNat)
  case atStart => exact ⟨0, _, Nat.zero_le _, rfl, rfl, hR0, (by intro h; cases h), k0, k0.size⟩
  case round =>
    obtain ⟨j, kvv, hj, rfl, hy, hown, hnn, hG, hsz⟩ := hrel
    subst hy
    by_cases hlt : j < n
    · obtain ⟨r, rfl, d0, d1, d2⟩ := HR.out wr j hG hlt
      have q1 : (j : Int) < (n : Int) := by omega
      have ka := World.grownBy_alloc wr (.cells #[kv (K j), .int .i64 (M j), .int .i64 (U j)] 67) none
      have kb := World.grownBy_alloc (wr.alloc (.cells #[kv (K j), .int .i64 (M j), .int .i64 (U j)] 67)) (.cells #[kv (K j)] 3) none
      have hOW := Lib.hid ((hown.alloc (.cells #[kv (K j), .int .i64 (M j), .int .i64 (U j)] 67)).alloc (.cells #[kv (K j)] 3))
      have hss : (wr.alloc (.cells #[kv (K j), .int .i64 (M j), .int .i64 (U j)] 67)).heap.size = wr.heap.size + 1 := by simp
      have HN : Hid (∀ i u, [kv (K j)][i]? = some u → ((wr.alloc (.cells #[kv (K j), .int .i64 (M j), .int .i64 (U j)] 67)).alloc (.cells #[kv (K j)] 3)).cell? ((⟨wr.heap.size + 1, 0, none⟩ : Addr).add i) = some u) := Lib.hid fun i u hu => by
        match i, hu with
        | 0, hu => simp at hu; subst hu; rw [← hss]; exact World.cell?_alloc_new ..
      have KB := Lib.hid (ka.trans kb)
      have HSZ : Hid (w.heap.size ≤ ((wr.alloc (.cells #[kv (K j), .int .i64 (M j), .int .i64 (U j)] 67)).alloc (.cells #[kv (K j)] 3)).heap.size) := Lib.hid (Nat.le_trans hsz KB.out.size)
      have HRW : Hid (∀ x, kvv.ownBlock = some x → w.heap.size ≤ x) := Lib.hid fun x hx => (hown.lt x hx).1
      clear ka kb hown hss
      unfold kv at *
      go_wp2_with (
        at_builtin
        refine wpList_append_own_at _ rfl _ _ 40 rfl w.heap.size 3 i0 (kv 0) 1 8 Try.underlying40 I0.out I1.out I2.out I3.out rfl (by decide) kvv j (kcells K j) rfl hOW.out ⟨wr.heap.size + 1, 0, none⟩ 1 1 [kv (K j)] rfl rfl HN.out (fun u hu => by simp at hu; subst hu; rfl) (by unfold maxLen; omega) (by omega) HSZ.out ?_
        intro v' w5 hown' hgrow hnil hat
        have O : Hid (w5.ownsRow w.heap.size 3 1 v' (j + 1) (kcells K (j + 1))) := Lib.hid hown'
        have G := Lib.hid hgrow
        have NN : Hid (v' ≠ .slice none 0 0) := Lib.hid (fun h => hnn (hnil.1 h).1)
        clear hgrow hnil hat hown')
      go_roundw
      case rel => exact ⟨j + 1, _, by omega, by go_num, rfl, O.out, NN.out, (hG.trans KB.out).into_new G.out HRW.out, Nat.le_trans HSZ.out G.out.size⟩
      case measure => simp [Go.RowKit.intOf]; omega
    · obtain rfl : j = n := by omega
      go_wp2
      go_ret
      rcases hown.2 with ⟨h, _⟩ | ⟨g, cp, cur, rfl, h⟩
      · exact absurd h hnn
      · exact ⟨g, cp, rfl, hG, hown⟩
end
end Go.Proofs.Ytchookgdajkipaa.LI
