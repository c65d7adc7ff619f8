/-
  Contracts of nightjarref05, over this seat's translation: Find, Need, Revoke.
-/
import Derived.Test.YtbkjdbimkofceaaDoorRef5c
import Derived.Test.YtbkjdbimkofceaaDoorNeedBits
namespace Go.Proofs.YtbkjdbimkofceaaDoor
open Go.RowKit Go.Lib
set_option maxRecDepth 100000

theorem hbits_inj5 {p g r p' g' r' : Nat} (hp : p < 65536) (hr : r < 256) (hp' : p' < 65536) (hr' : r' < 256) (h : hbits p g r = hbits p' g' r') : p = p' ∧ g = g' ∧ r = r' := by unfold hbits at h; omega
noncomputable def findI (T : Nat → Pl) (n h : Nat) : Int := match findP T n h with | some p => (p : Int) | none => -1
/-- What Need answers. -/
noncomputable def needR (T : Nat → Pl) (n h : Nat) (kind rights : Int) : Value := match findP T n h with | some p => needV 0 (T p).k (T p).i ((T p).r : Nat) kind rights | none => .tuple #[.int .i64 0, .int .i64 5]
theorem needR_form (T : Nat → Pl) (n h : Nat) (kind rights : Int) : ∃ a b : Int, needR T n h kind rights = .tuple #[.int .i64 a, .int .i64 b] := by
  unfold needR
  cases findP T n h with
  | none => exact ⟨_, _, rfl⟩
  | some p =>
    simp only [needV]
    repeat' split
    all_goals exact ⟨_, _, rfl⟩

section
variable {w : World} {r n cp G : Nat} {T : Nat → Pl}
theorem rfind5 (h : Nat) (H : PlAt5 w r n T) (hn : n ≤ 15) (ok : ∀ j, j < n → (T j).ok G) (hG : G ≤ 16777215) :
    Calls Tryd.prog 30 #[.agg #[.slice (some ⟨r, 0, none⟩) n cp, .int .i64 (G : Nat)], .int .u64 (h : Nat)] w fun e w' => e = .returned (.int .i64 (findI T n h)) ∧ w.grownBy w' none := by
  refine (rfind5_any h H hn ok hG).mono ?_
  rintro e w' ⟨k, hres⟩
  refine ⟨?_, k⟩
  unfold findI
  rcases hres with ⟨p, he, hp, ho, hb⟩ | ⟨he, hno⟩
  · cases e2 : findP T n h with
    | none => exact absurd hb (find_no e2 p hp ho)
    | some q =>
      obtain ⟨q1, q2, q3⟩ := find_at e2
      obtain ⟨e3, _⟩ := hbits_inj5 (by omega) (ok p hp).2.2 (by omega) (ok q q1).2.2 (hb.trans q3.symm)
      subst e3
      exact he
  · cases e2 : findP T n h with
    | none => exact he
    | some q =>
      obtain ⟨q1, q2, q3⟩ := find_at e2
      exact absurd q3 (hno q q1 q2)

set_option maxHeartbeats 2000000 in
theorem rneed5 (h : Nat) (kind rights : Int) (H : PlAt5 w r n T) (hn : n ≤ 15) (ok : ∀ j, j < n → (T j).ok G) (hG : G ≤ 16777215) (hq : -9223372036854775808 ≤ rights ∧ rights ≤ 9223372036854775807) :
    Calls Tryd.prog 32 #[.agg #[.slice (some ⟨r, 0, none⟩) n cp, .int .i64 (G : Nat)], .int .u64 (h : Nat), .int .i64 kind, .int .i64 rights] w fun e w' => e = .returned (needR T n h kind rights) ∧ w.grownBy w' none := by
  have ka := World.grownBy_alloc w (.cells #[.slice (some ⟨r, 0, none⟩) n cp, .int .i64 (G : Nat)] 29) none
  have o0 : (w.alloc (.cells #[.slice (some ⟨r, 0, none⟩) n cp, .int .i64 (G : Nat)] 29)).cell? ⟨w.heap.size, 0, none⟩ = some (.slice (some ⟨r, 0, none⟩) n cp) := by simp
  have o1 : (w.alloc (.cells #[.slice (some ⟨r, 0, none⟩) n cp, .int .i64 (G : Nat)] 29)).cell? ⟨w.heap.size, 0 + 1, none⟩ = some (.int .i64 (G : Nat)) := by simp
  have hob : w.heap.size < (w.alloc (.cells #[.slice (some ⟨r, 0, none⟩) n cp, .int .i64 (G : Nat)] 29)).heap.size := by simp
  have HP := Lib.hid (H.kept ka)
  have KA := Lib.hid ka
  have CF := Lib.hid (rfind5 (cp := cp) h (H.kept ka) hn ok hG)
  clear ka H ok
  unfold needR
  unfold findI at CF
  cases e2 : findP T n h with
  | none =>
    rw [e2] at CF
    clear e2
    go_enter Tryd.func32, Tryd.ntmps32
    go_wp2_with fail
    refine CF.out.mono ?_
    rintro e w2 ⟨rfl, k2⟩
    go_wp2
    go_ret2
    exact ⟨rfl, KA.out.trans k2⟩
  | some p =>
    rw [e2] at CF
    obtain ⟨hp, _, _⟩ := find_at e2
    clear e2
    have qp : (p : Int) < (n : Int) := by omega
    have qp0 : ¬ (p : Int) < 0 := by omega
    go_enter Tryd.func32, Tryd.ntmps32
    go_wp2_with fail
    refine CF.out.mono ?_
    rintro e w2 ⟨rfl, k2⟩
    have t0 := (k2.cell_far ⟨w.heap.size, 0, none⟩ hob (by simp)).trans o0
    obtain ⟨c0, c1, c2, c3', c4'⟩ := (HP.out.kept k2).pl p hp
    have c3 : w2.cell? ⟨r, p * 5 + 2 + 1, none⟩ = some (.int .i64 (T p).i) := c3'
    have c4 : w2.cell? ⟨r, p * 5 + 2 + 2, none⟩ = some (.int .i64 ((T p).r : Nat)) := c4'
    have k3 := World.grownBy_alloc w2 (.cells #[.int .i64 (T p).k, .int .i64 (T p).i, .int .i64 ((T p).r : Nat)] 41) none
    have K3 := Lib.hid ((KA.out.trans k2).trans k3)
    have nb := need_bits rights ((T p).r : Nat) hq
    clear k2 k3 o0 o1 hob CF c3' c4' c0 c1
    by_cases h1 : (T p).k = kind
    · by_cases h2 : bits .andNot .i64 rights ((T p).r : Nat) = 0
      · have h3 := nb.1 h2
        have hv : needV 0 (T p).k (T p).i ((T p).r : Nat) kind rights = .tuple #[.int .i64 (T p).i, .int .i64 0] := by simp [needV, h1, h2]
        have HV := Lib.hid hv
        clear hv nb
        go_wp2
        go_ret2
        exact ⟨congrArg Ending.returned HV.out.symm, h1 ▸ K3.out⟩
      · have h3 : ¬ bits .and .i64 (((T p).r : Nat) : Int) rights = rights := fun e => h2 (nb.2 e)
        have h3' : (bits .and .i64 (((T p).r : Nat) : Int) rights == rights) = false := by rw [beq_eq_false_iff_ne]; exact h3
        have hv : needV 0 (T p).k (T p).i ((T p).r : Nat) kind rights = .tuple #[.int .i64 0, .int .i64 6] := by simp [needV, h1, h2]
        have HV := Lib.hid hv
        clear hv nb
        go_wp2
        go_ret2
        exact ⟨congrArg Ending.returned HV.out.symm, h1 ▸ K3.out⟩
    · have h1' : ((T p).k == kind) = false := by rw [beq_eq_false_iff_ne]; exact h1
      have hv : needV 0 (T p).k (T p).i ((T p).r : Nat) kind rights = .tuple #[.int .i64 0, .int .i64 7] := by simp [needV, h1]
      have HV := Lib.hid hv
      clear hv nb
      go_wp2
      go_ret2
      exact ⟨congrArg Ending.returned HV.out.symm, K3.out⟩
end
end Go.Proofs.YtbkjdbimkofceaaDoor
