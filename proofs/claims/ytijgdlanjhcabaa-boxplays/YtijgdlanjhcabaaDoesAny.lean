/-
  BoxPlays: any step of the law ('does'), over this seat's translation.
-/
import Derived.Test.YtijgdlanjhcabaaDoes10b
import Derived.Test.YtijgdlanjhcabaaDoes10c
namespace Go.Proofs.Ytijgdlanjhcabaa
open Go.RowKit Go.Lib Go.Conc
theorem does_any {W w : World} {tb ba ca na bb cb nb : Nat} (kd z : Int) (ot : Bool) (H : PQ W w tb ba ca na bb cb nb) :
    Calls Try.prog 10 #[.pointer (some ⟨tb, 0, none⟩), .agg #[.int .i64 kd, .int .i64 z, .bool ot]] w fun e w' => e = .returned (.bool true) ∧ PQ W w' tb ba ca na bb cb nb := by
  obtain ⟨LA, LB, vx, vy, X, Y, H, ex, ey⟩ := H
  by_cases h0 : kd = 0
  · subst h0
    cases ot
    · by_cases hl : LA.length < na
      · exact does_post_a_ok z hl H ex ey
      · exact does_post_a_no z (by omega) H ex ey
    · by_cases hl : LB.length < nb
      · exact does_post_b_ok z hl H ex ey
      · exact does_post_b_no z (by omega) H ex ey
  by_cases h1 : kd = 1
  · subst h1
    cases ot
    · cases LA with
      | nil => simp at ex; subst ex; exact does_fetch_a_none z H ey
      | cons a l => obtain ⟨p, y⟩ := a; simp at ex; subst ex; exact does_fetch_a_some z y p H rfl ey
    · cases LB with
      | nil => simp at ey; subst ey; exact does_fetch_b_none z H ex
      | cons a l => obtain ⟨p, y⟩ := a; simp at ey; subst ey; exact does_fetch_b_some z y p H ex rfl
  by_cases h2 : kd = 2
  · subst h2
    cases ot
    · exact does_sift_a z H ex ey
    · exact does_sift_b z H ex ey
  by_cases h3 : kd = 3
  · subst h3
    cases LB with
    | cons a l =>
      obtain ⟨p, y⟩ := a; simp at ey; subst ey
      cases ot
      · exact does_either_first_false z y p H ex rfl
      · exact does_either_first_true z y p H ex rfl
    | nil =>
      simp at ey; subst ey
      cases LA with
      | cons a l =>
        obtain ⟨p, y⟩ := a; simp at ex; subst ex
        cases ot
        · exact does_either_second_false z y p H rfl
        · exact does_either_second_true z y p H rfl
      | nil =>
        simp at ex; subst ex
        cases ot
        · exact does_either_none_false z H
        · exact does_either_none_true z H
  · cases ot
    · exact does_other_false kd z h0 h1 h2 h3 H ex ey
    · exact does_other_true kd z h0 h1 h2 h3 H ex ey
end Go.Proofs.Ytijgdlanjhcabaa
