/-
  Contracts of package chain, over this seat's translation, told by the lists alone: On, Push, Pull, First, Len, All, Numbers, Lists.
-/
import Derived.Test.YtkkodhjolgcokaaDoorChain
namespace Go.Proofs.YtkkodhjolgcokaaDoor
open Go.RowKit Go.Lib
set_option maxRecDepth 100000

/-- Lists in memory: n numbers, m lists, the numbers on each. -/
def LinksAt (w : World) (lo n m : Nat) (L : Nat → List Nat) : Prop :=
  ∃ bn bp bo bl N P O, LinksMem w lo bn bp bo bl n m N P O (fun i => (L i).length) ∧ Good n m N P O L

theorem LinksAt.kept {w w' : World} {lo n m l h : Nat} {L : Nat → List Nat} (H : LinksAt w lo n m L) (k : Only l h w w') (hd : lo + 5 ≤ l ∨ h ≤ lo) : LinksAt w' lo n m L := by
  obtain ⟨bn, bp, bo, bl, N, P, O, H1, H2⟩ := H
  exact ⟨bn, bp, bo, bl, N, P, O, H1.kept k hd, H2⟩
theorem LinksAt.sz {w : World} {lo n m : Nat} {L : Nat → List Nat} (H : LinksAt w lo n m L) : lo + 5 ≤ w.heap.size := by
  obtain ⟨bn, bp, bo, bl, N, P, O, H1, H2⟩ := H
  exact H1.sz
theorem LinksAt.hn {w : World} {lo n m : Nat} {L : Nat → List Nat} (H : LinksAt w lo n m L) : n ≤ 4096 ∧ m ≤ 4096 := by
  obtain ⟨bn, bp, bo, bl, N, P, O, H1, H2⟩ := H
  exact ⟨H1.hn, H1.hm⟩
theorem LinksAt.bound {w : World} {lo n m : Nat} {L : Nat → List Nat} (H : LinksAt w lo n m L) : ∀ i, i < m → ∀ k ∈ L i, k < n := by
  obtain ⟨bn, bp, bo, bl, N, P, O, H1, H2⟩ := H
  exact H2.bound
theorem LinksAt.nodup {w : World} {lo n m : Nat} {L : Nat → List Nat} (H : LinksAt w lo n m L) : ∀ i, i < m → (L i).Nodup := by
  obtain ⟨bn, bp, bo, bl, N, P, O, H1, H2⟩ := H
  exact H2.nodup
theorem LinksAt.once {w : World} {lo n m : Nat} {L : Nat → List Nat} (H : LinksAt w lo n m L) (i j k : Nat) (hi : i < m) (hj : j < m) (h1 : k ∈ L i) (h2 : k ∈ L j) : i = j := by
  obtain ⟨bn, bp, bo, bl, N, P, O, H1, H2⟩ := H
  have a := (H2.on k i (H2.bound i hi k h1) hi).1 h1
  have b := (H2.on k j (H2.bound i hi k h1) hj).1 h2
  omega

theorem few_of_nodup : ∀ (n : Nat) (l : List Nat), l.Nodup → (∀ x ∈ l, x < n) → l.length ≤ n
  | 0, l, _, h => by
    cases l with
    | nil => simp
    | cons a l => exact absurd (h a (by simp)) (by omega)
  | n + 1, l, hd, h => by
    by_cases hm : n ∈ l
    · have := few_of_nodup n (l.erase n) (hd.erase n) (fun x hx => by
        have h1 := h x (List.mem_of_mem_erase hx)
        have h2 : x ≠ n := fun e => by
          subst e
          exact (List.Nodup.mem_erase_iff hd).1 hx |>.1 rfl
        omega)
      rw [List.length_erase_of_mem hm] at this
      omega
    · have := few_of_nodup n l hd (fun x hx => by
        have h1 := h x hx
        have h2 : x ≠ n := fun e => hm (e ▸ hx)
        omega)
      omega

theorem LinksAt.few {w : World} {lo n m : Nat} {L : Nat → List Nat} (H : LinksAt w lo n m L) (i : Nat) (hi : i < m) : (L i).length ≤ n :=
  few_of_nodup n (L i) (H.nodup i hi) (H.bound i hi)

section
variable {w : World} {lo n m : Nat} {L : Nat → List Nat}

theorem numbers_any (H : LinksAt w lo n m L) : Calls Tryd.prog 60 #[.pointer (some ⟨lo + 4, 0, none⟩)] w fun e w' => e = .returned (.int .i64 (n : Int)) ∧ w = w' := by
  obtain ⟨bn, bp, bo, bl, N, P, O, H1, H2⟩ := H
  have h2 := H1.c2
  clear H1 H2
  go_enter Tryd.func60, Tryd.ntmps60
  go_wp2
  go_ret
  exact ⟨rfl, rfl⟩
set_option maxHeartbeats 400000 in
theorem on_some (k i : Nat) (H : LinksAt w lo n m L) (hi : i < m) (hk : k ∈ L i) :
    Calls Tryd.prog 40 #[.pointer (some ⟨lo + 4, 0, none⟩), .int .i64 k] w fun e w' => e = .returned (.tuple #[.int .i64 i, .bool true]) ∧ w = w' := by
  obtain ⟨bn, bp, bo, bl, N, P, O, H1, H2⟩ := H
  have hkn := H2.bound i hi k hk
  have hO := (H2.on k i hkn hi).1 hk
  have c := isNumber_any k H1
  rw [isIn_yes hkn] at c
  have C := Lib.hid c
  have h2 := H1.c2
  have h3 := H1.co k hkn
  have h4 := H1.hn
  rw [hO] at h3
  have hne : ((i : Int) == -1) = false := by rw [beq_eq_false_iff_ne]; omega
  clear H1 H2 c hO hk
  go_enter Tryd.func40, Tryd.ntmps40
  go_wp2_with fail
  refine (C.out).mono ?_
  rintro e w' ⟨rfl, rfl⟩
  go_wp2
  go_ret2
  exact ⟨rfl, rfl⟩

set_option maxHeartbeats 400000 in
theorem on_none (k : Int) (H : LinksAt w lo n m L) (hk : ∀ i, i < m → ∀ x ∈ L i, (x : Int) ≠ k) :
    Calls Tryd.prog 40 #[.pointer (some ⟨lo + 4, 0, none⟩), .int .i64 k] w fun e w' => e = .returned (.tuple #[.int .i64 0, .bool false]) ∧ w = w' := by
  obtain ⟨bn, bp, bo, bl, N, P, O, H1, H2⟩ := H
  by_cases hin : 0 ≤ k ∧ k < n
  · obtain ⟨k, rfl⟩ := Int.eq_ofNat_of_zero_le hin.1
    have hkn : k < n := by omega
    have hO : O k = -1 := by
      rcases H2.offs k hkn with h | ⟨h1, h2⟩
      · exact h
      · obtain ⟨i, hi⟩ := Int.eq_ofNat_of_zero_le h1
        have him : i < m := by omega
        exact absurd rfl (hk i him k ((H2.on k i hkn him).2 hi))
    have c := isNumber_any k H1
    rw [isIn_yes hkn] at c
    have C := Lib.hid c
    have h2 := H1.c2
    have h3 := H1.co k hkn
    have h4 := H1.hn
    rw [hO] at h3
    clear H1 H2 c hO hk hin
    go_enter Tryd.func40, Tryd.ntmps40
    go_wp2_with fail
    refine (C.out).mono ?_
    rintro e w' ⟨rfl, rfl⟩
    go_wp2
    go_ret2
    exact ⟨rfl, rfl⟩
  · have c := isNumber_any k H1
    rw [isIn_no (by omega)] at c
    have C := Lib.hid c
    clear H1 H2 c hk hin
    go_enter Tryd.func40, Tryd.ntmps40
    go_wp2_with fail
    refine (C.out).mono ?_
    rintro e w' ⟨rfl, rfl⟩
    go_wp2
    go_ret2
    exact ⟨rfl, rfl⟩

end
end Go.Proofs.YtkkodhjolgcokaaDoor
