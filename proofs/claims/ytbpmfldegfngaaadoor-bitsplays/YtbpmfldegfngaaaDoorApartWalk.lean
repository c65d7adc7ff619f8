/-
  The walk of the statement BitsApart: a number that is put in, or taken out, makes no difference for any other one; put in and taken out it makes none at all.
-/
import Derived.Test.YtbpmfldegfngaaaDoorGapsWalk
namespace Go.Proofs.YtbpmfldegfngaaaDoor
open Go.RowKit Go.Lib

theorem mask255 (n : Int) : ∃ k : Nat, k < 256 ∧ bits .and .i64 n 255 = (k : Int) := by
  have h := i64_mask 8 (by decide) n
  have e : bits .and .i64 n 255 = n % 256 := h
  exact ⟨(n % 256).toNat, by omega, by rw [e]; omega⟩

theorem cnt_ins (S : Nat → Bool) (k : Nat) (hS : S k = false) : ∀ n, cnt (ins S k) n = cnt S n + (decide (k < n)).toNat
  | 0 => rfl
  | n + 1 => by
    rw [cnt, cnt, cnt_ins S k hS n]
    by_cases h : n = k
    · subst h
      simp [ins, hS]
    · have e : ins S k n = S n := by simp [ins, h]
      rw [e]
      by_cases h2 : k < n
      · simp [h2, show k < n + 1 by omega]; omega
      · simp [h2, show ¬ k < n + 1 by omega]
theorem ins_self (S : Nat → Bool) (k : Nat) : ins S k k = true := by simp [ins]
theorem ins_other (S : Nat → Bool) (k i : Nat) (h : k ≠ i) : ins S k i = S i := by simp [ins, Ne.symm h]
theorem del_self (S : Nat → Bool) (k : Nat) : del S k k = false := by simp [del]
theorem del_other (S : Nat → Bool) (k i : Nat) (h : k ≠ i) : del S k i = S i := by simp [del, Ne.symm h]

/-! The calls as a caller has them: what is answered, what has turned, and the set behind. -/
theorem has_s (b g n k : Nat) (S : Nat → Bool) (w : World) (h : SetAt w b g n S) (hk : k < n) (v : Bool) (hv : S k = v) :
    Calls Tryd.prog 18 #[.pointer (some ⟨b, 0, none⟩), .int .i64 k] w fun e w' => e = .returned (.bool v) ∧ w.grownBy w' none ∧ SetAt w' b g n S :=
  (has_in b g n k S w h hk).mono fun e w' ⟨he, m, hm⟩ => by subst hm; exact ⟨by rw [he, hv], grow_draw w _ m, h.drewN m⟩
theorem had_s (b g n k : Nat) (S : Nat → Bool) (w : World) (h : SetAt w b g n S) (hk : k < n) (hv : S k = true) :
    Calls Tryd.prog 12 #[.pointer (some ⟨b, 0, none⟩), .int .i64 k] w fun e w' => e = .returned (.bool false) ∧ w.grownBy w' (some g) ∧ SetAt w' b g n S :=
  (put_had b g n k S w h hk hv).mono fun e w' ⟨he, m, hm⟩ => by subst hm; exact ⟨he, grow_draw w _ m, h.drewN m⟩
theorem not_s (b g n k : Nat) (S : Nat → Bool) (w : World) (h : SetAt w b g n S) (hk : k < n) (hv : S k = false) :
    Calls Tryd.prog 14 #[.pointer (some ⟨b, 0, none⟩), .int .i64 k] w fun e w' => e = .returned (.bool false) ∧ w.grownBy w' (some g) ∧ SetAt w' b g n S :=
  (drop_not b g n k S w h hk hv).mono fun e w' ⟨he, m, hm⟩ => by subst hm; exact ⟨he, grow_draw w _ m, h.drewN m⟩
theorem count_s (b g n c : Nat) (S : Nat → Bool) (w : World) (h : SetAt w b g n S) (hc : cnt S n = c) :
    Calls Tryd.prog 20 #[.pointer (some ⟨b, 0, none⟩)] w fun e w' => e = .returned (.int .i64 c) ∧ w = w' := by
  have := count_any b g n S w h
  rwa [hc] at this

/-- Whatever is put in, the set stays one. -/
theorem put_some (b g n : Nat) (k : Nat) (S : Nat → Bool) (w : World) (h : SetAt w b g n S) (hk : k < n) :
    Calls Tryd.prog 12 #[.pointer (some ⟨b, 0, none⟩), .int .i64 k] w fun e w' => e = .returned (.bool (!S k)) ∧ w.grownBy w' (some g) ∧ SetAt w' b g n (ins S k) := by
  cases hS : S k
  · exact put_in b g n k S w h hk hS
  · refine (put_had b g n k S w h hk hS).mono ?_
    rintro e w' ⟨rfl, m, rfl⟩
    have e1 : ins S k = S := by
      funext i
      by_cases hi : i = k
      · subst hi; simp [ins, hS]
      · simp [ins, hi]
    rw [e1]
    exact ⟨rfl, grow_draw w _ m, h.drewN m⟩

set_option maxHeartbeats 8000000 in
theorem apart_walk (sa : Option Addr) (len cap sb off : Nat) (zs : Nat → Int) (a1 a2 : Int) (w : World) (hT : TabAt w) (_hm : len ≤ maxLen) (hsa : 0 < len → sa = some ⟨sb, off, none⟩ ∧ sb < w.heap.size)
    (hz : ∀ j, j < len → w.cell? ⟨sb, off + j, none⟩ = some (.int .i64 (zs j))) :
    Calls Tryd.prog 7 #[.slice sa len cap, .int .i64 a1, .int .i64 a2] w fun e w' => e = .returned (.bool true) ∧ w.grownBy w' none := by
  obtain ⟨k, hk, hK⟩ := mask255 a1
  obtain ⟨o, ho, hO⟩ := mask255 a2
  have HSA := Lib.hid hsa
  have HZ := Lib.hid hz
  clear hsa hz
  by_cases hl : 40 < len
  · go_enter Tryd.func7, Tryd.ntmps7
    go_wp2_with fail
    refine (alive2 _ hT).mono ?_
    rintro e w0 ⟨rfl, hG0⟩
    go_wp2
    go_ret
    exact ⟨rfl, hG0⟩
  · go_enter Tryd.func7, Tryd.ntmps7
    go_wp2_with fail
    refine (alive2 _ hT).mono ?_
    rintro e w0 ⟨rfl, hG0⟩
    go_wp2_with fail
    refine (new_made 256 256 (by decide) _).mono ?_
    rintro e w1 ⟨b, g, rfl, hb, hg, hk1, hs1⟩
    have hG1 := grow_to hG0 hk1
    have hgW : w.heap.size ≤ g := Nat.le_trans hG0.size hg
    have HT := Lib.hid hT
    clear hG0 hk1 hb hg hT
    go_wp2
    go_loopw [21] (fun it wr => ∃ (j : Nat) (S : Nat → Bool), j ≤ len ∧ it = .int .i64 j ∧ SetAt wr b g 256 S ∧ w.grownBy wr none) (fun it _ => len - (intOf it).toNat)
    case atStart => exact ⟨0, _, Nat.zero_le _, rfl, hs1, hG1⟩
    case round =>
      obtain ⟨j, S, hj, rfl, hs, hG⟩ := hrel
      clear hs1 hG1
      by_cases hlt : j < len
      · obtain ⟨rfl, hsb⟩ := HSA.out (by omega)
        have hc : wr.cell? ⟨sb, off + j, none⟩ = some (.int .i64 (zs j)) := (hG.cell_far ⟨sb, off + j, none⟩ hsb (by simp)).trans (HZ.out j hlt)
        obtain ⟨v, hv, hV⟩ := mask255 (zs j)
        generalize zs j = z at *
        have c1 := Lib.hid (put_some b g 256 v S wr hs hv)
        go_wp2_with fail
        refine c1.out.mono ?_
        rintro e w2 ⟨rfl, k2, hs2⟩
        have hG2 := grow_on hG k2 hgW
        clear c1 hs hG k2
        go_wp2
        go_roundw
        case rel => exact ⟨j + 1, _, by omega, by go_num, hs2, hG2⟩
        case measure => simp [intOf]; omega
      · have hcb := cnt_le S 256
        have HC1 : Hid (S k = false → cnt (ins S k) 256 = cnt S 256 + 1) := Lib.hid fun h => by rw [cnt_ins S k h]; simp [hk]
        obtain ⟨cn, hcn⟩ : ∃ cn, cnt S 256 = cn := ⟨_, rfl⟩
        rw [hcn] at hcb HC1
        have HC := Lib.hid hcn
        clear HT HSA HZ hcn
        by_cases hko : k = o
        · subst hko
          cases hS : S k
          · have HS := Lib.hid hS
            have HC1 := Lib.hid (HC1.out hS)
            clear hS
            go_wp2_with fail
            refine (has_s b g 256 k S _ hs hk false HS.out).mono ?_
            rintro e y1 ⟨rfl, kk, hs'⟩
            have hG' := grow_to hG kk
            clear hG hs kk
            have hG := hG'
            have hs := hs'
            clear hG' hs'
            go_wp2_with fail
            refine (has_s b g 256 k S _ hs hk false HS.out).mono ?_
            rintro e y2 ⟨rfl, kk, hs'⟩
            have hG' := grow_to hG kk
            clear hG hs kk
            have hG := hG'
            have hs := hs'
            clear hG' hs'
            go_wp2_with fail
            refine (count_s b g 256 cn S _ hs HC.out).mono ?_
            rintro e w' ⟨rfl, rfl⟩
            go_wp2_with fail
            refine (put_in b g 256 k S _ hs hk HS.out).mono ?_
            rintro e y3 ⟨rfl, kk, hs'⟩
            have hG' := grow_on hG kk hgW
            clear hG hs kk
            have hG := hG'
            have hs := hs'
            clear hG' hs'
            go_wp2_with fail
            refine (has_s b g 256 k (ins S k) _ hs hk true (ins_self S k)).mono ?_
            rintro e y4 ⟨rfl, kk, hs'⟩
            have hG' := grow_to hG kk
            clear hG hs kk
            have hG := hG'
            have hs := hs'
            clear hG' hs'
            go_wp2_with fail
            refine (count_s b g 256 (cn + 1) (ins S k) _ hs HC1.out).mono ?_
            rintro e w' ⟨rfl, rfl⟩
            go_wp2_with fail
            refine (count_s b g 256 (cn + 1) (ins S k) _ hs HC1.out).mono ?_
            rintro e w' ⟨rfl, rfl⟩
            go_wp2_with fail
            refine (drop_in b g 256 k (ins S k) _ hs hk (ins_self S k)).mono ?_
            rintro e y5 ⟨rfl, kk, hs'⟩
            have hG' := grow_on hG kk hgW
            clear hG hs kk
            have hG := hG'
            have hs := hs'
            clear hG' hs'
            go_wp2_with fail
            refine (has_s b g 256 k (del (ins S k) k) _ hs hk false (del_self (ins S k) k)).mono ?_
            rintro e y6 ⟨rfl, kk, hs'⟩
            have hG' := grow_to hG kk
            clear hG hs kk
            have hG := hG'
            have hs := hs'
            clear hG' hs'
            go_wp2_with fail
            refine (not_s b g 256 k (del (ins S k) k) _ hs hk (del_self (ins S k) k)).mono ?_
            rintro e y7 ⟨rfl, kk, hs'⟩
            have hG' := grow_on hG kk hgW
            clear hG hs kk
            have hG := hG'
            have hs := hs'
            clear hG' hs'
            go_wp2
            go_ret
            exact ⟨rfl, hG⟩
          · have HS := Lib.hid hS
            clear HC1
            clear hS
            go_wp2_with fail
            refine (has_s b g 256 k S _ hs hk true HS.out).mono ?_
            rintro e y1 ⟨rfl, kk, hs'⟩
            have hG' := grow_to hG kk
            clear hG hs kk
            have hG := hG'
            have hs := hs'
            clear hG' hs'
            go_wp2_with fail
            refine (has_s b g 256 k S _ hs hk true HS.out).mono ?_
            rintro e y2 ⟨rfl, kk, hs'⟩
            have hG' := grow_to hG kk
            clear hG hs kk
            have hG := hG'
            have hs := hs'
            clear hG' hs'
            go_wp2_with fail
            refine (count_s b g 256 cn S _ hs HC.out).mono ?_
            rintro e w' ⟨rfl, rfl⟩
            go_wp2_with fail
            refine (had_s b g 256 k S _ hs hk HS.out).mono ?_
            rintro e y3 ⟨rfl, kk, hs'⟩
            have hG' := grow_on hG kk hgW
            clear hG hs kk
            have hG := hG'
            have hs := hs'
            clear hG' hs'
            go_wp2_with fail
            refine (has_s b g 256 k S _ hs hk true HS.out).mono ?_
            rintro e y4 ⟨rfl, kk, hs'⟩
            have hG' := grow_to hG kk
            clear hG hs kk
            have hG := hG'
            have hs := hs'
            clear hG' hs'
            go_wp2_with fail
            refine (count_s b g 256 cn S _ hs HC.out).mono ?_
            rintro e w' ⟨rfl, rfl⟩
            go_wp2_with fail
            refine (drop_in b g 256 k S _ hs hk HS.out).mono ?_
            rintro e y5 ⟨rfl, kk, hs'⟩
            have hG' := grow_on hG kk hgW
            clear hG hs kk
            have hG := hG'
            have hs := hs'
            clear hG' hs'
            go_wp2_with fail
            refine (has_s b g 256 k (del S k) _ hs hk false (del_self S k)).mono ?_
            rintro e y6 ⟨rfl, kk, hs'⟩
            have hG' := grow_to hG kk
            clear hG hs kk
            have hG := hG'
            have hs := hs'
            clear hG' hs'
            go_wp2_with fail
            refine (not_s b g 256 k (del S k) _ hs hk (del_self S k)).mono ?_
            rintro e y7 ⟨rfl, kk, hs'⟩
            have hG' := grow_on hG kk hgW
            clear hG hs kk
            have hG := hG'
            have hs := hs'
            clear hG' hs'
            go_wp2
            go_ret
            exact ⟨rfl, hG⟩
        · have hne : ((k : Int) == (o : Int)) = false := by simp; omega
          have hne2 : ((k : Int) != (o : Int)) = true := by simp; omega
          have HKO := Lib.hid hko
          clear hko
          cases hS : S k
          · cases hSO : S o
            · have HS := Lib.hid hS
              have HSO := Lib.hid hSO
              have HC1 := Lib.hid (HC1.out hS)
              clear hS hSO
              go_wp2_with fail
              refine (has_s b g 256 k S _ hs hk false HS.out).mono ?_
              rintro e y1 ⟨rfl, kk, hs'⟩
              have hG' := grow_to hG kk
              clear hG hs kk
              have hG := hG'
              have hs := hs'
              clear hG' hs'
              go_wp2_with fail
              refine (has_s b g 256 o S _ hs ho false HSO.out).mono ?_
              rintro e y2 ⟨rfl, kk, hs'⟩
              have hG' := grow_to hG kk
              clear hG hs kk
              have hG := hG'
              have hs := hs'
              clear hG' hs'
              go_wp2_with fail
              refine (count_s b g 256 cn S _ hs HC.out).mono ?_
              rintro e w' ⟨rfl, rfl⟩
              go_wp2_with fail
              refine (put_in b g 256 k S _ hs hk HS.out).mono ?_
              rintro e y3 ⟨rfl, kk, hs'⟩
              have hG' := grow_on hG kk hgW
              clear hG hs kk
              have hG := hG'
              have hs := hs'
              clear hG' hs'
              go_wp2_with fail
              refine (has_s b g 256 k (ins S k) _ hs hk true (ins_self S k)).mono ?_
              rintro e y4 ⟨rfl, kk, hs'⟩
              have hG' := grow_to hG kk
              clear hG hs kk
              have hG := hG'
              have hs := hs'
              clear hG' hs'
              go_wp2_with fail
              refine (has_s b g 256 o (ins S k) _ hs ho false ((ins_other S k o HKO.out).trans HSO.out)).mono ?_
              rintro e y5 ⟨rfl, kk, hs'⟩
              have hG' := grow_to hG kk
              clear hG hs kk
              have hG := hG'
              have hs := hs'
              clear hG' hs'
              go_wp2_with fail
              refine (count_s b g 256 (cn + 1) (ins S k) _ hs HC1.out).mono ?_
              rintro e w' ⟨rfl, rfl⟩
              go_wp2_with fail
              refine (count_s b g 256 (cn + 1) (ins S k) _ hs HC1.out).mono ?_
              rintro e w' ⟨rfl, rfl⟩
              go_wp2_with fail
              refine (drop_in b g 256 k (ins S k) _ hs hk (ins_self S k)).mono ?_
              rintro e y6 ⟨rfl, kk, hs'⟩
              have hG' := grow_on hG kk hgW
              clear hG hs kk
              have hG := hG'
              have hs := hs'
              clear hG' hs'
              go_wp2_with fail
              refine (has_s b g 256 k (del (ins S k) k) _ hs hk false (del_self (ins S k) k)).mono ?_
              rintro e y7 ⟨rfl, kk, hs'⟩
              have hG' := grow_to hG kk
              clear hG hs kk
              have hG := hG'
              have hs := hs'
              clear hG' hs'
              go_wp2_with fail
              refine (has_s b g 256 o (del (ins S k) k) _ hs ho false ((del_other (ins S k) k o HKO.out).trans ((ins_other S k o HKO.out).trans HSO.out))).mono ?_
              rintro e y8 ⟨rfl, kk, hs'⟩
              have hG' := grow_to hG kk
              clear hG hs kk
              have hG := hG'
              have hs := hs'
              clear hG' hs'
              go_wp2_with fail
              refine (not_s b g 256 k (del (ins S k) k) _ hs hk (del_self (ins S k) k)).mono ?_
              rintro e y9 ⟨rfl, kk, hs'⟩
              have hG' := grow_on hG kk hgW
              clear hG hs kk
              have hG := hG'
              have hs := hs'
              clear hG' hs'
              go_wp2
              go_ret
              exact ⟨rfl, hG⟩
            · have HS := Lib.hid hS
              have HSO := Lib.hid hSO
              have HC1 := Lib.hid (HC1.out hS)
              clear hS hSO
              go_wp2_with fail
              refine (has_s b g 256 k S _ hs hk false HS.out).mono ?_
              rintro e y1 ⟨rfl, kk, hs'⟩
              have hG' := grow_to hG kk
              clear hG hs kk
              have hG := hG'
              have hs := hs'
              clear hG' hs'
              go_wp2_with fail
              refine (has_s b g 256 o S _ hs ho true HSO.out).mono ?_
              rintro e y2 ⟨rfl, kk, hs'⟩
              have hG' := grow_to hG kk
              clear hG hs kk
              have hG := hG'
              have hs := hs'
              clear hG' hs'
              go_wp2_with fail
              refine (count_s b g 256 cn S _ hs HC.out).mono ?_
              rintro e w' ⟨rfl, rfl⟩
              go_wp2_with fail
              refine (put_in b g 256 k S _ hs hk HS.out).mono ?_
              rintro e y3 ⟨rfl, kk, hs'⟩
              have hG' := grow_on hG kk hgW
              clear hG hs kk
              have hG := hG'
              have hs := hs'
              clear hG' hs'
              go_wp2_with fail
              refine (has_s b g 256 k (ins S k) _ hs hk true (ins_self S k)).mono ?_
              rintro e y4 ⟨rfl, kk, hs'⟩
              have hG' := grow_to hG kk
              clear hG hs kk
              have hG := hG'
              have hs := hs'
              clear hG' hs'
              go_wp2_with fail
              refine (has_s b g 256 o (ins S k) _ hs ho true ((ins_other S k o HKO.out).trans HSO.out)).mono ?_
              rintro e y5 ⟨rfl, kk, hs'⟩
              have hG' := grow_to hG kk
              clear hG hs kk
              have hG := hG'
              have hs := hs'
              clear hG' hs'
              go_wp2_with fail
              refine (count_s b g 256 (cn + 1) (ins S k) _ hs HC1.out).mono ?_
              rintro e w' ⟨rfl, rfl⟩
              go_wp2_with fail
              refine (count_s b g 256 (cn + 1) (ins S k) _ hs HC1.out).mono ?_
              rintro e w' ⟨rfl, rfl⟩
              go_wp2_with fail
              refine (drop_in b g 256 k (ins S k) _ hs hk (ins_self S k)).mono ?_
              rintro e y6 ⟨rfl, kk, hs'⟩
              have hG' := grow_on hG kk hgW
              clear hG hs kk
              have hG := hG'
              have hs := hs'
              clear hG' hs'
              go_wp2_with fail
              refine (has_s b g 256 k (del (ins S k) k) _ hs hk false (del_self (ins S k) k)).mono ?_
              rintro e y7 ⟨rfl, kk, hs'⟩
              have hG' := grow_to hG kk
              clear hG hs kk
              have hG := hG'
              have hs := hs'
              clear hG' hs'
              go_wp2_with fail
              refine (has_s b g 256 o (del (ins S k) k) _ hs ho true ((del_other (ins S k) k o HKO.out).trans ((ins_other S k o HKO.out).trans HSO.out))).mono ?_
              rintro e y8 ⟨rfl, kk, hs'⟩
              have hG' := grow_to hG kk
              clear hG hs kk
              have hG := hG'
              have hs := hs'
              clear hG' hs'
              go_wp2_with fail
              refine (not_s b g 256 k (del (ins S k) k) _ hs hk (del_self (ins S k) k)).mono ?_
              rintro e y9 ⟨rfl, kk, hs'⟩
              have hG' := grow_on hG kk hgW
              clear hG hs kk
              have hG := hG'
              have hs := hs'
              clear hG' hs'
              go_wp2
              go_ret
              exact ⟨rfl, hG⟩
          · cases hSO : S o
            · have HS := Lib.hid hS
              have HSO := Lib.hid hSO
              clear HC1
              clear hS hSO
              go_wp2_with fail
              refine (has_s b g 256 k S _ hs hk true HS.out).mono ?_
              rintro e y1 ⟨rfl, kk, hs'⟩
              have hG' := grow_to hG kk
              clear hG hs kk
              have hG := hG'
              have hs := hs'
              clear hG' hs'
              go_wp2_with fail
              refine (has_s b g 256 o S _ hs ho false HSO.out).mono ?_
              rintro e y2 ⟨rfl, kk, hs'⟩
              have hG' := grow_to hG kk
              clear hG hs kk
              have hG := hG'
              have hs := hs'
              clear hG' hs'
              go_wp2_with fail
              refine (count_s b g 256 cn S _ hs HC.out).mono ?_
              rintro e w' ⟨rfl, rfl⟩
              go_wp2_with fail
              refine (had_s b g 256 k S _ hs hk HS.out).mono ?_
              rintro e y3 ⟨rfl, kk, hs'⟩
              have hG' := grow_on hG kk hgW
              clear hG hs kk
              have hG := hG'
              have hs := hs'
              clear hG' hs'
              go_wp2_with fail
              refine (has_s b g 256 k S _ hs hk true HS.out).mono ?_
              rintro e y4 ⟨rfl, kk, hs'⟩
              have hG' := grow_to hG kk
              clear hG hs kk
              have hG := hG'
              have hs := hs'
              clear hG' hs'
              go_wp2_with fail
              refine (has_s b g 256 o S _ hs ho false HSO.out).mono ?_
              rintro e y5 ⟨rfl, kk, hs'⟩
              have hG' := grow_to hG kk
              clear hG hs kk
              have hG := hG'
              have hs := hs'
              clear hG' hs'
              go_wp2_with fail
              refine (count_s b g 256 cn S _ hs HC.out).mono ?_
              rintro e w' ⟨rfl, rfl⟩
              go_wp2_with fail
              refine (drop_in b g 256 k S _ hs hk HS.out).mono ?_
              rintro e y6 ⟨rfl, kk, hs'⟩
              have hG' := grow_on hG kk hgW
              clear hG hs kk
              have hG := hG'
              have hs := hs'
              clear hG' hs'
              go_wp2_with fail
              refine (has_s b g 256 k (del S k) _ hs hk false (del_self S k)).mono ?_
              rintro e y7 ⟨rfl, kk, hs'⟩
              have hG' := grow_to hG kk
              clear hG hs kk
              have hG := hG'
              have hs := hs'
              clear hG' hs'
              go_wp2_with fail
              refine (has_s b g 256 o (del S k) _ hs ho false ((del_other S k o HKO.out).trans HSO.out)).mono ?_
              rintro e y8 ⟨rfl, kk, hs'⟩
              have hG' := grow_to hG kk
              clear hG hs kk
              have hG := hG'
              have hs := hs'
              clear hG' hs'
              go_wp2_with fail
              refine (not_s b g 256 k (del S k) _ hs hk (del_self S k)).mono ?_
              rintro e y9 ⟨rfl, kk, hs'⟩
              have hG' := grow_on hG kk hgW
              clear hG hs kk
              have hG := hG'
              have hs := hs'
              clear hG' hs'
              go_wp2
              go_ret
              exact ⟨rfl, hG⟩
            · have HS := Lib.hid hS
              have HSO := Lib.hid hSO
              clear HC1
              clear hS hSO
              go_wp2_with fail
              refine (has_s b g 256 k S _ hs hk true HS.out).mono ?_
              rintro e y1 ⟨rfl, kk, hs'⟩
              have hG' := grow_to hG kk
              clear hG hs kk
              have hG := hG'
              have hs := hs'
              clear hG' hs'
              go_wp2_with fail
              refine (has_s b g 256 o S _ hs ho true HSO.out).mono ?_
              rintro e y2 ⟨rfl, kk, hs'⟩
              have hG' := grow_to hG kk
              clear hG hs kk
              have hG := hG'
              have hs := hs'
              clear hG' hs'
              go_wp2_with fail
              refine (count_s b g 256 cn S _ hs HC.out).mono ?_
              rintro e w' ⟨rfl, rfl⟩
              go_wp2_with fail
              refine (had_s b g 256 k S _ hs hk HS.out).mono ?_
              rintro e y3 ⟨rfl, kk, hs'⟩
              have hG' := grow_on hG kk hgW
              clear hG hs kk
              have hG := hG'
              have hs := hs'
              clear hG' hs'
              go_wp2_with fail
              refine (has_s b g 256 k S _ hs hk true HS.out).mono ?_
              rintro e y4 ⟨rfl, kk, hs'⟩
              have hG' := grow_to hG kk
              clear hG hs kk
              have hG := hG'
              have hs := hs'
              clear hG' hs'
              go_wp2_with fail
              refine (has_s b g 256 o S _ hs ho true HSO.out).mono ?_
              rintro e y5 ⟨rfl, kk, hs'⟩
              have hG' := grow_to hG kk
              clear hG hs kk
              have hG := hG'
              have hs := hs'
              clear hG' hs'
              go_wp2_with fail
              refine (count_s b g 256 cn S _ hs HC.out).mono ?_
              rintro e w' ⟨rfl, rfl⟩
              go_wp2_with fail
              refine (drop_in b g 256 k S _ hs hk HS.out).mono ?_
              rintro e y6 ⟨rfl, kk, hs'⟩
              have hG' := grow_on hG kk hgW
              clear hG hs kk
              have hG := hG'
              have hs := hs'
              clear hG' hs'
              go_wp2_with fail
              refine (has_s b g 256 k (del S k) _ hs hk false (del_self S k)).mono ?_
              rintro e y7 ⟨rfl, kk, hs'⟩
              have hG' := grow_to hG kk
              clear hG hs kk
              have hG := hG'
              have hs := hs'
              clear hG' hs'
              go_wp2_with fail
              refine (has_s b g 256 o (del S k) _ hs ho true ((del_other S k o HKO.out).trans HSO.out)).mono ?_
              rintro e y8 ⟨rfl, kk, hs'⟩
              have hG' := grow_to hG kk
              clear hG hs kk
              have hG := hG'
              have hs := hs'
              clear hG' hs'
              go_wp2_with fail
              refine (not_s b g 256 k (del S k) _ hs hk (del_self S k)).mono ?_
              rintro e y9 ⟨rfl, kk, hs'⟩
              have hG' := grow_on hG kk hgW
              clear hG hs kk
              have hG := hG'
              have hs := hs'
              clear hG' hs'
              go_wp2
              go_ret
              exact ⟨rfl, hG⟩

end Go.Proofs.YtbpmfldegfngaaaDoor
