/-
  Which slots make a plan: the program's isRight, and the document's Right.
-/
import Derived.Test.YtacdmolkagcafaaPlanA
namespace Go.Proofs.Ytacdmolkagcafaa
open Go.RowKit Go.Lib
set_option maxRecDepth 100000
set_option linter.unusedVariables false

/-- The slots that came in: n pairs of numbers. -/
structure SlAt (w : World) (sa : Option Addr) (sb off n : Nat) (Z : Nat → Nat → Int) : Prop where
  at_ : 0 < n → sa = some ⟨sb, off, none⟩
  own : ∀ j, j < n → w.cell? ⟨sb, off + j * 2, none⟩ = some (.int .i64 (Z j 0))
  len : ∀ j, j < n → w.cell? ⟨sb, off + j * 2 + 1, none⟩ = some (.int .i64 (Z j 1))

theorem SlAt.kept {w w' : World} {sa : Option Addr} {sb off n : Nat} {Z : Nat → Nat → Int} (h : SlAt w sa sb off n Z) (k : w.grownBy w' none) : SlAt w' sa sb off n Z :=
  ⟨h.at_, fun j hj => k.cell (h.own j hj) (by simp), fun j hj => k.cell (h.len j hj) (by simp)⟩

/-- May the first k of them be? -/
def okS (Z : Nat → Nat → Int) (tn : Int) (k : Nat) : Prop := ∀ j, j < k → 0 ≤ Z j 0 ∧ Z j 0 < tn ∧ 1 ≤ Z j 1 ∧ Z j 1 ≤ 1000
def RightP (n : Nat) (Z : Nat → Nat → Int) (tn : Int) : Prop := n ≤ 64 ∧ 1 ≤ tn ∧ tn ≤ 8 ∧ okS Z tn n ∧ ∀ t : Nat, (t : Int) < tn → ∃ j, j < n ∧ Z j 0 = t

structure Seen (w : World) (q : Nat) (S : Nat → Bool) : Prop where
  lt : q < w.heap.size
  cell : ∀ u, u < 8 → w.cell? ⟨q, u, none⟩ = some (.bool (S u))
  free : ∀ u, u < 8 → w.frozen? ⟨q, u, none⟩ = false
theorem Seen.kept {w w' : World} {q : Nat} {S : Nat → Bool} (h : Seen w q S) (k : w.grownBy w' none) : Seen w' q S :=
  ⟨Nat.lt_of_lt_of_le h.lt k.size, fun u hu => k.cell (h.cell u hu) (by simp), fun u hu => ((Only.of_none (lo := 0) (hi := 0) k).frozen ⟨q, u, none⟩ h.lt (Or.inr (Nat.zero_le _))).trans (h.free u hu)⟩
theorem Seen.set {w : World} {q : Nat} {S : Nat → Bool} (h : Seen w q S) (u : Nat) (hu : u < 8) : Seen (w.setCell ⟨q, u, none⟩ (.bool true)) q (fun v => if v = u then true else S v) := by
  refine ⟨by simpa [World.setCell] using h.lt, fun v hv => ?_, fun v hv => by rw [World.frozen?_setCell]; exact h.free v hv⟩
  by_cases e : v = u
  · subst e; rw [World.cell?_setCell_same _ _ _ (h.cell v hv), if_pos rfl]
  · rw [World.cell?_setCell_other _ _ _ _ (by intro x; injection x with _ x2; exact e x2.symm), if_neg e]; exact h.cell v hv
theorem Seen.new (w : World) : Seen (w.alloc (.cells #[.bool false, .bool false, .bool false, .bool false, .bool false, .bool false, .bool false, .bool false] 56)) w.heap.size (fun _ => false) := by
  refine ⟨by simp, fun u hu => ?_, fun u hu => ?_⟩
  · match u, hu with
    | 0, _ | 1, _ | 2, _ | 3, _ | 4, _ | 5, _ | 6, _ | 7, _ => simp
  · match u, hu with
    | 0, _ | 1, _ | 2, _ | 3, _ | 4, _ | 5, _ | 6, _ | 7, _ => simp

set_option maxHeartbeats 4000000 in
theorem isRight_any {w : World} {sa : Option Addr} {sb off n cap : Nat} {Z : Nat → Nat → Int} (h : SlAt w sa sb off n Z) (hm : n ≤ maxLen) (tn : Int) (b : Bool) (hb : b = true ↔ RightP n Z tn) :
    Calls Try.prog 20 #[.slice sa n cap, .int .i64 tn] w fun e w' => e = .returned (.bool b) ∧ w.grownBy w' none := by
  have HS := Lib.hid h
  have HB := Lib.hid hb
  have HM := Lib.hid hm
  clear h hb hm
  by_cases hn : 64 < n
  · have hbf : b = false := by cases b; rfl; exact absurd (HB.out.1 rfl).1 (by omega)
    subst hbf
    go_enter Try.func20, Try.ntmps20
    go_wp2
    go_ret
    exact ⟨rfl, World.grownBy.refl _ _⟩
  by_cases h1 : tn < 1
  · have hbf : b = false := by cases b; rfl; exact absurd (HB.out.1 rfl).2.1 (by omega)
    subst hbf
    go_enter Try.func20, Try.ntmps20
    go_wp2
    go_ret
    exact ⟨rfl, World.grownBy.refl _ _⟩
  by_cases h2 : 8 < tn
  · have hbf : b = false := by cases b; rfl; exact absurd (HB.out.1 rfl).2.2.1 (by omega)
    subst hbf
    go_enter Try.func20, Try.ntmps20
    go_wp2
    go_ret
    exact ⟨rfl, World.grownBy.refl _ _⟩
  have k0 := World.grownBy_alloc w (.cells #[.bool false, .bool false, .bool false, .bool false, .bool false, .bool false, .bool false, .bool false] 56) none
  have S0 := Lib.hid (Seen.new w)
  have K0 := Lib.hid k0
  clear k0
  go_enter Try.func20, Try.ntmps20
  go_wp2
  generalize w.alloc (.cells #[.bool false, .bool false, .bool false, .bool false, .bool false, .bool false, .bool false, .bool false] 56) = w0 at *
  obtain ⟨q, hq⟩ : ∃ q, w.heap.size = q := ⟨_, rfl⟩
  have HQ := Lib.hid hq
  rw [hq]
  rw [hq] at S0
  clear hq
  go_loopw [22] (fun it wr => ∃ (k : Nat) (S : Nat → Bool), k ≤ n ∧ it = .int .i64 k ∧ Hid (okS Z tn k) ∧ Hid (∀ u, u < 8 → (S u = true ↔ ∃ j, j < k ∧ Z j 0 = u)) ∧ Hid (Seen wr q S) ∧ Hid (w.grownBy wr none)) (fun it _ => n - (intOf it).toNat)
  case atStart => exact ⟨0, fun _ => false, Nat.zero_le _, rfl, Lib.hid fun j hj => absurd hj (by omega), Lib.hid fun u _ => ⟨(fun h => by cases h), fun ⟨j, hj, _⟩ => absurd hj (by omega)⟩, S0, K0⟩
  case round =>
    obtain ⟨k, S, hk, rfl, OK, SE, SN, KR⟩ := hrel
    clear S0 K0
    by_cases hkn : k < n
    · obtain rfl := HS.out.at_ (by omega)
      have d0' := (HS.out.kept KR.out).own k hkn
      have d1' := (HS.out.kept KR.out).len k hkn
      have HZ0 : Hid (∀ z, z = Z k 0 → z = Z k 0) := Lib.hid fun _ h => h
      by_cases hbad : Z k 0 < 0 ∨ tn ≤ Z k 0 ∨ Z k 1 < 1 ∨ 1000 < Z k 1
      · have hbf : b = false := by
          cases b with
          | false => rfl
          | true => exact absurd ((HB.out.1 rfl).2.2.2.1 k hkn) (by omega)
        subst hbf
        generalize Z k 0 = z0 at d0' hbad
        generalize Z k 1 = z1 at d1' hbad
        have KZ := Lib.hid (KR.out.trans (World.grownBy_alloc wr (.cells #[.int .i64 z0, .int .i64 z1] 26) none))
        by_cases b1 : z0 < 0
        · clear hbad
          go_wp2
          go_ret
          exact ⟨rfl, KZ.out⟩
        by_cases b2 : tn ≤ z0
        · clear hbad
          go_wp2
          go_ret
          exact ⟨rfl, KZ.out⟩
        by_cases b3 : z1 < 1
        · clear hbad
          go_wp2
          go_ret
          exact ⟨rfl, KZ.out⟩
        have b4 : 1000 < z1 := by omega
        clear hbad
        go_wp2
        go_ret
        exact ⟨rfl, KZ.out⟩
      · obtain ⟨u, hu⟩ : ∃ u : Nat, Z k 0 = (u : Int) := ⟨(Z k 0).toNat, by omega⟩
        have hu8 : u < 8 := by omega
        have HG : Hid (0 ≤ Z k 0 ∧ Z k 0 < tn ∧ 1 ≤ Z k 1 ∧ Z k 1 ≤ 1000) := Lib.hid (by omega)
        have HU := Lib.hid hu
        have f1 : ¬ (u : Int) < 0 := by omega
        have f2 : ¬ tn ≤ (u : Int) := by omega
        rw [hu] at d0'
        have f3 : ¬ Z k 1 < 1 := by omega
        have f4 : ¬ 1000 < Z k 1 := by omega
        clear hbad hu
        generalize Z k 1 = z1 at d1' f3 f4
        have ka := World.grownBy_alloc wr (.cells #[.int .i64 (u : Int), .int .i64 z1] 26) none
        have SN1 := SN.out.kept ka
        have sc := SN1.cell u hu8
        have sf := SN1.free u hu8
        have KA := Lib.hid (KR.out.trans ka)
        have SN2 := Lib.hid (SN1.set u hu8)
        have hql : q ≠ wr.heap.size := by have := SN.out.lt; omega
        have ki1 : (u : Int) < 8 := by omega
        clear ka SN1
        go_wp2
        go_roundw
        case rel =>
          refine ⟨k + 1, _, by omega, by go_num, Lib.hid fun j hj => ?_, Lib.hid fun v hv => ?_, SN2, Lib.hid (Only.on KA.out (Only.set (lo := q) (hi := q + 1) _ _ _ (Nat.le_refl _) (Nat.lt_succ_self _)) (Nat.le_of_eq HQ.out))⟩
          · by_cases e : j = k
            · subst e; exact HG.out
            · exact OK.out j (by omega)
          · by_cases e : v = u
            · subst e; simp only [if_true]; exact ⟨fun _ => ⟨k, by omega, HU.out⟩, fun _ => trivial⟩
            · rw [if_neg e, SE.out v hv]
              refine ⟨fun ⟨j, hj, hz⟩ => ⟨j, by omega, hz⟩, fun ⟨j, hj, hz⟩ => ⟨j, ?_, hz⟩⟩
              by_cases e2 : j = k
              · subst e2; exact absurd (hz.symm.trans HU.out) (by omega)
              · omega
        case measure => simp [intOf]; omega
    · obtain rfl : k = n := by omega
      clear hkn
      go_wp2
      obtain ⟨tN, rfl⟩ : ∃ tN : Nat, tn = (tN : Int) := ⟨tn.toNat, by omega⟩
      go_loop [50] (fun it => ∃ t : Nat, t ≤ tN ∧ it = .int .i64 t ∧ Hid (∀ u, u < t → S u = true)) (fun it => tN - (intOf it).toNat)
      case atStart => exact ⟨0, Nat.zero_le _, rfl, Lib.hid fun u hu => absurd hu (by omega)⟩
      case round =>
        obtain ⟨t, ht, rfl, AL⟩ := hrel
        by_cases htn : t < tN
        · have ht8 : t < 8 := by omega
          have sc := SN.out.cell t ht8
          have ki1 : (t : Int) < 8 := by omega
          have ki0 : (0 : Int) ≤ (t : Int) := by omega
          cases hSt : S t
          · have hbf : b = false := by
              cases b with
              | false => rfl
              | true =>
                obtain ⟨j, hj, hz⟩ := (HB.out.1 rfl).2.2.2.2 t (by omega)
                have := (SE.out t ht8).2 ⟨j, hj, hz⟩
                rw [hSt] at this; cases this
            subst hbf
            rw [hSt] at sc
            clear hSt
            go_wp2
            go_ret
            exact ⟨rfl, KR.out⟩
          · rw [hSt] at sc
            have HST := Lib.hid hSt
            clear hSt
            go_wp2
            go_round
            case rel => exact ⟨t + 1, by omega, by go_num, Lib.hid fun u hu => by
              by_cases e : u = t
              · subst e; exact HST.out
              · exact AL.out u (by omega)⟩
            case measure => simp [intOf]; omega
        · have hbt : b = true := HB.out.2 ⟨by omega, by omega, by omega, OK.out, fun u hu => (SE.out u (by omega)).1 (AL.out u (by omega))⟩
          subst hbt
          go_wp2
          go_ret
          exact ⟨rfl, KR.out⟩

set_option maxHeartbeats 4000000 in
theorem right_any {w : World} {sa : Option Addr} {sb off n cap : Nat} {Z : Nat → Nat → Int} (h : SlAt w sa sb off n Z) (hm : n ≤ maxLen) (tn : Int) (b : Bool) (hb : b = true ↔ RightP n Z tn) :
    Calls Try.prog 11 #[.slice sa n cap, .int .i64 tn] w fun e w' => e = .returned (.bool b) ∧ w = w' := by
  have HS := Lib.hid h
  have HB := Lib.hid hb
  have HM := Lib.hid hm
  clear h hb hm
  by_cases hn0 : n < 1
  · have hbf : b = false := by
      cases b with
      | false => rfl
      | true =>
        obtain ⟨a1, a2, a3, a4, a5⟩ := HB.out.1 rfl
        obtain ⟨j, hj, _⟩ := a5 0 (by omega)
        omega
    subst hbf
    obtain rfl : n = 0 := by omega
    go_enter Try.func11, Try.ntmps11
    go_wp2
    go_ret
    exact ⟨rfl, rfl⟩
  by_cases hn : 64 < n
  · have hbf : b = false := by cases b; rfl; exact absurd (HB.out.1 rfl).1 (by omega)
    subst hbf
    go_enter Try.func11, Try.ntmps11
    go_wp2
    go_ret
    exact ⟨rfl, rfl⟩
  by_cases h1 : tn < 1
  · have hbf : b = false := by cases b; rfl; exact absurd (HB.out.1 rfl).2.1 (by omega)
    subst hbf
    go_enter Try.func11, Try.ntmps11
    go_wp2
    go_ret
    exact ⟨rfl, rfl⟩
  by_cases h2 : 8 < tn
  · have hbf : b = false := by cases b; rfl; exact absurd (HB.out.1 rfl).2.2.1 (by omega)
    subst hbf
    go_enter Try.func11, Try.ntmps11
    go_wp2
    go_ret
    exact ⟨rfl, rfl⟩
  obtain ⟨tN, rfl⟩ : ∃ tN : Nat, tn = (tN : Int) := ⟨tn.toNat, by omega⟩
  obtain rfl := HS.out.at_ (by omega)
  go_enter Try.func11, Try.ntmps11
  go_wp2
  go_loop [5] (fun it => ∃ t : Nat, t ≤ tN ∧ it = .int .i64 t ∧ Hid (∀ u : Nat, u < t → ∃ j, j < n ∧ Z j 0 = u) ∧ Hid (0 < t → okS Z tN n)) (fun it => tN - (intOf it).toNat)
  case atStart => exact ⟨0, Nat.zero_le _, rfl, Lib.hid fun u hu => absurd hu (by omega), Lib.hid fun h => absurd h (by omega)⟩
  case round =>
    obtain ⟨t, ht, rfl, AL, OK⟩ := hrel
    by_cases htn : t < tN
    · go_wp2
      go_loop [6, 7] (fun hv it => ∃ (k : Nat) (c : Bool), k ≤ n ∧ it = .int .i64 k ∧ hv = .bool c ∧ Hid (c = true ↔ ∃ j, j < k ∧ Z j 0 = t) ∧ Hid (okS Z tN k)) (fun hv it => n - (intOf it).toNat)
      case atStart => exact ⟨0, false, Nat.zero_le _, rfl, rfl, Lib.hid ⟨(fun h => by cases h), fun ⟨j, hj, _⟩ => absurd hj (by omega)⟩, Lib.hid fun j hj => absurd hj (by omega)⟩
      case round =>
        obtain ⟨k, c, hk, rfl, rfl, HC, OKK⟩ := hrel
        by_cases hkn : k < n
        · have d0 := HS.out.own k hkn
          have d1 := HS.out.len k hkn
          by_cases hbad : Z k 0 < 0 ∨ (tN : Int) ≤ Z k 0 ∨ Z k 1 < 1 ∨ 1000 < Z k 1
          · have hbf : b = false := by
              cases b with
              | false => rfl
              | true => exact absurd ((HB.out.1 rfl).2.2.2.1 k hkn) (by omega)
            subst hbf
            generalize Z k 0 = z0 at d0 hbad
            generalize Z k 1 = z1 at d1 hbad
            by_cases b1 : z0 < 0
            · clear hbad
              go_wp2
              go_ret
              exact ⟨rfl, rfl⟩
            by_cases b2 : (tN : Int) ≤ z0
            · clear hbad
              go_wp2
              go_ret
              exact ⟨rfl, rfl⟩
            by_cases b3 : z1 < 1
            · clear hbad
              go_wp2
              go_ret
              exact ⟨rfl, rfl⟩
            have b4 : 1000 < z1 := by omega
            clear hbad
            go_wp2
            go_ret
            exact ⟨rfl, rfl⟩
          · have HG : Hid (0 ≤ Z k 0 ∧ Z k 0 < tN ∧ 1 ≤ Z k 1 ∧ Z k 1 ≤ 1000) := Lib.hid (by omega)
            have f1 : ¬ Z k 0 < 0 := by omega
            have f2 : ¬ (tN : Int) ≤ Z k 0 := by omega
            have f3 : ¬ Z k 1 < 1 := by omega
            have f4 : ¬ 1000 < Z k 1 := by omega
            clear hbad
            have OKN : Hid (okS Z tN (k + 1)) := Lib.hid fun j hj => by
              by_cases e : j = k
              · subst e; exact HG.out
              · exact OKK.out j (by omega)
            have HCN : Hid ((c || decide (Z k 0 = (t : Int))) = true ↔ ∃ j, j < k + 1 ∧ Z j 0 = t) := Lib.hid (by
              rw [Bool.or_eq_true, HC.out, decide_eq_true_eq]
              constructor
              · rintro (⟨j, hj, hz⟩ | hz)
                · exact ⟨j, by omega, hz⟩
                · exact ⟨k, by omega, hz⟩
              · rintro ⟨j, hj, hz⟩
                by_cases e : j = k
                · subst e; exact Or.inr hz
                · exact Or.inl ⟨j, by omega, hz⟩)
            obtain ⟨z0, hz0⟩ : ∃ z0, Z k 0 = z0 := ⟨_, rfl⟩
            obtain ⟨z1, hz1⟩ : ∃ z1, Z k 1 = z1 := ⟨_, rfl⟩
            rw [hz0] at d0 f1 f2 HCN
            rw [hz1] at d1 f3 f4
            clear hz0 hz1 HG
            cases c
            · by_cases he : z0 = (t : Int)
              · subst he
                go_wp2
                go_round
                case rel => exact ⟨k + 1, true, by omega, by go_num, rfl, by simpa using HCN, OKN⟩
                case measure => simp [intOf]; omega
              · go_wp2
                go_round
                case rel => exact ⟨k + 1, false, by omega, by go_num, by simp [he], by simpa [he] using HCN, OKN⟩
                case measure => simp [intOf]; omega
            · go_wp2
              go_round
              case rel => exact ⟨k + 1, true, by omega, by go_num, rfl, by simpa using HCN, OKN⟩
              case measure => simp [intOf]; omega
        · obtain rfl : k = n := by omega
          clear hkn
          cases c
          · have hbf : b = false := by
              cases b with
              | false => rfl
              | true => exact absurd (HC.out.2 ((HB.out.1 rfl).2.2.2.2 t (by omega))) (by simp)
            subst hbf
            go_wp2
            go_ret
            exact ⟨rfl, rfl⟩
          · have HN := Lib.hid (HC.out.1 rfl)
            go_wp2
            go_round
            case rel => exact ⟨t + 1, by omega, by go_num, Lib.hid fun u hu => by
              by_cases e : u = t
              · subst e; exact HN.out
              · exact AL.out u (by omega), Lib.hid fun _ => OKK.out⟩
            case measure => simp [intOf]; omega
    · have hbt : b = true := HB.out.2 ⟨by omega, by omega, by omega, OK.out (by omega), fun u hu => AL.out u (by omega)⟩
      subst hbt
      go_wp2
      go_ret
      exact ⟨rfl, rfl⟩
end Go.Proofs.Ytacdmolkagcafaa
