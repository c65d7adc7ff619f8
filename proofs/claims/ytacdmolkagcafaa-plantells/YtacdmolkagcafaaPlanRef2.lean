/-
  The document's answers for layer 9: Next, Kth.
-/
import Derived.Test.YtacdmolkagcafaaPlanRef
namespace Go.Proofs.Ytacdmolkagcafaa
open Go.RowKit Go.Lib
set_option maxRecDepth 100000
set_option linter.unusedVariables false

/-- The first slot of a tenant from a time of the first cycle on, by its number in the cycle: in this one, or in the next. -/
theorem next_index {O : Nat → Int} {L : Nat → Nat} {n C : Nat} {who : Int} {P E m : Nat → Nat} (T : TurnsOf O L n who P E m) (hn : 0 < n) (hC : sumN L n = C) (since : Nat) (hs : since < C) :
    (∃ i, i < n ∧ O i = who ∧ since ≤ sumN L i ∧ (∀ k, k < i → O k = who → sumN L k < since) ∧ P (m since) = sumN L i ∧ E (m since) = sumN L (i + 1)) ∨
    (∃ i, i < n ∧ O i = who ∧ (∀ k, k < n → O k = who → sumN L k < since) ∧ (∀ k, k < i → ¬ O k = who) ∧ P (m since) = C + sumN L i ∧ E (m since) = C + sumN L (i + 1)) := by
  obtain ⟨i, ho, hc, hP, hE⟩ := T.at (m since)
  have hbef : ∀ k, k < i → O (k % n) = who → begN L n k < since := fun k hk hok => by
    have h1 := own_lt hok hk
    have h2 := (T.t.mem since (ownN O n who k)).2 (by omega)
    rwa [(T.is k hok).1] at h2
  have hge : since ≤ begN L n i := by rw [← hP]; exact T.t.m_ge since
  rcases Nat.lt_or_ge i n with h | h
  · left
    rw [Nat.mod_eq_of_lt h] at ho
    refine ⟨i, h, ho, by rw [← begN_low L n i (by omega)]; exact hge, fun k hk hok => ?_, by rw [hP, begN_low L n i (by omega)], by rw [hE, begN_low L n (i + 1) (by omega)]⟩
    have := hbef k hk (by rw [Nat.mod_eq_of_lt (by omega)]; exact hok)
    rwa [begN_low L n k (by omega)] at this
  · right
    have hon : ∀ k, begN L n (k + n) = begN L n k + C := fun k => by have := begN_on L n k 1; rwa [Nat.one_mul, Nat.one_mul, hC] at this
    have hno : ∀ k, k + n < i → ¬ O (k % n) = who := fun k hk hok => by
      have := hbef (k + n) hk (by rw [Nat.add_mod_right]; exact hok)
      rw [hon] at this; omega
    obtain ⟨r, rfl⟩ : ∃ r, i = r + n := ⟨i - n, by omega⟩
    rw [Nat.add_mod_right] at ho
    have hr : r < n := by
      rcases Nat.lt_or_ge r n with h1 | h1
      · exact h1
      · exact absurd (by rw [Nat.mod_mod] ; exact ho) (hno (r % n) (by have := Nat.mod_lt r hn; omega))
    rw [Nat.mod_eq_of_lt hr] at ho
    refine ⟨r, hr, ho, fun k hk hok => ?_, fun k hk hok => hno k (by omega) (by rw [Nat.mod_eq_of_lt (by omega)]; exact hok), ?_, ?_⟩
    · have := hbef k (by omega) (by rw [Nat.mod_eq_of_lt hk]; exact hok)
      rwa [begN_low L n k (by omega)] at this
    · rw [hP, hon, begN_low L n r (by omega)]; omega
    · rw [hE, show r + n + 1 = r + 1 + n by omega, hon, begN_low L n (r + 1) (by omega)]; omega

/-- Does the first search take the slot with number k? -/
def takes (Z : Nat → Nat → Int) (who : Int) (base since k : Nat) : Prop := Z k 0 = who ∧ since ≤ sumN (lenZ Z) k ∧ base + sumN (lenZ Z) k < 18446744073709551616

set_option maxHeartbeats 8000000 in
set_option maxRecDepth 100000 in
/-- The search, by what it finds: fst: the first that the first search takes; none: then the first own one, a cycle on; neither: nothing. -/
theorem rnext_run {w : World} {sb off n cap : Nat} {Z : Nat → Nat → Int} {tn : Int} (h : SlAt w (some ⟨sb, off, none⟩) sb off n Z) (hn : n ≤ 64) (hn0 : 0 < n) (ok : okS Z tn n) (who : Int) (t C : Nat) (hC : sumN (lenZ Z) n = C) (ht : t < 18446744073709551616) (rx ry : Nat) (rb : Bool)
    (hf : (∃ i, i < n ∧ takes Z who (t / C * C) (t % C) i ∧ (∀ k, k < i → ¬ takes Z who (t / C * C) (t % C) k) ∧ (#[.int .u64 (rx : Int), .int .u64 (ry : Int), .bool rb] : Array Value) = if t / C * C + sumN (lenZ Z) (i + 1) < 18446744073709551616 then #[.int .u64 (t / C * C + sumN (lenZ Z) i : Nat), .int .u64 (t / C * C + sumN (lenZ Z) (i + 1) : Nat), .bool true] else #[.int .u64 0, .int .u64 0, .bool false]) ∨
      ((∀ k, k < n → ¬ takes Z who (t / C * C) (t % C) k) ∧ ((∃ i, i < n ∧ Z i 0 = who ∧ (∀ k, k < i → ¬ Z k 0 = who) ∧ (#[.int .u64 (rx : Int), .int .u64 (ry : Int), .bool rb] : Array Value) = if t / C * C + C + sumN (lenZ Z) (i + 1) < 18446744073709551616 then #[.int .u64 (t / C * C + C + sumN (lenZ Z) i : Nat), .int .u64 (t / C * C + C + sumN (lenZ Z) (i + 1) : Nat), .bool true] else #[.int .u64 0, .int .u64 0, .bool false]) ∨ ((∀ k, k < n → ¬ Z k 0 = who) ∧ (#[.int .u64 (rx : Int), .int .u64 (ry : Int), .bool rb] : Array Value) = #[.int .u64 0, .int .u64 0, .bool false])))) :
    Calls Try.prog 17 #[.slice (some ⟨sb, off, none⟩) n cap, .int .i64 who, .int .u64 t] w fun e w' => e = .returned (.tuple #[.int .u64 (rx : Int), .int .u64 (ry : Int), .bool rb]) ∧ w.grownBy w' none := by
  have hlow : ∀ k, k ≤ n → sumN (lenZ Z) k ≤ 64000 := fun k hk => by
    have := sumN_le (lenZ Z) 1000 k (fun i hi => by have := ok i (by omega); show (Z i 1).toNat ≤ 1000; omega)
    omega
  have hC0 : 0 < C := by
    have h1 : sumN (lenZ Z) 1 ≤ sumN (lenZ Z) n := sumN_mono _ hn0
    have h2 := ok 0 hn0
    have h3 : sumN (lenZ Z) 1 = (Z 0 1).toNat := by show 0 + (Z 0 1).toNat = _; omega
    omega
  have hCl := hlow n (Nat.le_refl _)
  rw [hC] at hCl
  have CF := Lib.hid (fun (v : World) (hv : w.grownBy v none) (k : Nat) (hk : k ≤ n) => from_any (cap := cap) (h.kept hv) hn ok k hk)
  have CE := Lib.hid (fun (k lo : Nat) (hk : k < n) (hl : lo < 18446744073709551616) (R : Array Value) hR => rend_lo (cap := cap) h hn ok k lo hk hl R hR)
  have HS := Lib.hid h
  have HOK := Lib.hid ok
  have hbt : t / C * C ≤ t := Nat.div_mul_le_self _ _
  have htm : t / C * C + t % C = t := by have := Nat.div_add_mod t C; rw [Nat.mul_comm C] at this; exact this
  have C1 := CF.out w (World.grownBy.refl _ _) n (Nat.le_refl _)
  rw [hC] at C1
  have HC1 := Lib.hid C1
  obtain ⟨qt, hqt⟩ : ∃ qt, t / C = qt := ⟨_, rfl⟩
  obtain ⟨base, hbase⟩ : ∃ base, t / C * C = base := ⟨_, rfl⟩
  obtain ⟨since, hsince⟩ : ∃ since, t % C = since := ⟨_, rfl⟩
  rw [hbase, hsince] at htm hf
  rw [hbase] at hbt
  have hz : ((C : Int) == 0) = false := by simp; omega
  have e1 : (t : Int) / (C : Int) = (qt : Int) := by rw [← hqt]; exact (Int.natCast_ediv t C).symm
  have e2 : IntKind.u64.wrap ((qt : Int) * (C : Int)) = (base : Int) := by rw [← Int.natCast_mul, ← hqt, hbase, IntKind.wrap_u64]; omega
  have e3 : IntKind.u64.wrap (qt : Int) = (qt : Int) := by have := Nat.div_le_self t C; rw [IntKind.wrap_u64]; omega
  have HLOW := Lib.hid hlow
  have HF := Lib.hid hf
  have HT := Lib.hid htm
  clear h ok hlow C1 hqt hbase hsince hf htm
  go_enter Try.func17, Try.ntmps17
  go_wp2_with fail
  refine HC1.out.mono ?_
  rintro e w' ⟨rfl, rfl⟩
  clear HC1
  go_wp2
  go_loop [11] (fun it => ∃ k : Nat, k ≤ n ∧ it = .int .i64 k ∧ Hid (∀ j, j < k → ¬ takes Z who base since j)) (fun it => n - (intOf it).toNat)
  case atStart => exact ⟨0, Nat.zero_le _, rfl, Lib.hid fun j hj => absurd hj (by omega)⟩
  case round =>
    obtain ⟨k, hk, rfl, NT⟩ := hrel
    by_cases hkn : k < n
    · have d0 := HS.out.own k hkn
      have hl := HLOW.out k hk
      have hk100 : (k : Int) < 100 := by omega
      have ki1 : (k : Int) < (n : Int) := by omega
      have C2 := Lib.hid (CF.out w (World.grownBy.refl _ _) k hk)
      by_cases ho : Z k 0 = who
      · by_cases htk : takes Z who base since k
        · -- it is taken
          obtain ⟨i, hi, ti, ni, hR⟩ : ∃ i, i < n ∧ takes Z who base since i ∧ (∀ k, k < i → ¬ takes Z who base since k) ∧ (#[.int .u64 (rx : Int), .int .u64 (ry : Int), .bool rb] : Array Value) = if base + sumN (lenZ Z) (i + 1) < 18446744073709551616 then #[.int .u64 (base + sumN (lenZ Z) i : Nat), .int .u64 (base + sumN (lenZ Z) (i + 1) : Nat), .bool true] else #[.int .u64 0, .int .u64 0, .bool false] := by
            rcases HF.out with h | h
            · exact h
            · exact absurd htk (h.1 k hkn)
          obtain rfl : i = k := by
            rcases Nat.lt_trichotomy i k with h | h | h
            · exact absurd ti (NT.out i h)
            · exact h
            · exact absurd htk (ni k h)
          have C3 := Lib.hid (CE.out i base hkn (by omega) _ hR)
          obtain ⟨s, hs⟩ : ∃ s, sumN (lenZ Z) i = s := ⟨_, rfl⟩
          obtain ⟨-, t1, t2⟩ := htk
          rw [hs] at t1 t2 C2
          obtain ⟨x, hx⟩ : ∃ x, base + s = x := ⟨_, rfl⟩
          have y1 : IntKind.u64.wrap ((base : Int) + (s : Int)) = (x : Int) := by rw [IntKind.wrap_u64]; omega
          have y2 : (t : Int) ≤ (x : Int) := by have := HT.out; omega
          have y3 : (base : Int) ≤ (x : Int) := by omega
          clear hR ti ni hs t1 t2 hx hl
          go_wp2_with fail
          refine C2.out.mono ?_
          rintro e w' ⟨rfl, rfl⟩
          go_wp2_with fail
          refine C2.out.mono ?_
          rintro e w' ⟨rfl, rfl⟩
          go_wp2_with fail
          refine C3.out.mono ?_
          rintro e w1 ⟨rfl, k1⟩
          go_wp2
          go_ret3
          exact ⟨rfl, k1⟩
        · obtain ⟨s, hs⟩ : ∃ s, sumN (lenZ Z) k = s := ⟨_, rfl⟩
          have hx : ∃ x : Nat, IntKind.u64.wrap ((base : Int) + (s : Int)) = (x : Int) ∧ x < t := by
            unfold takes at htk
            rw [hs] at htk hl
            have := HT.out
            rcases Nat.lt_or_ge (base + s) 18446744073709551616 with h | h
            · refine ⟨base + s, by rw [IntKind.wrap_u64]; omega, ?_⟩
              have : ¬ since ≤ s := fun h1 => htk ⟨ho, h1, h⟩
              omega
            · exact ⟨base + s - 18446744073709551616, by rw [IntKind.wrap_u64]; omega, by omega⟩
          obtain ⟨x, y1, hxt⟩ := hx
          have y2 : ¬ (t : Int) ≤ (x : Int) := by omega
          have NT2 : Hid (∀ j, j < k + 1 → ¬ takes Z who base since j) := Lib.hid fun j hj => by
            by_cases e : j = k
            · subst e; exact htk
            · exact NT.out j (by omega)
          rw [hs] at C2
          clear hs htk hl hxt
          go_wp2_with fail
          refine C2.out.mono ?_
          rintro e w' ⟨rfl, rfl⟩
          go_wp2
          go_round
          case rel => exact ⟨k + 1, by omega, by go_num, NT2⟩
          case measure => simp [intOf]; omega
      · have NT2 : Hid (∀ j, j < k + 1 → ¬ takes Z who base since j) := Lib.hid fun j hj => by
          by_cases e : j = k
          · subst e; exact fun h => ho h.1
          · exact NT.out j (by omega)
        clear hl
        go_wp2
        go_round
        case rel => exact ⟨k + 1, by omega, by go_num, NT2⟩
        case measure => simp [intOf]; omega
    · obtain rfl : k = n := by omega
      have HF2 : Hid ((∃ i, i < k ∧ Z i 0 = who ∧ (∀ k, k < i → ¬ Z k 0 = who) ∧ (#[.int .u64 (rx : Int), .int .u64 (ry : Int), .bool rb] : Array Value) = if base + C + sumN (lenZ Z) (i + 1) < 18446744073709551616 then #[.int .u64 (base + C + sumN (lenZ Z) i : Nat), .int .u64 (base + C + sumN (lenZ Z) (i + 1) : Nat), .bool true] else #[.int .u64 0, .int .u64 0, .bool false]) ∨ ((∀ j, j < k → ¬ Z j 0 = who) ∧ (#[.int .u64 (rx : Int), .int .u64 (ry : Int), .bool rb] : Array Value) = #[.int .u64 0, .int .u64 0, .bool false])) := Lib.hid (by
        rcases HF.out with ⟨i, hi, ti, _⟩ | h
        · exact absurd ti (NT.out i hi)
        · exact h.2)
      clear hkn HF NT
      go_wp2
      go_loop [12] (fun it => ∃ j : Nat, j ≤ k ∧ it = .int .i64 j ∧ Hid (∀ i, i < j → ¬ Z i 0 = who)) (fun it => k - (intOf it).toNat)
      case atStart => exact ⟨0, Nat.zero_le _, rfl, Lib.hid fun j hj => absurd hj (by omega)⟩
      case round =>
        obtain ⟨j, hj, rfl, NO⟩ := hrel
        by_cases hjk : j < k
        · have d0 := HS.out.own j hjk
          have hk100 : (j : Int) < 100 := by omega
          have ki1 : (j : Int) < (k : Int) := by omega
          by_cases ho : Z j 0 = who
          · obtain ⟨i, hi, oi, ni, hR⟩ : ∃ i, i < k ∧ Z i 0 = who ∧ (∀ k, k < i → ¬ Z k 0 = who) ∧ (#[.int .u64 (rx : Int), .int .u64 (ry : Int), .bool rb] : Array Value) = if base + C + sumN (lenZ Z) (i + 1) < 18446744073709551616 then #[.int .u64 (base + C + sumN (lenZ Z) i : Nat), .int .u64 (base + C + sumN (lenZ Z) (i + 1) : Nat), .bool true] else #[.int .u64 0, .int .u64 0, .bool false] := by
              rcases HF2.out with h | h
              · exact h
              · exact absurd ho (h.1 j hjk)
            obtain rfl : i = j := by
              rcases Nat.lt_trichotomy i j with h | h | h
              · exact absurd oi (NO.out i h)
              · exact h
              · exact absurd ho (ni j h)
            rcases Nat.lt_or_ge (base + C) 18446744073709551616 with hov | hov
            · have S1 := Lib.hid (sum_small base C (by omega) (by omega) hov w)
              have k1 := World.grownBy_alloc w (.cells #[.int .u64 0, .int .u64 ((base + C : Nat) : Int)] 54) none
              have C3 := Lib.hid (fun v (hv : w.grownBy v none) => rend_lo (cap := cap) (HS.out.kept hv) (tn := tn) hn HOK.out i (base + C) hi hov _ hR)
              obtain ⟨bc, hbc⟩ : ∃ bc, base + C = bc := ⟨_, rfl⟩
              rw [hbc] at S1 C3 k1
              have K1 := Lib.hid k1
              clear hR ni oi hbc k1
              go_wp2_with fail
              refine S1.out.mono ?_
              rintro e w' ⟨rfl, rfl⟩
              go_wp2_with fail
              refine (C3.out _ K1.out).mono ?_
              rintro e w1 ⟨rfl, k1⟩
              have K2 := Lib.hid (K1.out.trans k1)
              clear k1 K1 C3 S1
              go_wp2
              go_ret3
              exact ⟨rfl, K2.out⟩
            · rw [if_neg (by omega)] at hR
              obtain ⟨rfl, rfl, rfl⟩ : rx = 0 ∧ ry = 0 ∧ rb = false := by simpa using hR
              have S1 := Lib.hid (sum_great base C (by omega) (by omega) hov w)
              have k1 := World.grownBy_alloc w (.cells #[.int .u64 1, .int .u64 ((base + C - 18446744073709551616 : Nat) : Int)] 54) none
              obtain ⟨bc, hbc⟩ : ∃ bc, base + C - 18446744073709551616 = bc := ⟨_, rfl⟩
              rw [hbc] at S1 k1
              have K1 := Lib.hid k1
              have C3 := Lib.hid (fun v => rend_hi (some ⟨sb, off, none⟩) k cap (i : Int) 1 bc (by omega) v)
              clear hR ni oi hbc k1
              go_wp2_with fail
              refine S1.out.mono ?_
              rintro e w' ⟨rfl, rfl⟩
              go_wp2_with fail
              refine (C3.out _).mono ?_
              rintro e w1 ⟨rfl, k1⟩
              have K2 := Lib.hid (K1.out.trans k1)
              clear k1 K1 C3 S1
              go_wp2
              go_ret3
              exact ⟨rfl, K2.out⟩
          · have NO2 : Hid (∀ i, i < j + 1 → ¬ Z i 0 = who) := Lib.hid fun i hi => by
              by_cases e : i = j
              · subst e; exact ho
              · exact NO.out i (by omega)
            go_wp2
            go_round
            case rel => exact ⟨j + 1, by omega, by go_num, NO2⟩
            case measure => simp [intOf]; omega
        · obtain rfl : j = k := by omega
          have hR : (#[.int .u64 (rx : Int), .int .u64 (ry : Int), .bool rb] : Array Value) = #[Value.int .u64 0, .int .u64 0, .bool false] := by
            rcases HF2.out with ⟨i, hi, oi, _⟩ | h
            · exact absurd oi (NO.out i hi)
            · exact h.2
          obtain ⟨rfl, rfl, rfl⟩ : rx = 0 ∧ ry = 0 ∧ rb = false := by simpa using hR
          clear hjk hR
          go_wp2
          go_ret3
          exact ⟨rfl, World.grownBy.refl _ _⟩
end Go.Proofs.Ytacdmolkagcafaa
