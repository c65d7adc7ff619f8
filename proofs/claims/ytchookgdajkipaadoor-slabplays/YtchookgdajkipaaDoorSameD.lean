/-
  The statement's own 'same' of layer 3: a region and the document's row of places tell the same.
-/
import Derived.Test.YtchookgdajkipaaDoorRef3
namespace Go.Proofs.YtchookgdajkipaaDoor
open Go.RowKit Go.Lib
set_option maxRecDepth 100000

theorem phas_not {w : World} {r cp n : Nat} {S : Nat → Bool} {U : Nat → Int} {k : Int} (h : PlAt w r n S U) (hk : k < 0 ∨ (n : Int) ≤ k ∨ S k.toNat = false) :
    Calls Tryd.prog 51 #[.slice (some ⟨r, 0, none⟩) n cp, .int .i64 k] w fun e w' => e = .returned (.bool false) ∧ w = w' := by
  by_cases h1 : k < 0 ∨ (n : Int) ≤ k
  · exact phas_no k h1
  · obtain ⟨q, rfl⟩ : ∃ q : Nat, k = q := ⟨k.toNat, by omega⟩
    have hS : S q = false := by
      rcases hk with h2 | h2 | h2
      · omega
      · omega
      · simpa using h2
    exact hS ▸ phas_in (cp := cp) h (by omega)
theorem not_has {n : Nat} {S : Nat → Bool} {ask : Int} (hk : ask < 0 ∨ (n : Int) ≤ ask ∨ S ask.toNat = false) : (0 ≤ ask ∧ ask < n ∧ S ask.toNat = false) ∨ ((ask < 0 ∨ (n : Int) ≤ ask) ∧ false = false) := by
  by_cases h : ask < 0 ∨ (n : Int) ≤ ask
  · exact Or.inr ⟨h, rfl⟩
  · refine Or.inl ⟨by omega, by omega, ?_⟩
    rcases hk with h1 | h1 | h1
    · omega
    · omega
    · exact h1

set_option maxHeartbeats 4000000 in
theorem psame_has {w : World} {rb ro pb po b g n r cp : Nat} {S : Nat → Bool} {U V : Nat → Int} (H : SI.RegMem w rb ro pb po b g n S V) (hT : TabAt w) (P : PlAt w r n S U) (hn : n ≤ 256) {ask : Nat} (ha : ask < n) (hS : S ask = true) (hU : U ask = V ask) :
    Calls Tryd.prog 16 #[.pointer (some ⟨rb, ro, none⟩), .slice (some ⟨r, 0, none⟩) n cp, .int .i64 ask] w fun e w' => e = .returned (.bool true) ∧ w.grownBy w' none := by
  have C1 := Lib.hid (SI.at_in ask H ha hS)
  have FIN : Hid (∀ v : World, w.grownBy v none → SI.RegMem v rb ro pb po b g n S V ∧ TabAt v ∧ PlAt v r n S U) := Lib.hid fun v hv => ⟨H.kept hv, hT.kept hv, P.kept hv⟩
  have HRH : Hid (∀ v : World, w.grownBy v none → Calls Tryd.prog 55 #[.pointer (some ⟨rb, ro, none⟩), .int .i64 ask] v fun e w' => e = .returned (.bool true) ∧ v.grownBy w' none) := Lib.hid fun v hv => SI.has_any (ask : Int) true (H.kept hv) (Or.inl ⟨by omega, by omega, by simpa using hS⟩)
  have HXH : Hid (∀ v : World, w.grownBy v none → Calls Tryd.prog 51 #[.slice (some ⟨r, 0, none⟩) n cp, .int .i64 ask] v fun e w' => e = .returned (.bool true) ∧ v = w') := Lib.hid fun v hv => hS ▸ phas_in (cp := cp) (P.kept hv) ha
  have HC : Hid (∀ v : World, w.grownBy v none → Calls Tryd.prog 45 #[.pointer (some ⟨rb, ro, none⟩)] v fun e w' => e = .returned (.int .i64 ((SI.mems S n).length : Nat)) ∧ v = w') := Lib.hid fun v hv => by
    rw [SI.mems_len]; exact SI.count_any (H.kept hv)
  have HXL : Hid (∀ v : World, w.grownBy v none → Calls Tryd.prog 56 #[.slice (some ⟨r, 0, none⟩) n cp] v _) := Lib.hid fun v hv => pheld (cp0 := cp) (P.kept hv) hn
  have HRL : Hid (∀ v : World, w.grownBy v none → Calls Tryd.prog 47 #[.pointer (some ⟨rb, ro, none⟩)] v _) := Lib.hid fun v hv => SI.held_any (H.kept hv) (hT.kept hv)
  have hLle : (SI.mems S n).length ≤ n := by rw [SI.mems_len]; exact cnt_le S n
  generalize SI.mems S n = L at *
  have HR := Lib.hid (fun (v : World) (hv : w.grownBy v none) => SI.room_any (H.kept hv))
  have HV : Hid (∀ v : World, w.grownBy v none → v.cell? ⟨r, ask * 2 + 1, none⟩ = some (.int .i64 (V ask))) := Lib.hid fun v hv => by rw [← hU]; exact (P.kept hv).val ask ha
  clear H hT P
  go_enter Tryd.func16, Tryd.ntmps16
  go_wp2_with fail
  refine C1.out.mono ?_
  rintro e w1 ⟨rfl, g1⟩
  clear C1
  have c1 := HV.out w1 g1
  go_wp2_with fail
  refine (HXH.out w1 g1).mono ?_
  rintro e w' ⟨rfl, rfl⟩
  go_wp2_with fail
  refine (HR.out w1 g1).mono ?_
  rintro e w' ⟨rfl, rfl⟩
  go_wp2_with fail
  refine (HXH.out w1 g1).mono ?_
  rintro e w' ⟨rfl, rfl⟩
  go_wp2_with fail
  refine (HRH.out w1 g1).mono ?_
  rintro e w2 ⟨rfl, k2⟩
  have g2 := g1.trans k2
  clear g1 k2 c1
  go_wp2_with fail
  refine (HC.out w2 g2).mono ?_
  rintro e w' ⟨rfl, rfl⟩
  go_wp2_with fail
  refine (HXL.out w2 g2).mono ?_
  rintro e w3 ⟨q3, cp3, rfl, k3, _⟩
  have g3 := g2.trans k3
  clear g2 k3
  go_wp2_with fail
  refine (HRL.out w3 g3).mono ?_
  rintro e w4 ⟨q4, cp4, rfl, k4, R4⟩
  have g4 := g3.trans k4
  clear g3 k4
  go_wp2_with fail
  refine (HXL.out w4 g4).mono ?_
  rintro e w5 ⟨q5, cp5, rfl, k5, R5⟩
  have g5 := g4.trans k5
  have C8 := Lib.hid (same_yes (R4.kept k5 (by simp)).reads R5.reads (by omega))
  clear g4 k5 R4 R5
  go_wp2_with fail
  refine C8.out.mono ?_
  rintro e w6 ⟨rfl, k6⟩
  have g6 := g5.trans k6
  clear g5 k6 C8
  go_wp2
  go_ret
  exact ⟨rfl, g6⟩

set_option maxHeartbeats 4000000 in
theorem psame_no {w : World} {rb ro pb po b g n r cp : Nat} {S : Nat → Bool} {U V : Nat → Int} (H : SI.RegMem w rb ro pb po b g n S V) (hT : TabAt w) (P : PlAt w r n S U) (hn : n ≤ 256) {ask : Int} (hk : ask < 0 ∨ (n : Int) ≤ ask ∨ S ask.toNat = false) :
    Calls Tryd.prog 16 #[.pointer (some ⟨rb, ro, none⟩), .slice (some ⟨r, 0, none⟩) n cp, .int .i64 ask] w fun e w' => e = .returned (.bool true) ∧ w.grownBy w' none := by
  have C1 := Lib.hid (SI.at_no ask H hk)
  have FIN : Hid (∀ v : World, w.grownBy v none → SI.RegMem v rb ro pb po b g n S V ∧ TabAt v ∧ PlAt v r n S U) := Lib.hid fun v hv => ⟨H.kept hv, hT.kept hv, P.kept hv⟩
  have HRH : Hid (∀ v : World, w.grownBy v none → Calls Tryd.prog 55 #[.pointer (some ⟨rb, ro, none⟩), .int .i64 ask] v fun e w' => e = .returned (.bool false) ∧ v.grownBy w' none) := Lib.hid fun v hv => SI.has_any (ask : Int) false (H.kept hv) (not_has hk)
  have HXH : Hid (∀ v : World, w.grownBy v none → Calls Tryd.prog 51 #[.slice (some ⟨r, 0, none⟩) n cp, .int .i64 ask] v fun e w' => e = .returned (.bool false) ∧ v = w') := Lib.hid fun v hv => phas_not (cp := cp) (P.kept hv) hk
  have HC : Hid (∀ v : World, w.grownBy v none → Calls Tryd.prog 45 #[.pointer (some ⟨rb, ro, none⟩)] v fun e w' => e = .returned (.int .i64 ((SI.mems S n).length : Nat)) ∧ v = w') := Lib.hid fun v hv => by
    rw [SI.mems_len]; exact SI.count_any (H.kept hv)
  have HXL : Hid (∀ v : World, w.grownBy v none → Calls Tryd.prog 56 #[.slice (some ⟨r, 0, none⟩) n cp] v _) := Lib.hid fun v hv => pheld (cp0 := cp) (P.kept hv) hn
  have HRL : Hid (∀ v : World, w.grownBy v none → Calls Tryd.prog 47 #[.pointer (some ⟨rb, ro, none⟩)] v _) := Lib.hid fun v hv => SI.held_any (H.kept hv) (hT.kept hv)
  have hLle : (SI.mems S n).length ≤ n := by rw [SI.mems_len]; exact cnt_le S n
  generalize SI.mems S n = L at *
  have HR := Lib.hid (fun (v : World) (hv : w.grownBy v none) => SI.room_any (H.kept hv))
  clear H hT P
  go_enter Tryd.func16, Tryd.ntmps16
  go_wp2_with fail
  refine C1.out.mono ?_
  rintro e w1 ⟨rfl, g1⟩
  clear C1
  go_wp2_with fail
  refine (HXH.out w1 g1).mono ?_
  rintro e w' ⟨rfl, rfl⟩
  go_wp2_with fail
  refine (HR.out w1 g1).mono ?_
  rintro e w' ⟨rfl, rfl⟩
  go_wp2_with fail
  refine (HXH.out w1 g1).mono ?_
  rintro e w' ⟨rfl, rfl⟩
  go_wp2_with fail
  refine (HRH.out w1 g1).mono ?_
  rintro e w2 ⟨rfl, k2⟩
  have g2 := g1.trans k2
  clear g1 k2
  go_wp2_with fail
  refine (HC.out w2 g2).mono ?_
  rintro e w' ⟨rfl, rfl⟩
  go_wp2_with fail
  refine (HXL.out w2 g2).mono ?_
  rintro e w3 ⟨q3, cp3, rfl, k3, _⟩
  have g3 := g2.trans k3
  clear g2 k3
  go_wp2_with fail
  refine (HRL.out w3 g3).mono ?_
  rintro e w4 ⟨q4, cp4, rfl, k4, R4⟩
  have g4 := g3.trans k4
  clear g3 k4
  go_wp2_with fail
  refine (HXL.out w4 g4).mono ?_
  rintro e w5 ⟨q5, cp5, rfl, k5, R5⟩
  have g5 := g4.trans k5
  have C8 := Lib.hid (same_yes (R4.kept k5 (by simp)).reads R5.reads (by omega))
  clear g4 k5 R4 R5
  go_wp2_with fail
  refine C8.out.mono ?_
  rintro e w6 ⟨rfl, k6⟩
  have g6 := g5.trans k6
  clear g5 k6 C8
  go_wp2
  go_ret
  exact ⟨rfl, g6⟩

end Go.Proofs.YtchookgdajkipaaDoor
