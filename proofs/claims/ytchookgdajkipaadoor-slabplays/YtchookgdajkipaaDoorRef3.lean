/-
  Contracts of the document's own answers for layer 3 (nightjarref03), over this seat's translation: a row of places that tells a region.
-/
import Derived.Test.YtchookgdajkipaaDoorFillsWalk
namespace Go.Proofs.YtchookgdajkipaaDoor
open Go.RowKit Go.Lib
set_option maxRecDepth 100000

/-- The values of n places: which are taken, and what is in each. -/
def places (S : Nat → Bool) (U : Nat → Int) (n : Nat) : List Value := (List.range n).flatMap fun i => [Value.bool (S i), Value.int .i64 (U i)]
theorem places_succ (S : Nat → Bool) (U : Nat → Int) (n : Nat) : places S U (n + 1) = places S U n ++ [.bool (S n), .int .i64 (U n)] := by simp [places, List.range_succ, List.flatMap_append]
theorem places_len (S : Nat → Bool) (U : Nat → Int) : ∀ n, (places S U n).length = n * 2
  | 0 => rfl
  | n + 1 => by rw [places_succ, List.length_append, places_len S U n]; simp; omega
theorem places_is (S : Nat → Bool) (U : Nat → Int) (k : Nat) : ∀ n, k < n → (places S U n)[k * 2]? = some (.bool (S k))
  | n + 1, h => by
    rw [places_succ, List.getElem?_append]
    by_cases e : k < n
    · rw [if_pos (by rw [places_len]; omega)]; exact places_is S U k n e
    · obtain rfl : k = n := by omega
      rw [if_neg (by rw [places_len]; omega), places_len]; simp
theorem places_val (S : Nat → Bool) (U : Nat → Int) (k : Nat) : ∀ n, k < n → (places S U n)[k * 2 + 1]? = some (.int .i64 (U k))
  | n + 1, h => by
    rw [places_succ, List.getElem?_append]
    by_cases e : k < n
    · rw [if_pos (by rw [places_len]; omega)]; exact places_val S U k n e
    · obtain rfl : k = n := by omega
      rw [if_neg (by rw [places_len]; omega), places_len]; simp

/-- A row of n places in block r. -/
structure PlAt (w : World) (r n : Nat) (S : Nat → Bool) (U : Nat → Int) : Prop where
  lt : r < w.heap.size
  is : ∀ k, k < n → w.cell? ⟨r, k * 2, none⟩ = some (.bool (S k))
  val : ∀ k, k < n → w.cell? ⟨r, k * 2 + 1, none⟩ = some (.int .i64 (U k))
theorem PlAt.kept {w w' : World} {r n : Nat} {S : Nat → Bool} {U : Nat → Int} (h : PlAt w r n S U) (hg : w.grownBy w' none) : PlAt w' r n S U :=
  ⟨Nat.lt_of_lt_of_le h.lt hg.size, fun k hk => (hg.cell_far ⟨r, k * 2, none⟩ h.lt (by simp)).trans (h.is k hk), fun k hk => (hg.cell_far ⟨r, k * 2 + 1, none⟩ h.lt (by simp)).trans (h.val k hk)⟩
theorem PlAt.only {w w' : World} {r n lo hi : Nat} {S : Nat → Bool} {U : Nat → Int} (h : PlAt w r n S U) (k : Only lo hi w w') (hr : r < lo ∨ hi ≤ r) : PlAt w' r n S U :=
  ⟨Nat.lt_of_lt_of_le h.lt k.size, fun q hq => (k.cell' r _ h.lt hr).trans (h.is q hq), fun q hq => (k.cell' r _ h.lt hr).trans (h.val q hq)⟩

theorem phas_in {w : World} {r cp n k : Nat} {S : Nat → Bool} {U : Nat → Int} (h : PlAt w r n S U) (hk : k < n) :
    Calls Tryd.prog 51 #[.slice (some ⟨r, 0, none⟩) n cp, .int .i64 k] w fun e w' => e = .returned (.bool (S k)) ∧ w = w' := by
  have hc := h.is k hk
  clear h
  go_enter Tryd.func51, Tryd.ntmps51
  go_wp2
  go_ret
  exact ⟨rfl, rfl⟩
theorem phas_no {w : World} {r cp n : Nat} (k : Int) (hk : k < 0 ∨ (n : Int) ≤ k) :
    Calls Tryd.prog 51 #[.slice (some ⟨r, 0, none⟩) n cp, .int .i64 k] w fun e w' => e = .returned (.bool false) ∧ w = w' := by
  rcases hk with hk | hk
  · go_enter Tryd.func51, Tryd.ntmps51
    go_wp2
    go_ret
    exact ⟨rfl, rfl⟩
  · have h0 : ¬ k < 0 := by omega
    go_enter Tryd.func51, Tryd.ntmps51
    go_wp2
    go_ret
    exact ⟨rfl, rfl⟩

set_option maxHeartbeats 1000000 in
theorem pfree {w : World} {r cp n : Nat} {S : Nat → Bool} {U : Nat → Int} (h : PlAt w r n S U) (hn : n ≤ 256) (p : Nat) (ok : Bool) (hp : (ok = true ∧ p < n ∧ S p = false ∧ ∀ q, q < p → S q = true) ∨ (ok = false ∧ p = 0 ∧ ∀ q, q < n → S q = true)) :
    Calls Tryd.prog 52 #[.slice (some ⟨r, 0, none⟩) n cp] w fun e w' => e = .returned (.tuple #[.int .i64 p, .bool ok]) ∧ w = w' := by
  have HC := Lib.hid h.is
  have HP := Lib.hid hp
  clear h hp
  go_enter Tryd.func52, Tryd.ntmps52
  go_wp2
  go_loop [4] (fun it => ∃ j : Nat, j ≤ n ∧ it = .int .i64 j ∧ (ok = true → j ≤ p)) (fun it => n - (intOf it).toNat)
  case atStart => exact ⟨0, Nat.zero_le _, rfl, fun _ => Nat.zero_le _⟩
  case round =>
    obtain ⟨j, hj, rfl, hjp⟩ := hrel
    by_cases hlt : j < n
    · have hc := HC.out j hlt
      cases hS : S j
      · have he : ok = true ∧ p = j := by
          rcases HP.out with ⟨a, b, c, d⟩ | ⟨a, b, c⟩
          · refine ⟨a, ?_⟩
            have h1 := hjp a
            by_cases e : j = p
            · exact e.symm
            · have := d j (by omega); rw [hS] at this; cases this
          · have := c j hlt; rw [hS] at this; cases this
        obtain ⟨rfl, rfl⟩ := he
        rw [hS] at hc
        clear HP HC
        go_wp2
        go_ret2
        exact ⟨rfl, rfl⟩
      · rw [hS] at hc
        go_wp2
        go_round
        case rel =>
          refine ⟨j + 1, by omega, by go_num, fun e => ?_⟩
          rcases HP.out with ⟨a, b, c, d⟩ | ⟨a, _⟩
          · have h1 := hjp a
            by_cases e2 : j = p
            · subst e2; rw [hS] at c; cases c
            · omega
          · rw [a] at e; cases e
        case measure => simp [intOf]; omega
    · have he : ok = false ∧ p = 0 := by
        rcases HP.out with ⟨a, b, _⟩ | ⟨a, b, _⟩
        · have := hjp a; omega
        · exact ⟨a, b⟩
      obtain ⟨rfl, rfl⟩ := he
      clear HP HC
      go_wp2
      go_ret2
      exact ⟨rfl, rfl⟩

set_option maxHeartbeats 1000000 in
theorem pheld {w : World} {r0 cp0 n : Nat} {S : Nat → Bool} {U : Nat → Int} (h : PlAt w r0 n S U) (hn : n ≤ 256) :
    Calls Tryd.prog 56 #[.slice (some ⟨r0, 0, none⟩) n cp0] w fun e w' => ∃ q cp', e = .returned (.slice (some ⟨q, 0, none⟩) (SI.mems S n).length cp') ∧ w.grownBy w' none ∧ RowOf w' w.heap.size q cp' (SI.mems S n) := by
  have HC := Lib.hid h
  clear h
  obtain ⟨i0, hi0, hz0, hz1, hz2⟩ := int_info
  have I0 := Lib.hid hi0
  have I1 := Lib.hid hz0
  have I2 := Lib.hid hz1
  have I3 := Lib.hid hz2
  clear hi0 hz0 hz1 hz2
  have hR0 := lit_room w w.heap.size (Nat.le_refl _)
  have k0 := World.grownBy_alloc w (.cells #[] 3) none
  obtain ⟨B, hB⟩ : ∃ B, w.heap.size = B := ⟨_, rfl⟩
  have HB := Lib.hid hB
  go_enter Tryd.func56, Tryd.ntmps56
  go_wp2
  go_loopw [3, 4] (fun sv it wr => ∃ j r cp : Nat, j ≤ n ∧ it = .int .i64 j ∧ sv = .slice (some ⟨r, 0, none⟩) (SI.mems S j).length cp ∧ RowOf wr B r cp (SI.mems S j) ∧ w.grownBy wr none) (fun _ it _ => n - (intOf it).toNat)
  case atStart => exact ⟨0, _, _, Nat.zero_le _, rfl, rfl, by rw [← hB]; exact hR0, k0⟩
  case round =>
    obtain ⟨j, r, cp, hj, rfl, rfl, hown, hG⟩ := hrel
    clear hR0 k0 hB
    have hBr : B ≤ wr.heap.size := by rw [← HB.out]; exact hG.size
    by_cases hlt : j < n
    · have hc : wr.cell? ⟨r0, j * 2, none⟩ = some (.bool (S j)) := (HC.out.kept hG).is j hlt
      have hle : (SI.mems S j).length ≤ j := by rw [SI.mems_len]; exact cnt_le S j
      cases hS : S j
      · have hm : SI.mems S (j + 1) = SI.mems S j := SI.mems_gap S j (j + 1) (by omega) (fun q h1 h2 => (show q = j by omega) ▸ hS)
        rw [hS] at hc
        go_wp2
        go_roundw
        case rel => exact ⟨j + 1, r, cp, by omega, by go_num, by rw [hm], by rw [hm]; exact hown, hG⟩
        case measure => simp [intOf]; omega
      · have hm := Lib.hid (SI.mems_succ S j hS)
        rw [hS] at hc
        have hrr := hown.lt
        unfold RowOf at hown
        generalize hM : SI.mems S j = M at *
        have k4 := World.grownBy_alloc wr (.cells #[.int .i64 (j : Int)] 3) none
        go_wp2_with (
        at_builtin
        refine wpList_append_own_at _ rfl _ _ 22 rfl B 3 i0 (.int .i64 0) 1 8 Tryd.underlying22 I0.out I1.out I2.out I3.out rfl (by decide) _ _ _ rfl (World.ownsRow.alloc hown _) ⟨wr.heap.size, 0, none⟩ 1 1 [.int .i64 (j : Int)] rfl rfl (cell_one_new _ _ _) (fun x hx => by simp at hx; subst hx; rfl) (by unfold maxLen; omega) (by omega) (by simp; omega) ?_
        intro v' w5 hown' hgrow3 hnil3 hat0
        have hgr : (wr.alloc (.cells #[.int .i64 (j : Int)] 3)).grownBy w5 (some r) := hgrow3
        have hnn : v' ≠ .slice none 0 0 := fun h => absurd (hnil3.1 h).2 (by decide)
        have k4 := World.grownBy_alloc wr (.cells #[.int .i64 (j : Int)] 3) none
        have hat1 : v'.ownBlock = some r ∨ v'.ownBlock = some (wr.alloc (.cells #[.int .i64 (j : Int)] 3)).heap.size := hat0
        clear hgrow3 hnil3 hat0
        have hG5 : w.grownBy w5 none := grow_on (grow_to hG k4) hgr (by rw [HB.out]; omega)
        obtain ⟨r', cp', rfl, hown5⟩ := row_of_owns hown' (F := M ++ [j]) (by simp) (by rw [ints_snoc]) hnn
        clear hgr hown' hnn k4 hG hBr hown
        )
        go_roundw
        case rel => exact ⟨j + 1, r', cp', by omega, by go_num, by rw [hm.out]; simp, by rw [hm.out]; exact hown5, hG5⟩
        case measure => simp [intOf]; omega
    · obtain rfl : j = n := by omega
      go_wp2
      go_ret
      exact ⟨r, cp, rfl, hG, by rw [HB.out]; exact hown⟩

theorem pl_of_owns {w : World} {B n : Nat} {v : Value} {S : Nat → Bool} {U : Nat → Int} (h : w.ownsRow B 114 2 v (0 + n) ([] ++ places S U n)) (hv : v ≠ .slice none 0 0) :
    ∃ r cp, v = .slice (some ⟨r, 0, none⟩) n cp ∧ B ≤ r ∧ PlAt w r n S U ∧ ∀ j, w.frozen? ⟨r, j, none⟩ = false := by
  rw [Nat.zero_add, List.nil_append] at h
  rcases h.2 with ⟨h0, _⟩ | ⟨r, cp, cur, hv', hB, _⟩
  · exact absurd h0 hv
  · subst hv'
    exact ⟨r, cp, rfl, hB, ⟨(World.ownsRow.lt h r rfl).2, fun k hk => by rw [World.ownsRow.cellAt h (k * 2) (by omega)]; exact places_is S U k n hk, fun k hk => by rw [World.ownsRow.cellAt h (k * 2 + 1) (by omega)]; exact places_val S U k n hk⟩, fun j => World.ownsRow.frozenAt h j⟩

def updV (U : Nat → Int) (k : Nat) (u : Int) : Nat → Int := fun i => if i = k then u else U i
def updS (S : Nat → Bool) (k : Nat) (b : Bool) : Nat → Bool := fun i => if i = k then b else S i

set_option maxHeartbeats 1000000 in
theorem pwith {w : World} {r cp n k : Nat} {S : Nat → Bool} {U : Nat → Int} (is : Bool) (u : Int) (h : PlAt w r n S U) (hn : n ≤ 256) (hk : k < n) :
    Calls Tryd.prog 53 #[.slice (some ⟨r, 0, none⟩) n cp, .int .i64 k, .agg #[.bool is, .int .i64 u]] w fun e w' => ∃ r' cp', e = .returned (.slice (some ⟨r', 0, none⟩) n cp') ∧ w.heap.size ≤ r' ∧ w.grownBy w' none ∧ PlAt w' r' n (updS S k is) (updV U k u) := by
  obtain ⟨i0, hi, hz0, hz1, hz2⟩ : ∃ i : TypeInfo, Tryd.prog.info? 114 = some i ∧ i.zero = some (.agg #[.bool false, .int .i64 0]) ∧ i.size = 2 ∧ i.bytes = 16 := ⟨_, rfl, rfl, rfl, rfl⟩
  have I0 := Lib.hid hi
  have I1 := Lib.hid hz0
  have I2 := Lib.hid hz1
  have I3 := Lib.hid hz2
  have k1 := World.grownBy_alloc w (.cells #[.bool is, .int .i64 u] 114) none
  have k0 := k1.trans (World.grownBy_alloc (w.alloc (.cells #[.bool is, .int .i64 u] 114)) (.cells #[] 114) none)
  have f0 := heap_alloc_new w (.cells #[.bool is, .int .i64 u] 114)
  have h0r : ((w.alloc (.cells #[.bool is, .int .i64 u] 114)).alloc (.cells #[] 114)).ownsRow (w.heap.size + 1) 114 2 (.slice (some ⟨w.heap.size + 1, 0, none⟩) 0 0) 0 [] := by
    have := World.ownsRow_made (w.alloc (.cells #[.bool is, .int .i64 u] 114)) (e := 114) (size := 2) #[] 0 (Nat.le_refl _) (by decide) rfl
    rwa [World.size_alloc] at this
  have HP := Lib.hid (h.kept k0)
  have HNEW : Hid (∀ j u', (places S U n)[j]? = some u' → ((w.alloc (.cells #[.bool is, .int .i64 u] 114)).alloc (.cells #[] 114)).cell? ((⟨r, 0, none⟩ : Addr).add j) = some u') := Lib.hid fun j u' hu => by
    have hj : j < n * 2 := by rw [← places_len S U n]; exact (List.getElem?_eq_some_iff.1 hu).1
    rw [← hu, show (⟨r, 0, none⟩ : Addr).add j = ⟨r, j, none⟩ by unfold Addr.add; split <;> simp_all]
    rcases Nat.mod_two_eq_zero_or_one j with e | e
    · obtain ⟨q, rfl⟩ : ∃ q, j = q * 2 := ⟨j / 2, by omega⟩
      rw [HP.out.is q (by omega), places_is S U q n (by omega)]
    · obtain ⟨q, rfl⟩ : ∃ q, j = q * 2 + 1 := ⟨j / 2, by omega⟩
      rw [HP.out.val q (by omega), places_val S U q n (by omega)]
  have b0 : ((w.alloc (.cells #[.bool is, .int .i64 u] 114)).alloc (.cells #[] 114)).cell? ⟨w.heap.size, 0, none⟩ = some (.bool is) := by
    simp
  have b1 : ((w.alloc (.cells #[.bool is, .int .i64 u] 114)).alloc (.cells #[] 114)).cell? ⟨w.heap.size, 1, none⟩ = some (.int .i64 u) := by
    simp
  have HONE : Hid (∀ u' ∈ places S U n, u'.oneCell' = true) := Lib.hid fun u' hu => by
    simp only [places, List.mem_flatMap] at hu
    obtain ⟨i, _, hu⟩ := hu
    simp at hu
    rcases hu with rfl | rfl <;> rfl
  have HL := Lib.hid (places_len S U n)
  clear hi hz0 hz1 hz2 h
  go_enter Tryd.func53, Tryd.ntmps53
  go_wp2_with (at_builtin; refine wpList_append_own _ rfl _ _ 34 rfl (w.heap.size + 1) 114 i0 (.agg #[.bool false, .int .i64 0]) 2 16 Tryd.underlying34 I0.out I1.out I2.out I3.out rfl (by decide) _ _ _ rfl h0r ⟨r, 0, none⟩ n cp (places S U n) rfl HL.out HNEW.out HONE.out (by unfold maxLen; omega) (by omega) (by simp) ?_; intro v' w5 hown' hgrow hnil; have hgr : ((w.alloc (.cells #[.bool is, .int .i64 u] 114)).alloc (.cells #[] 114)).grownBy w5 (some (w.heap.size + 1)) := hgrow; obtain ⟨r', cp', rfl, hr', h5, hfz⟩ := pl_of_owns hown' (fun h => absurd (hnil.1 h).1 (by intro e; cases e)); clear hown' hgrow hnil; have hc5 := h5.is k hk; have hc6 := h5.val k hk; have hf5 := hfz (k * 2); have hf6 := hfz (k * 2 + 1); have hr5 := h5.lt; have b05 := (hgr.cell_far ⟨w.heap.size, 0, none⟩ (by simp; omega) (by simp)).trans b0; have b15 := (hgr.cell_far ⟨w.heap.size, 1, none⟩ (by simp; omega) (by simp)).trans b1; have HG5 := Lib.hid (grow_on k0 hgr (by omega)); have HH5 := Lib.hid h5; clear h5 hgr hfz)
  go_ret
  refine ⟨r', cp', rfl, by omega, grow_on (grow_on HG5.out (grow_set ⟨rfl, rfl, rfl, Nat.le_refl _, fun _ _ _ => rfl⟩ _) (by omega)) (grow_set ⟨rfl, rfl, rfl, Nat.le_refl _, fun _ _ _ => rfl⟩ _) (by omega), ?_⟩
  have c2 : (w5.setCell ⟨r', k * 2, none⟩ (.bool is)).cell? ⟨r', k * 2 + 1, none⟩ = some (.int .i64 (U k)) := (World.cell?_setCell_other _ _ _ _ (by intro e; injection e with e1 e2; omega)).trans hc6
  refine ⟨by rw [size_set, size_set]; exact hr5, fun q hq => ?_, fun q hq => ?_⟩
  · rw [World.cell?_setCell_other _ _ _ _ (by intro e; injection e with e1 e2; omega)]
    by_cases e : q = k
    · subst e
      rw [World.cell?_setCell_same _ _ _ hc5]; simp [updS]
    · rw [World.cell?_setCell_other _ _ _ _ (by intro e; injection e with e1 e2; omega), HH5.out.is q hq]; simp [updS, e]
  · by_cases e : q = k
    · subst e
      rw [World.cell?_setCell_same _ _ _ c2]; simp [updV]
    · rw [World.cell?_setCell_other _ _ _ _ (by intro e; injection e with e1 e2; omega), World.cell?_setCell_other _ _ _ _ (by intro e; injection e with e1 e2; omega), HH5.out.val q hq]; simp [updV, e]

end Go.Proofs.YtchookgdajkipaaDoor
