/-
  A contract of nightjarref05, over this seat's translation: Live.
-/
import Derived.Test.YtbkjdbimkofceaaDoorRef5g
import Derived.StillTailTactics
import Derived.Deep.AppendLies
import Derived.Deep.RegionLaw
namespace Go.Proofs.YtbkjdbimkofceaaDoor
open Go.RowKit Go.Lib
set_option maxRecDepth 100000

theorem liveL_succ (T : Nat → Pl) (n : Nat) : liveL T (n + 1) = liveL T n ++ (if (T n).out then [hbits n (T n).gen (T n).r] else []) := by
  unfold liveL
  rw [List.range_succ, List.filter_append, List.map_append]
  congr 1
  cases h : (T n).out <;> simp [h, hOf]
theorem liveL_le (T : Nat → Pl) (n : Nat) : (liveL T n).length ≤ n := by
  unfold liveL
  rw [List.length_map]
  have := List.length_filter_le (fun j => (T j).out) (List.range n)
  rwa [List.length_range] at this
theorem urow5 {w : World} {B : Nat} {v : Value} {F : List Nat} {k : Nat} {xs : List Value} (h : w.ownsRow B 23 1 v k xs) (hk : k = F.length) (hx : xs = wcells F) (hv : v ≠ .slice none 0 0) : ∃ r cp, v = .slice (some ⟨r, 0, none⟩) F.length cp ∧ w.ownsRow B 23 1 (.slice (some ⟨r, 0, none⟩) F.length cp) F.length (wcells F) := by
  subst hk
  subst hx
  rcases h.2 with ⟨h0, _⟩ | ⟨r, cp, cur, hv', _⟩
  · exact absurd h0 hv
  · subst hv'
    exact ⟨r, cp, rfl, h⟩
theorem u64_info5 : ∃ i : TypeInfo, Tryd.prog.info? 23 = some i ∧ i.zero = some (.int .u64 0) ∧ i.size = 1 ∧ i.bytes = 8 := ⟨_, rfl, rfl, rfl, rfl⟩

section
variable {w : World} {r n cp G : Nat} {T : Nat → Pl}
set_option maxHeartbeats 4000000 in
theorem rlive5 (H : PlAt5 w r n T) (hn : n ≤ 15) (ok : ∀ j, j < n → (T j).ok G) (hG : G ≤ 16777215) :
    Calls Tryd.prog 33 #[.agg #[.slice (some ⟨r, 0, none⟩) n cp, .int .i64 (G : Nat)]] w fun e w' => ∃ v, e = .returned v ∧ w.grownBy w' none ∧ Hid (UReads w' v (liveL T n)) := by
  obtain ⟨i0, a0, a1, a2, a3⟩ := u64_info5
  have I0 := Lib.hid a0
  have I1 := Lib.hid a1
  have I2 := Lib.hid a2
  have I3 := Lib.hid a3
  clear a0 a1 a2 a3
  have ka := World.grownBy_alloc w (.cells #[.slice (some ⟨r, 0, none⟩) n cp, .int .i64 (G : Nat)] 29) none
  have kb := World.grownBy_alloc (w.alloc (.cells #[.slice (some ⟨r, 0, none⟩) n cp, .int .i64 (G : Nat)] 29)) (.cells #[] 23) none
  have o0 : (w.alloc (.cells #[.slice (some ⟨r, 0, none⟩) n cp, .int .i64 (G : Nat)] 29)).cell? ⟨w.heap.size, 0, none⟩ = some (.slice (some ⟨r, 0, none⟩) n cp) := by simp
  have row0 : ((w.alloc (.cells #[.slice (some ⟨r, 0, none⟩) n cp, .int .i64 (G : Nat)] 29)).alloc (.cells #[] 23)).ownsRow (w.heap.size + 1) 23 1 (.slice (some ⟨w.heap.size + 1, 0, none⟩) 0 0) 0 [] := by
    have := World.ownsRow_made (e := 23) (size := 1) (w.alloc (.cells #[.slice (some ⟨r, 0, none⟩) n cp, .int .i64 (G : Nat)] 29)) #[] 0 (Nat.le_refl _) (by decide) rfl
    rwa [World.size_alloc] at this
  have hob : (w.alloc (.cells #[.slice (some ⟨r, 0, none⟩) n cp, .int .i64 (G : Nat)] 29)).heap.size = w.heap.size + 1 := by simp
  have HP := Lib.hid (H.kept ka)
  have KA := Lib.hid ka
  have KB := Lib.hid kb
  have HO := Lib.hid ok
  have R0 := Lib.hid row0
  have hrl := H.lt
  clear ka kb H ok row0
  go_enter Tryd.func33, Tryd.ntmps33
  go_wp2_with fail
  generalize hw2 : (w.alloc (.cells #[.slice (some ⟨r, 0, none⟩) n cp, .int .i64 (G : Nat)] 29)).alloc (.cells #[] 23) = w2 at *
  clear hw2
  generalize w.alloc (.cells #[.slice (some ⟨r, 0, none⟩) n cp, .int .i64 (G : Nat)] 29) = w1 at *
  have HOB := Lib.hid hob
  clear hob
  go_loopw [3, 4] (fun lv it wr => ∃ j b c : Nat, j ≤ n ∧ it = .int .i64 j ∧ lv = .slice (some ⟨b, 0, none⟩) (liveL T j).length c ∧ Hid (wr.ownsRow (w.heap.size + 1) 23 1 (.slice (some ⟨b, 0, none⟩) (liveL T j).length c) (liveL T j).length (wcells (liveL T j))) ∧ w1.grownBy wr none) (fun _ it _ => n - (intOf it).toNat)
  case atStart => exact ⟨0, _, _, Nat.zero_le _, rfl, rfl, R0, KB.out⟩
  case round =>
    obtain ⟨j, b, c, hj, rfl, rfl, row, hgr⟩ := hrel
    have hsz := HOB.out
    have s0 := (hgr.cell_far ⟨w.heap.size, 0, none⟩ (show w.heap.size < _ by omega) (by simp)).trans o0
    clear R0
    by_cases hlt : j < n
    · have qj : (j : Int) < (n : Int) := by omega
      have qj0 : ¬ (j : Int) < 0 := by omega
      have P1 := (HP.out.kept hgr).pl j hlt
      have c1 := P1.2.1
      obtain ⟨b1, b2, b3⟩ := HO.out j hlt
      have hls := liveL_succ T j
      have hll := liveL_le T j
      have HLS := Lib.hid hls
      have HP1 := Lib.hid P1
      clear hls P1 b2
      generalize hTo : (T j).out = o at *
      cases o
      · have hl2 : liveL T (j + 1) = liveL T j := by rw [HLS.out]; simp
        have HL2 := Lib.hid hl2
        clear hl2 HLS hTo hsz
        go_wp2
        go_roundw
        case rel => exact ⟨j + 1, b, c, by omega, by go_num, by rw [HL2.out], by rw [HL2.out]; exact row, hgr⟩
        case measure => simp [intOf]; omega
      · have hl2 : liveL T (j + 1) = liveL T j ++ [hbits j (T j).gen (T j).r] := by rw [HLS.out]; simp
        have HL2 := Lib.hid hl2
        have CB := Lib.hid fun v => rbits5 j (T j).gen (T j).r v (by omega) (by omega) b3
        have rl := World.ownsRow.lt row.out b rfl
        clear hl2 HLS hTo
        go_upto_region 6 with fail
        have kd : wr.grownBy wr.drew none := ⟨rfl, rfl, rfl, Nat.le_refl _, fun _ _ _ => rfl⟩
        have hgr2 := hgr.trans kd
        have row2 : wr.drew.ownsRow (w.heap.size + 1) 23 1 (.slice (some ⟨b, 0, none⟩) (liveL T j).length c) (liveL T j).length (wcells (liveL T j)) := World.ownsRow.drew row.out
        have d0 : wr.drew.cell? ⟨w.heap.size, 0, none⟩ = some (.slice (some ⟨r, 0, none⟩) n cp) := s0
        have d1 : wr.drew.cell? ⟨r, j * 5, none⟩ = some (.int .i64 ((T j).gen : Nat)) := HP1.out.1
        have d2 : wr.drew.cell? ⟨r, j * 5 + 2 + 2, none⟩ = some (.int .i64 ((T j).r : Nat)) := HP1.out.2.2.2.2
        have rl2 : b < wr.drew.heap.size := rl.2
        clear kd s0 c1 row HP1
        generalize hbits j (T j).gen (T j).r = hb at *
        go_region_law (first
          | (refine step_append_lies _ rfl (.tmp 19) (.tmp 35) 31 rfl (w.heap.size + 1) 23 i0 (.int .u64 0) 1 8 Tryd.underlying31 I0.out I1.out I2.out I3.out rfl (by decide) _ _ _ rfl (World.ownsRow.alloc row2 _) ⟨wr.drew.heap.size, 0, none⟩ 1 1 [.int .u64 (hb : Int)] rfl rfl (cell_one_new _ _ _) (fun x hx => by simp at hx; subst hx; rfl) (by decide) (by unfold maxLen; omega) (by omega) (by simp; omega) _ rfl ?_
             intro r' cp' w6 row6 hgrow3 hat0 hlt6
             have hgr6 : (wr.drew.alloc (.cells #[.int .u64 (hb : Int)] 23)).grownBy w6 (some b) := hgrow3
             have k4 := World.grownBy_alloc wr.drew (.cells #[.int .u64 (hb : Int)] 23) none
             have K6 := Lib.hid (grow_on (grow_to hgr2 k4) hgr6 (by omega))
             have R6 : Hid (w6.ownsRow (w.heap.size + 1) 23 1 (.slice (some ⟨r', 0, none⟩) (liveL T j ++ [hb]).length cp') (liveL T j ++ [hb]).length (wcells (liveL T j ++ [hb]))) := Lib.hid (by rw [← wcells_snoc, List.length_append]; exact row6)
             clear hgrow3 hat0 hgr6 k4 row6)
          | (go_simp; go_at_call 29; refine (CB.out _).mono ?_; rintro e w' ⟨rfl, rfl⟩))
        all_goals go_wp2
        all_goals exact ⟨⟨j + 1, r', cp', by omega, by go_num, by rw [HL2.out]; simp, by rw [HL2.out]; exact R6, K6.out⟩, by simp [intOf]; omega⟩
    · have hje : j = n := by omega
      subst hje
      go_wp2
      go_ret
      exact ⟨_, rfl, KA.out.trans hgr, Lib.hid (ureads_of row.out)⟩
end
end Go.Proofs.YtbkjdbimkofceaaDoor
