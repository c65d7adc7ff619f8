/-
  A queue as an object: All, Pop, New; rows of things of two ints.
-/
import Derived.Test.YtmmpnfkfieikcaaQueue3
import Derived.Test.YtmmpnfkfieikcaaAppSrc
import Derived.Test.YtmmpnfkfieikcaaPlain
namespace Go.Proofs.Ytmmpnfkfieikcaa
open Go.RowKit Go.Lib
set_option maxRecDepth 100000
set_option linter.unusedVariables false

/-- Pairs as the cells of a row. -/
def cellsP (F : List (Int × Int)) : List Value := F.flatMap fun v => [Value.int .i64 v.1, Value.int .i64 v.2]
theorem cellsP_add (F G : List (Int × Int)) : cellsP F ++ cellsP G = cellsP (F ++ G) := by simp [cellsP]
theorem cellsP_len (F : List (Int × Int)) : (cellsP F).length = F.length * 2 := by
  induction F with
  | nil => rfl
  | cons a l ih => simp only [cellsP, List.flatMap_cons, List.length_append, List.length_cons, List.length_nil] at *; omega
theorem cellsP_one (F : List (Int × Int)) : ∀ u ∈ cellsP F, u.oneCell' = true := by
  intro u hu
  simp only [cellsP, List.mem_flatMap] at hu
  obtain ⟨v, _, hv⟩ := hu
  simp at hv
  rcases hv with rfl | rfl <;> rfl
theorem cellsP_at : ∀ (F : List (Int × Int)) (k : Nat) (v : Int × Int), F[k]? = some v → (cellsP F)[k * 2]? = some (.int .i64 v.1) ∧ (cellsP F)[k * 2 + 1]? = some (.int .i64 v.2)
  | [], _, _, h => by simp at h
  | a :: l, 0, v, h => by simp at h; subst h; exact ⟨rfl, rfl⟩
  | a :: l, k + 1, v, h => by
    have ih := cellsP_at l k v (by simpa using h)
    have e1 : (k + 1) * 2 = k * 2 + 1 + 1 := by omega
    have e2 : (k + 1) * 2 + 1 = k * 2 + 1 + 1 + 1 := by omega
    rw [e1]
    exact ih
theorem thing_info : ∃ i : TypeInfo, Try.prog.info? 24 = some i ∧ i.zero = some (.agg #[.int .i64 0, .int .i64 0]) ∧ i.size = 2 ∧ i.bytes = 16 := ⟨_, rfl, rfl, rfl, rfl⟩
theorem make_things (a c : Nat) (hac : a ≤ c) (hc : c ≤ 1000000) (w : World) :
    (Instr.makeSlice 43 (.int .i64 (a : Int)) (.int .i64 (c : Int))).run Try.prog w =
      .ok (.slice (some ⟨w.heap.size, 0, none⟩) a c) (w.alloc (.cells (madeCells #[.int .i64 0, .int .i64 0] (c * 2)) 24)) := by
  obtain ⟨i, hi, hz, hs, hb⟩ := thing_info
  have h := run_make (P := Try.prog) w 43 24 i _ Try.underlying43 hi hz .i64 .i64 (a : Int) (c : Int) (by omega) (by omega) (by rw [hb]; omega) (by omega)
  rw [hs, Int.toNat_natCast, Int.toNat_natCast] at h
  exact h
section
variable {w w' : World}
theorem own_blkP {B n size : Nat} {e : TypeId} {v : Value} {xs : List Value} (h : w.ownsRow B e size v n xs) (k : ∀ g, v.ownBlock = some g → w'.heap[g]? = w.heap[g]?) : w'.ownsRow B e size v n xs := by
  obtain ⟨h1, h2⟩ := h
  refine ⟨h1, ?_⟩
  rcases h2 with h2 | ⟨g, cap, cur, hv, hb, hg, hr⟩
  · exact Or.inl h2
  · refine Or.inr ⟨g, cap, cur, hv, hb, ?_, hr⟩
    rw [← hg]
    exact k g (by rw [hv]; rfl)
theorem own_keepP {B n size : Nat} {e : TypeId} {v : Value} {xs : List Value} (h : w.ownsRow B e size v n xs) (k : w.grownBy w' none) : w'.ownsRow B e size v n xs :=
  own_blkP h fun g hg => k.block g (h.lt g hg).2 (by simp)
theorem own_onlyP {B n size lo hi : Nat} {e : TypeId} {v : Value} {xs : List Value} (h : w.ownsRow B e size v n xs) (k : Only lo hi w w') (hB : hi ≤ B) : w'.ownsRow B e size v n xs :=
  own_blkP h fun g hg => k.block g (h.lt g hg).2 (Or.inr (Nat.le_trans hB (h.lt g hg).1))
theorem own_formP {B n size : Nat} {e : TypeId} {v : Value} {xs : List Value} (h : w.ownsRow B e size v n xs) : ∃ sa cap, v = .slice sa n cap ∧ (v.ownBlock = none → n = 0) ∧ ∀ g, v.ownBlock = some g → sa = some ⟨g, 0, none⟩ := by
  rcases h.2 with ⟨h0, hn⟩ | ⟨g, cap, cur, hv, _⟩
  · exact ⟨none, 0, by rw [h0, hn], fun _ => hn, fun g hg => by rw [h0] at hg; cases hg⟩
  · refine ⟨some ⟨g, 0, none⟩, cap, hv, (fun e => by rw [hv] at e; cases e), fun g' hg => ?_⟩
    rw [hv] at hg
    have hg : some g = some g' := hg
    injection hg with hg
    rw [hg]
theorem own_cellP {B n size : Nat} {e : TypeId} {v : Value} {xs : List Value} (h : w.ownsRow B e size v n xs) {j : Nat} {u : Value} (hu : xs[j]? = some u) {g : Nat} (hg : v.ownBlock = some g) : w.cell? ⟨g, j, none⟩ = some u := by
  have := h.cells hg j u hu
  by_cases hj : j = 0
  · subst hj; simpa [Addr.add] using this
  · simpa [Addr.add, hj] using this
theorem src_P (w : World) (a b : Int) (T : TypeId) : SrcAt (w.alloc (.cells #[.int .i64 a, .int .i64 b] T)) 2 (.slice (some ⟨w.heap.size, 0, none⟩) 1 1) 1 (cellsP [(a, b)]) := by
  refine Or.inl ⟨_, 1, rfl, rfl, fun j x hx => ?_, cellsP_one _⟩
  match j with
  | 0 =>
    simp [cellsP] at hx
    subst hx
    exact World.cell?_alloc_at _ T _ 0 rfl
  | 1 =>
    simp [cellsP] at hx
    subst hx
    exact World.cell?_alloc_at _ T _ 1 rfl
  | j + 2 => simp [cellsP] at hx
end

/-- The things of the numbers. -/
def thQ (T : Nat) (Q : List Nat) : List (Int × Int) := Q.map fun k => (thK T k, thI T k)
theorem thQ_len (T : Nat) (Q : List Nat) : (thQ T Q).length = Q.length := by simp [thQ]

section
variable {w w' : World} {lo hi qb lb T D d : Nat} {M : Int} {Q : List Nat}
set_option maxHeartbeats 8000000 in
theorem qu_all (H : Qu w lo hi qb T D M Q) :
    Calls Try.prog 18 #[.pointer (some ⟨qb, 0, none⟩)] w fun e w' => (∃ v, e = .returned v ∧ w'.ownsRow w.heap.size 24 2 v Q.length (cellsP (thQ T Q))) ∧ w.grownBy w' none := by
  have CL := Lib.hid (qu_len H)
  have hfew := H.few
  have htb := H.tb
  have HB := Lib.hid H.bound
  have kA := World.grownBy_alloc w (.cells (madeCells #[.int .i64 0, .int .i64 0] (Q.length * 2)) 24) none
  have HA := H.kept kA
  have CT : Hid (∀ v k, w.grownBy v none → k < T + D → Calls Try.prog 28 #[.pointer (some ⟨qb, 0, none⟩), .int .i64 (k : Nat)] v fun e w' => e = .returned (.agg #[.int .i64 (thK T k), .int .i64 (thI T k)]) ∧ v.grownBy w' none) := Lib.hid fun v k kv hk => by
    obtain ⟨lb, H, h1, h2, h3⟩ := H.kept kv
    exact qthing_any H k hk
  obtain ⟨lb, HM, h1, h2, h3⟩ := HA
  have CA : Hid (Calls Try.prog 31 #[.pointer (some ⟨lb + 4, 0, none⟩), .int .i64 0] (w.alloc (.cells (madeCells #[.int .i64 0, .int .i64 0] (Q.length * 2)) 24)) _) := Lib.hid (all_in 0 HM.ln (by omega))
  have c0 := HM.c0
  have hmk : ∀ W : World, (Instr.makeSlice 43 (.int .i64 0) (.int .i64 (Q.length : Nat))).run Try.prog W = _ := fun W => make_things 0 Q.length (by omega) (by omega) W
  have hR0 := Lib.hid (World.ownsRow_made (base := w.heap.size) (e := 24) (size := 2) w (madeCells #[.int .i64 0, .int .i64 0] (Q.length * 2)) Q.length (Nat.le_refl _) (by unfold maxLen; omega) (by simp [madeCells]))
  have KA := Lib.hid kA
  obtain ⟨i0, hi0, hz0, hz1, hz2⟩ := thing_info
  have I0 := Lib.hid hi0
  have I1 := Lib.hid hz0
  have I2 := Lib.hid hz1
  have I3 := Lib.hid hz2
  clear H HM kA hi0 hz0 hz1 hz2
  go_enter Try.func18, Try.ntmps18
  go_wp2_with fail
  refine CL.out.mono ?_
  rintro e w1 ⟨rfl, rfl⟩
  go_wp2_with fail
  refine CA.out.mono ?_
  rintro e w2 ⟨r, cp, rfl, k2, hrow⟩
  have hbz : w.heap.size ≤ (w.alloc (.cells (madeCells #[.int .i64 0, .int .i64 0] (Q.length * 2)) 24)).heap.size := KA.out.size
  have R1 : Hid (w2.ownsRow w.heap.size 24 2 (.slice (some ⟨w.heap.size, 0, none⟩) 0 Q.length) ([] : List Nat).length (cellsP (thQ T []))) := Lib.hid (own_keepP (by simpa [cellsP, thQ] using hR0.out) k2)
  have HG : Hid (w.grownBy w2 none) := Lib.hid (KA.out.trans k2)
  have HROW : Hid (RowOf w2 (w.heap.size + 1) r cp Q) := Lib.hid (hrow.mono (by rw [World.size_alloc]; omega))
  have hsz : (w.alloc (.cells (madeCells #[.int .i64 0, .int .i64 0] (Q.length * 2)) 24)).heap.size = w.heap.size + 1 := by rw [World.size_alloc]
  clear hrow k2 hR0 CL hbz CA c0
  have HBB : Hid (w.heap.size + 1 ≤ r) := Lib.hid (by have := HROW.out.lt.1; omega)
  clear hsz
  generalize hX : w.heap.size = X at *
  go_wp2_with fail
  go_loopw [3, 15] (fun va it wr => ∃ j : Nat, j ≤ Q.length ∧ it = .int .i64 j ∧ Hid (wr.ownsRow X 24 2 va j (cellsP (thQ T (Q.take j)))) ∧ Hid (va.ownBlock ≠ some r) ∧ Hid (w.grownBy wr none) ∧ Hid (RowOf wr (X + 1) r cp Q)) (fun _ it _ => Q.length - (intOf it).toNat)
  case atStart => exact ⟨0, Nat.zero_le _, rfl, R1, Lib.hid (by intro e; have e : some X = some r := e; have := HBB.out; injection e with e; omega), HG, HROW⟩
  case round =>
    obtain ⟨j, hj, rfl, HO, HN, HGr, H2r⟩ := hrel
    by_cases hlt : j < Q.length
    · have qj : (j : Int) < (Q.length : Int) := by omega
      have hc : wr.cell? ⟨r, j, none⟩ = some (.int .i64 (Q[j] : Nat)) := H2r.out.cell j hlt
      obtain ⟨k, hk⟩ : ∃ k, Q[j] = k := ⟨_, rfl⟩
      rw [hk] at hc
      have hkb : k < T + D := HB.out k (hk ▸ List.getElem_mem hlt)
      have htk : Hid (Q.take (j + 1) = Q.take j ++ [k]) := Lib.hid (by rw [List.take_succ_eq_append_getElem hlt, hk])
      clear hk
      go_wp2_with fail
      refine (CT.out wr k HGr.out hkb).mono ?_
      rintro e w5 ⟨rfl, k5⟩
      have ka := World.grownBy_alloc w5 (.cells #[.int .i64 (thK T k), .int .i64 (thI T k)] 24) none
      have O5 := Lib.hid (own_keepP (own_keepP HO.out k5) ka)
      have G5 : Hid (w.grownBy (w5.alloc (.cells #[.int .i64 (thK T k), .int .i64 (thI T k)] 24)) none) := Lib.hid ((HGr.out.trans k5).trans ka)
      have H5 : Hid (RowOf (w5.alloc (.cells #[.int .i64 (thK T k), .int .i64 (thI T k)] 24)) (X + 1) r cp Q) := Lib.hid ((H2r.out.kept k5 (by simp)).kept ka (by simp))
      have SR := Lib.hid (src_P w5 (thK T k) (thI T k) 24)
      clear k5 ka HO HGr H2r hc
      obtain ⟨sa, ca, rfl, _, _⟩ := own_formP O5.out
      have hbz : Hid (X ≤ (w5.alloc (.cells #[.int .i64 (thK T k), .int .i64 (thI T k)] 24)).heap.size) := Lib.hid (hX ▸ G5.out.size)
      go_wp2_with (
        at_builtin
        refine wpList_append_src _ rfl _ _ 43 rfl X 24 i0 (.agg #[.int .i64 0, .int .i64 0]) 2 16 Try.underlying43 I0.out I1.out I2.out I3.out rfl (by decide) _ _ _ rfl O5.out _ 1 _ rfl SR.out (by unfold maxLen; omega) (by omega) hbz.out ?_
        intro vi' w6 hown' hgrow hnil hat
        rw [cellsP_add] at hown'
        have e6 : thQ T (Q.take j) ++ [(thK T k, thI T k)] = thQ T (Q.take (j + 1)) := by rw [htk.out]; simp [thQ]
        rw [e6] at hown'
        have O6 := Lib.hid hown'
        have G6 : Hid (w.grownBy w6 none) := Lib.hid ⟨hgrow.os.trans G5.out.os, hgrow.tape.trans G5.out.tape, hgrow.output.trans G5.out.output, Nat.le_trans G5.out.size hgrow.size, fun g hg _ => (hgrow.block g (Nat.lt_of_lt_of_le hg G5.out.size) (fun e => by have := (O5.out.lt g e.symm).1; omega)).trans (G5.out.block g hg (by simp))⟩
        have H6 : Hid (RowOf w6 (X + 1) r cp Q) := Lib.hid (H5.out.kept hgrow (fun e => HN.out e.symm))
        have N6 : Hid (vi'.ownBlock ≠ some r) := Lib.hid (by
          rcases hat with e | e
          · rw [e]; exact HN.out
          · rw [e]; intro e; have := H5.out.lt.2; injection e with e; omega)
        clear hown' hgrow hnil hat O5 G5 H5 SR hbz e6 HN)
      go_roundw
      case rel => exact ⟨j + 1, hlt, by go_num, O6, N6, G6, H6⟩
      case measure => simp [intOf]; omega
    · obtain rfl : j = Q.length := by omega
      obtain ⟨sa, ca, rfl, _, _⟩ := own_formP HO.out
      go_wp2
      go_ret
      refine ⟨⟨_, rfl, ?_⟩, HGr.out⟩
      rw [List.take_length] at HO
      rw [hX]
      exact HO.out
end
end Go.Proofs.Ytmmpnfkfieikcaa
