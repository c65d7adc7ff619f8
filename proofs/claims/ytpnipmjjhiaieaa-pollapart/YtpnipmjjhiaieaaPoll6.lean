/-
  A poll's call Settle.
-/
import Derived.Test.YtpnipmjjhiaieaaPoll5
namespace Go.Proofs.Ytpnipmjjhiaieaa
open Go.RowKit Go.Lib BN
set_option maxRecDepth 100000
set_option linter.unusedVariables false
/-- All notes are met, in order. -/
def meetN (G : Nat → Gt) : List (Int × Int) → Nat → Gt
  | [] => G
  | v :: r => meetN (updG G v.1.toNat (gMeet (G v.1.toNat) v.2)) r
/-- The first k devices are flushed. -/
def flushN (G : Nat → Gt) (k : Nat) : Nat → Gt := fun i => if i < k then gFlush (G i) else G i
theorem flushN_succ (G : Nat → Gt) (k : Nat) : updG (flushN G k) k (gFlush (flushN G k k)) = flushN G (k + 1) := by
  funext i
  unfold updG flushN
  by_cases h : i = k
  · subst h; rw [if_pos rfl, if_neg (Nat.lt_irrefl _), if_pos (Nat.lt_succ_self _)]
  · rw [if_neg h]
    by_cases h2 : i < k
    · rw [if_pos h2, if_pos (by omega)]
    · rw [if_neg h2, if_neg (by omega)]
def chLen (w : World) (c : Nat) : Nat := match w.heap[c]? with
  | some (.chan _ b _ _ _ _) => b.size
  | _ => 0
theorem chLen_bx {w : World} {bb c cap : Nat} {L : List (Nat × (Int × Int))} (H : Bx w bb c cap L) : chLen w c = L.length := by
  obtain ⟨s, r, h⟩ := H.ch
  unfold chLen
  rw [h]
  simp
def okN (v : Value) : Nat := match v with
  | .bool true => 1
  | _ => 0
/-- A note in a box of the call's own. -/
def NoteAt (w : World) (z : Nat) (v : Int × Int) : Prop := w.heap[z]? = some (.cells #[.int .i64 v.1, .int .i64 v.2] 67 (0, 0))
theorem NoteAt.set {w : World} {z : Nat} {v : Int × Int} (h : NoteAt w z v) (a b : Int) : NoteAt ((w.setCell ⟨z, 0, none⟩ (.int .i64 a)).setCell ⟨z, 1, none⟩ (.int .i64 b)) z (a, b) := by
  have := blk_setCell _ z 1 (.int .i64 b) _ _ (blk_setCell w z 0 (.int .i64 a) _ _ h)
  simpa [NoteAt] using this
section
variable {w w' : World} {pb gb bb c qb lo hi n cap T D f : Nat} {Mx : Int} {G : Nat → Gt} {L : List (Nat × (Int × Int))} {Q : List Nat}

theorem Qu.lohi (H : Qu w lo hi qb T D Mx Q) : lo ≤ hi := by obtain ⟨lb, H, h1, h2, h3⟩ := H; omega
theorem PoM.above {z : Nat} (H : PoM w pb gb bb c qb lo hi n cap T D Mx G L f Q) (hz : ∀ k, ownP pb gb bb c lo hi L k → k ≠ z) (o : Nat) (u : Value) (hl : ¬ (lo ≤ z ∧ z < hi)) : PoM (w.setCell ⟨z, o, none⟩ u) pb gb bb c qb lo hi n cap T D Mx G L f Q := by
  have hb : ∀ j, j ≠ z → (w.setCell ⟨z, o, none⟩ u).heap[j]? = w.heap[j]? := fun j hj => Below.heap_setCell w ⟨z, o, none⟩ u j (by show j ≠ z; exact hj)
  have ho : ∀ k, k = pb ∨ k = gb ∨ k = bb ∨ k = c ∨ (∃ x ∈ L, k = x.1) → k ≠ z := fun k h => hz k (by
    rcases h with h | h | h | h | h
    · exact Or.inl h
    · exact Or.inr (Or.inl h)
    · exact Or.inr (Or.inr (Or.inl h))
    · exact Or.inr (Or.inr (Or.inr (Or.inl h)))
    · exact Or.inr (Or.inr (Or.inr (Or.inr (Or.inr h)))))
  refine ⟨(hb pb (ho _ (Or.inl rfl))).trans H.p, H.gs.blk (hb gb (ho _ (Or.inr (Or.inl rfl)))) (by simp [World.setCell]), H.bx.off (hb bb (ho _ (Or.inr (Or.inr (Or.inl rfl))))) (hb c (ho _ (Or.inr (Or.inr (Or.inr (Or.inl rfl)))))) (fun x hx => hb _ (ho _ (Or.inr (Or.inr (Or.inr (Or.inr ⟨x, hx, rfl⟩)))))), H.qu.only (Only.set (lo := z) (hi := z + 1) w ⟨z, o, none⟩ u (Nat.le_refl _) (Nat.lt_succ_self _)) (by have := H.qu.lohi; omega), H.ap, H.nb, H.nt⟩
/-- A box of the call's own is none of the poll's blocks. -/
theorem PoM.note_apart {z : Nat} {v : Int × Int} (H : PoM w pb gb bb c qb lo hi n cap T D Mx G L f Q) (h : NoteAt w z v) (hz : hi ≤ z) : ∀ k, ownP pb gb bb c lo hi L k → k ≠ z := by
  intro k hk e
  subst e
  obtain ⟨a, ha⟩ := H.gs.ty
  rcases hk with h1 | h1 | h1 | h1 | h1 | ⟨x, hx, h1⟩
  · subst h1; exact cells_ne h H.p (by decide) rfl
  · subst h1; exact cells_ne h ha (by decide) rfl
  · subst h1; exact cells_ne h H.bx.b (by decide) rfl
  · subst h1; exact chan_ne h H.bx.ch rfl
  · omega
  · exact cells_ne h (H.bx.th x hx) (by decide) h1
theorem PoM.noteSet {z : Nat} {v : Int × Int} (H : PoM w pb gb bb c qb lo hi n cap T D Mx G L f Q) (h : NoteAt w z v) (hz : hi ≤ z) (a b : Int) : PoM ((w.setCell ⟨z, 0, none⟩ (.int .i64 a)).setCell ⟨z, 1, none⟩ (.int .i64 b)) pb gb bb c qb lo hi n cap T D Mx G L f Q :=
  (H.above (H.note_apart h hz) 0 _ (by omega)).above (H.note_apart h hz) 1 _ (by omega)
/-- Fetch of a poll's notes. -/
def fetchV (L : List (Nat × (Int × Int))) : (Int × Int) × Bool := match L with
  | [] => ((0, 0), false)
  | x :: _ => (x.2, true)
theorem po_fetch (H : PoM w pb gb bb c qb lo hi n cap T D Mx G L f Q) : Calls Try.prog 38 #[.pointer (some ⟨bb, 0, none⟩)] w fun e w' => e = .returned (.tuple #[.agg #[.int .i64 (fetchV L).1.1, .int .i64 (fetchV L).1.2], .bool (fetchV L).2]) ∧ PoM w' pb gb bb c qb lo hi n cap T D Mx G L.tail f Q ∧ Only c (c + 1) w w' := by
  cases L with
  | nil => exact (BN.fetch_none H.bx).mono fun e w' ⟨h1, h2, h3⟩ => ⟨h1, H.kept h3, Only.of_none h3⟩
  | cons x r =>
    obtain ⟨p, v1, v2⟩ := x
    exact (BN.fetch_some H.bx).mono fun e w' ⟨h1, h2, h3⟩ => ⟨h1, H.notes (OnlyB.of_only h3 (Or.inl rfl)) h2 (fun x hx => Or.inl (List.mem_cons_of_mem _ hx)), h3⟩
theorem ownB_c {a b : World} (k : Only c (c + 1) a b) : OnlyB (ownP pb gb bb c lo hi L) a b := k.toB fun j h1 h2 => Or.inr (Or.inr (Or.inr (Or.inl (by omega))))
theorem _root_.Go.Proofs.Ytpnipmjjhiaieaa.BN.OnlyB.fresh {P : Nat → Prop} {a b : World} (k : OnlyB P a b) {q : Nat} (hq : a.heap.size ≤ q) (o : Nat) (u : Value) : OnlyB P a (b.setCell ⟨q, o, none⟩ u) :=
  ⟨k.os, k.tape, k.output, by have := k.size; simp [World.setCell]; omega, fun i hi hr => (Below.heap_setCell b ⟨q, o, none⟩ u i (by show i ≠ q; omega)).trans (k.block i hi hr)⟩
theorem note_new (w : World) (a b : Int) : NoteAt (w.alloc (.cells #[.int .i64 a, .int .i64 b] 67)) w.heap.size (a, b) := heap_alloc_new _ _
theorem NoteAt.only {z : Nat} {v : Int × Int} {lo hi : Nat} (h : NoteAt w z v) (k : Only lo hi w w') (hz : z < lo ∨ hi ≤ z) : NoteAt w' z v := (k.block z (blk_lt h) hz).trans h

set_option maxHeartbeats 8000000 in
theorem po_settle (H : PoM w pb gb bb c qb lo hi n cap T D Mx G L f Q) : Calls Try.prog 14 #[.pointer (some ⟨pb, 0, none⟩)] w fun e w' => e = .returned (.tuple #[]) ∧ PoM w' pb gb bb c qb lo hi n cap T D Mx (flushN (meetN G (L.map Prod.snd)) n) [] (lineN T D Mx (flushN (meetN G (L.map Prod.snd)) n) n f Q n).2 (lineN T D Mx (flushN (meetN G (L.map Prod.snd)) n) n f Q n).1 ∧ OnlyB (ownP pb gb bb c lo hi L) w w' := by
  have CF := Lib.hid (po_fetch H)
  obtain ⟨c0, c1, c2, c3, fz⟩ := p_cells H
  have HH := Lib.hid H
  have hn := H.nb.1
  have hq := Lib.hid H.qhi
  clear H c0 c2 c3 fz
  go_enter Try.func14, Try.ntmps14
  go_wp2_with fail
  refine CF.out.mono ?_
  rintro e w1 ⟨rfl, h1, k1⟩
  have R1 := Lib.hid h1
  have K1 := Lib.hid k1
  clear h1 k1 CF c1
  go_wp2_with fail
  have hz0 : hi ≤ w1.heap.size := R1.out.qhi
  have hzw0 : w.heap.size ≤ w1.heap.size := K1.out.size
  have ka := World.grownBy_alloc w1 (.cells #[.int .i64 (fetchV L).1.1, .int .i64 (fetchV L).1.2] 67) none
  have R2 := Lib.hid (R1.out.kept ka)
  have N2 := Lib.hid (note_new w1 (fetchV L).1.1 (fetchV L).1.2)
  have K2 : Hid (OnlyB (ownP pb gb bb c lo hi L) w _) := Lib.hid ((ownB_c K1.out).trans (OnlyB.of_none ka))
  have I2 : Hid (((fetchV L).2 = true → 0 ≤ (fetchV L).1.1 ∧ (fetchV L).1.1 < n) ∧ meetN G (L.map Prod.snd) = meetN G (if (fetchV L).2 then ((fetchV L).1.1, (fetchV L).1.2) :: L.tail.map Prod.snd else []) ∧ ((fetchV L).2 = false → L.tail = [])) := Lib.hid (by
    have hnt := HH.out.nt
    cases L with
    | nil => exact ⟨fun h => (by cases h), rfl, fun _ => rfl⟩
    | cons x r => exact ⟨fun _ => hnt x (List.mem_cons_self ..), rfl, fun h => (by cases h)⟩)
  clear ka R1 K1 HH
  generalize (fetchV L).1.1 = v1 at *
  generalize (fetchV L).1.2 = v2 at *
  generalize (fetchV L).2 = b at *
  generalize (w1.alloc (.cells #[.int .i64 v1, .int .i64 v2] 67)) = w2 at *
  go_loopw [2, 3] (fun t ok wr => ∃ (z : Nat) (Gc : Nat → Gt) (Lc : List (Nat × (Int × Int))) (v1 v2 : Int) (b : Bool), t = .pointer (some ⟨z, 0, none⟩) ∧ ok = .bool b ∧ Hid (PoM wr pb gb bb c qb lo hi n cap T D Mx Gc Lc f Q) ∧ Hid (NoteAt wr z (v1, v2)) ∧ Hid (hi ≤ z ∧ w.heap.size ≤ z) ∧ Hid (OnlyB (ownP pb gb bb c lo hi L) w wr) ∧ Hid ((b = true → 0 ≤ v1 ∧ v1 < n) ∧ meetN G (L.map Prod.snd) = meetN Gc (if b then (v1, v2) :: Lc.map Prod.snd else []) ∧ (b = false → Lc = []))) (fun t ok wr => okN ok + chLen wr c)
  case atStart => exact ⟨_, G, _, v1, v2, b, rfl, rfl, R2, N2, Lib.hid ⟨hz0, hzw0⟩, K2, I2⟩
  case round =>
    clear R2 N2 K2 I2 hz0 hzw0
    obtain ⟨z, Gc, Lc, v1, v2, b, rfl, rfl, H0, Z0, hz, K0, I0⟩ := hrel
    cases b
    · have hL := I0.out.2.2 rfl
      subst hL
      have hG := I0.out.2.1
      simp only [Bool.false_eq_true, if_false] at hG
      have HG : Hid (meetN G (L.map Prod.snd) = Gc) := Lib.hid hG
      obtain ⟨c0, _⟩ := p_cells H0.out
      clear hG I0 Z0 hz
      go_wp2_with fail
      clear c0
      go_loopw [38] (fun it wr => ∃ k : Nat, k ≤ n ∧ it = .int .i64 k ∧ Hid (PoM wr pb gb bb c qb lo hi n cap T D Mx (flushN Gc k) [] f Q) ∧ Hid (OnlyB (ownP pb gb bb c lo hi L) w wr)) (fun it _ => n - (intOf it).toNat)
      case atStart => exact ⟨0, Nat.zero_le _, rfl, Lib.hid (by have : flushN Gc 0 = Gc := by { funext i; unfold flushN; rw [if_neg (by omega)] }; rw [this]; exact H0.out), K0⟩
      case round =>
        clear H0 K0
        obtain ⟨k, hk, rfl, H0, K0⟩ := hrel
        by_cases hlt : k < n
        · have qk : (k : Int) < (n : Int) := by omega
          obtain ⟨c0, _⟩ := p_cells H0.out
          have CG := Lib.hid (go_flush (H0.out.gs.gt k hlt))
          have MD := Lib.hid (mdOk_flush (H0.out.gs.md k hlt))
          have HF := Lib.hid (flushN_succ Gc k)
          go_wp2_with fail
          refine CG.out.mono ?_
          rintro e w3 ⟨rfl, h3, k3⟩
          have H1 := Lib.hid (H0.out.turn h3 k3 MD.out)
          have K1 := Lib.hid (K0.out.trans (ownB_g k3.k))
          rw [HF.out] at H1
          clear h3 k3 CG MD HF H0 K0 c0
          go_wp2
          go_roundw
          case rel => exact ⟨k + 1, hlt, by go_num, H1, K1⟩
          case measure => simp [intOf]; omega
        · obtain rfl : k = n := by omega
          have CU := Lib.hid (po_lineUp H0.out)
          go_wp2_with fail
          refine CU.out.mono ?_
          rintro e w3 ⟨rfl, h3, k3⟩
          have R := Lib.hid (And.intro h3 k3)
          clear h3 k3 CU
          go_wp2
          go_end0
          rw [HG.out]
          refine ⟨rfl, R.out.1, K0.out.trans ⟨R.out.2.os, R.out.2.tape, R.out.2.output, R.out.2.size, fun j hj hr => R.out.2.block j hj fun h => hr (by
            rcases h with h | h | h | h | h | ⟨x, hx, h⟩
            · exact Or.inl h
            · exact Or.inr (Or.inl h)
            · exact Or.inr (Or.inr (Or.inl h))
            · exact Or.inr (Or.inr (Or.inr (Or.inl h)))
            · exact Or.inr (Or.inr (Or.inr (Or.inr (Or.inl h))))
            · cases hx)⟩⟩
    · obtain ⟨hv1, hv2⟩ := I0.out.1 rfl
      obtain ⟨d, rfl⟩ := Int.eq_ofNat_of_zero_le hv1
      have hd : d < n := by omega
      have qd : (d : Int) < (n : Int) := by omega
      have hI := I0.out.2.1
      simp only [if_true] at hI
      have HI : Hid (meetN G (L.map Prod.snd) = meetN (updG Gc d (gMeet (Gc d) v2)) (Lc.map Prod.snd)) := Lib.hid (by rw [hI]; rfl)
      have H1 := Lib.hid H0.out.drew
      have K1 := Lib.hid (K0.out.trans (OnlyB.of_none (gd (World.grownBy.refl _ _))))
      have Z1 : Hid (NoteAt wr.drew z ((d : Int), v2)) := Lib.hid Z0.out
      have t0 := (p_cells H1.out).1
      have z0 := cell_blk Z1.out 0
      have z1 := cell_blk Z1.out 1
      simp only [List.getElem?_toArray, List.getElem?_cons_zero, List.getElem?_cons_succ] at z0 z1
      have CG := Lib.hid (go_meet (H1.out.gs.gt d hd) v2)
      have MD := Lib.hid (mdOk_meet (m := v2) (H1.out.gs.md d hd))
      have hzg : z ≠ gb := by
        obtain ⟨a, ha⟩ := H1.out.gs.ty
        exact cells_ne Z1.out ha (by decide)
      have HC := Lib.hid (chLen_bx H0.out.bx)
      clear hI I0 hv1 hv2 H0 K0 Z0
      go_wp2_with fail
      go_region_held3 (fun w' => w'.cell? ⟨pb, 0, none⟩ = some (.slice (some ⟨gb, 0, none⟩) n n) ∧ w'.cell? ⟨z, 0, none⟩ = some (.int .i64 (d : Int)) ∧ w'.cell? ⟨z, 1, none⟩ = some (.int .i64 v2)) (first | exact ⟨t0, z0, z1⟩ | exact ⟨t2, z2, z3⟩)
        ((go_at_call 39; (with_reducible refine CG.out.mono ?_); rintro e w3 ⟨rfl, h3, k3⟩; have H2 := Lib.hid (H1.out.turn h3 k3 MD.out); have Z2 : Hid (NoteAt w3 z ((d : Int), v2)) := Lib.hid (Z1.out.only k3.k (by omega)); have t2 := (p_cells H2.out).1; have z2 : w3.cell? ⟨z, 0, none⟩ = some (.int .i64 (d : Int)) := cell_blk Z2.out 0; have z3 : w3.cell? ⟨z, 1, none⟩ = some (.int .i64 v2) := cell_blk Z2.out 1))
      have K2 := Lib.hid (K1.out.trans (ownB_g k3.k))
      have ka := World.grownBy_alloc w3 (.cells #[.int .i64 (d : Int), .int .i64 v2] 67) none
      have H3 := Lib.hid (H2.out.kept ka)
      have N3 := Lib.hid (note_new w3 (d : Int) v2)
      have K3 : Hid (OnlyB (ownP pb gb bb c lo hi L) w _) := Lib.hid (K2.out.trans (OnlyB.of_none ka))
      have hz3 : hi ≤ w3.heap.size ∧ w.heap.size ≤ w3.heap.size := ⟨H2.out.qhi, K2.out.size⟩
      have CF := Lib.hid (po_fetch H3.out)
      have c1 := (p_cells H3.out).2.1
      have hqn : w3.heap.size ≠ c := fun e => chan_ne N3.out H3.out.bx.ch e
      clear h3 k3 CG MD hzg t0 z0 z1 H1 K1 Z1 ka H2 K2 t2 hz
      go_wp2_with fail
      generalize hzz : w3.heap.size = z' at *
      generalize (w3.alloc (.cells #[.int .i64 (d : Int), .int .i64 v2] 67)) = w4 at *
      refine CF.out.mono ?_
      rintro e w5 ⟨rfl, h5, k5⟩
      have H5 := Lib.hid h5
      have N5 : Hid (NoteAt w5 z' ((d : Int), v2)) := Lib.hid (N3.out.only k5 (by omega))
      have K5 := Lib.hid (K3.out.trans (ownB_c k5))
      have H6 := Lib.hid (H5.out.noteSet N5.out hz3.1 (fetchV Lc).1.1 (fetchV Lc).1.2)
      have N6 := Lib.hid (N5.out.set (fetchV Lc).1.1 (fetchV Lc).1.2)
      have K6 := Lib.hid ((K5.out.fresh hz3.2 0 (.int .i64 (fetchV Lc).1.1)).fresh hz3.2 1 (.int .i64 (fetchV Lc).1.2))
      have I6 : Hid (((fetchV Lc).2 = true → 0 ≤ (fetchV Lc).1.1 ∧ (fetchV Lc).1.1 < n) ∧ meetN (updG Gc d (gMeet (Gc d) v2)) (Lc.map Prod.snd) = meetN (updG Gc d (gMeet (Gc d) v2)) (if (fetchV Lc).2 then ((fetchV Lc).1.1, (fetchV Lc).1.2) :: Lc.tail.map Prod.snd else []) ∧ ((fetchV Lc).2 = false → Lc.tail = [])) := Lib.hid (by
        have hnt := H3.out.nt
        cases Lc with
        | nil => exact ⟨fun h => (by cases h), rfl, fun _ => rfl⟩
        | cons x r => exact ⟨fun _ => hnt x (List.mem_cons_self ..), rfl, fun h => (by cases h)⟩)
      have hme : Hid (okN (.bool (fetchV Lc).2) + chLen ((w5.setCell ⟨z', 0, none⟩ (.int .i64 (fetchV Lc).1.1)).setCell ⟨z', 1, none⟩ (.int .i64 (fetchV Lc).1.2)) c < 1 + chLen wr c) := Lib.hid (by
        rw [chLen_bx H6.out.bx, HC.out]
        cases Lc with
        | nil => show 0 + 0 < 1 + 0; omega
        | cons x r => show 1 + r.length < 1 + (r.length + 1); omega)
      have d0 := cell_blk N5.out 0
      have d1 := cell_blk N5.out 1
      have f0 := frozen_blk N5.out 0
      have f1 := frozen_blk N5.out 1
      simp only [List.getElem?_toArray, List.getElem?_cons_zero, List.getElem?_cons_succ] at d0 d1
      clear h5 k5 CF c1 H3 N3 K3 H5 N5 K5 HC
      generalize (fetchV Lc).1.1 = y1 at *
      generalize (fetchV Lc).1.2 = y2 at *
      generalize (fetchV Lc).2 = yb at *
      go_wp2
      go_roundw
      case rel => exact ⟨z', _, _, y1, y2, yb, rfl, rfl, H6, N6, Lib.hid hz3, K6, Lib.hid ⟨I6.out.1, HI.out.trans I6.out.2.1, I6.out.2.2⟩⟩
      case measure => exact hme.out
end
end Go.Proofs.Ytpnipmjjhiaieaa
