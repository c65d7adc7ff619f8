/-
  PollKeeps, PollEdges, the plain part: what is ready behind Settle, of what was there and what was noted and kept.
-/
import Derived.Test.YtpnipmjjhiaieaaPTurns0
namespace Go.Proofs.Ytpnipmjjhiaieaa
open Go.RowKit Go.Lib BN
set_option linter.unusedVariables false
/-- What notes bring to a device. -/
def notB (j : Nat) : List (Int × Int) → BitVec 64
  | [] => 0#64
  | v :: r => (if v.1.toNat = j then bv v.2 &&& bv 7 else 0#64) ||| notB j r
theorem notB_snoc (j : Nat) : ∀ (l : List (Int × Int)) (v : Int × Int), notB j (l ++ [v]) = notB j l ||| (if v.1.toNat = j then bv v.2 &&& bv 7 else 0#64)
  | [], v => by simp [notB]
  | x :: l, v => by rw [List.cons_append, notB, notB_snoc j l v, notB, BitVec.or_assoc]
theorem bv_or (x y : Int) : bv (bits .or .i64 x y) = bv x ||| bv y := by rw [or_bv, bv_toInt]
theorem bv_and (x y : Int) : bv (bits .and .i64 x y) = bv x &&& bv y := by rw [and_bv, bv_toInt]
/-- All that has come of a device. -/
def tot (s : Ps) (j : Nat) : BitVec 64 := (bv (s.G j).rd ||| notB j s.N) ||| (bv (s.G j).lt &&& bv 7)
theorem gMeet_op (g : Gt) (m : Int) : (gMeet g m).op = g.op := by unfold gMeet; split <;> rfl
theorem meetN_op (j : Nat) : ∀ (l : List (Int × Int)) (G : Nat → Gt), (meetN G l j).op = (G j).op
  | [], G => rfl
  | v :: r, G => by
    rw [meetN, meetN_op j r]
    unfold updG
    by_cases e : j = v.1.toNat
    · subst e; rw [if_pos rfl, gMeet_op]
    · rw [if_neg e]
theorem meetN_open (j : Nat) : ∀ (l : List (Int × Int)) (G : Nat → Gt), (G j).op = true → bv (meetN G l j).rd = bv (G j).rd ||| notB j l ∧ (meetN G l j).lt = (G j).lt ∧ (meetN G l j).h = (G j).h ∧ (meetN G l j).wt = (G j).wt ∧ (meetN G l j).md = (G j).md
  | [], G, h => ⟨by simp [notB, meetN], rfl, rfl, rfl, rfl⟩
  | v :: r, G, h => by
    have h2 : (updG G v.1.toNat (gMeet (G v.1.toNat) v.2) j).op = true := by
      unfold updG
      by_cases e : j = v.1.toNat
      · subst e; rw [if_pos rfl, gMeet_op]; exact h
      · rw [if_neg e]; exact h
    obtain ⟨i1, i2, i3, i4, i5⟩ := meetN_open j r _ h2
    rw [meetN, i1, i2, i3, i4, i5, notB]
    unfold updG
    by_cases e : j = v.1.toNat
    · subst e
      rw [if_pos rfl, if_pos rfl]
      unfold gMeet
      rw [if_pos h]
      exact ⟨by show bv (bits .or .i64 _ _) ||| _ = _; rw [bv_or, bv_and, BitVec.or_assoc], rfl, rfl, rfl, rfl⟩
    · rw [if_neg e, if_neg (fun h => e h.symm)]
      exact ⟨by simp, rfl, rfl, rfl, rfl⟩
theorem meetN_shut (j : Nat) : ∀ (l : List (Int × Int)) (G : Nat → Gt), (G j).op = false → meetN G l j = G j
  | [], G, h => rfl
  | v :: r, G, h => by
    have e1 : updG G v.1.toNat (gMeet (G v.1.toNat) v.2) j = G j := by
      unfold updG
      by_cases e : j = v.1.toNat
      · subst e; rw [if_pos rfl]; unfold gMeet; rw [if_neg (by simp [h])]
      · rw [if_neg e]
    rw [meetN, meetN_shut j r _ (by rw [e1]; exact h), e1]
/-- Behind Settle. -/
theorem sG_open (n : Nat) (s : Ps) (j : Nat) (hj : j < n) (h : (s.G j).op = true) : (sG n s j).op = true ∧ (sG n s j).rd = (tot s j).toInt ∧ (sG n s j).lt = 0 := by
  have h1 : (meetN s.G s.N j).op = true := by rw [meetN_op]; exact h
  obtain ⟨i1, i2, _⟩ := meetN_open j s.N s.G h
  unfold sG flushN
  rw [if_pos hj]
  unfold gFlush gMeet
  rw [if_pos (by exact h1)]
  refine ⟨h1, ?_, rfl⟩
  show bits .or .i64 (meetN s.G s.N j).rd (bits .and .i64 (meetN s.G s.N j).lt 7) = _
  rw [or_bv, bv_and, i1, i2]
  rfl
theorem sG_shut (n : Nat) (s : Ps) (j : Nat) (hj : j < n) (h : s.G j = gz) : sG n s j = gz := by
  unfold sG flushN
  rw [if_pos hj, meetN_shut j s.N s.G (by rw [h]; rfl), h]
  rfl
/-- What is known of a poll beside rows of what was to come, and of what is open. -/
structure KI (n : Nat) (s : Ps) (R : Nat → Int) (O : Nat → Bool) : Prop where
  o : ∀ j, j < n → (s.G j).op = O j
  z : ∀ j, j < n → O j = false → s.G j = gz ∧ R j = 0
  r : ∀ j, j < n → O j = true → R j = (tot s j).toInt
  t : ∀ v ∈ s.N, O v.1.toNat = true
def upZk (R : Nat → Int) (d : Nat) (x : Int) : Nat → Int := fun j => if j = d then x else R j
def upBk (O : Nat → Bool) (d : Nat) (x : Bool) : Nat → Bool := fun j => if j = d then x else O j
theorem KI.start (n : Nat) : KI n ⟨fun _ => gz, [], 0, []⟩ (fun _ => 0) (fun _ => false) := ⟨fun _ _ => rfl, fun _ _ _ => ⟨rfl, rfl⟩, fun _ _ h => (by cases h), fun _ h => (by cases h)⟩
theorem notB_none (j : Nat) : ∀ (l : List (Int × Int)), (∀ v ∈ l, v.1.toNat ≠ j) → notB j l = 0#64
  | [], _ => rfl
  | v :: r, h => by rw [notB, if_neg (h v (List.mem_cons_self ..)), notB_none j r (fun x hx => h x (List.mem_cons_of_mem _ hx))]; simp
theorem notB_filter (j d : Nat) (hd : j ≠ d) : ∀ (l : List (Int × Int)), (∀ v ∈ l, 0 ≤ v.1) → notB j (l.filter fun v => decide (v.1 ≠ (d : Int))) = notB j l
  | [], _ => rfl
  | v :: r, h => by
    have hr := notB_filter j d hd r (fun x hx => h x (List.mem_cons_of_mem _ hx))
    have h0 := h v (List.mem_cons_self ..)
    by_cases e : v.1 = (d : Int)
    · rw [List.filter_cons_of_neg (by simp [e]), hr, notB, if_neg (by omega)]; simp
    · rw [List.filter_cons_of_pos (by simp [e]), notB, hr, notB]
section
variable {n d : Nat} {s : Ps} {R : Nat → Int} {O : Nat → Bool}
theorem KI.opened (H : KI n s R O) (hd : d < n) : KI n (sOpen s d) R (upBk O d true) := by
  unfold sOpen
  by_cases ho : O d = true
  · have hop := (H.o d hd).trans ho
    have e : updG s.G d (gOpen (s.G d)).1 = s.G := by
      funext j; unfold updG gOpen
      by_cases e : j = d
      · subst e; rw [if_pos rfl, if_pos hop]
      · rw [if_neg e]
    have e2 : upBk O d true = O := by
      funext j; unfold upBk
      by_cases e : j = d
      · subst e; rw [if_pos rfl, ho]
      · rw [if_neg e]
    rw [e, e2]
    exact H
  · have ho : O d = false := by simpa using ho
    obtain ⟨hz, hr⟩ := H.z d hd ho
    have hg : (gOpen (s.G d)).1 = ⟨true, 0, 0, 0, 0, 0, 0⟩ := by rw [hz]; rfl
    have hno : notB d s.N = 0#64 := notB_none d s.N fun v hv e => by have := H.t v hv; rw [e, ho] at this; cases this
    refine ⟨fun j hj => ?_, fun j hj h => ?_, fun j hj h => ?_, fun v hv => ?_⟩
    · simp only [updG, upBk]
      by_cases e : j = d
      · rw [if_pos e, if_pos e, hg]
      · rw [if_neg e, if_neg e]; exact H.o j hj
    · simp only [upBk] at h
      by_cases e : j = d
      · rw [if_pos e] at h; cases h
      · rw [if_neg e] at h
        simp only [updG]
        rw [if_neg e]; exact H.z j hj h
    · simp only [upBk] at h
      by_cases e : j = d
      · subst e
        rw [hr]
        unfold tot
        simp only [updG, if_pos, hg, hno]
        decide
      · rw [if_neg e] at h
        unfold tot
        simp only [updG]
        rw [if_neg e]; exact H.r j hj h
    · simp only [upBk]
      split
      · rfl
      · exact H.t v hv
theorem KI.closed (H : KI n s R O) (T D : Nat) (hd : d < n) (hN : ∀ v ∈ s.N, 0 ≤ v.1) : KI n (sClose T D s d) (upZk R d 0) (upBk O d false) := by
  have hN' : ∀ v ∈ (sClose T D s d).N, v ∈ s.N ∧ v.1.toNat ≠ d := by
    intro v hv
    unfold sClose at hv
    by_cases ho : (s.G d).op = true
    · simp only [ho, if_true] at hv
      obtain ⟨h1, h2⟩ := List.mem_filter.1 hv
      have := hN v h1
      simp at h2
      exact ⟨h1, by omega⟩
    · simp only [ho, if_false] at hv
      refine ⟨hv, fun e => ho ?_⟩
      have := H.t v hv
      rw [e] at this
      exact (H.o d hd).trans this
  have hG : (sClose T D s d).G = updG s.G d gz := rfl
  refine ⟨fun j hj => ?_, fun j hj h => ?_, fun j hj h => ?_, fun v hv => ?_⟩
  · rw [hG]; simp only [updG, upBk]
    by_cases e : j = d
    · rw [if_pos e, if_pos e]; rfl
    · rw [if_neg e, if_neg e]; exact H.o j hj
  · rw [hG]; simp only [updG, upZk, upBk] at h ⊢
    by_cases e : j = d
    · rw [if_pos e, if_pos e]; exact ⟨rfl, rfl⟩
    · rw [if_neg e] at h; rw [if_neg e, if_neg e]; exact H.z j hj h
  · simp only [upZk, upBk] at h ⊢
    by_cases e : j = d
    · rw [if_pos e] at h; cases h
    · rw [if_neg e] at h
      rw [if_neg e, H.r j hj h]
      unfold tot
      rw [hG]
      simp only [updG]
      rw [if_neg e]
      congr 3
      unfold sClose
      by_cases ho : (s.G d).op = true
      · simp only [ho, if_true]
        exact (notB_filter j d e s.N hN).symm
      · simp only [ho, if_false]
        rfl
  · obtain ⟨h1, h2⟩ := hN' v hv
    simp only [upBk]
    rw [if_neg h2]; exact H.t v h1
theorem KI.posted (H : KI n s R O) (cap : Nat) (m : Int) (hd : d < n) : KI n (sPost cap s d m) (if O d = true then upZk R d (bits .or .i64 (R d) (bits .and .i64 m 7)) else R) O := by
  unfold sPost
  by_cases ho : O d = true
  · have hop := (H.o d hd).trans ho
    rw [if_pos ho]
    have hR := H.r d hd ho
    have hb7 : bv 7 &&& bv 7 = bv 7 := by decide
    have hself : ∀ x : BitVec 64, (x &&& bv 7) &&& bv 7 = x &&& bv 7 := fun x => by rw [BitVec.and_assoc, hb7]
    have hRd : bits .or .i64 (R d) (bits .and .i64 m 7) = (tot s d ||| (bv m &&& bv 7)).toInt := by rw [or_bv, bv_and, hR, bv_toInt]
    by_cases hm : bits .and .i64 m 7 = 0
    · rw [if_neg (by simp [hm])]
      have h0 : bv m &&& bv 7 = 0#64 := by rw [← bv_and, hm]; rfl
      have e : upZk R d (bits .or .i64 (R d) (bits .and .i64 m 7)) = R := by
        funext j; unfold upZk
        by_cases e : j = d
        · subst e; rw [if_pos rfl, hRd, h0, hR]; simp
        · rw [if_neg e]
      rw [e]; exact H
    · rw [if_pos ⟨hm, hop⟩]
      by_cases hl : s.N.length < cap
      · rw [if_pos hl]
        refine ⟨H.o, fun j hj h => ?_, fun j hj h => ?_, fun v hv => ?_⟩
        · obtain ⟨h1, h2⟩ := H.z j hj h
          refine ⟨h1, ?_⟩
          unfold upZk
          rw [if_neg (fun e => by rw [e, ho] at h; cases h)]; exact h2
        · unfold tot upZk
          simp only [notB_snoc, Int.toNat_natCast]
          by_cases e : j = d
          · subst e
            rw [if_pos rfl, if_pos rfl, hRd, bv_and, hself]
            unfold tot
            congr 1
            rw [BitVec.or_assoc, BitVec.or_assoc, BitVec.or_comm (bv (s.G j).lt &&& bv 7), ← BitVec.or_assoc, ← BitVec.or_assoc]
            rw [BitVec.or_assoc (bv (s.G j).rd)]
          · rw [if_neg e, if_neg (fun h => e h.symm), H.r j hj h]
            simp [tot]
        · rcases List.mem_append.1 hv with hv | hv
          · exact H.t v hv
          · rw [List.mem_singleton.1 hv]; exact ho
      · rw [if_neg hl]
        have hk : gKeep (s.G d) (bits .and .i64 m 7) = { s.G d with lt := bits .or .i64 (s.G d).lt (bits .and .i64 (bits .and .i64 m 7) 7) } := by unfold gKeep; rw [if_pos hop]
        refine ⟨fun j hj => ?_, fun j hj h => ?_, fun j hj h => ?_, H.t⟩
        · simp only [updG]
          by_cases e : j = d
          · rw [if_pos e, hk, e]; exact hop.trans ho.symm
          · rw [if_neg e]; exact H.o j hj
        · have hjd : j ≠ d := fun e => by rw [e, ho] at h; cases h
          simp only [updG, upZk]
          rw [if_neg hjd, if_neg hjd]; exact H.z j hj h
        · simp only [upZk]
          by_cases e : j = d
          · subst e
            rw [if_pos rfl, hRd]
            unfold tot
            simp only [updG, if_pos, hk]
            congr 1
            rw [bv_or, bv_and, bv_and, hself, BitVec.or_assoc]
            congr 1
            rw [BitVec.and_or_distrib_right, hself]
          · rw [if_neg e, H.r j hj h]
            unfold tot
            simp only [updG]
            rw [if_neg e]
  · rw [if_neg ho]
    have hop : ¬ (s.G d).op = true := fun h => ho ((H.o d hd).symm.trans h)
    rw [if_neg (fun h => hop h.2)]
    exact H
end

/-! ## Rows of ints, and of bools, in an array of the law's own -/
def rowI (n : Nat) (c : Nat → Int) : Array Value := ((List.range n).map fun j => Value.int .i64 (c j)).toArray
def rowB (n : Nat) (c : Nat → Bool) : Array Value := ((List.range n).map fun j => Value.bool (c j)).toArray
theorem rowI_at (n : Nat) (c : Nat → Int) (j : Nat) (h : j < n) : (rowI n c)[j]? = some (.int .i64 (c j)) := by simp [rowI, h]
theorem rowB_at (n : Nat) (c : Nat → Bool) (j : Nat) (h : j < n) : (rowB n c)[j]? = some (.bool (c j)) := by simp [rowB, h]
theorem rowI_set (n : Nat) (c : Nat → Int) (d : Nat) (x : Int) : (rowI n c).setIfInBounds d (.int .i64 x) = rowI n (upZk c d x) := by
  have hs : ∀ d, (rowI n d).size = n := fun d => by simp [rowI]
  apply Array.ext
  · simp [hs]
  · intro i h1 h2
    have hn : i < n := by simpa [hs] using h2
    have e1 := rowI_at n (upZk c d x) i hn
    rw [Array.getElem?_eq_getElem h2] at e1
    injection e1 with e1
    rw [e1, Array.getElem_setIfInBounds]
    unfold upZk
    by_cases e : d = i
    · subst e; rw [if_pos rfl, if_pos rfl]
    · have e3 := rowI_at n c i hn
      rw [Array.getElem?_eq_getElem (by rw [hs]; exact hn)] at e3
      injection e3 with e3
      rw [if_neg e, if_neg (fun h => e h.symm), e3]
    rw [hs]; exact hn
theorem rowB_set (n : Nat) (c : Nat → Bool) (d : Nat) (x : Bool) : (rowB n c).setIfInBounds d (.bool x) = rowB n (upBk c d x) := by
  have hs : ∀ d, (rowB n d).size = n := fun d => by simp [rowB]
  apply Array.ext
  · simp [hs]
  · intro i h1 h2
    have hn : i < n := by simpa [hs] using h2
    have e1 := rowB_at n (upBk c d x) i hn
    rw [Array.getElem?_eq_getElem h2] at e1
    injection e1 with e1
    rw [e1, Array.getElem_setIfInBounds]
    unfold upBk
    by_cases e : d = i
    · subst e; rw [if_pos rfl, if_pos rfl]
    · have e3 := rowB_at n c i hn
      rw [Array.getElem?_eq_getElem (by rw [hs]; exact hn)] at e3
      injection e3 with e3
      rw [if_neg e, if_neg (fun h => e h.symm), e3]
    rw [hs]; exact hn
end Go.Proofs.Ytpnipmjjhiaieaa
