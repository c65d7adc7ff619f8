/-
  PollEdges, the plain part: watched by its edges, what came of a device is told once.
-/
import Derived.Test.YtpnipmjjhiaieaaPKeepsWalk
namespace Go.Proofs.Ytpnipmjjhiaieaa
open Go.RowKit Go.Lib BN
set_option linter.unusedVariables false
def gE (j : Nat) : Gt := ⟨true, 0, 0, (j : Int) + 1, 7, 1, 0⟩
def eS (k : Nat) : Ps := ⟨fun j => if j < k then gE j else gz, [], 0, []⟩
theorem eS_free (k : Nat) : (eS k).G k = gz := if_neg (Nat.lt_irrefl _)
theorem eS_open (k : Nat) : (gOpen ((eS k).G k)).2 = true := by rw [eS_free]; rfl
theorem eO_at (k : Nat) : (sOpen (eS k) k).G k = ⟨true, 0, 0, 0, 0, 0, 0⟩ := by unfold sOpen; simp only [upd_at, eS_free]; rfl
theorem ge_at (x : Int) : gWatch ⟨true, 0, 0, 0, 0, 0, 0⟩ x 7 1 = (⟨true, 0, 0, x, 7, 1, 0⟩, true) := by
  unfold gWatch
  rw [if_pos (by decide)]
  have : bits .and .i64 0 7 = 0 := by decide
  rw [this]
theorem eO_watch (k : Nat) : (gWatch ((sOpen (eS k) k).G k) ((k : Int) + 1) 7 1).2 = true := by rw [eO_at, ge_at]
theorem eS_step (k n : Nat) : sWatch 0 n (sOpen (eS k) k) k ((k : Int) + 1) 7 1 = eS (k + 1) := by
  unfold sWatch
  rw [eO_at, ge_at]
  simp only [if_true]
  show Ps.mk (updG (updG (eS k).G k _) k _) [] 0 (dropD 0 n [] _) = _
  rw [upd_upd, dropD_nil]
  unfold eS
  congr 1
  funext j
  unfold updG
  by_cases e : j = k
  · subst e; rw [if_pos rfl, if_pos (Nat.lt_succ_self _)]; rfl
  · rw [if_neg e]
    show (if j < k then gE j else gz) = _
    by_cases e2 : j < k
    · rw [if_pos e2, if_pos (by omega)]
    · rw [if_neg e2, if_neg (by omega)]
/-- Ahead of Settle: nothing is ready yet. -/
structure EI (s : Ps) (R : Nat → Int) (O : Nat → Bool) : Prop where
  k : KI 4 s R O
  g : ∀ j, j < 4 → O j = true → ∃ l, s.G j = ⟨true, 0, l, (j : Int) + 1, 7, 1, 0⟩
  q : s.Q = []
  f : s.f = 0
theorem EI.start : EI (eS 4) (fun _ => 0) (fun _ => true) :=
  ⟨⟨fun j hj => by show (if j < 4 then gE j else gz).op = _; rw [if_pos hj]; rfl, fun _ _ h => (by cases h), fun j hj _ => by
      unfold tot
      show (0 : Int) = ((bv (if j < 4 then gE j else gz).rd ||| notB j []) ||| (bv (if j < 4 then gE j else gz).lt &&& bv 7)).toInt
      rw [if_pos hj]
      show (0 : Int) = ((bv 0 ||| 0#64) ||| (bv 0 &&& bv 7)).toInt
      decide, fun _ h => (by cases h)⟩,
    fun j hj _ => ⟨0, by show (if j < 4 then gE j else gz) = _; rw [if_pos hj]; rfl⟩, rfl, rfl⟩
theorem EI.posted {s : Ps} {R : Nat → Int} {O : Nat → Bool} {d : Nat} (H : EI s R O) (cap : Nat) (m : Int) (hd : d < 4) : EI (sPost cap s d m) (if O d = true then upZk R d (bits .or .i64 (R d) (bits .and .i64 m 7)) else R) O := by
  refine ⟨H.k.posted cap m hd, fun j hj ho => ?_, ?_, ?_⟩
  · obtain ⟨l, hl⟩ := H.g j hj ho
    unfold sPost
    split
    · split
      · exact ⟨l, hl⟩
      · simp only [updG]
        by_cases e : j = d
        · subst e
          rw [if_pos rfl, hl]
          exact ⟨_, by unfold gKeep; rw [if_pos rfl]⟩
        · rw [if_neg e]; exact ⟨l, hl⟩
    · exact ⟨l, hl⟩
  · unfold sPost
    split
    · split
      · exact H.q
      · exact H.q
    · exact H.q
  · unfold sPost
    split
    · split
      · exact H.f
      · exact H.f
    · exact H.f
theorem EI.closed {s : Ps} {R : Nat → Int} {O : Nat → Bool} {d : Nat} (H : EI s R O) (hd : d < 4) (hN : ∀ v ∈ s.N, 0 ≤ v.1) : EI (sClose 0 4 s d) (upZk R d 0) (upBk O d false) := by
  refine ⟨H.k.closed 0 4 hd hN, fun j hj ho => ?_, ?_, H.f⟩
  · unfold upBk at ho
    by_cases e : j = d
    · rw [if_pos e] at ho; cases ho
    · rw [if_neg e] at ho
      obtain ⟨l, hl⟩ := H.g j hj ho
      exact ⟨l, by show updG s.G d _ j = _; unfold updG; rw [if_neg e]; exact hl⟩
  · show (if (s.G d).op = true then dropD 0 4 s.Q d else s.Q) = []
    rw [H.q, dropD_nil]
    split <;> rfl
/-- Behind Settle: B is what each has to tell. -/
structure SetE (s : Ps) (B : Nat → Int) : Prop where
  n : s.N = []
  g : ∀ j, j < 4 → (s.G j = gz ∧ B j = 0) ∨ ∃ a, s.G j = ⟨true, a, 0, (j : Int) + 1, 7, 1, B j⟩
  q : s.Q = (List.range 4).filter fun j => decide (B j ≠ 0)
theorem meetN_td (j : Nat) : ∀ (l : List (Int × Int)) (G : Nat → Gt), (G j).op = true → (G j).wt = 7 → bv (meetN G l j).td = bv (G j).td ||| notB j l
  | [], G, _, _ => by simp [notB, meetN]
  | v :: r, G, h, hw => by
    have h2 : (updG G v.1.toNat (gMeet (G v.1.toNat) v.2) j).op = true ∧ (updG G v.1.toNat (gMeet (G v.1.toNat) v.2) j).wt = 7 ∧ bv (updG G v.1.toNat (gMeet (G v.1.toNat) v.2) j).td = bv (G j).td ||| (if v.1.toNat = j then bv v.2 &&& bv 7 else 0#64) := by
      unfold updG
      by_cases e : j = v.1.toNat
      · subst e
        rw [if_pos rfl, if_pos rfl]
        unfold gMeet
        rw [if_pos h]
        exact ⟨h, hw, by show bv (bits .or .i64 _ (bits .and .i64 _ _)) = _; rw [hw, bv_or, bv_and]⟩
      · rw [if_neg e, if_neg (fun h => e h.symm)]
        exact ⟨h, hw, by simp⟩
    rw [meetN, meetN_td j r _ h2.1 h2.2.1, h2.2.2, notB, BitVec.or_assoc]
theorem line_start (G : Nat → Gt) : ∀ k, k ≤ 4 → (lineN 0 4 4 G 4 0 [] k).1 = (List.range k).filter fun j => decide ((G j).td ≠ 0)
  | 0, _ => rfl
  | k + 1, h => by
    have ih := line_start G k (by omega)
    have hk : (0 + k) % 4 = k := by omega
    have hp : pushD 0 4 4 (lineN 0 4 4 G 4 0 [] k).1 (k : Int) = ((lineN 0 4 4 G 4 0 [] k).1 ++ [k], true) := by
      rw [ih]
      have hm : k ∉ (List.range k).filter fun j => decide ((G j).td ≠ 0) := fun hm => by
        have := List.mem_range.1 (List.mem_filter.1 hm).1
        omega
      have hl : ((List.range k).filter fun j => decide ((G j).td ≠ 0)).length ≤ k := by
        have := List.length_filter_le (fun j => decide ((G j).td ≠ 0)) (List.range k)
        simpa using this
      have hdv := devN_le 0 ((List.range k).filter fun j => decide ((G j).td ≠ 0))
      have hn : numT 0 4 2 (k : Int) = some k := by
        unfold numT
        rw [if_neg (by omega), if_pos (by omega)]
        simp
      unfold pushD canP
      rw [hn]
      simp only
      rw [if_neg (by
        rintro (h1 | ⟨_, h2⟩)
        · exact hm h1
        · omega)]
    unfold lineN
    rw [hk, hp, List.range_succ, List.filter_append]
    by_cases ht : (G k).td ≠ 0
    · rw [if_pos ⟨ht, rfl⟩, ih]; simp [ht]
    · rw [if_neg (fun h => ht h.1), ih]; simp only [ne_eq, Decidable.not_not] at ht; simp [ht]
theorem line_none (G : Nat → Gt) (f0 : Nat) (hz : ∀ j, j < 4 → (G j).td = 0) : ∀ k, (lineN 0 4 4 G 4 f0 [] k).1 = []
  | 0 => rfl
  | k + 1 => by
    unfold lineN
    rw [if_neg (fun h => h.1 (hz _ (Nat.mod_lt _ (by omega)))), line_none G f0 hz k]
theorem flush_at {n : Nat} {s : Ps} {j : Nat} (hj : j < n) : sG n s j = gFlush (meetN s.G s.N j) := by unfold sG flushN; rw [if_pos hj]
theorem EI.settled {s : Ps} {R : Nat → Int} {O : Nat → Bool} (H : EI s R O) : SetE (sSettle 4 0 4 4 s) R := by
  have hg : ∀ j, j < 4 → (sG 4 s j = gz ∧ R j = 0) ∨ ∃ a, sG 4 s j = ⟨true, a, 0, (j : Int) + 1, 7, 1, R j⟩ := fun j hj => by
    cases ho : O j
    · obtain ⟨h1, h2⟩ := H.k.z j hj ho
      exact Or.inl ⟨sG_shut 4 s j hj h1, h2⟩
    · obtain ⟨l, hl⟩ := H.g j hj ho
      have hop : (s.G j).op = true := by rw [hl]
      have hw : (s.G j).wt = 7 := by rw [hl]
      have ht := meetN_td j s.N s.G hop hw
      obtain ⟨i1, i2, i3, i4, i5⟩ := meetN_open j s.N s.G hop
      have i0 : (meetN s.G s.N j).op = true := by rw [meetN_op]; exact hop
      refine Or.inr ⟨(sG 4 s j).rd, ?_⟩
      rw [flush_at hj]
      unfold gFlush gMeet
      rw [if_pos (by exact i0)]
      have e7 : bits .or .i64 (meetN s.G s.N j).td (bits .and .i64 (meetN s.G s.N j).lt (meetN s.G s.N j).wt) = R j := by
        rw [or_bv, bv_and, ht, i2, i4, H.k.r j hj ho, hw]
        unfold tot
        rw [hl]
      show Gt.mk (meetN s.G s.N j).op _ 0 (meetN s.G s.N j).h (meetN s.G s.N j).wt (meetN s.G s.N j).md (bits .or .i64 (meetN s.G s.N j).td (bits .and .i64 (meetN s.G s.N j).lt (meetN s.G s.N j).wt)) = _
      rw [e7, i0, i3, i4, i5, hl]
  refine ⟨rfl, hg, ?_⟩
  show (lineN 0 4 4 (sG 4 s) 4 s.f s.Q 4).1 = _
  rw [H.q, H.f, line_start _ 4 (Nat.le_refl _)]
  refine List.filter_congr fun j hj => ?_
  have hj4 := List.mem_range.1 hj
  rcases hg j hj4 with ⟨h1, h2⟩ | ⟨a, h1⟩
  · rw [h1, h2]; rfl
  · rw [h1]
/-- Within the turn: P is who has not been told yet. -/
structure InE (s : Ps) (B : Nat → Int) (P : List Nat) : Prop where
  n : s.N = []
  g : ∀ j, j < 4 → (s.G j = gz ∧ B j = 0) ∨ ∃ a, s.G j = ⟨true, a, 0, (j : Int) + 1, 7, 1, if j ∈ P then B j else 0⟩
  d : P.Nodup
  p : ∀ j ∈ P, j < 4 ∧ B j ≠ 0
theorem SetE.inE {s : Ps} {B : Nat → Int} (H : SetE s B) : InE s B s.Q := by
  refine ⟨H.n, fun j hj => ?_, by rw [H.q]; exact List.Pairwise.filter _ List.nodup_range, fun j hj => ?_⟩
  · rcases H.g j hj with h | ⟨a, h⟩
    · exact Or.inl h
    · refine Or.inr ⟨a, ?_⟩
      rw [h, H.q]
      by_cases hb : B j = 0
      · rw [hb]; simp
      · rw [if_pos (List.mem_filter.2 ⟨List.mem_range.2 hj, by simp [hb]⟩)]
  · rw [H.q] at hj
    obtain ⟨h1, h2⟩ := List.mem_filter.1 hj
    exact ⟨List.mem_range.1 h1, by simpa using h2⟩
theorem InE.sQ {s : Ps} {B : Nat → Int} {P : List Nat} (H : InE s B P) (Q : List Nat) : InE (sQ s Q) B P := ⟨H.n, H.g, H.d, H.p⟩
/-- The next one is told. -/
theorem InE.told {s : Ps} {B : Nat → Int} {x : Nat} {r : List Nat} (H : InE s B (x :: r)) : (tells (s.G x)).2.1 = (x : Int) + 1 ∧ (tells (s.G x)).2.2 = B x ∧ InE (sTell s x) B r := by
  obtain ⟨hx, hb⟩ := H.p x (List.mem_cons_self ..)
  have hxr : x ∉ r := (List.nodup_cons.1 H.d).1
  rcases H.g x hx with ⟨_, h⟩ | ⟨a, h⟩
  · exact absurd h hb
  · rw [if_pos (List.mem_cons_self ..)] at h
    have ht : tells (s.G x) = (⟨true, a, 0, (x : Int) + 1, 7, 1, 0⟩, (x : Int) + 1, B x) := by
      rw [h]; unfold tells
      simp [hb]
    refine ⟨by rw [ht], by rw [ht], ⟨H.n, fun j hj => ?_, (List.nodup_cons.1 H.d).2, fun j hj => H.p j (List.mem_cons_of_mem _ hj)⟩⟩
    show (updG s.G x (tells (s.G x)).1 j = gz ∧ _) ∨ _
    rw [ht]
    unfold sTell updG
    by_cases e : j = x
    · subst e
      exact Or.inr ⟨a, by rw [ht]; simp [hxr]⟩
    · rw [ht]
      simp only [if_neg e]
      rcases H.g j hj with h' | ⟨a', h'⟩
      · exact Or.inl h'
      · refine Or.inr ⟨a', ?_⟩
        rw [h']
        by_cases hm : j ∈ r
        · rw [if_pos (List.mem_cons_of_mem _ hm), if_pos hm]
        · rw [if_neg (fun h => by rcases List.mem_cons.1 h with h | h; exact e h; exact hm h), if_neg hm]
/-- The next Settle has nothing new. -/
theorem InE.again {s : Ps} {B : Nat → Int} (H : InE s B []) (hq : s.Q = []) : SetE (sSettle 4 0 4 4 s) (fun _ => 0) := by
  have hg : ∀ j, j < 4 → (sG 4 s j = gz ∧ (0 : Int) = 0) ∨ ∃ a, sG 4 s j = ⟨true, a, 0, (j : Int) + 1, 7, 1, 0⟩ := fun j hj => by
    rw [flush_at hj, H.n]
    show (gFlush (s.G j) = gz ∧ _) ∨ _
    rcases H.g j hj with ⟨h, _⟩ | ⟨a, h⟩
    · exact Or.inl ⟨by rw [h]; rfl, rfl⟩
    · refine Or.inr ⟨bits .or .i64 a (bits .and .i64 0 7), ?_⟩
      show gFlush (s.G j) = _
      rw [h]
      unfold gFlush gMeet
      simp
      decide
  refine ⟨rfl, hg, ?_⟩
  show (lineN 0 4 4 (sG 4 s) 4 s.f s.Q 4).1 = _
  rw [hq, line_none _ _ (fun j hj => by rcases hg j hj with ⟨h, _⟩ | ⟨a, h⟩ <;> rw [h] <;> rfl)]
  simp
end Go.Proofs.Ytpnipmjjhiaieaa
