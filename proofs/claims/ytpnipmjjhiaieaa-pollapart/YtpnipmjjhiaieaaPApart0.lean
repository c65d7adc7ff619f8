/-
  PollApart, the plain part: two polls, of which one knows nothing of device 1.
-/
import Derived.Test.YtpnipmjjhiaieaaPKeepsWalk
namespace Go.Proofs.Ytpnipmjjhiaieaa
open Go.RowKit Go.Lib BN
set_option linter.unusedVariables false
/-! ## Two polls side by side -/
def PP (W w : World) (B : Nat → Prop) (pa qa pb qb n cap D : Nat) (Mx : Int) (s t : Ps) : Prop :=
  ∃ F E : Nat → Prop, PoF F w pa qa n cap 0 D Mx s ∧ PoF E w pb qb n cap 0 D Mx t ∧ (∀ k, F k → ¬ E k ∧ ¬ B k ∧ W.heap.size ≤ k ∧ k < w.heap.size) ∧ (∀ k, E k → ¬ B k ∧ W.heap.size ≤ k ∧ k < w.heap.size) ∧ W.grownBy w none ∧ ∀ k, B k → W.heap.size ≤ k ∧ k < w.heap.size
section
variable {W w w' : World} {B B' : Nat → Prop} {pa qa pb qb n cap D : Nat} {Mx : Int} {s t s' t' : Ps}
theorem grown_on {F : Nat → Prop} (hW : W.grownBy w none) (k : OnlyB F w w') (hF : ∀ j, F j → W.heap.size ≤ j) : W.grownBy w' none :=
  ⟨k.os.trans hW.os, k.tape.trans hW.tape, k.output.trans hW.output, Nat.le_trans hW.size k.size, fun j hj hr => (k.block j (Nat.lt_of_lt_of_le hj hW.size) (fun h => by have := hF j h; omega)).trans (hW.block j hj hr)⟩
theorem PP.one {f : FuncId} {args : Array Value} {v : Ending} (H : PP W w B pa qa pb qb n cap D Mx s t)
    (h : ∀ F, PoF F w pa qa n cap 0 D Mx s → Calls Try.prog f args w fun e w' => e = v ∧ PoF (grF F w w') w' pa qa n cap 0 D Mx s' ∧ OnlyB F w w') :
    Calls Try.prog f args w fun e w' => e = v ∧ PP W w' B pa qa pb qb n cap D Mx s' t ∧ ∀ b, B b → w'.heap[b]? = w.heap[b]? := by
  obtain ⟨F, E, h1, h2, hF, hE, hW, hB⟩ := H
  refine (h F h1).mono fun e w' ⟨he, hp, hk⟩ => ⟨he, ⟨grF F w w', E, hp, h2.off hk (fun j hj hf => (hF j hf).1 hj), fun k hk' => ?_, fun k hk' => ⟨(hE k hk').1, (hE k hk').2.1, Nat.lt_of_lt_of_le (hE k hk').2.2 hk.size⟩, grown_on hW hk fun j hj => (hF j hj).2.2.1, fun k hk' => ⟨(hB k hk').1, Nat.lt_of_lt_of_le (hB k hk').2 hk.size⟩⟩, fun b hb => hk.block b (hB b hb).2 (fun hf => (hF b hf).2.1 hb)⟩
  rcases hk' with hk' | hk'
  · have := hF k hk'
    exact ⟨this.1, this.2.1, this.2.2.1, Nat.lt_of_lt_of_le this.2.2.2 hk.size⟩
  · have := hW.size
    exact ⟨fun he => by have := (hE k he).2.2; omega, fun hb => by have := (hB k hb).2; omega, by omega, hk'.2⟩
theorem PP.two {f : FuncId} {args : Array Value} {v : Ending} (H : PP W w B pa qa pb qb n cap D Mx s t)
    (h : ∀ F, PoF F w pb qb n cap 0 D Mx t → Calls Try.prog f args w fun e w' => e = v ∧ PoF (grF F w w') w' pb qb n cap 0 D Mx t' ∧ OnlyB F w w') :
    Calls Try.prog f args w fun e w' => e = v ∧ PP W w' B pa qa pb qb n cap D Mx s t' ∧ ∀ b, B b → w'.heap[b]? = w.heap[b]? := by
  obtain ⟨F, E, h1, h2, hF, hE, hW, hB⟩ := H
  refine (h E h2).mono fun e w' ⟨he, hp, hk⟩ => ⟨he, ⟨F, grF E w w', h1.off hk (fun j hj hf => (hF j hj).1 hf), hp, fun k hk' => ?_, fun k hk' => ?_, grown_on hW hk fun j hj => (hE j hj).2.1, fun k hk' => ⟨(hB k hk').1, Nat.lt_of_lt_of_le (hB k hk').2 hk.size⟩⟩, fun b hb => hk.block b (hB b hb).2 (fun hf => (hE b hf).1 hb)⟩
  · have := hF k hk'
    refine ⟨fun he => ?_, this.2.1, this.2.2.1, Nat.lt_of_lt_of_le this.2.2.2 hk.size⟩
    rcases he with he | he
    · exact this.1 he
    · omega
  · rcases hk' with hk' | hk'
    · have := hE k hk'
      exact ⟨this.1, this.2.1, Nat.lt_of_lt_of_le this.2.2 hk.size⟩
    · have := hW.size
      exact ⟨fun hb => by have := (hB k hb).2; omega, by omega, hk'.2⟩
theorem PP.kept (H : PP W w B pa qa pb qb n cap D Mx s t) (k : w.grownBy w' none) : PP W w' B pa qa pb qb n cap D Mx s t := by
  obtain ⟨F, E, h1, h2, hF, hE, hW, hB⟩ := H
  exact ⟨F, E, h1.kept k, h2.kept k, fun j hj => ⟨(hF j hj).1, (hF j hj).2.1, (hF j hj).2.2.1, Nat.lt_of_lt_of_le (hF j hj).2.2.2 k.size⟩, fun j hj => ⟨(hE j hj).1, (hE j hj).2.1, Nat.lt_of_lt_of_le (hE j hj).2.2 k.size⟩, hW.trans k, fun j hj => ⟨(hB j hj).1, Nat.lt_of_lt_of_le (hB j hj).2 k.size⟩⟩
theorem PP.blk (H : PP W w B pa qa pb qb n cap D Mx s t) (k : w.grownBy w' none) {b : Nat} (hb : B b) : w'.heap[b]? = w.heap[b]? := by
  obtain ⟨F, E, h1, h2, hF, hE, hW, hB⟩ := H
  exact k.block b (hB b hb).2 (by simp)
theorem PP.gw (H : PP W w B pa qa pb qb n cap D Mx s t) : W.grownBy w none := by
  obtain ⟨F, E, h1, h2, hF, hE, hW, hB⟩ := H
  exact hW
theorem PP.fa (H : PP W w B pa qa pb qb n cap D Mx s t) : ∃ F, PoF F w pa qa n cap 0 D Mx s := by
  obtain ⟨F, E, h1, h2, hF, hE, hW, hB⟩ := H
  exact ⟨F, h1⟩
theorem PP.fb (H : PP W w B pa qa pb qb n cap D Mx s t) : ∃ F, PoF F w pb qb n cap 0 D Mx t := by
  obtain ⟨F, E, h1, h2, hF, hE, hW, hB⟩ := H
  exact ⟨E, h2⟩
theorem PP.add (H : PP W w B pa qa pb qb n cap D Mx s t) (o : Obj) : PP W (w.alloc o) (fun k => B k ∨ k = w.heap.size) pa qa pb qb n cap D Mx s t := by
  have ka := World.grownBy_alloc w o none
  obtain ⟨F, E, h1, h2, hF, hE, hW, hB⟩ := H
  have hs := hW.size
  have hz : (w.alloc o).heap.size = w.heap.size + 1 := World.size_alloc ..
  refine ⟨F, E, h1.kept ka, h2.kept ka, fun j hj => ?_, fun j hj => ?_, hW.trans ka, fun j hj => ?_⟩
  · have := hF j hj
    exact ⟨this.1, fun h => h.elim this.2.1 (fun h => by omega), this.2.2.1, by omega⟩
  · have := hE j hj
    exact ⟨fun h => h.elim this.1 (fun h => by omega), this.2.1, by omega⟩
  · rcases hj with hj | hj
    · have := hB j hj; omega
    · omega
theorem PP.alt (H : PP W w B pa qa pb qb n cap D Mx s t) (h : ∀ k, B' k → B k) : PP W w B' pa qa pb qb n cap D Mx s t := by
  obtain ⟨F, E, h1, h2, hF, hE, hW, hB⟩ := H
  exact ⟨F, E, h1, h2, fun j hj => ⟨(hF j hj).1, fun hb => (hF j hj).2.1 (h j hb), (hF j hj).2.2⟩, fun j hj => ⟨fun hb => (hE j hj).1 (h j hb), (hE j hj).2⟩, hW, fun j hj => hB j (h j hj)⟩
theorem PP.set (H : PP W w B pa qa pb qb n cap D Mx s t) {b : Nat} (hb : B b) (o : Nat) (u : Value) : PP W (w.setCell ⟨b, o, none⟩ u) B pa qa pb qb n cap D Mx s t := by
  have k : OnlyB (fun j => j = b) w (w.setCell ⟨b, o, none⟩ u) := OnlyB.set w b o u rfl
  obtain ⟨F, E, h1, h2, hF, hE, hW, hB⟩ := H
  have hz : (w.setCell ⟨b, o, none⟩ u).heap.size = w.heap.size := by simp [World.setCell]
  exact ⟨F, E, h1.off k (fun j hj h => (hF j hj).2.1 (h ▸ hb)), h2.off k (fun j hj h => (hE j hj).1 (h ▸ hb)), fun j hj => by rw [hz]; exact hF j hj, fun j hj => by rw [hz]; exact hE j hj, grown_on hW k fun j hj => by rw [show j = b from hj]; exact (hB b hb).1, fun j hj => by rw [hz]; exact hB j hj⟩
theorem PP.new {w1 w2 w3 w4 : World} (k0 : W.grownBy w none) (k1 : w.grownBy w1 none) (k2 : w1.grownBy w2 none) (k3 : w2.grownBy w3 none) (k4 : w3.grownBy w4 none)
    (h1 : PoF (grF (fun j => w.heap.size ≤ j ∧ j < w1.heap.size) w2 w3) w3 pa qa n cap 0 D Mx s) (h2 : PoF (grF (fun j => w1.heap.size ≤ j ∧ j < w2.heap.size) w3 w4) w4 pb qb n cap 0 D Mx t) : PP W w4 (fun _ => False) pa qa pb qb n cap D Mx s t := by
  have s0 := k0.size
  have s1 := k1.size
  have s2 := k2.size
  have s3 := k3.size
  have s4 := k4.size
  refine ⟨_, _, h1.kept k4, h2, fun j hj => ⟨fun he => ?_, id, ?_, ?_⟩, fun j hj => ⟨id, ?_, ?_⟩, (((k0.trans k1).trans k2).trans k3).trans k4, fun _ h => h.elim⟩
  · rcases hj with hj | hj <;> rcases he with he | he <;> omega
  · rcases hj with hj | hj <;> omega
  · rcases hj with hj | hj <;> omega
  · rcases hj with hj | hj <;> omega
  · rcases hj with hj | hj <;> omega
end
theorem PoF.qnd {F : Nat → Prop} {w : World} {pb qb n cap D : Nat} {Mx : Int} {s : Ps} (H : PoF F w pb qb n cap 0 D Mx s) : s.Q.Nodup ∧ ∀ k ∈ s.Q, k < D := by
  obtain ⟨gb, bb, c, lo, hi, L, H, hN, hF⟩ := H
  exact ⟨H.qu.nodup, fun k hk => by have := H.qu.bound k hk; omega⟩

/-! ## What is known of both -/
def mt (g : Gt) : List (Int × Int) → Gt
  | [] => g
  | v :: r => mt (gMeet g v.2) r
def of0 (l : List (Int × Int)) : List (Int × Int) := l.filter fun v => decide (v.1.toNat = 0)
theorem meetN_zero : ∀ (l : List (Int × Int)) (G : Nat → Gt), meetN G l 0 = mt (G 0) (of0 l)
  | [], G => rfl
  | v :: r, G => by
    rw [meetN, meetN_zero r]
    unfold of0
    by_cases e : v.1.toNat = 0
    · rw [List.filter_cons_of_pos (by simp [e]), mt]
      unfold updG
      rw [if_pos e.symm, e]
    · rw [List.filter_cons_of_neg (by simp [e])]
      unfold updG
      rw [if_neg (fun h => e h.symm)]
/-- A queue of two devices. -/
def Q2 (Q : List Nat) : Prop := Q.Nodup ∧ ∀ k ∈ Q, k < 2
theorem q2_len {Q : List Nat} (h : Q2 Q) {d : Nat} (hd : d < 2) (hm : d ∉ Q) : Q.length < 2 := by
  obtain ⟨h1, h2⟩ := h
  rcases Q with _ | ⟨a, _ | ⟨b, r⟩⟩
  · simp
  · simp
  · exfalso
    have ha := h2 a (by simp)
    have hb := h2 b (by simp)
    have hab : a ≠ b := by intro e; subst e; simp at h1
    have hda : d ≠ a := by intro e; subst e; simp at hm
    have hdb : d ≠ b := by intro e; subst e; simp at hm
    omega
theorem numT_dev (d : Nat) (hd : d < 2) : numT 0 2 2 (d : Int) = some d := by
  unfold numT
  rw [if_neg (by omega), if_pos (by omega)]
  simp
theorem push2 {Q : List Nat} (h : Q2 Q) {d : Nat} (hd : d < 2) : pushD 0 2 2 Q (d : Int) = if d ∈ Q then (Q, false) else (Q ++ [d], true) := by
  unfold pushD canP
  rw [numT_dev d hd]
  simp only
  by_cases hm : d ∈ Q
  · rw [if_pos (Or.inl hm), if_pos hm]
  · have hl := q2_len h hd hm
    have hdv := devN_le 0 Q
    rw [if_neg (by
      rintro (h1 | ⟨_, h2⟩)
      · exact hm h1
      · omega), if_neg hm]
theorem drop2 {Q : List Nat} {d : Nat} (hd : d < 2) : dropD 0 2 Q (d : Int) = Q.erase d := by
  unfold dropD inQ
  rw [numT_dev d hd]
  simp only
  by_cases hm : d ∈ Q
  · rw [if_pos hm]
  · rw [if_neg hm, List.erase_of_not_mem hm]
theorem has2 (Q : List Nat) : (inQ 0 2 Q 2 0).isSome = decide (0 ∈ Q) := by
  unfold inQ
  rw [show numT 0 2 2 0 = some 0 from numT_dev 0 (by omega)]
  simp only
  by_cases hm : 0 ∈ Q
  · rw [if_pos hm]; simp [hm]
  · rw [if_neg hm]; simp [hm]
theorem line2 (G : Nat → Gt) (f0 : Nat) {Q : List Nat} (h : Q2 Q) : ∀ k, Q2 (lineN 0 2 2 G 2 f0 Q k).1 ∧ (0 ∈ (lineN 0 2 2 G 2 f0 Q k).1 ↔ 0 ∈ Q ∨ ∃ i, i < k ∧ (f0 + i) % 2 = 0 ∧ (G 0).td ≠ 0)
  | 0 => ⟨h, by simp [lineN]⟩
  | k + 1 => by
    obtain ⟨h1, h2⟩ := line2 G f0 h k
    have hd : (f0 + k) % 2 < 2 := Nat.mod_lt _ (by omega)
    unfold lineN
    rw [push2 h1 hd]
    generalize hP : (lineN 0 2 2 G 2 f0 Q k) = P at *
    generalize hdd : (f0 + k) % 2 = d at *
    have hex : (∃ i, i < k + 1 ∧ (f0 + i) % 2 = 0 ∧ (G 0).td ≠ 0) ↔ (∃ i, i < k ∧ (f0 + i) % 2 = 0 ∧ (G 0).td ≠ 0) ∨ (d = 0 ∧ (G 0).td ≠ 0) := by
      constructor
      · rintro ⟨i, hi, h3, h4⟩
        by_cases e : i = k
        · subst e; exact Or.inr ⟨hdd.symm.trans h3, h4⟩
        · exact Or.inl ⟨i, by omega, h3, h4⟩
      · rintro (⟨i, hi, h3, h4⟩ | ⟨h3, h4⟩)
        · exact ⟨i, by omega, h3, h4⟩
        · exact ⟨k, by omega, hdd.trans h3, h4⟩
    by_cases hm : d ∈ P.1
    · rw [if_pos hm, if_neg (by simp)]
      refine ⟨h1, ?_⟩
      rw [h2, hex]
      constructor
      · rintro (h3 | h3)
        · exact Or.inl h3
        · exact Or.inr (Or.inl h3)
      · rintro (h3 | h3 | ⟨h3, h4⟩)
        · exact Or.inl h3
        · exact Or.inr h3
        · subst h3; exact h2.1 hm
    · rw [if_neg hm]
      by_cases ht : (G d).td ≠ 0
      · rw [if_pos ⟨ht, rfl⟩]
        refine ⟨⟨?_, ?_⟩, ?_⟩
        · exact List.nodup_append.2 ⟨h1.1, by simp, fun a ha b hb e => by simp at hb; subst hb; subst e; exact hm ha⟩
        · intro x hx
          rcases List.mem_append.1 hx with hx | hx
          · exact h1.2 x hx
          · rw [List.mem_singleton.1 hx]; exact hd
        · rw [List.mem_append, List.mem_singleton, h2, hex]
          constructor
          · rintro ((h3 | h3) | h3)
            · exact Or.inl h3
            · exact Or.inr (Or.inl h3)
            · exact Or.inr (Or.inr ⟨h3.symm, by rw [← h3] at ht; exact ht⟩)
          · rintro (h3 | h3 | ⟨h3, h4⟩)
            · exact Or.inl (Or.inl h3)
            · exact Or.inl (Or.inr h3)
            · exact Or.inr h3.symm
      · rw [if_neg (fun h => ht h.1)]
        refine ⟨h1, ?_⟩
        rw [h2, hex]
        constructor
        · rintro (h3 | h3)
          · exact Or.inl h3
          · exact Or.inr (Or.inl h3)
        · rintro (h3 | h3 | ⟨h3, h4⟩)
          · exact Or.inl h3
          · exact Or.inr h3
          · subst h3; exact absurd h4 ht
theorem line_zero (G : Nat → Gt) (f0 : Nat) {Q : List Nat} (h : Q2 Q) : 0 ∈ (lineN 0 2 2 G 2 f0 Q 2).1 ↔ 0 ∈ Q ∨ (G 0).td ≠ 0 := by
  rw [(line2 G f0 h 2).2]
  constructor
  · rintro (h3 | ⟨i, _, _, h4⟩)
    · exact Or.inl h3
    · exact Or.inr h4
  · rintro (h3 | h3)
    · exact Or.inl h3
    · refine Or.inr ⟨f0 % 2, by omega, by omega, h3⟩
/-- A step of the law, on one poll. -/
def sDo (kd : Int) (d : Nat) (mk hd md : Int) (s : Ps) : Ps :=
  if kd = 0 then sOpen s d else if kd = 1 then sClose 0 2 s d else if kd = 2 then sPost 64 s d mk else if kd = 3 then sWatch 0 2 s d hd mk md
  else if kd = 4 then sUnwatch 0 2 s d else if kd = 5 then sAck s d mk else if kd = 6 then sSettle 2 0 2 2 s else s
/-- What both tell of device 0. -/
structure AR (i : Nat) (s t : Ps) : Prop where
  g : s.G 0 = t.G 0
  n : of0 s.N = of0 t.N
  l : s.N.length ≤ i ∧ t.N.length ≤ i
  q : 0 ∈ s.Q ↔ 0 ∈ t.Q
theorem AR.start : AR 0 ⟨fun _ => gz, [], 0, []⟩ ⟨fun _ => gz, [], 0, []⟩ := ⟨rfl, rfl, ⟨Nat.le_refl _, Nat.le_refl _⟩, Iff.rfl⟩
theorem of0_keep (l : List (Int × Int)) (h : ∀ v ∈ l, 0 ≤ v.1) : of0 (l.filter fun v => decide (v.1 ≠ ((1 : Nat) : Int))) = of0 l := by
  unfold of0
  rw [List.filter_filter]
  refine List.filter_congr fun v hv => ?_
  have := h v hv
  by_cases e : v.1.toNat = 0
  · have : v.1 ≠ 1 := by omega
    simp [e, this]
  · simp [e]
theorem of0_gone (l : List (Int × Int)) (h : ∀ v ∈ l, 0 ≤ v.1) : of0 (l.filter fun v => decide (v.1 ≠ ((0 : Nat) : Int))) = [] := by
  unfold of0
  rw [List.filter_filter]
  refine List.filter_eq_nil_iff.2 fun v hv => ?_
  have := h v hv
  by_cases e : v.1.toNat = 0
  · have : v.1 = 0 := by omega
    simp [this]
  · simp [e]
section
variable {i : Nat} {s t : Ps} {kd mk hd md : Int}
/-- Device 1: the other poll stays. -/
theorem AR.left (H : AR i s t) (h6 : kd ≠ 6) (hi : i < 64) (hN : ∀ v ∈ s.N, 0 ≤ v.1) : AR (i + 1) (sDo kd 1 mk hd md s) t := by
  have w1 : s.N.length ≤ i + 1 ∧ t.N.length ≤ i + 1 := ⟨Nat.le_succ_of_le H.l.1, Nat.le_succ_of_le H.l.2⟩
  have g1 : ∀ g, updG s.G 1 g 0 = t.G 0 := fun g => by unfold updG; rw [if_neg (by omega)]; exact H.g
  have q1 : 0 ∈ dropD 0 2 s.Q ((1 : Nat) : Int) ↔ 0 ∈ t.Q := by rw [drop2 (by omega), List.mem_erase_of_ne (by omega)]; exact H.q
  unfold sDo
  by_cases e0 : kd = 0
  · rw [if_pos e0]; exact ⟨g1 (gOpen (s.G 1)).1, H.n, w1, H.q⟩
  rw [if_neg e0]
  by_cases e1 : kd = 1
  · rw [if_pos e1]
    refine ⟨g1 (gClose (s.G 1)).1, ?_, ⟨?_, w1.2⟩, ?_⟩
    · show of0 (if _ then _ else _) = _
      split
      · rw [of0_keep _ hN]; exact H.n
      · exact H.n
    · show (if _ then _ else _ : List (Int × Int)).length ≤ _
      split
      · exact Nat.le_trans (List.length_filter_le _ _) w1.1
      · exact w1.1
    · show 0 ∈ (if _ then _ else _ : List Nat) ↔ _
      split
      · exact q1
      · exact H.q
  rw [if_neg e1]
  by_cases e2 : kd = 2
  · rw [if_pos e2]
    unfold sPost
    split
    · rw [if_pos (by have := H.l.1; omega)]
      refine ⟨H.g, ?_, ⟨by simp; exact H.l.1, w1.2⟩, H.q⟩
      unfold of0
      rw [List.filter_append, List.filter_cons_of_neg (by simp), List.filter_nil, List.append_nil]
      exact H.n
    · exact ⟨H.g, H.n, w1, H.q⟩
  rw [if_neg e2]
  by_cases e3 : kd = 3
  · rw [if_pos e3]
    refine ⟨g1 (gWatch (s.G 1) hd mk md).1, H.n, w1, ?_⟩
    show 0 ∈ (if _ then _ else _ : List Nat) ↔ _
    split
    · exact q1
    · exact H.q
  rw [if_neg e3]
  by_cases e4 : kd = 4
  · rw [if_pos e4]
    refine ⟨g1 (gUnwatch (s.G 1)).1, H.n, w1, ?_⟩
    show 0 ∈ (if _ then _ else _ : List Nat) ↔ _
    split
    · exact q1
    · exact H.q
  rw [if_neg e4]
  by_cases e5 : kd = 5
  · rw [if_pos e5]; exact ⟨g1 (gAck (s.G 1) mk).1, H.n, w1, H.q⟩
  rw [if_neg e5, if_neg h6]
  exact ⟨H.g, H.n, w1, H.q⟩
theorem AR.settle (H : AR i s t) (hs : Q2 s.Q) (ht : Q2 t.Q) : AR (i + 1) (sSettle 2 0 2 2 s) (sSettle 2 0 2 2 t) := by
  have hg : sG 2 s 0 = sG 2 t 0 := by
    unfold sG flushN
    rw [if_pos (by omega), if_pos (by omega), meetN_zero, meetN_zero, H.g, H.n]
  refine ⟨hg, rfl, ⟨Nat.zero_le _, Nat.zero_le _⟩, ?_⟩
  show 0 ∈ (lineN 0 2 2 (sG 2 s) 2 s.f s.Q 2).1 ↔ 0 ∈ (lineN 0 2 2 (sG 2 t) 2 t.f t.Q 2).1
  rw [line_zero _ _ hs, line_zero _ _ ht, hg, H.q]
/-- Device 0, or all: both. -/
theorem AR.both (H : AR i s t) (hi : i < 64) (hN : ∀ v ∈ s.N, 0 ≤ v.1) (hM : ∀ v ∈ t.N, 0 ≤ v.1) (hs : Q2 s.Q) (ht : Q2 t.Q) : AR (i + 1) (sDo kd 0 mk hd md s) (sDo kd 0 mk hd md t) := by
  have w1 : s.N.length ≤ i + 1 ∧ t.N.length ≤ i + 1 := ⟨Nat.le_succ_of_le H.l.1, Nat.le_succ_of_le H.l.2⟩
  have g1 : ∀ (f : Gt → Gt), updG s.G 0 (f (s.G 0)) 0 = updG t.G 0 (f (t.G 0)) 0 := fun f => by unfold updG; rw [if_pos rfl, if_pos rfl, H.g]
  have q1 : 0 ∈ dropD 0 2 s.Q ((0 : Nat) : Int) ↔ 0 ∈ dropD 0 2 t.Q ((0 : Nat) : Int) := by
    rw [drop2 (by omega), drop2 (by omega)]
    exact iff_of_false (fun h => (hs.1.mem_erase_iff.1 h).1 rfl) (fun h => (ht.1.mem_erase_iff.1 h).1 rfl)
  unfold sDo
  by_cases e0 : kd = 0
  · rw [if_pos e0, if_pos e0]; exact ⟨g1 fun g => (gOpen g).1, H.n, w1, H.q⟩
  rw [if_neg e0, if_neg e0]
  by_cases e1 : kd = 1
  · rw [if_pos e1, if_pos e1]
    refine ⟨g1 fun g => (gClose g).1, ?_, ⟨?_, ?_⟩, ?_⟩
    · show of0 (if (s.G 0).op = true then _ else _) = of0 (if (t.G 0).op = true then _ else _)
      rw [H.g]
      split
      · rw [of0_gone _ hN, of0_gone _ hM]
      · exact H.n
    · show (if _ then _ else _ : List (Int × Int)).length ≤ _
      split
      · exact Nat.le_trans (List.length_filter_le _ _) w1.1
      · exact w1.1
    · show (if _ then _ else _ : List (Int × Int)).length ≤ _
      split
      · exact Nat.le_trans (List.length_filter_le _ _) w1.2
      · exact w1.2
    · show 0 ∈ (if (s.G 0).op = true then _ else _ : List Nat) ↔ 0 ∈ (if (t.G 0).op = true then _ else _ : List Nat)
      rw [H.g]
      split
      · exact q1
      · exact H.q
  rw [if_neg e1, if_neg e1]
  by_cases e2 : kd = 2
  · rw [if_pos e2, if_pos e2]
    unfold sPost
    rw [H.g]
    split
    · rw [if_pos (by have := H.l.1; omega), if_pos (by have := H.l.2; omega)]
      refine ⟨H.g, ?_, ⟨by simp; exact H.l.1, by simp; exact H.l.2⟩, H.q⟩
      unfold of0
      rw [List.filter_append, List.filter_append]
      congr 1
      exact H.n
    · exact ⟨H.g, H.n, w1, H.q⟩
  rw [if_neg e2, if_neg e2]
  by_cases e3 : kd = 3
  · rw [if_pos e3, if_pos e3]
    refine ⟨g1 fun g => (gWatch g hd mk md).1, H.n, w1, ?_⟩
    show 0 ∈ (if (gWatch (s.G 0) hd mk md).2 = true then _ else _ : List Nat) ↔ 0 ∈ (if (gWatch (t.G 0) hd mk md).2 = true then _ else _ : List Nat)
    rw [H.g]
    split
    · exact q1
    · exact H.q
  rw [if_neg e3, if_neg e3]
  by_cases e4 : kd = 4
  · rw [if_pos e4, if_pos e4]
    refine ⟨g1 fun g => (gUnwatch g).1, H.n, w1, ?_⟩
    show 0 ∈ (if (gUnwatch (s.G 0)).2 = true then _ else _ : List Nat) ↔ 0 ∈ (if (gUnwatch (t.G 0)).2 = true then _ else _ : List Nat)
    rw [H.g]
    split
    · exact q1
    · exact H.q
  rw [if_neg e4, if_neg e4]
  by_cases e5 : kd = 5
  · rw [if_pos e5, if_pos e5]; exact ⟨g1 fun g => (gAck g mk).1, H.n, w1, H.q⟩
  rw [if_neg e5, if_neg e5]
  by_cases e6 : kd = 6
  · rw [if_pos e6, if_pos e6]; exact H.settle hs ht
  rw [if_neg e6, if_neg e6]
  exact ⟨H.g, H.n, w1, H.q⟩
end
end Go.Proofs.Ytpnipmjjhiaieaa
