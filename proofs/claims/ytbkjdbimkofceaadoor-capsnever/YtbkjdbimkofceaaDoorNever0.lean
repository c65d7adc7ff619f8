/-
  What CapsNever keeps of a table: the state of all handles that were ever made, and what a step turns in it; the table's calls in these words.
-/
import Derived.Test.YtbkjdbimkofceaaDoorAlive5
import Derived.Maps.Own
import Derived.Maps.OwnSet
import Derived.Maps.Views
import Derived.Maps.AppendAt
import Derived.DataShut
namespace Go.Proofs.YtbkjdbimkofceaaDoor
open Go.RowKit Go.Lib Go.Maps
set_option maxRecDepth 100000

theorem hbits_inj {p g r p' g' r' : Nat} (hp : p < 65536) (hr : r < 256) (hp' : p' < 65536) (hr' : r' < 256) (h : hbits p g r = hbits p' g' r') : p = p' ∧ g = g' ∧ r = r' := by unfold hbits at h; omega
theorem place_or (S : Nat → Bool) (n : Nat) : (∃ p, p < n ∧ S p = false ∧ ∀ q, q < p → S q = true) ∨ (∀ q, q < n → S q = true) := by
  induction n with
  | zero => exact Or.inr fun q h => absurd h (Nat.not_lt_zero q)
  | succ n ih =>
    rcases ih with ⟨p, h1, h2, h3⟩ | h
    · exact Or.inl ⟨p, by omega, h2, h3⟩
    · cases e : S n
      · exact Or.inl ⟨n, by omega, e, h⟩
      · exact Or.inr fun q hq => if hn : q = n then hn ▸ e else h q (by omega)
theorem cnt_upd (P : Nat → Bool) (p : Nat) (b : Bool) (hb : P p = !b) : ∀ n, p < n → cnt (fun j => if j = p then b else P j) n + (if b then 0 else 1) = cnt P n + (if b then 1 else 0)
  | 0, h => absurd h (Nat.not_lt_zero p)
  | n + 1, h => by
    by_cases e : p = n
    · subst e
      have h1 : cnt (fun j => if j = p then b else P j) p = cnt P p := cnt_congr fun j hj => by simp [show j ≠ p by omega]
      simp only [cnt, h1, hb]
      cases b <;> simp
    · have ih := cnt_upd P p b hb n (by omega)
      simp only [cnt, show n ≠ p by omega, if_false]
      omega
theorem liveN_upd (T : Nat → Pl) (p : Nat) (q : Pl) (n : Nat) (hp : p < n) (h : (T p).out = !q.out) : liveN (upV T p q) n + (if q.out then 0 else 1) = liveN T n + (if q.out then 1 else 0) := by
  have e : liveN (upV T p q) n = cnt (fun j => if j = p then q.out else (T j).out) n := cnt_congr fun j _ => by
    by_cases e : j = p
    · simp [e, upV]
    · simp [e, upV]
  rw [e]
  exact cnt_upd (fun j => (T j).out) p q.out h n hp
theorem filter_upd {st : Nat → Nat} {h x : Nat} : ∀ {M : List Nat}, M.Nodup → h ∈ M → st h = 1 → x ≠ 1 → (M.filter fun k => decide (upV st h x k = 1)).length + 1 = (M.filter fun k => decide (st k = 1)).length
  | [], _, hm, _, _ => by cases hm
  | a :: M, hn, hm, h1, hx => by
    have hn' := List.nodup_cons.1 hn
    by_cases e : a = h
    · subst e
      have : ∀ k ∈ M, decide (upV st a x k = 1) = decide (st k = 1) := fun k hk => by rw [upV_other st a x k (fun e => hn'.1 (e ▸ hk))]
      simp [List.filter_cons, upV_same, h1, hx, List.filter_congr this]
    · have ih := filter_upd (st := st) (x := x) hn'.2 ((List.mem_cons.1 hm).resolve_left (fun e' => e e'.symm)) h1 hx
      simp only [List.filter_cons, upV_other st h x a e]
      split
      · simp only [List.length_cons]; omega
      · exact ih
theorem filter_far {st : Nat → Nat} {h x : Nat} {M : List Nat} (hm : h ∉ M) : (M.filter fun k => decide (upV st h x k = 1)) = (M.filter fun k => decide (st k = 1)) :=
  List.filter_congr fun k hk => by rw [upV_other st h x k (fun e => hm (e ▸ hk))]

/-- The states of all handles, those that were made, the table. -/
structure Nv (st : Nat → Nat) (T : Nat → Pl) (M : List Nat) (n : Nat) : Prop where
  one : ∀ h, st h = 1 ↔ ∃ p, p < n ∧ (T p).out = true ∧ hbits p (T p).gen (T p).r = h
  old : ∀ h, st h ≠ 0 → ∃ p g r, p < n ∧ g ≤ (T p).gen ∧ r < 256 ∧ h = hbits p g r
  mem : ∀ h, h ∈ M → st h ≠ 0
  all : ∀ h, st h = 1 → h ∈ M
  nd : M.Nodup
  live : (M.filter fun k => decide (st k = 1)).length = liveN T n
  lt : ∀ h, h ∈ M → h < 18446744073709551616
  le : ∀ h, st h ≤ 2
theorem nv_new (n : Nat) : Nv (fun _ => 0) (fun _ => Pl.fresh) [] n := by
  refine ⟨fun h => ⟨fun e => (by cases e), fun ⟨p, _, e, _⟩ => (by cases e)⟩, fun h e => absurd rfl e, fun h e => (by cases e), fun h e => (by cases e), List.nodup_nil, ?_, fun h e => (by cases e), fun h => Nat.zero_le _⟩
  have : ∀ m, cnt (fun _ => false) m = 0 := by
    intro m
    induction m with
    | zero => rfl
    | succ m ih => rw [cnt, ih]; rfl
  exact (this n).symm
theorem nv_fresh {st : Nat → Nat} {T : Nat → Pl} {M : List Nat} {n p r : Nat} (H : Nv st T M n) (hn : n ≤ 256) (hp : p < n) (hr : r < 256) : st (hbits p ((T p).gen + 1) r) = 0 := by
  apply Classical.byContradiction
  intro h
  obtain ⟨p', g, r', h1, h2, h3, h4⟩ := H.old _ h
  obtain ⟨e1, e2, e3⟩ := hbits_inj (by omega) hr (by omega) h3 h4
  subst e1
  omega
theorem nv_mint {st : Nat → Nat} {T : Nat → Pl} {M : List Nat} {n G p : Nat} {k i : Int} {r : Nat} (H : Nv st T M n) (hn : n ≤ 256) (hG : G ≤ 16777215) (ok : ∀ j, j < n → (T j).ok G) (hp : p < n) (hr : r < 256) (h1 : (T p).out = false) :
    Nv (upV st (hbits p ((T p).gen + 1) r) 1) (upV T p ⟨(T p).gen + 1, true, k, i, r⟩) (M ++ [hbits p ((T p).gen + 1) r]) n := by
  have hf := nv_fresh H hn hp hr
  have hnm : hbits p ((T p).gen + 1) r ∉ M := fun hm => H.mem _ hm hf
  refine ⟨fun h => ⟨fun e => ?_, fun ⟨q, q1, q2, q3⟩ => ?_⟩, fun h e => ?_, fun h hm => ?_, fun h e => ?_, ?_, ?_, fun h hm => ?_, fun h => ?_⟩
  · by_cases eh : h = hbits p ((T p).gen + 1) r
    · exact ⟨p, hp, by rw [upV_same], by rw [upV_same]; exact eh.symm⟩
    · rw [upV_other _ _ _ _ eh] at e
      obtain ⟨q, q1, q2, q3⟩ := (H.one h).1 e
      have : q ≠ p := fun e => by subst e; rw [h1] at q2; cases q2
      exact ⟨q, q1, by rw [upV_other _ _ _ _ this]; exact q2, by rw [upV_other _ _ _ _ this]; exact q3⟩
  · by_cases e : q = p
    · subst e
      rw [upV_same] at q3
      rw [← q3, upV_same]
    · rw [upV_other _ _ _ _ e] at q2 q3
      have := (H.one h).2 ⟨q, q1, q2, q3⟩
      by_cases eh : h = hbits p ((T p).gen + 1) r
      · subst eh; rw [hf] at this; cases this
      · rw [upV_other _ _ _ _ eh]; exact this
  · by_cases eh : h = hbits p ((T p).gen + 1) r
    · exact ⟨p, _, r, hp, by rw [upV_same]; exact Nat.le_refl _, hr, eh⟩
    · rw [upV_other _ _ _ _ eh] at e
      obtain ⟨q, g, r', q1, q2, q3, q4⟩ := H.old h e
      refine ⟨q, g, r', q1, ?_, q3, q4⟩
      by_cases e : q = p
      · subst e; rw [upV_same]; show g ≤ (T q).gen + 1; omega
      · rw [upV_other _ _ _ _ e]; exact q2
  · rcases List.mem_append.1 hm with hm | hm
    · by_cases eh : h = hbits p ((T p).gen + 1) r
      · subst eh; rw [upV_same]; decide
      · rw [upV_other _ _ _ _ eh]; exact H.mem h hm
    · rw [List.mem_singleton.1 hm, upV_same]; decide
  · by_cases eh : h = hbits p ((T p).gen + 1) r
    · exact List.mem_append.2 (Or.inr (List.mem_singleton.2 eh))
    · rw [upV_other _ _ _ _ eh] at e
      exact List.mem_append.2 (Or.inl (H.all h e))
  · rw [List.nodup_append]
    exact ⟨H.nd, (by simp), fun a ha b hb e => hnm (List.mem_singleton.1 hb ▸ e ▸ ha)⟩
  · have := liveN_upd T p ⟨(T p).gen + 1, true, k, i, r⟩ n hp (by rw [h1]; rfl)
    rw [List.filter_append, filter_far hnm]
    have e : ([hbits p ((T p).gen + 1) r].filter fun k => decide (upV st (hbits p ((T p).gen + 1) r) 1 k = 1)).length = 1 := by simp [upV_same]
    rw [List.length_append, H.live, e]
    simp at this
    omega
  · rcases List.mem_append.1 hm with hm | hm
    · exact H.lt h hm
    · rw [List.mem_singleton.1 hm]
      obtain ⟨o1, _, _⟩ := ok p hp
      exact hbits_lt _ _ _ (by omega) (by omega) hr
  · by_cases eh : h = hbits p ((T p).gen + 1) r
    · rw [eh, upV_same]; decide
    · rw [upV_other _ _ _ _ eh]; exact H.le h
theorem nv_drop {st : Nat → Nat} {T : Nat → Pl} {M : List Nat} {n G p : Nat} (H : Nv st T M n) (hn : n ≤ 256) (ok : ∀ j, j < n → (T j).ok G) (hp : p < n) (h1 : (T p).out = true) (hm0 : hbits p (T p).gen (T p).r ∈ M) :
    Nv (upV st (hbits p (T p).gen (T p).r) 2) (upV T p (T p).drop) M n := by
  have hst : st (hbits p (T p).gen (T p).r) = 1 := (H.one _).2 ⟨p, hp, h1, rfl⟩
  have hr : (T p).r < 256 := (ok p hp).2.2
  refine ⟨fun h => ⟨fun e => ?_, fun ⟨q, q1, q2, q3⟩ => ?_⟩, fun h e => ?_, fun h hm => ?_, fun h e => ?_, H.nd, ?_, H.lt, fun h => ?_⟩
  · by_cases eh : h = hbits p (T p).gen (T p).r
    · rw [eh, upV_same] at e; cases e
    · rw [upV_other _ _ _ _ eh] at e
      obtain ⟨q, q1, q2, q3⟩ := (H.one h).1 e
      have : q ≠ p := fun e => by subst e; exact eh q3.symm
      exact ⟨q, q1, by rw [upV_other _ _ _ _ this]; exact q2, by rw [upV_other _ _ _ _ this]; exact q3⟩
  · by_cases e : q = p
    · subst e; rw [upV_same] at q2; cases q2
    · rw [upV_other _ _ _ _ e] at q2 q3
      have := (H.one h).2 ⟨q, q1, q2, q3⟩
      by_cases eh : h = hbits p (T p).gen (T p).r
      · rw [eh] at q3
        obtain ⟨e1, _⟩ := hbits_inj (by omega) (ok q q1).2.2 (by omega) hr q3
        exact absurd e1 e
      · rw [upV_other _ _ _ _ eh]; exact this
  · have e' : st h ≠ 0 := by
      by_cases eh : h = hbits p (T p).gen (T p).r
      · rw [eh, hst]; decide
      · rw [upV_other _ _ _ _ eh] at e; exact e
    obtain ⟨q, g, r', q1, q2, q3, q4⟩ := H.old h e'
    refine ⟨q, g, r', q1, ?_, q3, q4⟩
    by_cases e : q = p
    · subst e; rw [upV_same]; exact q2
    · rw [upV_other _ _ _ _ e]; exact q2
  · by_cases eh : h = hbits p (T p).gen (T p).r
    · rw [eh, upV_same]; decide
    · rw [upV_other _ _ _ _ eh]; exact H.mem h hm
  · by_cases eh : h = hbits p (T p).gen (T p).r
    · rw [eh]; exact hm0
    · rw [upV_other _ _ _ _ eh] at e; exact H.all h e
  · have := liveN_upd T p (T p).drop n hp (by rw [h1]; rfl)
    have f := filter_upd (x := 2) H.nd hm0 hst (by decide)
    rw [H.live] at f
    simp [Pl.drop] at this
    simp only [Pl.drop]
    omega
  · by_cases eh : h = hbits p (T p).gen (T p).r
    · rw [eh, upV_same]; decide
    · rw [upV_other _ _ _ _ eh]; exact H.le h
theorem nv_idle {st : Nat → Nat} {T : Nat → Pl} {M : List Nat} {n h : Nat} (H : Nv st T M n) (hm : h ∈ M) (h1 : st h ≠ 1) : upV st h 2 = st := by
  have := H.le h
  have := H.mem h hm
  have e : st h = 2 := by omega
  funext k
  by_cases ek : k = h
  · rw [ek, upV_same, e]
  · rw [upV_other _ _ _ _ ek]

/-- The map holds the states. -/
def MapIs (D : DataW Unit) (st : Nat → Nat) : Prop := ∀ h : Nat, D.atKey (.int .u64 (h : Int)) (.lit (.int .i64 0)) = .lit (.int .i64 (st h : Nat))
theorem mapIs_nil : MapIs (.map []) (fun _ => 0) := fun h => rfl
theorem mapIs_put {D : DataW Unit} {st : Nat → Nat} (H : MapIs D st) (hm : IsMap D) (h x : Nat) : MapIs (D.put (.int .u64 (h : Int)) (.lit (.int .i64 (x : Nat)))) (upV st h x) := fun k => by
  by_cases e : k = h
  · subst e; rw [atKey_put_same hm (show WideAt.IsKeyLit (.int .u64 (k : Int)) from trivial), upV_same]
  · rw [atKey_put_other (by intro h; injection h with _ h2; omega), H k, upV_other _ _ _ _ e]

section
variable {w : World} {lo hi tb n G : Nat} {T : Nat → Pl} {st : Nat → Nat} {M : List Nat}
theorem nlook_yes (h : Nat) (H : Tb w lo hi tb n G T) (N : Nv st T M n) (hs : st h = 1) : ∃ a b c : Int,
    Calls Tryd.prog 14 #[.pointer (some ⟨tb, 0, none⟩), .int .u64 (h : Nat)] w fun e w' => e = .returned (.tuple #[.agg #[.int .i64 a, .int .i64 b, .int .i64 c], .int .i64 0]) ∧ w.grownBy w' none := by
  obtain ⟨p, hp, ho, rfl⟩ := (N.one h).1 hs
  exact ⟨_, _, _, tlook_in p H hp ho⟩
theorem nlook_no (h : Nat) (H : Tb w lo hi tb n G T) (N : Nv st T M n) (hh : h < 18446744073709551616) (hs : st h ≠ 1) :
    Calls Tryd.prog 14 #[.pointer (some ⟨tb, 0, none⟩), .int .u64 (h : Nat)] w fun e w' => e = .returned (.tuple #[.agg #[.int .i64 0, .int .i64 0, .int .i64 0], .int .i64 5]) ∧ w.grownBy w' none :=
  tlook_no h H hh fun p hp ho e => hs ((N.one h).2 ⟨p, hp, ho, e⟩)
theorem nrev_yes (h : Nat) (H : Tb w lo hi tb n G T) (N : Nv st T M n) (hs : st h = 1) :
    Calls Tryd.prog 12 #[.pointer (some ⟨tb, 0, none⟩), .int .u64 (h : Nat)] w fun x w' => ∃ T', x = .returned (.int .i64 0) ∧ Only lo hi w w' ∧ Tb w' lo hi tb n G T' ∧ Nv (upV st h 2) T' M n := by
  have hm := N.all h hs
  obtain ⟨p, hp, ho, rfl⟩ := (N.one h).1 hs
  obtain ⟨hn, _, ok⟩ := H.ok
  exact (trev_ok p H hp ho).mono fun x w' ⟨hx, k, H'⟩ => ⟨_, hx, k, H', nv_drop N hn ok hp ho hm⟩
theorem nrev_no (h : Nat) (H : Tb w lo hi tb n G T) (N : Nv st T M n) (hh : h < 18446744073709551616) (hs : st h ≠ 1) :
    Calls Tryd.prog 12 #[.pointer (some ⟨tb, 0, none⟩), .int .u64 (h : Nat)] w fun x w' => x = .returned (.int .i64 5) ∧ w.grownBy w' none :=
  trev_no h H hh fun p hp ho e => hs ((N.one h).2 ⟨p, hp, ho, e⟩)
theorem nmint (k i r : Int) (H : Tb w lo hi tb n G T) (hT : TabAt w) (N : Nv st T M n) :
    (∃ h : Nat, st h = 0 ∧ h < 18446744073709551616 ∧ Calls Tryd.prog 9 #[.pointer (some ⟨tb, 0, none⟩), .agg #[.int .i64 k, .int .i64 i, .int .i64 r]] w fun e w' => ∃ T', e = .returned (.tuple #[.int .u64 (h : Nat), .int .i64 0]) ∧ Only lo hi w w' ∧ Tb w' lo hi tb n G T' ∧ Nv (upV st h 1) T' (M ++ [h]) n) ∨
    Calls Tryd.prog 9 #[.pointer (some ⟨tb, 0, none⟩), .agg #[.int .i64 k, .int .i64 i, .int .i64 r]] w fun e w' => e = .returned (.tuple #[.int .u64 0, .int .i64 4]) ∧ w.grownBy w' none := by
  obtain ⟨hn, hG, ok⟩ := H.ok
  rcases place_or (fun q => (T q).full G) n with ⟨p, hp, hf, hl⟩ | hl
  · have h1 : (T p).out = false := by cases h : (T p).out <;> simp [Pl.full, h] at hf ⊢
    have h2 : (T p).gen < G := by simp [Pl.full, h1] at hf; omega
    have hr : (r % 256).toNat < 256 := by omega
    have hlt : hbits p ((T p).gen + 1) (r % 256).toNat < 18446744073709551616 := hbits_lt _ _ _ (by omega) (by omega) hr
    exact Or.inl ⟨hbits p ((T p).gen + 1) (r % 256).toNat, nv_fresh N hn hp hr, hlt, (tmint_ok p k i r H hT hp h1 h2 hl).mono fun e w' ⟨he, t, c⟩ => ⟨_, he, t, c, nv_mint N hn hG.2 ok hp hr h1⟩⟩
  · exact Or.inr (tmint_no k i r H hT hl)
end

/-- Handles as the cells of a row. -/
def ucells (F : List Nat) : List Value := F.map fun (x : Nat) => Value.int .u64 (x : Int)
theorem ucells_snoc (F : List Nat) (k : Nat) : ucells F ++ [Value.int .u64 (k : Int)] = ucells (F ++ [k]) := by simp [ucells]
/-- A row of handles of the call's own, from block B on. -/
def URow (w : World) (B r cp : Nat) (F : List Nat) : Prop := w.ownsRow B 23 1 (.slice (some ⟨r, 0, none⟩) F.length cp) F.length (ucells F)
theorem URow.lt {w : World} {B r cp : Nat} {F : List Nat} (h : URow w B r cp F) : B ≤ r ∧ r < w.heap.size := World.ownsRow.lt h r rfl
theorem URow.cell {w : World} {B r cp : Nat} {F : List Nat} (h : URow w B r cp F) (j : Nat) (hj : j < F.length) : w.cell? ⟨r, j, none⟩ = some (.int .u64 (F[j] : Nat)) := by
  rw [World.ownsRow.cellAt h j (by omega)]; simp [ucells, hj]
theorem URow.kept {w w' : World} {B r cp : Nat} {F : List Nat} {row : Option Nat} (h : URow w B r cp F) (hg : w.grownBy w' row) (hr : some r ≠ row) : URow w' B r cp F := World.ownsRow.kept h hg (Or.inr hr)
theorem URow.only {w w' : World} {B r cp lo hi : Nat} {F : List Nat} (h : URow w B r cp F) (k : Only lo hi w w') (hr : r < lo ∨ hi ≤ r) : URow w' B r cp F := own_only h k hr
theorem urow_of_owns {w : World} {B : Nat} {v : Value} {F : List Nat} {k : Nat} {xs : List Value} (h : w.ownsRow B 23 1 v k xs) (hk : k = F.length) (hx : xs = ucells F) (hv : v ≠ .slice none 0 0) : ∃ r cp, v = .slice (some ⟨r, 0, none⟩) F.length cp ∧ URow w B r cp F := by
  subst hk
  subst hx
  rcases h.2 with ⟨h0, _⟩ | ⟨r, cp, cur, hv', _⟩
  · exact absurd h0 hv
  · subst hv'
    exact ⟨r, cp, rfl, h⟩
theorem u64_info : ∃ i : TypeInfo, Tryd.prog.info? 23 = some i ∧ i.zero = some (.int .u64 0) ∧ i.size = 1 ∧ i.bytes = 8 := ⟨_, rfl, rfl, rfl, rfl⟩
theorem ulit_room (w : World) (B : Nat) (hB : B ≤ w.heap.size) : URow (w.alloc (.cells #[] 23)) B w.heap.size 0 [] :=
  World.ownsRow_made w #[] 0 hB (by decide) rfl
theorem law_u64 : Keyed Tryd.prog 23 := int_keyed Tryd.underlying23
theorem zero_int (w : World) : (zeroValue 3).run Tryd.prog w = .ok (.int .i64 0) w := rfl
theorem wf_u64 (k : Nat) (h : k < 18446744073709551616) : (Lit.int .u64 (k : Int)).wf = true := by
  rw [Lit.wf_int_iff]
  exact ⟨by show (0 : Int) ≤ _; omega, by show _ ≤ (18446744073709551615 : Int); omega⟩
theorem wf_i64 (k : Nat) (h : k ≤ 4096) : (Lit.int .i64 (k : Int)).wf = true := by
  rw [Lit.wf_int_iff]
  exact ⟨by show (-9223372036854775808 : Int) ≤ _; omega, by show _ ≤ (9223372036854775807 : Int); omega⟩

/-- All that a step of CapsNever works on: the table below, the map in block mb, the row of handles behind it. -/
structure Nev (w : World) (lo hi tb n G mb r cp j : Nat) (st : Nat → Nat) (T : Nat → Pl) (M : List Nat) (D : DataW Unit) : Prop where
  tab : Tb w lo hi tb n G T
  nv : Nv st T M n
  mp : w.ownsMap Tryd.prog 23 (plainElem Tryd.prog 3) mb j D
  is : MapIs D st
  row : URow w (mb + 1) r cp M
  ml : M.length ≤ j
  hm : hi ≤ mb
section
variable {w w' : World} {lo hi tb n G mb r cp j : Nat} {st : Nat → Nat} {T : Nat → Pl} {M : List Nat} {D : DataW Unit}
theorem Nev.grown (H : Nev w lo hi tb n G mb r cp j st T M D) (k : w.grownBy w' none) : Nev w' lo hi tb n G mb r cp j st T M D :=
  ⟨H.tab.grown k, H.nv, H.mp.kept k (by simp), H.is, H.row.kept k (by simp), H.ml, H.hm⟩
theorem Nev.later {j' : Nat} (H : Nev w lo hi tb n G mb r cp j st T M D) (h : j ≤ j') : Nev w lo hi tb n G mb r cp j' st T M D :=
  ⟨H.tab, H.nv, H.mp.mono h, H.is, H.row, Nat.le_trans H.ml h, H.hm⟩
theorem Nev.lt (H : Nev w lo hi tb n G mb r cp j st T M D) : mb < r ∧ r < w.heap.size ∧ hi ≤ mb ∧ lo < hi := by
  have := H.row.lt
  have := H.tab.sz
  have := H.hm
  omega
theorem map_only {l h : Nat} (H : w.ownsMap Tryd.prog 23 (plainElem Tryd.prog 3) mb j D) (k : Only l h w w') (hd : mb < l ∨ h ≤ mb) : w'.ownsMap Tryd.prog 23 (plainElem Tryd.prog 3) mb j D := by
  have hl := H.lt
  unfold World.ownsMap at H ⊢
  rw [k.block mb hl hd]
  exact H
theorem map_look (mp : w.ownsMap Tryd.prog 23 (plainElem Tryd.prog 3) mb j D) (is : MapIs D st) (h : Nat) (hh : h < 18446744073709551616) :
    (Instr.lookup 47 (.map (some mb)) (.int .u64 (h : Int)) false).run Tryd.prog w = .ok (.int .i64 (st h : Nat)) w := by
  obtain ⟨c, hrun, hat, _⟩ := mp.lookup_int law_u64 Tryd.underlying47 Tryd.underlying3 (zero_int w) (keyOf_int_mk Tryd.underlying23 (wf_u64 h hh))
  have : c = (st h : Nat) := by
    have := hat.symm.trans (is h)
    simpa using this
  subst this
  exact hrun
theorem Nev.look (H : Nev w lo hi tb n G mb r cp j st T M D) (h : Nat) (hh : h < 18446744073709551616) :
    (Instr.lookup 47 (.map (some mb)) (.int .u64 (h : Int)) false).run Tryd.prog w = .ok (.int .i64 (st h : Nat)) w := by
  exact map_look H.mp H.is h hh
end
end Go.Proofs.YtbkjdbimkofceaaDoor
