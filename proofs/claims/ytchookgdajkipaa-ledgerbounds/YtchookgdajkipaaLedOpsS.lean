/-
  Contracts of package ledger, over this seat's translation, for a book of texts: a line put behind all others; Limit, Take, Give, Used, Left.
-/
import Derived.Test.YtchookgdajkipaaLedFindS
import Derived.Maps.AppendAt
namespace Go.Proofs.Ytchookgdajkipaa.LS
open Go.RowKit Go.Lib
set_option maxRecDepth 100000

theorem line_info : ∃ i : TypeInfo, Try.prog.info? 59 = some i ∧ i.zero = some (.agg #[kv ByteArray.empty, .int .i64 0, .int .i64 0]) ∧ i.size = 3 ∧ i.bytes = 32 := ⟨_, rfl, rfl, rfl, rfl⟩

section
variable {w : World} {B bb n : Nat} {v : Value} {K : Nat → ByteArray} {M U : Nat → Int}

set_option maxRecDepth 100000 in
set_option maxHeartbeats 4000000 in
theorem insert_end (key : ByteArray) (vb : Nat) (a : Option Addr) (cap : Nat) (hn : n ≤ 999999) (hB : B ≤ w.heap.size) (hown : w.ownsRow B 59 3 (.slice a n cap) n (lcells K M U n))
    (hv : w.cell? ⟨vb, 0, none⟩ = some (kv key) ∧ w.cell? ⟨vb, 1, none⟩ = some (.int .i64 0) ∧ w.cell? ⟨vb, 2, none⟩ = some (.int .i64 0)) :
    Calls Try.prog 28 #[.slice a n cap, .int .i64 n, .slice (some ⟨vb, 0, none⟩) 1 1] w fun e w' => ∃ v', e = .returned v' ∧ w.grownBy w' (Value.slice a n cap).ownBlock ∧ w'.ownsRow B 59 3 v' (n + 1) (lcells K M U n ++ [kv key, .int .i64 0, .int .i64 0]) ∧ (v'.ownBlock = (Value.slice a n cap).ownBlock ∨ v'.ownBlock = some w.heap.size) := by
  obtain ⟨i0, hi0, hz0, hz1, hz2⟩ := line_info
  have I0 := Lib.hid hi0
  have I1 := Lib.hid hz0
  have I2 := Lib.hid hz1
  have I3 := Lib.hid hz2
  clear hi0 hz0 hz1 hz2
  have HO := Lib.hid hown
  have HV : Hid (∀ j u, [kv key, Value.int .i64 0, Value.int .i64 0][j]? = some u → w.cell? ((⟨vb, 0, none⟩ : Addr).add j) = some u) := Lib.hid fun j u hu => by
    match j, hu with
    | 0, hu => simp at hu; subst hu; exact hv.1
    | 1, hu => simp at hu; subst hu; exact hv.2.1
    | 2, hu => simp at hu; subst hu; exact hv.2.2
  clear hown hv
  generalize hob : (Value.slice a n cap).ownBlock = ob
  have OB := Lib.hid hob
  clear hob
  go_enter Try.func28, Try.ntmps28
  have h1 : ∀ u ∈ [kv key, Value.int .i64 0, Value.int .i64 0], u.oneCell' = true := by
    intro u hu
    simp only [List.mem_cons, List.not_mem_nil, or_false] at hu
    rcases hu with rfl | rfl | rfl <;> rfl
  have H1 := Lib.hid h1
  clear h1
  go_wp2_with (
    at_builtin
    refine wpList_append_own_at _ rfl _ _ 24 rfl B 59 i0 (.agg #[kv ByteArray.empty, .int .i64 0, .int .i64 0]) 3 32 Try.underlying24 I0.out I1.out I2.out I3.out rfl (by decide) _ _ _ rfl HO.out ⟨vb, 0, none⟩ 1 1 [kv key, .int .i64 0, .int .i64 0] rfl rfl HV.out H1.out (by unfold maxLen; omega) (by omega) hB ?_
    intro v' w5 hown' hgrow hnil hat
    have G : Hid (w.grownBy w5 ob) := Lib.hid (by rw [← OB.out]; exact hgrow)
    have O := Lib.hid hown'
    have A : Hid (v'.ownBlock = ob ∨ v'.ownBlock = some w.heap.size) := Lib.hid (by rw [← OB.out]; exact hat)
    clear hgrow hnil hat hown'
    )
  all_goals
    go_ret
    exact ⟨v', rfl, G.out, O.out, A.out⟩

theorem lcells_setM (K : Nat → ByteArray) (M U : Nat → Int) (p : Nat) (x : Int) : ∀ n, (lcells K M U n).set (p * 3 + 1) (.int .i64 x) = lcells K (fun j => if j = p then x else M j) U n
  | 0 => rfl
  | n + 1 => by
    have ih := lcells_setM K M U p x n
    have hl := lcells_len K M U n
    simp only [lcells]
    by_cases h : p = n
    · subst h
      have e : (lcells K M U p).set (p * 3 + 1) (.int .i64 x) = lcells K M U p := List.set_eq_of_length_le (by omega)
      rw [e] at ih
      rw [← ih, List.set_append_right _ _ (by omega), hl, show p * 3 + 1 - p * 3 = 1 by omega]
      simp
    · by_cases h2 : p < n
      · rw [List.set_append_left _ _ (by omega), ih]
        simp [Ne.symm h]
      · rw [← ih, List.set_eq_of_length_le (by simp [hl]; omega), List.set_eq_of_length_le (by omega)]
        simp [Ne.symm h]
theorem lcells_setU (K : Nat → ByteArray) (M U : Nat → Int) (p : Nat) (x : Int) : ∀ n, (lcells K M U n).set (p * 3 + 2) (.int .i64 x) = lcells K M (fun j => if j = p then x else U j) n
  | 0 => rfl
  | n + 1 => by
    have ih := lcells_setU K M U p x n
    have hl := lcells_len K M U n
    simp only [lcells]
    by_cases h : p = n
    · subst h
      have e : (lcells K M U p).set (p * 3 + 2) (.int .i64 x) = lcells K M U p := List.set_eq_of_length_le (by omega)
      rw [e] at ih
      rw [← ih, List.set_append_right _ _ (by omega), hl, show p * 3 + 2 - p * 3 = 2 by omega]
      simp
    · by_cases h2 : p < n
      · rw [List.set_append_left _ _ (by omega), ih]
        simp [Ne.symm h]
      · rw [← ih, List.set_eq_of_length_le (by simp [hl]; omega), List.set_eq_of_length_le (by omega)]
        simp [Ne.symm h]

/-- A book whose lines' row, and one line of it, have turned. -/
theorem Bk.setM {r cap : Nat} (H : Bk w B bb (.slice (some ⟨r, 0, none⟩) n cap) n K M U) (p : Nat) (hp : p < n) (x : Int) (hx : 0 ≤ x ∧ x < 9223372036854775808) : Bk (w.setCell ⟨r, p * 3 + 1, none⟩ (.int .i64 x)) B bb (.slice (some ⟨r, 0, none⟩) n cap) n K (fun j => if j = p then x else M j) U := by
  have hne : r ≠ bb := fun e => H.nb (by rw [← e]; rfl)
  refine ⟨(World.cell?_setCell_other _ _ _ _ (by intro e; injection e with e1; exact hne e1)).trans H.c0, (World.frozen?_setCell ..).trans H.f0, ?_, H.srt, fun j hj => ?_, H.nb, ⟨H.lb.1, by simp [World.setCell]; exact H.lb.2⟩, H.hn⟩
  · have h := (H.own.stored (p * 3 + 1) (.int .i64 x)).1
    rw [lcells_setM] at h
    exact h
  · have := H.bd j hj
    by_cases e : j = p
    · simp [e]; subst e; omega
    · simp [e]; omega
theorem Bk.setU {r cap : Nat} (H : Bk w B bb (.slice (some ⟨r, 0, none⟩) n cap) n K M U) (p : Nat) (hp : p < n) (x : Int) (hx : 0 ≤ x ∧ x < 9223372036854775808) : Bk (w.setCell ⟨r, p * 3 + 2, none⟩ (.int .i64 x)) B bb (.slice (some ⟨r, 0, none⟩) n cap) n K M (fun j => if j = p then x else U j) := by
  have hne : r ≠ bb := fun e => H.nb (by rw [← e]; rfl)
  refine ⟨(World.cell?_setCell_other _ _ _ _ (by intro e; injection e with e1; exact hne e1)).trans H.c0, (World.frozen?_setCell ..).trans H.f0, ?_, H.srt, fun j hj => ?_, H.nb, ⟨H.lb.1, by simp [World.setCell]; exact H.lb.2⟩, H.hn⟩
  · have h := (H.own.stored (p * 3 + 2) (.int .i64 x)).1
    rw [lcells_setU] at h
    exact h
  · have := H.bd j hj
    by_cases e : j = p
    · simp [e]; subst e; omega
    · simp [e]; omega

/-- What a key is to another one. -/
theorem keq_same {a b : ByteArray} (h : keq a b = true) : klt a b = false ∧ ∀ c, klt c a = klt c b := by
  have e : a.toList = b.toList := by simpa [keq] using h
  refine ⟨?_, fun c => by simp only [klt, e]⟩
  have := klt_irr b
  simp only [klt, e] at *
  exact this

/-- Keys that are known: where. -/
def Known (K : Nat → ByteArray) (n : Nat) (key : ByteArray) (p : Nat) : Prop := p < n ∧ keq (K p) key = true
theorem find_in (key : ByteArray) (p : Nat) (H : Bk w B bb v n K M U) (hp : Known K n key p) :
    Calls Try.prog 27 #[.pointer (some ⟨bb, 0, none⟩), kv key] w fun e w' => e = .returned (.tuple #[.int .i64 p, .bool true]) ∧ w.grownBy w' none := by
  refine (find_any key H).mono ?_
  rintro e w' ⟨i, ok, rfl, hg, hs⟩
  obtain ⟨rfl, rfl⟩ := hs.uniq hp.1 hp.2 H.srt (fun a b h => keq_same h)
  exact ⟨rfl, hg⟩
theorem find_no (key : ByteArray) (H : Bk w B bb v n K M U) (hp : ∀ p, p < n → keq (K p) key = false) :
    Calls Try.prog 27 #[.pointer (some ⟨bb, 0, none⟩), kv key] w fun e w' => ∃ i : Nat, e = .returned (.tuple #[.int .i64 i, .bool false]) ∧ w.grownBy w' none ∧ Spot K n key i false := by
  refine (find_any key H).mono ?_
  rintro e w' ⟨i, ok, rfl, hg, hs⟩
  have : ok = false := by
    rw [hs.eq]
    by_cases h : i < n
    · simp [h, hp i h]
    · simp [h]
  subst this
  exact ⟨i, rfl, hg, hs⟩
end
end Go.Proofs.Ytchookgdajkipaa.LS
