/-
  The walk of the statement BitsTurns: in whichever order numbers are put in the set is the same; others that are put in, and taken out again, make no difference.
-/
import Derived.Test.YtbpmfldegfngaaaDoorApartWalk
import Derived.OwnWalk
import Derived.Laws.OwnMore
namespace Go.Proofs.YtbpmfldegfngaaaDoor
open Go.RowKit Go.Lib

def mk (z : Int) : Nat := (z % 256).toNat
theorem mk_lt (z : Int) : mk z < 256 := by unfold mk; omega
theorem mask_mk (z : Int) : bits .and .i64 z 255 = (mk z : Int) := by
  have h := i64_mask 8 (by decide) z
  have e : bits .and .i64 z 255 = z % 256 := h
  rw [e]; unfold mk; omega

def insB (n : Nat) (S : Nat → Bool) (k : Nat) : Nat → Bool := fun i => (i == k && decide (k < n)) || S i
theorem insB_in (n : Nat) (S : Nat → Bool) (k : Nat) (h : k < n) : insB n S k = ins S k := by funext i; simp [insB, ins, h]
theorem insB_out (n : Nat) (S : Nat → Bool) (k : Nat) (h : ¬ k < n) : insB n S k = S := by funext i; simp [insB, h]
theorem put_g (b g n k : Nat) (S : Nat → Bool) (w : World) (h : SetAt w b g n S) :
    Calls Tryd.prog 12 #[.pointer (some ⟨b, 0, none⟩), .int .i64 k] w fun e w' => e = .returned (.bool (decide (k < n) && !S k)) ∧ w.grownBy w' (some g) ∧ SetAt w' b g n (insB n S k) := by
  by_cases hk : k < n
  · rw [insB_in n S k hk]
    simpa [hk] using put_some b g n k S w h hk
  · rw [insB_out n S k hk]
    refine (put_out b g n k S w h (by omega)).mono ?_
    rintro e w' ⟨rfl, m, rfl⟩
    exact ⟨by simp [hk], grow_draw w _ m, h.drewN m⟩

/-- What is in a set of 200 when the first j numbers of a row were put in. -/
def memb (f : Nat → Nat) (j : Nat) : Nat → Bool := fun i => decide (i < 200) && (List.range j).any (fun t => f t == i)
theorem memb_zero (f : Nat → Nat) : (fun _ => false) = memb f 0 := by funext i; simp [memb]
theorem memb_succ (f : Nat → Nat) (j : Nat) : insB 200 (memb f j) (f j) = memb f (j + 1) := by
  funext i
  simp only [insB, memb, List.range_succ, List.any_append, List.any_cons, List.any_nil, Bool.or_false]
  by_cases h : f j = i
  · subst h
    by_cases h2 : f j < 200 <;> simp [h2]
  · have e1 : (i == f j) = false := by rw [beq_eq_false_iff_ne]; exact fun e => h e.symm
    have e2 : (f j == i) = false := by rw [beq_eq_false_iff_ne]; exact h
    rw [e1, e2]; simp
theorem memb_turn (f : Nat → Nat) (n : Nat) : memb (fun t => f (n - 1 - t)) n = memb f n := by
  funext i
  simp only [memb]
  congr 1
  rw [Bool.eq_iff_iff, List.any_eq_true, List.any_eq_true]
  constructor
  · rintro ⟨t, ht, he⟩
    have := List.mem_range.1 ht
    exact ⟨n - 1 - t, List.mem_range.2 (by omega), he⟩
  · rintro ⟨t, ht, he⟩
    have := List.mem_range.1 ht
    exact ⟨n - 1 - t, List.mem_range.2 (by omega), by rw [show n - 1 - (n - 1 - t) = t by omega]; exact he⟩
theorem memb_bound (f : Nat → Nat) (j : Nat) (i : Nat) (h : 200 ≤ i) : memb f j i = false := by simp [memb, show ¬ i < 200 by omega]

/-- A set and some numbers beside it. -/
def with_ (S : Nat → Bool) (F : List Nat) : Nat → Bool := fun i => S i || F.contains i

theorem with_nil (S : Nat → Bool) : with_ S [] = S := by funext i; simp [with_]
theorem with_snoc (S : Nat → Bool) (F : List Nat) (k : Nat) (h : k < 200) : insB 200 (with_ S F) k = with_ S (F ++ [k]) := by
  funext i
  by_cases e : i = k
  · subst e; simp [insB, with_, h]
  · simp [insB, with_, e]
theorem with_same (S : Nat → Bool) (F : List Nat) (k : Nat) (h : (decide (k < 200) && !with_ S F k) = false) : insB 200 (with_ S F) k = with_ S F := by
  funext i
  by_cases e : i = k
  · subst e
    by_cases h2 : i < 200
    · have h3 : with_ S F i = true := by simpa [h2] using h
      simp [insB, h3]
    · simp [insB, h2]
  · simp [insB, e]
theorem with_del (S : Nat → Bool) (F : List Nat) (k : Nat) (hS : S k = false) (hF : k ∉ F) : del (with_ S (k :: F)) k = with_ S F := by
  funext i
  by_cases e : i = k
  · subst e; simp [del, with_, hS, hF]
  · simp [del, with_, e]
theorem with_head (S : Nat → Bool) (F : List Nat) (k : Nat) : with_ S (k :: F) k = true := by simp [with_]
/-- What is in a row that was made: numbers of a set of 200 that were not in S, each once. -/
def Fresh (S : Nat → Bool) (F : List Nat) : Prop := F.Nodup ∧ ∀ x ∈ F, x < 200 ∧ S x = false
theorem fresh_snoc {S : Nat → Bool} {F : List Nat} {k : Nat} (h : Fresh S F) (hk : (decide (k < 200) && !with_ S F k) = true) : Fresh S (F ++ [k]) := by
  simp only [Bool.and_eq_true, decide_eq_true_eq, Bool.not_eq_true', with_, Bool.or_eq_false_iff] at hk
  obtain ⟨h1, h2, h3⟩ := hk
  have h3' : k ∉ F := by simpa using h3
  refine ⟨List.nodup_append.2 ⟨h.1, by simp, fun a ha b hb e => by simp at hb; subst hb; subst e; exact h3' ha⟩, fun x hx => ?_⟩
  rcases List.mem_append.1 hx with hx | hx
  · exact h.2 x hx
  · simp at hx; subst hx; exact ⟨h1, h2⟩

theorem least_cases (P : Nat → Bool) (n k : Nat) : (∃ p, k ≤ p ∧ p < n ∧ P p = true ∧ ∀ q, k ≤ q → q < p → P q = false) ∨ (∀ q, k ≤ q → q < n → P q = false) := by
  induction n with
  | zero => exact Or.inr fun q _ h => absurd h (by omega)
  | succ n ih =>
    rcases ih with ⟨p, h1, h2, h3, h4⟩ | h
    · exact Or.inl ⟨p, h1, by omega, h3, h4⟩
    · by_cases hk : k ≤ n
      · cases hp : P n
        · refine Or.inr fun q h1 h2 => ?_
          by_cases e : q = n
          · rw [e]; exact hp
          · exact h q h1 (by omega)
        · exact Or.inl ⟨n, hk, by omega, hp, fun q h1 h2 => h q h1 h2⟩
      · exact Or.inr fun q h1 h2 => absurd h2 (by omega)
/-- What least answers of a set, told by the set alone. -/
theorem least_same (P : Nat → Bool) (n k : Nat) : ∃ (v : Nat) (ok : Bool), ∀ {f : FuncId} {args : Array Value} {w : World}, Calls Tryd.prog f args w (LeastPost P n k w) →
    Calls Tryd.prog f args w fun e w' => e = .returned (.tuple #[.int .i64 v, .bool ok]) ∧ w = w' := by
  rcases least_cases P n k with ⟨p, h1, h2, h3, h4⟩ | h
  · exact ⟨p, true, fun c => least_some c p h1 h2 h3 h4⟩
  · exact ⟨0, false, fun c => least_none c h⟩
theorem has_same (S : Nat → Bool) (n : Nat) (kk : Int) : ∃ v : Bool, ∀ (b g : Nat) (w : World), SetAt w b g n S →
    Calls Tryd.prog 18 #[.pointer (some ⟨b, 0, none⟩), .int .i64 kk] w fun e w' => e = .returned (.bool v) ∧ w.grownBy w' none ∧ (∀ b2 g2 T, SetAt w b2 g2 n T → SetAt w' b2 g2 n T) := by
  by_cases hk : 0 ≤ kk ∧ kk < n
  · refine ⟨S kk.toNat, fun b g w h => ?_⟩
    obtain ⟨k, rfl⟩ := Int.eq_ofNat_of_zero_le hk.1
    exact (has_in b g n k S w h (by omega)).mono fun e w' ⟨he, m, hm⟩ => ⟨he, hm ▸ grow_draw w _ m, fun b2 g2 T h2 => hm ▸ h2.drewN m⟩
  · refine ⟨false, fun b g w h => ?_⟩
    exact (has_out b g n kk S w h (by omega)).mono fun e w' ⟨he, m, hm⟩ => ⟨he, hm ▸ grow_draw w _ m, fun b2 g2 T h2 => hm ▸ h2.drewN m⟩

set_option maxHeartbeats 8000000 in
theorem turns_walk (sa : Option Addr) (len cap sb off : Nat) (zs : Nat → Int) (sa1 : Option Addr) (len1 cap1 sb1 off1 : Nat) (zs1 : Nat → Int) (ask : Int) (w : World) (hT : TabAt w)
    (_hm : len ≤ maxLen) (hsa : 0 < len → sa = some ⟨sb, off, none⟩ ∧ sb < w.heap.size) (hz : ∀ j, j < len → w.cell? ⟨sb, off + j, none⟩ = some (.int .i64 (zs j)))
    (_hm1 : len1 ≤ maxLen) (hsa1 : 0 < len1 → sa1 = some ⟨sb1, off1, none⟩ ∧ sb1 < w.heap.size) (hz1 : ∀ j, j < len1 → w.cell? ⟨sb1, off1 + j, none⟩ = some (.int .i64 (zs1 j))) :
    Calls Tryd.prog 6 #[.slice sa len cap, .slice sa1 len1 cap1, .int .i64 ask] w fun e w' => e = .returned (.bool true) ∧ w.grownBy w' none := by
  have HSA := Lib.hid hsa
  have HZ := Lib.hid hz
  have HSA1 := Lib.hid hsa1
  have HZ1 := Lib.hid hz1
  clear hsa hz hsa1 hz1 _hm _hm1
  by_cases hl : 40 < len
  · go_enter Tryd.func6, Tryd.ntmps6
    go_wp2_with fail
    refine (alive2 _ hT).mono ?_
    rintro e w0 ⟨rfl, hG0⟩
    go_wp2
    go_ret
    exact ⟨rfl, hG0⟩
  · by_cases hl1 : 40 < len1
    · go_enter Tryd.func6, Tryd.ntmps6
      go_wp2_with fail
      refine (alive2 _ hT).mono ?_
      rintro e w0 ⟨rfl, hG0⟩
      go_wp2
      go_ret
      exact ⟨rfl, hG0⟩
    · go_enter Tryd.func6, Tryd.ntmps6
      go_wp2_with fail
      refine (alive2 _ hT).mono ?_
      rintro e w0 ⟨rfl, hG0⟩
      go_wp2_with fail
      refine (new_made 200 200 (by decide) _).mono ?_
      rintro e w1 ⟨ba, ga, rfl, hba, hga, hk1, hs1⟩
      have hG1 := grow_to hG0 hk1
      go_wp2_with fail
      refine (new_made 200 200 (by decide) _).mono ?_
      rintro e w2 ⟨bb, gb, rfl, hbb, hgb, hk2, hs2⟩
      have hG2 := grow_to hG1 hk2
      have hs1' := hs1.kept hk2 (by simp) (by simp)
      have n1 : ba ≠ gb := by have := hs1.hb; omega
      have n2 : bb ≠ ga := by have := hs1.hg; omega
      have n3 : ga ≠ gb := by have := hs1.hg; omega
      have hgaW : w.heap.size ≤ ga := Nat.le_trans hG0.size hga
      have hgbW : w.heap.size ≤ gb := Nat.le_trans hG1.size hgb
      have hB : w.heap.size ≤ w2.heap.size := hG2.size
      have hB1 := hs1'.hb
      have hB2 := hs1'.hg
      have hB3 := hs2.hb
      have hB4 := hs2.hg
      obtain ⟨B, hBd⟩ : ∃ B, B = w2.heap.size := ⟨_, rfl⟩
      rw [← hBd] at hB hB1 hB2 hB3 hB4
      have HBD := Lib.hid hBd
      have HT := Lib.hid hT
      clear hG0 hG1 hk1 hk2 hs1 hba hga hbb hgb hT hBd
      rw [memb_zero (fun t => mk (zs t))] at hs1'
      rw [memb_zero (fun t => mk (zs (len - 1 - t)))] at hs2
      go_wp2
      go_loopw [38] (fun it wr => ∃ j : Nat, j ≤ len ∧ it = .int .i64 j ∧ SetAt wr ba ga 200 (memb (fun t => mk (zs t)) j) ∧ SetAt wr bb gb 200 (memb (fun t => mk (zs (len - 1 - t))) j) ∧ w.grownBy wr none ∧ B ≤ wr.heap.size) (fun it _ => len - (intOf it).toNat)
      case atStart => exact ⟨0, Nat.zero_le _, rfl, hs1', hs2, hG2, by rw [HBD.out]; exact Nat.le_refl _⟩
      case round =>
        obtain ⟨j, hj, rfl, ha, hb, hG, hBr⟩ := hrel
        clear hs1' hs2 hG2 HBD
        by_cases hlt : j < len
        · obtain ⟨rfl, hsb⟩ := HSA.out (by omega)
          have hc : wr.cell? ⟨sb, off + j, none⟩ = some (.int .i64 (zs j)) := (hG.cell_far ⟨sb, off + j, none⟩ hsb (by simp)).trans (HZ.out j hlt)
          have hv := mk_lt (zs j)
          have hV := mask_mk (zs j)
          have c1 := Lib.hid (put_g ba ga 200 (mk (zs j)) _ wr ha)
          have e1 := Lib.hid (memb_succ (fun t => mk (zs t)) j)
          have e2 := Lib.hid (memb_succ (fun t => mk (zs (len - 1 - t))) j)
          go_wp2_with fail
          refine c1.out.mono ?_
          rintro e w3 ⟨rfl, k3, ha3⟩
          have ha3' : SetAt w3 ba ga 200 (memb (fun t => mk (zs t)) (j + 1)) := e1.out ▸ ha3
          have hb3 := hb.kept k3 (fun h => by cases h; exact n2 rfl) (fun h => by cases h; exact n3 rfl)
          have hG3 := grow_on hG k3 hgaW
          have hB3' : B ≤ w3.heap.size := Nat.le_trans hBr k3.size
          have hc3 : w3.cell? ⟨sb, off + (len - 1 - j), none⟩ = some (.int .i64 (zs (len - 1 - j))) := (hG3.cell_far ⟨sb, off + (len - 1 - j), none⟩ hsb (by simp)).trans (HZ.out _ (by omega))
          have hv3 := mk_lt (zs (len - 1 - j))
          have hV3 := mask_mk (zs (len - 1 - j))
          clear ha hb hG k3 ha3 c1 hc hBr
          have c2 := Lib.hid (put_g bb gb 200 (mk (zs (len - 1 - j))) _ w3 hb3)
          have q0 : ((len : Int) - 1 - (j : Int)).toNat = len - 1 - j := by omega
          go_wp2_with fail
          refine c2.out.mono ?_
          rintro e w4 ⟨rfl, k4, hb4⟩
          have hb4' : SetAt w4 bb gb 200 (memb (fun t => mk (zs (len - 1 - t))) (j + 1)) := e2.out ▸ hb4
          have ha4 := ha3'.kept k4 (fun h => by cases h; exact n1 rfl) (fun h => by cases h; exact n3 rfl)
          have hG4 := grow_on hG3 k4 hgbW
          have hB4' : B ≤ w4.heap.size := Nat.le_trans hB3' k4.size
          clear hb3 ha3' hG3 k4 hb4 c2 hc3 e1 e2 hB3'
          go_wp2
          go_roundw
          case rel => exact ⟨j + 1, by omega, by go_num, ha4, hb4', hG4, hB4'⟩
          case measure => simp [intOf]; omega
        · have he : j = len := by omega
          have hb' : SetAt wr bb gb 200 (memb (fun t => mk (zs t)) j) := by
            subst he
            exact (memb_turn (fun t => mk (zs t)) j) ▸ hb
          clear hb HSA HZ
          generalize memb (fun t => mk (zs t)) j = S at ha hb'
          clear he
          have hbn : SetAt wr bb gb 200 (with_ S []) := by rw [with_nil]; exact hb'
          have h0r : (wr.alloc (.cells #[] 3)).ownsRow B 3 1 (.slice (some ⟨wr.heap.size, 0, none⟩) 0 0) 0 [] := World.ownsRow_made wr #[] 0 hBr (by decide) rfl
          obtain ⟨i0, hi, hz0, hz1, hz2⟩ : ∃ i : TypeInfo, Tryd.prog.info? 3 = some i ∧ i.zero = some (.int .i64 0) ∧ i.size = 1 ∧ i.bytes = 8 := ⟨_, rfl, rfl, rfl, rfl⟩
          have I0 := Lib.hid hi
          have I1 := Lib.hid hz0
          have I2 := Lib.hid hz1
          have I3 := Lib.hid hz2
          have k0 := World.grownBy_alloc wr (.cells #[] 3) none
          have ha0 := ha.kept k0 (by simp) (by simp)
          have hb0 := hbn.kept k0 (by simp) (by simp)
          have hG0 := grow_to hG k0
          have hB0 : B ≤ (wr.alloc (.cells #[] 3)).heap.size := Nat.le_trans hBr k0.size
          clear ha hb' hbn hG hi hz0 hz1 hz2 k0
          go_wp2
          generalize wr.alloc (.cells #[] 3) = wx at h0r ha0 hb0 hG0 hB0 ⊢
          generalize wr.heap.size = r0 at h0r hBr ⊢
          go_loopw [11, 62] (fun fv it wr => ∃ (j : Nat) (F : List Nat) (r cp : Nat), j ≤ len1 ∧ it = .int .i64 j ∧ F.length ≤ j ∧ fv = .slice (some ⟨r, 0, none⟩) F.length cp ∧ Hid (Fresh S F) ∧ wr.ownsRow B 3 1 (.slice (some ⟨r, 0, none⟩) F.length cp) F.length (F.map fun (x : Nat) => Value.int .i64 (x : Int)) ∧
              SetAt wr ba ga 200 S ∧ SetAt wr bb gb 200 (with_ S F) ∧ w.grownBy wr none ∧ B ≤ wr.heap.size) (fun _ it _ => len1 - (intOf it).toNat)
          case atStart => exact ⟨0, [], r0, 0, Nat.zero_le _, rfl, Nat.le_refl _, rfl, Lib.hid ⟨List.nodup_nil, fun x hx => absurd hx (by simp)⟩, h0r, ha0, hb0, hG0, hB0⟩
          case round =>
            obtain ⟨j1, F, r, cp, hj1, rfl, hFj, rfl, hF, hown, ha, hb, hG, hBr1⟩ := hrel
            clear h0r ha0 hb0 hG0 hB0 hBr
            by_cases hlt1 : j1 < len1
            · obtain ⟨rfl, hsb1⟩ := HSA1.out (by omega)
              have hc : wr.cell? ⟨sb1, off1 + j1, none⟩ = some (.int .i64 (zs1 j1)) := (hG.cell_far ⟨sb1, off1 + j1, none⟩ hsb1 (by simp)).trans (HZ1.out j1 hlt1)
              have hv := mk_lt (zs1 j1)
              have hV := mask_mk (zs1 j1)
              have c1 := put_g bb gb 200 (mk (zs1 j1)) _ wr hb
              generalize mk (zs1 j1) = k at *
              generalize zs1 j1 = z at *
              have hrr := hown.lt r rfl
              cases hp : (decide (k < 200) && !with_ S F k)
              · rw [hp, with_same S F k hp] at c1
                have C1 := Lib.hid c1
                clear c1 hp
                go_wp2_with fail
                refine C1.out.mono ?_
                rintro e w3 ⟨rfl, k3, hb3⟩
                have ha3 := ha.kept k3 (fun h => by cases h; exact n1 rfl) (fun h => by cases h; exact n3 rfl)
                have hG3 := grow_on hG k3 hgbW
                have hB3' : B ≤ w3.heap.size := Nat.le_trans hBr1 k3.size
                have hown3 := hown.kept k3 (Or.inr (show (some r : Option Nat) ≠ some gb from fun h => by cases h; omega))
                clear ha hb hG k3 C1 hc hBr1 hown
                go_wp2
                go_roundw
                case rel => exact ⟨j1 + 1, F, r, cp, by omega, by go_num, by omega, rfl, hF, hown3, ha3, hb3, hG3, hB3'⟩
                case measure => simp [intOf]; omega
              · have hF3 := Lib.hid (fresh_snoc hF.out hp)
                have hk2 : k < 200 := by simp at hp; exact hp.1
                rw [hp, with_snoc S F k hk2] at c1
                have C1 := Lib.hid c1
                clear c1 hp
                go_wp2_with fail
                refine C1.out.mono ?_
                rintro e w3 ⟨rfl, k3, hb3⟩
                have ha3 := ha.kept k3 (fun h => by cases h; exact n1 rfl) (fun h => by cases h; exact n3 rfl)
                have hG3 := grow_on hG k3 hgbW
                have hB3' : B ≤ w3.heap.size := Nat.le_trans hBr1 k3.size
                have hown3 := hown.kept k3 (Or.inr (show (some r : Option Nat) ≠ some gb from fun h => by cases h; omega))
                clear ha hb hG k3 C1 hc hBr1 hown
                have hrr3 := hown3.lt r rfl
                go_wp2_with (at_builtin; refine wpList_append_own _ rfl _ _ 33 rfl B 3 i0 (.int .i64 0) 1 8 Tryd.underlying33 I0.out I1.out I2.out I3.out rfl (by decide) _ _ _ rfl (hown3.alloc _) ⟨w3.heap.size, 0, none⟩ 1 1 [.int .i64 (k : Int)] rfl rfl (cell_one_new _ _ _) (fun x hx => by simp at hx; subst hx; rfl) (by unfold maxLen; omega) (by omega) (by simp; omega) ?_; intro v' w5 hown' hgrow3 hnil3)
                have hgr : (w3.alloc (.cells #[.int .i64 (k : Int)] 3)).grownBy w5 (some r) := hgrow3
                have hnn : v' ≠ .slice none 0 0 := fun h => absurd (hnil3.1 h).2 (by decide)
                clear hgrow3 hnil3
                have k4 := World.grownBy_alloc w3 (.cells #[.int .i64 (k : Int)] 3) none
                have ha5 := (ha3.kept k4 (by simp) (by simp)).kept hgr (fun h => by cases h; omega) (fun h => by cases h; omega)
                have hb5 := (hb3.kept k4 (by simp) (by simp)).kept hgr (fun h => by cases h; omega) (fun h => by cases h; omega)
                have hG5 := grow_on (grow_to hG3 k4) hgr (by omega)
                have hB5 : B ≤ w5.heap.size := Nat.le_trans hB3' (Nat.le_trans k4.size hgr.size)
                rcases hown'.2 with ⟨hn, _⟩ | ⟨r', cp', cur, hv', _⟩
                · exact absurd hn hnn
                · subst hv'
                  exact ⟨⟨j1 + 1, F ++ [k], r', cp', by omega, by go_num, by simp; omega, by simp, hF3, by simpa using hown', ha5, hb5, hG5, hB5⟩, by simp [intOf]; omega⟩
            · clear HSA1 HZ1
              have hFl : F.length ≤ 40 := by omega
              have hrr := hown.lt r rfl
              have hb0 : SetAt wr bb gb 200 (with_ S (F.drop 0)) := by simpa using hb
              have HCELL : Hid (∀ wy : World, wy.ownsRow B 3 1 (.slice (some ⟨r, 0, none⟩) F.length cp) F.length (F.map fun (x : Nat) => Value.int .i64 (x : Int)) → ∀ (j : Nat) (hj : j < F.length), wy.cell? ⟨r, j, none⟩ = some (.int .i64 (F[j] : Nat))) := Lib.hid fun wy h j hj => by
                rw [h.cellAt j (by omega)]; simp [hj]
              go_wp2
              go_loopw [78] (fun it wr => ∃ j : Nat, j ≤ F.length ∧ it = .int .i64 j ∧ wr.ownsRow B 3 1 (.slice (some ⟨r, 0, none⟩) F.length cp) F.length (F.map fun (x : Nat) => Value.int .i64 (x : Int)) ∧
                  SetAt wr ba ga 200 S ∧ SetAt wr bb gb 200 (with_ S (F.drop j)) ∧ w.grownBy wr none) (fun it _ => F.length - (intOf it).toNat)
              case atStart => exact ⟨0, Nat.zero_le _, rfl, hown, ha, hb0, hG⟩
              case round =>
                obtain ⟨j2, hj2, rfl, hown, ha, hb, hG⟩ := hrel
                by_cases hlt2 : j2 < F.length
                · have hc := HCELL.out _ hown j2 hlt2
                  have hdr : F.drop j2 = F[j2] :: F.drop (j2 + 1) := List.drop_eq_getElem_cons hlt2
                  have hfk := hF.out.2 F[j2] (List.getElem_mem hlt2)
                  have hnd : F[j2] ∉ F.drop (j2 + 1) := by
                    have h := hF.out.1.sublist (List.drop_sublist j2 F)
                    rw [hdr] at h
                    exact (List.nodup_cons.1 h).1
                  rw [hdr] at hb
                  have c1 := drop_in bb gb 200 F[j2] _ _ hb hfk.1 (with_head S _ _)
                  rw [with_del S _ _ hfk.2 hnd] at c1
                  have C1 := Lib.hid c1
                  have hf200 := hfk.1
                  clear c1 hdr hfk hnd
                  generalize F[j2] = k at *
                  go_wp2_with fail
                  refine C1.out.mono ?_
                  rintro e w3 ⟨rfl, k3, hb3⟩
                  have ha3 := ha.kept k3 (fun h => by cases h; exact n1 rfl) (fun h => by cases h; exact n3 rfl)
                  have hG3 := grow_on hG k3 hgbW
                  have hown3 := hown.kept k3 (Or.inr (show (some r : Option Nat) ≠ some gb from fun h => by cases h; omega))
                  clear ha hb hG k3 C1 hc hown
                  go_wp2
                  go_roundw
                  case rel => exact ⟨j2 + 1, by omega, by go_num, hown3, ha3, hb3, hG3⟩
                  case measure => simp [intOf]; omega
                · have hbe : SetAt wr bb gb 200 S := by
                    have h := hb
                    rw [List.drop_of_length_le (by omega), with_nil] at h
                    exact h
                  clear hb hown HCELL hb0
                  have hTr := HT.out.kept hG
                  obtain ⟨nv, nok, hn⟩ := least_same S 200 ask.toNat
                  obtain ⟨gv, gok, hgp⟩ := least_same (fun i => !S i) 200 ask.toNat
                  obtain ⟨hv, hh⟩ := has_same S 200 ask
                  have c1 := Lib.hid (hn (next_any ba ga 200 ask S _ ha hTr))
                  have c2 := Lib.hid (hn (next_any bb gb 200 ask S _ hbe hTr))
                  have c3 := Lib.hid (hgp (gap_any ba ga 200 ask S _ ha hTr))
                  have c4 := Lib.hid (hgp (gap_any bb gb 200 ask S _ hbe hTr))
                  have c5 := Lib.hid (count_s ba ga 200 _ S _ ha rfl)
                  have c6 := Lib.hid (count_s bb gb 200 _ S _ hbe rfl)
                  have HH := Lib.hid hh
                  clear hn hgp hh hTr
                  go_wp2_with fail
                  refine (c1.out).mono ?_
                  rintro e w' ⟨rfl, rfl⟩
                  go_wp2_with fail
                  refine (c2.out).mono ?_
                  rintro e w' ⟨rfl, rfl⟩
                  go_wp2_with fail
                  refine (c3.out).mono ?_
                  rintro e w' ⟨rfl, rfl⟩
                  go_wp2_with fail
                  refine (c4.out).mono ?_
                  rintro e w' ⟨rfl, rfl⟩
                  go_wp2_with fail
                  refine (c5.out).mono ?_
                  rintro e w' ⟨rfl, rfl⟩
                  go_wp2_with fail
                  refine (c6.out).mono ?_
                  rintro e w' ⟨rfl, rfl⟩
                  go_wp2_with fail
                  refine (HH.out _ _ _ ha).mono ?_
                  rintro e w6 ⟨rfl, k6, hk6⟩
                  have hG6 := grow_to hG k6
                  have hb6 := hk6 bb gb S hbe
                  clear hk6 k6 hG ha hbe c1 c2 c3 c4 c5 c6
                  go_wp2_with fail
                  refine (HH.out _ _ _ hb6).mono ?_
                  rintro e w7 ⟨rfl, k7, hk7⟩
                  have hG7 := grow_to hG6 k7
                  clear hk7 k7 hG6 hb6 HH
                  go_wp2
                  go_ret
                  exact ⟨rfl, hG7⟩

end Go.Proofs.YtbpmfldegfngaaaDoor
