/-
  The walk of the statement BitsWalks: by Next, from one to the next, come all numbers that were put in, rising, each once, and no other one.
-/
import Derived.Test.YtbpmfldegfngaaaDoorTurnsWalk
import Derived.Maps.Own
import Derived.Maps.OwnSet
import Derived.Maps.Views
import Derived.DataShut
namespace Go.Proofs.YtbpmfldegfngaaaDoor
open Go.RowKit Go.Lib Go.Maps

/-- The map counts each number of the set once, and has no other one. -/
structure Counts (D : DataW Unit) (S : Nat → Bool) (n : Nat) : Prop where
  has : ∀ k : Nat, Maps.has D (.int .i64 (k : Int)) = S k
  at_ : ∀ k : Nat, D.atKey (.int .i64 (k : Int)) (.lit (.int .i64 0)) = .lit (.int .i64 (if S k then 1 else 0))
  size : Maps.size D = cnt S n

theorem counts_nil (n : Nat) : Counts (.map []) (fun _ => false) n := by
  refine ⟨fun k => rfl, fun k => rfl, ?_⟩
  have : ∀ m, cnt (fun _ => false) m = 0 := by
    intro m
    induction m with
    | zero => rfl
    | succ m ih => rw [cnt, ih]; rfl
  rw [this]; rfl
theorem counts_ins {D : DataW Unit} {S : Nat → Bool} {n k : Nat} (h : Counts D S n) (ht : Tidy D) (hm : IsMap D) (hk : k < n) (hS : S k = false) : Counts (D.put (.int .i64 (k : Int)) (.lit (.int .i64 1))) (ins S k) n := by
  have hkl : WideAt.IsKeyLit (.int .i64 (k : Int)) := trivial
  refine ⟨fun i => ?_, fun i => ?_, ?_⟩
  · by_cases e : i = k
    · subst e; rw [has_put_same hm hkl, ins_self]
    · rw [has_put_other (by intro h; injection h with _ h2; omega), h.has, ins_other S k i (fun h => e h.symm)]
  · by_cases e : i = k
    · subst e; rw [atKey_put_same hm hkl, ins_self]; rfl
    · rw [atKey_put_other (by intro h; injection h with _ h2; omega), h.at_, ins_other S k i (fun h => e h.symm)]
  · rw [size_put ht, h.has, hS, h.size, cnt_ins S k hS]
    simp [hk]

theorem cnt_mono (S : Nat → Bool) (a b : Nat) (h : a ≤ b) : cnt S a ≤ cnt S b := by
  obtain ⟨d, rfl⟩ : ∃ d, b = a + d := ⟨b - a, by omega⟩
  rw [cnt_add]; omega
theorem cnt_gap (S : Nat → Bool) (a b : Nat) (h : a ≤ b) (hS : ∀ i, a ≤ i → i < b → S i = false) : cnt S b = cnt S a := by
  obtain ⟨d, rfl⟩ : ∃ d, b = a + d := ⟨b - a, by omega⟩
  rw [cnt_add]
  have e : cnt (fun i => S (a + i)) d = cnt (fun _ => false) d := cnt_congr fun i hi => hS _ (by omega) (by omega)
  have e0 : ∀ m, cnt (fun _ => false) m = 0 := by
    intro m
    induction m with
    | zero => rfl
    | succ m ih => rw [cnt, ih]; rfl
  rw [e, e0]; omega
theorem cnt_step (S : Nat → Bool) (p : Nat) (h : S p = true) : cnt S (p + 1) = cnt S p + 1 := by rw [cnt, h]; rfl

/-- One turn of the walk by Next: where it stands, and how many came. -/
def Stands (S : Nat → Bool) (n : Nat) (c : Nat) (last : Int) (k : Int) (ok : Bool) : Prop :=
  (ok = true ∧ ∃ p : Nat, k = p ∧ p < n ∧ S p = true ∧ last < p ∧ c = cnt S p) ∨ (ok = false ∧ c = cnt S n)

theorem law_int : Keyed Tryd.prog 3 := int_keyed Tryd.underlying3
theorem zero_int (w : World) : (zeroValue 3).run Tryd.prog w = .ok (.int .i64 0) w := rfl

theorem wf_small (k : Nat) (h : k ≤ 4096) : (Lit.int .i64 (k : Int)).wf = true := by
  rw [Lit.wf_int_iff]
  exact ⟨by show (-9223372036854775808 : Int) ≤ _; omega, by show _ ≤ (9223372036854775807 : Int); omega⟩
/-- A number that doesn't go in leaves the set as it is. -/
theorem put_no (b g n : Nat) (kk : Int) (S : Nat → Bool) (w : World) (h : SetAt w b g n S) (hk : kk < 0 ∨ (n : Int) ≤ kk ∨ S kk.toNat = true) :
    Calls Tryd.prog 12 #[.pointer (some ⟨b, 0, none⟩), .int .i64 kk] w fun e w' => e = .returned (.bool false) ∧ w.grownBy w' (some g) ∧ SetAt w' b g n S := by
  by_cases h2 : kk < 0 ∨ (n : Int) ≤ kk
  · exact (put_out b g n kk S w h h2).mono fun e w' ⟨he, m, hm⟩ => by subst hm; exact ⟨he, grow_draw w _ m, h.drewN m⟩
  · have h3 : S kk.toNat = true := by rcases hk with hk | hk | hk; · omega
                                      · omega
                                      · exact hk
    obtain ⟨k, rfl⟩ := Int.eq_ofNat_of_zero_le (show 0 ≤ kk by omega)
    exact had_s b g n k S w h (by omega) h3

theorem next_stands (b g n q : Nat) (last : Int) (S : Nat → Bool) (w : World) (h : SetAt w b g n S) (hT : TabAt w) (hl : last < q) (hq : q ≤ n) :
    Calls Tryd.prog 15 #[.pointer (some ⟨b, 0, none⟩), .int .i64 q] w fun e w' => ∃ (k : Nat) (ok : Bool), e = .returned (.tuple #[.int .i64 k, .bool ok]) ∧ w = w' ∧ Stands S n (cnt S q) last k ok :=
  (next_any b g n q S w h hT).mono fun e w' ⟨hw, hp⟩ => by
    rw [Int.toNat_natCast] at hp
    rcases hp with ⟨p, h1, h2, h3, h4, rfl⟩ | ⟨h1, rfl⟩
    · exact ⟨p, true, rfl, hw, Or.inl ⟨rfl, p, rfl, h2, h3, by omega, (cnt_gap S q p h1 h4).symm⟩⟩
    · exact ⟨0, false, rfl, hw, Or.inr ⟨rfl, (cnt_gap S q n hq h1).symm⟩⟩

set_option maxHeartbeats 8000000 in
theorem walks_walk (size : Int) (sa : Option Addr) (len cap sb off : Nat) (zs : Nat → Int) (w : World) (hT : TabAt w)
    (_hm : len ≤ maxLen) (hsa : 0 < len → sa = some ⟨sb, off, none⟩ ∧ sb < w.heap.size) (hz : ∀ j, j < len → w.cell? ⟨sb, off + j, none⟩ = some (.int .i64 (zs j))) :
    Calls Tryd.prog 4 #[.int .i64 size, .slice sa len cap] w fun e w' => e = .returned (.bool true) ∧ w.grownBy w' none := by
  have HSA := Lib.hid hsa
  have HZ := Lib.hid hz
  clear hsa hz _hm
  by_cases hl : 60 < len
  · go_enter Tryd.func4, Tryd.ntmps4
    go_wp2_with fail
    refine (alive2 _ hT).mono ?_
    rintro e w0 ⟨rfl, hG0⟩
    go_wp2
    go_ret
    exact ⟨rfl, hG0⟩
  · obtain ⟨n, hn⟩ : ∃ n, clampN size = n := ⟨_, rfl⟩
    have HN := Lib.hid hn
    have hn4 : n ≤ 4096 := by rw [← hn]; unfold clampN; omega
    clear hn
    go_enter Tryd.func4, Tryd.ntmps4
    go_wp2_with fail
    refine (alive2 _ hT).mono ?_
    rintro e w0 ⟨rfl, hG0⟩
    go_wp2_with fail
    refine (new_made size n HN.out _).mono ?_
    rintro e w1 ⟨b, g, rfl, hb, hg, hk1, hs1⟩
    have hG1 := grow_to hG0 hk1
    have hgW : w.heap.size ≤ g := Nat.le_trans hG0.size hg
    have HT := Lib.hid hT
    have hmk : ∀ W : World, (Instr.makeMap 40 none).run Tryd.prog W = .ok (.map (some W.heap.size)) (W.alloc (.map #[] 0)) := fun W => run_makeMap _ W
    have hbm : b < w1.heap.size := hs1.hb
    have hgm : g < w1.heap.size := hs1.hg
    have k2 := World.grownBy_alloc w1 (.map #[] 0) none
    have hs2 := hs1.kept k2 (by simp) (by simp)
    have hG2 := grow_to hG1 k2
    have hmW : w.heap.size ≤ w1.heap.size := hG1.size
    have hm0 := World.ownsMap_made (H := Unit) w1 Tryd.prog 3 (plainElem Tryd.prog 3)
    clear hG0 hk1 hb hg hT hs1 hG1 k2 HN
    go_wp2
    generalize w1.alloc (.map #[] 0) = wx at hs2 hG2 hm0 ⊢
    generalize w1.heap.size = mb at hbm hgm hmW hm0 ⊢
    clear hmk
    go_loopw [23] (fun it wr => ∃ (j : Nat) (S : Nat → Bool) (D : DataW Unit), j ≤ len ∧ it = .int .i64 j ∧ SetAt wr b g n S ∧ wr.ownsMap Tryd.prog 3 (plainElem Tryd.prog 3) mb j D ∧ Hid (Counts D S n) ∧ w.grownBy wr none) (fun it _ => len - (intOf it).toNat)
    case atStart => exact ⟨0, _, _, Nat.zero_le _, rfl, hs2, hm0, Lib.hid (counts_nil n), hG2⟩
    case round =>
      obtain ⟨j, S, D, hj, rfl, hs, hm, hC, hG⟩ := hrel
      clear hs2 hG2 hm0
      by_cases hlt : j < len
      · obtain ⟨rfl, hsb⟩ := HSA.out (by omega)
        have hc : wr.cell? ⟨sb, off + j, none⟩ = some (.int .i64 (zs j)) := (hG.cell_far ⟨sb, off + j, none⟩ hsb (by simp)).trans (HZ.out j hlt)
        generalize zs j = z at *
        by_cases hp : z < 0 ∨ (n : Int) ≤ z ∨ S z.toNat = true
        · have c1 := Lib.hid (put_no b g n z S wr hs hp)
          clear hp
          go_wp2_with fail
          refine c1.out.mono ?_
          rintro e w3 ⟨rfl, k3, hs3⟩
          have hG3 := grow_on hG k3 hgW
          have hm3 := (hm.kept k3 (fun h => by cases h; omega)).mono (Nat.le_succ j)
          clear hs hG hm c1 k3 hc
          go_wp2
          go_roundw
          case rel => exact ⟨j + 1, S, D, by omega, by go_num, hs3, hm3, hC, hG3⟩
          case measure => simp [intOf]; omega
        · have hz0 : 0 ≤ z := by omega
          obtain ⟨k, rfl⟩ := Int.eq_ofNat_of_zero_le hz0
          have hk : k < n := by omega
          have hS : S k = false := by
            cases h : S k
            · rfl
            · exact absurd (Or.inr (Or.inr h)) hp
          have c1 := Lib.hid (put_in b g n k S wr hs hk hS)
          have hkey := keyOf_int_mk Tryd.underlying3 (wf_small k (by omega))
          have hC3 := Lib.hid (counts_ins hC.out (hm.tidy law_int) hm.isMap hk hS)
          clear hp hz0
          go_wp2_with fail
          refine c1.out.mono ?_
          rintro e w3 ⟨rfl, k3, hs3⟩
          have hG3 := grow_on hG k3 hgW
          have hm3 := hm.kept k3 (fun h => by cases h; omega)
          obtain ⟨c, hrun, hat, _⟩ := hm3.lookup_int law_int Tryd.underlying40 Tryd.underlying3 (zero_int w3) hkey
          have hc0 : c = 0 := by
            have h := hC.out.at_ k
            rw [hS] at h
            have := hat.symm.trans h
            simpa using this
          subst hc0
          clear hs hG hm c1 k3 hc hat hC
          go_wp2_with (at_mapUpdate; refine wpList_mapUpdate_own _ rfl _ _ _ 40 rfl 3 3 law_int Tryd.underlying40 (plainElem Tryd.prog 3) mb j D rfl hm3 (by unfold maxLen; omega) _ _ _ rfl rfl hkey _ [] (plainElem_int Tryd.underlying3 (wf_small 1 (by omega))) ?_; intro w5 hm5 k5)
          have hs5 := hs3.kept k5 (fun h => by cases h; omega) (fun h => by cases h; omega)
          have hG5 := grow_on hG3 k5 hmW
          exact ⟨⟨j + 1, _, _, by omega, by go_num, hs5, hm5, hC3, hG5⟩, by simp [intOf]; omega⟩
      · have hsz := hm.size_le
        rw [hC.out.size] at hsz
        have hTr := HT.out.kept hG
        have c0 : Hid (Calls Tryd.prog 15 #[.pointer (some ⟨b, 0, none⟩), .int .i64 0] wr fun e w' => ∃ (k : Nat) (ok : Bool), e = .returned (.tuple #[.int .i64 k, .bool ok]) ∧ wr = w' ∧ Stands S n 0 (-1) k ok) := Lib.hid (next_stands b g n 0 (-1) S wr hs hTr (by omega) (Nat.zero_le _))
        have cc := Lib.hid (count_s b g n _ S wr hs rfl)
        have HM := Lib.hid hm
        have HS := Lib.hid hs
        have HTR := Lib.hid hTr
        have hlen := hm.len Tryd.underlying40
        rw [hC.out.size] at hlen
        clear HSA HZ hm hs hTr
        go_wp2_with fail
        refine c0.out.mono ?_
        rintro e w2 ⟨k0, ok0, rfl, rfl, hst⟩
        have HST := Lib.hid hst
        clear hst c0
        go_wp2
        go_loop [9, 10, 11, 12] (fun cv lv kv ov => ∃ (c : Nat) (last k : Int) (ok : Bool), cv = .int .i64 c ∧ lv = .int .i64 last ∧ kv = .int .i64 k ∧ ov = .bool ok ∧ Hid (Stands S n c last k ok)) (fun _ _ kv ov => match ov with | .bool true => n - (intOf kv).toNat | _ => 0)
        case atStart => exact ⟨0, -1, k0, ok0, rfl, rfl, rfl, rfl, HST⟩
        case round =>
          obtain ⟨c, last, k, ok, rfl, rfl, rfl, rfl, hst⟩ := hrel
          cases ok
          · have hce : c = cnt S n := by
              rcases hst.out with ⟨h, _⟩ | ⟨_, h⟩
              · cases h
              · exact h
            subst hce
            go_wp2_with fail
            refine (cc.out).mono ?_
            rintro e w' ⟨rfl, rfl⟩
            go_wp2
            go_ret
            exact ⟨rfl, hG⟩
          · obtain ⟨p, rfl, hpn, hSp, hlp, hc⟩ : ∃ p : Nat, k = p ∧ p < n ∧ S p = true ∧ last < p ∧ c = cnt S p := by
              rcases hst.out with ⟨_, h⟩ | ⟨h, _⟩
              · exact h
              · cases h
            have hkey := keyOf_int_mk Tryd.underlying3 (wf_small p (by omega))
            obtain ⟨d, hrun, hat, _⟩ := HM.out.lookup_int law_int Tryd.underlying40 Tryd.underlying3 (zero_int wr) hkey
            have hd1 : d = 1 := by
              have h := hC.out.at_ p
              rw [hSp] at h
              have := hat.symm.trans h
              simpa using this
            subst hd1
            have hc60 : c ≤ 60 := by
              have := cnt_mono S p n (by omega)
              omega
            have hle : decide ((p : Int) ≤ last) = false := by rw [decide_eq_false_iff_not]; omega
            have cn : Hid (Calls Tryd.prog 15 #[.pointer (some ⟨b, 0, none⟩), .int .i64 ((p : Int) + 1)] wr fun e w' => ∃ (k : Nat) (ok : Bool), e = .returned (.tuple #[.int .i64 k, .bool ok]) ∧ wr = w' ∧ Stands S n (c + 1) p k ok) := by
              have h := next_stands b g n (p + 1) p S wr HS.out HTR.out (by omega) (by omega)
              rw [cnt_step S p hSp, ← hc] at h
              exact Lib.hid h
            have HSP := Lib.hid hSp
            clear hat hc hst hSp hkey
            go_wp2_with fail
            refine cn.out.mono ?_
            rintro e w3 ⟨k3, ok3, rfl, rfl, hst3⟩
            have HST3 := Lib.hid hst3
            clear hst3 cn
            have hms : (match Value.bool ok3 with | .bool true => n - (intOf (.int .i64 (k3 : Int))).toNat | _ => 0) < n - p := by
              cases ok3
              · show 0 < n - p; omega
              · rcases HST3.out with ⟨_, q, hq1, hq2, _, hq3, _⟩ | ⟨h, _⟩
                · show n - (k3 : Int).toNat < n - p
                  omega
                · cases h
            go_wp2
            go_round
            case rel => exact ⟨c + 1, p, k3, ok3, by go_num, rfl, rfl, rfl, HST3⟩
            case measure => simpa [intOf] using hms

end Go.Proofs.YtbpmfldegfngaaaDoor
