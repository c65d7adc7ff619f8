/-
  The walk of the statement SlabApart: what is done in one region makes no difference in another one: each answers, and holds, what it does in a slab of its own.
-/
import Derived.Test.YtgbodembcnppaaaDoorAlive3
import Derived.Test.YtgbodembcnppaaaDoorRegAt
import Derived.Deep.RegionHeld3
namespace Go.Proofs.YtgbodembcnppaaaDoor
open Go.RowKit Go.Lib

theorem region_same {w : World} {lo hi sb rb m : Nat} {n : Nat → Nat} {S : Nat → Nat → Bool} {V : Nat → Nat → Int} (k : Nat) (H : SI.SlabAt w lo hi sb rb m n S V) (hk : k < m) : Calls Tryd.prog 12 #[.pointer (some ⟨sb, 0, none⟩), .int .i64 k] w fun e w' => e = .returned (.pointer (some ⟨rb, 2 * k, none⟩)) ∧ w = w' := by
  obtain ⟨pb, po, b, g, H⟩ := H
  have h0 := H.c0
  clear H
  have q : (k : Int) < (m : Int) := by omega
  go_enter Tryd.func12, Tryd.ntmps12
  go_wp2
  go_ret
  exact ⟨by simp [Nat.mul_comm], rfl⟩

/-- A call in a region, told by what is in it alone. -/
def MemOp (f : FuncId) (mk : Value → Array Value) (n : Nat) (S : Nat → Bool) (V : Nat → Int) (ans : Ending) (S' : Nat → Bool) (V' : Nat → Int) : Prop :=
  ∀ (w : World) (rb ro pb po b g : Nat), SI.RegMem w rb ro pb po b g n S V → TabAt w → Calls Tryd.prog f (mk (.pointer (some ⟨rb, ro, none⟩))) w fun e w' => e = ans ∧ Touch g pb po n w w' ∧ SI.RegMem w' rb ro pb po b g n S' V'
theorem MemOp.reg {f : FuncId} {mk : Value → Array Value} {n : Nat} {S S' : Nat → Bool} {V V' : Nat → Int} {ans : Ending} (h : MemOp f mk n S V ans S' V') {w : World} {lo hi rb ro : Nat} (H : RegAt w lo hi rb ro n S V) (hT : TabAt w) :
    Calls Tryd.prog f (mk (.pointer (some ⟨rb, ro, none⟩))) w fun e w' => e = ans ∧ Only lo hi w w' ∧ RegAt w' lo hi rb ro n S' V' := by
  obtain ⟨pb, po, b, g, H, h1, h2, h3, h4, h5, h6, h7, h8, h9⟩ := H
  exact (h w rb ro pb po b g H hT).mono fun e w' ⟨he, T, R⟩ => ⟨he, T.only ⟨h7, h8⟩ ⟨h3, h4⟩, pb, po, b, g, R, h1, h2, h3, h4, h5, h6, h7, h8, Nat.le_trans h9 T.size⟩
theorem MemOp.slab {f : FuncId} {mk : Value → Array Value} {n : Nat → Nat} {S : Nat → Nat → Bool} {V : Nat → Nat → Int} {S' : Nat → Bool} {V' : Nat → Int} {ans : Ending} {i : Nat} (h : MemOp f mk (n i) (S i) (V i) ans S' V') {w : World} {lo hi sb rb m : Nat} (H : SI.SlabAt w lo hi sb rb m n S V) (hi' : i < m) (hT : TabAt w) :
    Calls Tryd.prog f (mk (.pointer (some ⟨rb, 2 * i, none⟩))) w fun e w' => e = ans ∧ Only lo hi w w' ∧ SI.SlabAt w' lo hi sb rb m n (upV S i S') (upV V i V') := by
  obtain ⟨pb, po, b, g, R, ST⟩ := H.region i hi'
  exact (h w rb (2 * i) pb po b g R hT).mono fun e w' ⟨he, T, R'⟩ => ⟨he, ST w' S' V' T R'⟩
theorem take_op (n : Nat) (S : Nat → Bool) (V : Nat → Int) (v : Int) : ∃ (p : Nat) (ok : Bool) (S' : Nat → Bool) (V' : Nat → Int), MemOp 15 (fun p => #[p, .int .i64 v]) n S V (.returned (.tuple #[.int .i64 p, .bool ok])) S' V' := by
  rcases full_or S n with ⟨p, hp, hS, hl⟩ | hl
  · exact ⟨p, true, ins S p, upV V p v, fun w rb ro pb po b g H hT => SI.take_some p v H hT hp hS hl⟩
  · exact ⟨0, false, S, V, fun w rb ro pb po b g H hT => (SI.take_none v H hT hl).mono fun e w' ⟨he, hw⟩ => by subst hw; exact ⟨he, Touch.of_none (SI.grow_refl _) H.l.2, H⟩⟩
theorem give_op (n : Nat) (S : Nat → Bool) (V : Nat → Int) (k : Int) : ∃ (ok : Bool) (S' : Nat → Bool) (V' : Nat → Int), MemOp 16 (fun p => #[p, .int .i64 k]) n S V (.returned (.bool ok)) S' V' := by
  by_cases h : k < 0 ∨ (n : Int) ≤ k ∨ S k.toNat = false
  · exact ⟨false, S, V, fun w rb ro pb po b g H hT => (SI.give_no k H h).mono fun e w' ⟨he, hw⟩ => ⟨he, Touch.of_none hw H.l.2, H.kept hw⟩⟩
  · obtain ⟨k, rfl⟩ := Int.eq_ofNat_of_zero_le (show 0 ≤ k by omega)
    have hS : S k = true := by
      cases e : S k
      · exact absurd (Or.inr (Or.inr (by simpa using e))) h
      · rfl
    exact ⟨true, del S k, upV V k 0, fun w rb ro pb po b g H _ => SI.give_in k H (by omega) hS⟩
theorem set_op (n : Nat) (S : Nat → Bool) (V : Nat → Int) (k v : Int) : ∃ (ok : Bool) (S' : Nat → Bool) (V' : Nat → Int), MemOp 17 (fun p => #[p, .int .i64 k, .int .i64 v]) n S V (.returned (.bool ok)) S' V' := by
  by_cases h : k < 0 ∨ (n : Int) ≤ k ∨ S k.toNat = false
  · exact ⟨false, S, V, fun w rb ro pb po b g H hT => (SI.set_no k v H h).mono fun e w' ⟨he, hw⟩ => ⟨he, Touch.of_none hw H.l.2, H.kept hw⟩⟩
  · obtain ⟨k, rfl⟩ := Int.eq_ofNat_of_zero_le (show 0 ≤ k by omega)
    have hS : S k = true := by
      cases e : S k
      · exact absurd (Or.inr (Or.inr (by simpa using e))) h
      · rfl
    exact ⟨true, S, upV V k v, fun w rb ro pb po b g H _ => SI.set_in k v H (by omega) hS⟩

/-- A row of pointers to regions. -/
def ptrs (F : List Nat) : List Value := F.map fun x => Value.pointer (some ⟨x, 0, none⟩)
def PtrRow (w : World) (B r cp : Nat) (F : List Nat) : Prop := w.ownsRow B 30 1 (.slice (some ⟨r, 0, none⟩) F.length cp) F.length (ptrs F)
theorem PtrRow.lt {w : World} {B r cp : Nat} {F : List Nat} (h : PtrRow w B r cp F) : B ≤ r ∧ r < w.heap.size := World.ownsRow.lt h r rfl
theorem PtrRow.cell {w : World} {B r cp : Nat} {F : List Nat} (h : PtrRow w B r cp F) (j : Nat) (hj : j < F.length) : w.cell? ⟨r, j, none⟩ = some (.pointer (some ⟨F[j], 0, none⟩)) := by
  rw [World.ownsRow.cellAt h j (by omega)]; simp [ptrs, hj]
theorem PtrRow.only {w w' : World} {B r cp lo hi : Nat} {F : List Nat} (h : PtrRow w B r cp F) (k : Only lo hi w w') (hr : r < lo ∨ hi ≤ r) : PtrRow w' B r cp F := own_only h k hr
theorem PtrRow.grown {w w' : World} {B r cp : Nat} {F : List Nat} (h : PtrRow w B r cp F) (k : w.grownBy w' none) : PtrRow w' B r cp F := h.only (Only.of_none (lo := 0) (hi := 0) k) (Or.inr (Nat.zero_le _))
theorem ptr_info : ∃ i : TypeInfo, Tryd.prog.info? 30 = some i ∧ i.zero = some (.pointer none) ∧ i.size = 1 ∧ i.bytes = 8 := ⟨_, rfl, rfl, rfl, rfl⟩

/-- Regions of their own, each in its range; the ranges one behind the other; the row of pointers in none of them. -/
structure Owns (w : World) (j hA r : Nat) (n : Nat → Nat) (S : Nat → Nat → Bool) (V : Nat → Nat → Int) (lo hi : Nat → Nat) (F : List Nat) : Prop where
  len : F.length = j
  reg : ∀ i (h : i < F.length), RegAt w (lo i) (hi i) F[i] 0 (n i) (S i) (V i)
  ord : ∀ i, i < j → hA ≤ lo i ∧ (r < lo i ∨ hi i ≤ r)
  inc : ∀ i k, i < k → k < j → hi i ≤ lo k
theorem Owns.grown {w w' : World} {j hA r : Nat} {n : Nat → Nat} {S : Nat → Nat → Bool} {V : Nat → Nat → Int} {lo hi : Nat → Nat} {F : List Nat} (h : Owns w j hA r n S V lo hi F) (k : w.grownBy w' none) : Owns w' j hA r n S V lo hi F :=
  ⟨h.len, fun i hi => (h.reg i hi).grown k, h.ord, h.inc⟩
theorem Owns.kept {w w' : World} {j hA r l h' : Nat} {n : Nat → Nat} {S : Nat → Nat → Bool} {V : Nat → Nat → Int} {lo hi : Nat → Nat} {F : List Nat} (h : Owns w j hA r n S V lo hi F) (k : Only l h' w w') (hd : ∀ i, i < j → hi i ≤ l ∨ h' ≤ lo i) : Owns w' j hA r n S V lo hi F :=
  ⟨h.len, fun i hi => (h.reg i hi).kept k (hd i (by have := h.len; omega)), h.ord, h.inc⟩
/-- One of them has turned. -/
theorem Owns.turn {w w' : World} {j hA r i : Nat} {n : Nat → Nat} {S : Nat → Nat → Bool} {V : Nat → Nat → Int} {lo hi : Nat → Nat} {F : List Nat} (h : Owns w j hA r n S V lo hi F) (hi' : i < F.length) {S' : Nat → Bool} {V' : Nat → Int} (k : Only (lo i) (hi i) w w') (R : RegAt w' (lo i) (hi i) F[i] 0 (n i) S' V') :
    Owns w' j hA r n (upV S i S') (upV V i V') lo hi F := by
  refine ⟨h.len, fun t ht => ?_, h.ord, h.inc⟩
  by_cases e : t = i
  · subst e; rw [upV_same, upV_same]; exact R
  · rw [upV_other _ _ _ _ e, upV_other _ _ _ _ e]
    have hl := h.len
    refine (h.reg t ht).kept k ?_
    rcases Nat.lt_or_gt_of_ne e with h1 | h1
    · exact Or.inl (h.inc t i h1 (by omega))
    · exact Or.inr (h.inc i t h1 (by omega))

set_option maxRecDepth 100000 in
set_option maxHeartbeats 8000000 in
theorem sapart_walk (sa : Option Addr) (len cap sb off : Nat) (zs : Nat → Int) (sa1 : Option Addr) (len1 cap1 sb1 off1 : Nat) (zs1 : Nat → Nat → Int) (w : World) (hT : TabAt w) (hle : len ≤ cap ∧ cap ≤ maxLen)
    (hsa : 0 < len → sa = some ⟨sb, off, none⟩ ∧ sb < w.heap.size) (hz : ∀ j, j < len → w.cell? ⟨sb, off + j, none⟩ = some (.int .i64 (zs j)))
    (_hm1 : len1 ≤ maxLen) (hsa1 : 0 < len1 → sa1 = some ⟨sb1, off1, none⟩ ∧ sb1 < w.heap.size) (hz1 : ∀ j, j < len1 → ∀ i, i < 4 → w.cell? ⟨sb1, off1 + j * 4 + i, none⟩ = some (.int .i64 (zs1 j i))) :
    Calls Tryd.prog 4 #[.slice sa len cap, .slice sa1 len1 cap1] w fun e w' => e = .returned (.bool true) ∧ w.grownBy w' none := by
  have HCAPS : Hid (CapsAt w sa len cap zs) := Lib.hid ⟨hle.1, hle.2, fun h0 => ⟨sb, off, (hsa h0).1, (hsa h0).2, hz⟩⟩
  have HSA := Lib.hid hsa
  have HZ := Lib.hid hz
  have HSA1 := Lib.hid hsa1
  have HZ1 := Lib.hid hz1
  have HT := Lib.hid hT
  have hpos := tab_pos hT
  clear hsa hz hsa1 hz1 _hm1 hT hle
  by_cases hl : 8 < len
  · go_enter Tryd.func4, Tryd.ntmps4
    go_wp2_with fail
    refine (alive3 _ HT.out).mono ?_
    rintro e w0 ⟨rfl, hG0⟩
    go_wp2
    go_ret
    exact ⟨rfl, hG0⟩
  by_cases hl1 : 50 < len1
  · go_enter Tryd.func4, Tryd.ntmps4
    go_wp2_with fail
    refine (alive3 _ HT.out).mono ?_
    rintro e w0 ⟨rfl, hG0⟩
    go_wp2
    go_ret
    exact ⟨rfl, hG0⟩
  have hmin : min len 64 = len := by omega
  go_enter Tryd.func4, Tryd.ntmps4
  go_wp2_with fail
  refine (alive3 _ HT.out).mono ?_
  rintro e w0 ⟨rfl, hG0⟩
  have ca := SI.new_made sa len cap zs w0 (HCAPS.out.kept hG0)
  rw [hmin] at ca
  have CA := Lib.hid ca
  clear ca hmin HCAPS
  go_wp2_with fail
  refine CA.out.mono ?_
  rintro e w1 ⟨sbA, rbA, rfl, k1, A1⟩
  have G1 := grow_to hG0 k1
  have hlA : w.heap.size ≤ w0.heap.size := hG0.size
  generalize w0.heap.size = loA at A1 hlA
  have kl := World.grownBy_alloc w1 (.cells #[] 30) none
  have A2 := A1.grown kl
  have G2 := grow_to G1 kl
  have R2 : PtrRow (w1.alloc (.cells #[] 30)) w1.heap.size w1.heap.size 0 [] := World.ownsRow_made w1 #[] 0 (Nat.le_refl _) (by decide) rfl
  have hs2 : w1.heap.size ≤ (w1.alloc (.cells #[] 30)).heap.size := kl.size
  have hAB : loA < w1.heap.size := by obtain ⟨_, _, _, _, HH⟩ := A1; have := HH.r0; omega
  obtain ⟨i0, hi0, hz0, hz1, hz2⟩ := ptr_info
  have I0 := Lib.hid hi0
  have I1 := Lib.hid hz0
  have I2 := Lib.hid hz1
  have I3 := Lib.hid hz2
  clear hi0 hz0 hz1 hz2 CA hG0 k1 A1 G1 kl
  go_wp2
  generalize w1.alloc (.cells #[] 30) = wx at A2 G2 R2 hs2 ⊢
  generalize w1.heap.size = hA at A2 R2 hs2 hAB ⊢
  go_loopw [6, 41] (fun av it wr => ∃ (j r cp : Nat) (lo hi : Nat → Nat) (F : List Nat), j ≤ len ∧ it = .int .i64 j ∧ av = .slice (some ⟨r, 0, none⟩) j cp ∧ SI.SlabAt wr loA hA sbA rbA len (nOf zs) (fun _ _ => false) (fun _ _ => 0) ∧ PtrRow wr hA r cp F ∧ Owns wr j hA r (nOf zs) (fun _ _ => false) (fun _ _ => 0) lo hi F ∧ w.grownBy wr none ∧ hA ≤ wr.heap.size) (fun _ it _ => len - (intOf it).toNat)
  case atStart => exact ⟨0, hA, 0, fun _ => 0, fun _ => 0, [], Nat.zero_le _, rfl, rfl, A2, R2, ⟨rfl, fun i h => absurd h (by simp), fun i h => absurd h (by omega), fun i k _ h => absurd h (by omega)⟩, G2, hs2⟩
  case round =>
    obtain ⟨j, r, cp, lo, hi, F, hj, rfl, rfl, A, R, O, hG, hs⟩ := hrel
    clear A2 G2 R2 hs2
    by_cases hlt : j < len
    · obtain ⟨rfl, hsb⟩ := HSA.out (by omega)
      have hc : wr.cell? ⟨sb, off + j, none⟩ = some (.int .i64 (zs j)) := (hG.cell_far ⟨sb, off + j, none⟩ hsb (by simp)).trans (HZ.out j hlt)
      have hroom : Hid (nOf (fun _ => zs j) 0 = nOf zs j) := Lib.hid rfl
      generalize hzj : zs j = z at *
      have ka := World.grownBy_alloc wr (.cells #[.int .i64 z] 3) none
      have CN := Lib.hid (SI.new_made _ 1 1 _ _ (caps_one wr z))
      have Aa := A.grown ka
      have Ra := R.grown ka
      have Oa := O.grown ka
      have Ga := grow_to hG ka
      have hrw := R.lt
      have hsa2 := ka.size
      have hol := O.len
      have HOZ : Hid (∀ i, i < j → hi i ≤ wr.heap.size) := Lib.hid fun i h => (O.reg i (by rw [hol]; exact h)).sz.1
      clear A R O hG ka
      go_wp2_with fail
      refine CN.out.mono ?_
      rintro e w2 ⟨sbo, rbo, rfl, k2, N2⟩
      have A2 := Aa.grown k2
      have R2 := Ra.grown k2
      have O2 := Oa.grown k2
      have G2 := grow_to Ga k2
      have hsz2 := k2.size
      have CR : Hid (Calls Tryd.prog 12 #[.pointer (some ⟨sbo, 0, none⟩), .int .i64 0] w2 fun e w' => e = .returned (.pointer (some ⟨rbo, 0, none⟩)) ∧ w2 = w') := Lib.hid (region_same 0 N2 (by decide))
      have Q2 := regAt_of N2 0 (by decide)
      rw [hroom.out] at Q2
      generalize hloj : (wr.alloc (.cells #[.int .i64 z] 3)).heap.size = loj at Q2 hsa2 hsz2
      generalize hhij : w2.heap.size = hij at Q2 hsz2
      have hql := Q2.sz
      have HLO := Lib.hid hloj
      have HHI := Lib.hid hhij
      have hsw2 : wr.heap.size + 1 ≤ loj := by rw [← hloj]; simp
      clear Aa Ra Oa Ga CN k2 N2 hc hloj hhij hzj
      go_wp2_with fail
      refine (CR.out).mono ?_
      rintro e w' ⟨rfl, rfl⟩
      unfold PtrRow at R2
      rw [hol] at R2
      have hown := Lib.hid R2
      have hor := O2.ord
      have HO2 := Lib.hid O2
      clear O2
      go_wp2_with (
        at_builtin
        refine wpList_append_own_at _ rfl _ _ 39 rfl hA 30 i0 (.pointer none) 1 8 Tryd.underlying39 I0.out I1.out I2.out I3.out rfl (by decide) _ _ _ rfl (World.ownsRow.alloc hown.out _) ⟨w2.heap.size, 0, none⟩ 1 1 [.pointer (some ⟨rbo, 0, none⟩)] rfl rfl (cell_one_new _ _ _) (fun x hx => by simp at hx; subst hx; rfl) (by unfold maxLen; omega) (by omega) (by simp; omega) ?_
        intro v' w5 hown' hgrow3 hnil3 hat0
        have hgr : (w2.alloc (.cells #[.pointer (some ⟨rbo, 0, none⟩)] 30)).grownBy w5 (some r) := hgrow3
        have hnn : v' ≠ .slice none 0 0 := fun h => absurd (hnil3.1 h).2 (by decide)
        have k4 := World.grownBy_alloc w2 (.cells #[.pointer (some ⟨rbo, 0, none⟩)] 30) none
        have hat1 : v'.ownBlock = some r ∨ v'.ownBlock = some (w2.alloc (.cells #[.pointer (some ⟨rbo, 0, none⟩)] 30)).heap.size := hat0
        have hhij := HHI.out
        have yr : Only r (r + 1) (w2.alloc (.cells #[.pointer (some ⟨rbo, 0, none⟩)] 30)) w5 := Only.of_some hgr (Nat.le_refl _) (Nat.lt_succ_self _)
        obtain ⟨r', cp', rfl, hown5⟩ : ∃ r' cp', v' = .slice (some ⟨r', 0, none⟩) (j + 1) cp' ∧ PtrRow w5 hA r' cp' (F ++ [rbo]) := (by
          rcases hown'.2 with ⟨h0, _⟩ | ⟨g', cap', cur, hv', _⟩
          · exact absurd h0 hnn
          · subst hv'
            refine ⟨g', cap', rfl, ?_⟩
            unfold PtrRow
            rw [show (F ++ [rbo]).length = j + 1 by simp [hol]]
            simpa [ptrs] using hown')
        have hat : r' = r ∨ r' = w2.heap.size + 1 := (by simpa [Value.ownBlock] using hat1)
        have A5 := (A2.grown k4).kept yr (Or.inl (by omega))
        have G5 : w.grownBy w5 none := grow_on (grow_to G2 k4) hgr (by omega)
        have hs5 : hA ≤ w5.heap.size := Nat.le_trans (by omega) (Nat.le_trans k4.size hgr.size)
        have O5 : Owns w5 (j + 1) hA r' (nOf zs) (fun _ _ => false) (fun _ _ => 0) (fun t => if t = j then loj else lo t) (fun t => if t = j then hij else hi t) (F ++ [rbo]) := (by
          have OO := HO2.out
          refine ⟨by simp [hol], fun t ht => ?_, fun t ht => ?_, fun s t hst ht => ?_⟩
          · have ht2 : t < j + 1 := by simpa [hol] using ht
            by_cases e : t = j
            · subst e
              have e2 : (F ++ [rbo])[t] = rbo := by simp [hol]
              rw [e2]
              simp only [if_true]
              exact (Q2.grown k4).kept yr (Or.inr (by omega))
            · have htF : t < F.length := by omega
              rw [List.getElem_append_left htF]
              simp only [if_neg e]
              have := OO.ord t (by omega)
              exact ((OO.reg t htF).grown k4).kept yr (by omega)
          · by_cases e : t = j
            · subst e; simp only [if_true]; omega
            · simp only [if_neg e]
              have := OO.ord t (by omega)
              have := (OO.reg t (by omega)).sz
              omega
          · by_cases e : t = j
            · subst e
              have hne : s ≠ t := by omega
              simp only [if_true, if_neg hne]
              have := HOZ.out s (by omega)
              omega
            · have hne : s ≠ j := by omega
              simp only [if_neg e, if_neg hne]
              exact OO.inc s t hst (by omega))
        clear hgrow3 hnil3 hat0 hat1 hgr hnn k4 yr hown' hown HO2 A2 G2 Q2 hhij HHI HLO
        )
      exact ⟨⟨j + 1, r', cp', _, _, _, by omega, by go_num, rfl, A5, hown5, O5, G5, hs5⟩, by simp [intOf]; omega⟩
    · have e : j = len := by omega
      subst e
      have hrr := R.lt
      have hol := O.len
      have hord := Lib.hid O.ord
      clear HSA HZ
      go_wp2
      go_loopw [55] (fun it wr => ∃ (t : Nat) (S : Nat → Nat → Bool) (V : Nat → Nat → Int), t ≤ len1 ∧ it = .int .i64 t ∧ SI.SlabAt wr loA hA sbA rbA j (nOf zs) S V ∧ PtrRow wr hA r cp F ∧ Owns wr j hA r (nOf zs) S V lo hi F ∧ w.grownBy wr none) (fun it _ => len1 - (intOf it).toNat)
      case atStart => exact ⟨0, _, _, Nat.zero_le _, rfl, A, R, O, hG⟩
      case round =>
        obtain ⟨t, S, V, ht, rfl, A', R', O', hG'⟩ := hrel
        clear A R O hG
        by_cases hlt2 : t < len1
        · obtain ⟨rfl, hsb1⟩ := HSA1.out (by omega)
          have hc0 : wr.cell? ⟨sb1, off1 + t * 4, none⟩ = some (.int .i64 (zs1 t 0)) := (hG'.cell_far ⟨sb1, off1 + t * 4, none⟩ hsb1 (by simp)).trans (HZ1.out t hlt2 0 (by decide))
          have hc1 : wr.cell? ⟨sb1, off1 + t * 4 + 1, none⟩ = some (.int .i64 (zs1 t 1)) := (hG'.cell_far ⟨sb1, off1 + t * 4 + 1, none⟩ hsb1 (by simp)).trans (HZ1.out t hlt2 1 (by decide))
          have hc2 : wr.cell? ⟨sb1, off1 + t * 4 + 2, none⟩ = some (.int .i64 (zs1 t 2)) := (hG'.cell_far ⟨sb1, off1 + t * 4 + 2, none⟩ hsb1 (by simp)).trans (HZ1.out t hlt2 2 (by decide))
          have hc3 : wr.cell? ⟨sb1, off1 + t * 4 + 3, none⟩ = some (.int .i64 (zs1 t 3)) := (hG'.cell_far ⟨sb1, off1 + t * 4 + 3, none⟩ hsb1 (by simp)).trans (HZ1.out t hlt2 3 (by decide))
          generalize zs1 t 0 = rz at *
          generalize zs1 t 1 = kind at *
          generalize zs1 t 2 = kz at *
          generalize zs1 t 3 = vz at *
          have k3 := World.grownBy_alloc wr (.cells #[.int .i64 rz, .int .i64 kind, .int .i64 kz, .int .i64 vz] 33) none
          have A3 := A'.grown k3
          have R3 := R'.grown k3
          have O3 := O'.grown k3
          have G3 := grow_to hG' k3
          have hoz : Hid (∀ i, i < j → hi i ≤ wr.heap.size) := Lib.hid fun i h => (O'.reg i (by rw [hol]; exact h)).sz.1
          have hAz := A'.sz
          have x0 : (wr.alloc (.cells #[.int .i64 rz, .int .i64 kind, .int .i64 kz, .int .i64 vz] 33)).cell? ⟨wr.heap.size, 0, none⟩ = some (.int .i64 rz) := World.cell?_alloc_new ..
          have x1 : (wr.alloc (.cells #[.int .i64 rz, .int .i64 kind, .int .i64 kz, .int .i64 vz] 33)).cell? ⟨wr.heap.size, 1, none⟩ = some (.int .i64 kind) := World.cell?_alloc_new ..
          have x2 : (wr.alloc (.cells #[.int .i64 rz, .int .i64 kind, .int .i64 kz, .int .i64 vz] 33)).cell? ⟨wr.heap.size, 2, none⟩ = some (.int .i64 kz) := World.cell?_alloc_new ..
          have x3 : (wr.alloc (.cells #[.int .i64 rz, .int .i64 kind, .int .i64 kz, .int .i64 vz] 33)).cell? ⟨wr.heap.size, 3, none⟩ = some (.int .i64 vz) := World.cell?_alloc_new ..
          have xl : wr.heap.size < (wr.alloc (.cells #[.int .i64 rz, .int .i64 kind, .int .i64 kz, .int .i64 vz] 33)).heap.size := by simp
          clear A' R' O' hG' k3
          by_cases hneg : rz < 0
          · go_wp2
            go_roundw
            case rel => exact ⟨t + 1, S, V, by omega, by go_num, A3, R3, O3, G3⟩
            case measure => simp [intOf]; omega
          by_cases hbig : (j : Int) ≤ rz
          · go_wp2
            go_roundw
            case rel => exact ⟨t + 1, S, V, by omega, by go_num, A3, R3, O3, G3⟩
            case measure => simp [intOf]; omega
          obtain ⟨i, rfl⟩ := Int.eq_ofNat_of_zero_le (show 0 ≤ rz by omega)
          have hi' : i < j := by omega
          have hq : (i : Int) < (j : Int) := by omega
          have hoi := hord.out i hi'
          have hoiz := hoz.out i hi'
          have hFi : i < F.length := by rw [hol]; exact hi'
          have hpc := R3.cell i hFi
          have Ri := O3.reg i hFi
          have hri := Ri.sz
          obtain ⟨rbo, hfi⟩ : ∃ x, F[i]'hFi = x := ⟨_, rfl⟩
          rw [hfi] at hpc Ri
          have hrbo := Lib.hid hfi
          have HA3 := Lib.hid A3
          have HR3 := Lib.hid R3
          have HO3 := Lib.hid O3
          have HRi := Lib.hid Ri
          have HG3 := Lib.hid G3
          clear hfi hneg hbig A3 R3 O3 G3 Ri hoz
          go_wp2_with fail
          generalize wr.alloc (.cells #[.int .i64 (i : Int), .int .i64 kind, .int .i64 kz, .int .i64 vz] 33) = wo at *
          generalize wr.heap.size = ob at *
          go_quiet ((go_at_call 12; exact Calls.quiet_of_same ((region_same i (HA3.out.kept (Only.drewN 0 0 _ _) (Or.inr (Nat.zero_le _))) hi').mono fun _ _ ⟨a, c⟩ => ⟨a, c.symm⟩)))
          have dn : wo.grownBy (wo.drewN nq) none := grow_draw _ _ _
          have A0' := HA3.out.grown dn
          have B0' := HRi.out.grown dn
          have P0' := HR3.out.grown dn
          have O0' := HO3.out.grown dn
          have G0' := grow_to HG3.out dn
          have T0' := HT.out.kept G0'
          have y1 : (wo.drewN nq).cell? ⟨ob, 1, none⟩ = some (.int .i64 kind) := x1
          have y2 : (wo.drewN nq).cell? ⟨ob, 2, none⟩ = some (.int .i64 kz) := x2
          have y3 : (wo.drewN nq).cell? ⟨ob, 3, none⟩ = some (.int .i64 vz) := x3
          have hob : ob < (wo.drewN nq).heap.size := xl
          generalize wo.drewN nq = v0 at A0' B0' P0' O0' G0' T0' y1 y2 y3 hob ⊢
          have hobA : hA ≤ ob := by omega
          have hobB : hi i ≤ ob := by omega
          have hlA0 : 0 < loA := by omega
          have hlo0 : 0 < lo i := by omega
          clear HA3 HRi HR3 HO3 HG3 dn x0 x1 x2 x3 xl hc0 hc1 hc2 hc3 hpc
          by_cases hk0 : kind = 0
          · subst hk0
            obtain ⟨p, ok, S', V', hop⟩ := take_op (nOf zs i) (S i) (V i) vz
            have C1 := Lib.hid (hop.slab A0' hi' T0')
            go_wp2_with fail
            refine C1.out.mono ?_
            rintro e va ⟨rfl, ya, Aa⟩
            have Ba := B0'.kept ya (Or.inr hoi.1)
            have Ta := tab_only T0' ya hlA0
            have Pa := P0'.only ya (Or.inr hrr.1)
            have Oa := O0'.kept ya fun t ht => Or.inr (hord.out t ht).1
            have Ga := Only.on G0' ya hlA
            have o3a := (ya.cell' ob 3 hob (Or.inr hobA)).trans y3
            have C2 := Lib.hid (hop.reg Ba Ta)
            clear C1 A0' B0' P0' O0' G0' T0' ya Ba Ta y1 y2 y3 hop
            go_wp2_with fail
            refine C2.out.mono ?_
            rintro e vc ⟨rfl, yc, Bc⟩
            have Ac := Aa.kept yc (Or.inl hoi.1)
            have Pc := Pa.only yc hoi.2
            have Oc := Oa.turn (by rw [hol]; exact hi') yc (by rw [hrbo.out]; exact Bc)
            have Gc := Only.on Ga yc (by omega)
            clear C2 Aa Pa Oa Ga yc Bc o3a
            cases ok
            all_goals
              go_wp2
              go_roundw
              case rel => exact ⟨t + 1, _, _, by omega, by go_num, Ac, Pc, Oc, Gc⟩
              case measure => simp [intOf]; omega
          have e0 : (kind == 0) = false := by rw [beq_eq_false_iff_ne]; exact hk0
          have kd : v0.grownBy v0.drew none := ⟨rfl, rfl, rfl, Nat.le_refl _, fun _ _ _ => rfl⟩
          by_cases hk1 : kind = 1
          · subst hk1
            have A0 := Lib.hid (A0'.grown kd)
            have B0 := Lib.hid (B0'.grown kd)
            have P0 := Lib.hid (P0'.grown kd)
            have O0 := Lib.hid (O0'.grown kd)
            have G0 := Lib.hid (grow_to G0' kd)
            have T0 := Lib.hid (T0'.kept kd)
            have o2 : v0.drew.cell? ⟨ob, 2, none⟩ = some (.int .i64 kz) := y2
            have o3 : v0.drew.cell? ⟨ob, 3, none⟩ = some (.int .i64 vz) := y3
            clear A0' B0' P0' O0' G0' T0' kd y2 y3
            obtain ⟨ok, S', V', hop⟩ := give_op (nOf zs i) (S i) (V i) kz
            have CA : Hid (∀ v : World, SI.SlabAt v loA hA sbA rbA j (nOf zs) S V → TabAt v → Calls Tryd.prog 16 #[.pointer (some ⟨rbA, 2 * i, none⟩), .int .i64 kz] v fun e w' => e = .returned (.bool ok) ∧ Only loA hA v w' ∧ SI.SlabAt w' loA hA sbA rbA j (nOf zs) (upV S i S') (upV V i V')) := Lib.hid fun v Hv hTv => hop.slab Hv hi' hTv
            have CB : Hid (∀ v : World, RegAt v (lo i) (hi i) rbo 0 (nOf zs i) (S i) (V i) → TabAt v → Calls Tryd.prog 16 #[.pointer (some ⟨rbo, 0, none⟩), .int .i64 kz] v fun e w' => e = .returned (.bool ok) ∧ Only (lo i) (hi i) v w' ∧ RegAt w' (lo i) (hi i) rbo 0 (nOf zs i) S' V') := Lib.hid fun v Hv hTv => hop.reg Hv hTv
            clear hop
            have FIN1 : Hid (∀ va vc : World, Only loA hA v0.drew va → SI.SlabAt va loA hA sbA rbA j (nOf zs) (upV S i S') (upV V i V') → Only (lo i) (hi i) va vc → RegAt vc (lo i) (hi i) rbo 0 (nOf zs i) S' V' →
                SI.SlabAt vc loA hA sbA rbA j (nOf zs) (upV S i S') (upV V i V') ∧ PtrRow vc hA r cp F ∧ Owns vc j hA r (nOf zs) (upV S i S') (upV V i V') lo hi F ∧ w.grownBy vc none) := Lib.hid fun va vc ya Aa yc Bc =>
              ⟨Aa.kept yc (Or.inl hoi.1), (P0.out.only ya (Or.inr hrr.1)).only yc hoi.2, (O0.out.kept ya fun t ht => Or.inr (hord.out t ht).1).turn (by rw [hol]; exact hi') yc (by rw [hrbo.out]; exact Bc), Only.on (Only.on G0.out ya hlA) yc (by omega)⟩
            go_upto_region 9 with fail
            go_region_held3 (fun w' => w'.cell? ⟨ob, 2, none⟩ = some (.int .i64 kz) ∧ w'.cell? ⟨ob, 3, none⟩ = some (.int .i64 vz)) (first | exact ⟨o2, o3⟩ | exact ⟨o2a, o3a⟩ | exact ⟨o2c, o3c⟩)
              (first
                | (go_at_call 16; (with_reducible refine (CA.out _ A0.out T0.out).mono ?_); rintro e va ⟨rfl, ya, Aa⟩; have Ba := B0.out.kept ya (Or.inr hoi.1); have Ta := tab_only T0.out ya hlA0; have o2a := (ya.cell' ob 2 hob (Or.inr hobA)).trans o2; have o3a := (ya.cell' ob 3 hob (Or.inr hobA)).trans o3; have hoba := Nat.lt_of_lt_of_le hob ya.size)
                | (go_at_call 16; (with_reducible refine (CB.out _ Ba Ta).mono ?_); rintro e vc ⟨rfl, yc, Bc⟩; have o2c := (yc.cell' ob 2 hoba (Or.inr hobB)).trans o2a; have o3c := (yc.cell' ob 3 hoba (Or.inr hobB)).trans o3a))
            obtain ⟨Ac, Pc, Oc, Gc⟩ := FIN1.out va vc ya Aa yc Bc
            clear FIN1 CA CB A0 B0 P0 O0 G0 T0 ya Aa yc Bc Ba Ta o2 o3 o2a o3a o2c o3c
            cases ok
            all_goals
              go_wp2
              go_roundw
              case rel => exact ⟨t + 1, _, _, by omega, by go_num, Ac, Pc, Oc, Gc⟩
              case measure => simp [intOf]; omega
          have e1 : (kind == 1) = false := by rw [beq_eq_false_iff_ne]; exact hk1
          by_cases hk2 : kind = 2
          · subst hk2
            have A0 := Lib.hid (A0'.grown kd)
            have B0 := Lib.hid (B0'.grown kd)
            have P0 := Lib.hid (P0'.grown kd)
            have O0 := Lib.hid (O0'.grown kd)
            have G0 := Lib.hid (grow_to G0' kd)
            have T0 := Lib.hid (T0'.kept kd)
            have o2 : v0.drew.cell? ⟨ob, 2, none⟩ = some (.int .i64 kz) := y2
            have o3 : v0.drew.cell? ⟨ob, 3, none⟩ = some (.int .i64 vz) := y3
            clear A0' B0' P0' O0' G0' T0' kd y2 y3
            obtain ⟨ok, S', V', hop⟩ := set_op (nOf zs i) (S i) (V i) kz vz
            have CA : Hid (∀ v : World, SI.SlabAt v loA hA sbA rbA j (nOf zs) S V → TabAt v → Calls Tryd.prog 17 #[.pointer (some ⟨rbA, 2 * i, none⟩), .int .i64 kz, .int .i64 vz] v fun e w' => e = .returned (.bool ok) ∧ Only loA hA v w' ∧ SI.SlabAt w' loA hA sbA rbA j (nOf zs) (upV S i S') (upV V i V')) := Lib.hid fun v Hv hTv => hop.slab Hv hi' hTv
            have CB : Hid (∀ v : World, RegAt v (lo i) (hi i) rbo 0 (nOf zs i) (S i) (V i) → TabAt v → Calls Tryd.prog 17 #[.pointer (some ⟨rbo, 0, none⟩), .int .i64 kz, .int .i64 vz] v fun e w' => e = .returned (.bool ok) ∧ Only (lo i) (hi i) v w' ∧ RegAt w' (lo i) (hi i) rbo 0 (nOf zs i) S' V') := Lib.hid fun v Hv hTv => hop.reg Hv hTv
            clear hop
            have FIN1 : Hid (∀ va vc : World, Only loA hA v0.drew va → SI.SlabAt va loA hA sbA rbA j (nOf zs) (upV S i S') (upV V i V') → Only (lo i) (hi i) va vc → RegAt vc (lo i) (hi i) rbo 0 (nOf zs i) S' V' →
                SI.SlabAt vc loA hA sbA rbA j (nOf zs) (upV S i S') (upV V i V') ∧ PtrRow vc hA r cp F ∧ Owns vc j hA r (nOf zs) (upV S i S') (upV V i V') lo hi F ∧ w.grownBy vc none) := Lib.hid fun va vc ya Aa yc Bc =>
              ⟨Aa.kept yc (Or.inl hoi.1), (P0.out.only ya (Or.inr hrr.1)).only yc hoi.2, (O0.out.kept ya fun t ht => Or.inr (hord.out t ht).1).turn (by rw [hol]; exact hi') yc (by rw [hrbo.out]; exact Bc), Only.on (Only.on G0.out ya hlA) yc (by omega)⟩
            go_upto_region 13 with fail
            go_region_held3 (fun w' => w'.cell? ⟨ob, 2, none⟩ = some (.int .i64 kz) ∧ w'.cell? ⟨ob, 3, none⟩ = some (.int .i64 vz)) (first | exact ⟨o2, o3⟩ | exact ⟨o2a, o3a⟩ | exact ⟨o2c, o3c⟩)
              (first
                | (go_at_call 17; (with_reducible refine (CA.out _ A0.out T0.out).mono ?_); rintro e va ⟨rfl, ya, Aa⟩; have Ba := B0.out.kept ya (Or.inr hoi.1); have Ta := tab_only T0.out ya hlA0; have o2a := (ya.cell' ob 2 hob (Or.inr hobA)).trans o2; have o3a := (ya.cell' ob 3 hob (Or.inr hobA)).trans o3; have hoba := Nat.lt_of_lt_of_le hob ya.size)
                | (go_at_call 17; (with_reducible refine (CB.out _ Ba Ta).mono ?_); rintro e vc ⟨rfl, yc, Bc⟩; have o2c := (yc.cell' ob 2 hoba (Or.inr hobB)).trans o2a; have o3c := (yc.cell' ob 3 hoba (Or.inr hobB)).trans o3a))
            obtain ⟨Ac, Pc, Oc, Gc⟩ := FIN1.out va vc ya Aa yc Bc
            clear FIN1 CA CB A0 B0 P0 O0 G0 T0 ya Aa yc Bc Ba Ta o2 o3 o2a o3a o2c o3c
            cases ok
            all_goals
              go_wp2
              go_roundw
              case rel => exact ⟨t + 1, _, _, by omega, by go_num, Ac, Pc, Oc, Gc⟩
              case measure => simp [intOf]; omega
          have e2 : (kind == 2) = false := by rw [beq_eq_false_iff_ne]; exact hk2
          go_wp2
          go_roundw
          case rel => exact ⟨t + 1, S, V, by omega, by go_num, A0', P0', O0', G0'⟩
          case measure => simp [intOf]; omega
        · clear HSA1 HZ1
          have hnn : Hid (∀ i, nOf zs i ≤ 256) := Lib.hid fun i => roomN_le _
          go_wp2
          go_loopw [133] (fun it wr => ∃ i : Nat, i ≤ j ∧ it = .int .i64 i ∧ SI.SlabAt wr loA hA sbA rbA j (nOf zs) S V ∧ PtrRow wr hA r cp F ∧ Owns wr j hA r (nOf zs) S V lo hi F ∧ w.grownBy wr none) (fun it _ => j - (intOf it).toNat)
          case atStart => exact ⟨0, Nat.zero_le _, rfl, A', R', O', hG'⟩
          case round =>
            obtain ⟨i, hij, rfl, A, R, O, hG⟩ := hrel
            clear A' R' O' hG'
            by_cases hi' : i < j
            · have hFi : i < F.length := by rw [hol]; exact hi'
              have hpc := R.cell i hFi
              have Ri := O.reg i hFi
              generalize F[i]'hFi = rbo at hpc Ri
              have C0 := Lib.hid (region_same i A hi')
              have Qi := regAt_of A i hi'
              have hTr := HT.out.kept hG
              have D1 := Lib.hid (r_count _ Qi rfl)
              have D2 := Lib.hid (r_count _ Ri rfl)
              have H1 := Lib.hid (r_held Qi hTr)
              have hml : (SI.mems (S i) (nOf zs i)).length ≤ 256 := by rw [SI.mems_len]; exact Nat.le_trans (cnt_le _ _) (hnn.out i)
              have HA := Lib.hid A
              have HR := Lib.hid R
              have HO := Lib.hid O
              have HQ := Lib.hid Qi
              have HRi := Lib.hid Ri
              generalize hcc : cnt (S i) (nOf zs i) = cc at D1 D2
              clear A R O Qi Ri hTr hcc
              go_wp2_with fail
              refine (C0.out).mono ?_
              rintro e w' ⟨rfl, rfl⟩
              go_wp2_with fail
              refine (D1.out).mono ?_
              rintro e w' ⟨rfl, rfl⟩
              go_wp2_with fail
              refine (D2.out).mono ?_
              rintro e w' ⟨rfl, rfl⟩
              go_wp2_with fail
              refine H1.out.mono ?_
              rintro e w1 ⟨r1, c1, rfl, k1, Q1⟩
              have G1 := grow_to hG k1
              have H2 := Lib.hid (r_held (HRi.out.grown k1) (HT.out.kept G1))
              clear H1 C0 D1 D2
              go_wp2_with fail
              refine H2.out.mono ?_
              rintro e w2 ⟨r2, c2, rfl, k2, Q2⟩
              have G2 := grow_to G1 k2
              have CS := Lib.hid (same_yes (Q1.kept k2 (by simp)).reads Q2.reads (by omega))
              clear H2 Q1 Q2
              go_wp2_with fail
              refine CS.out.mono ?_
              rintro e w3 ⟨rfl, k3⟩
              have G3 := grow_to G2 k3
              have k13 := k1.trans (k2.trans k3)
              have H3 := Lib.hid (r_held (HQ.out.grown k13) (HT.out.kept G3))
              clear CS
              go_wp2_with fail
              refine H3.out.mono ?_
              rintro e w4 ⟨r4, c4, rfl, k4, Q4⟩
              have G4 := grow_to G3 k4
              have k14 := k13.trans k4
              have A4 := HA.out.grown k14
              have R4 := HR.out.grown k14
              have O4 := HO.out.grown k14
              have a4 := HQ.out.grown k14
              have b4 := HRi.out.grown k14
              have HMEM : Hid (∀ x ∈ SI.mems (S i) (nOf zs i), x < nOf zs i ∧ S i x = true) := Lib.hid fun x hx => by
                simp only [SI.mems, List.mem_filter, List.mem_range] at hx
                exact hx
              generalize SI.mems (S i) (nOf zs i) = M at *
              clear H3 HA HR HO HQ HRi k1 k2 k3 k4 k13 k14 G1 G2 G3 hG
              go_wp2
              go_loopw [157] (fun it wr => ∃ q : Nat, q ≤ M.length ∧ it = .int .i64 q ∧ SI.SlabAt wr loA hA sbA rbA j (nOf zs) S V ∧ PtrRow wr hA r cp F ∧ Owns wr j hA r (nOf zs) S V lo hi F ∧ w.grownBy wr none ∧ RowOf wr w3.heap.size r4 c4 M ∧ RegAt wr loA hA rbA (2 * i) (nOf zs i) (S i) (V i) ∧ RegAt wr (lo i) (hi i) rbo 0 (nOf zs i) (S i) (V i)) (fun it _ => M.length - (intOf it).toNat)
              case atStart => exact ⟨0, Nat.zero_le _, rfl, A4, R4, O4, G4, Q4, a4, b4⟩
              case round =>
                obtain ⟨q, hq, rfl, A5, R5, O5, G5, Q5, a5, b5⟩ := hrel
                clear A4 R4 O4 G4 Q4 a4 b4
                by_cases hlq : q < M.length
                · have hc := Q5.cell q hlq
                  obtain ⟨hx1, hx2⟩ := HMEM.out M[q] (List.getElem_mem hlq)
                  generalize M[q] = x at *
                  have E1 := Lib.hid (r_at x a5 hx1 hx2)
                  have E2 : Hid (∀ v : World, wr.grownBy v none → Calls Tryd.prog 21 #[.pointer (some ⟨rbo, 0, none⟩), .int .i64 (x : Int)] v fun e w' => e = .returned (.tuple #[.int .i64 (V i x), .bool true]) ∧ v.grownBy w' none) := Lib.hid fun v k => r_at x (b5.grown k) hx1 hx2
                  have hR5 : Hid (∀ v : World, wr.grownBy v none → SI.SlabAt v loA hA sbA rbA j (nOf zs) S V ∧ PtrRow v hA r cp F ∧ Owns v j hA r (nOf zs) S V lo hi F ∧ w.grownBy v none ∧ RowOf v w3.heap.size r4 c4 M ∧ RegAt v loA hA rbA (2 * i) (nOf zs i) (S i) (V i) ∧ RegAt v (lo i) (hi i) rbo 0 (nOf zs i) (S i) (V i)) := Lib.hid fun v k => ⟨A5.grown k, R5.grown k, O5.grown k, grow_to G5 k, Q5.kept k (by simp), a5.grown k, b5.grown k⟩
                  generalize V i x = vx at *
                  clear A5 R5 O5 G5 Q5 a5 b5 hx2
                  go_wp2_with fail
                  refine E1.out.mono ?_
                  rintro e w6 ⟨rfl, k6⟩
                  have E3 := Lib.hid (E2.out w6 k6)
                  clear E1 E2
                  go_wp2_with fail
                  refine E3.out.mono ?_
                  rintro e w7 ⟨rfl, k7⟩
                  obtain ⟨A7, R7, O7, G7, Q7, a7, b7⟩ := hR5.out w7 (k6.trans k7)
                  clear E3 hR5 k6 k7 hc
                  go_wp2
                  go_roundw
                  case rel => exact ⟨q + 1, by omega, by go_num, A7, R7, O7, G7, Q7, a7, b7⟩
                  case measure => simp [intOf]; omega
                · go_wp2
                  go_roundw
                  case rel => exact ⟨i + 1, by omega, by go_num, A5, R5, O5, G5⟩
                  case measure => simp [intOf]; omega
            · go_wp2
              go_ret
              exact ⟨rfl, hG⟩

end Go.Proofs.YtgbodembcnppaaaDoor
