/-
  WheelCuts: in however many steps one goes on to a time, the same alarms are told by then, in the same order.
-/
import Derived.Test.YtpabnhiaafnjpaaOnceWalk7
namespace Go.Proofs.Ytpabnhiaafnjpaa
open Go.RowKit Go.Lib
set_option maxRecDepth 100000
set_option linter.unusedVariables false
theorem i64and3 (n : Int) : bits .and .i64 n 3 = n % 4 := by simpa using i64_mask 2 (by decide) n
theorem RowOf.src {w : World} {B r cp : Nat} {F : List Nat} (h : RowOf w B r cp F) : SrcAt w 1 (.slice (some ⟨r, 0, none⟩) F.length cp) F.length (ints F) :=
  Or.inl ⟨_, cp, rfl, by rw [ints_len]; omega, fun j u hu => World.ownsRow.cells h rfl j u hu, ints_one F⟩
theorem rowOf_of_own {w : World} {B n r cp : Nat} {F : List Nat} (h : w.ownsRow B 3 1 (.slice (some ⟨r, 0, none⟩) n cp) n (ints F)) (hn : n = F.length) : RowOf w B r cp F := by subst hn; exact h
/-- All that is due by M, in their order. -/
structure Told (f : Nat → Nat × Nat) (n M : Nat) (X : List Nat) : Prop where
  m : ∀ k, k ∈ X ↔ k < n ∧ (f k).1 ≤ M
  d : X.Nodup
  s : X.Pairwise fun a b => ¬ ltA f b a
theorem Told.few {f : Nat → Nat × Nat} {n M : Nat} {X : List Nat} (H : Told f n M X) : X.length ≤ n := few_of_nodup n X H.d fun k hk => ((H.m k).1 hk).1
theorem told_sort {f : Nat → Nat × Nat} {n a : Nat} {R : List Nat} (hm : ∀ k, k ∈ R → k < n ∧ a ≤ (f k).1) (h : R.Pairwise fun x y => ¬ ltA (valS (remF f n a)) y x) : R.Pairwise fun x y => ¬ ltA f y x := by
  have hv : ∀ k, k ∈ R → valS (remF f n a) k = f k := fun k hk => by unfold valS remF; rw [if_pos (hm k hk)]; rfl
  refine List.Pairwise.imp_of_mem ?_ h
  intro x y hx hy h
  unfold ltA at h ⊢
  rw [hv x hx, hv y hy] at h
  exact h
/-- The first step: all that is due by now. -/
theorem Told.first {f : Nat → Nat × Nat} {n M : Nat} {R : List Nat} {S : Nat → Option (Nat × Nat)} (hS : S = remF f n M) (hf : ∀ k, k < n → M ≤ (f k).1) (hd : R.Nodup) (hm : ∀ k, k ∈ R ↔ dueS S n M k) (hs : R.Pairwise fun x y => ¬ ltA (valS S) y x) : Told f n M R := by
  subst hS
  have hD : ∀ k, k ∈ R ↔ k < n ∧ M ≤ (f k).1 ∧ (f k).1 ≤ M := fun k => (hm k).trans (remF_due f n M M k)
  exact ⟨fun k => ⟨fun h => ⟨((hD k).1 h).1, ((hD k).1 h).2.2⟩, fun h => (hD k).2 ⟨h.1, hf k h.1, h.2⟩⟩, hd, told_sort (fun k hk => ⟨((hD k).1 hk).1, ((hD k).1 hk).2.1⟩) hs⟩
/-- A step further. -/
theorem Told.on {f : Nat → Nat × Nat} {n M t : Nat} {X R : List Nat} (H : Told f n M X) (hd : R.Nodup) (hm : ∀ k, k ∈ R ↔ dueS (remF f n (M + 1)) n (max M t) k) (hs : R.Pairwise fun x y => ¬ ltA (valS (remF f n (M + 1))) y x) : Told f n (max M t) (X ++ R) := by
  have hD : ∀ k, k ∈ R ↔ k < n ∧ M + 1 ≤ (f k).1 ∧ (f k).1 ≤ max M t := fun k => (hm k).trans (remF_due f n (M + 1) (max M t) k)
  refine ⟨fun k => ?_, List.nodup_append.2 ⟨H.d, hd, fun a ha b hb e => ?_⟩, List.pairwise_append.2 ⟨H.s, told_sort (fun k hk => ⟨((hD k).1 hk).1, ((hD k).1 hk).2.1⟩) hs, fun a ha b hb => ?_⟩⟩
  · rw [List.mem_append, H.m k, hD k]
    constructor
    · rintro (h | h) <;> omega
    · intro h
      by_cases h1 : (f k).1 ≤ M
      · exact Or.inl ⟨h.1, h1⟩
      · exact Or.inr ⟨h.1, by omega, h.2⟩
  · subst e
    have h1 := (H.m a).1 ha
    have h2 := (hD a).1 hb
    omega
  · have h1 := (H.m a).1 ha
    have h2 := (hD b).1 hb
    unfold ltA
    omega
/-- At once, and in steps: one row. -/
theorem Told.same {f : Nat → Nat × Nat} {n M : Nat} {X Y : List Nat} (H : Told f n M X) (K : Told f n M Y) : X = Y :=
  sorted_eq ((List.perm_ext_iff_of_nodup H.d K.d).2 fun k => (H.m k).trans (K.m k).symm) H.s K.s
theorem told_once {f : Nat → Nat × Nat} {n M a : Nat} {R : List Nat} (hf : ∀ k, k < n → a ≤ (f k).1) (hd : R.Nodup) (hm : ∀ k, k ∈ R ↔ dueS (remF f n a) n M k) (hs : R.Pairwise fun x y => ¬ ltA (valS (remF f n a)) y x) : Told f n M R := by
  have hD : ∀ k, k ∈ R ↔ k < n ∧ a ≤ (f k).1 ∧ (f k).1 ≤ M := fun k => (hm k).trans (remF_due f n a M k)
  exact ⟨fun k => ⟨fun h => ⟨((hD k).1 h).1, ((hD k).1 h).2.2⟩, fun h => (hD k).2 ⟨h.1, hf k h.1, h.2⟩⟩, hd, told_sort (fun k hk => ⟨((hD k).1 hk).1, ((hD k).1 hk).2.1⟩) hs⟩
set_option maxRecDepth 100000 in
set_option maxHeartbeats 64000000 in
theorem cuts_walk (now : Nat) (sa1 : Option Addr) (len1 cap1 sb1 off1 : Nat) (zs1 : Nat → Nat) (sa2 : Option Addr) (len2 cap2 sb2 off2 : Nat) (zs2 : Nat → Nat) (fin : Nat) (w : World) (hnow : now < 18446744073709551616)
    (_hm1 : len1 ≤ maxLen) (hs1 : 0 < len1 → sa1 = some ⟨sb1, off1, none⟩ ∧ sb1 < w.heap.size) (hz1 : ∀ j, j < len1 → w.cell? ⟨sb1, off1 + j, none⟩ = some (.int .u64 ((zs1 j : Nat) : Int)) ∧ zs1 j < 18446744073709551616)
    (_hm2 : len2 ≤ maxLen) (hs2 : 0 < len2 → sa2 = some ⟨sb2, off2, none⟩ ∧ sb2 < w.heap.size) (hz2 : ∀ j, j < len2 → w.cell? ⟨sb2, off2 + j, none⟩ = some (.int .u64 ((zs2 j : Nat) : Int)) ∧ zs2 j < 18446744073709551616) (hfin : fin < 18446744073709551616) :
    Calls Try.prog 5 #[.int .u64 (now : Nat), .slice sa1 len1 cap1, .slice sa2 len2 cap2, .int .u64 (fin : Nat)] w fun e w' => e = .returned (.bool true) ∧ w.grownBy w' none := by
  have C0 := Lib.hid (alive7 w)
  have R0 : Hid (∀ (v : World) (j : Nat), w.grownBy v none → j < len1 → sa1 = some ⟨sb1, off1, none⟩ ∧ v.cell? ⟨sb1, off1 + j, none⟩ = some (.int .u64 ((zs1 j : Nat) : Int)) ∧ zs1 j < 18446744073709551616) := Lib.hid fun v j k hj => by
    obtain ⟨h1, h2⟩ := hs1 (by omega)
    exact ⟨h1, (k.cell_far ⟨sb1, off1 + j, none⟩ h2 (by simp)).trans (hz1 j hj).1, (hz1 j hj).2⟩
  have R2 : Hid (∀ (v : World) (j : Nat), w.grownBy v none → j < len2 → sa2 = some ⟨sb2, off2, none⟩ ∧ v.cell? ⟨sb2, off2 + j, none⟩ = some (.int .u64 ((zs2 j : Nat) : Int)) ∧ zs2 j < 18446744073709551616) := Lib.hid fun v j k hj => by
    obtain ⟨h1, h2⟩ := hs2 (by omega)
    exact ⟨h1, (k.cell_far ⟨sb2, off2 + j, none⟩ h2 (by simp)).trans (hz2 j hj).1, (hz2 j hj).2⟩
  clear hs1 hz1 hs2 hz2
  by_cases hl0 : 64 < len1
  · have q : (64 : Int) < (len1 : Int) := by omega
    go_enter Try.func5, Try.ntmps5
    go_wp2_with fail
    refine C0.out.mono ?_
    rintro e w1 ⟨rfl, k1⟩
    go_wp2
    go_ret
    exact ⟨rfl, k1⟩
  have q0 : ¬ (64 : Int) < (len1 : Int) := by omega
  by_cases hl2 : 60 < len2
  · have q : (60 : Int) < (len2 : Int) := by omega
    go_enter Try.func5, Try.ntmps5
    go_wp2_with fail
    refine C0.out.mono ?_
    rintro e w1 ⟨rfl, k1⟩
    go_wp2
    go_ret
    exact ⟨rfl, k1⟩
  have q2 : ¬ (60 : Int) < (len2 : Int) := by omega
  by_cases hn0 : 4611686018427387904 < now
  · have q : (4611686018427387904 : Int) < (now : Int) := by omega
    go_enter Try.func5, Try.ntmps5
    go_wp2_with fail
    refine C0.out.mono ?_
    rintro e w1 ⟨rfl, k1⟩
    go_wp2
    go_ret
    exact ⟨rfl, k1⟩
  have q1 : ¬ (4611686018427387904 : Int) < (now : Int) := by omega
  obtain ⟨f, hf⟩ : ∃ f : Nat → Nat × Nat, f = fun k => (now + zs1 k % 4611686018427387904, k % 4) := ⟨_, rfl⟩
  have HF : Hid (∀ k, f k = (now + zs1 k % 4611686018427387904, k % 4)) := Lib.hid fun k => by rw [hf]
  clear hf
  have hme := low62 fin hfin
  obtain ⟨ge, hge⟩ : ∃ g, fin % 4611686018427387904 = g := ⟨_, rfl⟩
  have hgeb : ge < 4611686018427387904 := by omega
  rw [hge] at hme
  clear hge
  go_enter Try.func5, Try.ntmps5
  go_wp2_with fail
  refine C0.out.mono ?_
  rintro e u1 ⟨rfl, k1⟩
  have G1 := Lib.hid k1
  have CN : Hid (∀ v, Calls Try.prog 11 #[.int .i64 (len1 : Nat), .int .u64 (now : Nat)] v fun e w' => ∃ wb, e = .returned (.pointer (some ⟨wb, 0, none⟩)) ∧ v.grownBy w' none ∧ Wl w' v.heap.size w'.heap.size wb len1 now (fun _ => none)) := Lib.hid fun v => by
    have := wl_new (len1 : Int) now hnow v
    rwa [clamp_len len1 (by omega)] at this
  clear k1 C0
  go_wp2_with fail
  refine (CN.out _).mono ?_
  rintro e u2 ⟨ba, rfl, k2, h2⟩
  go_wp2_with fail
  refine (CN.out _).mono ?_
  rintro e u3 ⟨bb, rfl, k3, h3⟩
  have eS : (fun _ => none) = setF f 0 := by funext k; simp [setF]
  have HT : Hid (TW w u3 u1.heap.size u2.heap.size ba u2.heap.size u3.heap.size bb len1 now now (setF f 0) (setF f 0)) := Lib.hid ⟨eS ▸ h2.kept k3, eS ▸ h3, (G1.out.trans k2).trans k3, G1.out.size, k2.size, Nat.le_refl _, k3.size, Nat.le_refl _⟩
  clear k2 h2 k3 h3 CN G1 eS
  go_wp2_with fail
  generalize u1.heap.size = l1 at *
  generalize u2.heap.size = h1 at *
  generalize u3.heap.size = h2 at *
  go_loopw [44] (fun it wr => ∃ k : Nat, k ≤ len1 ∧ it = .int .i64 k ∧ Hid (TW w wr l1 h1 ba h1 h2 bb len1 now now (setF f k) (setF f k))) (fun it _ => len1 - (intOf it).toNat)
  case atStart => exact ⟨0, Nat.zero_le _, rfl, HT⟩
  case round =>
    clear HT
    obtain ⟨k, hk, rfl, H0⟩ := hrel
    by_cases hlt : k < len1
    · have qk : (k : Int) < (len1 : Int) := by omega
      obtain ⟨rfl, ck, zkb⟩ := R0.out wr k H0.out.gw hlt
      have mk1 := low62 (zs1 k) zkb
      have fk := HF.out k
      obtain ⟨gk, hgk⟩ : ∃ g, zs1 k % 4611686018427387904 = g := ⟨_, rfl⟩
      have bk : gk < 4611686018427387904 := by omega
      rw [hgk] at mk1 fk
      generalize zs1 k = zk at *
      have xk := i64and3 (k : Int)
      obtain ⟨tk, htk⟩ : ∃ t, k % 4 = t := ⟨_, rfl⟩
      have htk4 : tk < 4 := by omega
      have hkt : (k : Int) % 4 = (tk : Int) := by omega
      rw [hkt] at xk
      rw [htk] at fk
      have ewt : IntKind.u64.wrap (tk : Int) = (tk : Int) := by rw [IntKind.wrap_u64]; omega
      have ew1 : IntKind.u64.wrap ((now : Int) + (gk : Int)) = (now : Int) + (gk : Int) := by rw [IntKind.wrap_u64]; omega
      have CS := wl_set H0.out.a k (now + gk) tk hlt (by simp [setF]) (by omega) (by omega)
      rw [show ((now + gk, tk) : Nat × Nat) = f k from fk.symm, setF_step, show ((now + gk : Nat) : Int) = (now : Int) + (gk : Int) by omega] at CS
      have HCS := Lib.hid CS
      have FK := Lib.hid fk
      clear CS hgk htk hkt fk
      go_wp2_with fail
      refine HCS.out.mono ?_
      rintro e v1 ⟨rfl, kk, hh⟩
      have H1 := Lib.hid (H0.out.on_a kk hh)
      have CS := wl_set H1.out.b k (now + gk) tk hlt (by simp [setF]) (by omega) (by omega)
      rw [show ((now + gk, tk) : Nat × Nat) = f k from FK.out.symm, setF_step, show ((now + gk : Nat) : Int) = (now : Int) + (gk : Int) by omega] at CS
      have HCS2 := Lib.hid CS
      clear kk hh H0 HCS CS ck
      go_wp2_with fail
      refine HCS2.out.mono ?_
      rintro e v2 ⟨rfl, kk, hh⟩
      have H2 := Lib.hid (H1.out.on_b kk hh)
      clear kk hh H1 HCS2
      go_wp2
      go_roundw
      case rel => exact ⟨k + 1, hlt, by go_num, H2⟩
      case measure => simp [intOf]; omega
    · obtain rfl : k = len1 := by omega
      have hfn : ∀ j, j < k → now ≤ (f j).1 := fun j hj => by rw [HF.out j]; exact Nat.le_add_right _ _
      rw [remF_all f k now hfn] at H0
      have HFN := Lib.hid hfn
      have HGE := Lib.hid hgeb
      have hk64 : k ≤ 64 := by omega
      have CA := wl_to H0.out.a now hnow (by have := H0.out.o; omega)
      rw [Nat.max_self] at CA
      have CA1 := Lib.hid CA
      clear CA hfn R0
      go_wp2_with fail
      refine CA1.out.mono ?_
      rintro e v1 ⟨R1, r1, cp1, rfl, row1, kk1, wl1, nd1, m1, s1⟩
      have H1 := H0.out.on_a kk1 wl1
      rw [remF_off f k now now R1 (by omega) m1] at H1
      have H2 := Lib.hid H1
      have TD := Lib.hid (Told.first (f := f) rfl HFN.out nd1 m1 s1)
      have ROW : Hid (RowOf v1 h2 r1 cp1 R1) := Lib.hid (row1.mono (by have := H0.out.o; omega))
      have HLEN := Lib.hid TD.out.few
      obtain ⟨m, hm⟩ : ∃ m, R1.length = m := ⟨_, rfl⟩
      have HM := Lib.hid hm
      rw [hm]
      obtain ⟨i0, hi0, hi1, hi2, hi3⟩ := int_info
      have I0 := Lib.hid hi0
      have I1 := Lib.hid hi1
      have I2 := Lib.hid hi2
      have I3 := Lib.hid hi3
      have htg : now + ge < 18446744073709551616 := by omega
      have hend : Hid (((now + ge : Nat) : Int) = (now : Int) + (ge : Int)) := Lib.hid (by omega)
      clear CA1 row1 kk1 wl1 nd1 m1 s1 H1 H0 hm hi0 hi1 hi2 hi3
      go_wp2_with fail
      go_loopw [75, 13] (fun it gt wr => ∃ (i M r cp m : Nat) (X : List Nat), i ≤ len2 ∧ it = .int .i64 i ∧ gt = .slice (some ⟨r, 0, none⟩) m cp ∧ Hid (X.length = m) ∧ Hid (TW w wr l1 h1 ba h1 h2 bb k M now (remF f k (M + 1)) (remF f k now)) ∧ Hid (Told f k M X) ∧ Hid (RowOf wr h2 r cp X) ∧ Hid (now ≤ M ∧ M ≤ now + ge)) (fun it _ _ => len2 - (intOf it).toNat)
      case atStart => exact ⟨0, now, r1, cp1, m, R1, Nat.zero_le _, rfl, rfl, HM, H2, TD, ROW, Lib.hid ⟨Nat.le_refl _, Nat.le_add_right _ _⟩⟩
      case round =>
        clear H2 TD ROW HM HLEN
        obtain ⟨i, M, r, cp, m, X, hi', rfl, rfl, HM, H, TD, ROW, HB⟩ := hrel
        have hm64 : m ≤ 64 := by have := TD.out.few; have := HM.out; omega
        by_cases hlt : i < len2
        · have qi : (i : Int) < (len2 : Int) := by omega
          obtain ⟨rfl, cz, zb⟩ := R2.out wr i H.out.gw hlt
          have mkz := low62 (zs2 i) zb
          obtain ⟨g, hg⟩ : ∃ g, zs2 i % 4611686018427387904 = g := ⟨_, rfl⟩
          have hgb : g < 4611686018427387904 := by omega
          rw [hg] at mkz
          have ewg : IntKind.u64.wrap ((now : Int) + (g : Int)) = (now : Int) + (g : Int) := by rw [IntKind.wrap_u64]; omega
          clear hg
          generalize zs2 i = z at *
          obtain ⟨tg, htgd⟩ : ∃ t, min (now + g) (now + ge) = t := ⟨_, rfl⟩
          have htb : tg < 18446744073709551616 := by omega
          have htm : tg ≤ now + ge := by omega
          have CA := wl_to H.out.a tg htb (by have := H.out.o; omega)
          have HTG := Lib.hid htgd
          have HTM := Lib.hid htm
          have hs0 : Hid (h2 ≤ wr.heap.size) := Lib.hid (by have := H.out.o; omega)
          have CA1 := Lib.hid CA
          clear CA htgd htm
          have e5 : ((tg : Nat) : Int) = (now : Int) + min (g : Int) (ge : Int) := by have := HTG.out; omega
          rw [e5] at CA1
          clear e5
          go_wp2_with fail
          refine CA1.out.mono ?_
          rintro e v2 ⟨R, rr, cr, rfl, row2, kk2, wl2, nd2, m2, s2⟩
          have H3 := H.out.on_a kk2 wl2
          rw [remF_off f k (M + 1) (max M tg) R (by omega) m2] at H3
          have H4 := Lib.hid H3
          have TD2 := Lib.hid (TD.out.on nd2 m2 s2)
          have ROW2 := Lib.hid (ROW.out.only kk2 (Or.inr (by have := ROW.out.lt.1; have := H.out.o; omega)))
          have OWN := ROW2.out
          unfold RowOf at OWN
          rw [HM.out] at OWN
          have OWN1 := Lib.hid OWN
          obtain ⟨m', hm'⟩ : ∃ m', R.length = m' := ⟨_, rfl⟩
          have SRC := row2.src
          rw [hm'] at SRC ⊢
          have SRC1 := Lib.hid SRC
          have HML := Lib.hid hm'
          have hm2 : m' ≤ 64 := by rw [← hm']; have := few_of_nodup k R nd2 (fun k hk => ((m2 k).1 hk).1); omega
          have hbs : Hid (h2 ≤ v2.heap.size) := Lib.hid (by have := H4.out.o; omega)
          clear CA1 row2 kk2 wl2 nd2 m2 s2 H3 H TD ROW OWN SRC hm' ROW2 hs0
          go_wp2_with (
            at_builtin
            refine wpList_append_src _ rfl _ _ 39 rfl h2 3 i0 (.int .i64 0) 1 8 Try.underlying39 I0.out I1.out I2.out I3.out rfl (by decide) _ m _ rfl OWN1.out _ m' _ rfl SRC1.out (by unfold maxLen; omega) (by omega) hbs.out ?_
            intro v5 w5 own5 gr5 nil5 at5
            have hv5 : ∃ g c, v5 = .slice (some ⟨g, 0, none⟩) (m + m') c := by
              rcases own5.2 with ⟨h0, hx⟩ | ⟨g, c, cur, hv, _⟩
              · exact absurd (nil5.1 h0).1 (by intro hh; cases hh)
              · exact ⟨g, c, hv⟩
            obtain ⟨r5, c5, rfl⟩ := hv5
            have gr5' : v2.grownBy w5 (some r) := gr5
            have hrb : h2 ≤ r := (OWN1.out.lt r rfl).1
            have on5 := Only.of_some gr5' (Nat.le_refl _) (Nat.lt_succ_self _)
            obtain ⟨m3, hm3⟩ : ∃ m3, m + m' = m3 := ⟨_, rfl⟩
            rw [hm3] at own5
            have LEN3 : Hid ((X ++ R).length = m3) := Lib.hid (by rw [List.length_append, HM.out, HML.out, hm3])
            have ROW5 : Hid (RowOf w5 h2 r5 c5 (X ++ R)) := Lib.hid (rowOf_of_own (n := m3) (by rw [ints_add] at own5; exact own5) LEN3.out.symm)
            have H5 : Hid (TW w w5 l1 h1 ba h1 h2 bb k (max M tg) now (remF f k (max M tg + 1)) (remF f k now)) := Lib.hid ⟨H4.out.a.only on5 (Or.inl (by have := H4.out.o; omega)), H4.out.b.only on5 (Or.inl hrb), Only.on H4.out.gw on5 (by have := H4.out.o; omega), by have := H4.out.o; have := on5.size; omega⟩
            rw [hm3]
            clear own5 gr5 nil5 at5 gr5' on5 hm3 OWN1 SRC1 H4)
          go_wp2
          go_roundw
          case rel => exact ⟨i + 1, max M tg, r5, c5, m3, X ++ R, hlt, by go_num, rfl, LEN3, H5, TD2, ROW5, Lib.hid (by have := HB.out; have := HTM.out; omega)⟩
          case measure => simp [intOf]; omega
        · obtain rfl : i = len2 := by omega
          have CA := wl_to H.out.a (now + ge) htg (by have := H.out.o; omega)
          rw [hend.out] at CA
          have CA1 := Lib.hid CA
          have hs0 : Hid (h2 ≤ wr.heap.size) := Lib.hid (by have := H.out.o; omega)
          clear CA
          go_wp2_with fail
          refine CA1.out.mono ?_
          rintro e v2 ⟨R, rr, cr, rfl, row2, kk2, wl2, nd2, m2, s2⟩
          have H3 := H.out.on_a kk2 wl2
          rw [remF_off f k (M + 1) (max M (now + ge)) R (by omega) m2] at H3
          have H4 := Lib.hid H3
          have TD2 := Lib.hid (TD.out.on nd2 m2 s2)
          have ROW2 := Lib.hid (ROW.out.only kk2 (Or.inr (by have := ROW.out.lt.1; have := H.out.o; omega)))
          have OWN := ROW2.out
          unfold RowOf at OWN
          rw [HM.out] at OWN
          have OWN1 := Lib.hid OWN
          obtain ⟨m', hm'⟩ : ∃ m', R.length = m' := ⟨_, rfl⟩
          have SRC := row2.src
          rw [hm'] at SRC ⊢
          have SRC1 := Lib.hid SRC
          have HML := Lib.hid hm'
          have hm2 : m' ≤ 64 := by rw [← hm']; have := few_of_nodup k R nd2 (fun k hk => ((m2 k).1 hk).1); omega
          have hbs : Hid (h2 ≤ v2.heap.size) := Lib.hid (by have := H4.out.o; omega)
          have hmx : max M (now + ge) = now + ge := by have := HB.out; omega
          rw [hmx] at TD2 H4
          clear CA1 row2 kk2 wl2 nd2 m2 s2 H3 H TD ROW OWN SRC hm' hmx ROW2 hs0
          go_wp2_with (
            at_builtin
            refine wpList_append_src _ rfl _ _ 39 rfl h2 3 i0 (.int .i64 0) 1 8 Try.underlying39 I0.out I1.out I2.out I3.out rfl (by decide) _ m _ rfl OWN1.out _ m' _ rfl SRC1.out (by unfold maxLen; omega) (by omega) hbs.out ?_
            intro v5 w5 own5 gr5 nil5 at5
            have hv5 : ∃ g c, v5 = .slice (some ⟨g, 0, none⟩) (m + m') c := by
              rcases own5.2 with ⟨h0, hx⟩ | ⟨g, c, cur, hv, _⟩
              · exact absurd (nil5.1 h0).1 (by intro hh; cases hh)
              · exact ⟨g, c, hv⟩
            obtain ⟨r5, c5, rfl⟩ := hv5
            have gr5' : v2.grownBy w5 (some r) := gr5
            have hrb : h2 ≤ r := (OWN1.out.lt r rfl).1
            have on5 := Only.of_some gr5' (Nat.le_refl _) (Nat.lt_succ_self _)
            obtain ⟨m3, hm3⟩ : ∃ m3, m + m' = m3 := ⟨_, rfl⟩
            rw [hm3] at own5
            have LEN3 : Hid ((X ++ R).length = m3) := Lib.hid (by rw [List.length_append, HM.out, HML.out, hm3])
            have ROW5 : Hid (RowOf w5 h2 r5 c5 (X ++ R)) := Lib.hid (rowOf_of_own (n := m3) (by rw [ints_add] at own5; exact own5) LEN3.out.symm)
            have H5 : Hid (TW w w5 l1 h1 ba h1 h2 bb k (now + ge) now (remF f k (now + ge + 1)) (remF f k now)) := Lib.hid ⟨H4.out.a.only on5 (Or.inl (by have := H4.out.o; omega)), H4.out.b.only on5 (Or.inl hrb), Only.on H4.out.gw on5 (by have := H4.out.o; omega), by have := H4.out.o; have := on5.size; omega⟩
            rw [hm3]
            have HM3 : m3 ≤ 128 := by omega
            clear own5 gr5 nil5 at5 gr5' on5 hm3 OWN1 SRC1 H4)
          have CB := wl_to H5.out.b (now + ge) htg (by have := H5.out.o; omega)
          have hmx : max now (now + ge) = now + ge := by omega
          rw [hmx, hend.out] at CB
          have CB1 := Lib.hid CB
          clear CB hmx
          go_wp2_with fail
          refine CB1.out.mono ?_
          rintro e v6 ⟨Y, r6, c6, rfl, row6, kk6, wl6, nd6, m6, s6⟩
          have H6 := H5.out.on_b kk6 wl6
          rw [remF_off f k now (now + ge) Y (by omega) m6] at H6
          have H7 := Lib.hid H6
          have eXY := TD2.out.same (told_once HFN.out nd6 m6 s6)
          have ROW6 := Lib.hid (ROW5.out.only kk6 (Or.inr (by have := ROW5.out.lt.1; omega)))
          rw [eXY] at ROW6 LEN3
          have CS := same_yes ROW6.out.reads row6.reads (by rw [LEN3.out]; omega)
          rw [LEN3.out] at CS ⊢
          have CS1 := Lib.hid CS
          clear CB1 row6 kk6 wl6 nd6 m6 s6 H6 eXY CS H5 ROW5 TD2
          go_wp2_with fail
          refine CS1.out.mono ?_
          rintro e v7 ⟨rfl, k7⟩
          have H8 := Lib.hid (H7.out.kept k7)
          clear k7 CS1 H7 ROW6
          have CL1 := Lib.hid (wl_len H8.out.a)
          have CL2 := Lib.hid (wl_len H8.out.b)
          have CW1 := Lib.hid (wl_now H8.out.a)
          have CW2 := Lib.hid (wl_now H8.out.b)
          rw [hend.out] at CW1 CW2
          generalize setN (remF f k (now + ge + 1)) k = sn at *
          go_wp2_with fail
          refine CL1.out.mono ?_
          rintro e v8 ⟨rfl, rfl⟩
          go_wp2_with fail
          refine CL2.out.mono ?_
          rintro e v9 ⟨rfl, rfl⟩
          go_wp2_with fail
          refine CW1.out.mono ?_
          rintro e va ⟨rfl, rfl⟩
          go_wp2_with fail
          refine CW2.out.mono ?_
          rintro e vb ⟨rfl, rfl⟩
          go_wp2
          go_ret
          exact ⟨by simp, H8.out.gw⟩
end Go.Proofs.Ytpabnhiaafnjpaa
