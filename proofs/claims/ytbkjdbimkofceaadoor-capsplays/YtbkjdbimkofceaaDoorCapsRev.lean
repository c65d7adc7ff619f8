/-
  Contracts of package caps, over this seat's translation: Need, Revoke.
-/
import Derived.Test.YtbkjdbimkofceaaDoorCapsNo
namespace Go.Proofs.YtbkjdbimkofceaaDoor
open Go.RowKit Go.Lib
set_option maxRecDepth 100000

section
variable {w w' : World} {tb rb ro pb po b g hb n G : Nat} {T : Nat → Pl}

/-- What Need answers, by what Look does. -/
def needV (e k i r kind rights : Int) : Value :=
  if e ≠ 0 then .tuple #[.int .i64 0, .int .i64 e] else if k ≠ kind then .tuple #[.int .i64 0, .int .i64 7]
  else if bits .andNot .i64 rights r ≠ 0 then .tuple #[.int .i64 0, .int .i64 6] else .tuple #[.int .i64 i, .int .i64 0]

set_option maxHeartbeats 4000000 in
theorem need_core (h : Nat) (e k i r kind rights : Int) (a : Option Addr) (C : Calls Tryd.prog 14 #[.pointer a, .int .u64 (h : Nat)] w fun x w' => x = .returned (.tuple #[.agg #[.int .i64 k, .int .i64 i, .int .i64 r], .int .i64 e]) ∧ w.grownBy w' none) :
    Calls Tryd.prog 23 #[.pointer a, .int .u64 (h : Nat), .int .i64 kind, .int .i64 rights] w fun x w' => x = .returned (needV e k i r kind rights) ∧ w.grownBy w' none := by
  have CC := Lib.hid C
  clear C
  have hb : ∀ v : Int, bits .andNot .i64 rights r = v → bits .andNot .i64 rights r = v := fun _ h => h
  by_cases h1 : e = 0
  · by_cases h2 : k = kind
    · by_cases h3 : bits .andNot .i64 rights r = 0
      · have hv : needV e k i r kind rights = .tuple #[.int .i64 i, .int .i64 0] := by simp [needV, h1, h2, h3]
        rw [hv]
        subst h1 h2
        clear hv hb
        go_enter Tryd.func23, Tryd.ntmps23
        go_wp2_with fail
        refine CC.out.mono ?_
        rintro e w1 ⟨rfl, k1⟩
        have KK := Lib.hid k1
        clear k1
        go_wp2
        go_ret2
        exact ⟨rfl, KK.out.trans (World.grownBy_alloc ..)⟩
      · have hv : needV e k i r kind rights = .tuple #[.int .i64 0, .int .i64 6] := by simp [needV, h1, h2, h3]
        rw [hv]
        subst h1 h2
        clear hv hb
        go_enter Tryd.func23, Tryd.ntmps23
        go_wp2_with fail
        refine CC.out.mono ?_
        rintro e w1 ⟨rfl, k1⟩
        have KK := Lib.hid k1
        clear k1
        go_wp2
        go_ret2
        exact ⟨rfl, KK.out.trans (World.grownBy_alloc ..)⟩
    · have hv : needV e k i r kind rights = .tuple #[.int .i64 0, .int .i64 7] := by simp [needV, h1, h2]
      rw [hv]
      subst h1
      clear hv hb
      go_enter Tryd.func23, Tryd.ntmps23
      go_wp2_with fail
      refine CC.out.mono ?_
      rintro e w1 ⟨rfl, k1⟩
      have KK := Lib.hid k1
      clear k1
      go_wp2
      go_ret2
      exact ⟨rfl, KK.out.trans (World.grownBy_alloc ..)⟩
  · have hv : needV e k i r kind rights = .tuple #[.int .i64 0, .int .i64 e] := by simp [needV, h1]
    rw [hv]
    clear hv hb
    go_enter Tryd.func23, Tryd.ntmps23
    go_wp2_with fail
    refine CC.out.mono ?_
    rintro e w1 ⟨rfl, k1⟩
    have KK := Lib.hid k1
    clear k1
    go_wp2
    go_ret2
    exact ⟨rfl, KK.out.trans (World.grownBy_alloc ..)⟩

theorem need_in (p : Nat) (kind rights : Int) (H : CapMem w tb rb ro pb po b g hb n G T) (hp : p < n) (ho : (T p).out = true) :
    Calls Tryd.prog 23 #[.pointer (some ⟨tb, 0, none⟩), .int .u64 (hbits p (T p).gen (T p).r : Nat), .int .i64 kind, .int .i64 rights] w fun x w' => x = .returned (needV 0 (T p).k (T p).i ((T p).r : Nat) kind rights) ∧ w.grownBy w' none :=
  need_core _ _ _ _ _ _ _ _ (look_in p H hp ho)
theorem need_no (h : Nat) (kind rights : Int) (H : CapMem w tb rb ro pb po b g hb n G T) (hh : h < 18446744073709551616) (hno : ∀ p, p < n → (T p).out = true → hbits p (T p).gen (T p).r ≠ h) :
    Calls Tryd.prog 23 #[.pointer (some ⟨tb, 0, none⟩), .int .u64 (h : Nat), .int .i64 kind, .int .i64 rights] w fun x w' => x = .returned (.tuple #[.int .i64 0, .int .i64 5]) ∧ w.grownBy w' none :=
  need_core _ _ _ _ _ _ _ _ (look_no h H hh hno)

set_option maxHeartbeats 4000000 in
theorem revoke_no (h : Nat) (H : CapMem w tb rb ro pb po b g hb n G T) (hh : h < 18446744073709551616) (hno : ∀ p, p < n → (T p).out = true → hbits p (T p).gen (T p).r ≠ h) :
    Calls Tryd.prog 12 #[.pointer (some ⟨tb, 0, none⟩), .int .u64 (h : Nat)] w fun x w' => x = .returned (.int .i64 5) ∧ w.grownBy w' none := by
  have CC := Lib.hid (look_no h H hh hno)
  clear H hno
  go_enter Tryd.func12, Tryd.ntmps12
  go_wp2_with fail
  refine CC.out.mono ?_
  rintro e w1 ⟨rfl, k1⟩
  have KK := Lib.hid k1
  clear k1
  go_wp2
  go_ret
  exact ⟨rfl, KK.out.trans (World.grownBy_alloc ..)⟩

set_option maxHeartbeats 4000000 in
theorem revoke_ok (p : Nat) (H : CapMem w tb rb ro pb po b g hb n G T) (hp : p < n) (ho : (T p).out = true) :
    Calls Tryd.prog 12 #[.pointer (some ⟨tb, 0, none⟩), .int .u64 (hbits p (T p).gen (T p).r : Nat)] w fun x w' => x = .returned (.int .i64 0) ∧ CTouch hb g pb po (n * 4) w w' ∧ CapMem w' tb rb ro pb po b g hb n G (upV T p (T p).drop) := by
  obtain ⟨o1, o2, o3⟩ := H.ok p hp
  have hn := H.reg.hn
  have hG := H.hG.2
  have CC := Lib.hid (look_in p H hp ho)
  have C1 : Hid (∀ v : World, Calls Tryd.prog 24 #[.int .u64 (hbits p (T p).gen (T p).r : Nat)] v fun e w' => e = .returned (.tuple #[.int .i64 p, .int .u64 (T p).gen, .int .i64 (T p).r]) ∧ v = w') := Lib.hid fun v => by
    have := parts_any (hbits p (T p).gen (T p).r) v (hbits_lt p (T p).gen (T p).r (by omega) (by omega) o3)
    rwa [hbits_slot p (T p).gen (T p).r (by omega) o3, hbits_gen p (T p).gen (T p).r (by omega) o3, hbits_rights p (T p).gen (T p).r o3] at this
  generalize hbits p (T p).gen (T p).r = h at *
  have HH := Lib.hid H
  have HO := Lib.hid ho
  have q1 : (p : Int) < (n : Int) := by omega
  clear H
  go_enter Tryd.func12, Tryd.ntmps12
  go_wp2_with fail
  refine CC.out.mono ?_
  rintro e w1 ⟨rfl, k1⟩
  have ka := World.grownBy_alloc w1 (.cells #[.int .i64 (T p).k, .int .i64 (T p).i, .int .i64 ((T p).r : Nat)] 33) none
  have k2 := k1.trans ka
  have H2 := HH.out.kept k2
  have KK := Lib.hid k2
  have HX := Lib.hid H2
  have t0 := H2.t0
  have t1 := H2.t1
  have t2 := H2.t2
  have t3 := H2.hc p hp
  clear k1 k2 ka H2
  generalize hT : (T p).gen = gn at *
  go_wp2_with fail
  refine (C1.out _).mono ?_
  rintro e w' ⟨rfl, rfl⟩
  have hf : Hid (∀ v, (w1.alloc (.cells #[.int .i64 (T p).k, .int .i64 (T p).i, .int .i64 ((T p).r : Nat)] 33)).grownBy v none → w.grownBy v none ∧ v.cell? ⟨tb, 0, none⟩ = some (.pointer (some ⟨rb, ro, none⟩)) ∧ CapMem v tb rb ro pb po b g hb n G T) := Lib.hid fun v kv => ⟨KK.out.trans kv, (HX.out.kept kv).t0, HX.out.kept kv⟩
  generalize w1.alloc (.cells #[.int .i64 (T p).k, .int .i64 (T p).i, .int .i64 ((T p).r : Nat)] 33) = w2 at *
  by_cases hgg : (gn : Int) < (G : Int)
  · go_wp2_with fail
    go_quiet (fail)
    have kq : w2.grownBy (w2.drewN nq) none := ⟨rfl, rfl, rfl, Nat.le_refl _, fun _ _ _ => rfl⟩
    obtain ⟨kw, s0, H3⟩ := hf.out _ kq
    have CG := Lib.hid (SR.give_in p H3.reg hp (by simp [Pl.full, HO.out]))
    have KW := Lib.hid kw
    have HY := Lib.hid H3
    clear kq kw H3 hf t0 t1 t2 t3
    go_wp2_with fail
    refine CG.out.mono ?_
    rintro e w3 ⟨rfl, T3, R3⟩
    have TT := Lib.hid T3
    have RR := Lib.hid R3
    clear T3 R3
    go_wp2
    go_ret
    have C3 : CTouch hb g pb po (n * 4) (w2.drewN nq) w3 := CTouch.of_touch TT.out
    refine ⟨rfl, (CTouch.of_none KW.out HH.out.reg.l.2).trans C3, ?_⟩
    have d := HY.out.d
    have hl := HY.out.l
    refine HY.out.turned C3 RR.out (fun j => ?_) (fun j => ?_) (fun j hj => ?_) (fun j => ?_) (fun j hj => ?_)
    · by_cases e : j = p
      · subst e; simp [del, upV_same, Pl.full, Pl.drop, hT]; omega
      · simp [del, upV_other _ _ _ _ e, e]
    · by_cases e : j = p
      · subst e; simp [upV_same, Pl.row, Pl.drop]
      · simp [upV_other _ _ _ _ e]
    · rw [TT.out.far hb j hl.2 d.2.2.2.2.2.2 d.2.2.2.2.1, HY.out.hc j hj]
      by_cases e : j = p
      · subst e; rw [upV_same]; rfl
      · rw [upV_other _ _ _ _ e]
    · exact TT.out.farF hb j hl.2 d.2.2.2.2.2.2 d.2.2.2.2.1
    · by_cases e : j = p
      · subst e; rw [upV_same]; exact ⟨by show (T j).gen ≤ G; omega, fun h => (by cases h), by show (0 : Nat) < 256; omega⟩
      · rw [upV_other _ _ _ _ e]; exact HY.out.ok j hj
  · go_wp2_with fail
    go_quiet (fail)
    have kq : w2.grownBy (w2.drewN nq) none := ⟨rfl, rfl, rfl, Nat.le_refl _, fun _ _ _ => rfl⟩
    obtain ⟨kw, s0, H3⟩ := hf.out _ kq
    have CG := Lib.hid (SR.set_in p SR.Pr.none H3.reg hp (by simp [Pl.full, HO.out]))
    have KW := Lib.hid kw
    have HY := Lib.hid H3
    clear kq kw H3 hf t0 t1 t2 t3
    go_wp2_with fail
    refine CG.out.mono ?_
    rintro e w3 ⟨rfl, T3, R3⟩
    have TT := Lib.hid T3
    have RR := Lib.hid R3
    clear T3 R3
    go_wp2
    go_ret
    have C3 : CTouch hb g pb po (n * 4) (w2.drewN nq) w3 := CTouch.of_touch TT.out
    refine ⟨rfl, (CTouch.of_none KW.out HH.out.reg.l.2).trans C3, ?_⟩
    have d := HY.out.d
    have hl := HY.out.l
    refine HY.out.turned C3 RR.out (fun j => ?_) (fun j => ?_) (fun j hj => ?_) (fun j => ?_) (fun j hj => ?_)
    · by_cases e : j = p
      · subst e; simp [upV_same, Pl.full, Pl.drop, hT, HO.out]; omega
      · simp [upV_other _ _ _ _ e]
    · by_cases e : j = p
      · subst e; simp [upV_same, Pl.row, Pl.drop]
      · simp [upV_other _ _ _ _ e]
    · rw [TT.out.far hb j hl.2 d.2.2.2.2.2.2 d.2.2.2.2.1, HY.out.hc j hj]
      by_cases e : j = p
      · subst e; rw [upV_same]; rfl
      · rw [upV_other _ _ _ _ e]
    · exact TT.out.farF hb j hl.2 d.2.2.2.2.2.2 d.2.2.2.2.1
    · by_cases e : j = p
      · subst e; rw [upV_same]; exact ⟨by show (T j).gen ≤ G; omega, fun h => (by cases h), by show (0 : Nat) < 256; omega⟩
      · rw [upV_other _ _ _ _ e]; exact HY.out.ok j hj
end
end Go.Proofs.YtbkjdbimkofceaaDoor
