/-
  GateTells: whatever is told is something that is wanted, by the handle that watches; what is ready hangs on what came and what was acknowledged alone.
-/
import Derived.Test.YtkbihejcihheaaaTellsInv
import Derived.Deep.RegionHeld3
import Derived.Deep.Cut
namespace Go.Proofs.Ytkbihejcihheaaa
open Go.RowKit Go.Lib
set_option maxRecDepth 100000
set_option linter.unusedVariables false

/-- Two gates side by side. -/
structure G2 (W w : World) (n : Nat) (ga gb : Gt) : Prop where
  a : GAt w n ga
  b : GAt w (n + 1) gb
  gw : W.grownBy w none
  l : W.heap.size ≤ n
/-- And a round's own boxes beside them. -/
structure RT (W w : World) (n ob lb : Nat) (kd mk hd md : Int) (gl ga gb : Gt) : Prop where
  a : GAt w n ga
  b : GAt w (n + 1) gb
  gw : W.grownBy w none
  l : W.heap.size ≤ n
  lt : n + 1 < ob ∧ ob < lb ∧ lb < w.heap.size
  o0 : w.cell? ⟨ob, 0, none⟩ = some (.int .i64 kd)
  o1 : w.cell? ⟨ob, 1, none⟩ = some (.int .i64 mk)
  o2 : w.cell? ⟨ob, 2, none⟩ = some (.int .u64 hd)
  o3 : w.cell? ⟨ob, 3, none⟩ = some (.int .i64 md)
  lk : GAt w lb gl
section
variable {W w w' : World} {n ob lb : Nat} {kd mk hd md : Int} {gl ga gb g' : Gt}
theorem RT.far {lo : Nat} (H : RT W w n ob lb kd mk hd md gl ga gb) (k : Only lo (lo + 1) w w') (h1 : lo = n ∨ lo = n + 1) (p : Nat) : w'.cell? ⟨ob, p, none⟩ = w.cell? ⟨ob, p, none⟩ :=
  k.cell ⟨ob, p, none⟩ (by have := H.lt; show ob < _; omega) (Or.inr (by have := H.lt; show _ ≤ ob; omega))
theorem RT.on_a (H : RT W w n ob lb kd mk hd md gl ga gb) (h : GAt w' n g') (k : Only n (n + 1) w w') : RT W w' n ob lb kd mk hd md gl g' gb :=
  ⟨h, H.b.only k (by omega), Only.on H.gw k H.l, H.l, ⟨H.lt.1, H.lt.2.1, Nat.lt_of_lt_of_le H.lt.2.2 k.size⟩, (H.far k (Or.inl rfl) 0).trans H.o0, (H.far k (Or.inl rfl) 1).trans H.o1, (H.far k (Or.inl rfl) 2).trans H.o2, (H.far k (Or.inl rfl) 3).trans H.o3, H.lk.only k (by have := H.lt; omega)⟩
theorem RT.on_b (H : RT W w n ob lb kd mk hd md gl ga gb) (h : GAt w' (n + 1) g') (k : Only (n + 1) (n + 1 + 1) w w') : RT W w' n ob lb kd mk hd md gl ga g' :=
  ⟨H.a.only k (by omega), h, Only.on H.gw k (by have := H.l; omega), H.l, ⟨H.lt.1, H.lt.2.1, Nat.lt_of_lt_of_le H.lt.2.2 k.size⟩, (H.far k (Or.inr rfl) 0).trans H.o0, (H.far k (Or.inr rfl) 1).trans H.o1, (H.far k (Or.inr rfl) 2).trans H.o2, (H.far k (Or.inr rfl) 3).trans H.o3, H.lk.only k (by have := H.lt; omega)⟩
theorem RT.drew (H : RT W w n ob lb kd mk hd md gl ga gb) : RT W w.drew n ob lb kd mk hd md gl ga gb :=
  ⟨H.a.drew, H.b.drew, H.gw.trans ⟨rfl, rfl, rfl, Nat.le_refl _, fun _ _ _ => rfl⟩, H.l, H.lt, H.o0, H.o1, H.o2, H.o3, H.lk.drew⟩
theorem RT.two (H : RT W w n ob lb kd mk hd md gl ga gb) : G2 W w n ga gb := ⟨H.a, H.b, H.gw, H.l⟩
/-- A round's boxes are made: first the step's, then, behind a look, the look's. -/
theorem RT.made {u v : World} {T U : TypeId} {o : Bool} {r l h x m t : Int} (H : G2 W u n ga gb) (hu : n + 1 < u.heap.size) (k : Only n (n + 1) (u.alloc (Obj.cells #[.int .i64 kd, .int .i64 mk, .int .u64 hd, .int .i64 md] T)) v) (h' : GAt v n ga) :
    RT W (v.alloc (Obj.cells #[.bool o, .int .i64 r, .int .i64 l, .int .u64 h, .int .i64 x, .int .i64 m, .int .i64 t] U)) n u.heap.size v.heap.size kd mk hd md ⟨o, r, l, h, x, m, t⟩ ga gb := by
  have s1 : (u.alloc (Obj.cells #[.int .i64 kd, .int .i64 mk, .int .u64 hd, .int .i64 md] T)).heap.size = u.heap.size + 1 := by show (u.heap.push _).size = _; rw [Array.size_push]
  have k1 := World.grownBy_alloc u (Obj.cells #[.int .i64 kd, .int .i64 mk, .int .u64 hd, .int .i64 md] T) none
  have k2 := World.grownBy_alloc v (Obj.cells #[.bool o, .int .i64 r, .int .i64 l, .int .u64 h, .int .i64 x, .int .i64 m, .int .i64 t] U) none
  have s2 := k.size
  have hc : ∀ i, (u.alloc (Obj.cells #[.int .i64 kd, .int .i64 mk, .int .u64 hd, .int .i64 md] T)).cell? ⟨u.heap.size, i, none⟩ = (#[.int .i64 kd, .int .i64 mk, .int .u64 hd, .int .i64 md] : Array Value)[i]? := fun i => World.cell?_alloc_at _ T _ i rfl
  have hv : ∀ i, (v.alloc (Obj.cells #[.bool o, .int .i64 r, .int .i64 l, .int .u64 h, .int .i64 x, .int .i64 m, .int .i64 t] U)).cell? ⟨u.heap.size, i, none⟩ = (#[.int .i64 kd, .int .i64 mk, .int .u64 hd, .int .i64 md] : Array Value)[i]? := fun i =>
    ((k2.cell_far ⟨u.heap.size, i, none⟩ (show u.heap.size < v.heap.size by omega) (by simp)).trans (k.cell ⟨u.heap.size, i, none⟩ (show u.heap.size < _ by omega) (Or.inr (show n + 1 ≤ u.heap.size by omega)))).trans (hc i)
  have hl : ∀ i, (v.alloc (Obj.cells #[.bool o, .int .i64 r, .int .i64 l, .int .u64 h, .int .i64 x, .int .i64 m, .int .i64 t] U)).cell? ⟨v.heap.size, i, none⟩ = (#[.bool o, .int .i64 r, .int .i64 l, .int .u64 h, .int .i64 x, .int .i64 m, .int .i64 t] : Array Value)[i]? := fun i => World.cell?_alloc_at _ U _ i rfl
  have s3 : (v.alloc (Obj.cells #[.bool o, .int .i64 r, .int .i64 l, .int .u64 h, .int .i64 x, .int .i64 m, .int .i64 t] U)).heap.size = v.heap.size + 1 := by show (v.heap.push _).size = _; rw [Array.size_push]
  exact ⟨h'.kept k2, ((H.b.kept k1).only k (by omega)).kept k2, (Only.on (H.gw.trans k1) k H.l).trans k2, H.l, ⟨hu, by omega, by omega⟩, hv 0, hv 1, hv 2, hv 3,
    ⟨hl 0, hl 1, hl 2, hl 3, hl 4, hl 5, hl 6, fun j => World.frozen?_alloc_at _ U _ j rfl, by omega⟩⟩
end
theorem g2_new (w : World) (T : TypeId) : G2 w ((w.alloc (Obj.cells #[.bool false, .int .i64 0, .int .i64 0, .int .u64 0, .int .i64 0, .int .i64 0, .int .i64 0] T)).alloc (Obj.cells #[.bool false, .int .i64 0, .int .i64 0, .int .u64 0, .int .i64 0, .int .i64 0, .int .i64 0] T)) w.heap.size ⟨false, 0, 0, 0, 0, 0, 0⟩ ⟨false, 0, 0, 0, 0, 0, 0⟩ := by
  have s1 : (w.alloc (Obj.cells #[.bool false, .int .i64 0, .int .i64 0, .int .u64 0, .int .i64 0, .int .i64 0, .int .i64 0] T)).heap.size = w.heap.size + 1 := by show (w.heap.push _).size = _; rw [Array.size_push]
  have h1 := gt_new w T
  have h2 := gt_new (w.alloc (Obj.cells #[.bool false, .int .i64 0, .int .i64 0, .int .u64 0, .int .i64 0, .int .i64 0, .int .i64 0] T)) T
  rw [s1] at h2
  have k1 := World.grownBy_alloc w (Obj.cells #[.bool false, .int .i64 0, .int .i64 0, .int .u64 0, .int .i64 0, .int .i64 0, .int .i64 0] T) none
  have k2 := World.grownBy_alloc (w.alloc (Obj.cells #[.bool false, .int .i64 0, .int .i64 0, .int .u64 0, .int .i64 0, .int .i64 0, .int .i64 0] T)) (Obj.cells #[.bool false, .int .i64 0, .int .i64 0, .int .u64 0, .int .i64 0, .int .i64 0, .int .i64 0] T) none
  exact ⟨h1.kept k2, h2, k1.trans k2, Nat.le_refl _⟩

set_option maxRecDepth 100000 in
set_option maxHeartbeats 32000000 in
theorem tells_walk (sa0 : Option Addr) (len0 cap0 sb0 off0 : Nat) (zs0 : Nat → Nat → Int) (hh0 : Nat → Nat) (w : World)
    (_hm0 : len0 ≤ maxLen) (hs0 : 0 < len0 → sa0 = some ⟨sb0, off0, none⟩ ∧ sb0 < w.heap.size)
    (hz0 : ∀ j, j < len0 → (∀ i, i < 4 → i ≠ 2 → w.cell? ⟨sb0, off0 + j * 4 + i, none⟩ = some (.int .i64 (zs0 j i))) ∧ w.cell? ⟨sb0, off0 + j * 4 + 2, none⟩ = some (.int .u64 (hh0 j : Nat)) ∧ hh0 j < 18446744073709551616) :
    Calls Try.prog 7 #[.slice sa0 len0 cap0] w fun e w' => e = .returned (.bool true) ∧ w.grownBy w' none := by
  have C0 := Lib.hid (alive11 w)
  have R0 : Hid (∀ (v : World) (j : Nat), w.grownBy v none → j < len0 → sa0 = some ⟨sb0, off0, none⟩ ∧ v.cell? ⟨sb0, off0 + j * 4, none⟩ = some (.int .i64 (zs0 j 0)) ∧ v.cell? ⟨sb0, off0 + j * 4 + 1, none⟩ = some (.int .i64 (zs0 j 1)) ∧ v.cell? ⟨sb0, off0 + j * 4 + 2, none⟩ = some (.int .u64 (hh0 j : Nat)) ∧ v.cell? ⟨sb0, off0 + j * 4 + 3, none⟩ = some (.int .i64 (zs0 j 3))) := Lib.hid fun v j k hj => by
    obtain ⟨h1, h2⟩ := hs0 (by omega)
    obtain ⟨a, b, _⟩ := hz0 j hj
    exact ⟨h1, (k.cell_far ⟨sb0, off0 + j * 4, none⟩ h2 (by simp)).trans (a 0 (by omega) (by omega)), (k.cell_far ⟨sb0, off0 + j * 4 + 1, none⟩ h2 (by simp)).trans (a 1 (by omega) (by omega)), (k.cell_far ⟨sb0, off0 + j * 4 + 2, none⟩ h2 (by simp)).trans b, (k.cell_far ⟨sb0, off0 + j * 4 + 3, none⟩ h2 (by simp)).trans (a 3 (by omega) (by omega))⟩
  clear hs0 hz0
  by_cases hl0 : 40 < len0
  · have q : (40 : Int) < (len0 : Int) := by omega
    go_enter Try.func7, Try.ntmps7
    go_wp2_with fail
    refine C0.out.mono ?_
    rintro e w1 ⟨rfl, k1⟩
    go_wp2
    go_ret
    exact ⟨rfl, k1⟩
  have q0 : ¬ (40 : Int) < (len0 : Int) := by omega
  go_enter Try.func7, Try.ntmps7
  go_wp2_with fail
  refine C0.out.mono ?_
  rintro e u1 ⟨rfl, k1⟩
  have GW : Hid (G2 w ((u1.alloc (Obj.cells #[.bool false, .int .i64 0, .int .i64 0, .int .u64 0, .int .i64 0, .int .i64 0, .int .i64 0] 28)).alloc (Obj.cells #[.bool false, .int .i64 0, .int .i64 0, .int .u64 0, .int .i64 0, .int .i64 0, .int .i64 0] 28)) u1.heap.size ⟨false, 0, 0, 0, 0, 0, 0⟩ ⟨false, 0, 0, 0, 0, 0, 0⟩) := Lib.hid (by
    have := g2_new u1 28
    exact ⟨this.a, this.b, k1.trans this.gw, k1.size⟩)
  clear k1 C0
  go_wp2_with fail
  generalize (u1.alloc (Obj.cells #[.bool false, .int .i64 0, .int .i64 0, .int .u64 0, .int .i64 0, .int .i64 0, .int .i64 0] 28)).alloc (Obj.cells #[.bool false, .int .i64 0, .int .i64 0, .int .u64 0, .int .i64 0, .int .i64 0, .int .i64 0] 28) = u2 at *
  generalize u1.heap.size = b at *
  go_loopw [17] (fun it wr => ∃ (j : Nat) (o : Bool) (r h x m t : Int), j ≤ len0 ∧ it = .int .i64 j ∧ Hid (GI o r h x m t) ∧ Hid (G2 w wr b ⟨o, r, 0, h, x, m, t⟩ ⟨o, r, 0, 0, 0, 0, 0⟩)) (fun it _ => len0 - (Go.RowKit.intOf it).toNat)
  case atStart => exact ⟨0, false, 0, 0, 0, 0, 0, Nat.zero_le _, rfl, Lib.hid (GI.zero _), GW⟩
  case round =>
    obtain ⟨j, o, r, h, x, m, t, hj, rfl, HI, HG⟩ := hrel
    clear GW
    by_cases hlt : j < len0
    · obtain ⟨rfl, z0, z1, z2, z3⟩ := R0.out wr j HG.out.gw hlt
      have qj : (j : Int) < (len0 : Int) := by omega
      obtain ⟨kd, hkd⟩ : ∃ c, zs0 j 0 = c := ⟨_, rfl⟩
      obtain ⟨mk, hmk⟩ : ∃ c, zs0 j 1 = c := ⟨_, rfl⟩
      obtain ⟨hd, hhd⟩ : ∃ c : Int, (hh0 j : Int) = c := ⟨_, rfl⟩
      obtain ⟨md, hmd⟩ : ∃ c, zs0 j 3 = c := ⟨_, rfl⟩
      rw [hkd] at z0
      rw [hmk] at z1
      rw [hhd] at z2
      rw [hmd] at z3
      clear hkd hmk hhd hmd
      have CL := Lib.hid (glook_v (HG.out.a.kept (World.grownBy_alloc wr (Obj.cells #[.int .i64 kd, .int .i64 mk, .int .u64 hd, .int .i64 md] 42) none)))
      have HN : Hid (b + 1 < wr.heap.size) := Lib.hid HG.out.b.l
      go_wp2_with fail
      refine CL.out.mono ?_
      rintro e v9 ⟨rfl, h9, k9⟩
      have H0 := Lib.hid (RT.made (U := 26) (o := o) (r := r) (l := 0) (h := h) (x := x) (m := m) (t := t) HG.out HN.out k9 h9)
      clear h9 k9 CL HG z0 z1 z2 z3
      have hf1 : ∀ (o : Bool) (r l h x m t : Int) (w : World), (Instr.field 26 (.agg #[.bool o, .int .i64 r, .int .i64 l, .int .u64 h, .int .i64 x, .int .i64 m, .int .i64 t]) 1).run Try.prog w = .ok (.int .i64 r) w := fun _ _ _ _ _ _ _ _ => by kernel_rfl
      have hf0 : ∀ (o : Bool) (r l h x m t : Int) (w : World), (Instr.field 26 (.agg #[.bool o, .int .i64 r, .int .i64 l, .int .u64 h, .int .i64 x, .int .i64 m, .int .i64 t]) 0).run Try.prog w = .ok (.bool o) w := fun _ _ _ _ _ _ _ _ => by kernel_rfl
      go_upto_region 11 with fail
      generalize v9.alloc (Obj.cells #[.bool o, .int .i64 r, .int .i64 0, .int .u64 h, .int .i64 x, .int .i64 m, .int .i64 t] 26) = v0 at *
      generalize v9.heap.size = lb at *
      generalize wr.heap.size = ob at *
      have o0 := H0.out.o0
      by_cases e0 : kd = 0
      · subst e0
        cases o
        · skip
          clear HN
          go_wp2_with fail
          refine (gopen_v H0.out.a).mono ?_
          rintro e v1 ⟨rfl, h, k⟩
          have H1 := Lib.hid (H0.out.on_a h k)
          clear h k H0
          go_wp2_with fail
          refine (gopen_v H1.out.b).mono ?_
          rintro e v2 ⟨rfl, h, k⟩
          have H2 := Lib.hid (H1.out.on_b h k)
          clear h k H1
          go_wp2_with fail
          refine (glook_v H2.out.a).mono ?_
          rintro e v3 ⟨rfl, h, k⟩
          have H3 := Lib.hid (H2.out.on_a h k)
          clear h k H2
          go_wp2_with fail
          refine (glook_v H3.out.b).mono ?_
          rintro e v4 ⟨rfl, h, k⟩
          have H4 := Lib.hid (H3.out.on_b h k)
          clear h k H3
          go_wp2_with fail
          refine (glook_v H4.out.a).mono ?_
          rintro e v5 ⟨rfl, h, k⟩
          have H5 := Lib.hid (H4.out.on_a h k)
          clear h k H4
          go_wp2_with fail
          refine (glook_v H5.out.b).mono ?_
          rintro e v6 ⟨rfl, h, k⟩
          have H6 := Lib.hid (H5.out.on_b h k)
          clear h k H5
          go_wp2
          go_roundw
          case rel => exact ⟨j + 1, true, 0, 0, 0, 0, 0, by omega, by go_num, Lib.hid (GI.zero true), Lib.hid H6.out.two⟩
          case measure => simp [Go.RowKit.intOf]; omega
        · skip
          go_wp2_with fail
          refine (gopen_n H0.out.a).mono ?_
          rintro e v1 ⟨rfl, h, k⟩
          have H1 := Lib.hid (H0.out.on_a h k)
          clear h k H0
          go_wp2_with fail
          refine (gopen_n H1.out.b).mono ?_
          rintro e v2 ⟨rfl, h, k⟩
          have H2 := Lib.hid (H1.out.on_b h k)
          clear h k H1
          go_wp2_with fail
          refine (glook_v H2.out.a).mono ?_
          rintro e v3 ⟨rfl, h, k⟩
          have H3 := Lib.hid (H2.out.on_a h k)
          clear h k H2
          go_wp2_with fail
          refine (glook_v H3.out.b).mono ?_
          rintro e v4 ⟨rfl, h, k⟩
          have H4 := Lib.hid (H3.out.on_b h k)
          clear h k H3
          go_wp2_with fail
          refine (glook_v H4.out.a).mono ?_
          rintro e v5 ⟨rfl, h, k⟩
          have H5 := Lib.hid (H4.out.on_a h k)
          clear h k H4
          go_wp2_with fail
          refine (glook_v H5.out.b).mono ?_
          rintro e v6 ⟨rfl, h, k⟩
          have H6 := Lib.hid (H5.out.on_b h k)
          clear h k H5
          go_wp2
          go_roundw
          case rel => exact ⟨j + 1, true, r, h, x, m, t, by omega, by go_num, Lib.hid (HI.out), Lib.hid H6.out.two⟩
          case measure => simp [Go.RowKit.intOf]; omega
      by_cases e1 : kd = 1
      · subst e1
        go_wp2_with fail
        refine (gclose_v H0.out.a).mono ?_
        rintro e v1 ⟨rfl, h, k⟩
        have H1 := Lib.hid (H0.out.on_a h k)
        clear h k H0
        go_wp2_with fail
        refine (gclose_v H1.out.b).mono ?_
        rintro e v2 ⟨rfl, h, k⟩
        have H2 := Lib.hid (H1.out.on_b h k)
        clear h k H1
        go_wp2_with fail
        refine (glook_v H2.out.a).mono ?_
        rintro e v3 ⟨rfl, h, k⟩
        have H3 := Lib.hid (H2.out.on_a h k)
        clear h k H2
        go_wp2_with fail
        refine (glook_v H3.out.b).mono ?_
        rintro e v4 ⟨rfl, h, k⟩
        have H4 := Lib.hid (H3.out.on_b h k)
        clear h k H3
        go_wp2_with fail
        refine (glook_v H4.out.a).mono ?_
        rintro e v5 ⟨rfl, h, k⟩
        have H5 := Lib.hid (H4.out.on_a h k)
        clear h k H4
        go_wp2_with fail
        refine (glook_v H5.out.b).mono ?_
        rintro e v6 ⟨rfl, h, k⟩
        have H6 := Lib.hid (H5.out.on_b h k)
        clear h k H5
        go_wp2
        go_roundw
        case rel => exact ⟨j + 1, false, 0, 0, 0, 0, 0, by omega, by go_num, Lib.hid (GI.zero false), Lib.hid H6.out.two⟩
        case measure => simp [Go.RowKit.intOf]; omega
      by_cases e3 : kd = 3
      · subst e3
        have o1 := H0.out.o1
        cases o
        · skip
          go_wp2_with fail
          refine (gmeet_n H0.out.a mk).mono ?_
          rintro e v1 ⟨rfl, h, k⟩
          have H1 := Lib.hid (H0.out.on_a h k)
          clear h k H0
          have o1 := H1.out.o1
          go_wp2_with fail
          refine (gmeet_n H1.out.b mk).mono ?_
          rintro e v2 ⟨rfl, h, k⟩
          have H2 := Lib.hid (H1.out.on_b h k)
          clear h k H1
          clear o1
          go_wp2_with fail
          refine (glook_v H2.out.a).mono ?_
          rintro e v3 ⟨rfl, h, k⟩
          have H3 := Lib.hid (H2.out.on_a h k)
          clear h k H2
          go_wp2_with fail
          refine (glook_v H3.out.b).mono ?_
          rintro e v4 ⟨rfl, h, k⟩
          have H4 := Lib.hid (H3.out.on_b h k)
          clear h k H3
          go_wp2_with fail
          refine (glook_v H4.out.a).mono ?_
          rintro e v5 ⟨rfl, h, k⟩
          have H5 := Lib.hid (H4.out.on_a h k)
          clear h k H4
          go_wp2_with fail
          refine (glook_v H5.out.b).mono ?_
          rintro e v6 ⟨rfl, h, k⟩
          have H6 := Lib.hid (H5.out.on_b h k)
          clear h k H5
          go_wp2
          go_roundw
          case rel => exact ⟨j + 1, false, r, h, x, m, t, by omega, by go_num, Lib.hid (HI.out), Lib.hid H6.out.two⟩
          case measure => simp [Go.RowKit.intOf]; omega
        · obtain ⟨r', hr'⟩ : ∃ r', bits .or .i64 r (bits .and .i64 mk 7) = r' := ⟨_, rfl⟩
          have HR := Lib.hid hr'
          clear hr'
          go_wp2_with fail
          refine (gmeet_v H0.out.a mk r' _ HR.out rfl).mono ?_
          rintro e v1 ⟨rfl, h, k⟩
          have H1 := Lib.hid (H0.out.on_a h k)
          clear h k H0
          have o1 := H1.out.o1
          go_wp2_with fail
          refine (gmeet_v H1.out.b mk r' 0 HR.out (by rw [or0_and, and_zero])).mono ?_
          rintro e v2 ⟨rfl, h, k⟩
          have H2 := Lib.hid (H1.out.on_b h k)
          clear h k H1
          clear o1
          go_wp2_with fail
          refine (glook_v H2.out.a).mono ?_
          rintro e v3 ⟨rfl, h, k⟩
          have H3 := Lib.hid (H2.out.on_a h k)
          clear h k H2
          go_wp2_with fail
          refine (glook_v H3.out.b).mono ?_
          rintro e v4 ⟨rfl, h, k⟩
          have H4 := Lib.hid (H3.out.on_b h k)
          clear h k H3
          go_wp2_with fail
          refine (glook_v H4.out.a).mono ?_
          rintro e v5 ⟨rfl, h, k⟩
          have H5 := Lib.hid (H4.out.on_a h k)
          clear h k H4
          go_wp2_with fail
          refine (glook_v H5.out.b).mono ?_
          rintro e v6 ⟨rfl, h, k⟩
          have H6 := Lib.hid (H5.out.on_b h k)
          clear h k H5
          go_wp2
          go_roundw
          case rel => exact ⟨j + 1, true, r', h, x, m, _, by omega, by go_num, Lib.hid (HI.out.meet mk r'), Lib.hid H6.out.two⟩
          case measure => simp [Go.RowKit.intOf]; omega
      by_cases e5 : kd = 5
      · subst e5
        have o1 := H0.out.o1
        have o2 := H0.out.o2
        have o3 := H0.out.o3
        by_cases hw : o = true ∧ 1 ≤ mk ∧ mk ≤ 7 ∧ 0 ≤ md ∧ md ≤ 2
        · obtain ⟨rfl, w1, w2, w3, w4⟩ := hw
          have CW := Lib.hid (gwatch_v H0.out.a hd mk md _ ⟨w1, w2⟩ ⟨w3, w4⟩ rfl)
          have HW : Hid (0 ≤ md ∧ md ≤ 2) := Lib.hid ⟨w3, w4⟩
          clear w1 w2 w3 w4
          go_wp2_with fail
          refine (CW.out).mono ?_
          rintro e v1 ⟨rfl, h, k⟩
          have H1 := Lib.hid (H0.out.on_a h k)
          clear h k H0
          clear o1 o2 o3 CW
          go_wp2_with fail
          refine (glook_v H1.out.a).mono ?_
          rintro e v2 ⟨rfl, h, k⟩
          have H2 := Lib.hid (H1.out.on_a h k)
          clear h k H1
          go_wp2_with fail
          refine (glook_v H2.out.b).mono ?_
          rintro e v3 ⟨rfl, h, k⟩
          have H3 := Lib.hid (H2.out.on_b h k)
          clear h k H2
          go_wp2_with fail
          refine (glook_v H3.out.a).mono ?_
          rintro e v4 ⟨rfl, h, k⟩
          have H4 := Lib.hid (H3.out.on_a h k)
          clear h k H3
          go_wp2_with fail
          refine (glook_v H4.out.b).mono ?_
          rintro e v5 ⟨rfl, h, k⟩
          have H5 := Lib.hid (H4.out.on_b h k)
          clear h k H4
          go_wp2
          go_roundw
          case rel => exact ⟨j + 1, true, r, hd, mk, md, _, by omega, by go_num, Lib.hid (HI.out.watch hd mk md HW.out), Lib.hid H5.out.two⟩
          case measure => simp [Go.RowKit.intOf]; omega
        · have CW := Lib.hid ((gwatch_no H0.out.a hd mk md hw).mono (fun e w' hh => (⟨hh.1, hh.2 ▸ H0.out.a, hh.2 ▸ Only.refl b (b + 1) v0⟩ : e = .returned (.bool false) ∧ GAt w' b ⟨o, r, 0, h, x, m, t⟩ ∧ Only b (b + 1) v0 w')))
          clear hw
          go_wp2_with fail
          refine (CW.out).mono ?_
          rintro e v1 ⟨rfl, h, k⟩
          have H1 := Lib.hid (H0.out.on_a h k)
          clear h k H0
          clear o1 o2 o3 CW
          go_wp2_with fail
          refine (glook_v H1.out.a).mono ?_
          rintro e v2 ⟨rfl, h, k⟩
          have H2 := Lib.hid (H1.out.on_a h k)
          clear h k H1
          go_wp2_with fail
          refine (glook_v H2.out.b).mono ?_
          rintro e v3 ⟨rfl, h, k⟩
          have H3 := Lib.hid (H2.out.on_b h k)
          clear h k H2
          go_wp2_with fail
          refine (glook_v H3.out.a).mono ?_
          rintro e v4 ⟨rfl, h, k⟩
          have H4 := Lib.hid (H3.out.on_a h k)
          clear h k H3
          go_wp2_with fail
          refine (glook_v H4.out.b).mono ?_
          rintro e v5 ⟨rfl, h, k⟩
          have H5 := Lib.hid (H4.out.on_b h k)
          clear h k H4
          go_wp2
          go_roundw
          case rel => exact ⟨j + 1, o, r, h, x, m, t, by omega, by go_num, Lib.hid (HI.out), Lib.hid H5.out.two⟩
          case measure => simp [Go.RowKit.intOf]; omega
      by_cases e6 : kd = 6
      · subst e6
        go_wp2_with fail
        refine (gunwatch_v H0.out.a _ rfl).mono ?_
        rintro e v1 ⟨rfl, h, k⟩
        have H1 := Lib.hid (H0.out.on_a h k)
        clear h k H0
        go_wp2_with fail
        refine (glook_v H1.out.a).mono ?_
        rintro e v2 ⟨rfl, h, k⟩
        have H2 := Lib.hid (H1.out.on_a h k)
        clear h k H1
        go_wp2_with fail
        refine (glook_v H2.out.b).mono ?_
        rintro e v3 ⟨rfl, h, k⟩
        have H3 := Lib.hid (H2.out.on_b h k)
        clear h k H2
        go_wp2_with fail
        refine (glook_v H3.out.a).mono ?_
        rintro e v4 ⟨rfl, h, k⟩
        have H4 := Lib.hid (H3.out.on_a h k)
        clear h k H3
        go_wp2_with fail
        refine (glook_v H4.out.b).mono ?_
        rintro e v5 ⟨rfl, h, k⟩
        have H5 := Lib.hid (H4.out.on_b h k)
        clear h k H4
        go_wp2
        go_roundw
        case rel => exact ⟨j + 1, o, r, 0, 0, 0, 0, by omega, by go_num, Lib.hid (HI.out.unwatch), Lib.hid H5.out.two⟩
        case measure => simp [Go.RowKit.intOf]; omega
      by_cases e7 : kd = 7
      · subst e7
        obtain ⟨a, ha⟩ : ∃ a, bits .and .i64 r mk = a := ⟨_, rfl⟩
        have CA := Lib.hid (gack_v H0.out.drew.a mk a _ ha rfl)
        have HA := Lib.hid ha
        have HD := Lib.hid H0.out.drew
        have t0 : v0.drew.cell? ⟨ob, 1, none⟩ = some (.int .i64 mk) := HD.out.o1
        clear ha H0
        go_wp2_with fail
        go_region_held3 (fun w' => w'.cell? ⟨ob, 1, none⟩ = some (.int .i64 mk)) (first | exact t2 | exact t1 | exact t0)
          (first
            | (go_at_call 13; (with_reducible refine CA.out.mono ?_); rintro e w5 ⟨rfl, h5, k5⟩; have H1 := Lib.hid (HD.out.on_a h5 k5); have t1 : w5.cell? ⟨ob, 1, none⟩ = some (.int .i64 mk) := H1.out.o1; have CB := Lib.hid (gack_v H1.out.b mk a _ HA.out rfl); clear h5 k5)
            | (go_at_call 13; (with_reducible refine CB.out.mono ?_); rintro e w6 ⟨rfl, h6, k6⟩; have H2 := Lib.hid (H1.out.on_b h6 k6); have t2 : w6.cell? ⟨ob, 1, none⟩ = some (.int .i64 mk) := H2.out.o1; clear h6 k6))
        all_goals
          clear CA CB HD H1 t0 t1 t2
          go_wp2_with fail
          refine (glook_v H2.out.a).mono ?_
          rintro e v3 ⟨rfl, h, k⟩
          have H3 := Lib.hid (H2.out.on_a h k)
          clear h k H2
          go_wp2_with fail
          refine (glook_v H3.out.b).mono ?_
          rintro e v4 ⟨rfl, h, k⟩
          have H4 := Lib.hid (H3.out.on_b h k)
          clear h k H3
          go_wp2_with fail
          refine (glook_v H4.out.a).mono ?_
          rintro e v5 ⟨rfl, h, k⟩
          have H5 := Lib.hid (H4.out.on_a h k)
          clear h k H4
          go_wp2_with fail
          refine (glook_v H5.out.b).mono ?_
          rintro e v6 ⟨rfl, h, k⟩
          have H6 := Lib.hid (H5.out.on_b h k)
          clear h k H5
          go_wp2
          go_roundw
          case rel => exact ⟨j + 1, o, _, h, x, m, t, by omega, by go_num, Lib.hid (HI.out.ack mk), Lib.hid H6.out.two⟩
          case measure => simp [Go.RowKit.intOf]; omega
      by_cases e8 : kd = 8
      · subst e8
        obtain ⟨h', x', m', t', hh, mm, hT, hI', c1, c2, c3⟩ := tells_inv HI.out
        have CT := Lib.hid (gtell_any H0.out.a HI.out.md _ _ _ hT)
        have HI' := Lib.hid hI'
        have C2 := Lib.hid c2
        have C3 := Lib.hid c3
        clear hT hI' c2 c3
        go_wp2_with fail
        refine CT.out.mono ?_
        rintro e v1 ⟨rfl, h, k⟩
        have H1 := Lib.hid (H0.out.on_a h k)
        clear h k H0 CT
        have l0 := H1.out.lk.c0
        have l1 := H1.out.lk.c1
        have l3 := H1.out.lk.c3
        have l4 := H1.out.lk.c4
        have l5 := H1.out.lk.c5
        simp only at l0 l1 l3 l4 l5
        by_cases h0 : m = 0
        · have d3 : bits .andNot .i64 mm r = 0 := C3.out h0
          subst h0
          rcases C2.out with ⟨rfl, rfl⟩ | ⟨hm, rfl, rfl⟩
          · clear C2 C3
            go_wp2_with fail
            refine (glook_v H1.out.a).mono ?_
            rintro e v2 ⟨rfl, h, k⟩
            have H2 := Lib.hid (H1.out.on_a h k)
            clear h k H1
            go_wp2_with fail
            refine (glook_v H2.out.b).mono ?_
            rintro e v3 ⟨rfl, h, k⟩
            have H3 := Lib.hid (H2.out.on_b h k)
            clear h k H2
            go_wp2_with fail
            refine (glook_v H3.out.a).mono ?_
            rintro e v4 ⟨rfl, h, k⟩
            have H4 := Lib.hid (H3.out.on_a h k)
            clear h k H3
            go_wp2_with fail
            refine (glook_v H4.out.b).mono ?_
            rintro e v5 ⟨rfl, h, k⟩
            have H5 := Lib.hid (H4.out.on_b h k)
            clear h k H4
            go_wp2
            go_roundw
            case rel => exact ⟨j + 1, o, r, h', x', m', t', by omega, by go_num, Lib.hid (HI'.out), Lib.hid H5.out.two⟩
            case measure => simp [Go.RowKit.intOf]; omega
          · have e3 : (mm != 0) = decide True := by simp [hm]
            have e4 : decide (mm = 0) = !decide True := by simp [hm]
            clear C2 C3
            go_wp2_with fail
            refine (glook_v H1.out.a).mono ?_
            rintro e v2 ⟨rfl, h, k⟩
            have H2 := Lib.hid (H1.out.on_a h k)
            clear h k H1
            go_wp2_with fail
            refine (glook_v H2.out.b).mono ?_
            rintro e v3 ⟨rfl, h, k⟩
            have H3 := Lib.hid (H2.out.on_b h k)
            clear h k H2
            go_wp2_with fail
            refine (glook_v H3.out.a).mono ?_
            rintro e v4 ⟨rfl, h, k⟩
            have H4 := Lib.hid (H3.out.on_a h k)
            clear h k H3
            go_wp2_with fail
            refine (glook_v H4.out.b).mono ?_
            rintro e v5 ⟨rfl, h, k⟩
            have H5 := Lib.hid (H4.out.on_b h k)
            clear h k H4
            go_wp2
            go_roundw
            case rel => exact ⟨j + 1, true, r, h', x', m', t', by omega, by go_num, Lib.hid (HI'.out), Lib.hid H5.out.two⟩
            case measure => simp [Go.RowKit.intOf]; omega
        · rcases C2.out with ⟨rfl, rfl⟩ | ⟨hm, rfl, rfl⟩
          · clear C2 C3
            go_wp2_with fail
            refine (glook_v H1.out.a).mono ?_
            rintro e v2 ⟨rfl, h, k⟩
            have H2 := Lib.hid (H1.out.on_a h k)
            clear h k H1
            go_wp2_with fail
            refine (glook_v H2.out.b).mono ?_
            rintro e v3 ⟨rfl, h, k⟩
            have H3 := Lib.hid (H2.out.on_b h k)
            clear h k H2
            go_wp2_with fail
            refine (glook_v H3.out.a).mono ?_
            rintro e v4 ⟨rfl, h, k⟩
            have H4 := Lib.hid (H3.out.on_a h k)
            clear h k H3
            go_wp2_with fail
            refine (glook_v H4.out.b).mono ?_
            rintro e v5 ⟨rfl, h, k⟩
            have H5 := Lib.hid (H4.out.on_b h k)
            clear h k H4
            go_wp2
            go_roundw
            case rel => exact ⟨j + 1, o, r, h', x', m', t', by omega, by go_num, Lib.hid (HI'.out), Lib.hid H5.out.two⟩
            case measure => simp [Go.RowKit.intOf]; omega
          · have e3 : (mm != 0) = decide True := by simp [hm]
            have e4 : decide (mm = 0) = !decide True := by simp [hm]
            clear C2 C3
            go_wp2_with fail
            refine (glook_v H1.out.a).mono ?_
            rintro e v2 ⟨rfl, h, k⟩
            have H2 := Lib.hid (H1.out.on_a h k)
            clear h k H1
            go_wp2_with fail
            refine (glook_v H2.out.b).mono ?_
            rintro e v3 ⟨rfl, h, k⟩
            have H3 := Lib.hid (H2.out.on_b h k)
            clear h k H2
            go_wp2_with fail
            refine (glook_v H3.out.a).mono ?_
            rintro e v4 ⟨rfl, h, k⟩
            have H4 := Lib.hid (H3.out.on_a h k)
            clear h k H3
            go_wp2_with fail
            refine (glook_v H4.out.b).mono ?_
            rintro e v5 ⟨rfl, h, k⟩
            have H5 := Lib.hid (H4.out.on_b h k)
            clear h k H4
            go_wp2
            go_roundw
            case rel => exact ⟨j + 1, true, r, h', x', m', t', by omega, by go_num, Lib.hid (HI'.out), Lib.hid H5.out.two⟩
            case measure => simp [Go.RowKit.intOf]; omega
      go_wp2_with fail
      refine (glook_v H0.out.a).mono ?_
      rintro e v1 ⟨rfl, h, k⟩
      have H1 := Lib.hid (H0.out.on_a h k)
      clear h k H0
      go_wp2_with fail
      refine (glook_v H1.out.b).mono ?_
      rintro e v2 ⟨rfl, h, k⟩
      have H2 := Lib.hid (H1.out.on_b h k)
      clear h k H1
      go_wp2_with fail
      refine (glook_v H2.out.a).mono ?_
      rintro e v3 ⟨rfl, h, k⟩
      have H3 := Lib.hid (H2.out.on_a h k)
      clear h k H2
      go_wp2_with fail
      refine (glook_v H3.out.b).mono ?_
      rintro e v4 ⟨rfl, h, k⟩
      have H4 := Lib.hid (H3.out.on_b h k)
      clear h k H3
      go_wp2
      go_roundw
      case rel => exact ⟨j + 1, o, r, h, x, m, t, by omega, by go_num, Lib.hid (HI.out), Lib.hid H4.out.two⟩
      case measure => simp [Go.RowKit.intOf]; omega
    · obtain rfl : j = len0 := by omega
      go_wp2
      go_ret
      exact ⟨rfl, HG.out.gw⟩
end Go.Proofs.Ytkbihejcihheaaa
