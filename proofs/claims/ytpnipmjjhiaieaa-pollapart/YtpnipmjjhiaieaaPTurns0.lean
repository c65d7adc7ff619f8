/-
  PollTurns, the plain part: what a poll is whose devices are all ready, turn by turn.
-/
import Derived.Test.YtpnipmjjhiaieaaAlive13
import Derived.Test.YtpnipmjjhiaieaaGateLaw
import Derived.Test.YtpnipmjjhiaieaaPlain
namespace Go.Proofs.Ytpnipmjjhiaieaa
open Go.RowKit Go.Lib BN
set_option linter.unusedVariables false
def gW (j : Nat) : Gt := ⟨true, 0, 0, (j : Int), 1, 0, 0⟩
def gR (j : Nat) : Gt := ⟨true, 1, 0, (j : Int), 1, 0, 1⟩
/-- The first k devices are open and watched, and something came of each. -/
def tS (k : Nat) : Ps := ⟨fun j => if j < k then gW j else gz, (List.range k).map fun (j : Nat) => ((j : Int), (1 : Int)), 0, []⟩
theorem upd_at (G : Nat → Gt) (k : Nat) (g : Gt) : updG G k g k = g := if_pos rfl
theorem upd_upd (G : Nat → Gt) (k : Nat) (g h : Gt) : updG (updG G k g) k h = updG G k h := by
  funext i; unfold updG; split <;> rfl
theorem tS_free (k : Nat) : (tS k).G k = gz := if_neg (Nat.lt_irrefl _)
theorem tS_open (k : Nat) : (gOpen ((tS k).G k)).2 = true := by rw [tS_free]; rfl
theorem tO_at (k : Nat) : (sOpen (tS k) k).G k = ⟨true, 0, 0, 0, 0, 0, 0⟩ := by unfold sOpen; simp only [upd_at, tS_free]; rfl
theorem gw_at (x : Int) : gWatch ⟨true, 0, 0, 0, 0, 0, 0⟩ x 1 0 = (⟨true, 0, 0, x, 1, 0, 0⟩, true) := by
  unfold gWatch
  rw [if_pos (by decide)]
  have : bits .and .i64 0 1 = 0 := by decide
  rw [this]
theorem dropD_nil (T D : Nat) (d : Int) : dropD T D [] d = [] := by
  unfold dropD inQ
  cases numT T D 2 d <;> simp
theorem tO_watch (k n : Nat) : (gWatch ((sOpen (tS k) k).G k) (k : Int) 1 0).2 = true := by rw [tO_at, gw_at]
theorem tW_eq (k n : Nat) : sWatch 0 n (sOpen (tS k) k) k (k : Int) 1 0 = ⟨updG (tS k).G k (gW k), (tS k).N, 0, []⟩ := by
  unfold sWatch
  rw [tO_at, gw_at]
  show Ps.mk (updG (updG (tS k).G k _) k _) _ _ _ = _
  rw [upd_upd]
  simp only [if_true]
  show Ps.mk _ _ _ (dropD 0 n [] _) = _
  rw [dropD_nil]
  rfl
theorem tW_post (k n : Nat) : decide (bits .and .i64 1 7 ≠ 0 ∧ ((sWatch 0 n (sOpen (tS k) k) k (k : Int) 1 0).G k).op = true) = true := by
  rw [tW_eq]
  simp only [upd_at]
  exact decide_eq_true ⟨by decide, rfl⟩
theorem tS_step (k n : Nat) (h : k < n) : sPost n (sWatch 0 n (sOpen (tS k) k) k (k : Int) 1 0) k 1 = tS (k + 1) := by
  rw [tW_eq]
  unfold sPost
  simp only [upd_at]
  rw [if_pos ⟨by decide, rfl⟩, if_pos (by simpa [tS] using h)]
  have hb : bits .and .i64 1 7 = 1 := by decide
  rw [hb]
  unfold tS
  congr 1
  · funext j
    unfold updG
    by_cases e : j = k
    · subst e; rw [if_pos rfl, if_pos (Nat.lt_succ_self _)]
    · rw [if_neg e]
      show (if j < k then gW j else gz) = _
      by_cases e2 : j < k
      · rw [if_pos e2, if_pos (by omega)]
      · rw [if_neg e2, if_neg (by omega)]
  · rw [List.range_succ, List.map_append]; rfl

/-! ## Settle -/
theorem meetN_snoc (G : Nat → Gt) : ∀ (l : List (Int × Int)) (v : Int × Int), meetN G (l ++ [v]) = updG (meetN G l) v.1.toNat (gMeet (meetN G l v.1.toNat) v.2)
  | [], v => rfl
  | x :: l, v => by rw [List.cons_append, meetN, meetN_snoc (updG G x.1.toNat (gMeet (G x.1.toNat) x.2)) l v]; rfl
theorem meet_W (j : Nat) : gMeet (gW j) 1 = gR j := by
  unfold gMeet gW gR
  rw [if_pos rfl]
  have h1 : bits .or .i64 0 (bits .and .i64 1 7) = 1 := by decide
  have h2 : bits .or .i64 0 (bits .and .i64 1 1) = 1 := by decide
  simp only [h1, h2]
theorem flush_R (j : Nat) : gFlush (gR j) = gR j := by
  unfold gFlush gMeet gR
  rw [if_pos rfl]
  have h1 : bits .or .i64 1 (bits .and .i64 0 7) = 1 := by decide
  have h2 : bits .or .i64 1 (bits .and .i64 0 1) = 1 := by decide
  simp only [h1, h2]
theorem meet_all (n : Nat) : ∀ k, k ≤ n → meetN (tS n).G ((List.range k).map fun (j : Nat) => ((j : Int), (1 : Int))) = fun j => if j < k then gR j else (tS n).G j
  | 0, _ => by funext j; rw [if_neg (by omega)]; rfl
  | k + 1, h => by
    rw [List.range_succ, List.map_append, List.map_singleton, meetN_snoc, meet_all n k (by omega)]
    funext j
    unfold updG
    simp only [Int.toNat_natCast]
    by_cases e : j = k
    · subst e
      rw [if_pos rfl, if_neg (Nat.lt_irrefl _), if_pos (Nat.lt_succ_self _)]
      have : (tS n).G j = gW j := if_pos (by omega)
      rw [this, meet_W]
    · rw [if_neg e]
      by_cases e2 : j < k
      · rw [if_pos e2, if_pos (by omega)]
      · rw [if_neg e2, if_neg (by omega)]
/-- All devices are ready. -/
def gRn (n : Nat) : Nat → Gt := fun j => if j < n then gR j else gz
theorem flush_Rn (n : Nat) : flushN (gRn n) n = gRn n := by
  funext j
  unfold flushN gRn
  by_cases e : j < n
  · rw [if_pos e, if_pos e, flush_R]
  · rw [if_neg e]
theorem sG_start (n : Nat) : sG n (tS n) = gRn n := by
  unfold sG
  have := meet_all n n (Nat.le_refl _)
  rw [show (tS n).N = (List.range n).map fun (j : Nat) => ((j : Int), (1 : Int)) from rfl, this]
  have e : (fun j => if j < n then gR j else (tS n).G j) = gRn n := by
    funext j
    unfold gRn
    by_cases e : j < n
    · rw [if_pos e, if_pos e]
    · rw [if_neg e, if_neg e]; exact if_neg e
  rw [e, flush_Rn]
/-- The queue of those that all want to. -/
def lineW (n m f0 : Nat) (Q : List Nat) : Nat → List Nat × Nat
  | 0 => (Q, f0)
  | k + 1 => if (pushD 0 n m (lineW n m f0 Q k).1 ((f0 + k) % n : Nat)).2 = true
    then ((pushD 0 n m (lineW n m f0 Q k).1 ((f0 + k) % n : Nat)).1, ((f0 + k) % n + 1) % n)
    else lineW n m f0 Q k
theorem line_all (n m f0 : Nat) (Q : List Nat) (hn : 0 < n) : ∀ k, lineN 0 n m (gRn n) n f0 Q k = lineW n m f0 Q k
  | 0 => rfl
  | k + 1 => by
    unfold lineN lineW
    rw [line_all n m f0 Q hn k]
    have h : (gRn n ((f0 + k) % n)).td ≠ 0 := by
      unfold gRn
      rw [if_pos (Nat.mod_lt _ hn)]
      show (1 : Int) ≠ 0
      decide
    by_cases hp : (pushD 0 n m (lineW n m f0 Q k).1 ((f0 + k) % n : Nat)).2 = true
    · rw [if_pos ⟨h, hp⟩, if_pos hp]
    · rw [if_neg (fun hh => hp hh.2), if_neg hp]
/-- Behind Settle, where r is the next one. -/
def cQ (n m r : Nat) : List Nat := (List.range (min n m)).map fun i => (r + i) % n
def cS (n m r : Nat) : Ps := ⟨gRn n, [], (r + min n m) % n, cQ n m r⟩
def turnOk (n m r : Nat) : Bool := decide (lineW n m 0 [] n = (cQ n m 0, (0 + min n m) % n)) && decide (lineW n m ((r + min n m) % n) (cQ n m r).tail n = (cQ n m ((r + 1) % n), ((r + 1) % n + min n m) % n)) && decide (cQ n m r = r :: (cQ n m r).tail)
theorem turn_all : ((List.range 9).all fun n => (List.range 9).all fun m => m == 0 || (List.range n).all fun r => turnOk n m r) = true := by decide +kernel
theorem turn_ok (n m r : Nat) (hn : n < 9) (hm : m < 9) (h0 : 0 < m) (hr : r < n) : lineW n m 0 [] n = (cQ n m 0, (0 + min n m) % n) ∧ lineW n m ((r + min n m) % n) (cQ n m r).tail n = (cQ n m ((r + 1) % n), ((r + 1) % n + min n m) % n) ∧ cQ n m r = r :: (cQ n m r).tail := by
  have h := List.all_eq_true.1 turn_all n (List.mem_range.2 hn)
  have h := List.all_eq_true.1 h m (List.mem_range.2 hm)
  have hz : (m == 0) = false := by simp; omega
  rw [hz, Bool.false_or] at h
  have h := List.all_eq_true.1 h r (List.mem_range.2 hr)
  unfold turnOk at h
  simp only [Bool.and_eq_true, decide_eq_true_eq] at h
  exact ⟨h.1.1, h.1.2, h.2⟩
theorem turn_start (n : Nat) (hn : n < 9) (m : Nat) (hm : m < 9) (h1 : 0 < n) (h2 : 0 < m) : lineW n m 0 [] n = (cQ n m 0, (0 + min n m) % n) := (turn_ok n m 0 hn hm h2 h1).1
theorem turn_next (n : Nat) (hn : n < 9) (m : Nat) (hm : m < 9) (h1 : 0 < n) (h2 : 0 < m) (r : Nat) (hr : r < n) : lineW n m ((r + min n m) % n) (cQ n m r).tail n = (cQ n m ((r + 1) % n), ((r + 1) % n + min n m) % n) := (turn_ok n m r hn hm h2 hr).2.1
theorem turn_head (n : Nat) (hn : n < 9) (m : Nat) (hm : m < 9) (h1 : 0 < n) (h2 : 0 < m) (r : Nat) (hr : r < n) : cQ n m r = r :: (cQ n m r).tail := (turn_ok n m r hn hm h2 hr).2.2
theorem cQ_len (n m r : Nat) : (cQ n m r).length = min n m := by simp [cQ]
theorem settle_start (n m : Nat) (hn : 0 < n ∧ n < 9) (hm : 0 < m ∧ m < 9) : sSettle n 0 n m (tS n) = cS n m 0 := by
  unfold sSettle
  rw [sG_start, line_all n m _ _ hn.1]
  show Ps.mk _ _ (lineW n m 0 [] n).2 (lineW n m 0 [] n).1 = _
  rw [turn_start n hn.2 m hm.2 hn.1 hm.1]
  rfl
theorem tell_R (j : Nat) : tells (gR j) = (gR j, (j : Int), 1) := by
  unfold tells gR
  have h : bits .and .i64 1 1 = 1 := by decide
  simp [h]
theorem tell_c (n m r : Nat) (hr : r < n) : tells ((sQ (cS n m r) (cQ n m r).tail).G r) = (gR r, (r : Int), 1) := by
  show tells (gRn n r) = _
  unfold gRn
  rw [if_pos hr, tell_R]
theorem settle_next (n m r : Nat) (hn : 0 < n ∧ n < 9) (hm : 0 < m ∧ m < 9) (hr : r < n) : sSettle n 0 n m (sTell (sQ (cS n m r) (cQ n m r).tail) r) = cS n m ((r + 1) % n) := by
  have e : sTell (sQ (cS n m r) (cQ n m r).tail) r = ⟨gRn n, [], (r + min n m) % n, (cQ n m r).tail⟩ := by
    unfold sTell
    rw [tell_c n m r hr]
    show Ps.mk (updG (gRn n) r (gR r)) _ _ _ = _
    congr 1
    funext j
    unfold updG gRn
    by_cases e : j = r
    · subst e; rw [if_pos rfl, if_pos hr]
    · rw [if_neg e]
  rw [e]
  unfold sSettle
  have e2 : sG n ⟨gRn n, [], (r + min n m) % n, (cQ n m r).tail⟩ = gRn n := flush_Rn n
  rw [e2, line_all n m _ _ hn.1]
  show Ps.mk _ _ (lineW n m ((r + min n m) % n) (cQ n m r).tail n).2 (lineW n m ((r + min n m) % n) (cQ n m r).tail n).1 = _
  rw [turn_next n hn.2 m hm.2 hn.1 hm.1 r hr]
  rfl

/-! ## Rows of counts -/
def rowV (n : Nat) (c : Nat → Nat) : Array Value := ((List.range n).map fun j => Value.int .i64 ((c j : Nat) : Int)).toArray
theorem rowV_at (n : Nat) (c : Nat → Nat) (j : Nat) (h : j < n) : (rowV n c)[j]? = some (.int .i64 ((c j : Nat) : Int)) := by simp [rowV, h]
theorem rowV_set (n : Nat) (c : Nat → Nat) (j v : Nat) : (rowV n c).setIfInBounds j (.int .i64 (v : Int)) = rowV n (fun i => if i = j then v else c i) := by
  have hs : ∀ d, (rowV n d).size = n := fun d => by simp [rowV]
  apply Array.ext
  · simp [hs]
  · intro i h1 h2
    have hn : i < n := by simpa [hs] using h2
    have e1 := rowV_at n (fun i => if i = j then v else c i) i hn
    rw [Array.getElem?_eq_getElem h2] at e1
    injection e1 with e1
    rw [e1, Array.getElem_setIfInBounds]
    by_cases e : j = i
    · subst e; rw [if_pos rfl, if_pos rfl]
    · have e3 := rowV_at n c i hn
      rw [Array.getElem?_eq_getElem (by rw [hs]; exact hn)] at e3
      injection e3 with e3
      rw [if_neg e, if_neg (fun h => e h.symm), e3]
    rw [hs]; exact hn
theorem rowV_made (n : Nat) : madeCells #[.int .i64 0] n = rowV n (fun _ => 0) := by
  apply Array.ext_getElem?
  intro i
  by_cases hn : i < n
  · rw [rowV_at n _ i hn, made_at _ n i hn]; rfl
  · have h1 : (rowV n (fun _ => 0))[i]? = none := by simp [rowV]; omega
    have h2 : (madeCells #[Value.int .i64 0] n)[i]? = none := by rw [Array.getElem?_eq_none_iff, size_madeCells]; omega
    rw [h1, h2]
end Go.Proofs.Ytpnipmjjhiaieaa
