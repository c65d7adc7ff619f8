/-
  Contracts of package box (things of type poll.Note), over this seat's translation: put and take, which send and receive without waiting.
-/
import Derived.Test.YtpnipmjjhiaieaaFrame
import Derived.Conc.LoneSelect
import Derived.Conc.LoneSelectN
import Derived.KernelRfl
namespace Go.Proofs.Ytpnipmjjhiaieaa.BN
open Go.RowKit Go.Lib Go.Conc

set_option maxRecDepth 100000 in
theorem put_room {w : World} {bb c cap s r : Nat} {buf : Array Value} (p : Value) (hb : w.cell? ⟨bb, 0, none⟩ = some (.chan (some c))) (hc : w.heap[c]? = some (.chan cap buf false s r false)) (hr : buf.size < cap) :
    Calls Try.prog 58 #[.pointer (some ⟨bb, 0, none⟩), p] w fun e w' => e = .returned (.bool true) ∧ w' = w.setChan c cap (buf.push p) false (s + 1) r false := by
  refine calls_of_loneTo fun cs => ?_
  have e : Frame.enter Try.prog 58 #[.pointer (some ⟨bb, 0, none⟩), p] .normal = (base 58).at ⟨#[.pointer (some ⟨bb, 0, none⟩), p, undef, undef, undef, undef, undef, undef, undef, undef, undef, undef, undef], []⟩ [.code (Try.f58.body.getD .skip)] := by
    simp [Frame.enter, Frame.at, Try.func58, base, Try.f58]
  rw [e]
  refine LoneTo.goes (n := 40) ?_
  simp only [Try.f58, Option.getD_some]
  repeat (first | s_c stepG_seq | s_c stepG_region_end | s_reg | s_op)
  s_stop
  refine LoneTo.step (step_lone_select_send_room (c := c) (v := p) (z' := .pointer none) (cap := cap) (buf := buf) (s := s) (r := r) (tm := false) (stepG_comm (cases := #[scase c p (.pointer none)]) (blocking := false) (shape := .select) (w' := w) rfl rfl (by decide) (by simp [go_sem, execOp, scase, Act.eval])) hc hr) ?_
  rw [Frame.finish_at]
  walk_nrm
  refine LoneTo.goes (n := 40) ?_
  s_op
  s_op
  s_c stepG_region_end
  s_c stepG_block
  s_cond true
  repeat (first | s_c stepG_seq | s_c stepG_region_end | s_reg | s_op)
  s_c stepG_ret'
  s_stop
  refine LoneTo.done ⟨.returned (.bool true), _, rfl, ⟨rfl, ?_⟩, rfl, rfl, rfl, rfl, _, Try.func58, by simp [results, Try.f58, Frame.at]⟩
  rfl

set_option maxRecDepth 100000 in
theorem put_full {w : World} {bb c cap s r : Nat} {buf : Array Value} (p : Value) (hb : w.cell? ⟨bb, 0, none⟩ = some (.chan (some c))) (hc : w.heap[c]? = some (.chan cap buf false s r false)) (hr : cap ≤ buf.size) :
    Calls Try.prog 58 #[.pointer (some ⟨bb, 0, none⟩), p] w fun e w' => e = .returned (.bool false) ∧ w' = w := by
  refine calls_of_loneTo fun cs => ?_
  have e : Frame.enter Try.prog 58 #[.pointer (some ⟨bb, 0, none⟩), p] .normal = (base 58).at ⟨#[.pointer (some ⟨bb, 0, none⟩), p, undef, undef, undef, undef, undef, undef, undef, undef, undef, undef, undef], []⟩ [.code (Try.f58.body.getD .skip)] := by
    simp [Frame.enter, Frame.at, Try.func58, base, Try.f58]
  rw [e]
  refine LoneTo.goes (n := 40) ?_
  simp only [Try.f58, Option.getD_some]
  repeat (first | s_c stepG_seq | s_c stepG_region_end | s_reg | s_op)
  s_stop
  refine LoneTo.step (step_lone_select_send_full (c := c) (v := p) (z' := .pointer none) (cap := cap) (buf := buf) (s := s) (r := r) (tm := false) (stepG_comm (cases := #[scase c p (.pointer none)]) (blocking := false) (shape := .select) (w' := w) rfl rfl (by decide) (by simp [go_sem, execOp, scase, Act.eval])) hc hr) ?_
  rw [Frame.finish_at]
  walk_nrm
  refine LoneTo.goes (n := 40) ?_
  s_op
  s_op
  s_c stepG_region_end
  s_c stepG_block
  s_cond false
  repeat (first | s_c stepG_seq | s_c stepG_region_end | s_reg | s_op)
  s_c stepG_ret'
  s_stop
  refine LoneTo.done ⟨.returned (.bool false), _, rfl, ⟨rfl, ?_⟩, rfl, rfl, rfl, rfl, _, Try.func58, by simp [results, Try.f58, Frame.at]⟩
  rfl

set_option maxRecDepth 100000 in
theorem take_some {w : World} {bb c cap s r : Nat} {buf : Array Value} (hb : w.cell? ⟨bb, 0, none⟩ = some (.chan (some c))) (hc : w.heap[c]? = some (.chan cap buf false s r false)) (hr : 0 < buf.size) (p : Value) (hp : buf.getD 0 undef = p) :
    Calls Try.prog 59 #[.pointer (some ⟨bb, 0, none⟩)] w fun e w' => e = .returned p ∧ w' = w.setChan c cap (buf.extract 1 buf.size) false s (r + 1) false := by
  refine calls_of_loneTo fun cs => ?_
  have e : Frame.enter Try.prog 59 #[.pointer (some ⟨bb, 0, none⟩)] .normal = (base 59).at ⟨#[.pointer (some ⟨bb, 0, none⟩), undef, undef, undef, undef, undef, undef, undef, undef, undef, undef, undef, undef], []⟩ [.code (Try.f59.body.getD .skip)] := by
    simp [Frame.enter, Frame.at, Try.func59, base, Try.f59]
  rw [e]
  refine LoneTo.goes (n := 40) ?_
  simp only [Try.f59, Option.getD_some]
  repeat (first | s_c stepG_seq | s_c stepG_region_end | s_reg | s_op)
  s_stop
  refine LoneTo.step (step_lone_select_recv_buf (c := c) (z := .pointer none) (cap := cap) (buf := buf) (s := s) (r := r) (tm := false) (stepG_comm (cases := #[rcase c (.pointer none)]) (blocking := false) (shape := .select) (w' := w) rfl rfl (by decide) (by simp [go_sem, execOp, rcase, Act.eval])) hc hr) ?_
  rw [Frame.finish_at, hp]
  walk_nrm
  refine LoneTo.goes (n := 40) ?_
  s_op
  s_op
  s_c stepG_region_end
  s_c stepG_block
  s_cond true
  repeat (first | s_c stepG_seq | s_c stepG_region_end | s_reg | s_op)
  s_c stepG_ret'
  s_stop
  refine LoneTo.done ⟨.returned p, _, rfl, ⟨rfl, ?_⟩, rfl, rfl, rfl, rfl, _, Try.func59, by simp [results, Try.f59, Frame.at]⟩
  rfl

set_option maxRecDepth 100000 in
theorem take_none {w : World} {bb c cap s r : Nat} {buf : Array Value} (hb : w.cell? ⟨bb, 0, none⟩ = some (.chan (some c))) (hc : w.heap[c]? = some (.chan cap #[] false s r false)) :
    Calls Try.prog 59 #[.pointer (some ⟨bb, 0, none⟩)] w fun e w' => e = .returned (.pointer none) ∧ w' = w := by
  refine calls_of_loneTo fun cs => ?_
  have e : Frame.enter Try.prog 59 #[.pointer (some ⟨bb, 0, none⟩)] .normal = (base 59).at ⟨#[.pointer (some ⟨bb, 0, none⟩), undef, undef, undef, undef, undef, undef, undef, undef, undef, undef, undef, undef], []⟩ [.code (Try.f59.body.getD .skip)] := by
    simp [Frame.enter, Frame.at, Try.func59, base, Try.f59]
  rw [e]
  refine LoneTo.goes (n := 40) ?_
  simp only [Try.f59, Option.getD_some]
  repeat (first | s_c stepG_seq | s_c stepG_region_end | s_reg | s_op)
  s_stop
  refine LoneTo.step (step_lone_select_default (c := c) (z := .pointer none) (cap := cap) (s := s) (r := r) (tm := false) (stepG_comm (cases := #[rcase c (.pointer none)]) (blocking := false) (shape := .select) (w' := w) rfl rfl (by decide) (by simp [go_sem, execOp, rcase, Act.eval])) hc) ?_
  rw [Frame.finish_at]
  walk_nrm
  refine LoneTo.goes (n := 40) ?_
  s_op
  s_op
  s_c stepG_region_end
  s_c stepG_block
  s_cond false
  repeat (first | s_c stepG_seq | s_c stepG_region_end | s_reg | s_op)
  s_c stepG_ret'
  s_stop
  refine LoneTo.done ⟨.returned (.pointer none), _, rfl, ⟨rfl, ?_⟩, rfl, rfl, rfl, rfl, _, Try.func59, by simp [results, Try.f59, Frame.at]⟩
  rfl

/-- A box's channel, its things by their addresses. -/
theorem put_l {w : World} {bb c cap s r : Nat} {l : List Value} (p : Value) (hb : w.cell? ⟨bb, 0, none⟩ = some (.chan (some c))) (hc : w.heap[c]? = some (.chan cap l.toArray false s r false)) (hr : l.length < cap) :
    Calls Try.prog 58 #[.pointer (some ⟨bb, 0, none⟩), p] w fun e w' => e = .returned (.bool true) ∧ w' = w.setChan c cap (l ++ [p]).toArray false (s + 1) r false := by
  have := put_room p hb hc (by simpa using hr)
  simpa using this
theorem take_l {w : World} {bb c cap s r : Nat} {p : Value} {l : List Value} (hb : w.cell? ⟨bb, 0, none⟩ = some (.chan (some c))) (hc : w.heap[c]? = some (.chan cap (p :: l).toArray false s r false)) :
    Calls Try.prog 59 #[.pointer (some ⟨bb, 0, none⟩)] w fun e w' => e = .returned p ∧ w' = w.setChan c cap l.toArray false s (r + 1) false := by
  have := take_some hb hc (by simp) p (by simp)
  have e : ((p :: l).toArray.extract 1 (p :: l).toArray.size) = l.toArray := by simp
  rw [e] at this
  exact this
end Go.Proofs.Ytpnipmjjhiaieaa.BN
