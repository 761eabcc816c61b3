/-
  Communication in one goroutine, inside the walk: a region that sends into a buffer with room; one that selects a receive, with a default. No program is named. No condition.
-/
import Derived.Test.YtmhhjipdbfepiaaKept
import Derived.Conc.LoneCalls
import Derived.Conc.LoneSelect
namespace Go.Proofs.Ytmhhjipdbfepiaa
open Go.RowKit Go.Conc

/-- What is left of a region's list leads to where Q holds. -/
def OpsTo (P : Program) (ops : Array Oper) (Q : Exit → Act → World → Prop) (l : List Nat) (a : Act) (w : World) : Prop :=
  ∀ (b : Frame) (k : List Item) (cs : List Frame), ∃ e a' w', Q e a' w' ∧ Arrives P (lone (b.at a (.inRegion ops l :: k)) cs w) b k cs e a' w'
section
variable {P : Program} {ops : Array Oper} {Q : Exit → Act → World → Prop} {l rest : List Nat} {a : Act} {w : World} {i : Nat} {o : Oper}
theorem ops_region {id : Nat} (l : List Nat) (hl : List.range ops.size = l) (h : OpsTo P ops Q l a w) : (Code.region id ops false).wp P Q a w := by
  subst hl
  exact fun b k cs => let ⟨e, a', w', q, r⟩ := h b k cs; ⟨e, a', w', q, .of_steps (.one step_region) r⟩
theorem ops_wp (h : wpOps P ops Q l a w) : OpsTo P ops Q l a w := fun b k cs => wp_ops l a w h b k cs
theorem ops_nil (h : Q .normal a w) : OpsTo P ops Q [] a w := ops_wp h
/-- One operation that yields a value. -/
theorem ops_val {v : Value} {w' : World} (ho : ops[i]? = some o) (hw : Region.wanted o (yielded ops a.tmps) = true) (hr : (execOp a.eval o).run P w = .ok (.value v) w') (h : OpsTo P ops Q rest (a.put o.dst v) w') : OpsTo P ops Q (i :: rest) a w := by
  intro b k cs
  obtain ⟨e, a', w2, hq, harr⟩ := h b k cs
  refine ⟨e, a', w2, hq, .of_steps (.one (step_lone_go ?_)) harr⟩
  have hfin : (b.at a (.inRegion ops (i :: rest) :: k)).finish v = b.at (a.put o.dst v) (.inRegion ops rest :: k) := by rw [Frame.finish_at, ho]; rfl
  rw [stepG_op ho hw, ← hfin]
  simp [stepG.apply, hr]
theorem step_comm {b : Frame} {k : List Item} {cs : List Frame} {cases : Array CommCase} {blocking : Bool} {shape : CommShape} {w' : World} (ho : ops[i]? = some o) (hw : Region.wanted o (yielded ops a.tmps) = true)
    (hr : (execOp a.eval o).run P w = .ok (.comm cases blocking shape) w') : ∃ es, stepG P true (G (b.at a (.inRegion ops (i :: rest) :: k)) cs) w = .comm (G (b.at a (.inRegion ops (i :: rest) :: k)) cs) cases blocking shape w' es := by
  by_cases hk : b.kind = .early
  · have hk' : (b.kind == CallKind.early) = true := by simpa using hk
    have h := stepG_op (P := P) (b := b) (k := k) (cs := cs) (w := w) (rest := rest) ho hw
    simp only [G]
    rw [h]
    simp [stepG.apply, hr, Frame.at, hk', GStep.after]
  · exact ⟨_, stepG_comm ho hw hk hr⟩
theorem ops_comm {cases : Array CommCase} {blocking : Bool} {shape : CommShape} {v : Value} {w' : World} (ho : ops[i]? = some o) (hw : Region.wanted o (yielded ops a.tmps) = true)
    (hr : (execOp a.eval o).run P w = .ok (.comm cases blocking shape) w)
    (hs : ∀ (fr : Frame) (cs : List Frame) (es : Array Event), stepG P true (G fr cs) w = .comm (G fr cs) cases blocking shape w es → step P (solo (G fr cs) w) = .next (solo (G (fr.finish v) cs) w'))
    (h : OpsTo P ops Q rest (a.put o.dst v) w') : OpsTo P ops Q (i :: rest) a w := by
  intro b k cs
  obtain ⟨e, a', w2, hq, harr⟩ := h b k cs
  obtain ⟨es, hst⟩ := step_comm (b := b) (k := k) (cs := cs) (rest := rest) ho hw hr
  have h1 : step P (lone (b.at a (.inRegion ops (i :: rest) :: k)) cs w) = .next (lone ((b.at a (.inRegion ops (i :: rest) :: k)).finish v) cs w') := hs _ _ _ hst
  rw [Frame.finish_at, ho] at h1
  exact ⟨e, a', w2, hq, .of_steps (.one h1) harr⟩
variable {c cap s r : Nat} {buf : Array Value} {tm : Bool} {v z : Value}
/-- A send into a buffer with room. -/
theorem ops_send (ho : ops[i]? = some o) (hw : Region.wanted o (yielded ops a.tmps) = true) (hr : (execOp a.eval o).run P w = .ok (.comm #[scase c v z] true .send) w)
    (hc : w.heap[c]? = some (.chan cap buf false s r tm)) (hroom : buf.size < cap) (h : OpsTo P ops Q rest (a.put o.dst undef) (w.setChan c cap (buf.push v) false (s + 1) r tm)) : OpsTo P ops Q (i :: rest) a w :=
  ops_comm ho hw hr (fun _ _ _ hst => step_lone_send_room hst hc hroom) h
/-- A select of one receive, with a default: something is there. -/
theorem ops_sel_yes (ho : ops[i]? = some o) (hw : Region.wanted o (yielded ops a.tmps) = true) (hr : (execOp a.eval o).run P w = .ok (.comm #[rcase c z] false .select) w)
    (hc : w.heap[c]? = some (.chan cap buf false s r tm)) (hsome : 0 < buf.size) (h : OpsTo P ops Q rest (a.put o.dst (.tuple #[goInt 0, .bool true, buf.getD 0 undef])) (w.setChan c cap (buf.extract 1 buf.size) false s (r + 1) tm)) : OpsTo P ops Q (i :: rest) a w :=
  ops_comm ho hw hr (fun _ _ _ hst => step_lone_select_recv_buf hst hc hsome) h
/-- .. nothing is there. -/
theorem ops_sel_no (ho : ops[i]? = some o) (hw : Region.wanted o (yielded ops a.tmps) = true) (hr : (execOp a.eval o).run P w = .ok (.comm #[rcase c z] false .select) w)
    (hc : w.heap[c]? = some (.chan cap #[] false s r tm)) (h : OpsTo P ops Q rest (a.put o.dst (.tuple #[goInt (-1), .bool false, z])) w) : OpsTo P ops Q (i :: rest) a w :=
  ops_comm ho hw hr (fun _ _ _ hst => step_lone_select_default hst hc) h
end
section
variable {w : World} {c cap s r : Nat} {buf : Array Value} {cl tm : Bool}
theorem setChan_off (w : World) {c b : Nat} (cap : Nat) (buf : Array Value) (cl : Bool) (s r : Nat) (tm : Bool) (h : c ≠ b) : (w.setChan c cap buf cl s r tm).heap[b]? = w.heap[b]? := by
  simp [World.setChan, Array.getElem?_setIfInBounds_ne h]
theorem grown_setChan (w : World) (c cap : Nat) (buf : Array Value) (cl : Bool) (s r : Nat) (tm : Bool) : w.grownBy (w.setChan c cap buf cl s r tm) (some c) :=
  ⟨rfl, rfl, rfl, by rw [size_setChan]; exact Nat.le_refl _, fun k _ hk => setChan_off w cap buf cl s r tm (fun e => hk (by rw [e]))⟩
end
end Go.Proofs.Ytmhhjipdbfepiaa
