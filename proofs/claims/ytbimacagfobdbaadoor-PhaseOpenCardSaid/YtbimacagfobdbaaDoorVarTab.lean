/-
  A package's own tables (variables whose value is written out): what a row lists tells their cells. No program is named. No condition.
-/
import Derived.Test.YtbimacagfobdbaaDoorBase
import Derived.Lib.LaidTab
import Derived.Lib.LaidU8
import Derived.Lib.SmallJoins
namespace Go.Proofs.YtbimacagfobdbaaDoor
open Go Go.RowKit

/-- The cells of a datum without pointers: a literal; a row of literals; a row of rows. -/
def leaf1 {H : Type} : DataW H → List Value
  | .lit (.int k n) => [.int k n]
  | .lit (.bool b) => [.bool b]
  | .lit (.string l) => [.string ⟨l.toArray⟩]
  | _ => []
def leaf2 {H : Type} : DataW H → List Value
  | .agg ds => ds.flatMap leaf1
  | d => leaf1 d
def leaf3 {H : Type} : DataW H → List Value
  | .agg ds => ds.flatMap leaf2
  | d => leaf2 d
section
variable {H : Type} {enc : TypeId × Value → H} {P : Program} {w : World} {base : Nat} {spare : Nat → Bool} {held : Bool} {t e : TypeId}
/-- What a type's values read as tells their cells. -/
def Tells (enc : TypeId × Value → H) (P : Program) (w : World) (base : Nat) (spare : Nat → Bool) (held : Bool) (t : TypeId) (L : DataW H → List Value) : Prop :=
  ∀ fuel cs x, DataW.trod enc P w base spare held fuel t cs = some x → cs = L x.1
theorem tells_int {k : IntKind} (he : P.underlying t = some (.int k)) : Tells enc P w base spare held t leaf1 := fun fuel cs x h => by
  obtain ⟨n, rfl, rfl, _⟩ := DataW.trod_int he h
  rfl
theorem tells_str (he : P.underlying t = some .string) : Tells enc P w base spare held t leaf1 := fun fuel cs x h => by
  cases fuel with
  | zero => simp [DataW.trod] at h
  | succ m =>
    unfold DataW.trod at h
    rw [he] at h
    split at h <;> simp_all
    obtain ⟨_, h⟩ := h
    subst h
    rfl
theorem tells_bool (he : P.underlying t = some .bool) : Tells enc P w base spare held t leaf1 := fun fuel cs x h => by
  cases fuel with
  | zero => simp [DataW.trod] at h
  | succ m =>
    unfold DataW.trod at h
    rw [he] at h
    split at h <;> simp_all
    subst h
    rfl
theorem chunks {k n : Nat} : ∀ {cs : List Value}, cs.length = n * k → ∀ {c : Nat → List Value}, (∀ i, i < n → (cs.drop (i * k)).take k = c i) → cs = (List.range n).flatMap c := by
  induction n with
  | zero =>
    intro cs hl c _
    rw [Nat.zero_mul] at hl
    rw [List.length_eq_zero_iff.1 hl]
    rfl
  | succ n ih =>
    intro cs hl c hc
    have h0 := hc 0 (by omega)
    rw [Nat.zero_mul, List.drop_zero] at h0
    have hl2 : (cs.drop k).length = n * k := by rw [List.length_drop, hl, Nat.succ_mul]; omega
    have h1 := ih hl2 (c := fun i => c (i + 1)) (fun i hi => by
      have := hc (i + 1) (by omega)
      rw [← this, List.drop_drop, Nat.succ_mul, Nat.add_comm])
    rw [List.range_succ_eq_map, List.flatMap_cons, List.flatMap_map, ← h0]
    conv => lhs; rw [← List.take_append_drop k cs]
    rw [h1]
theorem tells_arr {n : Nat} {L L2 : DataW H → List Value} (hL : ∀ ds, L2 (.agg ds) = ds.flatMap L) (he : Tells enc P w base spare held e L) (ht : P.underlying t = some (.array n e)) (hc : P.cellsOf t = n * P.cellsOf e) : Tells enc P w base spare held t L2 := fun fuel cs x h => by
  obtain ⟨xs, m, rfl, rfl, hl, hxl, hi⟩ := DataW.trod_array ht h
  rw [hc] at hl
  have h2 := chunks hl (c := fun i => L ((xs.map (·.1)).getD i .nil)) (fun i hi2 => by
    have h3 := hi i hi2
    have h4 : xs[i]? = some (xs[i]'(by omega)) := List.getElem?_eq_getElem _
    rw [h4] at h3
    have h5 := he _ _ _ h3
    rw [h5, List.getD_eq_getElem?_getD, List.getElem?_map, h4]
    rfl)
  show cs = L2 (.agg (xs.map (·.1)))
  rw [hL]
  rw [h2]
  have : ∀ (ds : List (DataW H)), (List.range ds.length).flatMap (fun i => L (ds.getD i .nil)) = ds.flatMap L := by
    intro ds
    induction ds with
    | nil => rfl
    | cons d ds ih =>
      rw [List.length_cons, List.range_succ_eq_map, List.flatMap_cons, List.flatMap_map, List.flatMap_cons]
      congr 1
  have h6 := this (xs.map (·.1))
  rw [List.length_map, hxl] at h6
  exact h6
end
/-- The variable holds just these cells. -/
def VarIs (P : Program) (w : World) (name : String) (cs : List Value) : Prop := w.var? P name = some cs.toArray
theorem varIs_of {P : Program} {W : World} {name : String} {d : DataW Unit} {l : List (String × DataW Unit)} {g : Nat} {t : TypeId} {L : DataW Unit → List Value} (hm : laidMet P l W) (hd : (name, d) ∈ l) (hg : P.globalNamed name = some g) (hty : (P.globals[g]?).map (·.type) = some t)
    (hT : ∀ w base spare held, Tells (fun _ => ()) P w base spare held t L) : VarIs P W name (L d) := by
  obtain ⟨g', t', cs, fuel, p, h1, h2, h3, h4⟩ := Lib.laidMet.reads hm hd
  rw [hg] at h1
  obtain rfl := Option.some.inj h1
  rw [hty] at h2
  obtain rfl := Option.some.inj h2
  have := hT _ _ _ _ _ _ _ h4
  unfold VarIs
  rw [h3, ← this]
theorem VarIs.on {P : Program} {w w' : World} {name : String} {cs : List Value} {g : Nat} (hg : P.globalNamed name = some g) (h : VarIs P w name cs) (hb : Below w.heap.size w w') : VarIs P w' name cs := Joins.var_stays hg h hb (Nat.le_refl _)
/-- Cell i of the variable. -/
theorem VarIs.cell {P : Program} {w : World} {name : String} {cs : List Value} {g : Nat} (hg : P.globalNamed name = some g) (h : VarIs P w name cs) {i : Nat} {v : Value} (hi : cs[i]? = some v) : w.cell? ⟨g, i, none⟩ = some v := by
  unfold VarIs World.var? at h
  rw [hg] at h
  simp only [Option.bind_some] at h
  split at h
  · rename_i c T fr hh
    obtain rfl := Option.some.inj h
    rw [cell_of_row w g i _ _ _ hh]
    simpa using hi
  · cases h
theorem VarIs.row {P : Program} {w : World} {name : String} {cs : List Value} {g : Nat} (hg : P.globalNamed name = some g) (h : VarIs P w name cs) : ∃ T fr, w.heap[g]? = some (.cells cs.toArray T fr) := by
  unfold VarIs World.var? at h
  rw [hg] at h
  simp only [Option.bind_some] at h
  split at h
  · rename_i c T fr hh
    obtain rfl := Option.some.inj h
    exact ⟨T, fr, hh⟩
  · cases h
end Go.Proofs.YtbimacagfobdbaaDoor
