/-
  Layer 8 in memory: rows of ops, of entries, of texts.
-/
import Derived.Test.YtmkfiiheeplmgaaRows
import Derived.Test.YtmkfiiheeplmgaaRowsG
import Derived.Test.YtmkfiiheeplmgaaKept
import Derived.Test.YtmkfiiheeplmgaaKvMath
import Derived.OpenShut
namespace Go.Proofs.Ytmkfiiheeplmgaa
open Go.RowKit Go.Deep

abbrev i64In (x : Int) : Prop := -9223372036854775808 ≤ x ∧ x ≤ 9223372036854775807
theorem i64_wf {x : Int} (h : (Lit.int .i64 x).wf = true) : i64In x := by
  simp [Lit.wf, IntKind.min, IntKind.max, IntKind.signed, IntKind.bits] at h
  exact h
/-- An op's cells; an entry's; a text's; a row of ops'. -/
def EPo (_ : World) (cs : List Value) (o : Kv.Po) : Prop := cs = [.string o.key, .string o.val, .int .i64 o.rev, .bool o.drop] ∧ o.key.size ≤ maxLen ∧ o.val.size ≤ maxLen ∧ i64In o.rev
def EEn (_ : World) (cs : List Value) (e : Kv.En) : Prop := cs = [.string e.key, .string e.val, .int .i64 e.rev]
def ETx (_ : World) (cs : List Value) (s : ByteArray) : Prop := cs = [.string s]
abbrev SlP (w : World) (A : Option Addr) (n c : Nat) (l : List Kv.Po) : Prop := SlR 4 EPo w A n c l
def ERow (w : World) (cs : List Value) (l : List Kv.Po) : Prop := ∃ A n c, cs = [.slice A n c] ∧ SlP w A n c l
abbrev SlPs (w : World) (A : Option Addr) (n c : Nat) (l : List (List Kv.Po)) : Prop := SlR 1 ERow w A n c l
abbrev SlE (w : World) (A : Option Addr) (n c : Nat) (l : List Kv.En) : Prop := SlR 3 EEn w A n c l
abbrev SlT (w : World) (A : Option Addr) (n c : Nat) (l : List ByteArray) : Prop := SlR 1 ETx w A n c l
theorem EPo.on : ∀ w w' cs t, Below w.heap.size w w' → EPo w cs t → EPo w' cs t := fun _ _ _ _ _ h => h
theorem EEn.on : ∀ w w' cs t, Below w.heap.size w w' → EEn w cs t → EEn w' cs t := fun _ _ _ _ _ h => h
theorem ETx.on : ∀ w w' cs t, Below w.heap.size w w' → ETx w cs t → ETx w' cs t := fun _ _ _ _ _ h => h
theorem ERow.on : ∀ w w' cs t, Below w.heap.size w w' → ERow w cs t → ERow w' cs t := by
  rintro w w' cs t hb ⟨A, n, c, h1, h2⟩
  exact ⟨A, n, c, h1, h2.on EPo.on hb⟩
set_option maxRecDepth 100000 in
theorem po_of {H : Type} {enc : TypeId × Value → H} {w : World} {held : Bool} (f : Nat) (cs : List Value) (y : DataW H × List MemPlace) (h : DataW.trod enc Try.prog w 0 (fun _ => true) held f 42 cs = some y) (hl : cs.length = 4) : ∃ t, EPo w cs t := by
  obtain ⟨xs, n, _, _, _, hxl, hf⟩ := DataW.trod_struct Try.underlying42 h
  match cs, hl with
  | [a, b, c, d], _ =>
    have hxl3 : xs.length = 4 := hxl
    have h0 : DataW.trod enc Try.prog w 0 (fun _ => true) held n 9 (([a, b, c, d].drop 0).take (Try.prog.cellsOf 9)) = xs[0]? := hf 0 _ rfl
    have h1 : DataW.trod enc Try.prog w 0 (fun _ => true) held n 9 (([a, b, c, d].drop 1).take (Try.prog.cellsOf 9)) = xs[1]? := hf 1 _ rfl
    have h2 : DataW.trod enc Try.prog w 0 (fun _ => true) held n 3 (([a, b, c, d].drop 2).take (Try.prog.cellsOf 3)) = xs[2]? := hf 2 _ rfl
    have h3 : DataW.trod enc Try.prog w 0 (fun _ => true) held n 4 (([a, b, c, d].drop 3).take (Try.prog.cellsOf 4)) = xs[3]? := hf 3 _ rfl
    have k1 : Try.prog.cellsOf 3 = 1 := by kernel_rfl
    have k2 : Try.prog.cellsOf 9 = 1 := by kernel_rfl
    have k3 : Try.prog.cellsOf 4 = 1 := by kernel_rfl
    rw [k2] at h0 h1
    rw [k1] at h2
    rw [k3] at h3
    rw [List.getElem?_eq_getElem (by omega)] at h0 h1 h2 h3
    obtain ⟨x0, e0, _, w0⟩ := DataW.trod_string (cs := [a]) Try.underlying9 h0
    obtain ⟨x1, e1, _, w1⟩ := DataW.trod_string (cs := [b]) Try.underlying9 h1
    obtain ⟨x2, e2, _, w2⟩ := DataW.trod_int (cs := [c]) Try.underlying3 h2
    obtain ⟨x3, e3, _⟩ := DataW.trod_bool (cs := [d]) Try.underlying4 h3
    simp at e0 e1 e2 e3
    subst e0 e1 e2 e3
    exact ⟨⟨x0, x1, x2, x3⟩, rfl, w0, w1, i64_wf w2⟩
theorem poCells : Try.prog.cellsOf 42 = 4 := by kernel_rfl
theorem poRowCells : Try.prog.cellsOf 29 = 1 := by kernel_rfl
theorem ops_of {H : Type} {enc : TypeId × Value → H} {w : World} {held : Bool} {A : Option Addr} {n c : Nat} {f : Nat} {y : DataW H × List MemPlace} (h : DataW.trod enc Try.prog w 0 (fun _ => true) held f 29 [.slice A n c] = some y) : ∃ ts, SlP w A n c ts :=
  slr_of Try.underlying29 poCells (by omega) po_of h
theorem row_of {H : Type} {enc : TypeId × Value → H} {w : World} {held : Bool} (f : Nat) (cs : List Value) (y : DataW H × List MemPlace) (h : DataW.trod enc Try.prog w 0 (fun _ => true) held f 29 cs = some y) (_ : cs.length = 1) : ∃ t, ERow w cs t := by
  obtain ⟨A, n, c, rfl⟩ : ∃ A n c, cs = [.slice A n c] := by
    rcases open_slice Try.underlying29 h with ⟨h1, _⟩ | ⟨a, len, cap, m, f, D, Pl, h1, _⟩
    · exact ⟨_, _, _, h1⟩
    · exact ⟨_, _, _, h1⟩
  obtain ⟨ts, hs⟩ := ops_of h
  exact ⟨ts, A, n, c, rfl, hs⟩
theorem opss_of {H : Type} {enc : TypeId × Value → H} {w : World} {held : Bool} {A : Option Addr} {n c : Nat} {f : Nat} {y : DataW H × List MemPlace} (h : DataW.trod enc Try.prog w 0 (fun _ => true) held f 22 [.slice A n c] = some y) : ∃ ts, SlPs w A n c ts :=
  slr_of Try.underlying22 poRowCells (by omega) row_of h
theorem po_info : (Try.prog.info? 42).map (fun i => (i.zero, i.size, i.bytes)) = some (some (.agg #[.string ⟨#[]⟩, .string ⟨#[]⟩, .int .i64 0, .bool false]), 4, 48) := by kernel_rfl
theorem kvo_info : (Try.prog.info? 52).map (fun i => (i.zero, i.size, i.bytes)) = some (some (.agg #[.string ⟨#[]⟩, .string ⟨#[]⟩, .int .i64 0, .bool false]), 4, 48) := by kernel_rfl
theorem en_info : (Try.prog.info? 65).map (fun i => (i.zero, i.size, i.bytes)) = some (some (.agg #[.string ⟨#[]⟩, .string ⟨#[]⟩, .int .i64 0]), 3, 40) := by kernel_rfl
theorem tx_info : (Try.prog.info? 9).map (fun i => (i.zero, i.size, i.bytes)) = some (some (.string ⟨#[]⟩), 1, 16) := by kernel_rfl
/-! Rows of a call's own: what their elements hold is no memory. -/
abbrev OwnPo (e : TypeId) (w : World) (B : Nat) (v : Value) (l : List Kv.Po) : Prop := OwnR 4 EPo e w w B v l
abbrev OwnEn (w : World) (B : Nat) (v : Value) (l : List Kv.En) : Prop := OwnR 3 EEn 65 w w B v l
abbrev OwnTx (w : World) (B : Nat) (v : Value) (l : List ByteArray) : Prop := OwnR 1 ETx 9 w w B v l
theorem OwnPo.any {e : TypeId} {w0 w1 w : World} {B : Nat} {v : Value} {l : List Kv.Po} (h : OwnR 4 EPo e w0 w B v l) : OwnR 4 EPo e w1 w B v l := h
theorem OwnEn.any {w0 w1 w : World} {e : TypeId} {B : Nat} {v : Value} {l : List Kv.En} (h : OwnR 3 EEn e w0 w B v l) : OwnR 3 EEn e w1 w B v l := h
theorem OwnTx.any {w0 w1 w : World} {e : TypeId} {B : Nat} {v : Value} {l : List ByteArray} (h : OwnR 1 ETx e w0 w B v l) : OwnR 1 ETx e w1 w B v l := h
theorem OwnR.lower {T : Type} {K : Nat} {E : World → List Value → T → Prop} {e : TypeId} {w0 w : World} {B B' : Nat} {v : Value} {ts : List T} (h : OwnR K E e w0 w B v ts) (hB : B' ≤ B) : OwnR K E e w0 w B' v ts := by
  obtain ⟨xs, h1, h2⟩ := h
  exact ⟨xs, own_lower h1 hB, h2⟩
/-- Such rows, read. -/
theorem OwnR.readP {e : TypeId} {w0 w : World} {B n c : Nat} {A : Option Addr} {l : List Kv.Po} (h : OwnR 4 EPo e w0 w B (.slice A n c) l) : SlP w A n c l := by
  obtain ⟨A', c', e', h2⟩ := (OwnPo.any (w1 := w) h).slr EPo.on (Below.refl _ _)
  injection e' with e1 e2 e3
  subst e1 e2 e3
  exact h2
theorem OwnR.readE {e : TypeId} {w0 w : World} {B n c : Nat} {A : Option Addr} {l : List Kv.En} (h : OwnR 3 EEn e w0 w B (.slice A n c) l) : SlE w A n c l := by
  obtain ⟨A', c', e', h2⟩ := (OwnEn.any (w1 := w) h).slr EEn.on (Below.refl _ _)
  injection e' with e1 e2 e3
  subst e1 e2 e3
  exact h2
theorem OwnR.readT {e : TypeId} {w0 w : World} {B n c : Nat} {A : Option Addr} {l : List ByteArray} (h : OwnR 1 ETx e w0 w B (.slice A n c) l) : SlT w A n c l := by
  obtain ⟨A', c', e', h2⟩ := (OwnTx.any (w1 := w) h).slr ETx.on (Below.refl _ _)
  injection e' with e1 e2 e3
  subst e1 e2 e3
  exact h2
end Go.Proofs.Ytmkfiiheeplmgaa
