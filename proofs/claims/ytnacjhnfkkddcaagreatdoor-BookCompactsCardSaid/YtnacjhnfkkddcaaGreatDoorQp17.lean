import Derived.Laws.CopyOwn
import Derived.Laws.ResultCell
import Derived.Great.BuildSlice
import Derived.Deep.MidRow
import Derived.Test.YtnacjhnfkkddcaaGreatDoorQp16
import Derived.Test.YtnacjhnfkkddcaaGreatDoorQp03
import Derived.Lib.Atoi
import Derived.Lib.ItoaNum
import Derived.Lib.Split
import Derived.Lib.Join
import Derived.Lib.Strings
import Derived.Shelf.Abstract
set_option maxHeartbeats 6400000
set_option maxRecDepth 100000
set_option linter.unusedSimpArgs false
set_option linter.unusedVariables false
namespace Go.Proofs.YtnacjhnfkkddcaaGreatDoor
open Go.RowKit
namespace Bk
def unC (u : Un) : List Value := [.int .i64 u.v, .int .i64 u.q, .bool u.d]
def units (s : St) : List Un := (List.range 16).map s.us
def viewC (s : St) : Array Value := #[.int .i64 s.ep, .int .i64 s.who, .int .i64 s.till, .int .i64 s.stable, .int .i64 s.from_, .int .i64 s.ph, .int .i64 s.step, .int .i64 s.since, .int .i64 s.begun, .int .i64 s.seq, .int .i64 s.sp.v, .int .i64 s.sp.d, .int .i64 s.sp.u, .int .i64 s.sp.n, .int .i64 s.sp.g, .int .i64 s.sp.a, .int .i64 s.sp.b, .int .i64 s.sp.c, .int .i64 s.sp.e, .int .i64 s.sp.w, .int .i64 s.sp.x, .int .i64 s.sp.k]
end Bk
abbrev jk2 (x : Int) : Prop := -9223372036854775808 ≤ x ∧ x ≤ 9223372036854775807
abbrev jja := World → (Nat → Prop) → Nat → Bk.St → Prop
def BRet (v : Value) (w : World) (e : Ending) (w' : World) : Prop := e = .returned v ∧ Below w.heap.size w w'
def BTurn (K : jja) (X : Nat → Prop) (q : Nat) (s' : Bk.St) (v : Value) (w : World) (e : Ending) (w' : World) : Prop := ∃ X', e = .returned v ∧ K w' X' q s' ∧ (∀ i, X' i → X i ∨ w.heap.size ≤ i) ∧ Kept X w w'
def jd2 {T : Type} (enc : T → List Value) (l : List T) (w : World) (e : Ending) (w' : World) : Prop := ∃ A c, e = .returned (.slice A l.length c) ∧ SlF enc w' A l.length c l ∧ Below w.heap.size w w' ∧ ∀ b o, A = some ⟨b, o, none⟩ → w.heap.size ≤ b
def jnp (K : jja) (s : Bk.St) (f : Value → Value) (w : World) (e : Ending) (w' : World) : Prop := ∃ q X, e = .returned (f (.pointer (some ⟨q, 0, none⟩))) ∧ K w' X q s ∧ (∀ i, X i → w.heap.size ≤ i) ∧ Below w.heap.size w w'
structure BN : Prop where
 check : ∀ W r, Rc.In r → Calls Tryz.prog 27 #[.pointer none, .agg (Rc.cells r)] W (BRet (.int .i64 1) W)
 apply : ∀ W r, Rc.In r → Calls Tryz.prog 22 #[.pointer none, .agg (Rc.cells r)] W (BRet (.int .i64 1) W)
 view : ∀ W, Calls Tryz.prog 21 #[.pointer none] W (BRet (.agg (Bk.viewC Bk.none_)) W)
 units : ∀ W, Calls Tryz.prog 28 #[.pointer none] W (jd2 Bk.unC [] W)
 digest : ∀ W n, jk2 n → Calls Tryz.prog 23 #[.pointer none, .int .i64 n] W (BRet (.tuple #[.string ⟨#[]⟩, .bool false]) W)
 versions : ∀ W, Calls Tryz.prog 24 #[.pointer none] W (jd2 (fun n : Int => [.int .i64 n]) [] W)
 history : ∀ W, Calls Tryz.prog 26 #[.pointer none] W (jd2 Bk.rcC [] W)
 free : ∀ W n, jk2 n → Calls Tryz.prog 29 #[.pointer none, .int .i64 n] W (BRet (.bool false) W)
def BAt (K : jja) (w0 : World) (F : Nat → Prop) (q : Nat) (s : Bk.St) (W : World) : Prop := ∃ X, K W X q s ∧ (∀ i, X i → w0.heap.size ≤ i) ∧ (∀ b, F b → ¬ X b ∧ b < W.heap.size) ∧ Below w0.heap.size w0 W
section
variable {K : jja} {w0 W W' : World} {F : Nat → Prop} {q : Nat} {s : Bk.St}
def BRes (K : jja) (w0 : World) (F : Nat → Prop) (q : Nat) (s' : Bk.St) (x : Value) (W : World) (e : Ending) (w' : World) : Prop :=
 e = .returned x ∧ BAt K w0 F q s' w' ∧ ∀ b, F b → w'.heap[b]? = W.heap[b]?
end
open Go.Deep
abbrev jjb (x : Int) : Prop := -9223372036854775808 ≤ x ∧ x ≤ 9223372036854775807
def EPo (_ : World) (cs : List Value) (o : Kv.Po) : Prop := cs = [.string o.key, .string o.val, .int .i64 o.rev, .bool o.drop] ∧ o.key.size ≤ maxLen ∧ o.val.size ≤ maxLen ∧ jjb o.rev
def ETx (_ : World) (cs : List Value) (s : ByteArray) : Prop := cs = [.string s]
abbrev SlP (w : World) (A : Option Addr) (n c : Nat) (l : List Kv.Po) : Prop := SlR 4 EPo w A n c l
theorem ETx.on : ∀ w w' cs t, Below w.heap.size w w' → ETx w cs t → ETx w' cs t := fun _ _ _ _ _ h => h
theorem jij : (Tryz.prog.info? 158).map (fun i => (i.zero, i.size, i.bytes)) = some (some (.agg #[.string ⟨#[]⟩, .string ⟨#[]⟩, .int .i64 0, .bool false]), 4, 48) := by kernel_rfl
theorem tx_info : (Tryz.prog.info? 9).map (fun i => (i.zero, i.size, i.bytes)) = some (some (.string ⟨#[]⟩), 1, 16) := by kernel_rfl
abbrev jhy (w : World) (B : Nat) (v : Value) (l : List ByteArray) : Prop := OwnR 1 ETx 9 w w B v l
theorem jhy.any {w0 w1 w : World} {e : TypeId} {B : Nat} {v : Value} {l : List ByteArray} (h : OwnR 1 ETx e w0 w B v l) : OwnR 1 ETx e w1 w B v l := h
theorem OwnR.lower {T : Type} {K : Nat} {E : World → List Value → T → Prop} {e : TypeId} {w0 w : World} {B B' : Nat} {v : Value} {ts : List T} (h : OwnR K E e w0 w B v ts) (hB : B' ≤ B) : OwnR K E e w0 w B' v ts := by
 obtain ⟨xs, h1, h2⟩ := h
 exact ⟨xs, jdd h1 hB, h2⟩
def KTx (l : List ByteArray) (w : World) (e : Ending) (w' : World) : Prop := ∃ v, e = .returned v ∧ jhy w' w.heap.size v l ∧ Below w.heap.size w w'
def KInt (x : Int) (w : World) (e : Ending) (w' : World) : Prop := e = .returned (.int .i64 x) ∧ Below w.heap.size w w'
def KBool (p : Prop) (w : World) (e : Ending) (w' : World) : Prop := (∃ x : Bool, e = .returned (.bool x) ∧ (x = true ↔ p)) ∧ Below w.heap.size w w'
def KGet (s : Kv.St) (k : ByteArray) (w : World) (e : Ending) (w' : World) : Prop := e = .returned (.tuple #[.string (Kv.valOf s.l k), .int .i64 (Kv.revOf s.l k)]) ∧ Below w.heap.size w w'
theorem SlR.cell {T : Type} {K : Nat} {E : World → List Value → T → Prop} {w : World} {b o n c : Nat} {ts : List T} (h : SlR K E w (some ⟨b, o, none⟩) n c ts) {j : Nat} (hj : j < ts.length) :
  b < w.heap.size ∧ ∃ cs, cs.length = K ∧ (∀ i, i < K → w.cell? ⟨b, o + j * K + i, none⟩ = cs[i]?) ∧ E w cs ts[j] := by
 obtain ⟨b', o', cs, e, h1, h2, h3, h4⟩ := h.rd j ts[j] (List.getElem?_eq_getElem hj)
 injection e with e; injection e with e1 e2; subst e1 e2
 exact ⟨h1, cs, h2, h3, h4⟩
theorem SlR.addr {T : Type} {K : Nat} {E : World → List Value → T → Prop} {w : World} {A : Option Addr} {n c : Nat} {ts : List T} (h : SlR K E w A n c ts) (hj : 0 < ts.length) : ∃ b o, A = some ⟨b, o, none⟩ := by
 obtain ⟨b, o, cs, e, _⟩ := h.rd 0 ts[0] (List.getElem?_eq_getElem hj)
 exact ⟨b, o, e⟩
theorem jd3 {w : World} {ops : Array Oper} {rest : List Oper} {op : Oper} {a : Act} {Q : Exit → Act → World → Prop} (hgd : op.guard = none) (s x : Operand)
  (ho : op.op = .call { callee := .builtin .append, args := #[s, x], argTypes := #[59, 59] })
  (base : Nat) (v : Value) (ts : List ByteArray) (hs : a.eval s = v) (hown : OwnR 1 ETx 9 w w base v ts) (t : ByteArray) (hx : a.eval x = .slice (some ⟨w.heap.size, 0, none⟩) 1 1)
  (hlen : ts.length ≤ 1000000) (hB : base ≤ w.heap.size)
  (h : ∀ v' w', OwnR 1 ETx 9 w' w' base v' (ts ++ [t]) → Below base w w' → w.grownBy w' v.ownBlock → wpList Tryz.prog ops Q rest (a.put op.dst v') w') : wpList Tryz.prog ops Q (op :: rest) a (w.alloc (.cells #[.string t] 9)) := by
 obtain ⟨i0, hi0, hz0, hz1, hz2⟩ := info_parts tx_info
 exact jdg (K := 1) (E := ETx) (w0 := w) Tryz.underlying59 hi0 hz0 hz1 hz2 rfl (by decide) hgd s x ho base v ts hs hown [.string t] t rfl (by intro u hu; simp at hu; rcases hu with rfl <;> rfl) rfl hx (by unfold maxLen; omega) (by omega) hB fun v' w' h1 h2 h3 => h v' w' h1 h2 h3
theorem SlR.po {w : World} {b o n c : Nat} {l : List Kv.Po} (h : SlP w (some ⟨b, o, none⟩) n c l) {j : Nat} {x : Kv.Po} (hx : l[j]? = some x) {w' : World} (hb : Below w.heap.size w w') :
  w'.cell? ⟨b, o + j * 4, none⟩ = some (.string x.key) ∧ w'.cell? ⟨b, o + j * 4 + 1, none⟩ = some (.string x.val) ∧ w'.cell? ⟨b, o + j * 4 + 2, none⟩ = some (.int .i64 x.rev) ∧ w'.cell? ⟨b, o + j * 4 + 3, none⟩ = some (.bool x.drop) := by
 obtain ⟨hj, rfl⟩ := List.getElem?_eq_some_iff.1 hx
 obtain ⟨hl, cs, _, hc, he⟩ := h.cell hj
 unfold EPo at he
 rw [he.1] at hc
 exact ⟨(hb.cell (p := ⟨b, o + j * 4, none⟩) hl).trans (hc 0 (by omega)), (hb.cell (p := ⟨b, o + j * 4 + 1, none⟩) hl).trans (hc 1 (by omega)), (hb.cell (p := ⟨b, o + j * 4 + 2, none⟩) hl).trans (hc 2 (by omega)), (hb.cell (p := ⟨b, o + j * 4 + 3, none⟩) hl).trans (hc 3 (by omega))⟩
theorem SlR.poOk {w : World} {A : Option Addr} {n c : Nat} {l : List Kv.Po} (h : SlP w A n c l) {x : Kv.Po} (hx : x ∈ l) : x.key.size ≤ maxLen ∧ x.val.size ≤ maxLen ∧ jjb x.rev := by
 obtain ⟨j, hj⟩ := List.getElem?_of_mem hx
 obtain ⟨_, _, _, _, _, _, _, h5⟩ := h.rd j x hj
 exact h5.2
namespace Kv
theorem step_length (r : Int) (l : List En) (o : Po) : (step r l o).length ≤ l.length + 1 := by
 have h1 : (dropK l o.key).length ≤ l.length := List.length_filter_le ..
 unfold step
 split
 ·omega
 ·rw [putK_length]; omega
theorem steps_length (r : Int) (ops : List Po) (l : List En) : (ops.foldl (step r) l).length ≤ l.length + ops.length := by
 induction ops generalizing l with
 | nil => simp
 | cons o ops ih =>
  have h1 := ih (step r l o)
  have h2 := step_length r l o
  rw [List.foldl_cons, List.length_cons]; omega
theorem steps_snoc (r : Int) {ops : List Po} {j : Nat} {o : Po} (h : ops[j]? = some o) (l : List En) : (ops.take (j + 1)).foldl (step r) l = step r ((ops.take j).foldl (step r) l) o := by
 rw [List.take_add_one, h, List.foldl_append]; rfl
end Kv
open Go.Maps Go.WideMaps
theorem jcy (w : World) : (zeroValue 123).run Tryz.prog w = .ok (.agg #[.string ⟨#[]⟩, .int .i64 0]) w := by kernel_rfl
def MapO (w : World) (mo : Option Nat) (l : List Kv.En) : Prop :=
 match mo with
 | none => l = []
 | some m => jbm Tryz.prog 9 w m l
theorem MapO.look {w : World} {mo : Option Nat} {l : List Kv.En} (h : MapO w mo l) (k : ByteArray) (hs : k.size ≤ maxLen) :
  (Instr.lookup 81 (.map mo) (.string k) false).run Tryz.prog w = .ok (.agg #[.string (Kv.valOf l k), .int .i64 (Kv.revOf l k)]) w := by
 cases mo with
 | some m => exact jnn Tryz.underlying9 Tryz.underlying81 (jcy w) h k hs
 | none =>
  obtain rfl : l = [] := h
  exact Maps.look_nil false (string_keyed Tryz.underlying9) Tryz.underlying81 (jcy w) (keyOf_string_mk Tryz.underlying9 hs)
theorem MapO.look_ok {w : World} {mo : Option Nat} {l : List Kv.En} (h : MapO w mo l) (k : ByteArray) (hs : k.size ≤ maxLen) :
  (Instr.lookup 81 (.map mo) (.string k) true).run Tryz.prog w = .ok (.tuple #[.agg #[.string (Kv.valOf l k), .int .i64 (Kv.revOf l k)], .bool (Kv.find l k).isSome]) w := by
 cases mo with
 | some m => exact jhx Tryz.underlying9 Tryz.underlying81 (jcy w) h k hs
 | none =>
  obtain rfl : l = [] := h
  exact Maps.look_nil true (string_keyed Tryz.underlying9) Tryz.underlying81 (jcy w) (keyOf_string_mk Tryz.underlying9 hs)
theorem MapO.len {w : World} {mo : Option Nat} {l : List Kv.En} (h : MapO w mo l) (ty : TypeId) :
  (Builtin.len_ #[81] ty #[.map mo]).run Tryz.prog w = .ok (.int .i64 (l.length : Nat)) w := by
 cases mo with
 | some m => exact len_run Tryz.underlying81 h ty
 | none =>
  obtain rfl : l = [] := h
  exact Maps.len_nil Tryz.underlying81 ty
theorem MapO.keep {w w' : World} {mo : Option Nat} {l : List Kv.En} (h : MapO w mo l) (hk : ∀ m, mo = some m → w'.heap[m]? = w.heap[m]?) : MapO w' mo l := by
 cases mo with
 | some m => exact jbm.keep h (hk m rfl)
 | none => exact h
theorem MapO.lt {w : World} {m : Nat} {l : List Kv.En} (h : MapO w (some m) l) : m < w.heap.size := jbm.lt (P := Tryz.prog) (kt := 9) (l := l) h
theorem MapO.on {w w' : World} {mo : Option Nat} {l : List Kv.En} (h : MapO w mo l) (hb : Below w.heap.size w w') : MapO w' mo l :=
 h.keep fun m e => by subst e; exact hb.block m h.lt
theorem jen {cs : Array Value} {k : Nat} {v : Value} (h : cs[k]? = some v) : cs.setIfInBounds k v = cs := by
 refine Array.ext_getElem? fun i => ?_
 rw [Array.getElem?_setIfInBounds]
 split
 ·rename_i e
  subst e
  rw [h]
  split
  ·rfl
  ·rename_i h2
   rw [Array.getElem?_eq_none (by omega)] at h
   cases h
 ·rfl
theorem jhz {cs : Array Value} {k : Nat} {v u : Value} (h : cs[k]? = some v) : (cs.setIfInBounds k u)[k]? = some u := by
 rw [Array.getElem?_setIfInBounds_self, if_pos]
 exact (Array.getElem?_eq_some_iff.1 h).1
theorem jfu {cs : Array Value} {k i : Nat} {v u : Value} (h : cs[i]? = some v) (hk : k ≠ i) : (cs.setIfInBounds k u)[i]? = some v := by
 rw [Array.getElem?_setIfInBounds_ne hk]; exact h
def jjc (cs : Array Value) : Prop := ∀ (i : Nat) (t : ByteArray), cs[i]? ≠ some (Value.string t)
theorem jjc.set {cs : Array Value} (h : jjc cs) (k : Nat) {u : Value} (hu : ∀ t, u ≠ .string t) : jjc (cs.setIfInBounds k u) := by
 intro i t
 rw [Array.getElem?_setIfInBounds]
 split
 ·split
  ·intro e; exact hu t (Option.some.inj e)
  ·intro e; cases e
 ·exact h i t
structure KvIs (w : World) (q oq : Nat) (cs : Array Value) (ty : TypeId) (mo : Option Nat) (s : Kv.St) : Prop where
 row : w.heap[q]? = some (.cells cs ty (0, 0))
 k0 : cs[oq]? = some (.int .i64 s.rev)
 k1 : cs[oq + 1]? = some (.map mo)
 nos : jjc cs
 map : MapO w mo s.l
 good : Kv.Good s
theorem KvIs.ne {w : World} {q oq m : Nat} {cs : Array Value} {ty : TypeId} {s : Kv.St} (h : KvIs w q oq cs ty (some m) s) : q ≠ m := fun e => by
 obtain ⟨D, ⟨es, clock, hb, _⟩, _⟩ := show jbm Tryz.prog 9 w m s.l from h.map
 have := h.row
 rw [e, hb] at this
 injection this with this
 cases this
theorem KvIs.cells {w : World} {q oq : Nat} {cs : Array Value} {ty : TypeId} {mo : Option Nat} {s : Kv.St} (h : KvIs w q oq cs ty mo s) : w.cell? ⟨q, oq, none⟩ = some (.int .i64 s.rev) ∧ w.cell? ⟨q, oq + 1, none⟩ = some (.map mo) ∧ w.frozen? ⟨q, oq, none⟩ = false ∧ q < w.heap.size :=
 ⟨by rw [cell_of_row w q oq _ _ _ h.row]; exact h.k0, by rw [cell_of_row w q (oq + 1) _ _ _ h.row]; exact h.k1, frozen_of_row _ _ _ _ _ h.row, (Array.getElem?_eq_some_iff.1 h.row).1⟩
theorem KvIs.on {w w' : World} {q oq : Nat} {cs : Array Value} {ty : TypeId} {mo : Option Nat} {s : Kv.St} (h : KvIs w q oq cs ty mo s) (hb : Below w.heap.size w w') : KvIs w' q oq cs ty mo s := ⟨(hb.block q h.cells.2.2.2).trans h.row, h.k0, h.k1, h.nos, h.map.on hb, h.good⟩
def EAt (w : World) (p : Value) (mo : Option Nat) (s : Kv.St) : Prop := (p = .pointer none ∧ mo = none ∧ s = Kv.St.none) ∨ ∃ q oq cs ty, p = .pointer (some ⟨q, oq, none⟩) ∧ KvIs w q oq cs ty mo s
theorem KvIs.ask {w : World} {q oq : Nat} {cs : Array Value} {ty : TypeId} {mo : Option Nat} {s : Kv.St} (h : KvIs w q oq cs ty mo s) : EAt w (.pointer (some ⟨q, oq, none⟩)) mo s := .inr ⟨q, oq, cs, ty, rfl, h⟩
theorem EAt.on {w w' : World} {p : Value} {mo : Option Nat} {s : Kv.St} (h : EAt w p mo s) (hb : Below w.heap.size w w') : EAt w' p mo s := by
 rcases h with h | ⟨q, oq, cs, ty, h1, h2⟩
 ·exact .inl h
 ·exact .inr ⟨q, oq, cs, ty, h1, h2.on hb⟩
theorem EAt.map {w : World} {p : Value} {mo : Option Nat} {s : Kv.St} (h : EAt w p mo s) : MapO w mo s.l := by
 rcases h with ⟨_, rfl, rfl⟩ | ⟨q, oq, cs, ty, h1, h2⟩
 ·rfl
 ·exact h2.map
theorem EAt.good {w : World} {p : Value} {mo : Option Nat} {s : Kv.St} (h : EAt w p mo s) : Kv.Good s := by
 rcases h with ⟨_, rfl, rfl⟩ | ⟨q, oq, cs, ty, h1, h2⟩
 ·exact Kv.Good.none_
 ·exact h2.good
theorem jbn (W : World) (p : Value) (mo : Option Nat) (s : Kv.St) (h : EAt W p mo s) : Calls Tryz.prog 75 #[p] W (fun e w' => e = .returned (.map mo) ∧ w' = W) := by
 rcases h with ⟨rfl, rfl, rfl⟩ | ⟨q, oq, cs, ty, rfl, h2⟩
 ·go_enter Tryz.func75, Tryz.ntmps75
  go_wp2_with fail
  go_ret
  exact ⟨rfl, rfl⟩
 ·obtain ⟨c0, c1, f0, hq⟩ := h2.cells
  clear h2
  go_enter Tryz.func75, Tryz.ntmps75
  go_wp2_with fail
  go_ret
  exact ⟨rfl, rfl⟩
theorem jgo (W : World) (p : Value) (mo : Option Nat) (s : Kv.St) (h : EAt W p mo s) (k : ByteArray) (hk : k.size ≤ maxLen) :
  Calls Tryz.prog 204 #[p, .string k] W (fun e w' => e = .returned (.bool (Kv.find s.l k).isSome) ∧ Below W.heap.size W w') := by
 have C := zh (jbn W p mo s h)
 have hlk := h.map.look_ok k hk
 generalize hv : Kv.valOf s.l k = v at hlk
 generalize hr : Kv.revOf s.l k = r at hlk
 generalize (Kv.find s.l k).isSome = b at hlk ⊢
 have B2 := zh ((Below.refl W.heap.size W).alloc (Nat.le_refl _) (.cells #[.string v, .int .i64 r] 123))
 clear h hv hr
 go_enter Tryz.func204, Tryz.ntmps204
 go_wp2_with (go_at_call 75; (with_reducible refine C.out.mono ?_); rintro e w1 ⟨rfl, rfl⟩)
 go_ret
 exact ⟨rfl, B2.out⟩
theorem jgp (W : World) (p : Value) (mo : Option Nat) (s : Kv.St) (h : EAt W p mo s) : Calls Tryz.prog 105 #[p] W (fun e w' => e = .returned (.int .i64 (s.l.length : Nat)) ∧ w' = W) := by
 have C := zh (jbn W p mo s h)
 have hln := fun ty => h.map.len ty
 clear h
 go_enter Tryz.func105, Tryz.ntmps105
 go_wp2_with (go_at_call 75; (with_reducible refine C.out.mono ?_); rintro e w1 ⟨rfl, rfl⟩)
 go_ret
 exact ⟨rfl, rfl⟩
theorem jnq (W : World) (p : Value) (mo : Option Nat) (k v : ByteArray) (r : Int) (C : Calls Tryz.prog 75 #[p] W (fun e w' => e = .returned (.map mo) ∧ w' = W))
  (hlk : (Instr.lookup 81 (.map mo) (.string k) false).run Tryz.prog W = .ok (.agg #[.string v, .int .i64 r]) W) :
  Calls Tryz.prog 39 #[p, .string k] W (fun e w' => e = .returned (.tuple #[.string v, .int .i64 r]) ∧ Below W.heap.size W w') := by
 have C := zh C
 have B2 := zh ((Below.refl W.heap.size W).alloc (Nat.le_refl _) (.cells #[.string v, .int .i64 r] 123))
 go_enter Tryz.func39, Tryz.ntmps39
 go_upto_region 2 with (go_at_call 75; (with_reducible refine C.out.mono ?_); rintro e w1 ⟨rfl, rfl⟩)
 go_region
 go_wp2_with fail
 exact bodyPost_ret (v := .tuple #[.string v, .int .i64 r]) (by simp [results, Tryz.results39, go_sem]) rfl ⟨rfl, B2.out.drew⟩
theorem jeo (W : World) (p : Value) (mo : Option Nat) (s : Kv.St) (h : EAt W p mo s) (k : ByteArray) (hk : k.size ≤ maxLen) : Calls Tryz.prog 39 #[p, .string k] W (KGet s k W) :=
 jnq W p mo k _ _ (jbn W p mo s h) (h.map.look k hk)
theorem jk3 (W : World) : Calls Tryz.prog 150 #[] W (fun e w' => e = .returned (.pointer (some ⟨W.heap.size, 0, none⟩)) ∧ KvIs w' W.heap.size 0 #[.int .i64 0, .map none] 83 none Kv.St.none ∧ Below W.heap.size W w') := by
 have B1 := zh ((Below.refl W.heap.size W).alloc (Nat.le_refl _) (.cells #[.int .i64 0, .map none] 83))
 have R1 := zh (heap_alloc_new W (.cells #[.int .i64 0, .map none] 83))
 go_enter Tryz.func150, Tryz.ntmps150
 go_wp2_with fail
 go_ret
 refine ⟨rfl, ⟨R1.out, rfl, rfl, fun i t => ?_, rfl, Kv.Good.none_⟩, B1.out⟩
 rcases i with _ | _ | i
 ·exact fun e => (by cases e)
 ·exact fun e => (by cases e)
 ·simp
end Go.Proofs.YtnacjhnfkkddcaaGreatDoor
namespace Go.Proofs.YtnacjhnfkkddcaaGreatDoor
open Go.RowKit
namespace Bd
def cells (s : Bk.St) (ru : Nat → Bk.Un) (rv : Int) (lm km H : Value) : Array Value := #[.int .i64 s.m, lm, .int .i64 rv, km, .int .i64 s.ep, .int .i64 s.who, .int .i64 s.till, .int .i64 s.stable, .int .i64 s.from_, .int .i64 s.ph, .int .i64 s.step, .int .i64 s.since, .int .i64 s.begun, .int .i64 s.seq, .int .i64 s.sp.v, .int .i64 s.sp.d, .int .i64 s.sp.u, .int .i64 s.sp.n, .int .i64 s.sp.g, .int .i64 s.sp.a, .int .i64 s.sp.b, .int .i64 s.sp.c, .int .i64 s.sp.e, .int .i64 s.sp.w, .int .i64 s.sp.x, .int .i64 s.sp.k, .int .i64 (ru 0).v, .int .i64 (ru 0).q, .bool (ru 0).d, .int .i64 (ru 1).v, .int .i64 (ru 1).q, .bool (ru 1).d, .int .i64 (ru 2).v, .int .i64 (ru 2).q, .bool (ru 2).d, .int .i64 (ru 3).v, .int .i64 (ru 3).q, .bool (ru 3).d, .int .i64 (ru 4).v, .int .i64 (ru 4).q, .bool (ru 4).d, .int .i64 (ru 5).v, .int .i64 (ru 5).q, .bool (ru 5).d, .int .i64 (ru 6).v, .int .i64 (ru 6).q, .bool (ru 6).d, .int .i64 (ru 7).v, .int .i64 (ru 7).q, .bool (ru 7).d, .int .i64 (ru 8).v, .int .i64 (ru 8).q, .bool (ru 8).d, .int .i64 (ru 9).v, .int .i64 (ru 9).q, .bool (ru 9).d, .int .i64 (ru 10).v, .int .i64 (ru 10).q, .bool (ru 10).d, .int .i64 (ru 11).v, .int .i64 (ru 11).q, .bool (ru 11).d, .int .i64 (ru 12).v, .int .i64 (ru 12).q, .bool (ru 12).d, .int .i64 (ru 13).v, .int .i64 (ru 13).q, .bool (ru 13).d, .int .i64 (ru 14).v, .int .i64 (ru 14).q, .bool (ru 14).d, .int .i64 (ru 15).v, .int .i64 (ru 15).q, .bool (ru 15).d, H]
def zeros : Array Value := #[.int .i64 0, .map none, .int .i64 0, .map none, .int .i64 0, .int .i64 0, .int .i64 0, .int .i64 0, .int .i64 0, .int .i64 0, .int .i64 0, .int .i64 0, .int .i64 0, .int .i64 0, .int .i64 0, .int .i64 0, .int .i64 0, .int .i64 0, .int .i64 0, .int .i64 0, .int .i64 0, .int .i64 0, .int .i64 0, .int .i64 0, .int .i64 0, .int .i64 0, .int .i64 0, .int .i64 0, .bool false, .int .i64 0, .int .i64 0, .bool false, .int .i64 0, .int .i64 0, .bool false, .int .i64 0, .int .i64 0, .bool false, .int .i64 0, .int .i64 0, .bool false, .int .i64 0, .int .i64 0, .bool false, .int .i64 0, .int .i64 0, .bool false, .int .i64 0, .int .i64 0, .bool false, .int .i64 0, .int .i64 0, .bool false, .int .i64 0, .int .i64 0, .bool false, .int .i64 0, .int .i64 0, .bool false, .int .i64 0, .int .i64 0, .bool false, .int .i64 0, .int .i64 0, .bool false, .int .i64 0, .int .i64 0, .bool false, .int .i64 0, .int .i64 0, .bool false, .int .i64 0, .int .i64 0, .bool false, .slice none 0 0]
end Bd
structure BdAt (w : World) (g : Nat) (s : Bk.St) (ru : Nat → Bk.Un) (rv : Int) (lm km H : Value) : Prop where
 row : w.heap[g]? = some (.cells (Bd.cells s ru rv lm km H) 85 (0, 0))
section
variable {w w' : World} {g : Nat} {s : Bk.St} {ru : Nat → Bk.Un} {rv : Int} {lm km H : Value}
theorem BdAt.on (h : BdAt w g s ru rv lm km H) (hb : Below w.heap.size w w') : BdAt w' g s ru rv lm km H := ⟨(hb.block g (Array.getElem?_eq_some_iff.1 h.row).1).trans h.row⟩
theorem BdAt.lt (h : BdAt w g s ru rv lm km H) : g < w.heap.size := (Array.getElem?_eq_some_iff.1 h.row).1
theorem BdAt.keep (h : BdAt w g s ru rv lm km H) (hk : w'.heap[g]? = w.heap[g]?) : BdAt w' g s ru rv lm km H := ⟨hk.trans h.row⟩
structure BdCs (w : World) (g : Nat) (s : Bk.St) (ru : Nat → Bk.Un) (rv : Int) (lm km H : Value) : Prop where
 c0 : w.cell? ⟨g, 0, none⟩ = some (.int .i64 s.m)
 c1 : w.cell? ⟨g, 1, none⟩ = some (lm)
 c2 : w.cell? ⟨g, 2, none⟩ = some (.int .i64 rv)
 c3 : w.cell? ⟨g, 3, none⟩ = some (km)
 c4 : w.cell? ⟨g, 4, none⟩ = some (.int .i64 s.ep)
 c5 : w.cell? ⟨g, 5, none⟩ = some (.int .i64 s.who)
 c6 : w.cell? ⟨g, 6, none⟩ = some (.int .i64 s.till)
 c7 : w.cell? ⟨g, 7, none⟩ = some (.int .i64 s.stable)
 c8 : w.cell? ⟨g, 8, none⟩ = some (.int .i64 s.from_)
 c9 : w.cell? ⟨g, 9, none⟩ = some (.int .i64 s.ph)
 c10 : w.cell? ⟨g, 10, none⟩ = some (.int .i64 s.step)
 c11 : w.cell? ⟨g, 11, none⟩ = some (.int .i64 s.since)
 c12 : w.cell? ⟨g, 12, none⟩ = some (.int .i64 s.begun)
 c13 : w.cell? ⟨g, 13, none⟩ = some (.int .i64 s.seq)
 c14 : w.cell? ⟨g, 14, none⟩ = some (.int .i64 s.sp.v)
 c15 : w.cell? ⟨g, 15, none⟩ = some (.int .i64 s.sp.d)
 c16 : w.cell? ⟨g, 16, none⟩ = some (.int .i64 s.sp.u)
 c17 : w.cell? ⟨g, 17, none⟩ = some (.int .i64 s.sp.n)
 c18 : w.cell? ⟨g, 18, none⟩ = some (.int .i64 s.sp.g)
 c19 : w.cell? ⟨g, 19, none⟩ = some (.int .i64 s.sp.a)
 c20 : w.cell? ⟨g, 20, none⟩ = some (.int .i64 s.sp.b)
 c21 : w.cell? ⟨g, 21, none⟩ = some (.int .i64 s.sp.c)
 c22 : w.cell? ⟨g, 22, none⟩ = some (.int .i64 s.sp.e)
 c23 : w.cell? ⟨g, 23, none⟩ = some (.int .i64 s.sp.w)
 c24 : w.cell? ⟨g, 24, none⟩ = some (.int .i64 s.sp.x)
 c25 : w.cell? ⟨g, 25, none⟩ = some (.int .i64 s.sp.k)
 c74 : w.cell? ⟨g, 74, none⟩ = some (H)
 lt : g < w.heap.size
theorem BdAt.cs (h : BdAt w g s ru rv lm km H) : BdCs w g s ru rv lm km H := by
 constructor
 all_goals first | (rw [cell_of_row w g _ _ _ _ h.row]; rfl) | exact h.lt
theorem BdAt.unit (h : BdAt w g s ru rv lm km H) {j : Nat} (hj : j < 16) : w.cell? ⟨g, 26 + j * 3, none⟩ = some (.int .i64 (ru j).v) ∧ w.cell? ⟨g, 26 + j * 3 + 1, none⟩ = some (.int .i64 (ru j).q) ∧ w.cell? ⟨g, 26 + j * 3 + 2, none⟩ = some (.bool (ru j).d) := by
 rw [cell_of_row w g _ _ _ _ h.row, cell_of_row w g _ _ _ _ h.row, cell_of_row w g _ _ _ _ h.row]
 rcases j with _ | _ | _ | _ | _ | _ | _ | _ | _ | _ | _ | _ | _ | _ | _ | _ | j
 all_goals first | exact ⟨rfl, rfl, rfl⟩ | omega
theorem BdAt.fz (h : BdAt w g s ru rv lm km H) (i : Nat) : w.frozen? ⟨g, i, none⟩ = false := frozen_of_row _ _ _ _ _ h.row
theorem BdAt.set (h : BdAt w g s ru rv lm km H) (k : Nat) (v : Value) {s' : Bk.St} {ru' : Nat → Bk.Un} {rv' : Int} {lm' km' H' : Value} (he : (Bd.cells s ru rv lm km H).setIfInBounds k v = Bd.cells s' ru' rv' lm' km' H') : BdAt (w.setCell ⟨g, k, none⟩ v) g s' ru' rv' lm' km' H' := ⟨by rw [← he]; exact heap_setCell_same w g k _ _ _ h.row⟩
theorem BdAt.ep (h : BdAt w g s ru rv lm km H) (x : Int) : BdAt (w.setCell ⟨g, 4, none⟩ (.int .i64 x)) g { s with ep := x } ru rv lm km H := h.set 4 _ rfl
theorem BdAt.who (h : BdAt w g s ru rv lm km H) (x : Int) : BdAt (w.setCell ⟨g, 5, none⟩ (.int .i64 x)) g { s with who := x } ru rv lm km H := h.set 5 _ rfl
theorem BdAt.till (h : BdAt w g s ru rv lm km H) (x : Int) : BdAt (w.setCell ⟨g, 6, none⟩ (.int .i64 x)) g { s with till := x } ru rv lm km H := h.set 6 _ rfl
theorem BdAt.stable (h : BdAt w g s ru rv lm km H) (x : Int) : BdAt (w.setCell ⟨g, 7, none⟩ (.int .i64 x)) g { s with stable := x } ru rv lm km H := h.set 7 _ rfl
theorem BdAt.frm (h : BdAt w g s ru rv lm km H) (x : Int) : BdAt (w.setCell ⟨g, 8, none⟩ (.int .i64 x)) g { s with from_ := x } ru rv lm km H := h.set 8 _ rfl
theorem BdAt.ph (h : BdAt w g s ru rv lm km H) (x : Int) : BdAt (w.setCell ⟨g, 9, none⟩ (.int .i64 x)) g { s with ph := x } ru rv lm km H := h.set 9 _ rfl
theorem BdAt.step (h : BdAt w g s ru rv lm km H) (x : Int) : BdAt (w.setCell ⟨g, 10, none⟩ (.int .i64 x)) g { s with step := x } ru rv lm km H := h.set 10 _ rfl
theorem BdAt.since (h : BdAt w g s ru rv lm km H) (x : Int) : BdAt (w.setCell ⟨g, 11, none⟩ (.int .i64 x)) g { s with since := x } ru rv lm km H := h.set 11 _ rfl
theorem BdAt.begun (h : BdAt w g s ru rv lm km H) (x : Int) : BdAt (w.setCell ⟨g, 12, none⟩ (.int .i64 x)) g { s with begun := x } ru rv lm km H := h.set 12 _ rfl
theorem BdAt.seq (h : BdAt w g s ru rv lm km H) (x : Int) : BdAt (w.setCell ⟨g, 13, none⟩ (.int .i64 x)) g { s with seq := x } ru rv lm km H := h.set 13 _ rfl
theorem BdAt.hs (h : BdAt w g s ru rv lm km H) (H' : Value) (l : List Rc.R) : BdAt (w.setCell ⟨g, 74, none⟩ H') g { s with h := l } ru rv lm km H' := h.set 74 _ rfl
theorem BdAt.us (h : BdAt w g s ru rv lm km H) (us : Nat → Bk.Un) : BdAt w g { s with us := us } ru rv lm km H := ⟨h.row⟩
theorem BdAt.sp_v (h : BdAt w g s ru rv lm km H) (x : Int) : BdAt (w.setCell ⟨g, 14, none⟩ (.int .i64 x)) g { s with sp := { s.sp with v := x } } ru rv lm km H := h.set 14 _ rfl
theorem BdAt.sp_d (h : BdAt w g s ru rv lm km H) (x : Int) : BdAt (w.setCell ⟨g, 15, none⟩ (.int .i64 x)) g { s with sp := { s.sp with d := x } } ru rv lm km H := h.set 15 _ rfl
theorem BdAt.sp_u (h : BdAt w g s ru rv lm km H) (x : Int) : BdAt (w.setCell ⟨g, 16, none⟩ (.int .i64 x)) g { s with sp := { s.sp with u := x } } ru rv lm km H := h.set 16 _ rfl
theorem BdAt.sp_n (h : BdAt w g s ru rv lm km H) (x : Int) : BdAt (w.setCell ⟨g, 17, none⟩ (.int .i64 x)) g { s with sp := { s.sp with n := x } } ru rv lm km H := h.set 17 _ rfl
theorem BdAt.sp_g (h : BdAt w g s ru rv lm km H) (x : Int) : BdAt (w.setCell ⟨g, 18, none⟩ (.int .i64 x)) g { s with sp := { s.sp with g := x } } ru rv lm km H := h.set 18 _ rfl
theorem BdAt.sp_a (h : BdAt w g s ru rv lm km H) (x : Int) : BdAt (w.setCell ⟨g, 19, none⟩ (.int .i64 x)) g { s with sp := { s.sp with a := x } } ru rv lm km H := h.set 19 _ rfl
theorem BdAt.sp_b (h : BdAt w g s ru rv lm km H) (x : Int) : BdAt (w.setCell ⟨g, 20, none⟩ (.int .i64 x)) g { s with sp := { s.sp with b := x } } ru rv lm km H := h.set 20 _ rfl
theorem BdAt.sp_c (h : BdAt w g s ru rv lm km H) (x : Int) : BdAt (w.setCell ⟨g, 21, none⟩ (.int .i64 x)) g { s with sp := { s.sp with c := x } } ru rv lm km H := h.set 21 _ rfl
theorem BdAt.sp_e (h : BdAt w g s ru rv lm km H) (x : Int) : BdAt (w.setCell ⟨g, 22, none⟩ (.int .i64 x)) g { s with sp := { s.sp with e := x } } ru rv lm km H := h.set 22 _ rfl
theorem BdAt.sp_w (h : BdAt w g s ru rv lm km H) (x : Int) : BdAt (w.setCell ⟨g, 23, none⟩ (.int .i64 x)) g { s with sp := { s.sp with w := x } } ru rv lm km H := h.set 23 _ rfl
theorem BdAt.sp_x (h : BdAt w g s ru rv lm km H) (x : Int) : BdAt (w.setCell ⟨g, 24, none⟩ (.int .i64 x)) g { s with sp := { s.sp with x := x } } ru rv lm km H := h.set 24 _ rfl
theorem BdAt.sp_k (h : BdAt w g s ru rv lm km H) (x : Int) : BdAt (w.setCell ⟨g, 25, none⟩ (.int .i64 x)) g { s with sp := { s.sp with k := x } } ru rv lm km H := h.set 25 _ rfl
def bdPuts (w : World) (g : Nat) (t : Spc.Sp) : World := ((((((((((((w.setCell ⟨g, 14, none⟩ (.int .i64 t.v)).setCell ⟨g, 15, none⟩ (.int .i64 t.d)).setCell ⟨g, 16, none⟩ (.int .i64 t.u)).setCell ⟨g, 17, none⟩ (.int .i64 t.n)).setCell ⟨g, 18, none⟩ (.int .i64 t.g)).setCell ⟨g, 19, none⟩ (.int .i64 t.a)).setCell ⟨g, 20, none⟩ (.int .i64 t.b)).setCell ⟨g, 21, none⟩ (.int .i64 t.c)).setCell ⟨g, 22, none⟩ (.int .i64 t.e)).setCell ⟨g, 23, none⟩ (.int .i64 t.w)).setCell ⟨g, 24, none⟩ (.int .i64 t.x)).setCell ⟨g, 25, none⟩ (.int .i64 t.k))
theorem BdAt.spec (h : BdAt w g s ru rv lm km H) (t : Spc.Sp) : BdAt (bdPuts w g t) g { s with sp := t } ru rv lm km H := ((((((((((((h.sp_v t.v).sp_d t.d).sp_u t.u).sp_n t.n).sp_g t.g).sp_a t.a).sp_b t.b).sp_c t.c).sp_e t.e).sp_w t.w).sp_x t.x).sp_k t.k)
theorem BdAt.unitV (h : BdAt w g s ru rv lm km H) {j : Nat} (hj : j < 16) (x : Int) : BdAt (w.setCell ⟨g, 26 + j * 3, none⟩ (.int .i64 x)) g s (Bk.setU ru j { ru j with v := x }) rv lm km H := by
 refine h.set _ _ ?_
 rcases j with _ | _ | _ | _ | _ | _ | _ | _ | _ | _ | _ | _ | _ | _ | _ | _ | j
 all_goals first | rfl | omega
theorem BdAt.unitQ (h : BdAt w g s ru rv lm km H) {j : Nat} (hj : j < 16) (x : Int) : BdAt (w.setCell ⟨g, 26 + j * 3 + 1, none⟩ (.int .i64 x)) g s (Bk.setU ru j { ru j with q := x }) rv lm km H := by
 refine h.set _ _ ?_
 rcases j with _ | _ | _ | _ | _ | _ | _ | _ | _ | _ | _ | _ | _ | _ | _ | _ | j
 all_goals first | rfl | omega
theorem BdAt.unitD (h : BdAt w g s ru rv lm km H) {j : Nat} (hj : j < 16) (x : Bool) : BdAt (w.setCell ⟨g, 26 + j * 3 + 2, none⟩ (.bool x)) g s (Bk.setU ru j { ru j with d := x }) rv lm km H := by
 refine h.set _ _ ?_
 rcases j with _ | _ | _ | _ | _ | _ | _ | _ | _ | _ | _ | _ | _ | _ | _ | _ | j
 all_goals first | rfl | omega
end
theorem Bd.nostr {s : Bk.St} {ru : Nat → Bk.Un} {rv : Int} {lm km H : Value} (h1 : ∀ t, lm ≠ .string t) (h2 : ∀ t, km ≠ .string t) (h3 : ∀ t, H ≠ .string t) : jjc (Bd.cells s ru rv lm km H) := by
 intro i t
 rcases i with _ | _ | _ | _ | _ | _ | _ | _ | _ | _ | _ | _ | _ | _ | _ | _ | _ | _ | _ | _ | _ | _ | _ | _ | _ | _ | _ | _ | _ | _ | _ | _ | _ | _ | _ | _ | _ | _ | _ | _ | _ | _ | _ | _ | _ | _ | _ | _ | _ | _ | _ | _ | _ | _ | _ | _ | _ | _ | _ | _ | _ | _ | _ | _ | _ | _ | _ | _ | _ | _ | _ | _ | _ | _ | _ | i
 all_goals first
  | (intro e; injection e with e; exact absurd e (by first | exact h1 t | exact h2 t | exact h3 t))
  | (intro e; cases e)
  | (rw [Array.getElem?_eq_none (by show 75 ≤ _; omega)]; intro e; cases e)
structure Bk.Like (a b : Bk.St) : Prop where
 ep : a.ep = b.ep
 who : a.who = b.who
 till : a.till = b.till
 stable : a.stable = b.stable
 from_ : a.from_ = b.from_
 ph : a.ph = b.ph
 step : a.step = b.step
 since : a.since = b.since
 begun : a.begun = b.begun
 seq : a.seq = b.seq
 sp : a.sp = b.sp
 us : ∀ i, i < 16 → a.us i = b.us i
 vs : a.vs = b.vs
 h : a.h = b.h
theorem jci {P : Program} {ops : Array Oper} {rest : List Oper} {op : Oper} {a : Act} {w : World} {Q : Exit → Act → World → Prop} (hgd : Region.wanted op (yielded ops a.tmps) = true) (ty : TypeId) (x : Operand) (ho : op.op = .load ty x)
  (b o : Nat) (hx : a.eval x = .pointer (some ⟨b, o, none⟩)) (cs : Array Value) (d : TypeDesc) (hc : w.rangeAt b o cs.toList)
  (hu : P.underlying ty = some d) (hd : d.isRow = true) (hi : (P.info? ty).map (·.size) = some cs.toList.length)
  (h : wpList P ops Q rest (a.put op.dst (.agg cs)) w) : wpList P ops Q (op :: rest) a w := by
 simp only [wpList, hgd, if_true]
 refine .inl (wp_load_mid ty x ho b o hx cs.toList d hc hu hd hi ?_)
 rw [Array.toArray_toList]
 exact h
namespace Bk
def but {T : Type} (l : List T) (i : Nat) : List T := l.take i ++ l.drop (i + 1)
theorem but_length {T : Type} {l : List T} {i : Nat} (h : i < l.length) : (but l i).length + 1 = l.length := by unfold but; rw [List.length_append, List.length_take, List.length_drop]; omega
def Idle (m : Int) (want : St) (odd : Int) (l : List Rc.R) (i : Nat) : Prop := (∃ r, l[i]? = some r ∧ r.kind = 1) ∧ Like (all m (but l i)) want ∧ ((but l i).length : Int) - (allN m (but l i) : Nat) = odd
open Classical in
noncomputable def cgo (m : Int) (want : St) (odd : Int) : Nat → Nat → List Rc.R → List Rc.R
 | 0, _, l => l
 | f + 1, i, l => if Idle m want odd l i then cgo m want odd f i (but l i) else cgo m want odd f (i + 1) l
noncomputable def compact (m : Int) (l : List Rc.R) : List Rc.R := cgo m (all m l) ((l.length : Int) - (allN m l : Nat)) l.length 0 l
end Bk
end Go.Proofs.YtnacjhnfkkddcaaGreatDoor
namespace Go.Proofs.YtnacjhnfkkddcaaGreatDoor.Bk
open Rc (R right)
section
variable {s : St} {r : R}
theorem kinds (h : chk s r = 0) : r.kind = 1 ∨ r.kind = 2 ∨ r.kind = 3 ∨ r.kind = 4 ∨ r.kind = 5 ∨ r.kind = 6 ∨ r.kind = 7 := by
 have := (Rc.ok_of (chk_right h)).kind
 omega
theorem versions : ((app s r).vs.length = s.vs.length ∨ (app s r).vs.length = s.vs.length + 1) ∧ ∀ n t, dig s.vs n = some t → dig (app s r).vs n = some t := by
 by_cases hc : chk s r = 0
 ·rw [app_ok hc]
  have hr := chk_right hc
  rcases kinds hc with hk | hk | hk | hk | hk | hk | hk
  ·rw [act1 hk]; exact ⟨.inl rfl, fun _ _ h => h⟩
  ·rw [act2 hk]
   have h1 := two_ok (by rw [← chk_two hr hk (chk_epoch hc (by omega))]; exact hc)
   refine ⟨.inr (pub_length _ _), fun n t h => ?_⟩
   have h5 : dig s.vs r.n = none := by
    have := h1.1
    unfold has at this
    cases e : dig s.vs r.n with
    | none => rfl
    | some t => rw [e] at this; cases this
   show dig (pub s.vs ⟨r.n, r.text⟩) n = some t
   rw [dig_pub _ _ _ h5]
   by_cases he : r.n = n
   ·rw [← he, h5] at h; cases h
   ·rw [if_neg he]; exact h
  ·rw [act3 hk]; exact ⟨.inl rfl, fun _ _ h => h⟩
  ·rw [act4 hk]; exact ⟨.inl rfl, fun _ _ h => h⟩
  ·rw [act5 hk]; exact ⟨.inl rfl, fun _ _ h => h⟩
  ·rw [act6 hk]; exact ⟨.inl rfl, fun _ _ h => h⟩
  ·rw [act7 hk]; exact ⟨.inl rfl, fun _ _ h => h⟩
 ·rw [app_no hc]; exact ⟨.inl rfl, fun _ _ h => h⟩
theorem history : (app s r).h = if chk s r = 0 ∧ (r.kind = 3 ∨ r.kind = 4 ∨ r.kind = 7) then last24 (s.h ++ [r]) else s.h := by
 by_cases hc : chk s r = 0
 ·rw [app_ok hc]
  rcases kinds hc with hk | hk | hk | hk | hk | hk | hk
  ·rw [if_neg (by omega), act1 hk]
  ·rw [if_neg (by omega), act2 hk]
  ·rw [if_pos ⟨hc, .inl hk⟩, act3 hk]
  ·rw [if_pos ⟨hc, .inr (.inl hk)⟩, act4 hk]
  ·rw [if_neg (by omega), act5 hk]
  ·rw [if_neg (by omega), act6 hk]
  ·rw [if_pos ⟨hc, .inr (.inr hk)⟩, act7 hk]
 ·rw [app_no hc, if_neg (fun h => hc h.1)]
end
theorem Like.refl (a : St) : Like a a := ⟨rfl, rfl, rfl, rfl, rfl, rfl, rfl, rfl, rfl, rfl, rfl, fun _ _ => rfl, rfl, rfl⟩
theorem Like.symm {a b : St} (h : Like a b) : Like b a := ⟨h.ep.symm, h.who.symm, h.till.symm, h.stable.symm, h.from_.symm, h.ph.symm, h.step.symm, h.since.symm, h.begun.symm, h.seq.symm, h.sp.symm, fun i hi => (h.us i hi).symm, h.vs.symm, h.h.symm⟩
theorem cgo_keeps {m : Int} {want : St} {odd : Int} : ∀ (f i : Nat) (l : List R), Like (all m l) want → (l.length : Int) - (allN m l : Nat) = odd →
  Like (all m (cgo m want odd f i l)) want ∧ ((cgo m want odd f i l).length : Int) - (allN m (cgo m want odd f i l) : Nat) = odd ∧ (cgo m want odd f i l).length ≤ l.length := by
 intro f
 induction f with
 | zero => intro i l h1 h2; exact ⟨h1, h2, Nat.le_refl _⟩
 | succ f ih =>
  intro i l h1 h2
  unfold cgo
  split
  ·rename_i h
   obtain ⟨⟨r, hr, _⟩, h3, h4⟩ := h
   have := but_length (List.getElem?_eq_some_iff.1 hr).1
   obtain ⟨g1, g2, g3⟩ := ih i (but l i) h3 h4
   exact ⟨g1, g2, by omega⟩
  ·exact ih (i + 1) l h1 h2
theorem compact_keeps (m : Int) (l : List R) : Like (all m (compact m l)) (all m l) ∧ ((compact m l).length : Int) - (allN m (compact m l) : Nat) = (l.length : Int) - (allN m l : Nat) ∧ (compact m l).length ≤ l.length :=
 cgo_keeps _ _ _ (Like.refl _) rfl
def taken (s : St) : List R → List R
 | [] => []
 | r :: l => if chk s r = 0 then r :: taken (app s r) l else taken (app s r) l
theorem taken_run (l : List R) : ∀ s, run s (taken s l) = run s l ∧ cnt s (taken s l) = (taken s l).length := by
 induction l with
 | nil => exact fun s => ⟨rfl, rfl⟩
 | cons r l ih =>
  intro s
  unfold taken
  by_cases hc : chk s r = 0
  ·rw [if_pos hc]
   obtain ⟨h1, h2⟩ := ih (app s r)
   refine ⟨h1, ?_⟩
   show (if chk s r = 0 then 1 else 0) + cnt (app s r) (taken (app s r) l) = _
   rw [if_pos hc, h2, List.length_cons]
   omega
  ·rw [if_neg hc]
   rw [app_no hc]
   refine ⟨?_, (ih s).2⟩
   rw [(ih s).1]
   show _ = run (app s r) l
   rw [app_no hc]
theorem taken_snoc (s : St) (l : List R) (r : R) : taken s (l ++ [r]) = taken s l ++ if chk (run s l) r = 0 then [r] else [] := by
 induction l generalizing s with
 | nil =>
  show taken s [r] = [] ++ if chk s r = 0 then [r] else []
  unfold taken
  split <;> rfl
 | cons x l ih =>
  show taken s (x :: (l ++ [r])) = taken s (x :: l) ++ if chk (run (app s x) l) r = 0 then [r] else []
  unfold taken
  by_cases hc : chk s x = 0
  ·rw [if_pos hc, if_pos hc, ih, List.cons_append]
  ·rw [if_neg hc, if_neg hc, ih]
theorem taken_mem {l : List R} : ∀ {s : St} {r : R}, r ∈ taken s l → r ∈ l := by
 induction l with
 | nil => intro s r h; exact h
 | cons x l ih =>
  intro s r h
  unfold taken at h
  split at h
  ·rcases List.mem_cons.1 h with rfl | h
   ·exact List.mem_cons_self ..
   ·exact List.mem_cons_of_mem _ (ih h)
  ·exact List.mem_cons_of_mem _ (ih h)
theorem compact_taken (m : Int) (l : List R) : allN m (compact m (taken (new m) l)) = (compact m (taken (new m) l)).length ∧ Like (all m (compact m (taken (new m) l))) (all m l) ∧ (compact m (taken (new m) l)).length ≤ (taken (new m) l).length := by
 obtain ⟨h1, h2, h3⟩ := compact_keeps m (taken (new m) l)
 obtain ⟨h4, h5⟩ := taken_run l (new m)
 have e : allN m (taken (new m) l) = (taken (new m) l).length := h5
 rw [e] at h2
 refine ⟨by omega, ?_, h3⟩
 rw [show all m (taken (new m) l) = all m l from h4] at h1
 exact h1
def told (s : St) : List R → List R
 | [] => []
 | r :: l => if chk s r = 0 ∧ (r.kind = 3 ∨ r.kind = 4 ∨ r.kind = 7) then r :: told (app s r) l else told (app s r) l
end Go.Proofs.YtnacjhnfkkddcaaGreatDoor.Bk
namespace Go.Proofs.YtnacjhnfkkddcaaGreatDoor
namespace Spc
def bts (l : List Nat) : List UInt8 := l.map fun x => UInt8.ofNat x
theorem txt_bts (l : List Nat) : (txt l).data.toList = bts l := jcb l
theorem bts_append (a b : List Nat) : bts (a ++ b) = bts a ++ bts b := by unfold bts; simp
theorem of_bts (l : List Nat) : (⟨(bts l).toArray⟩ : ByteArray) = txt l := jhd (by rw [txt_bts])
theorem decDigits_is (u : Nat) : Lib.decDigits u = bts (dg u) := by
 induction u using Nat.strongRecOn with
 | ind u ih =>
  by_cases h : u < 10
  ·rw [Lib.decDigits, dif_pos h, dg_one h]; rfl
  ·rw [Lib.decDigits, dif_neg h, ih _ (by omega), dg_more h, bts_append]; rfl
theorem itoa_is (n : Int) : Lib.itoa n = bts (digs n) := by
 unfold Lib.itoa digs
 by_cases h : n < 0
 ·rw [if_pos h, if_pos h, decDigits_is]; rfl
 ·rw [if_neg h, if_neg h, decDigits_is, show n.toNat = n.natAbs by omega]
theorem itoa_txt (n : Int) : (⟨(Lib.itoa n).toArray⟩ : ByteArray) = txt (digs n) := by rw [itoa_is, of_bts]
theorem decFrom_cons (x : UInt8) (r : List UInt8) (acc : Nat) : Lib.decFrom acc (x :: r) = match Lib.digitVal x with
 | some d => Lib.decFrom (acc * 10 + d) r
 | none => none := by rw [Lib.decFrom]; cases Lib.digitVal x <;> rfl
theorem decFrom_append (a b : List UInt8) (acc : Nat) : Lib.decFrom acc (a ++ b) = (Lib.decFrom acc a).bind fun m => Lib.decFrom m b := by
 induction a generalizing acc with
 | nil => rfl
 | cons x a ih =>
  rw [List.cons_append, decFrom_cons, decFrom_cons]
  cases Lib.digitVal x with
  | none => rfl
  | some d => exact ih _
theorem digit_is {k : Nat} (h : k < 10) : Lib.digitVal (UInt8.ofNat (48 + k)) = some k := by
 unfold Lib.digitVal
 have : (UInt8.ofNat (48 + k)).toNat = 48 + k := by simp; omega
 rw [this, if_pos (by omega)]
 congr 1; omega
theorem decFrom_digits (u : Nat) : Lib.decFrom 0 (Lib.decDigits u) = some u := by
 induction u using Nat.strongRecOn with
 | ind u ih =>
  by_cases h : u < 10
  ·rw [Lib.decDigits, dif_pos h]
   unfold Lib.decFrom
   rw [digit_is h]
   show Lib.decFrom (0 * 10 + u) [] = _
   unfold Lib.decFrom
   congr 1; omega
  ·rw [Lib.decDigits, dif_neg h, decFrom_append, ih _ (by omega)]
   show Lib.decFrom (u / 10) [UInt8.ofNat (48 + u % 10)] = _
   unfold Lib.decFrom
   rw [digit_is (by omega)]
   show Lib.decFrom (u / 10 * 10 + u % 10) [] = _
   unfold Lib.decFrom
   congr 1; omega
theorem decDigits_ne (u : Nat) : Lib.decDigits u ≠ [] := by
 unfold Lib.decDigits
 split <;> simp
theorem decNat_digits (u : Nat) : Lib.decNat (Lib.decDigits u) = some u := by
 unfold Lib.decNat
 rw [if_neg (by simpa using decDigits_ne u), decFrom_digits]
theorem atoi_itoa (n : Int) : Lib.atoi (Lib.itoa n) = some n := by
 unfold Lib.itoa
 by_cases h : n < 0
 ·rw [if_pos h]
  unfold Lib.atoi
  simp only [beq_self_eq_true, if_true, decNat_digits, Option.map_some]
  congr 1; omega
 ·rw [if_neg h]
  have hd := decFrom_digits n.toNat
  have hn := decNat_digits n.toNat
  generalize Lib.decDigits n.toNat = q at hd hn
  rcases q with _ | ⟨b, r⟩
  ·simp [Lib.decNat] at hn
  ·have hb : 48 ≤ b.toNat := by
    unfold Lib.decFrom at hd
    unfold Lib.digitVal at hd
    by_cases hc : 48 ≤ b.toNat ∧ b.toNat ≤ 57
    ·exact hc.1
    ·rw [if_neg hc] at hd; cases hd
   have h1 : (b == 45) = false := by rw [beq_eq_false_iff_ne]; intro e; rw [e] at hb; simp at hb
   have h2 : (b == 43) = false := by rw [beq_eq_false_iff_ne]; intro e; rw [e] at hb; simp at hb
   unfold Lib.atoi
   simp only [h1, h2, hn]
   simp
   omega
theorem from_digs (n : Int) : from_ (digs n) = if n < 0 then 1 else 0 := by
 unfold from_ digs
 by_cases h : n < 0
 ·rw [if_pos h, if_pos h, if_pos (by simp)]
 ·rw [if_neg h, if_neg h, if_neg]
  rintro ⟨h1, h2⟩
  have := dg_byte n.natAbs ((dg n.natAbs).getD 0 0) (by rw [jhe h2]; exact List.getElem_mem h2)
  omega
end Spc
namespace Bd
open Bk (St Un Vn)
def leader : ByteArray := ⟨#[108, 101, 97, 100, 101, 114]⟩
def tab (s : St) : Ls.St := ⟨s.m, if s.ep = 0 then [] else [⟨leader, s.who, s.ep, s.till, false⟩]⟩
theorem tab_some {s : St} (he : s.ep ≠ 0) : tab s = ⟨s.m, [⟨leader, s.who, s.ep, s.till, false⟩]⟩ := by unfold tab; rw [if_neg he]
theorem find_tab (s : St) : Ls.find (tab s).l leader = if s.ep = 0 then none else some ⟨leader, s.who, s.ep, s.till, false⟩ := by
 unfold tab
 split
 ·rfl
 ·show Ls.find [_] leader = _
  rw [Ls.find_cons, if_pos rfl]
theorem tab_free (s : St) (now : Int) : Bk.free s now = true ↔ Ls.Free (tab s) leader now := by
 unfold Bk.free Ls.Free
 rw [find_tab]
 by_cases h : s.ep = 0
 ·rw [if_pos h]; simp [h]
 ·rw [if_neg h]
  simp [h]
  rfl
theorem tab_holds (s : St) (who ep now : Int) (he : s.ep ≠ 0) : Ls.Holds (tab s) leader who ep now ↔ s.who = who ∧ s.ep = ep ∧ now < s.till := by
 unfold Ls.Holds
 rw [find_tab, if_neg he]
 constructor
 ·rintro ⟨e, he, _, h2⟩
  obtain rfl := Option.some.inj he
  exact h2
 ·rintro ⟨rfl, rfl, h⟩
  exact ⟨_, rfl, rfl, rfl, rfl, h⟩
structure Lok (s : St) : Prop where
 ok : Bk.Ok s
 t1 : s.ep ≠ 0 → 1 ≤ s.till
theorem tab_good {s : St} (h : Lok s) : Ls.Good (tab s) := by
 refine ⟨?_, h.ok.m.1, h.ok.m.2, ?_⟩
 ·unfold tab Ls.Rise
  split
  ·exact List.Pairwise.nil
  ·exact List.pairwise_singleton _ _
 ·intro e he
  unfold tab at he
  by_cases h0 : s.ep = 0
  ·simp [h0] at he
  ·simp only [if_neg h0, List.mem_singleton] at he
   subst he
   have h1 := h.ok.ep
   have h2 := h.ok.who
   have h3 := h.ok.till
   have h4 := h.t1 h0
   refine ⟨(by show 1 ≤ leader.size; decide), (by show leader.size ≤ 16; decide), h2.1, h2.2, ?_, h3, fun h => (by cases h), fun _ => h4⟩
   show 1 ≤ s.ep
   omega
theorem epoch_tab (s : St) : Ls.epochOf (tab s).l leader = s.ep := by
 unfold Ls.epochOf
 rw [find_tab]
 by_cases h : s.ep = 0
 ·rw [if_pos h]; exact h.symm
 ·rw [if_neg h]
theorem put_tab (s : St) (who ep till : Int) (d : Bool) : Ls.put (tab s).l ⟨leader, who, ep, till, d⟩ = [⟨leader, who, ep, till, d⟩] := by
 unfold Ls.put tab
 split
 ·rfl
 ·show Ls.putK (Ls.dropK [_] leader) _ = _
  rw [Ls.dropK_cons, if_pos rfl]
  rfl
theorem tab_take {s : St} {who now ttl : Int} (hr : Ls.Right leader who now ttl) (hf : Bk.free s now = true) (he : s.ep + 1 ≠ 0) :
  Ls.takeS (tab s) leader who now ttl = tab { s with ep := s.ep + 1, who := who, till := Bk.late now ttl } ∧ Ls.takeE (tab s) leader who now ttl = 0 := by
 have e : Ls.takeE (tab s) leader who now ttl = 0 := by
  unfold Ls.takeE
  rw [if_neg (fun h => h hr), if_neg (fun h => h ((tab_free s now).1 hf))]
 refine ⟨?_, e⟩
 unfold Ls.takeS Ls.taken
 rw [if_pos e, put_tab, epoch_tab]
 unfold tab
 rw [if_neg he]
 rfl
open Classical in
theorem tab_renew {s : St} {who ep now ttl : Int} (hr : Ls.Right leader who now ttl) (he : s.ep ≠ 0) (h1 : s.who = who) (h2 : s.ep = ep) (h3 : now < s.till) :
  Ls.renewS (tab s) leader who ep now ttl = tab { s with till := max s.till (Bk.late now ttl) } ∧ Ls.renewE (tab s) leader who ep now ttl = 0 := by
 have e : Ls.renewE (tab s) leader who ep now ttl = 0 := by
  unfold Ls.renewE
  rw [if_neg (fun h => h hr), find_tab, if_neg he]
  show (if Ls.Other ⟨leader, s.who, s.ep, s.till, false⟩ who ep then 8 else if false = true ∨ s.till ≤ now then 9 else 0) = 0
  rw [if_neg (by unfold Ls.Other; simp [h1, h2]), if_neg (by rintro (h | h); cases h; omega)]
 refine ⟨?_, e⟩
 unfold Ls.renewS Ls.renewed
 rw [if_pos e, find_tab, if_neg he]
 show (⟨(tab s).margin, Ls.put (tab s).l ⟨leader, s.who, s.ep, max s.till (Ls.late now ttl), false⟩⟩ : Ls.St) = _
 rw [put_tab, tab_some (s := { s with till := max s.till (Bk.late now ttl) }) he]
 rfl
theorem get_tab {s : St} (he : s.ep ≠ 0) : Ls.holderOf (tab s).l leader = s.who ∧ Ls.epochOf (tab s).l leader = s.ep ∧ Ls.tillOf (tab s).l leader = s.till := by
 unfold Ls.holderOf Ls.epochOf Ls.tillOf
 rw [find_tab, if_neg he]
 exact ⟨rfl, rfl, rfl⟩
theorem digs_len {n : Int} (h : Spc.i64 n) : (Spc.digs n).length ≤ 20 := by
 unfold Spc.i64 at h
 unfold Spc.digs
 have := Spc.dg_len n.natAbs 18 (by omega)
 split
 ·rw [List.length_cons]; omega
 ·omega
def key (n : Int) : ByteArray := txt (Spc.digs n)
theorem key_inj {a b : Int} (h : key a = key b) : a = b := by
 have h1 := congrArg (fun t : ByteArray => t.data.toList) h
 simp only [key, Spc.txt_bts, ← Spc.itoa_is] at h1
 have h2 := Spc.atoi_itoa a
 rw [h1, Spc.atoi_itoa b] at h2
 exact (Option.some.inj h2).symm
theorem key_one (n : Int) : 1 ≤ (key n).size := by
 unfold key
 rw [jcc]
 rcases Nat.eq_zero_or_pos (Spc.digs n).length with h | h
 ·have h1 := Spc.atoi_itoa n
  rw [Spc.itoa_is, List.eq_nil_of_length_eq_zero h] at h1
  cases h1
 ·omega
theorem key_ten {n : Int} (h0 : 0 ≤ n) (h9 : n < 1000000000) : (Spc.digs n).length ≤ 9 := by
 have h1 := (Spc.num_digs n h0 h9)
 have h2 : Spc.numB (Spc.digs n) = true := h1.2
 unfold Spc.numB at h2
 rw [Bool.and_eq_true, decide_eq_true_eq, Spc.from_digs, if_neg (by omega)] at h2
 omega
def Digs (K : Kv.St) (vs : List Vn) : Prop := (K.l.map fun e => (e.key, e.val)).Perm (vs.map fun v => (key v.n, v.t))
section
variable {K : Kv.St} {vs : List Vn}
theorem Digs.len (h : Digs K vs) : K.l.length = vs.length := by have := h.length_eq; simpa using this
theorem dig_mem {vs : List Vn} (hr : vs.Pairwise fun a b => a.n < b.n) {v : Vn} (hv : v ∈ vs) : Bk.dig vs v.n = some v.t := by
 induction vs with
 | nil => cases hv
 | cons x vs ih =>
  have hp := List.pairwise_cons.1 hr
  unfold Bk.dig
  rcases List.mem_cons.1 hv with rfl | hv
  ·rw [if_pos rfl]
  ·have := hp.1 v hv
   rw [if_neg (by omega), ih hp.2 hv]
theorem Digs.find (h : Digs K vs) (hg : Kv.Good K) (hr : vs.Pairwise fun a b => a.n < b.n) (n : Int) : (Kv.find K.l (key n)).map (·.val) = Bk.dig vs n := by
 cases hf : Kv.find K.l (key n) with
 | some e =>
  obtain ⟨h1, h2⟩ := Kv.find_some hf
  have h3 : (e.key, e.val) ∈ vs.map fun v => (key v.n, v.t) := h.mem_iff.1 (List.mem_map.2 ⟨e, h1, rfl⟩)
  obtain ⟨v, hv, he⟩ := List.mem_map.1 h3
  have e1 : key v.n = e.key := congrArg Prod.fst he
  have e2 : v.t = e.val := congrArg Prod.snd he
  have := key_inj (e1.trans h2)
  rw [← this, dig_mem hr hv, e2]
  rfl
 | none =>
  show none = _
  symm
  refine Bk.dig_none fun v hv hn => ?_
  have h3 : (key v.n, v.t) ∈ K.l.map fun e => (e.key, e.val) := h.mem_iff.2 (List.mem_map.2 ⟨v, hv, rfl⟩)
  obtain ⟨e, he, hq⟩ := List.mem_map.1 h3
  have e1 : e.key = key v.n := congrArg Prod.fst hq
  rw [hn] at e1
  exact Kv.find_none.1 hf e he e1
theorem Digs.val (h : Digs K vs) (hg : Kv.Good K) (hr : vs.Pairwise fun a b => a.n < b.n) (n : Int) : Kv.valOf K.l (key n) = Bk.text vs n ∧ (Kv.revOf K.l (key n) ≠ 0 ↔ Bk.has vs n = true) := by
 have h1 := h.find hg hr n
 unfold Kv.valOf Kv.revOf Bk.text Bk.has
 rw [← h1]
 cases hf : Kv.find K.l (key n) with
 | none => simp
 | some e =>
  have := (hg.revs e (Kv.find_some hf).1).1
  simp
  omega
theorem none_digs : Digs Kv.St.none [] := List.Perm.refl _
theorem Digs.keys (h : Digs K vs) : (Kv.keysOf K.l).Perm (vs.map fun v => key v.n) := by
 have := h.map Prod.fst
 simp only [List.map_map] at this
 exact this
end
def told (u : Un) : Un := ⟨u.v, u.q, u.d || decide (u.q = 0)⟩
def Raw (ru us : Nat → Un) : Prop := ∀ i, i < 16 → us i = told (ru i) ∧ ((ru i).q = 0 → (ru i).d = false)
theorem Raw.same {ru us ru' us' : Nat → Un} (h : Raw ru us) (h' : Raw ru' us') : (∀ i, i < 16 → us i = us' i) ↔ ∀ i, i < 16 → ru i = ru' i := by
 constructor
 ·intro e i hi
  have h1 := e i hi
  rw [(h i hi).1, (h' i hi).1] at h1
  have h2 := (h i hi).2
  have h3 := (h' i hi).2
  generalize ru i = a at *
  generalize ru' i = b at *
  obtain ⟨a1, a2, a3⟩ := a
  obtain ⟨b1, b2, b3⟩ := b
  unfold told at h1
  injection h1 with e1 e2 e3
  simp only at e1 e2 e3 h2 h3
  subst e1 e2
  by_cases h0 : a2 = 0
  ·rw [h2 h0, h3 h0]
  ·simp [h0] at e3
   rw [e3]
 ·intro e i hi
  rw [(h i hi).1, (h' i hi).1, e i hi]
theorem new_raw : Raw (fun _ => ⟨0, 0, false⟩) (fun _ => ⟨0, 0, true⟩) := fun _ _ => ⟨rfl, fun _ => rfl⟩
theorem Raw.intent {ru us : Nat → Un} (h : Raw ru us) (k : Nat) (v q : Int) (hq : q ≠ 0) : Raw (Bk.setU ru k ⟨v, q, false⟩) (Bk.setU us k ⟨v, q, false⟩) := by
 intro i hi
 unfold Bk.setU
 by_cases hk : i = k
 ·rw [if_pos hk, if_pos hk]
  refine ⟨?_, fun _ => rfl⟩
  unfold told
  simp [hq]
 ·rw [if_neg hk, if_neg hk]
  exact h i hi
theorem Raw.ack {ru us : Nat → Un} (h : Raw ru us) (k : Nat) (hk : k < 16) (hq : (ru k).q ≠ 0) : Raw (Bk.setU ru k { ru k with d := true }) (Bk.setU us k { us k with d := true }) := by
 intro i hi
 unfold Bk.setU
 by_cases hk2 : i = k
 ·rw [if_pos hk2, if_pos hk2, (h k hk).1]
  refine ⟨?_, fun h0 => absurd h0 hq⟩
  unfold told
  simp
 ·rw [if_neg hk2, if_neg hk2]
  exact h i hi
end Bd
open Go.Deep Go.Maps Go.RowKit
abbrev opV (o : Kv.Po) : Value := .agg #[.string o.key, .string o.val, .int .i64 o.rev, .bool o.drop]
namespace Kv
def badB (o : Po) : Bool := decide (o.key.size = 0) || (decide (64 < o.key.size) || decide (64 < o.val.size))
def oddB (s : St) (o : Po) : Bool := decide (0 ≤ o.rev) && !decide (o.rev = revOf s.l o.key)
def lackB (s : St) (o : Po) : Bool := o.drop && !(find s.l o.key).isSome
theorem badB_iff {o : Po} : badB o = true ↔ ¬ PoOk o := by
 unfold badB PoOk
 simp only [Bool.or_eq_true, decide_eq_true_eq]
 omega
theorem oddB_iff {s : St} {o : Po} : oddB s o = true ↔ Odd s o := by
 unfold oddB Odd
 simp
theorem lackB_iff {s : St} (hs : Good s) {o : Po} : lackB s o = true ↔ Lacks s o := by
 unfold lackB Lacks
 rw [rev_zero hs]
 cases find s.l o.key <;> simp
end Kv
def FnB (g : Nat) (pre : Array Value) (p : Kv.Po → Bool) (w0 : World) (l : List Kv.Po) : Prop :=
 ∀ W o, o ∈ l → Below w0.heap.size w0 W → Calls Tryz.prog g (pre.push (opV o)) W (fun e w' => e = .returned (.bool (p o)) ∧ Below W.heap.size W w')
theorem jh0 (g : Nat) (pre : Array Value) (p : Kv.Po → Bool) (eg : ∀ args w, (callFunc g args).run Tryz.prog w = .ok (.enter g args) w) (l : List Kv.Po) (n c : Nat) (A : Option Addr) (w0 w : World) (h : SlP w0 A n c l) (hb0 : Below w0.heap.size w0 w) (hp : FnB g pre p w l) :
  Calls Tryz.prog 203 #[.slice A n c, .func (.func g) pre #[]] w (fun e w' => ∃ i : Int, e = .returned (.int .i64 i) ∧ (0 ≤ i ↔ l.any p = true) ∧ Below w.heap.size w w') := by
 have hn := h.len
 have hmx := h.max
 have hcp := h.cap
 unfold maxLen at hmx
 have HA := zh h
 have HN := zh hn
 have B0 := zh hb0
 have HP := zh hp
 clear h hn hb0 hp
 go_enter Tryz.func203, Tryz.ntmps203
 go_wp2_with fail
 go_loopw [5, 8] (fun _ i wr => ∃ j : Nat, j ≤ n ∧ i = .int .i64 j ∧ (∀ o ∈ l.take j, p o = false) ∧ Below w.heap.size w wr) (fun _ i _ => n - (intOf i).toNat)
 case atStart => exact ⟨0, by omega, rfl, by simp, Below.refl _ _⟩
 case round =>
  obtain ⟨j, hj, rfl, hok, hbr⟩ := hrel
  have OK := zh hok
  have B := zh hbr
  have BB := zh (B0.out.trans (hbr.mono B0.out.size))
  clear hok hbr
  by_cases hlt : j < n
  ·obtain ⟨b1, o1, rfl⟩ := HA.out.addr (by have := HN.out; omega)
   have EA : Hid (l[j]? = some (l[j]'(by have := HN.out; omega))) := List.getElem?_eq_getElem _
   generalize l[j]'(by have := HN.out; omega) = x at *
   obtain ⟨p0, p1, p2, p3⟩ := HA.out.po EA.out BB.out
   have HM : Hid (x ∈ l) := List.mem_of_getElem? EA.out
   have CC := zh (HP.out _ x HM.out B.out)
   cases hq : p x with
   | true =>
    rw [hq] at CC
    have HQ := zh hq
    clear hq
    go_wp2_with (go_at_fn g; (with_reducible refine CC.out.mono ?_); rintro e w1 ⟨rfl, hb1⟩; have B1 := zh (B.out.trans (hb1.mono B.out.size)); clear hb1)
    go_ret
    refine ⟨_, rfl, ?_, B1.out⟩
    rw [List.any_eq_true]
    exact ⟨fun _ => ⟨x, HM.out, HQ.out⟩, fun _ => by omega⟩
   | false =>
    rw [hq] at CC
    have HQ := zh hq
    clear hq
    go_wp2_with (go_at_fn g; (with_reducible refine CC.out.mono ?_); rintro e w1 ⟨rfl, hb1⟩; have B1 := zh (B.out.trans (hb1.mono B.out.size)); clear hb1)
    refine ⟨⟨j + 1, by omega, by go_num, fun o ho => ?_, B1.out⟩, by simp [intOf]; omega⟩
    rw [List.take_add_one, EA.out] at ho
    rcases List.mem_append.1 ho with ho | ho
    ·exact OK.out o ho
    ·simp at ho; subst ho; exact HQ.out
  ·have E : Hid (l.take j = l) := List.take_of_length_le (by have := HN.out; omega)
   rw [E.out] at OK
   go_wp2_with fail
   go_ret
   refine ⟨_, rfl, ?_, B.out⟩
   rw [List.any_eq_true]
   refine ⟨fun h => by omega, fun ⟨o, ho, hp⟩ => ?_⟩
   rw [OK.out o ho] at hp
   cases hp
theorem jb8 (g : Nat) (pre : Array Value) (p : Kv.Po → Bool) (eg : ∀ args w, (callFunc g args).run Tryz.prog w = .ok (.enter g args) w) (l : List Kv.Po) (n c : Nat) (A : Option Addr) (w0 w : World) (h : SlP w0 A n c l) (hb0 : Below w0.heap.size w0 w) (hp : FnB g pre p w l) :
  Calls Tryz.prog 178 #[.slice A n c, .func (.func g) pre #[]] w (fun e w' => e = .returned (.bool (l.any p)) ∧ Below w.heap.size w w') := by
 have C := zh (jh0 g pre p eg l n c A w0 w h hb0 hp)
 clear h hb0 hp eg
 generalize l.any p = b at C ⊢
 go_enter Tryz.func178, Tryz.ntmps178
 go_wp2_with (go_at_call 203; (with_reducible refine C.out.mono ?_); rintro e w1 ⟨i, rfl, hi, hb1⟩; have B1 := zh hb1; have HI := zh hi; clear hb1 hi)
 go_ret
 refine ⟨?_, B1.out⟩
 cases b with
 | true =>
  have : 0 ≤ i := HI.out.2 rfl
  simp [this]
 | false =>
  have : ¬ 0 ≤ i := fun h => by have := HI.out.1 h; cases this
  simp [this]
theorem jk4 (W : World) (o : Kv.Po) (h1 : o.key.size ≤ maxLen) (h2 : o.val.size ≤ maxLen) : Calls Tryz.prog 179 (#[].push (opV o)) W (fun e w' => e = .returned (.bool (Kv.badB o)) ∧ Below W.heap.size W w') := by
 have B1 := zh ((Below.refl W.heap.size W).alloc (Nat.le_refl _) (.cells #[.string o.key, .string o.val, .int .i64 o.rev, .bool o.drop] 158))
 unfold maxLen at h1 h2
 have hs1 : (o.key.size : Int) ≤ 9223372036854775807 := by omega
 have hs2 : (o.val.size : Int) ≤ 9223372036854775807 := by omega
 unfold opV Kv.badB
 obtain ⟨key, val, rev, drop⟩ := o
 simp only at *
 show Calls _ _ #[_] _ _
 by_cases g1 : key.size = 0
 ·have hk : key = ⟨#[]⟩ := ByteArray.ext (Array.eq_empty_of_size_eq_zero g1)
  subst hk
  go_enter Tryz.func179, Tryz.ntmps179
  go_wp2_with fail
  go_ret
  exact ⟨rfl, B1.out⟩
 ·have hk : key.toList.isEmpty = false := by
   rw [Bool.eq_false_iff]
   intro h
   refine g1 ?_
   have h1 : key.toList = ByteArray.toList ⟨#[]⟩ := (List.isEmpty_iff.1 h).trans (by rw [ByteArray.toList_eq])
   rw [Kv.teq.1 (beq_iff_eq.2 h1)]; rfl
  by_cases g2 : (64 : Int) < key.size
  ·go_enter Tryz.func179, Tryz.ntmps179
   go_wp2_with fail
   go_ret
   refine ⟨?_, B1.out⟩
   show Ending.returned (.bool _) = Ending.returned (.bool _)
   refine congrArg (fun b => Ending.returned (.bool b)) ?_
   rw [Bool.eq_iff_iff]
   simp
   omega
  ·go_enter Tryz.func179, Tryz.ntmps179
   go_wp2_with fail
   go_ret
   refine ⟨?_, B1.out⟩
   show Ending.returned (.bool _) = Ending.returned (.bool _)
   refine congrArg (fun b => Ending.returned (.bool b)) ?_
   rw [Bool.eq_iff_iff]
   simp
   omega
open Go.WideMaps
def eU : Value → Option (DataW Unit × List MemPlace)
 | .agg ⟨[]⟩ => some (.agg [], [])
 | _ => none
theorem eU_mk : eU (.agg #[]) = some (.agg [], []) := rfl
def jcm (w : World) (b : Nat) (ks : List ByteArray) : Prop :=
 ∃ D n, w.ownsMap Tryz.prog 9 eU b n D ∧ n ≤ ks.length ∧ Tidy D ∧ (∀ k : ByteArray, Maps.has D (kl k) = true ↔ k ∈ ks) ∧ Maps.size D ≤ ks.length ∧ (Maps.size D = ks.length ↔ ks.Pairwise fun a b => a ≠ b)
theorem jcm.made (w : World) : jcm (w.alloc (.map #[] 0)) w.heap.size [] :=
 ⟨_, 0, World.ownsMap_made w _ _ _, Nat.le_refl _, tidy_empty, fun k => by simp [Maps.has], Nat.le_refl _, by simp [Maps.size]⟩
theorem jcm.lt {w : World} {b : Nat} {ks : List ByteArray} (h : jcm w b ks) : b < w.heap.size := by
 obtain ⟨D, n, h1, _⟩ := h
 exact h1.lt
theorem jcm.keep {w w' : World} {b : Nat} {ks : List ByteArray} (h : jcm w b ks) (hb : w'.heap[b]? = w.heap[b]?) : jcm w' b ks := by
 obtain ⟨D, n, ⟨es, clock, h1, h2⟩, hd⟩ := h
 exact ⟨D, n, ⟨es, clock, hb.trans h1, h2⟩, hd⟩
theorem jcm.on {w w' : World} {b : Nat} {ks : List ByteArray} (h : jcm w b ks) (hb : Below w.heap.size w w') : jcm w' b ks := h.keep (hb.block b h.lt)
theorem jcm.len {w : World} {b : Nat} {ks : List ByteArray} (h : jcm w b ks) (ty : TypeId) : ∃ m : Nat, m ≤ ks.length ∧ (m = ks.length ↔ ks.Pairwise fun a b => a ≠ b) ∧ (Builtin.len_ #[242] ty #[.map (some b)]).run Tryz.prog w = .ok (.int .i64 (m : Nat)) w := by
 obtain ⟨D, n, h1, _, _, _, h3, h4⟩ := h
 exact ⟨_, h3, h4, h1.len Tryz.underlying242 ty⟩
theorem jcm.put {w : World} {b : Nat} {ks : List ByteArray} (h : jcm w b ks) (hl : ks.length ≤ 1000000) (k : ByteArray) (hs : k.size ≤ maxLen) :
  ∃ w', (Instr.mapUpdate 242 (.map (some b)) (.string k) (.agg #[])).run Tryz.prog w = .ok () w' ∧ jcm w' b (ks ++ [k]) ∧ w.mapTurned w' b := by
 obtain ⟨D, n, h1, h2, ht, hh, h3, h4⟩ := h
 obtain ⟨w', hrun, h5, h6⟩ := h1.store (string_keyed Tryz.underlying9) Tryz.underlying242 (by unfold maxLen; omega) (keyOf_string_mk Tryz.underlying9 hs) eU_mk
 refine ⟨w', hrun, ⟨_, _, h5, by simp; omega, ht.put (jcx k) _, fun k' => ?_, ?_, ?_⟩, h6⟩
 ·by_cases hk : k' = k
  ·subst hk
   have := has_put_same ht.isMap (jcx k') (DataW.agg (H := Unit) [])
   exact ⟨fun _ => by simp, fun _ => this⟩
  ·have := has_put_other (D := D) (k := kl k) (k' := kl k') (fun e => hk (jem e)) (DataW.agg (H := Unit) [])
   rw [show Maps.has (D.put (Lit.string k.data.toList) (.agg [])) (kl k') = Maps.has D (kl k') from this, hh k']
   simp [hk]
 ·have := size_put (k := kl k) ht (DataW.agg (H := Unit) [])
  show Maps.size (D.put (kl k) _) ≤ _
  rw [this, List.length_append, List.length_singleton]
  split <;> omega
 ·have := size_put (k := kl k) ht (DataW.agg (H := Unit) [])
  show Maps.size (D.put (kl k) _) = _ ↔ _
  rw [this, List.length_append, List.length_singleton, List.pairwise_append]
  by_cases hk : k ∈ ks
  ·rw [if_pos ((hh k).2 hk)]
   exact ⟨fun h => by omega, fun h => absurd rfl (h.2.2 k hk k (by simp))⟩
  ·rw [if_neg (fun h => hk ((hh k).1 h))]
   refine ⟨fun h => ⟨h4.1 (by omega), List.pairwise_singleton _ _, fun a ha b hb e => ?_⟩, fun h => by rw [h4.2 h.1]⟩
   simp at hb; subst hb; subst e; exact hk ha
theorem jd4 (w : World) (n : Nat) (t k e : TypeId) (ht : Tryz.prog.underlying t = some (.map k e)) : (Instr.makeMap t (some (.int .i64 n))).run Tryz.prog w = .ok (.map (some w.heap.size)) (w.alloc (.map #[] 0)) := by
 simp [Instr.makeMap, run_underlying ht, asInt, go_sem]
theorem jep (l : List Kv.Po) (n c : Nat) (A : Option Addr) (w0 w : World) (h : SlP w0 A n c l) (hb0 : Below w0.heap.size w0 w) (hz : l.length ≤ 70) :
  Calls Tryz.prog 180 #[.slice A n c] w (KBool (¬ l.Pairwise fun a b => a.key ≠ b.key) w) := by
 have hn := h.len
 have hmx := h.max
 have hcp := h.cap
 unfold maxLen at hmx
 have HA := zh h
 have HN := zh hn
 have HZ := zh hz
 have B0 := zh hb0
 have hmm := jd4 w n 242 9 243 Tryz.underlying242
 have S0 := zh (jcm.made w)
 have BM := zh ((Below.refl w.heap.size w).alloc (Nat.le_refl _) (.map #[] 0))
 have LT : Hid (w.heap.size < (w.alloc (.map #[] 0)).heap.size) := S0.out.lt
 clear h hn hb0 hz
 go_enter Tryz.func180, Tryz.ntmps180
 go_wp2_with fail
 clear hmm
 obtain ⟨m, hm⟩ : ∃ m, m = w.heap.size := ⟨_, rfl⟩
 rw [← hm] at S0 LT ⊢
 have HM := zh hm
 clear hm
 generalize w.alloc (.map #[] 0) = w1 at *
 go_loopw [11] (fun i wr => ∃ j : Nat, j ≤ n ∧ i = .int .i64 j ∧ jcm wr m ((l.take j).map (·.key)) ∧ Below w.heap.size w wr) (fun i _ => n - (intOf i).toNat)
 case atStart => exact ⟨0, by omega, rfl, S0.out, BM.out⟩
 case round =>
  obtain ⟨j, hj, rfl, hs, hbr⟩ := hrel
  have SE := zh hs
  have B := zh hbr
  have BB := zh (B0.out.trans (hbr.mono B0.out.size))
  clear hs hbr
  by_cases hlt : j < n
  ·obtain ⟨b1, o1, rfl⟩ := HA.out.addr (by have := HN.out; omega)
   have EA : Hid (l[j]? = some (l[j]'(by have := HN.out; omega))) := List.getElem?_eq_getElem _
   generalize l[j]'(by have := HN.out; omega) = x at *
   obtain ⟨p0, p1, p2, p3⟩ := HA.out.po EA.out BB.out
   have KS := zh (HA.out.poOk (List.mem_of_getElem? EA.out)).1
   have ST : Hid ((l.take (j + 1)).map (·.key) = (l.take j).map (·.key) ++ [x.key]) := by
    show _ = _
    rw [List.take_add_one, EA.out]; simp
   have LL : Hid (((l.take j).map (·.key)).length ≤ 1000000) := by
    show _ ≤ _
    rw [List.length_map, List.length_take]; have := HZ.out; omega
   generalize (l.take j).map (·.key) = ks at *
   have BN := zh ((Below.refl wr.heap.size wr).alloc (Nat.le_refl _) (.cells #[.string x.key, .string x.val, .int .i64 x.rev, .bool x.drop] 158))
   have S1 := zh (SE.out.on BN.out)
   obtain ⟨wd, hrun, hs2, ht2⟩ := S1.out.put LL.out x.key KS.out
   have S2 := zh hs2
   have B2 := zh ((B.out.trans (BN.out.mono B.out.size)).grown ht2.grown (by have := B.out.size; have := BN.out.size; omega) (fun k hk => by injection hk with hk; have := HM.out; omega))
   clear hs2 ht2 BN S1
   go_wp2_with fail
   exact ⟨⟨j + 1, by omega, by go_num, by rw [ST.out]; exact S2.out, B2.out⟩, by simp [intOf]; omega⟩
  ·have E : Hid (l.take j = l) := List.take_of_length_le (by have := HN.out; omega)
   rw [E.out] at SE
   obtain ⟨z, hz1, hz2, hz3⟩ := SE.out.len 3
   rw [List.length_map] at hz1 hz2
   have Z1 := zh hz1
   have Z2 := zh hz2
   clear hz1 hz2
   go_wp2_with fail
   go_ret
   refine ⟨⟨_, rfl, ?_⟩, B.out⟩
   rw [← List.pairwise_map, ← Z2.out]
   have := Z1.out
   have := HN.out
   simp
   omega
end Go.Proofs.YtnacjhnfkkddcaaGreatDoor
