import Derived.Test.YtnacjhnfkkddcaaGreatDoorQp20
import Derived.Carry
import Derived.Deep.RegionWith
import Derived.Test.YtnacjhnfkkddcaaGreatDoorQp09
set_option maxHeartbeats 6400000
set_option maxRecDepth 100000
set_option linter.unusedSimpArgs false
set_option linter.unusedVariables false
namespace Go.Proofs.YtnacjhnfkkddcaaGreatDoor
open Go.RowKit Go.Maps Go.WideMaps
structure MapV (P : Program) (kt et t : TypeId) (K V H : Type) where
 kv : K → Value
 kl : K → Lit
 ok : K → Prop
 ev : V → Value
 ed : V → DataW H
 R : Value → Option (DataW H × List MemPlace)
 zero : V
 keyed : Keyed P kt
 ty : P.underlying t = some (.map kt et)
 key : ∀ k, ok k → keyOf P kt (kv k) = some (kl k)
 inj : ∀ k k', kl k = kl k' → k = k'
 isKey : ∀ k, WideAt.IsKeyLit (kl k)
 rd : ∀ v, R (ev v) = some (ed v, [])
 rinv : ∀ x z, R x = some z → ∃ v, x = ev v ∧ z = (ed v, [])
 einj : ∀ v v', ed v = ed v' → v = v'
 hz : ∀ w, (zeroValue et).run P w = .ok (ev zero) w
namespace MapV
variable {P : Program} {kt et t : TypeId} {K V H : Type} (M : MapV P kt et t K V H)
structure Dat (D : DataW H) (f : K → Option V) (n : Nat) : Prop where
 has : ∀ k, Maps.has D (M.kl k) = (f k).isSome
 at_ : ∀ k v, f k = some v → ∀ z, D.atKey (M.kl k) z = M.ed v
 size : Maps.size D = n
 tidy : Tidy D
def At (w : World) (b : Nat) (f : K → Option V) (n : Nat) : Prop := ∃ D, w.ownsMap P kt M.R b n D ∧ M.Dat D f n
noncomputable def set (f : K → Option V) (k : K) (o : Option V) : K → Option V := by
 classical exact fun k' => if k' = k then o else f k'
theorem set_same (f : K → Option V) (k : K) (o : Option V) : set f k o k = o := by unfold set; simp
theorem set_other (f : K → Option V) {k k' : K} (o : Option V) (h : k' ≠ k) : set f k o k' = f k' := by unfold set; simp [h]
variable {M}
theorem owns_tight {w : World} {b n : Nat} {D : DataW H} (h : w.ownsMap P kt M.R b n D) : w.ownsMap P kt M.R b (Maps.size D) D := by
 obtain ⟨es, clock, hb, F, _, rfl⟩ := h
 refine ⟨es, clock, hb, F, ?_, rfl⟩
 simp [Maps.size, length_sorted]
theorem At.of {w : World} {b n m : Nat} {D : DataW H} {f : K → Option V} (h : w.ownsMap P kt M.R b m D) (hd : M.Dat D f n) : M.At w b f n := ⟨D, by rw [← hd.size]; exact owns_tight h, hd⟩
theorem At.made (w : World) : M.At (w.alloc (.map #[] 0)) w.heap.size (fun _ => none) 0 := ⟨_, World.ownsMap_made w P kt M.R, fun _ => rfl, fun _ _ h => (by cases h), rfl, tidy_empty⟩
theorem At.lt {w : World} {b n : Nat} {f : K → Option V} (h : M.At w b f n) : b < w.heap.size := by
 obtain ⟨D, h1, _⟩ := h
 exact h1.lt
theorem At.keep {w w' : World} {b n : Nat} {f : K → Option V} (h : M.At w b f n) (hb : w'.heap[b]? = w.heap[b]?) : M.At w' b f n := by
 obtain ⟨D, ⟨es, clock, h1, h2⟩, hd⟩ := h
 exact ⟨D, ⟨es, clock, hb.trans h1, h2⟩, hd⟩
theorem At.on {w w' : World} {b n : Nat} {f : K → Option V} (h : M.At w b f n) (hb : Below w.heap.size w w') : M.At w' b f n := h.keep (hb.block b h.lt)
theorem At.block {w : World} {b n : Nat} {f : K → Option V} (h : M.At w b f n) : ∃ es clock, w.heap[b]? = some (.map es clock) := by
 obtain ⟨D, ⟨es, clock, h1, _⟩, _⟩ := h
 exact ⟨es, clock, h1⟩
theorem Dat.look {D : DataW H} {f : K → Option V} {n : Nat} (h : M.Dat D f n) (k : K) : D.atKey (M.kl k) (M.ed M.zero) = M.ed ((f k).getD M.zero) := by
 cases hf : f k with
 | none =>
  have := h.has k
  rw [hf] at this
  exact Maps.atKey_of_not_has this _
 | some v => exact h.at_ k v hf _
theorem Dat.put {D : DataW H} {f : K → Option V} {n : Nat} (h : M.Dat D f n) (k : K) (v : V) : M.Dat (D.put (M.kl k) (M.ed v)) (set f k (some v)) (if (f k).isSome then n else n + 1) := by
 refine ⟨fun k' => ?_, fun k' u hu z => ?_, ?_, h.tidy.put (M.isKey k) _⟩
 ·by_cases hk : k' = k
  ·subst hk; rw [set_same]; exact has_put_same h.tidy.isMap (M.isKey _) _
  ·rw [set_other _ _ hk, has_put_other (fun e => hk (M.inj _ _ e))]; exact h.has k'
 ·by_cases hk : k' = k
  ·subst hk
   rw [set_same] at hu
   obtain rfl := Option.some.inj hu
   exact atKey_put_same h.tidy.isMap (M.isKey _) _ _
  ·rw [set_other _ _ hk] at hu
   rw [atKey_put_other (fun e => hk (M.inj _ _ e))]; exact h.at_ k' u hu z
 ·have h1 := size_put (k := M.kl k) h.tidy (M.ed v)
  rw [h.has k, h.size] at h1
  exact h1
theorem At.look {w : World} {b n : Nat} {f : K → Option V} (h : M.At w b f n) (k : K) (hk : M.ok k) : (Instr.lookup t (.map (some b)) (M.kv k) false).run P w = .ok (M.ev ((f k).getD M.zero)) w := by
 obtain ⟨D, h1, hd⟩ := h
 obtain ⟨v, ps, hrun, hv⟩ := h1.lookup M.keyed M.ty (M.hz w) (M.rd M.zero) (M.key k hk)
 obtain ⟨u, rfl, hu⟩ := M.rinv _ _ hv
 have h2 := hd.look k
 have h3 : D.atKey (M.kl k) (M.ed M.zero) = M.ed u := congrArg Prod.fst hu
 rw [M.einj _ _ (h2.symm.trans h3)]
 exact hrun
theorem At.look_ok {w : World} {b n : Nat} {f : K → Option V} (h : M.At w b f n) (k : K) (hk : M.ok k) : (Instr.lookup t (.map (some b)) (M.kv k) true).run P w = .ok (.tuple #[M.ev ((f k).getD M.zero), .bool (f k).isSome]) w := by
 obtain ⟨D, h1, hd⟩ := h
 obtain ⟨v, ps, hrun, hv⟩ := h1.look_ok M.keyed M.ty (M.hz w) (M.rd M.zero) (M.key k hk)
 obtain ⟨u, rfl, hu⟩ := M.rinv _ _ hv
 have h2 := hd.look k
 have h3 : D.atKey (M.kl k) (M.ed M.zero) = M.ed u := congrArg Prod.fst hu
 rw [hd.has k] at hrun
 rw [M.einj _ _ (h2.symm.trans h3)]
 exact hrun
theorem At.put {w : World} {b n : Nat} {f : K → Option V} (h : M.At w b f n) (hn : n < maxLen) (k : K) (v : V) (hk : M.ok k) :
  ∃ w', (Instr.mapUpdate t (.map (some b)) (M.kv k) (M.ev v)).run P w = .ok () w' ∧ M.At w' b (set f k (some v)) (if (f k).isSome then n else n + 1) ∧ w.mapTurned w' b := by
 obtain ⟨D, h1, hd⟩ := h
 obtain ⟨w', hrun, h2, h3⟩ := h1.store M.keyed M.ty hn (M.key k hk) (M.rd v)
 exact ⟨w', hrun, At.of h2 (hd.put k v), h3⟩
end MapV
abbrev heldR (v : Value) : Option (DataW Value × List MemPlace) := some (.held v, [])
def MapV.ofInt {P : Program} {kt et t : TypeId} {q : IntKind} (hk : P.underlying kt = some (.int q)) (ht : P.underlying t = some (.map kt et)) (z : Value) (hz : ∀ w, (zeroValue et).run P w = .ok z w) : MapV P kt et t Int Value Value where
 kv := .int q
 kl := .int q
 ok := fun a => (Lit.int q a).wf = true
 ev := fun v => v
 ed := .held
 R := heldR
 zero := z
 keyed := Maps.int_keyed hk
 ty := ht
 key := fun _ h => Maps.keyOf_int_mk hk h
 inj := fun _ _ h => by injection h
 isKey := fun _ => trivial
 rd := fun _ => rfl
 rinv := fun x z h => ⟨x, rfl, (Option.some.inj h).symm⟩
 einj := fun _ _ h => by injection h
 hz := hz
theorem MapV.At.insert {P : Program} {kt et t : TypeId} {K V H : Type} {M : MapV P kt et t K V H} {w : World} {ops : Array Oper} {rest : List Oper} {o : Oper} {a : Act} {Q : Exit → Act → World → Prop} {b n : Nat} {f : K → Option V} (h : M.At w b f n) (hg : o.guard = none) (m x v : Operand) (hop : o.op = Op.insert t m x v)
  (hm : a.eval m = .map (some b)) (k : K) (u : V) (hx : a.eval x = M.kv k) (hv : a.eval v = M.ev u) (hn : n < maxLen) (hk : M.ok k)
  (hK : ∀ w', M.At w' b (MapV.set f k (some u)) (if (f k).isSome then n else n + 1) → w.mapTurned w' b → wpList P ops Q rest (a.put o.dst undef) w') : wpList P ops Q (o :: rest) a w := by
 refine wpList_plain hg fun K' hK' => ?_
 obtain ⟨w', hrun, h2, h3⟩ := h.put hn k u hk
 unfold Oper.wp
 simp [execOp, hop, hm, hx, hv, hrun, Result.andThen]
 exact hK' _ _ (hK w' h2 h3)
end Go.Proofs.YtnacjhnfkkddcaaGreatDoor
namespace Go.Proofs.YtnacjhnfkkddcaaGreatDoor
open Go.RowKit Go.Maps
namespace Rc
def nameB (k : Int) : ByteArray :=
 if k = 1 then ⟨#[108, 101, 97, 100]⟩ else if k = 2 then ⟨#[112, 117, 98, 108, 105, 115, 104]⟩ else if k = 3 then ⟨#[98, 101, 103, 105, 110]⟩ else if k = 4 then ⟨#[109, 111, 118, 101]⟩
 else if k = 5 then ⟨#[105, 110, 116, 101, 110, 116]⟩ else if k = 6 then ⟨#[97, 99, 107]⟩ else if k = 7 then ⟨#[115, 116, 101, 112]⟩ else ⟨#[]⟩
end Rc
theorem jcp {w w' : World} {q : Nat} {o : Obj} (h : w.heap[q]? = some o) (hb : Below w.heap.size w w') : w'.heap[q]? = some o := (hb.block q (Array.getElem?_eq_some_iff.1 h).1).trans h
theorem jlc (w : World) : (zeroValue 133).run Tryz.prog w = .ok (.agg #[.string ⟨#[]⟩, .nilFunc, .nilFunc, .nilFunc, .nilFunc, .nilFunc]) w := by kernel_rfl
abbrev RM := MapV.ofInt Tryz.underlying3 Tryz.underlying135 _ jlc
def jax (B : Nat) (w W : World) : Prop := ∀ i, B ≤ i → i < w.heap.size → W.heap[i]? = w.heap[i]?
theorem jax.of {w W : World} (B : Nat) (h : Below w.heap.size w W) : jax B w W := fun i _ hi => h.block i hi
theorem jax.set {B q : Nat} {w W : World} (h : jax B w W) (hq : q < B ∨ w.heap.size ≤ q) (cs : Array Value) : jax B w (W.setRow q cs) := fun i h1 h2 => by
 rw [setRow_other W q i cs (by omega)]; exact h i h1 h2
def FnV {T : Type} (B : Nat) (w0 : World) (v : Value) (a : T → Value) (ok : T → Prop) (p : T → Bool) : Prop :=
 ∃ g cap, v = .func (.func g) #[] cap ∧ (∀ args w, (callFunc g args).run Tryz.prog w = .ok (.enter g args) w) ∧ ∀ W x, ok x → jax B w0 W → Calls Tryz.prog g (#[a x] ++ cap) W (APos W (.bool (p x)))
theorem FnV.on {T : Type} {B : Nat} {w0 w1 : World} {v : Value} {a : T → Value} {ok : T → Prop} {p : T → Bool} (h : FnV B w0 v a ok p) (hb : jax B w0 w1) (hs : w0.heap.size ≤ w1.heap.size) : FnV B w1 v a ok p := by
 obtain ⟨g, cap, e, eg, hc⟩ := h
 exact ⟨g, cap, e, eg, fun W x hx hW => hc W x hx (fun i h1 h2 => (hW i h1 (by omega)).trans (hb i h1 h2))⟩
theorem kfn_any (lo hi n : Int) (a b : Nat) (w : World) (ha : w.heap[a]? = some (.cells #[.int .i64 lo] 3 (0, 0))) (hb : w.heap[b]? = some (.cells #[.int .i64 hi] 3 (0, 0))) :
  Calls Tryz.prog 173 #[.int .i64 n, .pointer (some ⟨a, 0, none⟩), .pointer (some ⟨b, 0, none⟩)] w (APos w (.bool (Spc.inn n lo hi))) := by
 have ca : w.cell? ⟨a, 0, none⟩ = some (.int .i64 lo) := by rw [cell_of_row w a 0 _ _ _ ha]; rfl
 have cb : w.cell? ⟨b, 0, none⟩ = some (.int .i64 hi) := by rw [cell_of_row w b 0 _ _ _ hb]; rfl
 clear ha hb
 have HI : Hid (Spc.inn n lo hi = (decide (lo ≤ n) && decide (n ≤ hi))) := rfl
 have B := zh (Below.refl w.heap.size w)
 by_cases h1 : lo ≤ n
 ·by_cases h2 : n ≤ hi
  ·have e : Spc.inn n lo hi = true := Spc.inn_iff.2 ⟨h1, h2⟩
   rw [e]
   clear HI e
   go_enter Tryz.func173, Tryz.ntmps173
   go_wp2_with fail
   go_ret
   exact ⟨rfl, B.out⟩
  ·have e : Spc.inn n lo hi = false := by rw [HI.out, Bool.and_eq_false_iff, decide_eq_false_iff_not, decide_eq_false_iff_not]; exact .inr h2
   rw [e]
   clear HI e
   go_enter Tryz.func173, Tryz.ntmps173
   go_wp2_with fail
   go_ret
   exact ⟨rfl, B.out⟩
 ·have e : Spc.inn n lo hi = false := by rw [HI.out, Bool.and_eq_false_iff, decide_eq_false_iff_not, decide_eq_false_iff_not]; exact .inl h1
  rw [e]
  clear HI e
  go_enter Tryz.func173, Tryz.ntmps173
  go_wp2_with fail
  go_ret
  exact ⟨rfl, B.out⟩
def jcq (w : World) (m : Nat) (v : Value) (lo hi : Int) : Prop :=
 ∃ a b, v = .func (.func 173) #[] #[.pointer (some ⟨a, 0, none⟩), .pointer (some ⟨b, 0, none⟩)] ∧ w.heap[a]? = some (.cells #[.int .i64 lo] 3 (0, 0)) ∧ w.heap[b]? = some (.cells #[.int .i64 hi] 3 (0, 0)) ∧ m < a ∧ m < b
theorem jcq.on {w w' : World} {m : Nat} {v : Value} {lo hi : Int} (h : jcq w m v lo hi) (hb : Below w.heap.size w w') : jcq w' m v lo hi := by
 obtain ⟨a, b, e, ha, hbb, h1, h2⟩ := h
 exact ⟨a, b, e, jcp ha hb, jcp hbb hb, h1, h2⟩
theorem jcq.turned {w w' : World} {m : Nat} {v : Value} {lo hi : Int} (h : jcq w m v lo hi) (hb : w.mapTurned w' m) : jcq w' m v lo hi := by
 obtain ⟨a, b, e, ha, hbb, h1, h2⟩ := h
 have G := hb.grown
 refine ⟨a, b, e, ?_, ?_, h1, h2⟩
 ·rw [G.block a (Array.getElem?_eq_some_iff.1 ha).1 (fun e => by injection e; omega)]; exact ha
 ·rw [G.block b (Array.getElem?_eq_some_iff.1 hbb).1 (fun e => by injection e; omega)]; exact hbb
theorem jcq.fn {w : World} {m B : Nat} (hB : B ≤ m) {v : Value} {lo hi : Int} (h : jcq w m v lo hi) : FnV B w v (fun n : Int => .int .i64 n) Spc.i64 (fun n => Spc.inn n lo hi) := by
 obtain ⟨a, b, e, ha, hbb, h1, h2⟩ := h
 exact ⟨_, _, e, fun _ _ => rfl, fun W n _ hW => kfn_any lo hi n a b W ((hW a (by omega) (Array.getElem?_eq_some_iff.1 ha).1).trans ha) ((hW b (by omega) (Array.getElem?_eq_some_iff.1 hbb).1).trans hbb)⟩
theorem jld (lo hi : Int) (m : Nat) (w : World) (hm : m < w.heap.size) : Calls Tryz.prog 132 #[.int .i64 lo, .int .i64 hi] w fun e w' => ∃ a b, e = .returned (.func (.func 173) #[] #[.pointer (some ⟨a, 0, none⟩), .pointer (some ⟨b, 0, none⟩)]) ∧ jcq w' m (.func (.func 173) #[] #[.pointer (some ⟨a, 0, none⟩), .pointer (some ⟨b, 0, none⟩)]) lo hi ∧ Below w.heap.size w w' := by
 have hmf : ∀ (fn : Fn) (first cap : Array Value) (w : World), (Instr.makeFunc fn first cap).run Tryz.prog w = .ok (.func fn first cap) w := fun _ _ _ _ => rfl
 have B1 := zh ((Below.refl w.heap.size w).alloc (Nat.le_refl _) (.cells #[.int .i64 lo] 3))
 have R1 := zh (heap_alloc_new w (.cells #[.int .i64 lo] 3))
 have S1 : Hid ((w.alloc (.cells #[.int .i64 lo] 3)).heap.size = w.heap.size + 1) := by show _ = _; exact World.size_alloc _ _
 have B2 := zh (B1.out.alloc (by have := B1.out.size; omega) (.cells #[.int .i64 hi] 3))
 have R2 := zh (heap_alloc_new (w.alloc (.cells #[.int .i64 lo] 3)) (.cells #[.int .i64 hi] 3))
 have R3 := zh (jcp R1.out ((Below.refl _ _).alloc (Nat.le_refl _) (.cells #[.int .i64 hi] 3)))
 have HM := zh hm
 clear hm
 go_enter Tryz.func132, Tryz.ntmps132
 go_wp2_with fail
 go_ret
 refine ⟨_, _, rfl, ⟨_, _, rfl, ?_, ?_, ?_, ?_⟩, B2.out⟩
 ·exact R3.out
 ·have := R2.out; rw [S1.out] at this; exact this
 ·have := HM.out; omega
 ·have := HM.out; omega
theorem jjj (n : Int) (w : World) : Calls Tryz.prog 135 #[.int .i64 n] w (APos w (.bool (decide (n = 0)))) := by
 have B := zh (Below.refl w.heap.size w)
 have E : Hid (decide (n = 0) = (n == 0)) := by show _ = _; rw [Bool.eq_iff_iff]; simp
 rw [E.out]
 go_enter Tryz.func135, Tryz.ntmps135
 go_wp2_with fail
 go_ret
 exact ⟨rfl, B.out⟩
theorem jjk (t : ByteArray) (w : World) : Calls Tryz.prog 133 #[.string t] w (APos w (.bool (decide (t.size = 0)))) := by
 have B := zh (Below.refl w.heap.size w)
 have he := jdq t
 generalize decide (t.size = 0) = b at *
 go_enter Tryz.func133, Tryz.ntmps133
 go_wp2_with fail
 go_ret
 exact ⟨rfl, B.out⟩
theorem jh5 (t : ByteArray) (ht : t.size ≤ maxLen) (w : World) : Calls Tryz.prog 136 #[.string t] w (APos w (.bool (decide (1 ≤ t.size) && decide (t.size ≤ 64)))) := by
 have B := zh (Below.refl w.heap.size w)
 have he := jdq t
 have hz := jee ht
 by_cases h0 : t.size = 0
 ·have E : (decide (1 ≤ t.size) && decide (t.size ≤ 64)) = false := by rw [Bool.and_eq_false_iff]; left; rw [decide_eq_false_iff_not]; omega
  rw [decide_eq_true h0] at he
  rw [E]
  clear E h0
  go_enter Tryz.func136, Tryz.ntmps136
  go_wp2_with fail
  go_ret
  exact ⟨rfl, B.out⟩
 ·rw [decide_eq_false h0] at he
  by_cases h1 : (t.size : Int) ≤ 64
  ·have E : (decide (1 ≤ t.size) && decide (t.size ≤ 64)) = true := by rw [Bool.and_eq_true, decide_eq_true_eq, decide_eq_true_eq]; omega
   rw [E]
   clear E h0
   go_enter Tryz.func136, Tryz.ntmps136
   go_wp2_with fail
   go_ret
   exact ⟨rfl, B.out⟩
  ·have E : (decide (1 ≤ t.size) && decide (t.size ≤ 64)) = false := by rw [Bool.and_eq_false_iff]; right; rw [decide_eq_false_iff_not]; omega
   rw [E]
   clear E h0
   go_enter Tryz.func136, Tryz.ntmps136
   go_wp2_with fail
   go_ret
   exact ⟨rfl, B.out⟩
theorem jgu (n : Int) (w : World) : Calls Tryz.prog 86 #[.int .i64 n] w (APos w (.bool (Spc.inn n 1 1099511627776))) := by
 have B := zh (Below.refl w.heap.size w)
 have HI : Hid (Spc.inn n 1 1099511627776 = (decide (1 ≤ n) && decide (n ≤ 1099511627776))) := rfl
 by_cases h1 : 1 ≤ n
 ·by_cases h2 : n ≤ 1099511627776
  ·have e : Spc.inn n 1 1099511627776 = true := Spc.inn_iff.2 ⟨h1, h2⟩
   rw [e]
   clear HI e
   go_enter Tryz.func86, Tryz.ntmps86
   go_wp2_with fail
   go_ret
   exact ⟨rfl, B.out⟩
  ·have e : Spc.inn n 1 1099511627776 = false := by rw [HI.out, Bool.and_eq_false_iff, decide_eq_false_iff_not, decide_eq_false_iff_not]; exact .inr h2
   rw [e]
   clear HI e
   go_enter Tryz.func86, Tryz.ntmps86
   go_wp2_with fail
   go_ret
   exact ⟨rfl, B.out⟩
 ·have e : Spc.inn n 1 1099511627776 = false := by rw [HI.out, Bool.and_eq_false_iff, decide_eq_false_iff_not, decide_eq_false_iff_not]; exact .inl h1
  rw [e]
  clear HI e
  go_enter Tryz.func86, Tryz.ntmps86
  go_wp2_with fail
  go_ret
  exact ⟨rfl, B.out⟩
def Rc.zsp (s : Spc.Sp) : Bool := decide (Spc.flds s = Spc.flds Spc.zero)
theorem jnv (s : Spc.Sp) : Rc.zsp s = Spc.same s Spc.zero := by
 unfold Rc.zsp
 rw [Bool.eq_iff_iff, decide_eq_true_eq, Spc.same_iff]
 exact ⟨Spc.flds_inj, fun h => by rw [h]⟩
theorem jjl (s : Spc.Sp) (w : World) : Calls Tryz.prog 134 #[Spc.val s] w (APos w (.bool (Rc.zsp s))) := by
 have B1 := zh (((Below.refl w.heap.size w).alloc (Nat.le_refl _) (.cells (Spc.cells s) 35)))
 have B2 := zh (B1.out.alloc (by have := B1.out.size; omega) (.cells (Spc.cells Spc.zero) 35))
 have K1 := heap_alloc_new w (.cells (Spc.cells s) 35)
 have K2 := heap_alloc_new (w.alloc (.cells (Spc.cells s) 35)) (.cells (Spc.cells Spc.zero) 35)
 have K3 := jcp K1 ((Below.refl _ (w.alloc (.cells (Spc.cells s) 35))).alloc (Nat.le_refl _) (.cells (Spc.cells Spc.zero) 35))
 have SZ := World.size_alloc w (.cells (Spc.cells s) 35)
 rw [SZ] at K2
 obtain ⟨f0, f1, f2, f3, f4, f5, f6, f7, f8, f9, f10, f11⟩ := jae K3
 obtain ⟨e0, e1, e2, e3, e4, e5, e6, e7, e8, e9, e10, e11⟩ := jae K2
 have he := spec_eq s Spc.zero
 rw [← jnv] at he
 generalize Rc.zsp s = b at *
 clear K1 K2 K3 SZ
 unfold Spc.val Spc.cells Spc.zero at *
 go_enter Tryz.func134, Tryz.ntmps134
 go_wp2_with fail
 go_ret
 exact ⟨rfl, B2.out⟩
theorem jh6 (s : Spc.Sp) (hin : Spc.In s) (w : World) : Calls Tryz.prog 137 #[Spc.val s] w (APos w (.bool (decide (Spc.chk s = 0)))) := by
 have B1 := zh (((Below.refl w.heap.size w).alloc (Nat.le_refl _) (.cells (Spc.cells s) 35)))
 obtain ⟨f0, f1, f2, f3, f4, f5, f6, f7, f8, f9, f10, f11⟩ := jae (heap_alloc_new w (.cells (Spc.cells s) 35))
 have CK := zh (fun W => jlb s hin W)
 have E : Hid (decide (Spc.chk s = 0) = (Spc.chkE s == 0)) := by
  show _ = _
  unfold Spc.chkE
  rw [Bool.eq_iff_iff]
  by_cases h : Spc.chk s = 0 <;> simp [h]
 rw [E.out]
 clear E
 clear hin
 unfold jb7 at CK
 generalize Spc.chkE s = x at *
 generalize ((Spc.chk s : Nat) : Int) = y at *
 unfold Spc.val at *
 unfold Spc.cells at *
 go_enter Tryz.func137, Tryz.ntmps137
 go_wp2_with (go_at_call 174; (with_reducible refine (CK.out _).mono ?_); rintro e w1 ⟨rfl, hb⟩; have B2 := zh (B1.out.trans (hb.mono B1.out.size)); clear hb)
 go_ret
 exact ⟨rfl, B2.out⟩
namespace Rc
def whoB (k n : Int) : Bool := if k = 1 then Spc.inn n 0 63 else if k = 5 ∨ k = 6 then Spc.inn n 0 15 else if k = 7 then Spc.inn n 1 4 else decide (n = 0)
def nB (k n : Int) : Bool := if k = 1 ∨ k = 3 ∨ k = 7 then Spc.inn n 0 1099511627776 else if k = 2 then Spc.inn n 1 1048576 else if k = 4 then Spc.inn n 1 5 else if k = 5 then Spc.inn n 0 1048576 else decide (n = 0)
def seqB (k n : Int) : Bool := if k = 1 then Spc.inn n 1 1048576 else if k = 5 ∨ k = 6 then Spc.inn n 1 1099511627776 else decide (n = 0)
def textB (k : Int) (t : ByteArray) : Bool := if k = 2 ∨ k = 4 ∨ k = 7 then decide (1 ≤ t.size) && decide (t.size ≤ 64) else decide (t.size = 0)
def specB (k : Int) (s : Spc.Sp) : Bool := if k = 3 then decide (Spc.chk s = 0) else zsp s
def isKind (k : Int) : Bool := decide (1 ≤ k) && decide (k ≤ 7)
theorem isKind_iff {k : Int} : isKind k = true ↔ 1 ≤ k ∧ k ≤ 7 := by unfold isKind; simp
end Rc
abbrev kwho (n : Int) : Value := .int .i64 n
abbrev ktxt (t : ByteArray) : Value := .string t
structure je6 (B : Nat) (w : World) (k : Int) (v1 v2 v3 v4 v5 : Value) : Prop where
 who : FnV B w v1 kwho Spc.i64 (Rc.whoB k)
 n : FnV B w v2 kwho Spc.i64 (Rc.nB k)
 seq : FnV B w v3 kwho Spc.i64 (Rc.seqB k)
 text : FnV B w v4 ktxt (fun t => t.size ≤ maxLen) (Rc.textB k)
 spec : FnV B w v5 Spc.val Spc.In (Rc.specB k)
abbrev ruleV (k : Int) (v1 v2 v3 v4 v5 : Value) : Value := .agg #[.string (Rc.nameB k), v1, v2, v3, v4, v5]
structure jle (B : Nat) (w : World) (m : Nat) : Prop where
 map : ∃ f n, RM.At w m f n ∧ (∀ k, Rc.isKind k = true → ∃ v1 v2 v3 v4 v5, f k = some (ruleV k v1 v2 v3 v4 v5) ∧ je6 B w k v1 v2 v3 v4 v5) ∧ ∀ k, Rc.isKind k = false → f k = none
theorem je6.on {B : Nat} {w w' : World} {k : Int} {v1 v2 v3 v4 v5 : Value} (h : je6 B w k v1 v2 v3 v4 v5) (hb : jax B w w') (hs : w.heap.size ≤ w'.heap.size) : je6 B w' k v1 v2 v3 v4 v5 := ⟨h.who.on hb hs, h.n.on hb hs, h.seq.on hb hs, h.text.on hb hs, h.spec.on hb hs⟩
structure RSt (W w : World) (m : Nat) (f : Int → Option Value) (n : Nat) (L : List (Value × Int × Int)) : Prop where
 below : Below W.heap.size W w
 base : W.heap.size ≤ m
 map : ∃ j, j ≤ n ∧ RM.At w m f j
 fns : ∀ v lo hi, (v, lo, hi) ∈ L → jcq w m v lo hi
namespace RSt
variable {W w : World} {m n : Nat} {f : Int → Option Value} {L : List (Value × Int × Int)}
theorem more (h : RSt W w m f n L) {w' : World} {v : Value} {lo hi : Int} (hs : jcq w' m v lo hi) (hb : Below w.heap.size w w') : RSt W w' m f n ((v, lo, hi) :: L) :=
 ⟨h.below.trans (hb.mono h.below.size), h.base, (by obtain ⟨j, hj, hm⟩ := h.map; exact ⟨j, hj, hm.on hb⟩), fun v' lo' hi' hm => by
  rcases List.mem_cons.1 hm with e | hm
  ·injection e with e1 e2; injection e2 with e2 e3; subst e1 e2 e3; exact hs
  ·exact (h.fns _ _ _ hm).on hb⟩
theorem turned (h : RSt W w m f n L) {w' : World} {f' : Int → Option Value} {n' : Nat} (hm : ∃ j, j ≤ n' ∧ RM.At w' m f' j) (ht : w.mapTurned w' m) : RSt W w' m f' n' L :=
 ⟨⟨ht.grown.os.trans h.below.os, ht.grown.tape.trans h.below.tape, ht.grown.output.trans h.below.output, Nat.le_trans h.below.size ht.grown.size, fun i hi => (ht.grown.block i (Nat.lt_of_lt_of_le hi h.below.size) (fun e => by injection e with e; have := h.base; omega)).trans (h.below.block i hi)⟩,
  h.base, hm, fun v lo hi hv => (h.fns v lo hi hv).turned ht⟩
theorem fn (h : RSt W w m f n L) {v : Value} {lo hi : Int} (hm : (v, lo, hi) ∈ L) : FnV W.heap.size w v kwho Spc.i64 (fun n => Spc.inn n lo hi) := (h.fns v lo hi hm).fn h.base
theorem lt (h : RSt W w m f n L) : m < w.heap.size := by
 obtain ⟨j, hj, hm⟩ := h.map
 exact hm.lt
theorem ins (h : RSt W w m f n L) {ops : Array Oper} {rest : List Oper} {o : Oper} {a : Act} {Q : Exit → Act → World → Prop} (hg : o.guard = none) (y x v : Operand) (hop : o.op = Op.insert 135 y x v) (hm : a.eval y = .map (some m)) (k : Int) (u : Value) (hx : a.eval x = .int .i64 k) (hv : a.eval v = u) (hn : n < 100) (hk : (Lit.int .i64 k).wf = true)
  (hK : ∀ w', RSt W w' m (MapV.set f k (some u)) (n + 1) L → wpList Tryz.prog ops Q rest (a.put o.dst undef) w') : wpList Tryz.prog ops Q (o :: rest) a w := by
 obtain ⟨j, hj, hmap⟩ := h.map
 exact hmap.insert hg y x v hop hm k u hx hv (by unfold maxLen; omega) hk fun w' h1 h2 => hK w' (h.turned ⟨_, by split <;> omega, h1⟩ h2)
end RSt
theorem fnI {B : Nat} (w : World) : FnV B w (.func (.func 135) #[] #[]) kwho Spc.i64 (fun n => decide (n = 0)) := ⟨_, _, rfl, fun _ _ => rfl, fun W n _ _ => jjj n W⟩
theorem fnT {B : Nat} (w : World) : FnV B w (.func (.func 133) #[] #[]) ktxt (fun t => t.size ≤ maxLen) (fun t => decide (t.size = 0)) := ⟨_, _, rfl, fun _ _ => rfl, fun W n _ _ => jjk n W⟩
theorem fnT2 {B : Nat} (w : World) : FnV B w (.func (.func 136) #[] #[]) ktxt (fun t => t.size ≤ maxLen) (fun t => decide (1 ≤ t.size) && decide (t.size ≤ 64)) := ⟨_, _, rfl, fun _ _ => rfl, fun W n h _ => jh5 n h W⟩
theorem fnS {B : Nat} (w : World) : FnV B w (.func (.func 134) #[] #[]) Spc.val Spc.In Rc.zsp := ⟨_, _, rfl, fun _ _ => rfl, fun W n _ _ => jjl n W⟩
theorem fnS2 {B : Nat} (w : World) : FnV B w (.func (.func 137) #[] #[]) Spc.val Spc.In (fun s => decide (Spc.chk s = 0)) := ⟨_, _, rfl, fun _ _ => rfl, fun W n h _ => jh6 n h W⟩
theorem FnV.same {T : Type} {B : Nat} {w : World} {v : Value} {a : T → Value} {ok : T → Prop} {p q : T → Bool} (h : FnV B w v a ok p) (e : p = q) : FnV B w v a ok q := e ▸ h
theorem jgv (w : World) : Calls Tryz.prog 85 #[] w fun e w' => ∃ m, e = .returned (.map (some m)) ∧ jle w.heap.size w' m ∧ Below w.heap.size w w' := by
 have R := zh (RSt.mk (W := w) ((Below.refl w.heap.size w).alloc (Nat.le_refl _) (.map #[] 0)) (Nat.le_refl _) ⟨0, Nat.le_refl _, MapV.At.made (M := RM) w⟩ (L := []) (fun _ _ _ h => by cases h))
 have HW : Hid (w.heap.size = w.heap.size) := rfl
 have hmm := @run_makeMap Tryz.prog
 go_enter Tryz.func85, Tryz.ntmps85
 go_wp2_with (first
  | (go_at_call 132; (with_reducible refine (jld _ _ _ _ R.out.lt).mono ?_); rintro e w1 ⟨a, b, rfl, hs, hb⟩; have R := zh (R.out.more hs hb); clear hs hb)
  | ((with_reducible show wpList _ _ _ ({ dst := none, op := .insert _ _ _ _, type := _, pos := _, after := _, guard := _ } :: _) _ _); refine R.out.ins rfl _ _ _ rfl rfl _ _ rfl rfl (by decide) (by decide) ?_; intro w2 hr2; have R := zh hr2; clear hr2))
 go_ret
 refine ⟨_, rfl, ?_, R.out.below⟩
 obtain ⟨j, hj, hm⟩ := R.out.map
 refine ⟨_, j, hm, fun k hk => ?_, fun k hk => ?_⟩
 ·rw [Rc.isKind_iff] at hk
  have hk : k = 1 ∨ k = 2 ∨ k = 3 ∨ k = 4 ∨ k = 5 ∨ k = 6 ∨ k = 7 := by omega
  clear hm hj
  rcases hk with rfl | rfl | rfl | rfl | rfl | rfl | rfl
  ·exact ⟨_, _, _, _, _, (MapV.set_other _ _ (by decide)).trans ((MapV.set_other _ _ (by decide)).trans ((MapV.set_other _ _ (by decide)).trans ((MapV.set_other _ _ (by decide)).trans ((MapV.set_other _ _ (by decide)).trans ((MapV.set_other _ _ (by decide)).trans (MapV.set_same _ _ _)))))), ⟨(R.out.fn (List.Mem.tail _ (List.Mem.tail _ (List.Mem.tail _ (List.Mem.tail _ (List.Mem.tail _ (List.Mem.tail _ (List.Mem.tail _ (List.Mem.tail _ (List.Mem.tail _ (List.Mem.tail _ (List.Mem.tail _ (List.Mem.tail _ (List.Mem.head _)))))))))))))).same (funext fun n => by simp [Rc.whoB]), (R.out.fn (List.Mem.tail _ (List.Mem.tail _ (List.Mem.tail _ (List.Mem.tail _ (List.Mem.tail _ (List.Mem.tail _ (List.Mem.tail _ (List.Mem.tail _ (List.Mem.tail _ (List.Mem.tail _ (List.Mem.tail _ (List.Mem.head _))))))))))))).same (funext fun n => by simp [Rc.nB]), (R.out.fn (List.Mem.tail _ (List.Mem.tail _ (List.Mem.tail _ (List.Mem.tail _ (List.Mem.tail _ (List.Mem.tail _ (List.Mem.tail _ (List.Mem.tail _ (List.Mem.tail _ (List.Mem.tail _ (List.Mem.head _)))))))))))).same (funext fun n => by simp [Rc.seqB]), (fnT _).same (funext fun t => by simp [Rc.textB]), (fnS _).same (funext fun t => by simp [Rc.specB])⟩⟩
  ·exact ⟨_, _, _, _, _, (MapV.set_other _ _ (by decide)).trans ((MapV.set_other _ _ (by decide)).trans ((MapV.set_other _ _ (by decide)).trans ((MapV.set_other _ _ (by decide)).trans ((MapV.set_other _ _ (by decide)).trans (MapV.set_same _ _ _))))), ⟨(fnI _).same (funext fun n => by simp [Rc.whoB]), (R.out.fn (List.Mem.tail _ (List.Mem.tail _ (List.Mem.tail _ (List.Mem.tail _ (List.Mem.tail _ (List.Mem.tail _ (List.Mem.tail _ (List.Mem.tail _ (List.Mem.tail _ (List.Mem.head _))))))))))).same (funext fun n => by simp [Rc.nB]), (fnI _).same (funext fun n => by simp [Rc.seqB]), (fnT2 _).same (funext fun t => by simp [Rc.textB]), (fnS _).same (funext fun t => by simp [Rc.specB])⟩⟩
  ·exact ⟨_, _, _, _, _, (MapV.set_other _ _ (by decide)).trans ((MapV.set_other _ _ (by decide)).trans ((MapV.set_other _ _ (by decide)).trans ((MapV.set_other _ _ (by decide)).trans (MapV.set_same _ _ _)))), ⟨(fnI _).same (funext fun n => by simp [Rc.whoB]), (R.out.fn (List.Mem.tail _ (List.Mem.tail _ (List.Mem.tail _ (List.Mem.tail _ (List.Mem.tail _ (List.Mem.tail _ (List.Mem.tail _ (List.Mem.tail _ (List.Mem.head _)))))))))).same (funext fun n => by simp [Rc.nB]), (fnI _).same (funext fun n => by simp [Rc.seqB]), (fnT _).same (funext fun t => by simp [Rc.textB]), (fnS2 _).same (funext fun t => by simp [Rc.specB])⟩⟩
  ·exact ⟨_, _, _, _, _, (MapV.set_other _ _ (by decide)).trans ((MapV.set_other _ _ (by decide)).trans ((MapV.set_other _ _ (by decide)).trans (MapV.set_same _ _ _))), ⟨(fnI _).same (funext fun n => by simp [Rc.whoB]), (R.out.fn (List.Mem.tail _ (List.Mem.tail _ (List.Mem.tail _ (List.Mem.tail _ (List.Mem.tail _ (List.Mem.tail _ (List.Mem.tail _ (List.Mem.head _))))))))).same (funext fun n => by simp [Rc.nB]), (fnI _).same (funext fun n => by simp [Rc.seqB]), (fnT2 _).same (funext fun t => by simp [Rc.textB]), (fnS _).same (funext fun t => by simp [Rc.specB])⟩⟩
  ·exact ⟨_, _, _, _, _, (MapV.set_other _ _ (by decide)).trans ((MapV.set_other _ _ (by decide)).trans (MapV.set_same _ _ _)), ⟨(R.out.fn (List.Mem.tail _ (List.Mem.tail _ (List.Mem.tail _ (List.Mem.tail _ (List.Mem.tail _ (List.Mem.tail _ (List.Mem.head _)))))))).same (funext fun n => by simp [Rc.whoB]), (R.out.fn (List.Mem.tail _ (List.Mem.tail _ (List.Mem.tail _ (List.Mem.tail _ (List.Mem.tail _ (List.Mem.head _))))))).same (funext fun n => by simp [Rc.nB]), (R.out.fn (List.Mem.tail _ (List.Mem.tail _ (List.Mem.tail _ (List.Mem.tail _ (List.Mem.head _)))))).same (funext fun n => by simp [Rc.seqB]), (fnT _).same (funext fun t => by simp [Rc.textB]), (fnS _).same (funext fun t => by simp [Rc.specB])⟩⟩
  ·exact ⟨_, _, _, _, _, (MapV.set_other _ _ (by decide)).trans (MapV.set_same _ _ _), ⟨(R.out.fn (List.Mem.tail _ (List.Mem.tail _ (List.Mem.tail _ (List.Mem.head _))))).same (funext fun n => by simp [Rc.whoB]), (fnI _).same (funext fun n => by simp [Rc.nB]), (R.out.fn (List.Mem.tail _ (List.Mem.tail _ (List.Mem.head _)))).same (funext fun n => by simp [Rc.seqB]), (fnT _).same (funext fun t => by simp [Rc.textB]), (fnS _).same (funext fun t => by simp [Rc.specB])⟩⟩
  ·exact ⟨_, _, _, _, _, MapV.set_same _ _ _, ⟨(R.out.fn (List.Mem.tail _ (List.Mem.head _))).same (funext fun n => by simp [Rc.whoB]), (R.out.fn (List.Mem.head _)).same (funext fun n => by simp [Rc.nB]), (fnI _).same (funext fun n => by simp [Rc.seqB]), (fnT2 _).same (funext fun t => by simp [Rc.textB]), (fnS _).same (funext fun t => by simp [Rc.specB])⟩⟩
 ·have hk : ¬ (1 ≤ k ∧ k ≤ 7) := fun h => by rw [Rc.isKind_iff.2 h] at hk; cases hk
  rw [MapV.set_other _ _ (by omega), MapV.set_other _ _ (by omega), MapV.set_other _ _ (by omega), MapV.set_other _ _ (by omega), MapV.set_other _ _ (by omega), MapV.set_other _ _ (by omega), MapV.set_other _ _ (by omega)]
theorem i64_lit {k : Int} (h : Spc.i64 k) : (Lit.int .i64 k).wf = true := by
 unfold Spc.i64 at h
 simp [Lit.wf, IntKind.min, IntKind.max, IntKind.signed, IntKind.bits]
 omega
theorem jjm {k : Int} (h : Rc.isKind k = false) : Rc.nameB k = ⟨#[]⟩ := by
 have hk : ¬ (1 ≤ k ∧ k ≤ 7) := fun e => by rw [Rc.isKind_iff.2 e] at h; cases h
 unfold Rc.nameB
 rw [if_neg (by omega), if_neg (by omega), if_neg (by omega), if_neg (by omega), if_neg (by omega), if_neg (by omega), if_neg (by omega)]
theorem FnV.cell {T : Type} {B : Nat} {w : World} {v : Value} {a : T → Value} {ok : T → Prop} {p : T → Bool} (h : FnV B w v a ok p) : v.oneCell' = true := by
 obtain ⟨g, cap, rfl, _⟩ := h
 rfl
theorem jle.val {B : Nat} {w : World} {m : Nat} (h : jle B w m) (k : Int) : ∃ f n, RM.At w m f n ∧ (f k).isSome = Rc.isKind k ∧ ∃ v1 v2 v3 v4 v5, (f k).getD RM.zero = ruleV k v1 v2 v3 v4 v5 ∧ (#[.string (Rc.nameB k), v1, v2, v3, v4, v5] : Array Value).all (·.oneCell') = true ∧ (Rc.isKind k = true → je6 B w k v1 v2 v3 v4 v5) := by
 obtain ⟨f, n, h1, h2, h3⟩ := h.map
 refine ⟨f, n, h1, ?_⟩
 cases hk : Rc.isKind k with
 | true =>
  obtain ⟨v1, v2, v3, v4, v5, e, hr⟩ := h2 k hk
  refine ⟨by rw [e]; rfl, v1, v2, v3, v4, v5, by rw [e]; rfl, ?_, fun _ => hr⟩
  have h1 := hr.who.cell
  have h2 := hr.n.cell
  have h3 := hr.seq.cell
  have h4 := hr.text.cell
  have h5 := hr.spec.cell
  have h0 : (Value.string (Rc.nameB k)).oneCell' = true := rfl
  simp [h0, h1, h2, h3, h4, h5]
 | false =>
  have e := h3 k hk
  refine ⟨by rw [e]; rfl, .nilFunc, .nilFunc, .nilFunc, .nilFunc, .nilFunc, ?_, by simp [Value.oneCell'], fun h => by cases h⟩
  rw [e]
  unfold ruleV
  rw [jjm hk]
  rfl
theorem jle.look {B : Nat} {w : World} {m : Nat} (h : jle B w m) (k : Int) (hk : Spc.i64 k) : ∃ v1 v2 v3 v4 v5, (∀ W, Below w.heap.size w W → (Instr.lookup 135 (.map (some m)) (.int .i64 k) true).run Tryz.prog W = .ok (.tuple #[.agg #[.string (Rc.nameB k), v1, v2, v3, v4, v5], .bool (Rc.isKind k)]) W) ∧ (#[.string (Rc.nameB k), v1, v2, v3, v4, v5] : Array Value).all (·.oneCell') = true ∧ (Rc.isKind k = true → je6 B w k v1 v2 v3 v4 v5) := by
 obtain ⟨f, n, h1, h2, v1, v2, v3, v4, v5, e, ho, hr⟩ := h.val k
 refine ⟨v1, v2, v3, v4, v5, fun W hW => ?_, ho, hr⟩
 have := (h1.on hW).look_ok k (i64_lit hk)
 rw [h2, e] at this
 exact this
namespace Rc
theorem right_kind {r : R} (h : isKind r.kind = true) : right r = (Spc.inn r.epoch 1 1099511627776 && (whoB r.kind r.who && (nB r.kind r.n && (seqB r.kind r.seq && (textB r.kind r.text && specB r.kind r.sp))))) := by
 rw [isKind_iff] at h
 have hk : r.kind = 1 ∨ r.kind = 2 ∨ r.kind = 3 ∨ r.kind = 4 ∨ r.kind = 5 ∨ r.kind = 6 ∨ r.kind = 7 := by omega
 have hp : plain r = zsp r.sp := rfl
 unfold right
 rw [hp]
 unfold bare told whoB nB seqB textB specB
 generalize Spc.inn r.epoch 1 1099511627776 = x0
 generalize zsp r.sp = x1
 generalize decide (r.text.size = 0) = x2
 generalize (decide (1 ≤ r.text.size) && decide (r.text.size ≤ 64)) = x3
 generalize decide (Spc.chk r.sp = 0) = x4
 generalize r.kind = k at *
 rcases hk with rfl | rfl | rfl | rfl | rfl | rfl | rfl
 all_goals
  simp
  ac_rfl
theorem right_none {r : R} (h : isKind r.kind = false) : right r = false := by
 have hk : ¬ (1 ≤ r.kind ∧ r.kind ≤ 7) := fun e => by rw [isKind_iff.2 e] at h; cases h
 unfold right
 rw [if_neg (by omega), if_neg (by omega), if_neg (by omega), if_neg (by omega), if_neg (by omega), if_neg (by omega), if_neg (by omega), Bool.and_false]
end Rc
structure RuCs (w : World) (q : Nat) (v1 v2 v3 v4 v5 : Value) : Prop where
 d1 : w.cell? ⟨q, 1, none⟩ = some v1
 d2 : w.cell? ⟨q, 2, none⟩ = some v2
 d3 : w.cell? ⟨q, 3, none⟩ = some v3
 d4 : w.cell? ⟨q, 4, none⟩ = some v4
 d5 : w.cell? ⟨q, 5, none⟩ = some v5
theorem rucs {w : World} {q : Nat} {v0 v1 v2 v3 v4 v5 : Value} (h : w.heap[q]? = some (.cells #[v0, v1, v2, v3, v4, v5] 133 (0, 0))) : RuCs w q v1 v2 v3 v4 v5 :=
 ⟨by rw [cell_of_row w q 1 _ _ _ h]; rfl, by rw [cell_of_row w q 2 _ _ _ h]; rfl, by rw [cell_of_row w q 3 _ _ _ h]; rfl, by rw [cell_of_row w q 4 _ _ _ h]; rfl, by rw [cell_of_row w q 5 _ _ _ h]; rfl⟩
theorem jet : (Tryz.prog.info? 133).map (·.size) = some 6 := by kernel_rfl
theorem jjn {B : Nat} {a b c : World} (h : jax B a b) (hs : a.heap.size ≤ b.heap.size) (hb : Below b.heap.size b c) : jax B a c := fun i h1 h2 => (hb.block i (by omega)).trans (h i h1 h2)
theorem jjo (r : Rc.R) (hin : Rc.In r) (w : World) : Calls Tryz.prog 48 #[.agg (Rc.cells r)] w (APos w (.bool (Rc.right r))) := by
 have HI := zh hin
 have RA := zh (RcAt.new w r)
 have B1 := zh ((Below.refl w.heap.size w).alloc (Nat.le_refl _) (.cells (Rc.cells r) 53))
 have I0 : Hid (Spc.i64 r.kind) := hin.nums _ (by simp [Rc.nums])
 have I2 : Hid (Spc.i64 r.who) := hin.nums _ (by simp [Rc.nums])
 have I3 : Hid (Spc.i64 r.n) := hin.nums _ (by simp [Rc.nums])
 have I4 : Hid (Spc.i64 r.seq) := hin.nums _ (by simp [Rc.nums])
 clear hin
 obtain ⟨ans, hans⟩ : ∃ ans, ans = Rc.right r := ⟨_, rfl⟩
 rw [← hans]
 have HA := zh hans
 clear hans
 go_enter Tryz.func48, Tryz.ntmps48
 go_upto_region 1 with fail
 obtain ⟨g, hg⟩ : ∃ g, g = w.heap.size := ⟨_, rfl⟩
 rw [← hg] at RA ⊢
 clear hg
 generalize w.alloc (.cells (Rc.cells r) 53) = ws at *
 go_cut [3, 4] (fun s3 s4 wx => ∃ q nm v1 v2 v3 v4 v5, s3 = .pointer (some ⟨q, 0, none⟩) ∧ s4 = .bool (Rc.isKind r.kind) ∧ wx.heap[q]? = some (.cells #[.string nm, v1, v2, v3, v4, v5] 133 (0, 0)) ∧ (∃ B, Rc.isKind r.kind = true → je6 B wx r.kind v1 v2 v3 v4 v5) ∧ RcAt wx g r ∧ Below w.heap.size w wx)
 case first =>
  have BB := zh B1.out.drew
  refine wp_region_held_drew (S := fun W => RcAt W g r) (by kernel_rfl) (RA.out.on (Below.refl ws.heap.size ws).drew) (fun hS => ?_)
  clear RA B1
  generalize ws.drew = W0 at *
  refine tY 1 hS ?_
  refine tZ 2 rfl (by intro W hW; obtain ⟨c0, c1, c2, c3, c4, c5, c6, c7, c8, c9, c10, c11, c12, c13, c14, c15, c16, c17, clt⟩ := hW.cs; go_simp; (try with_reducible rfl)) hS ?_
  simp only [Act.put, zT, zO, zS]
  refine jdp 0 7 rfl rfl (by kernel_rfl) rfl rfl (fun K hK => ?_) (fun K hK => ?_)
  ·go_simp
   with_reducible refine (jgv _).mono ?_
   rintro e W1 ⟨m, rfl, hr, hb⟩
   obtain ⟨v1, v2, v3, v4, v5, hlk, hoc, hrv⟩ := hr.look r.kind I0.out
   have LK := zh hlk
   have OC := zh hoc
   have RV := zh hrv
   have hS2 := hS.on hb
   have BB2 := zh (BB.out.trans (hb.mono BB.out.size))
   clear hlk hoc hrv hr
   clear hS BB hb
   have hS := hS2
   have BB := BB2
   clear hS2 BB2
   refine hK.out _ _ hS (fun _ => ?_)
   clear hK K
   try simp only [Act.put, zT, zO, zS]
   refine jdp 3 7 rfl rfl (by kernel_rfl) rfl rfl (fun K hK => ?_) (fun K hK => ?_)
   ·have hl := LK.out W1 (Below.refl _ _)
    go_simp
    clear hl LK
    refine hK.out _ _ hS (fun _ => ?_)
    clear hK K
    refine tY 4 hS ?_
    refine tY 5 hS ?_
    refine tY 6 hS ?_
    simp only [Act.put, zT, zO, zS]
    refine rO 7 (fun K hK => ?_)
    go_simp
    have hS2 := hS.on ((Below.refl W1.heap.size W1).alloc (Nat.le_refl _) (.cells #[.string ⟨#[]⟩, .nilFunc, .nilFunc, .nilFunc, .nilFunc, .nilFunc] 133))
    have QR := zh (heap_alloc_new W1 (.cells #[.string ⟨#[]⟩, .nilFunc, .nilFunc, .nilFunc, .nilFunc, .nilFunc] 133))
    have BB2 := zh (BB.out.alloc (by have := BB.out.size; omega) (.cells #[.string ⟨#[]⟩, .nilFunc, .nilFunc, .nilFunc, .nilFunc, .nilFunc] 133))
    have K2 : Hid (Below W1.heap.size W1 (W1.alloc (.cells #[.string ⟨#[]⟩, .nilFunc, .nilFunc, .nilFunc, .nilFunc, .nilFunc] 133))) := (Below.refl _ _).alloc (Nat.le_refl _) _
    obtain ⟨q, hq⟩ : ∃ q, q = W1.heap.size := ⟨_, rfl⟩
    have QB : Hid (w.heap.size ≤ q) := by have := BB.out.size; show _ ≤ _; omega
    have NE : Hid (g ≠ q) := by have := (Array.getElem?_eq_some_iff.1 hS.row).1; show _ ≠ _; omega
    have QN : Hid (q < W0.heap.size ∨ W1.heap.size ≤ q) := Or.inr (by omega)
    rw [← hq] at QR ⊢
    clear hq hS BB
    have hS := hS2
    have BB := BB2
    clear hS2 BB2
    generalize W1.alloc (.cells #[.string ⟨#[]⟩, .nilFunc, .nilFunc, .nilFunc, .nilFunc, .nilFunc] 133) = W2 at *
    refine hK.out _ _ hS (fun _ => ?_)
    clear hK K
    try simp only [Act.put, zT, zO, zS]
    refine rO 8 (fun K hK => ?_)
    refine wp_store_row 133 (.tmp 3) (.tmp 10) rfl q #[.string (Rc.nameB r.kind), v1, v2, v3, v4, v5] rfl rfl 133 _ QR.out jet rfl OC.out ?_
    have RS := zh (setRow_heap W2 q _ #[.string (Rc.nameB r.kind), v1, v2, v3, v4, v5] _ _ QR.out)
    have BB2 := zh (below_setRow BB.out QB.out #[.string (Rc.nameB r.kind), v1, v2, v3, v4, v5])
    have hS2 : RcAt (W2.setRow q #[.string (Rc.nameB r.kind), v1, v2, v3, v4, v5]) g r := ⟨(setRow_other W2 q g #[.string (Rc.nameB r.kind), v1, v2, v3, v4, v5] NE.out).trans hS.row⟩
    have RV2 : Hid (Rc.isKind r.kind = true → je6 W0.heap.size (W2.setRow q #[.string (Rc.nameB r.kind), v1, v2, v3, v4, v5]) r.kind v1 v2 v3 v4 v5) := fun h => (RV.out h).on (jax.set (jax.of _ K2.out) QN.out _) (by rw [jap]; exact K2.out.size)
    clear hS BB QR RV
    have hS := hS2
    clear hS2
    generalize W2.setRow q #[.string (Rc.nameB r.kind), v1, v2, v3, v4, v5] = W5 at *
    refine hK.out _ _ hS (fun _ => ?_)
    clear hK K
    refine tY 9 hS ?_
    simp only [Act.put, zT, zO, zS]
    refine wpAnyH_done (by kernel_rfl) ?_ _
    go_wp2_with fail
    go_meet
    case rel => exact ⟨q, _, v1, v2, v3, v4, v5, rfl, rfl, RS.out, ⟨_, RV2.out⟩, hS, BB2.out⟩
   ·go_simp
    have hS2 := hS.on ((Below.refl W1.heap.size W1).alloc (Nat.le_refl _) (.cells #[.string ⟨#[]⟩, .nilFunc, .nilFunc, .nilFunc, .nilFunc, .nilFunc] 133))
    have QR := zh (heap_alloc_new W1 (.cells #[.string ⟨#[]⟩, .nilFunc, .nilFunc, .nilFunc, .nilFunc, .nilFunc] 133))
    have BB2 := zh (BB.out.alloc (by have := BB.out.size; omega) (.cells #[.string ⟨#[]⟩, .nilFunc, .nilFunc, .nilFunc, .nilFunc, .nilFunc] 133))
    have K2 : Hid (Below W1.heap.size W1 (W1.alloc (.cells #[.string ⟨#[]⟩, .nilFunc, .nilFunc, .nilFunc, .nilFunc, .nilFunc] 133))) := (Below.refl _ _).alloc (Nat.le_refl _) _
    obtain ⟨q, hq⟩ : ∃ q, q = W1.heap.size := ⟨_, rfl⟩
    have QB : Hid (w.heap.size ≤ q) := by have := BB.out.size; show _ ≤ _; omega
    have NE : Hid (g ≠ q) := by have := (Array.getElem?_eq_some_iff.1 hS.row).1; show _ ≠ _; omega
    have QN : Hid (q < W0.heap.size ∨ W1.heap.size ≤ q) := Or.inr (by omega)
    rw [← hq] at QR ⊢
    clear hq hS BB
    have hS := hS2
    have BB := BB2
    clear hS2 BB2
    generalize W1.alloc (.cells #[.string ⟨#[]⟩, .nilFunc, .nilFunc, .nilFunc, .nilFunc, .nilFunc] 133) = W2 at *
    refine hK.out _ _ hS (fun _ => ?_)
    clear hK K
    try simp only [Act.put, zT, zO, zS]
    refine rO 3 (fun K hK => ?_)
    have hl := LK.out W2 K2.out
    go_simp
    clear hl LK
    refine hK.out _ _ hS (fun _ => ?_)
    clear hK K
    refine tY 4 hS ?_
    refine tY 5 hS ?_
    refine tY 6 hS ?_
    simp only [Act.put, zT, zO, zS]
    refine rO 8 (fun K hK => ?_)
    refine wp_store_row 133 (.tmp 3) (.tmp 10) rfl q #[.string (Rc.nameB r.kind), v1, v2, v3, v4, v5] rfl rfl 133 _ QR.out jet rfl OC.out ?_
    have RS := zh (setRow_heap W2 q _ #[.string (Rc.nameB r.kind), v1, v2, v3, v4, v5] _ _ QR.out)
    have BB2 := zh (below_setRow BB.out QB.out #[.string (Rc.nameB r.kind), v1, v2, v3, v4, v5])
    have hS2 : RcAt (W2.setRow q #[.string (Rc.nameB r.kind), v1, v2, v3, v4, v5]) g r := ⟨(setRow_other W2 q g #[.string (Rc.nameB r.kind), v1, v2, v3, v4, v5] NE.out).trans hS.row⟩
    have RV2 : Hid (Rc.isKind r.kind = true → je6 W0.heap.size (W2.setRow q #[.string (Rc.nameB r.kind), v1, v2, v3, v4, v5]) r.kind v1 v2 v3 v4 v5) := fun h => (RV.out h).on (jax.set (jax.of _ K2.out) QN.out _) (by rw [jap]; exact K2.out.size)
    clear hS BB QR RV
    have hS := hS2
    clear hS2
    generalize W2.setRow q #[.string (Rc.nameB r.kind), v1, v2, v3, v4, v5] = W5 at *
    refine hK.out _ _ hS (fun _ => ?_)
    clear hK K
    refine tY 9 hS ?_
    simp only [Act.put, zT, zO, zS]
    refine wpAnyH_done (by kernel_rfl) ?_ _
    go_wp2_with fail
    go_meet
    case rel => exact ⟨q, _, v1, v2, v3, v4, v5, rfl, rfl, RS.out, ⟨_, RV2.out⟩, hS, BB2.out⟩
  ·go_simp
   have hS2 := hS.on ((Below.refl W0.heap.size W0).alloc (Nat.le_refl _) (.cells #[.string ⟨#[]⟩, .nilFunc, .nilFunc, .nilFunc, .nilFunc, .nilFunc] 133))
   have QR := zh (heap_alloc_new W0 (.cells #[.string ⟨#[]⟩, .nilFunc, .nilFunc, .nilFunc, .nilFunc, .nilFunc] 133))
   have BB2 := zh (BB.out.alloc (by have := BB.out.size; omega) (.cells #[.string ⟨#[]⟩, .nilFunc, .nilFunc, .nilFunc, .nilFunc, .nilFunc] 133))
   obtain ⟨q, hq⟩ : ∃ q, q = W0.heap.size := ⟨_, rfl⟩
   have QB : Hid (w.heap.size ≤ q) := by have := BB.out.size; show _ ≤ _; omega
   have NE : Hid (g ≠ q) := by have := (Array.getElem?_eq_some_iff.1 hS.row).1; show _ ≠ _; omega
   rw [← hq] at QR ⊢
   clear hq hS BB
   have hS := hS2
   have BB := BB2
   clear hS2 BB2
   generalize W0.alloc (.cells #[.string ⟨#[]⟩, .nilFunc, .nilFunc, .nilFunc, .nilFunc, .nilFunc] 133) = W2 at *
   refine hK.out _ _ hS (fun _ => ?_)
   clear hK K
   try simp only [Act.put, zT, zO, zS]
   refine rO 0 (fun K hK => ?_)
   go_simp
   with_reducible refine (jgv _).mono ?_
   rintro e W1 ⟨m, rfl, hr, hb⟩
   obtain ⟨v1, v2, v3, v4, v5, hlk, hoc, hrv⟩ := hr.look r.kind I0.out
   have LK := zh hlk
   have OC := zh hoc
   have RV := zh hrv
   have hS2 := hS.on hb
   have BB2 := zh (BB.out.trans (hb.mono BB.out.size))
   clear hlk hoc hrv hr
   have QR2 := zh (jcp QR.out hb)
   have QN : Hid (q < W2.heap.size ∨ W1.heap.size ≤ q) := Or.inl (Array.getElem?_eq_some_iff.1 QR.out).1
   clear QR
   have QR := QR2
   clear QR2
   clear hS BB hb
   have hS := hS2
   have BB := BB2
   clear hS2 BB2
   refine hK.out _ _ hS (fun _ => ?_)
   clear hK K
   try simp only [Act.put, zT, zO, zS]
   refine rO 3 (fun K hK => ?_)
   have hl := LK.out W1 (Below.refl _ _)
   go_simp
   clear hl LK
   refine hK.out _ _ hS (fun _ => ?_)
   clear hK K
   refine tY 4 hS ?_
   refine tY 5 hS ?_
   refine tY 6 hS ?_
   simp only [Act.put, zT, zO, zS]
   refine rO 8 (fun K hK => ?_)
   refine wp_store_row 133 (.tmp 3) (.tmp 10) rfl q #[.string (Rc.nameB r.kind), v1, v2, v3, v4, v5] rfl rfl 133 _ QR.out jet rfl OC.out ?_
   have RS := zh (setRow_heap W1 q _ #[.string (Rc.nameB r.kind), v1, v2, v3, v4, v5] _ _ QR.out)
   have BB2 := zh (below_setRow BB.out QB.out #[.string (Rc.nameB r.kind), v1, v2, v3, v4, v5])
   have hS2 : RcAt (W1.setRow q #[.string (Rc.nameB r.kind), v1, v2, v3, v4, v5]) g r := ⟨(setRow_other W1 q g #[.string (Rc.nameB r.kind), v1, v2, v3, v4, v5] NE.out).trans hS.row⟩
   have RV2 : Hid (Rc.isKind r.kind = true → je6 W2.heap.size (W1.setRow q #[.string (Rc.nameB r.kind), v1, v2, v3, v4, v5]) r.kind v1 v2 v3 v4 v5) := fun h => (RV.out h).on (jax.set (jax.of _ (Below.refl _ _)) QN.out _) (by rw [jap]; exact (Nat.le_refl _))
   clear hS BB QR RV
   have hS := hS2
   clear hS2
   generalize W1.setRow q #[.string (Rc.nameB r.kind), v1, v2, v3, v4, v5] = W5 at *
   refine hK.out _ _ hS (fun _ => ?_)
   clear hK K
   refine tY 9 hS ?_
   simp only [Act.put, zT, zO, zS]
   refine wpAnyH_done (by kernel_rfl) ?_ _
   go_wp2_with fail
   go_meet
   case rel => exact ⟨q, _, v1, v2, v3, v4, v5, rfl, rfl, RS.out, ⟨_, RV2.out⟩, hS, BB2.out⟩
 case rest =>
  obtain ⟨q, nm, v1, v2, v3, v4, v5, rfl, rfl, hq, ⟨B, hrv⟩, hra, hbx⟩ := hcut
  clear RA B1
  have QR := zh hq
  have RA := zh hra
  have BB := zh hbx
  clear hq hra hbx
  cases hk : Rc.isKind r.kind with
  | false =>
   have HANS := zh (Rc.right_none hk)
   clear hk hrv
   go_wp2_with fail
   go_ret
   exact ⟨by rw [HA.out, HANS.out]; rfl, BB.out⟩
  | true =>
   have RV := zh (hrv hk)
   have HANS := zh (Rc.right_kind hk)
   clear hrv hk
   obtain ⟨g1, p1, rfl, e1, C1⟩ := RV.out.who
   obtain ⟨g2, p2, rfl, e2, C2⟩ := RV.out.n
   obtain ⟨g3, p3, rfl, e3, C3⟩ := RV.out.seq
   obtain ⟨g4, p4, rfl, e4, C4⟩ := RV.out.text
   obtain ⟨g5, p5, rfl, e5, C5⟩ := RV.out.spec
   clear RV
   have D1 := zh (fun W hW => C1 W r.who I2.out hW)
   have D2 := zh (fun W hW => C2 W r.n I3.out hW)
   have D3 := zh (fun W hW => C3 W r.seq I4.out hW)
   have D4 := zh (fun W hW => C4 W r.text HI.out.text hW)
   have D5 := zh (fun W hW => C5 W r.sp HI.out.sp hW)
   have D0 := zh (fun W => jgu r.epoch W)
   clear C1 C2 C3 C4 C5
   have K0 : Hid (jax B wc wc ∧ wc.heap.size ≤ wc.heap.size) := ⟨fun _ _ _ => rfl, Nat.le_refl _⟩
   generalize Spc.inn r.epoch 1 1099511627776 = x0 at *
   generalize Rc.whoB r.kind r.who = x1 at *
   generalize Rc.nB r.kind r.n = x2 at *
   generalize Rc.seqB r.kind r.seq = x3 at *
   generalize Rc.textB r.kind r.text = x4 at *
   generalize Rc.specB r.kind r.sp = x5 at *
   unfold kwho at D1 D2 D3
   unfold ktxt at D4
   unfold Spc.val Spc.cells at D5
   obtain ⟨d1, d2, d3, d4, d5⟩ := rucs QR.out
   obtain ⟨c0, c1, c2, c3, c4, c5, c6, c7, c8, c9, c10, c11, c12, c13, c14, c15, c16, c17, clt⟩ := RA.out.cs
   go_wp2_with (first
    | (go_at_call 86; (with_reducible refine (D0.out _).mono ?_); rintro e w1 ⟨rfl, hb⟩; clear d1 d2 d3 d4 d5 c0 c1 c2 c3 c4 c5 c6 c7 c8 c9 c10 c11 c12 c13 c14 c15 c16 c17 clt; have QR := zh (jcp QR.out hb); have RA := zh (RA.out.on hb); have K0 := zh (And.intro (jjn K0.out.1 K0.out.2 hb) (Nat.le_trans K0.out.2 hb.size)); have BB := zh (BB.out.trans (hb.mono BB.out.size)); clear hb; obtain ⟨d1, d2, d3, d4, d5⟩ := rucs QR.out; obtain ⟨c0, c1, c2, c3, c4, c5, c6, c7, c8, c9, c10, c11, c12, c13, c14, c15, c16, c17, clt⟩ := RA.out.cs; cases x0)
    | (go_at_fn g1; (with_reducible refine (D1.out _ K0.out.1).mono ?_); rintro e w1 ⟨rfl, hb⟩; clear d1 d2 d3 d4 d5 c0 c1 c2 c3 c4 c5 c6 c7 c8 c9 c10 c11 c12 c13 c14 c15 c16 c17 clt; have QR := zh (jcp QR.out hb); have RA := zh (RA.out.on hb); have K0 := zh (And.intro (jjn K0.out.1 K0.out.2 hb) (Nat.le_trans K0.out.2 hb.size)); have BB := zh (BB.out.trans (hb.mono BB.out.size)); clear hb; obtain ⟨d1, d2, d3, d4, d5⟩ := rucs QR.out; obtain ⟨c0, c1, c2, c3, c4, c5, c6, c7, c8, c9, c10, c11, c12, c13, c14, c15, c16, c17, clt⟩ := RA.out.cs; cases x1)
    | (go_at_fn g2; (with_reducible refine (D2.out _ K0.out.1).mono ?_); rintro e w1 ⟨rfl, hb⟩; clear d1 d2 d3 d4 d5 c0 c1 c2 c3 c4 c5 c6 c7 c8 c9 c10 c11 c12 c13 c14 c15 c16 c17 clt; have QR := zh (jcp QR.out hb); have RA := zh (RA.out.on hb); have K0 := zh (And.intro (jjn K0.out.1 K0.out.2 hb) (Nat.le_trans K0.out.2 hb.size)); have BB := zh (BB.out.trans (hb.mono BB.out.size)); clear hb; obtain ⟨d1, d2, d3, d4, d5⟩ := rucs QR.out; obtain ⟨c0, c1, c2, c3, c4, c5, c6, c7, c8, c9, c10, c11, c12, c13, c14, c15, c16, c17, clt⟩ := RA.out.cs; cases x2)
    | (go_at_fn g3; (with_reducible refine (D3.out _ K0.out.1).mono ?_); rintro e w1 ⟨rfl, hb⟩; clear d1 d2 d3 d4 d5 c0 c1 c2 c3 c4 c5 c6 c7 c8 c9 c10 c11 c12 c13 c14 c15 c16 c17 clt; have QR := zh (jcp QR.out hb); have RA := zh (RA.out.on hb); have K0 := zh (And.intro (jjn K0.out.1 K0.out.2 hb) (Nat.le_trans K0.out.2 hb.size)); have BB := zh (BB.out.trans (hb.mono BB.out.size)); clear hb; obtain ⟨d1, d2, d3, d4, d5⟩ := rucs QR.out; obtain ⟨c0, c1, c2, c3, c4, c5, c6, c7, c8, c9, c10, c11, c12, c13, c14, c15, c16, c17, clt⟩ := RA.out.cs; cases x3)
    | (go_at_fn g4; (with_reducible refine (D4.out _ K0.out.1).mono ?_); rintro e w1 ⟨rfl, hb⟩; clear d1 d2 d3 d4 d5 c0 c1 c2 c3 c4 c5 c6 c7 c8 c9 c10 c11 c12 c13 c14 c15 c16 c17 clt; have QR := zh (jcp QR.out hb); have RA := zh (RA.out.on hb); have K0 := zh (And.intro (jjn K0.out.1 K0.out.2 hb) (Nat.le_trans K0.out.2 hb.size)); have BB := zh (BB.out.trans (hb.mono BB.out.size)); clear hb; obtain ⟨d1, d2, d3, d4, d5⟩ := rucs QR.out; obtain ⟨c0, c1, c2, c3, c4, c5, c6, c7, c8, c9, c10, c11, c12, c13, c14, c15, c16, c17, clt⟩ := RA.out.cs; cases x4)
    | (go_at_fn g5; (with_reducible refine (D5.out _ K0.out.1).mono ?_); rintro e w1 ⟨rfl, hb⟩; clear d1 d2 d3 d4 d5 c0 c1 c2 c3 c4 c5 c6 c7 c8 c9 c10 c11 c12 c13 c14 c15 c16 c17 clt; have QR := zh (jcp QR.out hb); have RA := zh (RA.out.on hb); have K0 := zh (And.intro (jjn K0.out.1 K0.out.2 hb) (Nat.le_trans K0.out.2 hb.size)); have BB := zh (BB.out.trans (hb.mono BB.out.size)); clear hb; obtain ⟨d1, d2, d3, d4, d5⟩ := rucs QR.out; obtain ⟨c0, c1, c2, c3, c4, c5, c6, c7, c8, c9, c10, c11, c12, c13, c14, c15, c16, c17, clt⟩ := RA.out.cs; cases x5))
   all_goals
    go_ret
    exact ⟨by rw [HA.out, HANS.out]; rfl, BB.out⟩
end Go.Proofs.YtnacjhnfkkddcaaGreatDoor
