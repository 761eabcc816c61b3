/-
  A map in memory, whatever its keys and elements: block b reads as a function of keys. No program is named. No condition.
-/
import Derived.Test.YtgljepjflpijiaaBase
import Derived.Maps.OwnSet
import Derived.Maps.OwnOps
import Derived.Maps.RangeWalk
import Derived.StringKeys
import Derived.Laws.IdiomRangeMap
namespace Go.Proofs.Ytgljepjflpijiaa
open Go.RowKit Go.Maps Go.WideMaps

/-- How a map type's keys and elements are told. -/
structure MapW (P : Program) (kt et t : TypeId) (K V : Type) where
  kv : K → Value
  kl : K → Lit
  ok : K → Prop
  ev : V → Value
  ed : V → DataW Unit
  R : Value → Option (DataW Unit × List MemPlace)
  zero : V
  keyed : Keyed P kt
  ty : P.underlying t = some (.map kt et)
  key : ∀ k, ok k → keyOf P kt (kv k) = some (kl k)
  inv : ∀ v z, keyOf P kt v = some z → ∃ k, v = kv k ∧ z = kl k ∧ ok k
  inj : ∀ k k', kl k = kl k' → k = k'
  isKey : ∀ k, WideAt.IsKeyLit (kl k)
  rd : ∀ v, R (ev v) = some (ed v, [])
  rinv : ∀ x z, R x = some z → ∃ v, x = ev v ∧ z = (ed v, [])
  einj : ∀ v v', ed v = ed v' → v = v'
  hz : ∀ w, (zeroValue et).run P w = .ok (ev zero) w
namespace MapW
variable {P : Program} {kt et t : TypeId} {K V : Type} (M : MapW P kt et t K V)
/-- The datum reads as f, of n keys. -/
structure Dat (D : DataW Unit) (f : K → Option V) (n : Nat) : Prop where
  has : ∀ k, Maps.has D (M.kl k) = (f k).isSome
  at_ : ∀ k v, f k = some v → ∀ z, D.atKey (M.kl k) z = M.ed v
  size : Maps.size D = n
  tidy : Tidy D
/-- Block b is a map that reads as f, of n keys. -/
def At (w : World) (b : Nat) (f : K → Option V) (n : Nat) : Prop := ∃ D, w.ownsMap P kt M.R b n D ∧ M.Dat D f n
noncomputable def set (f : K → Option V) (k : K) (o : Option V) : K → Option V := by
  classical exact fun k' => if k' = k then o else f k'
theorem set_same (f : K → Option V) (k : K) (o : Option V) : set f k o k = o := by unfold set; simp
theorem set_other (f : K → Option V) {k k' : K} (o : Option V) (h : k' ≠ k) : set f k o k' = f k' := by unfold set; simp [h]
variable {M}
theorem owns_tight {w : World} {b n : Nat} {D : DataW Unit} (h : w.ownsMap P kt M.R b n D) : w.ownsMap P kt M.R b (Maps.size D) D := by
  obtain ⟨es, clock, hb, F, _, rfl⟩ := h
  refine ⟨es, clock, hb, F, ?_, rfl⟩
  simp [Maps.size, length_sorted]
theorem At.of {w : World} {b n m : Nat} {D : DataW Unit} {f : K → Option V} (h : w.ownsMap P kt M.R b m D) (hd : M.Dat D f n) : M.At w b f n := ⟨D, by rw [← hd.size]; exact owns_tight h, hd⟩
theorem At.made (w : World) : M.At (w.alloc (.map #[] 0)) w.heap.size (fun _ => none) 0 := ⟨_, World.ownsMap_made w P kt M.R, fun _ => rfl, fun _ _ h => (by cases h), rfl, tidy_empty⟩
theorem At.lt {w : World} {b n : Nat} {f : K → Option V} (h : M.At w b f n) : b < w.heap.size := by
  obtain ⟨D, h1, _⟩ := h
  exact h1.lt
theorem At.keep {w w' : World} {b n : Nat} {f : K → Option V} (h : M.At w b f n) (hb : w'.heap[b]? = w.heap[b]?) : M.At w' b f n := by
  obtain ⟨D, ⟨es, clock, h1, h2⟩, hd⟩ := h
  exact ⟨D, ⟨es, clock, hb.trans h1, h2⟩, hd⟩
theorem At.on {w w' : World} {b n : Nat} {f : K → Option V} (h : M.At w b f n) (hb : Below w.heap.size w w') : M.At w' b f n := h.keep (hb.block b h.lt)
theorem At.block {w : World} {b n : Nat} {f : K → Option V} (h : M.At w b f n) : ∃ es clock, w.heap[b]? = some (.map es clock) := by
  obtain ⟨D, ⟨es, clock, h1, _⟩, _⟩ := h
  exact ⟨es, clock, h1⟩
theorem Dat.look {D : DataW Unit} {f : K → Option V} {n : Nat} (h : M.Dat D f n) (k : K) : D.atKey (M.kl k) (M.ed M.zero) = M.ed ((f k).getD M.zero) := by
  cases hf : f k with
  | none =>
    have := h.has k
    rw [hf] at this
    exact Maps.atKey_of_not_has this _
  | some v => exact h.at_ k v hf _
theorem Dat.del {D : DataW Unit} {f : K → Option V} {n : Nat} (h : M.Dat D f n) (k : K) : M.Dat (D.del (M.kl k)) (set f k none) (if (f k).isSome then n - 1 else n) := by
  refine ⟨fun k' => ?_, fun k' v hv z => ?_, ?_, h.tidy.del _⟩
  · by_cases hk : k' = k
    · subst hk; rw [set_same]; exact has_del_same
    · rw [set_other _ _ hk, has_del_other (fun e => hk (M.inj _ _ e))]; exact h.has k'
  · by_cases hk : k' = k
    · subst hk; rw [set_same] at hv; cases hv
    · rw [set_other _ _ hk] at hv
      rw [atKey_del_other (fun e => hk (M.inj _ _ e))]; exact h.at_ k' v hv z
  · have h1 := size_del (k := M.kl k) h.tidy
    rw [h.has k, h.size] at h1
    by_cases hs : (f k).isSome = true
    · rw [if_pos hs] at h1 ⊢; omega
    · rw [if_neg hs] at h1 ⊢; omega
theorem Dat.put {D : DataW Unit} {f : K → Option V} {n : Nat} (h : M.Dat D f n) (k : K) (v : V) : M.Dat (D.put (M.kl k) (M.ed v)) (set f k (some v)) (if (f k).isSome then n else n + 1) := by
  refine ⟨fun k' => ?_, fun k' u hu z => ?_, ?_, h.tidy.put (M.isKey k) _⟩
  · by_cases hk : k' = k
    · subst hk; rw [set_same]; exact has_put_same h.tidy.isMap (M.isKey _) _
    · rw [set_other _ _ hk, has_put_other (fun e => hk (M.inj _ _ e))]; exact h.has k'
  · by_cases hk : k' = k
    · subst hk
      rw [set_same] at hu
      obtain rfl := Option.some.inj hu
      exact atKey_put_same h.tidy.isMap (M.isKey _) _ _
    · rw [set_other _ _ hk] at hu
      rw [atKey_put_other (fun e => hk (M.inj _ _ e))]; exact h.at_ k' u hu z
  · have h1 := size_put (k := M.kl k) h.tidy (M.ed v)
    rw [h.has k, h.size] at h1
    exact h1
/-! The operations as equations. -/
theorem At.look {w : World} {b n : Nat} {f : K → Option V} (h : M.At w b f n) (k : K) (hk : M.ok k) : (Instr.lookup t (.map (some b)) (M.kv k) false).run P w = .ok (M.ev ((f k).getD M.zero)) w := by
  obtain ⟨D, h1, hd⟩ := h
  obtain ⟨v, ps, hrun, hv⟩ := h1.lookup M.keyed M.ty (M.hz w) (M.rd M.zero) (M.key k hk)
  obtain ⟨u, rfl, hu⟩ := M.rinv _ _ hv
  have h2 := hd.look k
  have h3 : D.atKey (M.kl k) (M.ed M.zero) = M.ed u := congrArg Prod.fst hu
  rw [M.einj _ _ (h2.symm.trans h3)]
  exact hrun
theorem At.look_ok {w : World} {b n : Nat} {f : K → Option V} (h : M.At w b f n) (k : K) (hk : M.ok k) : (Instr.lookup t (.map (some b)) (M.kv k) true).run P w = .ok (.tuple #[M.ev ((f k).getD M.zero), .bool (f k).isSome]) w := by
  obtain ⟨D, h1, hd⟩ := h
  obtain ⟨v, ps, hrun, hv⟩ := h1.look_ok M.keyed M.ty (M.hz w) (M.rd M.zero) (M.key k hk)
  obtain ⟨u, rfl, hu⟩ := M.rinv _ _ hv
  have h2 := hd.look k
  have h3 : D.atKey (M.kl k) (M.ed M.zero) = M.ed u := congrArg Prod.fst hu
  rw [hd.has k] at hrun
  rw [M.einj _ _ (h2.symm.trans h3)]
  exact hrun
theorem At.len {w : World} {b n : Nat} {f : K → Option V} (h : M.At w b f n) (ty : TypeId) : (Builtin.len_ #[t] ty #[.map (some b)]).run P w = .ok (.int .i64 (n : Nat)) w := by
  obtain ⟨D, h1, hd⟩ := h
  rw [← hd.size]
  exact h1.len M.ty ty
theorem At.put {w : World} {b n : Nat} {f : K → Option V} (h : M.At w b f n) (hn : n < maxLen) (k : K) (v : V) (hk : M.ok k) :
    ∃ w', (Instr.mapUpdate t (.map (some b)) (M.kv k) (M.ev v)).run P w = .ok () w' ∧ M.At w' b (set f k (some v)) (if (f k).isSome then n else n + 1) ∧ w.mapTurned w' b := by
  obtain ⟨D, h1, hd⟩ := h
  obtain ⟨w', hrun, h2, h3⟩ := h1.store M.keyed M.ty hn (M.key k hk) (M.rd v)
  exact ⟨w', hrun, At.of h2 (hd.put k v), h3⟩
theorem At.drop {w : World} {b n : Nat} {f : K → Option V} (h : M.At w b f n) (k : K) (hk : M.ok k) (ty : TypeId) :
    ∃ w', (Builtin.delete_ #[t, kt] ty #[.map (some b), M.kv k]).run P w = .ok (.tuple #[]) w' ∧ M.At w' b (set f k none) (if (f k).isSome then n - 1 else n) ∧ w.mapTurned w' b := by
  obtain ⟨D, h1, hd⟩ := h
  obtain ⟨w', hrun, h2, h3⟩ := h1.drop M.keyed M.ty (M.key k hk) ty
  exact ⟨w', hrun, At.of h2 (hd.del k), h3⟩
/-! A map that may not be there. -/
variable (M)
def Opt (w : World) (mo : Option Nat) (f : K → Option V) (n : Nat) : Prop :=
  match mo with
  | none => (∀ k, f k = none) ∧ n = 0
  | some m => M.At w m f n
variable {M}
theorem Opt.look {w : World} {mo : Option Nat} {n : Nat} {f : K → Option V} (h : M.Opt w mo f n) (k : K) (hk : M.ok k) : (Instr.lookup t (.map mo) (M.kv k) false).run P w = .ok (M.ev ((f k).getD M.zero)) w := by
  cases mo with
  | some m => exact At.look h k hk
  | none => rw [h.1 k]; exact Maps.look_nil false M.keyed M.ty (M.hz w) (M.key k hk)
theorem Opt.look_ok {w : World} {mo : Option Nat} {n : Nat} {f : K → Option V} (h : M.Opt w mo f n) (k : K) (hk : M.ok k) : (Instr.lookup t (.map mo) (M.kv k) true).run P w = .ok (.tuple #[M.ev ((f k).getD M.zero), .bool (f k).isSome]) w := by
  cases mo with
  | some m => exact At.look_ok h k hk
  | none => rw [h.1 k]; exact Maps.look_nil true M.keyed M.ty (M.hz w) (M.key k hk)
theorem Opt.len {w : World} {mo : Option Nat} {n : Nat} {f : K → Option V} (h : M.Opt w mo f n) (ty : TypeId) : (Builtin.len_ #[t] ty #[.map mo]).run P w = .ok (.int .i64 (n : Nat)) w := by
  cases mo with
  | some m => exact At.len h ty
  | none => rw [h.2]; exact Maps.len_nil M.ty ty
theorem Opt.keep {w w' : World} {mo : Option Nat} {n : Nat} {f : K → Option V} (h : M.Opt w mo f n) (hk : ∀ m, mo = some m → w'.heap[m]? = w.heap[m]?) : M.Opt w' mo f n := by
  cases mo with
  | some m => exact At.keep h (hk m rfl)
  | none => exact h
theorem Opt.lt {w : World} {m n : Nat} {f : K → Option V} (h : M.Opt w (some m) f n) : m < w.heap.size := At.lt (M := M) h
theorem Opt.on {w w' : World} {mo : Option Nat} {n : Nat} {f : K → Option V} (h : M.Opt w mo f n) (hb : Below w.heap.size w w') : M.Opt w' mo f n := h.keep fun m e => by subst e; exact hb.block m (Opt.lt h)
/-! A range: what was gathered of those that q holds of. -/
def Coll (M : MapW P kt et t K V) (f : K → Option V) (q : K → V → Prop) (left : Lit → Bool) (ks : List K) : Prop := ks.Nodup ∧ ∀ k, k ∈ ks ↔ (∃ v, f k = some v ∧ q k v) ∧ left (M.kl k) = false
theorem Coll.start {D : DataW Unit} {f : K → Option V} {n : Nat} (h : M.Dat D f n) (q : K → V → Prop) : M.Coll f q (Maps.has D) [] := by
  refine ⟨List.nodup_nil, fun k => ?_⟩
  simp only [List.not_mem_nil, false_iff, not_and]
  rintro ⟨v, hv, _⟩ h2
  have := h.has k
  rw [hv, h2] at this
  cases this
theorem same_kl {k x : K} [Decidable (k = x)] : (M.kl k).sameKey (M.kl x) = decide (k = x) := by
  by_cases h : k = x
  · subst h; rw [WideAt.sameKey_self (M.isKey k)]; simp
  · rw [Maps.sameKey_ne (fun e => h (M.inj _ _ e))]; simp [h]
theorem Coll.take {f : K → Option V} {q : K → V → Prop} {left : Lit → Bool} {ks : List K} (h : M.Coll f q left ks) {x : K} {v : V} (hx : left (M.kl x) = true) (hv : f x = some v) (hq : q x v) : M.Coll f q (fun z => left z && !z.sameKey (M.kl x)) (ks ++ [x]) := by
  classical
  have hnew : x ∉ ks := fun hm => by have := ((h.2 x).1 hm).2; rw [hx] at this; cases this
  refine ⟨List.nodup_append.2 ⟨h.1, by simp, fun a ha b hb => by simp at hb; subst hb; exact fun e => hnew (e ▸ ha)⟩, fun k => ?_⟩
  rw [List.mem_append, h.2 k]
  show _ ↔ _ ∧ (left (M.kl k) && !(M.kl k).sameKey (M.kl x)) = false
  rw [same_kl]
  by_cases hk : k = x
  · subst hk; simp [hv, hq]
  · simp [hk]
theorem Coll.pass {f : K → Option V} {q : K → V → Prop} {left : Lit → Bool} {ks : List K} (h : M.Coll f q left ks) {x : K} {v : V} (hv : f x = some v) (hq : ¬ q x v) : M.Coll f q (fun z => left z && !z.sameKey (M.kl x)) ks := by
  classical
  refine ⟨h.1, fun k => ?_⟩
  rw [h.2 k]
  show _ ↔ _ ∧ (left (M.kl k) && !(M.kl k).sameKey (M.kl x)) = false
  rw [same_kl]
  by_cases hk : k = x
  · subst hk; simp [hv, hq]
  · simp [hk]
theorem Coll.all {f : K → Option V} {q : K → V → Prop} {left : Lit → Bool} {ks : List K} (h : M.Coll f q left ks) (hl : ∀ z, left z = false) : ks.Nodup ∧ ∀ k, k ∈ ks ↔ ∃ v, f k = some v ∧ q k v :=
  ⟨h.1, fun k => by rw [h.2 k]; simp [hl]⟩
/-- What an entry of the map holds, whose key is still to come. -/
theorem Dat.entry {D : DataW Unit} {f : K → Option V} {n : Nat} (h : M.Dat D f n) {x : K} {v : V} (hat : ∀ z, D.atKey (M.kl x) z = M.ed v) : f x = some v := by
  have h1 := h.has x
  rw [Maps.has_true_of_atKey hat] at h1
  cases hf : f x with
  | none => rw [hf] at h1; cases h1
  | some u => rw [M.einj _ _ ((h.at_ x u hf (M.ed v)).symm.trans (hat _))]
theorem Opt.range_nil {w : World} {n : Nat} {f : K → Option V} (_ : M.Opt w none f n) : (Instr.range t (.map none)).run P w = .ok (.pointer (some ⟨w.heap.size, 0, none⟩)) (w.alloc (.mapIter none 0 #[] 0)) := run_range_nilMap w _ _ _ M.ty
variable {w : World} {ops : Array Oper} {rest : List Oper} {o : Oper} {a : Act} {Q : Exit → Act → World → Prop}
/-- 'range m'. -/
theorem At.range {b n : Nat} {f : K → Option V} (h : M.At w b f n) (hg : o.guard = none) (m : Operand) (hop : o.op = Op.range t m) (hm : a.eval m = .map (some b))
    (hK : ∀ D w', M.Dat D f n → w'.ranges P kt M.R b w.heap.size n D (Maps.has D) n → w.grownBy w' none → w'.heap.size = w.heap.size + 1 → wpList P ops Q rest (a.put o.dst (.pointer (some ⟨w.heap.size, 0, none⟩))) w') : wpList P ops Q (o :: rest) a w := by
  obtain ⟨D, h1, hd⟩ := h
  exact wpList_range_own w hg m t hop kt et M.keyed M.ty M.R b n D hm h1 fun w' h2 h3 h4 => hK D w' hd (by rw [hd.size] at h2; exact h2) h3 h4
/-- The loop's step. -/
theorem Dat.next {D : DataW Unit} {f : K → Option V} {n : Nat} (hd : M.Dat D f n) (hg : o.guard = none) (it : Operand) (hop : o.op = Op.next it false) {b r cnt : Nat} {left : Lit → Bool} (hit : a.eval it = .pointer (some ⟨r, 0, none⟩)) (h : w.ranges P kt M.R b r n D left cnt)
    (hDone : cnt = 0 → (∀ z, left z = false) → wpList P ops Q rest (a.put o.dst (.tuple #[.bool false])) w)
    (hMore : ∀ (x : K) (v : V) (w' : World) (cnt' : Nat), M.ok x → left (M.kl x) = true → f x = some v → w'.ranges P kt M.R b r n D (fun z => left z && !z.sameKey (M.kl x)) cnt' → cnt' < cnt →
      w.grownBy w' (some r) → w'.heap.size = w.heap.size → (Instr.entry (.pointer (some ⟨r, 0, none⟩))).run P w' = .ok (.tuple #[M.kv x, M.ev v]) w' → wpList P ops Q rest (a.put o.dst (.tuple #[.bool true, M.kv x, M.ev v])) w') :
    wpList P ops Q (o :: rest) a w := by
  refine wpList_next_ranges w hg it hop kt M.keyed M.R M.kv M.ev (fun v z hv => by obtain ⟨k, hk, _⟩ := M.inv v z hv; exact ⟨k, hk⟩) (fun x z hx => by obtain ⟨v, hv, _⟩ := M.rinv x z hx; exact ⟨v, hv⟩) b r n D left cnt hit h hDone ?_
  intro x v z y w' cnt' hk hl hv hat hrg hlt hgr hsz hen
  have hy : y = (M.ed v, []) := by rw [M.rd v] at hv; exact (Option.some.inj hv).symm
  subst hy
  obtain ⟨x', hx', rfl, hok⟩ := M.inv _ _ hk
  have hfx := hd.entry hat
  rw [hx'] at hen ⊢
  exact hMore x' v w' cnt' hok hl hfx hrg hlt hgr hsz hen
end MapW
end Go.Proofs.Ytgljepjflpijiaa
