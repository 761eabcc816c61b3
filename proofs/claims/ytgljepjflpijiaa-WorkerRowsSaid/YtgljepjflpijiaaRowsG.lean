/-
  Slices of structs: an argument's elements, each told by what its cells read as; rows of a call's own. No program is named. No condition.
-/
import Derived.Test.YtgljepjflpijiaaBase
import Derived.Laws.BytesArg
import Derived.Maps.AppendAt
import Derived.Deep.Slices
namespace Go.Proofs.Ytgljepjflpijiaa
open Go.RowKit Go.Deep
structure SlR {T : Type} (K : Nat) (E : World → List Value → T → Prop) (w : World) (A : Option Addr) (n c : Nat) (ts : List T) : Prop where
  rd : ∀ j t, ts[j]? = some t → ∃ b o cs, A = some ⟨b, o, none⟩ ∧ b < w.heap.size ∧ cs.length = K ∧ (∀ i, i < K → w.cell? ⟨b, o + j * K + i, none⟩ = cs[i]?) ∧ E w cs t
  len : n = ts.length
  cap : n ≤ c
  max : c ≤ maxLen
  nil : A = none → c = 0
section
variable {T : Type} {K : Nat} {E : World → List Value → T → Prop}
theorem SlR.none_ (w : World) : SlR K E w none 0 0 [] := ⟨by simp, rfl, Nat.le_refl _, Nat.zero_le _, fun _ => rfl⟩
theorem SlR.on (hE : ∀ w w' cs t, Below w.heap.size w w' → E w cs t → E w' cs t) {w w' : World} {A : Option Addr} {n c : Nat} {ts : List T} (h : SlR K E w A n c ts) (hb : Below w.heap.size w w') : SlR K E w' A n c ts :=
  ⟨fun j t hj => by
    obtain ⟨b, o, cs, h1, h2, h3, h4, h5⟩ := h.rd j t hj
    exact ⟨b, o, cs, h1, Nat.lt_of_lt_of_le h2 hb.size, h3, fun i hi => (hb.cell (p := ⟨b, o + j * K + i, none⟩) h2).trans (h4 i hi), hE _ _ _ _ hb h5⟩, h.len, h.cap, h.max, h.nil⟩
theorem list_of {n : Nat} {p : Nat → T → Prop} (h : ∀ i, i < n → ∃ x, p i x) : ∃ ts : List T, ts.length = n ∧ ∀ j t, ts[j]? = some t → p j t := by
  induction n with
  | zero => exact ⟨[], rfl, by simp⟩
  | succ n ih =>
    obtain ⟨ts, h1, h2⟩ := ih fun i hi => h i (by omega)
    obtain ⟨x, hx⟩ := h n (by omega)
    refine ⟨ts ++ [x], by simp [h1], fun j t hj => ?_⟩
    rcases Nat.lt_or_ge j ts.length with hlt | hge
    · rw [List.getElem?_append_left hlt] at hj; exact h2 j t hj
    · have hjl : j < (ts ++ [x]).length := (List.getElem?_eq_some_iff.1 hj).1
      rw [List.length_append, List.length_singleton] at hjl
      obtain rfl : j = n := by omega
      rw [List.getElem?_append_right hge, show j - ts.length = 0 from by omega] at hj
      simp at hj; subst hj; exact hx
theorem slr_of {H : Type} {enc : TypeId × Value → H} {P : Program} {w : World} {held : Bool} {t e : TypeId} {fuel : Nat} {A : Option Addr} {n c : Nat} {x : DataW H × List MemPlace} (ht : P.underlying t = some (.slice e)) (hK : P.cellsOf e = K) (hK0 : 0 < K)
    (hE : ∀ f cs y, DataW.trod enc P w 0 (fun _ => true) held f e cs = some y → cs.length = K → ∃ t, E w cs t) (h : DataW.trod enc P w 0 (fun _ => true) held fuel t [.slice A n c] = some x) : ∃ ts, SlR K E w A n c ts := by
  rcases open_slice ht h with ⟨h1, _⟩ | ⟨a, len, cap, m, f, D, Pl, h1, _, hl, hm, hmm, _, hi⟩
  · simp only [List.cons.injEq, Value.slice.injEq, and_true] at h1
    obtain ⟨rfl, rfl, rfl⟩ := h1
    exact ⟨[], SlR.none_ w⟩
  · simp only [List.cons.injEq, Value.slice.injEq, and_true] at h1
    obtain ⟨rfl, rfl, rfl⟩ := h1
    simp only [if_true] at hmm
    rw [hK] at hi
    have each : ∀ i, i < n → ∃ y : List Value × T, y.1.length = K ∧ (∀ k, k < K → w.cell? ((a.add (i * K)).add k) = y.1[k]?) ∧ E w y.1 y.2 := by
      intro i hin
      obtain ⟨cs, hc, ht'⟩ := hi i (by omega)
      obtain ⟨_, hcl, hat⟩ := World.cells?_some hc
      obtain ⟨y, hy⟩ := hE _ _ _ ht' hcl
      exact ⟨(cs, y), hcl, hat, hy⟩
    obtain ⟨ys, hyl, hys⟩ := list_of each
    refine ⟨ys.map (·.2), fun j t hj => ?_, by simp [hyl], hl, hm, fun h => by cases h⟩
    rw [List.getElem?_map] at hj
    obtain ⟨y, hy, rfl⟩ := Option.map_eq_some_iff.1 hj
    obtain ⟨h2, h3, h4⟩ := hys j y hy
    obtain ⟨b, o, spot⟩ := a
    have hk0 := h3 0 hK0
    rw [List.getElem?_eq_getElem (by omega)] at hk0
    have hspot : spot = none := by
      have hyj : j < ys.length := (List.getElem?_eq_some_iff.1 hy).1
      obtain ⟨q2, q3, _⟩ := hys 0 _ (List.getElem?_eq_getElem (show 0 < ys.length by omega))
      have q0 := q3 0 hK0
      rw [List.getElem?_eq_getElem (by omega)] at q0
      simpa [Addr.add] using World.cell?_spot q0
    subst hspot
    have hadd : ∀ k, ((⟨b, o, none⟩ : Addr).add (j * K)).add k = ⟨b, o + j * K + k, none⟩ := by
      intro k; rw [add_add]; unfold Addr.add; split
      · rename_i h0
        congr 1
        omega
      · simp [Nat.add_assoc]
    refine ⟨b, o, y.1, rfl, ?_, h2, fun k hk => by rw [← hadd]; exact h3 k hk, h4⟩
    have := block_lt_of_cell hk0
    rw [hadd] at this
    exact this
def OwnR (K : Nat) (E : World → List Value → T → Prop) (e : TypeId) (w0 w : World) (B : Nat) (v : Value) (ts : List T) : Prop :=
  ∃ xs, w.ownsRow B e K v ts.length xs ∧ ∀ j t, ts[j]? = some t → ∃ cs, cs.length = K ∧ (∀ i, i < K → xs[j * K + i]? = cs[i]?) ∧ E w0 cs t
theorem OwnR.none_ (e : TypeId) (w0 w : World) (B : Nat) : OwnR K E e w0 w B (.slice none 0 0) [] := ⟨[], World.ownsRow_nil _ _ _ _, by simp⟩
theorem OwnR.below {e : TypeId} {w0 w w' : World} {B : Nat} {v : Value} {ts : List T} (h : OwnR K E e w0 w B v ts) (hb : Below w.heap.size w w') : OwnR K E e w0 w' B v ts := by
  obtain ⟨xs, h1, h2⟩ := h
  exact ⟨xs, own_below h1 hb, h2⟩
theorem OwnR.kept {e : TypeId} {w0 w w' : World} {B g : Nat} {v : Value} {ts : List T} (h : OwnR K E e w0 w B v ts) (hg : w.grownBy w' (some g)) (hv : v.ownBlock ≠ some g) : OwnR K E e w0 w' B v ts := by
  obtain ⟨xs, h1, h2⟩ := h
  exact ⟨xs, h1.kept hg (.inr hv), h2⟩
theorem OwnR.lt {e : TypeId} {w0 w : World} {B : Nat} {v : Value} {ts : List T} (h : OwnR K E e w0 w B v ts) : ∀ k, v.ownBlock = some k → B ≤ k ∧ k < w.heap.size := by
  obtain ⟨xs, h1, _⟩ := h
  exact h1.lt
theorem OwnR.slr {e : TypeId} {w0 w : World} {B : Nat} {v : Value} {ts : List T} (hE : ∀ w w' cs t, Below w.heap.size w w' → E w cs t → E w' cs t) (h : OwnR K E e w0 w B v ts) (hb : Below w0.heap.size w0 w) : ∃ A c, v = .slice A ts.length c ∧ SlR K E w A ts.length c ts := by
  obtain ⟨xs, h1, h2⟩ := h
  rcases h1.2 with ⟨rfl, h0⟩ | ⟨g, cap, cur, rfl, _, hg, hl, hm, hs, _⟩
  · obtain rfl : ts = [] := List.eq_nil_of_length_eq_zero h0
    exact ⟨none, 0, rfl, SlR.none_ w⟩
  · refine ⟨_, cap, rfl, fun j t hj => ?_, rfl, hl, hm, fun h => by cases h⟩
    obtain ⟨cs, h3, h4, h5⟩ := h2 j t hj
    have hjl : j < ts.length := (List.getElem?_eq_some_iff.1 hj).1
    refine ⟨g, 0, cs, rfl, (Array.getElem?_eq_some_iff.1 hg).1, h3, fun i hi => ?_, hE _ _ _ _ hb h5⟩
    have : j * K + i < ts.length * K := by
      have := Nat.mul_le_mul_right K (show j + 1 ≤ ts.length by omega)
      rw [Nat.succ_mul] at this
      omega
    rw [Nat.zero_add, h1.cellAt _ this, h4 i hi]
theorem OwnR.keep {e : TypeId} {w0 w w' : World} {B : Nat} {v : Value} {ts : List T} (h : OwnR K E e w0 w B v ts) (hk : ∀ k, v.ownBlock = some k → w'.heap[k]? = w.heap[k]?) : OwnR K E e w0 w' B v ts := by
  obtain ⟨xs, h1, h2⟩ := h
  refine ⟨xs, ⟨h1.1, ?_⟩, h2⟩
  rcases h1.2 with h3 | ⟨g, cap, cur, rfl, hg, hh, r⟩
  · exact .inl h3
  · exact .inr ⟨g, cap, cur, rfl, hg, (hk g rfl).trans hh, r⟩
theorem OwnR.at_ {e : TypeId} {w0 w : World} {B n c : Nat} {A : Option Addr} {ts : List T} (h : OwnR K E e w0 w B (.slice A n c) ts) {j : Nat} {t : T} (hj : ts[j]? = some t) :
    ∃ g cs, A = some ⟨g, 0, none⟩ ∧ cs.length = K ∧ (∀ i, i < K → w.cell? ⟨g, j * K + i, none⟩ = cs[i]?) ∧ E w0 cs t := by
  obtain ⟨xs, h1, h2⟩ := h
  obtain ⟨cs, h3, h4, h5⟩ := h2 j t hj
  have hjl : j < ts.length := (List.getElem?_eq_some_iff.1 hj).1
  obtain ⟨g, c', e'⟩ : ∃ g c', Value.slice A n c = .slice (some ⟨g, 0, none⟩) ts.length c' := by
    rcases h1.2 with ⟨_, h0⟩ | ⟨g, cap, cur, hv, _⟩
    · omega
    · exact ⟨g, cap, hv⟩
  injection e' with e1 e2 e3
  subst e1 e3
  refine ⟨g, cs, rfl, h3, fun i hi => ?_, h5⟩
  have : j * K + i < ts.length * K := by
    have := Nat.mul_le_mul_right K (show j + 1 ≤ ts.length by omega)
    rw [Nat.succ_mul] at this
    omega
  subst e2
  rw [h1.cellAt _ this, h4 i hi]
theorem OwnR.form {e : TypeId} {w0 w : World} {B : Nat} {v : Value} {ts : List T} (h : OwnR K E e w0 w B v ts) : ∃ A c, v = .slice A ts.length c := by
  obtain ⟨xs, h1, _⟩ := h
  rcases h1.2 with ⟨rfl, h0⟩ | ⟨g, cap, cur, rfl, _⟩
  · exact ⟨none, 0, by rw [h0]⟩
  · exact ⟨_, cap, rfl⟩
theorem OwnR.len {e : TypeId} {w0 w : World} {B n c : Nat} {A : Option Addr} {ts : List T} (h : OwnR K E e w0 w B (.slice A n c) ts) : n = ts.length ∧ n ≤ c ∧ c ≤ maxLen := by
  obtain ⟨xs, h1, _⟩ := h
  rcases h1.2 with ⟨h2, h3⟩ | ⟨g, cap, cur, h2, _, _, h3, h4, _⟩
  · injection h2 with _ h4 h5; subst h4 h5; exact ⟨h3.symm, Nat.le_refl _, Nat.zero_le _⟩
  · injection h2 with _ h5 h6; subst h5 h6; exact ⟨rfl, h3, h4⟩
theorem wpList_append_elem {P : Program} {e sl : TypeId} {i0 : TypeInfo} {z : Value} {by_ : Nat} (hsl : P.underlying sl = some (.slice e)) (hi0 : P.info? e = some i0) (hz0 : i0.zero = some z) (hz1 : i0.size = K) (hz2 : i0.bytes = by_) (hzs : z.cells.size = K) (hK0 : 0 < K)
    {w0 w : World} {ops : Array Oper} {rest : List Oper} {op : Oper} {a : Act} {Q : Exit → Act → World → Prop} (hgd : op.guard = none) (s x : Operand)
    (ho : op.op = .call { callee := .builtin .append, args := #[s, x], argTypes := #[sl, sl] })
    (base : Nat) (v : Value) (ts : List T) (hs : a.eval s = v) (hown : OwnR K E e w0 w base v ts) (cs : List Value) (t : T) (hcl : cs.length = K) (h1c : ∀ u ∈ cs, u.oneCell' = true) (hE : E w0 cs t) (hx : a.eval x = .slice (some ⟨w.heap.size, 0, none⟩) 1 1)
    (hlen : ts.length + 1 ≤ maxLen) (hbytes : (ts.length + 1) * by_ ≤ 140737488355328) (hB : base ≤ w.heap.size)
    (h : ∀ v' w', OwnR K E e w0 w' base v' (ts ++ [t]) → Below base w w' → w.grownBy w' v.ownBlock → wpList P ops Q rest (a.put op.dst v') w') : wpList P ops Q (op :: rest) a (w.alloc (.cells cs.toArray e)) := by
  obtain ⟨xs, ho1, hf⟩ := hown
  refine wpList_append_own _ hgd s x sl ho base e i0 z K by_ hsl hi0 hz0 hz1 hz2 hzs hK0 v ts.length xs hs (ho1.alloc _) ⟨w.heap.size, 0, none⟩ 1 1 cs hx (by omega) ?_ h1c hlen hbytes (by simp; omega) ?_
  · intro j u hu
    have : ((⟨w.heap.size, 0, none⟩ : Addr).add j) = ⟨w.heap.size, j, none⟩ := by unfold Addr.add; split <;> simp_all
    rw [this, World.cell?_alloc_at _ _ _ _ rfl, List.getElem?_toArray]; exact hu
  · intro v' w' h1 h2 _
    have hg : w.grownBy w' v.ownBlock := grown_trans (World.grownBy_alloc w _ _) h2
    refine h v' w' ⟨xs ++ cs, by rw [List.length_append]; exact h1, fun j t' hj => ?_⟩ ((Below.refl base w).grown hg hB (own_base ho1)) hg
    have hxl := ho1.1
    rcases Nat.lt_or_ge j ts.length with hlt | hge
    · rw [List.getElem?_append_left hlt] at hj
      obtain ⟨cs', h3, h4, h5⟩ := hf j t' hj
      refine ⟨cs', h3, fun i hi => ?_, h5⟩
      have : j * K + i < ts.length * K := by
        have := Nat.mul_le_mul_right K (show j + 1 ≤ ts.length by omega)
        rw [Nat.succ_mul] at this
        omega
      rw [List.getElem?_append_left (by omega)]
      exact h4 i hi
    · have hjl : j < (ts ++ [t]).length := (List.getElem?_eq_some_iff.1 hj).1
      rw [List.length_append, List.length_singleton] at hjl
      obtain rfl : j = ts.length := by omega
      rw [List.getElem?_append_right hge, Nat.sub_self] at hj
      simp at hj; subst hj
      refine ⟨cs, hcl, fun i hi => ?_, hE⟩
      rw [List.getElem?_append_right (by omega), show ts.length * K + i - xs.length = i from by omega]
theorem wp_append_elem {P : Program} {e sl : TypeId} {i0 : TypeInfo} {z : Value} {by_ : Nat} (hsl : P.underlying sl = some (.slice e)) (hi0 : P.info? e = some i0) (hz0 : i0.zero = some z) (hz1 : i0.size = K) (hz2 : i0.bytes = by_) (hzs : z.cells.size = K) (hK0 : 0 < K)
    {w0 w : World} {op : Oper} {a : Act} {C : Act → World → Prop} {Q : Exit → Act → World → Prop} (s x : Operand)
    (ho : op.op = .call { callee := .builtin .append, args := #[s, x], argTypes := #[sl, sl] })
    (base : Nat) (v : Value) (ts : List T) (hs : a.eval s = v) (hown : OwnR K E e w0 w base v ts) (cs : List Value) (t : T) (hcl : cs.length = K) (h1c : ∀ u ∈ cs, u.oneCell' = true) (hE : E w0 cs t) (hx : a.eval x = .slice (some ⟨w.heap.size, 0, none⟩) 1 1)
    (hlen : ts.length + 1 ≤ maxLen) (hbytes : (ts.length + 1) * by_ ≤ 140737488355328) (hB : base ≤ w.heap.size)
    (h : ∀ v' w', OwnR K E e w0 w' base v' (ts ++ [t]) → Below base w w' → w.grownBy w' v.ownBlock → C (a.put op.dst v') w') : op.wp P a (w.alloc (.cells cs.toArray e)) C Q := by
  obtain ⟨xs, ho1, hf⟩ := hown
  refine wp_append_own _ s x sl ho base e i0 z K by_ hsl hi0 hz0 hz1 hz2 hzs hK0 v ts.length xs hs (ho1.alloc _) ⟨w.heap.size, 0, none⟩ 1 1 cs hx (by omega) ?_ h1c hlen hbytes (by simp; omega) ?_
  · intro j u hu
    have : ((⟨w.heap.size, 0, none⟩ : Addr).add j) = ⟨w.heap.size, j, none⟩ := by unfold Addr.add; split <;> simp_all
    rw [this, World.cell?_alloc_at _ _ _ _ rfl, List.getElem?_toArray]; exact hu
  · intro v' w' h1 h2 _
    have hg : w.grownBy w' v.ownBlock := grown_trans (World.grownBy_alloc w _ _) h2
    refine h v' w' ⟨xs ++ cs, by rw [List.length_append]; exact h1, fun j t' hj => ?_⟩ ((Below.refl base w).grown hg hB (own_base ho1)) hg
    have hxl := ho1.1
    rcases Nat.lt_or_ge j ts.length with hlt | hge
    · rw [List.getElem?_append_left hlt] at hj
      obtain ⟨cs', h3, h4, h5⟩ := hf j t' hj
      refine ⟨cs', h3, fun i hi => ?_, h5⟩
      have : j * K + i < ts.length * K := by
        have := Nat.mul_le_mul_right K (show j + 1 ≤ ts.length by omega)
        rw [Nat.succ_mul] at this
        omega
      rw [List.getElem?_append_left (by omega)]
      exact h4 i hi
    · have hjl : j < (ts ++ [t]).length := (List.getElem?_eq_some_iff.1 hj).1
      rw [List.length_append, List.length_singleton] at hjl
      obtain rfl : j = ts.length := by omega
      rw [List.getElem?_append_right hge, Nat.sub_self] at hj
      simp at hj; subst hj
      refine ⟨cs, hcl, fun i hi => ?_, hE⟩
      rw [List.getElem?_append_right (by omega), show ts.length * K + i - xs.length = i from by omega]
structure Stab (w0 : World) (E : World → List Value → T → Prop) (G : List Value → Option Nat) : Prop where
  keep : ∀ w w' cs t, E w cs t → w.heap.size ≤ w'.heap.size → (∀ i, i < w0.heap.size ∨ G cs = some i → i < w.heap.size → w'.heap[i]? = w.heap[i]?) → E w' cs t
  lt : ∀ w cs t, E w cs t → ∀ i, G cs = some i → i < w.heap.size
def OwnX (K : Nat) (E : World → List Value → T → Prop) (G : List Value → Option Nat) (e : TypeId) (w : World) (B : Nat) (v : Value) (ts : List T) : Prop :=
  ∃ xs, w.ownsRow B e K v ts.length xs ∧ ∀ j t, ts[j]? = some t → ∃ cs, cs.length = K ∧ (∀ i, i < K → xs[j * K + i]? = cs[i]?) ∧ E w cs t ∧ ∀ i, G cs = some i → v.ownBlock ≠ some i
section
variable {G : List Value → Option Nat} {e : TypeId} {w0 w w' : World} {B : Nat} {v : Value} {ts : List T}
theorem OwnX.none_ (e : TypeId) (w : World) (B : Nat) : OwnX K E G e w B (.slice none 0 0) ([] : List T) := ⟨[], World.ownsRow_nil _ _ _ _, by simp⟩
theorem OwnX.below (hst : Stab w0 E G) (h : OwnX K E G e w B v ts) (hb : Below w.heap.size w w') : OwnX K E G e w' B v ts := by
  obtain ⟨xs, h1, h2⟩ := h
  refine ⟨xs, own_below h1 hb, fun j t hj => ?_⟩
  obtain ⟨cs, h3, h4, h5, h6⟩ := h2 j t hj
  exact ⟨cs, h3, h4, hst.keep _ _ _ _ h5 hb.size (fun i _ hi => hb.block i hi), h6⟩
theorem OwnX.keep (hst : Stab w0 E G) (hGB : ∀ cs t, E w cs t → ∀ i, G cs = some i → B ≤ i) (h : OwnX K E G e w B v ts) (hsz : w.heap.size ≤ w'.heap.size) (hk : ∀ i, i < w0.heap.size ∨ B ≤ i → i < w.heap.size → w'.heap[i]? = w.heap[i]?) : OwnX K E G e w' B v ts := by
  obtain ⟨xs, h1, h2⟩ := h
  refine ⟨xs, ⟨h1.1, ?_⟩, fun j t hj => ?_⟩
  · rcases h1.2 with h3 | ⟨g, cap, cur, rfl, hg, hh, r⟩
    · exact .inl h3
    · exact .inr ⟨g, cap, cur, rfl, hg, (hk g (.inr hg) (Array.getElem?_eq_some_iff.1 hh).1).trans hh, r⟩
  · obtain ⟨cs, h3, h4, h5, h6⟩ := h2 j t hj
    exact ⟨cs, h3, h4, hst.keep _ _ _ _ h5 hsz (fun i hi hlt => hk i (hi.imp id fun hg => hGB _ _ h5 i hg) hlt), h6⟩
theorem OwnX.lt (h : OwnX K E G e w B v ts) : ∀ k, v.ownBlock = some k → B ≤ k ∧ k < w.heap.size := by
  obtain ⟨xs, h1, _⟩ := h
  exact h1.lt
theorem OwnX.form (h : OwnX K E G e w B v ts) : ∃ A c, v = .slice A ts.length c := by
  obtain ⟨xs, h1, _⟩ := h
  rcases h1.2 with ⟨rfl, h0⟩ | ⟨g, cap, cur, rfl, _⟩
  · exact ⟨none, 0, by rw [h0]⟩
  · exact ⟨_, cap, rfl⟩
theorem OwnX.len {n c : Nat} {A : Option Addr} (h : OwnX K E G e w B (.slice A n c) ts) : n = ts.length ∧ n ≤ c ∧ c ≤ maxLen := by
  obtain ⟨xs, h1, _⟩ := h
  rcases h1.2 with ⟨h2, h3⟩ | ⟨g, cap, cur, h2, _, _, h3, h4, _⟩
  · injection h2 with _ h4 h5; subst h4 h5; exact ⟨h3.symm, Nat.le_refl _, Nat.zero_le _⟩
  · injection h2 with _ h5 h6; subst h5 h6; exact ⟨rfl, h3, h4⟩
theorem OwnX.at_ {n c : Nat} {A : Option Addr} (h : OwnX K E G e w B (.slice A n c) ts) {j : Nat} {t : T} (hj : ts[j]? = some t) :
    ∃ g cs, A = some ⟨g, 0, none⟩ ∧ cs.length = K ∧ (∀ i, i < K → w.cell? ⟨g, j * K + i, none⟩ = cs[i]?) ∧ E w cs t ∧ ∀ i, G cs = some i → g ≠ i := by
  obtain ⟨xs, h1, h2⟩ := h
  obtain ⟨cs, h3, h4, h5, h6⟩ := h2 j t hj
  have hjl : j < ts.length := (List.getElem?_eq_some_iff.1 hj).1
  obtain ⟨g, c', e'⟩ : ∃ g c', Value.slice A n c = .slice (some ⟨g, 0, none⟩) ts.length c' := by
    rcases h1.2 with ⟨_, h0⟩ | ⟨g, cap, cur, hv, _⟩
    · omega
    · exact ⟨g, cap, hv⟩
  injection e' with e1 e2 e3
  subst e1 e3
  refine ⟨g, cs, rfl, h3, fun i hi => ?_, h5, fun i hi e => h6 i hi (by rw [e]; rfl)⟩
  have : j * K + i < ts.length * K := by
    have := Nat.mul_le_mul_right K (show j + 1 ≤ ts.length by omega)
    rw [Nat.succ_mul] at this
    omega
  subst e2
  rw [h1.cellAt _ this, h4 i hi]
theorem wpList_append_elemX {P : Program} {sl : TypeId} {i0 : TypeInfo} {z : Value} {by_ : Nat} (hsl : P.underlying sl = some (.slice e)) (hi0 : P.info? e = some i0) (hz0 : i0.zero = some z) (hz1 : i0.size = K) (hz2 : i0.bytes = by_) (hzs : z.cells.size = K) (hK0 : 0 < K)
    (hst : Stab w0 E G) {ops : Array Oper} {rest : List Oper} {op : Oper} {a : Act} {Q : Exit → Act → World → Prop} (hgd : op.guard = none) (s x : Operand)
    (ho : op.op = .call { callee := .builtin .append, args := #[s, x], argTypes := #[sl, sl] })
    (base : Nat) (v : Value) (ts : List T) (hs : a.eval s = v) (hown : OwnX K E G e w base v ts) (cs : List Value) (t : T) (hcl : cs.length = K) (h1c : ∀ u ∈ cs, u.oneCell' = true) (hE : E w cs t) (hG : ∀ i, G cs = some i → v.ownBlock ≠ some i) (hx : a.eval x = .slice (some ⟨w.heap.size, 0, none⟩) 1 1)
    (hlen : ts.length + 1 ≤ maxLen) (hbytes : (ts.length + 1) * by_ ≤ 140737488355328) (hB : base ≤ w.heap.size) (hB0 : w0.heap.size ≤ base)
    (h : ∀ v' w', OwnX K E G e w' base v' (ts ++ [t]) → Below base w w' → w.grownBy w' v.ownBlock → wpList P ops Q rest (a.put op.dst v') w') : wpList P ops Q (op :: rest) a (w.alloc (.cells cs.toArray e)) := by
  obtain ⟨xs, ho1, hf⟩ := hown
  refine wpList_append_own_at (w.alloc (.cells cs.toArray e)) hgd s x sl ho base e i0 z K by_ hsl hi0 hz0 hz1 hz2 hzs hK0 v ts.length xs hs (ho1.alloc _) ⟨w.heap.size, 0, none⟩ 1 1 cs hx (by omega) ?_ h1c hlen hbytes (by simp; omega) ?_
  · intro j u hu
    have : ((⟨w.heap.size, 0, none⟩ : Addr).add j) = ⟨w.heap.size, j, none⟩ := by unfold Addr.add; split <;> simp_all
    rw [this, World.cell?_alloc_at _ _ _ _ rfl, List.getElem?_toArray]; exact hu
  · intro v' w' h1 h2 _ hvo
    have hg : w.grownBy w' v.ownBlock := grown_trans (World.grownBy_alloc w _ _) h2
    have hsz : (w.alloc (.cells cs.toArray e)).heap.size = w.heap.size + 1 := by simp
    have hstay : ∀ cs' t', E w cs' t' → (∀ i, G cs' = some i → v.ownBlock ≠ some i) → E w' cs' t' ∧ ∀ i, G cs' = some i → v'.ownBlock ≠ some i := by
      intro cs' t' h5 h6
      refine ⟨hst.keep _ _ _ _ h5 hg.size (fun i hi hlt => hg.block i hlt (fun ee => ?_)), fun i hi ee => ?_⟩
      · rcases hi with hi | hi
        · have := own_base ho1 i ee.symm; omega
        · exact h6 i hi ee.symm
      · have h7 := hst.lt _ _ _ h5 i hi
        rcases hvo with h8 | h8
        · rw [h8] at ee; exact h6 i hi ee
        · rw [h8] at ee; injection ee with ee; omega
    refine h v' w' ⟨xs ++ cs, by rw [List.length_append]; exact h1, fun j t' hj => ?_⟩ ((Below.refl base w).grown hg hB (own_base ho1)) hg
    have hxl := ho1.1
    rcases Nat.lt_or_ge j ts.length with hlt | hge
    · rw [List.getElem?_append_left hlt] at hj
      obtain ⟨cs', h3, h4, h5, h6⟩ := hf j t' hj
      obtain ⟨h9, h10⟩ := hstay cs' t' h5 h6
      refine ⟨cs', h3, fun i hi => ?_, h9, h10⟩
      have : j * K + i < ts.length * K := by
        have := Nat.mul_le_mul_right K (show j + 1 ≤ ts.length by omega)
        rw [Nat.succ_mul] at this
        omega
      rw [List.getElem?_append_left (by omega)]
      exact h4 i hi
    · have hjl : j < (ts ++ [t]).length := (List.getElem?_eq_some_iff.1 hj).1
      rw [List.length_append, List.length_singleton] at hjl
      obtain rfl : j = ts.length := by omega
      rw [List.getElem?_append_right hge, Nat.sub_self] at hj
      simp at hj; subst hj
      obtain ⟨h9, h10⟩ := hstay cs t hE hG
      refine ⟨cs, hcl, fun i hi => ?_, h9, h10⟩
      rw [List.getElem?_append_right (by omega), show ts.length * K + i - xs.length = i from by omega]
end
end
end Go.Proofs.Ytgljepjflpijiaa
