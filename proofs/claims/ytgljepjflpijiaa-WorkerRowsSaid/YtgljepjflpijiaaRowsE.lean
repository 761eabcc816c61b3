/-
  Rows of structs without pointers, each told by its cells: an argument's, and the call's own. No program is named. No condition.
-/
import Derived.Test.YtgljepjflpijiaaRowsG
import Derived.Test.YtgljepjflpijiaaKept
namespace Go.Proofs.Ytgljepjflpijiaa
open Go.RowKit
section
variable {T : Type} {enc : T → List Value} {K : Nat}
theorem flat_len (hK : ∀ t, (enc t).length = K) (ts : List T) : (ts.flatMap enc).length = ts.length * K := by
  induction ts with
  | nil => simp
  | cons t ts ih => rw [List.flatMap_cons, List.length_append, ih, hK, List.length_cons, Nat.succ_mul]; omega
theorem flat_take (hK : ∀ t, (enc t).length = K) (ts : List T) (k : Nat) : (ts.take k).flatMap enc = (ts.flatMap enc).take (k * K) := by
  induction ts generalizing k with
  | nil => simp
  | cons t ts ih =>
    cases k with
    | zero => simp
    | succ k => rw [List.take_succ_cons, List.flatMap_cons, List.flatMap_cons, ih, Nat.succ_mul, List.take_append, hK, show k * K + K - K = k * K by omega, List.take_of_length_le (l := enc t) (by rw [hK]; omega)]
theorem flat_drop (hK : ∀ t, (enc t).length = K) (ts : List T) (k : Nat) : (ts.drop k).flatMap enc = (ts.flatMap enc).drop (k * K) := by
  induction ts generalizing k with
  | nil => simp
  | cons t ts ih =>
    cases k with
    | zero => simp
    | succ k => rw [List.drop_succ_cons, List.flatMap_cons, ih, Nat.succ_mul, List.drop_append, hK, show k * K + K - K = k * K by omega, List.drop_eq_nil_of_le (as := enc t) (by rw [hK]; omega), List.nil_append]
theorem flat_get (hK : ∀ t, (enc t).length = K) {ts : List T} {q : Nat} {t : T} (hq : ts[q]? = some t) {i : Nat} (hi : i < K) : (ts.flatMap enc)[q * K + i]? = (enc t)[i]? := by
  have h1 := flat_drop hK ts q
  have hl := (List.getElem?_eq_some_iff.1 hq).1
  have h2 : ts.drop q = t :: ts.drop (q + 1) := by
    rw [List.drop_eq_getElem_cons hl, (List.getElem?_eq_some_iff.1 hq).2]
  rw [h2, List.flatMap_cons] at h1
  rw [← List.getElem?_drop, ← h1, List.getElem?_append_left (by rw [hK]; exact hi)]
structure SlF (enc : T → List Value) (w : World) (A : Option Addr) (n c : Nat) (ts : List T) : Prop where
  rd : 0 < ts.length → ∃ b o, A = some ⟨b, o, none⟩ ∧ b < w.heap.size ∧ ∀ j u, (ts.flatMap enc)[j]? = some u → w.cell? ⟨b, o + j, none⟩ = some u
  len : n = ts.length
  cap : n ≤ c
  max : c ≤ maxLen
  nil : A = none → c = 0
theorem SlF.none_ (w : World) : SlF enc w none 0 0 [] := ⟨by simp, rfl, Nat.le_refl _, Nat.zero_le _, fun _ => rfl⟩
theorem SlF.keep {w w' : World} {A : Option Addr} {n c : Nat} {ts : List T} (h : SlF enc w A n c ts) (hs : w.heap.size ≤ w'.heap.size) (hk : ∀ b o, A = some ⟨b, o, none⟩ → 0 < ts.length → w'.heap[b]? = w.heap[b]?) : SlF enc w' A n c ts :=
  ⟨fun hl => by
    obtain ⟨b, o, h1, h2, h3⟩ := h.rd hl
    exact ⟨b, o, h1, by omega, fun j u hj => (World.cell?_of_block (hk b o h1 hl)).trans (h3 j u hj)⟩, h.len, h.cap, h.max, h.nil⟩
theorem SlF.on {w w' : World} {A : Option Addr} {n c : Nat} {ts : List T} (h : SlF enc w A n c ts) (hb : Below w.heap.size w w') : SlF enc w' A n c ts :=
  h.keep hb.size fun b o he hl => by
    obtain ⟨b', o', h1, h2, _⟩ := h.rd hl
    rw [he] at h1; injection h1 with h1; injection h1 with h1 _
    exact hb.block b (by omega)
theorem SlF.at_ (hK : ∀ t, (enc t).length = K) {w : World} {A : Option Addr} {n c : Nat} {ts : List T} (h : SlF enc w A n c ts) {q : Nat} {t : T} (hq : ts[q]? = some t) : ∃ b o, A = some ⟨b, o, none⟩ ∧ b < w.heap.size ∧ ∀ i u, (enc t)[i]? = some u → w.cell? ⟨b, o + q * K + i, none⟩ = some u := by
  obtain ⟨b, o, h1, h2, h3⟩ := h.rd (by have := (List.getElem?_eq_some_iff.1 hq).1; omega)
  refine ⟨b, o, h1, h2, fun i u hi => ?_⟩
  have hlt : i < K := by have := (List.getElem?_eq_some_iff.1 hi).1; rw [hK] at this; exact this
  rw [Nat.add_assoc]
  exact h3 _ u (by rw [flat_get hK hq hlt]; exact hi)
theorem SlF.take (hK : ∀ t, (enc t).length = K) {w : World} {A : Option Addr} {n c : Nat} {ts : List T} (h : SlF enc w A n c ts) {k : Nat} (hk : k ≤ n) : SlF enc w A k c (ts.take k) := by
  refine ⟨fun hl => ?_, by rw [List.length_take, ← h.len]; omega, Nat.le_trans hk h.cap, h.max, h.nil⟩
  rw [List.length_take] at hl
  obtain ⟨b, o, h1, h2, h3⟩ := h.rd (by omega)
  refine ⟨b, o, h1, h2, fun j u hj => h3 j u ?_⟩
  rw [flat_take hK] at hj
  rw [List.getElem?_take] at hj
  split at hj
  · exact hj
  · cases hj
theorem SlF.drop (hK : ∀ t, (enc t).length = K) {w : World} {A : Option Addr} {n c : Nat} {ts : List T} (h : SlF enc w A n c ts) {k : Nat} (hk : k ≤ n) {f : Addr → Addr} (hf : ∀ b o, f ⟨b, o, none⟩ = ⟨b, o + k * K, none⟩) : SlF enc w (if c = k then A else A.map f) (n - k) (c - k) (ts.drop k) := by
  have hlen := h.len
  have hcap := h.cap
  have hmax := h.max
  refine ⟨fun hl => ?_, by rw [List.length_drop, ← h.len], by omega, by omega, fun e => ?_⟩
  · rw [List.length_drop] at hl
    obtain ⟨b, o, rfl, h2, h3⟩ := h.rd (by omega)
    rw [if_neg (by omega)]
    refine ⟨b, o + k * K, by rw [Option.map_some, hf], h2, fun j u hj => ?_⟩
    rw [flat_drop hK, List.getElem?_drop] at hj
    rw [Nat.add_assoc]
    exact h3 _ u hj
  · by_cases hc : c = k
    · omega
    · rw [if_neg hc] at e
      have : A = none := by cases A with
        | none => rfl
        | some a => cases e
      have := h.nil this
      omega
theorem sle_of {E : World → List Value → T → Prop} (hK : ∀ t, (enc t).length = K) {w : World} {A : Option Addr} {n c : Nat} {ts : List T} (h : SlR K E w A n c ts) (hE : ∀ cs t, E w cs t → cs = enc t) : SlF enc w A n c ts := by
  refine ⟨fun hl => ?_, h.len, h.cap, h.max, h.nil⟩
  obtain ⟨b, o, cs, h1, h2, h3, h4, h5⟩ := h.rd 0 _ (List.getElem?_eq_getElem hl)
  refine ⟨b, o, h1, h2, fun j u hj => ?_⟩
  have hjl := (List.getElem?_eq_some_iff.1 hj).1
  rw [flat_len hK] at hjl
  have hK0 : 0 < K := by
    rcases Nat.eq_zero_or_pos K with h0 | h0
    · rw [h0] at hjl; omega
    · exact h0
  have hq : j / K < ts.length := (Nat.div_lt_iff_lt_mul hK0).2 hjl
  obtain ⟨b', o', cs', g1, g2, g3, g4, g5⟩ := h.rd (j / K) _ (List.getElem?_eq_getElem hq)
  rw [h1] at g1; injection g1 with g1; injection g1 with g1 g1'
  subst g1 g1'
  have hd := Nat.div_add_mod j K
  rw [Nat.mul_comm] at hd
  have hm := Nat.mod_lt j hK0
  have h6 := g4 (j % K) hm
  rw [Nat.add_assoc, hd] at h6
  rw [h6, hE _ _ g5, ← hj]
  conv => rhs; rw [← hd]
  rw [flat_get hK (List.getElem?_eq_getElem hq) hm]
def OwF (enc : T → List Value) (K : Nat) (e : TypeId) (w : World) (B : Nat) (v : Value) (ts : List T) : Prop := w.ownsRow B e K v ts.length (ts.flatMap enc)
section
variable {e : TypeId} {w w' : World} {B : Nat} {v : Value} {ts : List T}
theorem OwF.none_ (e : TypeId) (w : World) (B : Nat) : OwF enc K e w B (.slice none 0 0) [] := World.ownsRow_nil _ _ _ _
theorem OwF.below (h : OwF enc K e w B v ts) (hb : Below w.heap.size w w') : OwF enc K e w' B v ts := own_below h hb
theorem OwF.lower {B' : Nat} (h : OwF enc K e w B v ts) (hB : B' ≤ B) : OwF enc K e w B' v ts := own_lower h hB
theorem OwF.kept {g : Nat} (h : OwF enc K e w B v ts) (hg : w.grownBy w' (some g)) (hv : v.ownBlock ≠ some g) : OwF enc K e w' B v ts := World.ownsRow.kept h hg (.inr hv)
theorem OwF.keep (h : OwF enc K e w B v ts) (hk : ∀ k, v.ownBlock = some k → w'.heap[k]? = w.heap[k]?) : OwF enc K e w' B v ts := by
  refine ⟨h.1, ?_⟩
  rcases h.2 with h3 | ⟨g, cap, cur, rfl, hg, hh, r⟩
  · exact .inl h3
  · exact .inr ⟨g, cap, cur, rfl, hg, (hk g rfl).trans hh, r⟩
theorem OwF.lt (h : OwF enc K e w B v ts) : ∀ k, v.ownBlock = some k → B ≤ k ∧ k < w.heap.size := World.ownsRow.lt h
theorem OwF.form (h : OwF enc K e w B v ts) : ∃ A c, v = .slice A ts.length c := by
  rcases h.2 with ⟨rfl, h0⟩ | ⟨g, cap, cur, rfl, _⟩
  · exact ⟨none, 0, by rw [h0]⟩
  · exact ⟨_, cap, rfl⟩
theorem OwF.len {n c : Nat} {A : Option Addr} (h : OwF enc K e w B (.slice A n c) ts) : n = ts.length ∧ n ≤ c ∧ c ≤ maxLen := by
  rcases h.2 with ⟨h2, h3⟩ | ⟨g, cap, cur, h2, _, _, h3, h4, _⟩
  · injection h2 with _ h4 h5; subst h4 h5; exact ⟨h3.symm, Nat.le_refl _, Nat.zero_le _⟩
  · injection h2 with _ h5 h6; subst h5 h6; exact ⟨rfl, h3, h4⟩
theorem OwF.sl {n c : Nat} {A : Option Addr} (h : OwF enc K e w B (.slice A n c) ts) : SlF enc w A n c ts := by
  have hl := h.len
  rcases h.2 with ⟨h2, h3⟩ | ⟨g, cap, cur, h2, _, hh, h3, h4, h5, h6⟩
  · injection h2 with h7 h8 h9; subst h7 h8 h9
    obtain rfl : ts = [] := List.eq_nil_of_length_eq_zero h3
    exact SlF.none_ w
  · injection h2 with h7 h8 h9; subst h7 h8 h9
    refine ⟨fun _ => ⟨g, 0, rfl, (Array.getElem?_eq_some_iff.1 hh).1, fun j u hj => ?_⟩, rfl, h3, h4, fun hn => by cases hn⟩
    rw [cell_of_row w g (0 + j) _ _ _ hh, Nat.zero_add]
    rw [← h6, List.getElem?_take] at hj
    split at hj
    · simpa using hj
    · cases hj
end
theorem wpList_append_one {P : Program} {e sl : TypeId} {z : Value} {by_ : Nat} (hK : ∀ t, (enc t).length = K) (h1c : ∀ t, ∀ u ∈ enc t, u.oneCell' = true) (hsl : P.underlying sl = some (.slice e)) (hi0 : (P.info? e).map (fun i => (i.zero, i.size, i.bytes)) = some (some z, K, by_)) (hzs : z.cells.size = K) (hK0 : 0 < K)
    {w : World} {ops : Array Oper} {rest : List Oper} {op : Oper} {a : Act} {Q : Exit → Act → World → Prop} (hgd : op.guard = none) (s x : Operand)
    (ho : op.op = .call { callee := .builtin .append, args := #[s, x], argTypes := #[sl, sl] })
    (base : Nat) (v : Value) (ts : List T) (hs : a.eval s = v) (hown : OwF enc K e w base v ts) (t : T) (hx : a.eval x = .slice (some ⟨w.heap.size, 0, none⟩) 1 1)
    (hlen : ts.length + 1 ≤ maxLen) (hbytes : (ts.length + 1) * by_ ≤ 140737488355328) (hB : base ≤ w.heap.size)
    (h : ∀ v' w', OwF enc K e w' base v' (ts ++ [t]) → Below base w w' → w.grownBy w' v.ownBlock → (v'.ownBlock = v.ownBlock ∨ ∃ k, v'.ownBlock = some k ∧ w.heap.size ≤ k) → wpList P ops Q rest (a.put op.dst v') w') : wpList P ops Q (op :: rest) a (w.alloc (.cells (enc t).toArray e)) := by
  obtain ⟨i0, hi, hz0, hz1, hz2⟩ := info_parts hi0
  refine wpList_append_own_at (w.alloc (.cells (enc t).toArray e)) hgd s x sl ho base e i0 z K by_ hsl hi hz0 hz1 hz2 hzs hK0 v ts.length _ hs (World.ownsRow.alloc hown _) ⟨w.heap.size, 0, none⟩ 1 1 (enc t) hx (by rw [hK]; omega) ?_ (h1c t) hlen hbytes (by simp; omega) ?_
  · intro j u hu
    have : ((⟨w.heap.size, 0, none⟩ : Addr).add j) = ⟨w.heap.size, j, none⟩ := by unfold Addr.add; split <;> simp_all
    rw [this, World.cell?_alloc_at _ _ _ _ rfl, List.getElem?_toArray]; exact hu
  · intro v' w' h1 h2 _ hvo
    have hg : w.grownBy w' v.ownBlock := grown_trans (World.grownBy_alloc w _ _) h2
    refine h v' w' ?_ ((Below.refl base w).grown hg hB (own_base hown)) hg (hvo.imp id fun e => ⟨_, e, by simp⟩)
    unfold OwF
    rw [List.flatMap_append, List.length_append, List.length_singleton, List.flatMap_singleton]
    exact h1
theorem wpList_append_all {P : Program} {e sl : TypeId} {z : Value} {by_ : Nat} (hK : ∀ t, (enc t).length = K) (h1c : ∀ t, ∀ u ∈ enc t, u.oneCell' = true) (hsl : P.underlying sl = some (.slice e)) (hi0 : (P.info? e).map (fun i => (i.zero, i.size, i.bytes)) = some (some z, K, by_)) (hzs : z.cells.size = K) (hK0 : 0 < K)
    {w : World} {ops : Array Oper} {rest : List Oper} {op : Oper} {a : Act} {Q : Exit → Act → World → Prop} (hgd : op.guard = none) (s x : Operand)
    (ho : op.op = .call { callee := .builtin .append, args := #[s, x], argTypes := #[sl, sl] })
    (base : Nat) (v : Value) (ts us : List T) (hs : a.eval s = v) (hown : OwF enc K e w base v ts) {A : Option Addr} {n c : Nat} (hx : a.eval x = .slice A n c) (hr : SlF enc w A n c us)
    (hlen : ts.length + us.length ≤ maxLen) (hbytes : (ts.length + us.length) * by_ ≤ 140737488355328) (hB : base ≤ w.heap.size)
    (h : ∀ v' w', OwF enc K e w' base v' (ts ++ us) → Below base w w' → w.grownBy w' v.ownBlock → (v'.ownBlock = v.ownBlock ∨ ∃ k, v'.ownBlock = some k ∧ w.heap.size ≤ k) → wpList P ops Q rest (a.put op.dst v') w') : wpList P ops Q (op :: rest) a w := by
  obtain ⟨i0, hi, hz0, hz1, hz2⟩ := info_parts hi0
  rcases A with _ | ad
  · obtain rfl := hr.nil rfl
    have hn : us = [] := by
      rcases us with _ | ⟨y, l⟩
      · rfl
      · obtain ⟨_, _, h0, _⟩ := hr.rd (by simp); cases h0
    subst hn
    obtain rfl := hr.len
    refine wpList_append_own_none hgd s x sl ho base e i0 K hsl hi v ts.length _ hs hown hx ?_
    exact h v w (by rw [List.append_nil]; exact hown) (Below.refl _ _) (grown_below _ (Below.refl _ _)) (.inl rfl)
  · have hcells : ∀ j u, (us.flatMap enc)[j]? = some u → w.cell? (ad.add j) = some u := by
      intro j u hj
      have hl : 0 < us.length := by
        rcases us with _ | ⟨y, l⟩
        · simp at hj
        · simp
      obtain ⟨b, o, e1, _, hc⟩ := hr.rd hl
      injection e1 with e1
      subst e1
      have : ((⟨b, o, none⟩ : Addr).add j) = ⟨b, o + j, none⟩ := by unfold Addr.add; split <;> simp_all
      rw [this]
      exact hc j u hj
    have hn := hr.len
    subst hn
    refine wpList_append_own_at w hgd s x sl ho base e i0 z K by_ hsl hi hz0 hz1 hz2 hzs hK0 v ts.length _ hs hown ad us.length c (us.flatMap enc) hx (flat_len hK us) hcells (fun u hu => ?_) hlen hbytes hB ?_
    · obtain ⟨t, _, ht⟩ := List.mem_flatMap.1 hu
      exact h1c t u ht
    · intro v' w' h1 h2 _ hvo
      refine h v' w' ?_ ((Below.refl base w).grown h2 hB (own_base hown)) h2 (hvo.imp id fun e => ⟨_, e, Nat.le_refl _⟩)
      unfold OwF
      rw [List.flatMap_append, List.length_append]
      exact h1
end
end Go.Proofs.Ytgljepjflpijiaa
