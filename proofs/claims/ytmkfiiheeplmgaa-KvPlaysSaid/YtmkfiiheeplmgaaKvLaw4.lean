/-
  Stores and what must stay beside them; kvCopy. No condition.
-/
import Derived.Test.YtmkfiiheeplmgaaKvLaw3
namespace Go.Proofs.Ytmkfiiheeplmgaa
open Go.RowKit Go.Deep

namespace Kv
/-- What a store has that was told changes. -/
noncomputable def run (ls : List (List Po)) : St := ls.foldl (fun s l => doS s (cuts l)) St.none
theorem run_snoc {ls : List (List Po)} {j : Nat} {l : List Po} (h : ls[j]? = some l) : run (ls.take (j + 1)) = doS (run (ls.take j)) (cuts l) := by
  unfold run
  rw [List.take_add_one, h, List.foldl_append]; rfl
theorem run_good (ls : List (List Po)) : Good (run ls) ∧ (run ls).rev ≤ ls.length := by
  have key : ∀ (ls : List (List Po)) (s : St), Good s → Good (ls.foldl (fun s l => doS s (cuts l)) s) ∧ (ls.foldl (fun s l => doS s (cuts l)) s).rev ≤ s.rev + ls.length := by
    intro ls
    induction ls with
    | nil => intro s h; exact ⟨h, by simp⟩
    | cons l ls ih =>
      intro s h
      have h1 := ih (doS s (cuts l)) (doS_good h _)
      have h2 := (doS_rev s (cuts l)).2
      refine ⟨h1.1, ?_⟩
      have := h1.2
      rw [List.foldl_cons, List.length_cons]
      omega
  have := key ls St.none Good.none_
  refine ⟨this.1, ?_⟩
  have h2 := this.2
  have : St.none.rev = 0 := rfl
  unfold run
  omega
end Kv
/-- A row of ops among the rows of an argument. -/
theorem SlR.row {w : World} {b o n c : Nat} {ls : List (List Kv.Po)} (h : SlPs w (some ⟨b, o, none⟩) n c ls) {j : Nat} {l : List Kv.Po} (hx : ls[j]? = some l) {w' : World} (hb : Below w.heap.size w w') :
    ∃ A' n' c', w'.cell? ⟨b, o + j, none⟩ = some (.slice A' n' c') ∧ SlP w' A' n' c' l := by
  obtain ⟨hj, rfl⟩ := List.getElem?_eq_some_iff.1 hx
  obtain ⟨hl, cs, _, hc, A', n', c', he, hs⟩ := h.cell hj
  rw [he] at hc
  have := (hb.cell (p := ⟨b, o + j * 1 + 0, none⟩) hl).trans (hc 0 (by omega))
  rw [Nat.mul_one, Nat.add_zero] at this
  exact ⟨A', n', c', this, hs.on EPo.on hb⟩
/-- A store whose blocks lie above w0's, none of them among F's. -/
structure KX (K : KPred) (w0 : World) (F X : Nat → Prop) (q : Nat) (s : Kv.St) (W : World) : Prop where
  k : K W X q s
  lo : ∀ i, X i → w0.heap.size ≤ i
  off : ∀ i, X i → ¬ F i
section
variable {K : KPred} {w0 W W' : World} {F X : Nat → Prop} {q : Nat} {s : Kv.St}
theorem KX.on (hC : KC K) (h : KX K w0 F X q s W) (hb : Below W.heap.size W W') : KX K w0 F X q s W' := ⟨hC.below h.k hb, h.lo, h.off⟩
theorem KX.kept (hC : KC K) {Y : Nat → Prop} (h : KX K w0 F X q s W) (hk : Kept Y W W') (hY : ∀ i, X i → ¬ Y i) : KX K w0 F X q s W' :=
  ⟨hC.keep _ _ _ _ _ h.k hk.size fun i hi => hk.block i (hC.lt _ _ _ _ h.k i hi) (hY i hi), h.lo, h.off⟩
/-- What was made since is none of the store's. -/
theorem KX.new (hC : KC K) (h : KX K w0 F X q s W) (hb : Below W.heap.size W W') : KX K w0 (fun i => F i ∨ W.heap.size ≤ i) X q s W' :=
  ⟨hC.below h.k hb, h.lo, fun i hi hf => by
    rcases hf with hf | hf
    · exact h.off i hi hf
    · have := hC.lt _ _ _ _ h.k i hi; omega⟩
theorem KX.less {G : Nat → Prop} (h : KX K w0 F X q s W) (hG : ∀ i, G i → F i) : KX K w0 G X q s W := ⟨h.k, h.lo, fun i hi hg => h.off i hi (hG i hg)⟩
theorem KX.at_ (h : KX K w0 F X q s W) (hb : Below w0.heap.size w0 W) : KAt K w0 q s W := ⟨X, h.k, h.lo, hb⟩
def KXDo (K : KPred) (w0 : World) (F X : Nat → Prop) (q : Nat) (s : Kv.St) (ops : List Kv.Po) (W : World) (e : Ending) (w' : World) : Prop :=
  e = .returned (.tuple #[.int .i64 (Kv.doN s ops), .int .i64 (Kv.doE s ops : Nat)]) ∧ ∃ X', KX K w0 (fun i => F i ∧ i < W.heap.size) X' q (Kv.doS s ops) w' ∧ (∀ i, X' i → X i ∨ W.heap.size ≤ i) ∧ Kept X W w'
theorem kx_do (hC : KC K) {n c : Nat} {A : Option Addr} {ops : List Kv.Po} (h : KX K w0 F X q s W) (hw : w0.heap.size ≤ W.heap.size) (hr : s.rev ≤ 1000) (ho : SlP W A n c ops) (hz : ops.length ≤ 70) :
    Calls Try.prog 12 #[.pointer (some ⟨q, 0, none⟩), .slice A n c] W (KXDo K w0 F X q s ops W) := by
  refine (hC.do_ W X q s n c A ops h.k hr ho hz).mono fun _ _ ⟨X', e1, e2, e3, e4⟩ => ⟨e1, X', ⟨e2, fun i hi => ?_, fun i hi hf => ?_⟩, e3, e4⟩
  · rcases e3 i hi with h1 | h1
    · exact h.lo i h1
    · omega
  · rcases e3 i hi with h1 | h1
    · exact h.off i h1 hf.1
    · have := hf.2; omega
/-- A row whose block is none of the store's. -/
theorem Kept.row {T : Type} {Z : Nat} {E : World → List Value → T → Prop} {e : TypeId} {w1 : World} {B : Nat} {v : Value} {ts : List T} (hk : Kept X W W') (h : OwnR Z E e w1 W B v ts) (hv : ∀ b, v.ownBlock = some b → ¬ X b) : OwnR Z E e w1 W' B v ts :=
  h.keep fun i hi => hk.block i (h.lt i hi).2 (hv i hi)
end
set_option maxHeartbeats 3200000 in
theorem kcopy_any {K : KPred} (hC : KC K) (w0 : World) (n c : Nat) (A : Option Addr) (ls : List (List Kv.Po)) (w : World) (hb0 : Below w0.heap.size w0 w) (h : SlPs w0 A n c ls) (hz : ls.length ≤ 100) :
    Calls Try.prog 24 #[.slice A n c] w fun e w' => ∃ q, e = .returned (.pointer (some ⟨q, 0, none⟩)) ∧ KAt K w q (Kv.run ls) w' := by
  have hn := h.len
  have hmx := h.max
  have hcp := h.cap
  unfold maxLen at hmx
  have HA := Lib.hid h
  have HN := Lib.hid hn
  have HZ := Lib.hid hz
  have B0 := Lib.hid hb0
  have N1 := Lib.hid (kat_make hC w w (Below.refl _ _))
  clear h hn hz hb0
  go_enter Try.func24, Try.ntmps24
  go_wp2_with (go_at_call 10; (with_reducible refine N1.out.mono ?_); rintro e w1 ⟨q, rfl, hK1⟩; have K1 := Lib.hid hK1; clear hK1)
  go_loopw [4] (fun i wr => ∃ j : Nat, j ≤ n ∧ i = .int .i64 j ∧ KAt K w q (Kv.run (ls.take j)) wr) (fun i _ => n - (intOf i).toNat)
  case atStart => exact ⟨0, by omega, rfl, K1.out⟩
  case round =>
    obtain ⟨j, hj, rfl, hk⟩ := hrel
    have KR := Lib.hid hk
    have BW := Lib.hid (B0.out.trans (hk.below.mono B0.out.size))
    clear hk
    by_cases hlt : j < n
    · obtain ⟨b1, o1, rfl⟩ := HA.out.addr (by have := HN.out; omega)
      have EO : Hid (ls[j]? = some (ls[j]'(by have := HN.out; omega))) := List.getElem?_eq_getElem _
      generalize ls[j]'(by have := HN.out; omega) = l at *
      obtain ⟨A2, n2, c2, p0, hs⟩ := HA.out.row EO.out BW.out
      have HS := Lib.hid hs
      have RS := Lib.hid (Kv.run_snoc EO.out)
      have RG : Hid ((Kv.run (ls.take j)).rev ≤ 1000) := by
        have h1 := (Kv.run_good (ls.take j)).2
        rw [List.length_take] at h1
        have := HZ.out
        show _ ≤ _; omega
      clear hs
      go_wp2_with (first
        | (go_at_call 11; (with_reducible refine (kops_any l n2 c2 A2 _ HS.out).mono ?_); rintro e w2 ⟨v2, rfl, ho2, hb2⟩; obtain ⟨A3, c3, rfl⟩ := ho2.form; have O2 := Lib.hid ho2; have K2 := Lib.hid (KR.out.on hC hb2); clear ho2 hb2)
        | (go_at_call 13; (with_reducible refine (kas_any _ _ c3 A3 _ O2.out.readP (Nat.le_trans (Kv.cuts_len l) (by omega))).mono ?_); rintro e w3 ⟨v3, rfl, ho3, hb3⟩; obtain ⟨A4, c4, rfl⟩ := ho3.form; have O3 := Lib.hid ho3; have K3 := Lib.hid (K2.out.on hC hb3); clear ho3 hb3)
        | (go_at_call 12; (with_reducible refine (kat_do hC K3.out RG.out O3.out.readP (Kv.cuts_len l)).mono ?_); rintro e w4 ⟨rfl, hk4⟩; have K4 := Lib.hid hk4; clear hk4))
      exact ⟨⟨j + 1, by omega, by go_num, by rw [RS.out]; exact K4.out⟩, by simp [intOf]; omega⟩
    · have E : Hid (ls.take j = ls) := List.take_of_length_le (by have := HN.out; omega)
      rw [E.out] at KR
      go_wp2_with fail
      go_ret
      exact ⟨q, rfl, KR.out⟩
end Go.Proofs.Ytmkfiiheeplmgaa
