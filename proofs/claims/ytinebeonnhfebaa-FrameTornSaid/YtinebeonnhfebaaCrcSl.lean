/-
  A slice value's parts as bytes; the calls of package crc, told from a base world on.
-/
import Derived.Test.YtinebeonnhfebaaCrcGood
namespace Go.Proofs.Ytinebeonnhfebaa
open Go.RowKit

theorem Rd.made {w : World} {t : TypeId} {cs : Array Value} {fr : Nat × Nat} (l : List Nat) (hcs : cs = (vals l).toArray) (hl : ∀ x ∈ l, x < 256) : Rd (w.alloc (.cells cs t fr)) (w.alloc (.cells cs t fr)).heap.size (some ⟨w.heap.size, 0, none⟩) l := by
  subst hcs
  exact ⟨hl, fun _ => ⟨_, 0, rfl, by simp, fun j hj => by rw [cell_of_row _ _ _ _ t fr (heap_alloc_new w _), Nat.zero_add, List.getElem?_toArray, vals_at hj]⟩⟩

/-- A slice value's parts read as the bytes l. -/
structure Sl (w : World) (A : Option Addr) (n c : Nat) (l : List Nat) : Prop where
  rd : Rd w w.heap.size A l
  len : n = l.length
  cap : n ≤ c
  max : c ≤ maxLen
  nil : A = none → c = 0

/-- What the row's step tells of an argument. -/
theorem sl_of {w : World} {a : Option Addr} {len cap : Nat} {zs : List Int}
    (h : (a = none ∧ len = 0 ∧ cap = 0 ∧ zs = []) ∨
      ∃ x, a = some x ∧ len ≤ cap ∧ cap ≤ maxLen ∧ zs.length = cap ∧ (∀ i, i < zs.length → w.cell? (x.add i) = some (.int .u8 (zs.getD i 0))) ∧ ∀ n ∈ zs, (Lit.int .u8 n).wf = true) :
    ∃ l, Sl w a len cap l := by
  rcases h with ⟨rfl, rfl, rfl, rfl⟩ | ⟨x, rfl, hl, hm, hz, hcell, hwz⟩
  · exact ⟨[], Rd.empty _ _ _, rfl, Nat.le_refl _, Nat.zero_le _, fun _ => rfl⟩
  · have hb : ∀ n ∈ zs, 0 ≤ n ∧ n < 256 := by
      intro n hn
      have := hwz n hn
      simp [Lit.wf, IntKind.min, IntKind.max, IntKind.signed, IntKind.bits] at this
      omega
    refine ⟨(zs.take len).map Int.toNat, ⟨?_, ?_⟩, by simp; omega, hl, hm, fun h => by cases h⟩
    · intro y hy
      simp only [List.mem_map] at hy
      obtain ⟨n, hn, rfl⟩ := hy
      have := hb n (List.mem_of_mem_take hn)
      omega
    · intro h0
      simp only [List.length_map, List.length_take] at h0
      obtain ⟨b, off, spot⟩ := x
      have hc := hcell 0 (by omega)
      have hspot : spot = none := by simpa [Addr.add] using World.cell?_spot hc
      subst hspot
      refine ⟨b, off, rfl, ?_, fun j hj => ?_⟩
      · have := block_lt_of_cell hc
        simpa [Addr.add] using this
      · simp only [List.length_map, List.length_take] at hj
        have hcj := hcell j (by omega)
        have hadd : (⟨b, off, none⟩ : Addr).add j = ⟨b, off + j, none⟩ := by unfold Addr.add; split <;> simp_all
        rw [hadd] at hcj
        rw [hcj]
        have hjz : j < zs.length := by omega
        rw [getD_at hjz, getD_at (by simp; omega)]
        have := hb zs[j] (List.getElem_mem hjz)
        congr 2
        simp
        omega
section
variable {w : World} {A : Option Addr} {n c : Nat} {l : List Nat}
theorem Sl.on {w' : World} (h : Sl w A n c l) (hb : Below w.heap.size w w') : Sl w' A n c l := ⟨h.rd.on hb, h.len, h.cap, h.max, h.nil⟩
theorem Sl.take (h : Sl w A n c l) {k : Nat} (hk : k ≤ n) : Sl w A k c (l.take k) :=
  ⟨h.rd.take _, by rw [List.length_take, ← h.len]; omega, by have := h.cap; omega, h.max, h.nil⟩
theorem Sl.drop (h : Sl w A n c l) {k : Nat} (hk : k ≤ n) (hc : ¬ c = k) : Sl w (A.map (fun x => x.add k)) (n - k) (c - k) (l.drop k) := by
  refine ⟨?_, by rw [List.length_drop, ← h.len], by have := h.cap; omega, by have := h.max; omega, fun e => ?_⟩
  · have := h.rd.drop (k := k) (c := c) (by rw [← h.len]; exact h.cap) (fun x => x.add k) (fun b o => by unfold Addr.add; split <;> simp_all)
    rwa [if_neg hc] at this
  · rw [Option.map_eq_none_iff] at e; have := h.nil e; omega
theorem Sl.dropAll (h : Sl w A n c l) {k : Nat} (hk : k ≤ n) (hc : c = k) : Sl w A (n - k) (c - k) (l.drop k) := by
  have hcap := h.cap
  refine ⟨?_, by rw [List.length_drop, ← h.len], by omega, by have := h.max; omega, fun e => by have := h.nil e; omega⟩
  rw [List.drop_of_length_le (by rw [← h.len]; omega)]
  exact Rd.empty _ _ _
theorem Sl.none_ (w : World) : Sl w none 0 0 [] := ⟨Rd.empty _ _ _, rfl, Nat.le_refl _, Nat.zero_le _, fun _ => rfl⟩
theorem sum_at {w0 : World} (W : World) (h : Sl w0 A n c l) (hl : l.length ≤ 100000) (hb : Below w0.heap.size w0 W) :
    Calls Try.prog 30 #[.slice A n c] W fun e w' => e = .returned (.int .u32 ((Crc.sum l : Nat) : Int)) ∧ Below w0.heap.size w0 w' :=
  (sum_any n c A l W (h.rd.on hb) h.len (by omega)).mono fun _ _ ⟨he, h2⟩ => ⟨he, hb.trans (h2.mono hb.size)⟩
theorem more_at {w0 : World} (W : World) (s : Nat) (hs : s < 4294967296) (h : Sl w0 A n c l) (hl : l.length ≤ 100000) (hb : Below w0.heap.size w0 W) :
    Calls Try.prog 33 #[.int .u32 s, .slice A n c] W fun e w' => e = .returned (.int .u32 ((Crc.more s l : Nat) : Int)) ∧ Below w0.heap.size w0 w' :=
  (more_any s n c A l W hs (h.rd.on hb) h.len (by omega)).mono fun _ _ ⟨he, h2⟩ => ⟨he, hb.trans (h2.mono hb.size)⟩
theorem good_at {w0 : World} (W : World) (h : Sl w0 A n c l) (hl : l.length ≤ 100000) (hb : Below w0.heap.size w0 W) :
    Calls Try.prog 27 #[.slice A n c] W fun e w' => e = .returned (.bool (good l)) ∧ Below w0.heap.size w0 w' :=
  (good_any n c A l W (h.rd.on hb) h.len h.cap (by omega)).mono fun _ _ ⟨he, h2⟩ => ⟨he, hb.trans (h2.mono hb.size)⟩
theorem read_at {w0 : World} (W : World) (h : Sl w0 A n c l) (hb : Below w0.heap.size w0 W) :
    Calls Try.prog 32 #[.slice A n c] W fun e w' => e = .returned (.tuple #[.int .u32 ((rdN l : Nat) : Int), .int .i64 (rdE l)]) ∧ Below w0.heap.size w0 w' :=
  (read_any n c A l W (h.rd.on hb) h.len).mono fun _ _ ⟨he, h2⟩ => ⟨he, hb.trans (h2.mono hb.size)⟩
end
end Go.Proofs.Ytinebeonnhfebaa
