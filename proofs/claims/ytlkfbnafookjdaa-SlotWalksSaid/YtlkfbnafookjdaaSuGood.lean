/-
  The document's Good of layer 15: a slot that may be, made of any. No condition.
-/
import Derived.Test.YtlkfbnafookjdaaSuRef
namespace Go.Proofs.Ytlkfbnafookjdaa
open Go.RowKit Go.Deep
set_option linter.unusedSimpArgs false
set_option linter.unusedVariables false

namespace Su
/-- What is left of a number that is seen without its sign. -/
def um (x n : Int) : Int := x % 18446744073709551616 % n
theorem um_bd (x : Int) {n : Int} (h : 0 < n) : 0 ≤ um x n ∧ um x n < n := ⟨Int.emod_nonneg _ (by omega), Int.emod_lt_of_pos _ h⟩
theorem um_is (x : Int) {n : Int} (h : 0 < n) (hn : n ≤ 100) : wrap64 ((IntKind.u64.wrap x).tmod n) = um x n := by
  rw [IntKind.wrap_u64, Int.tmod_eq_emod_of_nonneg (Int.emod_nonneg _ (by omega))]
  have := um_bd x h
  unfold um at *
  exact IntWalk.wrap64_in _ ⟨by omega, by omega⟩
def goodOf (s : S) : S := ⟨um s.st 5, if um s.st 5 = 0 then 0 else 1 + um s.v 3, um s.wa 4, um s.sq 9⟩
theorem goodOf_right (s : S) : Right (goodOf s) := by
  have h1 := um_bd s.st (n := 5) (by omega)
  have h2 := um_bd s.v (n := 3) (by omega)
  have h3 := um_bd s.wa (n := 4) (by omega)
  have h4 := um_bd s.sq (n := 9) (by omega)
  unfold Right goodOf
  simp only
  split <;> omega
end Su
theorem Su2.far {T U : TypeId} {W w : World} {g : Nat} {s r : Su.S} (h : Su2 T U W w g s r) {k : Nat} (hk : g + 1 < k) (i : Nat) (v : Value) : Su2 T U W (w.setCell ⟨k, i, none⟩ v) g s r :=
  ⟨set_apart h.a (by omega) _ _, set_apart h.r (by omega) _ _, h.b.setCell (by have := h.g; show _ ≤ k; omega) _, h.g⟩
/-- What a call that answers a slot leaves. -/
def SuPost1 (W : World) (r : Su.S) (e : Ending) (w' : World) : Prop := e = .returned (suV r) ∧ Below W.heap.size W w'
theorem su_ret1 {U : TypeId} {fn : Func} {p : Tmp} (hf : fn.results = #[.cell p U]) {fs : Array Field} (hu : Try.prog.underlying U = some (.struct fs)) (hi : (Try.prog.info? U).map (·.size) = some 4) {T : TypeId} {W w : World} {g : Nat} {s r : Su.S} (h : Su2 T U W w g s r) {a : Act}
    (hp : a.tmps.getD p undef = .pointer (some ⟨g + 1, 0, none⟩)) (hdf : a.defers = []) {r' : Su.S} (hr : r = r') : bodyPost Try.prog fn (SuPost1 W r') .ret a w := by
  subst hr
  exact bodyPost_ret (v := suV r) (results_cell_row hf a.tmps w (g + 1) U (suC r) (0, 0) (.struct fs) hp h.r hu rfl hi) hdf ⟨rfl, h.b⟩
set_option maxHeartbeats 3200000 in
theorem rsgood_any (s : Su.S) (W : World) : Calls Try.prog 8 #[suV s] W (SuPost1 W (Su.goodOf s)) := by
  obtain ⟨g, W1, hW, hg, r0⟩ := su_two 23 23 W s
  have e1 := Su.um_is s.st (n := 5) (by omega) (by omega)
  have e2 := Su.um_is s.v (n := 3) (by omega) (by omega)
  have e3 := Su.um_is s.wa (n := 4) (by omega) (by omega)
  have e4 := Su.um_is s.sq (n := 9) (by omega) (by omega)
  have b2 := Su.um_bd s.v (n := 3) (by omega)
  have E : Hid (Su.goodOf s = ⟨Su.um s.st 5, if Su.um s.st 5 = 0 then 0 else 1 + Su.um s.v 3, Su.um s.wa 4, Su.um s.sq 9⟩) := rfl
  obtain ⟨ans, hans⟩ : ∃ ans, ans = Su.goodOf s := ⟨_, rfl⟩
  rw [← hans] at E ⊢
  clear hans
  have HW := Lib.hid hW
  have HG := Lib.hid hg
  have R := Lib.hid r0
  have c := Lib.hid r0.a.cells
  clear hW hg r0
  unfold suV suC at *
  generalize Su.um s.st 5 = a at *
  generalize Su.um s.v 3 = b at *
  generalize Su.um s.wa 4 = n at *
  generalize Su.um s.sq 9 = m at *
  obtain ⟨b20, b21⟩ := b2
  have e5 : wrap64 (1 + b) = 1 + b := IntWalk.wrap64_in _ ⟨by omega, by omega⟩
  go_enter Try.func8, Try.ntmps8
  go_upto_region 1 with fail
  rw [← HW.out, ← HG.out]
  obtain ⟨c0, c1, c2, c3, cl⟩ := c.out
  go_upto_region 2 with fail
  have hb := (Below.refl W1.heap.size W1).alloc (Nat.le_refl _) (.cells #[.int .i64 a, .int .i64 (1 + b), .int .i64 n, .int .i64 m] 23)
  have R2 := Lib.hid (R.out.on hb)
  have X2 := Lib.hid (SuAt.new 23 W1 ⟨a, 1 + b, n, m⟩)
  obtain ⟨k, hk⟩ : ∃ k, k = W1.heap.size := ⟨_, rfl⟩
  have KG : Hid (g + 1 < k) := by have := R.out.r.cells.2.2.2.2; show g + 1 < k; omega
  rw [← hk] at X2 ⊢
  clear hb hk c0 c1 c2 c3 cl R c HW
  unfold suC at *
  simp only at X2
  generalize W1.alloc (.cells #[.int .i64 a, .int .i64 (1 + b), .int .i64 n, .int .i64 m] 23) = W2 at *
  obtain ⟨x0, x1, x2, x3, xl⟩ := X2.out.cells
  obtain ⟨f0, f1, f2, f3⟩ := X2.out.fz
  obtain ⟨z0, z1, z2, z3, zl⟩ := R2.out.r.cells
  obtain ⟨k0, k1, k2, k3⟩ := R2.out.r.fz
  simp only at x0 x1 x2 x3
  have hkg : k ≠ g + 1 := by have := KG.out; omega
  clear e1 e2 e3 e4
  by_cases h0 : a = 0
  · subst h0
    go_wp2_with fail
    exact su_ret1 Try.results8 Try.underlying23 (by kernel_rfl) ((R2.out.far KG.out 1 (.int .i64 0)).fill 0 0 n m) rfl rfl (by rw [E.out]; rfl)
  · have n0 : (a == 0) = false := by simpa using h0
    have E2 : Hid ((if a = 0 then (0 : Int) else 1 + b) = 1 + b) := if_neg h0
    go_wp2_with fail
    exact su_ret1 Try.results8 Try.underlying23 (by kernel_rfl) (R2.out.fill a (1 + b) n m) rfl rfl (by rw [E.out, E2.out])
end Go.Proofs.Ytlkfbnafookjdaa
