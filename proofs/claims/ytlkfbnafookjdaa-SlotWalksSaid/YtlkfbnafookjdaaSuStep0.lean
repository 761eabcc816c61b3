/-
  The law's step of layer 15: both slots go on alike. Written by wip/tools/gen/sustep.py. No condition.
-/
import Derived.Test.YtlkfbnafookjdaaSlotSettlesWalk
namespace Go.Proofs.Ytlkfbnafookjdaa
open Go.RowKit Go.Deep
set_option linter.unusedSimpArgs false
set_option linter.unusedVariables false

/-- What step lays: both slots boxed, two numbers, both answers' blocks. -/
structure Sp (W w : World) (g : Nat) (x : Su.S) (a b : Int) (r1 r2 : Su.S) : Prop where
  s : SuAt 28 w g x
  r : SuAt 23 w (g + 1) x
  n : w.heap[g + 1 + 1]? = some (.cells #[.int .i64 a, .int .i64 b] 29 (0, 0))
  y : SuAt 28 w (g + 1 + 1 + 1) r1
  z : SuAt 23 w (g + 1 + 1 + 1 + 1) r2
  b : Below W.heap.size W w
  g : W.heap.size ≤ g
section
variable {W w w' : World} {g : Nat} {x r1 r2 : Su.S} {a b : Int}
theorem Sp.on (h : Sp W w g x a b r1 r2) (hb : Below w.heap.size w w') : Sp W w' g x a b r1 r2 := ⟨h.s.on hb, h.r.on hb, blk_on h.n hb, h.y.on hb, h.z.on hb, h.b.trans (hb.mono h.b.size), h.g⟩
theorem Sp.drew (h : Sp W w g x a b r1 r2) : Sp W w.drew g x a b r1 r2 := h.on (Below.refl _ _).drew
theorem sp_y (h : Sp W w g x a b r1 r2) (i : Nat) (v : Value) {r : Su.S} (hs : SuAt 28 (w.setCell ⟨g + 1 + 1 + 1, i, none⟩ v) (g + 1 + 1 + 1) r) : Sp W (w.setCell ⟨g + 1 + 1 + 1, i, none⟩ v) g x a b r r2 :=
  ⟨set_apart h.s (by omega) _ _, set_apart h.r (by omega) _ _, (Below.heap_setCell _ _ _ _ (by simp)).trans h.n, hs, set_apart h.z (by omega) _ _, h.b.setCell (by have := h.g; show _ ≤ g + 1 + 1 + 1; omega) _, h.g⟩
theorem sp_z (h : Sp W w g x a b r1 r2) (i : Nat) (v : Value) {r : Su.S} (hs : SuAt 23 (w.setCell ⟨g + 1 + 1 + 1 + 1, i, none⟩ v) (g + 1 + 1 + 1 + 1) r) : Sp W (w.setCell ⟨g + 1 + 1 + 1 + 1, i, none⟩ v) g x a b r1 r :=
  ⟨set_apart h.s (by omega) _ _, set_apart h.r (by omega) _ _, (Below.heap_setCell _ _ _ _ (by simp)).trans h.n, set_apart h.y (by omega) _ _, hs, h.b.setCell (by have := h.g; show _ ≤ g + 1 + 1 + 1 + 1; omega) _, h.g⟩
theorem Sp.fy (h : Sp W w g x a b r1 r2) (r : Su.S) : Sp W ((((w.setCell ⟨g + 1 + 1 + 1, 0, none⟩ (.int .i64 r.st)).setCell ⟨g + 1 + 1 + 1, 1, none⟩ (.int .i64 r.v)).setCell ⟨g + 1 + 1 + 1, 2, none⟩ (.int .i64 r.wa)).setCell ⟨g + 1 + 1 + 1, 3, none⟩ (.int .i64 r.sq)) g x a b r r2 := by
  have h0 := sp_y h 0 _ (h.y.set0 r.st)
  have h1 := sp_y h0 1 _ (h0.y.set1 r.v)
  have h2 := sp_y h1 2 _ (h1.y.set2 r.wa)
  exact sp_y h2 3 _ (h2.y.set3 r.sq)
theorem Sp.fz (h : Sp W w g x a b r1 r2) (r : Su.S) : Sp W ((((w.setCell ⟨g + 1 + 1 + 1 + 1, 0, none⟩ (.int .i64 r.st)).setCell ⟨g + 1 + 1 + 1 + 1, 1, none⟩ (.int .i64 r.v)).setCell ⟨g + 1 + 1 + 1 + 1, 2, none⟩ (.int .i64 r.wa)).setCell ⟨g + 1 + 1 + 1 + 1, 3, none⟩ (.int .i64 r.sq)) g x a b r1 r := by
  have h0 := sp_z h 0 _ (h.z.set0 r.st)
  have h1 := sp_z h0 1 _ (h0.z.set1 r.v)
  have h2 := sp_z h1 2 _ (h1.z.set2 r.wa)
  exact sp_z h2 3 _ (h2.z.set3 r.sq)
end
theorem sp_new (W : World) (x : Su.S) (a b : Int) : ∃ g W1, W1 = ((((W.alloc (.cells #[.int .i64 x.st, .int .i64 x.v, .int .i64 x.wa, .int .i64 x.sq] 28)).alloc (.cells #[.int .i64 x.st, .int .i64 x.v, .int .i64 x.wa, .int .i64 x.sq] 23)).alloc (.cells #[.int .i64 a, .int .i64 b] 29)).alloc (.cells #[.int .i64 0, .int .i64 0, .int .i64 0, .int .i64 0] 28)).alloc (.cells #[.int .i64 0, .int .i64 0, .int .i64 0, .int .i64 0] 23) ∧ g = W.heap.size ∧ Sp W W1 g x a b Su.zero Su.zero := by
  refine ⟨_, _, rfl, rfl, ?_⟩
  have e0 := SuAt.new 28 W x
  generalize hA : W.alloc (.cells (suC x) 28) = A at *
  have zA : A.heap.size = W.heap.size + 1 := by rw [← hA]; simp
  have bA : Below W.heap.size W A := by rw [← hA]; exact (Below.refl _ _).alloc (Nat.le_refl _) _
  have e1 := SuAt.new 23 A x
  have bB := (Below.refl A.heap.size A).alloc (Nat.le_refl _) (.cells (suC x) 23)
  generalize hB : A.alloc (.cells (suC x) 23) = B at *
  have zB : B.heap.size = W.heap.size + 2 := by rw [← hB]; simp; omega
  have e2 := heap_alloc_new B (.cells #[.int .i64 a, .int .i64 b] 29)
  have bC := (Below.refl B.heap.size B).alloc (Nat.le_refl _) (.cells #[.int .i64 a, .int .i64 b] 29)
  generalize hC : B.alloc (.cells #[.int .i64 a, .int .i64 b] 29) = C at *
  have zC : C.heap.size = W.heap.size + 3 := by rw [← hC]; simp; omega
  have e3 := SuAt.new 28 C Su.zero
  have bD := (Below.refl C.heap.size C).alloc (Nat.le_refl _) (.cells (suC Su.zero) 28)
  generalize hD : C.alloc (.cells (suC Su.zero) 28) = D at *
  have zD : D.heap.size = W.heap.size + 4 := by rw [← hD]; simp; omega
  have e4 := SuAt.new 23 D Su.zero
  have bE := (Below.refl D.heap.size D).alloc (Nat.le_refl _) (.cells (suC Su.zero) 23)
  rw [zA] at e1
  rw [zB] at e2
  rw [zC] at e3
  rw [zD] at e4
  have hE : (((B.alloc (.cells #[.int .i64 a, .int .i64 b] 29)).alloc (.cells #[.int .i64 0, .int .i64 0, .int .i64 0, .int .i64 0] 28)).alloc (.cells #[.int .i64 0, .int .i64 0, .int .i64 0, .int .i64 0] 23)) = D.alloc (.cells (suC Su.zero) 23) := by rw [← hD, ← hC]; rfl
  first | rw [hE] | (rw [← hD, ← hC] at *)
  exact ⟨(((e0.on bB).on bC).on bD).on bE, ((e1.on bC).on bD).on bE, blk_on (blk_on e2 bD) bE, e3.on bE, e4, bA.trans ((bB.trans ((bC.trans ((bD.trans (bE.mono bD.size)).mono bC.size)).mono bB.size)).mono bA.size), Nat.le_refl _⟩
/-- What step answers: both alike. -/
def StepPost (W : World) (y : Su.S) (e : Ending) (w' : World) : Prop := e = .returned (.tuple #[suV y, suV y, .bool true]) ∧ Below W.heap.size W w'
theorem su_ret3 {fn : Func} {p q u : Tmp} (hf : fn.results = #[.cell p 28, .cell q 23, .tmp u]) {W w : World} {g : Nat} {x y : Su.S} {m n : Int} (h : Sp W w g x m n y y) {a : Act}
    (hp : a.tmps.getD p undef = .pointer (some ⟨g + 1 + 1 + 1, 0, none⟩)) (hq : a.tmps.getD q undef = .pointer (some ⟨g + 1 + 1 + 1 + 1, 0, none⟩)) (hb : a.tmps.getD u undef = .bool true) (hdf : a.defers = []) : bodyPost Try.prog fn (StepPost W y) .ret a w := by
  refine bodyPost_ret (v := .tuple #[suV y, suV y, .bool true]) ?_ hdf ⟨rfl, h.b⟩
  have h1 := run_loadVar_su Try.underlying28 (by kernel_rfl) h.y
  have h2 := run_loadVar_su Try.underlying23 (by kernel_rfl) h.z
  simp only [results, hf]
  have hp' : a.tmps[p]?.getD undef = .pointer (some ⟨g + 1 + 1 + 1, 0, none⟩) := by simpa using hp
  have hq' : a.tmps[q]?.getD undef = .pointer (some ⟨g + 1 + 1 + 1 + 1, 0, none⟩) := by simpa using hq
  have hb' : a.tmps[u]?.getD undef = .bool true := by simpa using hb
  simp [Sem.run_bind, Result.andThen, hp', hq', hb', asAddr, h1, h2]
end Go.Proofs.Ytlkfbnafookjdaa
