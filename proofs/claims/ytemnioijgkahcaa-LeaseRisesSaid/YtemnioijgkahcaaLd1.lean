/-
  Package lease: a lease by value, compared with others; the small calls on it; mayBe; how the map's elements are told. No condition.
-/
import Derived.Test.YtemnioijgkahcaaMapG
import Derived.Test.YtemnioijgkahcaaEqF
import Derived.Test.YtemnioijgkahcaaLsLaw3
import Derived.Laws.ByValue
import Derived.IntWalk
namespace Go.Proofs.Ytemnioijgkahcaa
open Go.RowKit Go.Deep Go.Maps Go.WideMaps

/-! A lease by value. -/
abbrev leV (a b c : Int) : Value := .agg #[.int .i64 a, .int .i64 b, .int .i64 c]
def leD (z : Int × Int × Int) : DataW Unit := .agg [.lit (.int .i64 z.1), .lit (.int .i64 z.2.1), .lit (.int .i64 z.2.2)]
def leR : Value → Option (DataW Unit × List MemPlace)
  | .agg ⟨[.int .i64 a, .int .i64 b, .int .i64 c]⟩ => some (leD (a, b, c), [])
  | _ => none
theorem leR_inv {v : Value} {z : DataW Unit × List MemPlace} (h : leR v = some z) : ∃ a b c, v = leV a b c ∧ z = (leD (a, b, c), []) := by
  unfold leR at h
  split at h
  · rename_i a b c
    exact ⟨a, b, c, rfl, (Option.some.inj h).symm⟩
  · cases h
theorem leD_inj {z z' : Int × Int × Int} (h : leD z = leD z') : z = z' := by
  obtain ⟨a, b, c⟩ := z
  obtain ⟨a', b', c'⟩ := z'
  unfold leD at h
  injection h with h
  simp only [List.cons.injEq, and_true] at h
  obtain ⟨h1, h2, h3⟩ := h
  injection h1 with h1; injection h1 with _ h1
  injection h2 with h2; injection h2 with _ h2
  injection h3 with h3; injection h3 with _ h3
  rw [show a = a' from h1, show b = b' from h2, show c = c' from h3]
theorem zero_lease (w : World) : (zeroValue 36).run Try.prog w = .ok (leV 0 0 0) w := by kernel_rfl
theorem str_inj {a b : ByteArray} (h : Lit.string a.data.toList = Lit.string b.data.toList) : a = b := by
  injection h with h
  exact ByteArray.ext (Array.ext' h)
/-- Maps of leases by their names. -/
def LM : MapW Try.prog 9 36 49 ByteArray (Int × Int × Int) where
  kv := .string
  kl := fun k => .string k.data.toList
  ok := fun k => k.size ≤ maxLen
  ev := fun z => leV z.1 z.2.1 z.2.2
  ed := leD
  R := leR
  zero := (0, 0, 0)
  keyed := string_keyed Try.underlying9
  ty := Try.underlying49
  key := fun _ h => keyOf_string_mk Try.underlying9 h
  inv := fun v z h => by
    exact string_of_keyOf Try.underlying9 h
  inj := fun _ _ h => str_inj h
  isKey := fun _ => trivial
  rd := fun _ => rfl
  rinv := fun x z h => by
    obtain ⟨a, b, c, rfl, rfl⟩ := leR_inv h
    exact ⟨(a, b, c), rfl, rfl⟩
  einj := fun _ _ h => leD_inj h
  hz := zero_lease

theorem lease_eqIn (a b c a' b' c' : Int) (d : Nat) (W : World) : (Op.equalIn (d + 2) 36 (leV a b c) (leV a' b' c')).run Try.prog W = .ok ((a == a') && ((b == b') && ((c == c') && true))) W := by
  rw [run_equalIn_agg W (d + 1) 36 _ _ lease_fields lease_stood]
  have hi : ∀ x y, (Op.equalIn (d + 1) 3 (.int .i64 x) (.int .i64 y)).run Try.prog W = .ok (x == y) W := fun x y => run_equalIn_int W d 3 .i64 .i64 x y Try.underlying3
  simp only [Program.fieldsOf, Try.underlying36]
  refine eqf_cons (by decide) ?_ ?_ (hi _ _) (eqf_cons (by decide) ?_ ?_ (hi _ _) (eqf_cons (by decide) ?_ ?_ (hi _ _) eqf_nil))
  all_goals simp [go_sem, Sem.run_bind, Result.andThen]
theorem lease_eq {a b c a' b' c' : Int} {x : Bool} (h : x = true ↔ a = a' ∧ b = b' ∧ c = c') (W : World) : (binOp .eql 36 (leV a b c) (leV a' b' c')).run Try.prog W = .ok (.bool x) W := by
  have e : x = ((a == a') && ((b == b') && ((c == c') && true))) := by
    rw [Bool.eq_iff_iff, h]
    simp
  rw [run_eql_struct, lease_eqIn, e]
  rfl
theorem lease_neq {a b c a' b' c' : Int} {x : Bool} (h : x = true ↔ ¬ (a = a' ∧ b = b' ∧ c = c')) (W : World) : (binOp .neq 36 (leV a b c) (leV a' b' c')).run Try.prog W = .ok (.bool x) W := by
  have e : x = !((a == a') && ((b == b') && ((c == c') && true))) := by
    rw [Bool.eq_iff_iff, h]
    simp only [Bool.not_eq_true', Bool.and_eq_false_iff, beq_eq_false_iff_ne, Bool.true_eq_false, or_false]
    rw [Classical.not_and_iff_not_or_not, Classical.not_and_iff_not_or_not]
  rw [run_neq_struct, lease_eqIn, e]
  rfl
/-- What tells a truth, told. -/
theorem LBool.fix {f : FuncId} {vs : Array Value} {W : World} {p : Prop} (h : Calls Try.prog f vs W (LBool p W)) {b : Bool} (hb : b = true ↔ p) : Calls Try.prog f vs W (fun e w' => e = .returned (.bool b) ∧ Below W.heap.size W w') := by
  refine h.mono fun e w' ⟨⟨x, h1, h2⟩, h3⟩ => ⟨?_, h3⟩
  have : x = b := by rw [Bool.eq_iff_iff, h2, hb]
  rw [h1, this]
theorem lbool_of {f : FuncId} {vs : Array Value} {W : World} {p : Prop} (b : Bool) (hb : b = true ↔ p) (h : Calls Try.prog f vs W (fun e w' => e = .returned (.bool b) ∧ Below W.heap.size W w')) : Calls Try.prog f vs W (LBool p W) :=
  h.mono fun _ _ ⟨h1, h2⟩ => ⟨⟨b, h1, hb⟩, h2⟩

theorem lsdropped_any (W : World) (a b c : Int) : Calls Try.prog 27 #[leV a b c] W (fun e w' => e = .returned (.bool (c == 0)) ∧ Below W.heap.size W w') := by
  have hE := fun W => lease_eq (a := a) (b := b) (c := c) (a' := a) (b' := b) (c' := 0) (x := c == 0) (by simp) W
  have B1 := Lib.hid ((Below.refl W.heap.size W).alloc (Nat.le_refl _) (.cells #[.int .i64 a, .int .i64 b, .int .i64 c] 36))
  generalize (c == 0) = x at *
  unfold leV at *
  go_enter Try.func27, Try.ntmps27
  go_wp2_with fail
  go_ret
  exact ⟨rfl, B1.out⟩
theorem lstaken_any (W : World) (a b c : Int) {x : Bool} (hx : x = true ↔ ¬ (a = 0 ∧ b = 0 ∧ c = 0)) : Calls Try.prog 28 #[leV a b c] W (fun e w' => e = .returned (.bool x) ∧ Below W.heap.size W w') := by
  have hE := fun W => lease_neq hx W
  have B1 := Lib.hid ((Below.refl W.heap.size W).alloc (Nat.le_refl _) (.cells #[.int .i64 a, .int .i64 b, .int .i64 c] 36))
  clear hx
  unfold leV at *
  go_enter Try.func28, Try.ntmps28
  go_wp2_with fail
  go_ret
  exact ⟨rfl, B1.out⟩
theorem lsof_any (W : World) (a b c h ep : Int) {x : Bool} (hx : x = true ↔ a = h ∧ b = ep) : Calls Try.prog 29 #[leV a b c, .int .i64 h, .int .i64 ep] W (fun e w' => e = .returned (.bool x) ∧ Below W.heap.size W w') := by
  have hE := fun W => lease_eq (a := a) (b := b) (c := c) (a' := h) (b' := ep) (c' := c) (x := x) (by rw [hx]; simp) W
  have B1 := Lib.hid ((Below.refl W.heap.size W).alloc (Nat.le_refl _) (.cells #[.int .i64 a, .int .i64 b, .int .i64 c] 36))
  clear hx
  unfold leV at *
  go_enter Try.func29, Try.ntmps29
  go_wp2_with fail
  go_ret
  exact ⟨rfl, B1.out⟩
theorem lslater_any (W : World) (a b : Int) (h1 : -4611686018427387904 ≤ a) (h2 : a ≤ 4611686018427387904) (h3 : -4611686018427387904 ≤ b) (h4 : b ≤ 4611686018427387903) : Calls Try.prog 24 #[.int .i64 a, .int .i64 b] W (fun e w' => e = .returned (.int .i64 (Ls.late a b)) ∧ w' = W) := by
  have hs : wrap64 (a + b) = a + b := IntWalk.wrap64_in _ ⟨by omega, by omega⟩
  unfold Ls.late
  go_enter Try.func24, Try.ntmps24
  go_wp2_with fail
  go_ret
  exact ⟨rfl, rfl⟩
end Go.Proofs.Ytemnioijgkahcaa
