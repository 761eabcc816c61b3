/-
  Package kv: slices.IndexFunc and ContainsFunc over a change's ops, whatever the predicate; mayNotBe. No condition.
-/
import Derived.Test.YtmkfiiheeplmgaaKd1
import Derived.Test.YtmkfiiheeplmgaaKvRef5
import Derived.Shelf.Abstract
namespace Go.Proofs.Ytmkfiiheeplmgaa
open Go.RowKit Go.Deep Go.Maps

/-- An op by value. -/
abbrev opV (o : Kv.Po) : Value := .agg #[.string o.key, .string o.val, .int .i64 o.rev, .bool o.drop]
namespace Kv
def badB (o : Po) : Bool := decide (o.key.size = 0) || (decide (64 < o.key.size) || decide (64 < o.val.size))
def oddB (s : St) (o : Po) : Bool := decide (0 ≤ o.rev) && !decide (o.rev = revOf s.l o.key)
def lackB (s : St) (o : Po) : Bool := o.drop && !(find s.l o.key).isSome
theorem badB_iff {o : Po} : badB o = true ↔ ¬ PoOk o := by
  unfold badB PoOk
  simp only [Bool.or_eq_true, decide_eq_true_eq]
  omega
theorem oddB_iff {s : St} {o : Po} : oddB s o = true ↔ Odd s o := by
  unfold oddB Odd
  simp
theorem lackB_iff {s : St} (hs : Good s) {o : Po} : lackB s o = true ↔ Lacks s o := by
  unfold lackB Lacks
  rw [rev_zero hs]
  cases find s.l o.key <;> simp
end Kv
/-- What is asked of a function value that is handed to the library: called with any op of the row, behind whatever was made since, it tells p. -/
def FnB (g : Nat) (pre : Array Value) (p : Kv.Po → Bool) (w0 : World) (l : List Kv.Po) : Prop :=
  ∀ W o, o ∈ l → Below w0.heap.size w0 W → Calls Try.prog g (pre.push (opV o)) W (fun e w' => e = .returned (.bool (p o)) ∧ Below W.heap.size W w')
theorem kvindex_any (g : Nat) (pre : Array Value) (p : Kv.Po → Bool) (eg : ∀ args w, (callFunc g args).run Try.prog w = .ok (.enter g args) w) (l : List Kv.Po) (n c : Nat) (A : Option Addr) (w0 w : World) (h : SlP w0 A n c l) (hb0 : Below w0.heap.size w0 w) (hp : FnB g pre p w l) :
    Calls Try.prog 40 #[.slice A n c, .func (.func g) pre #[]] w (fun e w' => ∃ i : Int, e = .returned (.int .i64 i) ∧ (0 ≤ i ↔ l.any p = true) ∧ Below w.heap.size w w') := by
  have hn := h.len
  have hmx := h.max
  have hcp := h.cap
  unfold maxLen at hmx
  have HA := Lib.hid h
  have HN := Lib.hid hn
  have B0 := Lib.hid hb0
  have HP := Lib.hid hp
  clear h hn hb0 hp
  go_enter Try.func40, Try.ntmps40
  go_wp2_with fail
  go_loopw [5, 8] (fun _ i wr => ∃ j : Nat, j ≤ n ∧ i = .int .i64 j ∧ (∀ o ∈ l.take j, p o = false) ∧ Below w.heap.size w wr) (fun _ i _ => n - (intOf i).toNat)
  case atStart => exact ⟨0, by omega, rfl, by simp, Below.refl _ _⟩
  case round =>
    obtain ⟨j, hj, rfl, hok, hbr⟩ := hrel
    have OK := Lib.hid hok
    have B := Lib.hid hbr
    have BB := Lib.hid (B0.out.trans (hbr.mono B0.out.size))
    clear hok hbr
    by_cases hlt : j < n
    · obtain ⟨b1, o1, rfl⟩ := HA.out.addr (by have := HN.out; omega)
      have EA : Hid (l[j]? = some (l[j]'(by have := HN.out; omega))) := List.getElem?_eq_getElem _
      generalize l[j]'(by have := HN.out; omega) = x at *
      obtain ⟨p0, p1, p2, p3⟩ := HA.out.po EA.out BB.out
      have HM : Hid (x ∈ l) := List.mem_of_getElem? EA.out
      have CC := Lib.hid (HP.out _ x HM.out B.out)
      cases hq : p x with
      | true =>
        rw [hq] at CC
        have HQ := Lib.hid hq
        clear hq
        go_wp2_with (go_at_fn g; (with_reducible refine CC.out.mono ?_); rintro e w1 ⟨rfl, hb1⟩; have B1 := Lib.hid (B.out.trans (hb1.mono B.out.size)); clear hb1)
        go_ret
        refine ⟨_, rfl, ?_, B1.out⟩
        rw [List.any_eq_true]
        exact ⟨fun _ => ⟨x, HM.out, HQ.out⟩, fun _ => by omega⟩
      | false =>
        rw [hq] at CC
        have HQ := Lib.hid hq
        clear hq
        go_wp2_with (go_at_fn g; (with_reducible refine CC.out.mono ?_); rintro e w1 ⟨rfl, hb1⟩; have B1 := Lib.hid (B.out.trans (hb1.mono B.out.size)); clear hb1)
        refine ⟨⟨j + 1, by omega, by go_num, fun o ho => ?_, B1.out⟩, by simp [intOf]; omega⟩
        rw [List.take_add_one, EA.out] at ho
        rcases List.mem_append.1 ho with ho | ho
        · exact OK.out o ho
        · simp at ho; subst ho; exact HQ.out
    · have E : Hid (l.take j = l) := List.take_of_length_le (by have := HN.out; omega)
      rw [E.out] at OK
      go_wp2_with fail
      go_ret
      refine ⟨_, rfl, ?_, B.out⟩
      rw [List.any_eq_true]
      refine ⟨fun h => by omega, fun ⟨o, ho, hp⟩ => ?_⟩
      rw [OK.out o ho] at hp
      cases hp
theorem kvcontains_any (g : Nat) (pre : Array Value) (p : Kv.Po → Bool) (eg : ∀ args w, (callFunc g args).run Try.prog w = .ok (.enter g args) w) (l : List Kv.Po) (n c : Nat) (A : Option Addr) (w0 w : World) (h : SlP w0 A n c l) (hb0 : Below w0.heap.size w0 w) (hp : FnB g pre p w l) :
    Calls Try.prog 32 #[.slice A n c, .func (.func g) pre #[]] w (fun e w' => e = .returned (.bool (l.any p)) ∧ Below w.heap.size w w') := by
  have C := Lib.hid (kvindex_any g pre p eg l n c A w0 w h hb0 hp)
  clear h hb0 hp eg
  generalize l.any p = b at C ⊢
  go_enter Try.func32, Try.ntmps32
  go_wp2_with (go_at_call 40; (with_reducible refine C.out.mono ?_); rintro e w1 ⟨i, rfl, hi, hb1⟩; have B1 := Lib.hid hb1; have HI := Lib.hid hi; clear hb1 hi)
  go_ret
  refine ⟨?_, B1.out⟩
  cases b with
  | true =>
    have : 0 ≤ i := HI.out.2 rfl
    simp [this]
  | false =>
    have : ¬ 0 ≤ i := fun h => by have := HI.out.1 h; cases this
    simp [this]
theorem kvbad_any (W : World) (o : Kv.Po) (h1 : o.key.size ≤ maxLen) (h2 : o.val.size ≤ maxLen) : Calls Try.prog 33 (#[].push (opV o)) W (fun e w' => e = .returned (.bool (Kv.badB o)) ∧ Below W.heap.size W w') := by
  have B1 := Lib.hid ((Below.refl W.heap.size W).alloc (Nat.le_refl _) (.cells #[.string o.key, .string o.val, .int .i64 o.rev, .bool o.drop] 52))
  unfold maxLen at h1 h2
  have hs1 : (o.key.size : Int) ≤ 9223372036854775807 := by omega
  have hs2 : (o.val.size : Int) ≤ 9223372036854775807 := by omega
  unfold opV Kv.badB
  obtain ⟨key, val, rev, drop⟩ := o
  simp only at *
  show Calls _ _ #[_] _ _
  by_cases g1 : key.size = 0
  · have hk : key = ⟨#[]⟩ := ByteArray.ext (Array.eq_empty_of_size_eq_zero g1)
    subst hk
    go_enter Try.func33, Try.ntmps33
    go_wp2_with fail
    go_ret
    exact ⟨rfl, B1.out⟩
  · have hk : key.toList.isEmpty = false := by
      rw [Bool.eq_false_iff]
      intro h
      refine g1 ?_
      have h1 : key.toList = ByteArray.toList ⟨#[]⟩ := (List.isEmpty_iff.1 h).trans (by rw [ByteArray.toList_eq])
      rw [Kv.teq.1 (beq_iff_eq.2 h1)]; rfl
    by_cases g2 : (64 : Int) < key.size
    · go_enter Try.func33, Try.ntmps33
      go_wp2_with fail
      go_ret
      refine ⟨?_, B1.out⟩
      show Ending.returned (.bool _) = Ending.returned (.bool _)
      refine congrArg (fun b => Ending.returned (.bool b)) ?_
      rw [Bool.eq_iff_iff]
      simp
      omega
    · go_enter Try.func33, Try.ntmps33
      go_wp2_with fail
      go_ret
      refine ⟨?_, B1.out⟩
      show Ending.returned (.bool _) = Ending.returned (.bool _)
      refine congrArg (fun b => Ending.returned (.bool b)) ?_
      rw [Bool.eq_iff_iff]
      simp
      omega
end Go.Proofs.Ytmkfiiheeplmgaa
