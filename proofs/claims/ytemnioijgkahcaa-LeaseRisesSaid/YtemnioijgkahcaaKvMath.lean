/-
  Layer 8 in numbers and texts: a store as a rising list. No program is named.
-/
import Derived.Laws.Strings
namespace Go.Proofs.Ytemnioijgkahcaa.Kv

/-! Texts in their order. -/
theorem bl_irrefl : ∀ x : List UInt8, Op.bytesLess x x = false
  | [] => rfl
  | a :: x => by simp [Op.bytesLess, bl_irrefl x]
theorem bl_trans : ∀ x y z : List UInt8, Op.bytesLess x y = true → Op.bytesLess y z = true → Op.bytesLess x z = true
  | _, _, [], _, h => by cases ‹List UInt8› <;> simp [Op.bytesLess] at h
  | [], _, _ :: _, _, _ => rfl
  | _ :: _, [], _ :: _, h, _ => by simp [Op.bytesLess] at h
  | a :: x, b :: y, c :: z, h1, h2 => by
    simp only [Op.bytesLess, Bool.or_eq_true, decide_eq_true_eq, Bool.and_eq_true, beq_iff_eq] at h1 h2 ⊢
    rcases h1 with h1 | ⟨rfl, h1⟩
    · rcases h2 with h2 | ⟨rfl, h2⟩
      · exact .inl (UInt8.lt_trans h1 h2)
      · exact .inl h1
    · rcases h2 with h2 | ⟨rfl, h2⟩
      · exact .inl h2
      · exact .inr ⟨rfl, bl_trans x y z h1 h2⟩
theorem bl_tri : ∀ x y : List UInt8, Op.bytesLess x y = false → Op.bytesLess y x = false → x = y
  | [], [], _, _ => rfl
  | [], _ :: _, h, _ => by simp [Op.bytesLess] at h
  | _ :: _, [], _, h => by simp [Op.bytesLess] at h
  | a :: x, b :: y, h1, h2 => by
    simp only [Op.bytesLess, Bool.or_eq_false_iff, decide_eq_false_iff_not, Bool.and_eq_false_iff, beq_eq_false_iff_ne] at h1 h2
    have hab : a = b := UInt8.le_antisymm (UInt8.not_lt.1 h2.1) (UInt8.not_lt.1 h1.1)
    subst hab
    rw [bl_tri x y (h1.2.resolve_left fun h => h rfl) (h2.2.resolve_left fun h => h rfl)]
def lt (a b : ByteArray) : Prop := Op.bytesLess a.toList b.toList = true
instance (a b : ByteArray) : Decidable (lt a b) := inferInstanceAs (Decidable (_ = true))
theorem teq {a b : ByteArray} : (a.toList == b.toList) = true ↔ a = b := by
  rw [beq_iff_eq]
  constructor
  · intro h
    rw [ByteArray.toList_eq, ByteArray.toList_eq] at h
    exact ByteArray.ext (Array.ext' h)
  · rintro rfl; rfl
theorem tne {a b : ByteArray} : (a.toList == b.toList) = false ↔ a ≠ b := by
  rw [← Bool.not_eq_true, teq]
theorem lt_irrefl (a : ByteArray) : ¬ lt a a := by unfold lt; rw [bl_irrefl]; simp
theorem lt_ne {a b : ByteArray} (h : lt a b) : a ≠ b := fun e => lt_irrefl b (e ▸ h)
theorem lt_trans {a b c : ByteArray} (h1 : lt a b) (h2 : lt b c) : lt a c := bl_trans _ _ _ h1 h2
theorem lt_asymm {a b : ByteArray} (h1 : lt a b) : ¬ lt b a := fun h2 => lt_irrefl _ (lt_trans h1 h2)
theorem lt_tri {a b : ByteArray} (h1 : ¬ lt a b) (h2 : a ≠ b) : lt b a := by
  unfold lt at *
  by_cases h : Op.bytesLess b.toList a.toList = true
  · exact h
  · exact absurd (teq.1 (beq_iff_eq.2 (bl_tri _ _ (by simpa using h1) (by simpa using h)))) h2
/-- What '>' tells. -/
theorem gt_eq (a b : ByteArray) : (!(Op.bytesLess a.toList b.toList || a.toList == b.toList)) = true ↔ lt b a := by
  simp only [Bool.not_eq_true', Bool.or_eq_false_iff, tne]
  constructor
  · rintro ⟨h1, h2⟩
    exact lt_tri (by unfold lt; rw [h1]; simp) h2
  · intro h
    exact ⟨by simpa [lt] using lt_asymm h, fun e => lt_ne h e.symm⟩

/-! A store, its entries rising by key. -/
structure Po where
  key : ByteArray
  val : ByteArray
  rev : Int
  drop : Bool
structure En where
  key : ByteArray
  val : ByteArray
  rev : Int
structure St where
  l : List En
  rev : Int
def St.none : St := ⟨[], 0⟩
def find (l : List En) (k : ByteArray) : Option En := l.find? fun e => e.key.toList == k.toList
def valOf (l : List En) (k : ByteArray) : ByteArray := match find l k with | some e => e.val | Option.none => ⟨#[]⟩
def revOf (l : List En) (k : ByteArray) : Int := match find l k with | some e => e.rev | Option.none => 0
def keysOf (l : List En) : List ByteArray := l.map (·.key)
def since (s : St) (r : Int) : List ByteArray := ((s.l.filter fun e => decide (r < e.rev)).map (·.key))
def Rise (l : List En) : Prop := l.Pairwise fun a b => lt a.key b.key
/-- What a store keeps. -/
structure Good (s : St) : Prop where
  rise : Rise s.l
  rev0 : 0 ≤ s.rev
  revs : ∀ e ∈ s.l, 1 ≤ e.rev ∧ e.rev ≤ s.rev
  len : s.l.length ≤ 64
  size : ∀ e ∈ s.l, 1 ≤ e.key.size ∧ e.key.size ≤ 64 ∧ e.val.size ≤ 64
theorem Good.none_ : Good St.none := ⟨List.Pairwise.nil, Int.le_refl _, by simp [St.none], by simp [St.none], by simp [St.none]⟩
theorem find_nil (k : ByteArray) : find [] k = none := rfl
theorem find_cons (e : En) (l : List En) (k : ByteArray) : find (e :: l) k = if e.key = k then some e else find l k := by
  unfold find
  by_cases h : e.key = k
  · rw [if_pos h, List.find?_cons_of_pos (p := fun e : En => e.key.toList == k.toList) (teq.2 h)]
  · rw [if_neg h, List.find?_cons_of_neg (p := fun e : En => e.key.toList == k.toList) (fun h2 => h (teq.1 h2))]
theorem find_some {l : List En} {k : ByteArray} {e : En} (h : find l k = some e) : e ∈ l ∧ e.key = k := by
  unfold find at h
  exact ⟨List.mem_of_find?_eq_some h, teq.1 (List.find?_some (p := fun e : En => e.key.toList == k.toList) h)⟩
theorem find_none {l : List En} {k : ByteArray} : find l k = none ↔ ∀ e ∈ l, e.key ≠ k := by
  unfold find
  rw [List.find?_eq_none]
  exact ⟨fun h e he hk => h e he (teq.2 hk), fun h e he hk => h e he (teq.1 hk)⟩
theorem find_first {k : ByteArray} (a b : List En) (x : En) (h : ∀ e ∈ a, e.key ≠ k) (hk : x.key = k) : find (a ++ x :: b) k = some x := by
  induction a with
  | nil => rw [List.nil_append, find_cons, if_pos hk]
  | cons y a ih => rw [List.cons_append, find_cons, if_neg (h y (List.mem_cons_self ..)), ih fun e he => h e (List.mem_cons_of_mem _ he)]
theorem find_mem {l : List En} (h : Rise l) {e : En} (he : e ∈ l) : find l e.key = some e := by
  induction l with
  | nil => cases he
  | cons a l ih =>
    rw [find_cons]
    rcases List.mem_cons.1 he with rfl | he
    · rw [if_pos rfl]
    · have hr := List.pairwise_cons.1 h
      rw [if_neg (lt_ne (hr.1 e he)), ih hr.2 he]

/-! A change. -/
def PoOk (o : Po) : Prop := 1 ≤ o.key.size ∧ o.key.size ≤ 64 ∧ o.val.size ≤ 64
def Right (ops : List Po) : Prop := 0 < ops.length ∧ (∀ o ∈ ops, PoOk o) ∧ ops.Pairwise fun a b => a.key ≠ b.key
def dropK (l : List En) (k : ByteArray) : List En := l.filter fun e => !(e.key.toList == k.toList)
def putK (l : List En) (e : En) : List En := (l.takeWhile fun x => !(!(Op.bytesLess x.key.toList e.key.toList || x.key.toList == e.key.toList))) ++ e :: (l.dropWhile fun x => !(!(Op.bytesLess x.key.toList e.key.toList || x.key.toList == e.key.toList)))
def step (r : Int) (l : List En) (o : Po) : List En := if o.drop then dropK l o.key else putK (dropK l o.key) ⟨o.key, o.val, r⟩
def after (s : St) (ops : List Po) : St := ⟨ops.foldl (step (s.rev + 1)) s.l, s.rev + 1⟩
def Odd (s : St) (o : Po) : Prop := 0 ≤ o.rev ∧ o.rev ≠ revOf s.l o.key
def Lacks (s : St) (o : Po) : Prop := o.drop = true ∧ revOf s.l o.key = 0
open Classical in
/-- The error's number. -/
noncomputable def doE (s : St) (ops : List Po) : Nat :=
  if ¬ Right ops then 1 else if ∃ o ∈ ops, Odd s o then 7 else if ∃ o ∈ ops, Lacks s o then 5 else if 64 < (after s ops).l.length then 4 else 0
open Classical in
noncomputable def doS (s : St) (ops : List Po) : St := if doE s ops = 0 then after s ops else s
open Classical in
noncomputable def doN (s : St) (ops : List Po) : Int := if doE s ops = 0 then s.rev + 1 else 0
theorem doE_right {s : St} {ops : List Po} (h : ¬ Right ops) : doE s ops = 1 := by unfold doE; rw [if_pos h]
theorem doE_odd {s : St} {ops : List Po} (h1 : Right ops) (h2 : ∃ o ∈ ops, Odd s o) : doE s ops = 7 := by unfold doE; rw [if_neg (fun h => h h1), if_pos h2]
theorem doE_lacks {s : St} {ops : List Po} (h1 : Right ops) (h2 : ∀ o ∈ ops, ¬ Odd s o) (h3 : ∃ o ∈ ops, Lacks s o) : doE s ops = 5 := by
  unfold doE; rw [if_neg (fun h => h h1), if_neg (fun ⟨o, ho, h⟩ => h2 o ho h), if_pos h3]
theorem doE_full {s : St} {ops : List Po} (h1 : Right ops) (h2 : ∀ o ∈ ops, ¬ Odd s o) (h3 : ∀ o ∈ ops, ¬ Lacks s o) (h4 : 64 < (after s ops).l.length) : doE s ops = 4 := by
  unfold doE; rw [if_neg (fun h => h h1), if_neg (fun ⟨o, ho, h⟩ => h2 o ho h), if_neg (fun ⟨o, ho, h⟩ => h3 o ho h), if_pos h4]
theorem doE_ok {s : St} {ops : List Po} (h1 : Right ops) (h2 : ∀ o ∈ ops, ¬ Odd s o) (h3 : ∀ o ∈ ops, ¬ Lacks s o) (h4 : ¬ 64 < (after s ops).l.length) : doE s ops = 0 := by
  unfold doE; rw [if_neg (fun h => h h1), if_neg (fun ⟨o, ho, h⟩ => h2 o ho h), if_neg (fun ⟨o, ho, h⟩ => h3 o ho h), if_neg h4]
theorem doE_zero {s : St} {ops : List Po} (h : doE s ops = 0) : Right ops ∧ (∀ o ∈ ops, ¬ Odd s o) ∧ (∀ o ∈ ops, ¬ Lacks s o) ∧ (after s ops).l.length ≤ 64 := by
  unfold doE at h
  split at h
  · omega
  · rename_i h1
    split at h
    · omega
    · rename_i h2
      split at h
      · omega
      · rename_i h3
        split at h
        · omega
        · rename_i h4
          exact ⟨Classical.not_not.1 h1, fun o ho h => h2 ⟨o, ho, h⟩, fun o ho h => h3 ⟨o, ho, h⟩, by omega⟩
theorem doE_cases (s : St) (ops : List Po) : doE s ops = 0 ∨ doE s ops = 1 ∨ doE s ops = 4 ∨ doE s ops = 5 ∨ doE s ops = 7 := by
  unfold doE
  split
  · exact .inr (.inl rfl)
  · split
    · simp
    · split
      · simp
      · split <;> simp
theorem doS_ok {s : St} {ops : List Po} (h : doE s ops = 0) : doS s ops = after s ops ∧ doN s ops = s.rev + 1 := by unfold doS doN; rw [if_pos h, if_pos h]; exact ⟨rfl, rfl⟩
theorem doS_no {s : St} {ops : List Po} (h : doE s ops ≠ 0) : doS s ops = s ∧ doN s ops = 0 := by unfold doS doN; rw [if_neg h, if_neg h]; exact ⟨rfl, rfl⟩

/-! What dropping and putting leave. -/
theorem mem_dropK {l : List En} {k : ByteArray} {e : En} : e ∈ dropK l k ↔ e ∈ l ∧ e.key ≠ k := by
  unfold dropK
  rw [List.mem_filter, Bool.not_eq_true', tne]
theorem dropK_rise {l : List En} (h : Rise l) (k : ByteArray) : Rise (dropK l k) := List.Pairwise.filter _ h
theorem dropK_cons (e : En) (l : List En) (k : ByteArray) : dropK (e :: l) k = if e.key = k then dropK l k else e :: dropK l k := by
  unfold dropK
  by_cases h : e.key = k
  · rw [if_pos h, List.filter_cons_of_neg (by rw [teq.2 h]; simp)]
  · rw [if_neg h, List.filter_cons_of_pos (by rw [tne.2 h]; rfl)]
theorem find_dropK (l : List En) (k k' : ByteArray) : find (dropK l k) k' = if k' = k then none else find l k' := by
  induction l with
  | nil => rw [show dropK [] k = [] from rfl, find_nil]; split <;> rfl
  | cons e l ih =>
    rw [dropK_cons, find_cons]
    by_cases h : e.key = k
    · rw [if_pos h, ih]
      by_cases h2 : k' = k
      · rw [if_pos h2, if_pos h2]
      · rw [if_neg h2, if_neg h2, if_neg (fun e' => h2 (by rw [← e', h]))]
    · rw [if_neg h, find_cons, ih]
      by_cases h2 : k' = k
      · rw [if_pos h2, if_pos h2, if_neg (by rw [h2]; exact h)]
      · rw [if_neg h2, if_neg h2]
/-- Is x not behind the key? -/
def low (k : ByteArray) (x : En) : Bool := !(!(Op.bytesLess x.key.toList k.toList || x.key.toList == k.toList))
theorem low_false {k : ByteArray} {x : En} : low k x = false ↔ lt k x.key := by
  unfold low; rw [Bool.not_eq_false', gt_eq]
theorem putK_cons (x : En) (l : List En) (e : En) : putK (x :: l) e = if lt e.key x.key then e :: x :: l else x :: putK l e := by
  have hd : ∀ l, putK l e = (l.takeWhile (low e.key)) ++ e :: (l.dropWhile (low e.key)) := fun _ => rfl
  rw [hd, hd]
  by_cases h : lt e.key x.key
  · rw [if_pos h, List.takeWhile_cons_of_neg (by rw [low_false.2 h]; simp), List.dropWhile_cons_of_neg (by rw [low_false.2 h]; simp)]
    rfl
  · have : low e.key x = true := by rw [← Bool.not_eq_false, low_false]; exact h
    rw [if_neg h, List.takeWhile_cons_of_pos this, List.dropWhile_cons_of_pos this]
    rfl
theorem putK_nil (e : En) : putK [] e = [e] := rfl
theorem mem_putK {l : List En} {e x : En} : x ∈ putK l e ↔ x = e ∨ x ∈ l := by
  induction l with
  | nil => simp [putK_nil]
  | cons a l ih =>
    rw [putK_cons]
    split
    · simp
    · rw [List.mem_cons, ih, List.mem_cons]
      constructor
      · rintro (h | h | h)
        · exact .inr (.inl h)
        · exact .inl h
        · exact .inr (.inr h)
      · rintro (h | h | h)
        · exact .inr (.inl h)
        · exact .inl h
        · exact .inr (.inr h)
theorem putK_low {l : List En} {e : En} (h : ∀ x ∈ l, ¬ lt e.key x.key) : putK l e = l ++ [e] := by
  induction l with
  | nil => rfl
  | cons a l ih => rw [putK_cons, if_neg (h a (List.mem_cons_self ..)), ih fun x hx => h x (List.mem_cons_of_mem _ hx)]; rfl
theorem putK_here {l : List En} {e x : En} (h : ∀ y ∈ l, ¬ lt e.key y.key) (hx : lt e.key x.key) : putK (l ++ [x]) e = l ++ [e] ++ [x] := by
  induction l with
  | nil => rw [List.nil_append, putK_cons, if_pos hx]; rfl
  | cons a l ih => rw [List.cons_append, putK_cons, if_neg (h a (List.mem_cons_self ..)), ih fun y hy => h y (List.mem_cons_of_mem _ hy)]; rfl
theorem putK_there {l : List En} {e : En} (x : En) (h : ∃ y ∈ l, lt e.key y.key) : putK (l ++ [x]) e = putK l e ++ [x] := by
  induction l with
  | nil => obtain ⟨y, hy, _⟩ := h; cases hy
  | cons a l ih =>
    rw [List.cons_append, putK_cons, putK_cons]
    by_cases ha : lt e.key a.key
    · rw [if_pos ha, if_pos ha]; rfl
    · rw [if_neg ha, if_neg ha]
      obtain ⟨y, hy, h2⟩ := h
      rcases List.mem_cons.1 hy with rfl | hy
      · exact absurd h2 ha
      · rw [ih ⟨y, hy, h2⟩]; rfl
theorem putK_length (l : List En) (e : En) : (putK l e).length = l.length + 1 := by
  induction l with
  | nil => rfl
  | cons a l ih => rw [putK_cons]; split <;> simp [ih]
theorem putK_rise {l : List En} {e : En} (h : Rise l) (hne : ∀ x ∈ l, x.key ≠ e.key) : Rise (putK l e) := by
  induction l with
  | nil => exact List.pairwise_singleton _ _
  | cons a l ih =>
    have hr := List.pairwise_cons.1 h
    rw [putK_cons]
    split
    · rename_i h1
      refine List.pairwise_cons.2 ⟨fun x hx => ?_, h⟩
      rcases List.mem_cons.1 hx with rfl | hx
      · exact h1
      · exact lt_trans h1 (hr.1 x hx)
    · rename_i h1
      refine List.pairwise_cons.2 ⟨fun x hx => ?_, ih hr.2 fun x hx => hne x (List.mem_cons_of_mem _ hx)⟩
      rcases mem_putK.1 hx with rfl | hx
      · exact lt_tri h1 (hne a (List.mem_cons_self ..)).symm
      · exact hr.1 x hx
theorem find_putK {l : List En} {e : En} (hne : ∀ x ∈ l, x.key ≠ e.key) (k : ByteArray) : find (putK l e) k = if e.key = k then some e else find l k := by
  induction l with
  | nil => rw [putK_nil, find_cons]
  | cons a l ih =>
    rw [putK_cons]
    split
    · rw [find_cons]
    · rw [find_cons, ih fun x hx => hne x (List.mem_cons_of_mem _ hx), find_cons]
      by_cases h2 : a.key = k
      · rw [if_pos h2, if_pos h2, if_neg (fun e' => hne a (List.mem_cons_self ..) (h2.trans e'.symm))]
      · rw [if_neg h2, if_neg h2]
theorem step_rise {r : Int} {l : List En} (h : Rise l) (o : Po) : Rise (step r l o) := by
  unfold step
  split
  · exact dropK_rise h _
  · exact putK_rise (dropK_rise h _) fun x hx => (mem_dropK.1 hx).2
theorem find_step (r : Int) (l : List En) (o : Po) (k : ByteArray) : find (step r l o) k = if o.key = k then (if o.drop then none else some ⟨o.key, o.val, r⟩) else find l k := by
  unfold step
  split
  · rw [find_dropK]
    by_cases h : o.key = k
    · rw [if_pos h, if_pos h.symm]
    · rw [if_neg h, if_neg (fun e => h e.symm)]
  · rw [find_putK (e := ⟨o.key, o.val, r⟩) (fun x hx => (mem_dropK.1 hx).2), find_dropK]
    by_cases h : o.key = k
    · rw [if_pos h, if_pos h]
    · rw [if_neg h, if_neg h, if_neg (fun e => h e.symm)]
theorem mem_step {r : Int} {l : List En} {o : Po} {x : En} (h : x ∈ step r l o) : x ∈ l ∨ x = ⟨o.key, o.val, r⟩ ∧ o.drop = false := by
  unfold step at h
  split at h
  · exact .inl (mem_dropK.1 h).1
  · rename_i hd
    rcases mem_putK.1 h with h | h
    · exact .inr ⟨h, by simpa using hd⟩
    · exact .inl (mem_dropK.1 h).1
theorem steps_rise {r : Int} {ops : List Po} {l : List En} (h : Rise l) : Rise (ops.foldl (step r) l) := by
  induction ops generalizing l with
  | nil => exact h
  | cons o ops ih => exact ih (step_rise h o)
theorem mem_steps {r : Int} {ops : List Po} {l : List En} {x : En} (h : x ∈ ops.foldl (step r) l) : x ∈ l ∨ ∃ o ∈ ops, x = ⟨o.key, o.val, r⟩ := by
  induction ops generalizing l with
  | nil => exact .inl h
  | cons o ops ih =>
    rcases ih h with h | ⟨p, hp, h⟩
    · rcases mem_step h with h | ⟨h, _⟩
      · exact .inl h
      · exact .inr ⟨o, List.mem_cons_self .., h⟩
    · exact .inr ⟨p, List.mem_cons_of_mem _ hp, h⟩
theorem find_steps_other {r : Int} {ops : List Po} {l : List En} {k : ByteArray} (h : ∀ o ∈ ops, o.key ≠ k) : find (ops.foldl (step r) l) k = find l k := by
  induction ops generalizing l with
  | nil => rfl
  | cons o ops ih =>
    rw [List.foldl_cons, ih fun p hp => h p (List.mem_cons_of_mem _ hp), find_step, if_neg (h o (List.mem_cons_self ..))]
theorem find_steps {r : Int} {ops : List Po} {l : List En} (h : ops.Pairwise fun a b => a.key ≠ b.key) {o : Po} (ho : o ∈ ops) : find (ops.foldl (step r) l) o.key = if o.drop then none else some ⟨o.key, o.val, r⟩ := by
  induction ops generalizing l with
  | nil => cases ho
  | cons p ops ih =>
    have hp := List.pairwise_cons.1 h
    rw [List.foldl_cons]
    rcases List.mem_cons.1 ho with rfl | ho
    · rw [find_steps_other fun q hq => (hp.1 q hq).symm, find_step, if_pos rfl]
    · exact ih hp.2 ho
theorem after_good {s : St} {ops : List Po} (hs : Good s) (hr : Right ops) (hl : (after s ops).l.length ≤ 64) : Good (after s ops) := by
  refine ⟨steps_rise hs.rise, ?_, ?_, hl, ?_⟩
  · show 0 ≤ s.rev + 1
    have := hs.rev0; omega
  · intro e he
    show 1 ≤ e.rev ∧ e.rev ≤ s.rev + 1
    have := hs.rev0
    rcases mem_steps he with he | ⟨o, ho, rfl⟩
    · have := hs.revs e he; omega
    · show 1 ≤ s.rev + 1 ∧ s.rev + 1 ≤ s.rev + 1
      omega
  · intro e he
    rcases mem_steps he with he | ⟨o, ho, rfl⟩
    · exact hs.size e he
    · exact hr.2.1 o ho
theorem doS_good {s : St} (hs : Good s) (ops : List Po) : Good (doS s ops) := by
  by_cases h : doE s ops = 0
  · rw [(doS_ok h).1]
    have := doE_zero h
    exact after_good hs this.1 this.2.2.2
  · rw [(doS_no h).1]; exact hs
theorem doS_rev (s : St) (ops : List Po) : s.rev ≤ (doS s ops).rev ∧ (doS s ops).rev ≤ s.rev + 1 := by
  by_cases h : doE s ops = 0
  · rw [(doS_ok h).1]; show s.rev ≤ s.rev + 1 ∧ s.rev + 1 ≤ s.rev + 1; omega
  · rw [(doS_no h).1]; omega
theorem rev_range {s : St} (hs : Good s) (k : ByteArray) : 0 ≤ revOf s.l k ∧ revOf s.l k ≤ s.rev := by
  unfold revOf
  split
  · rename_i e h
    have := hs.revs e (find_some h).1; omega
  · have := hs.rev0; omega
theorem rev_zero {s : St} (hs : Good s) (k : ByteArray) : revOf s.l k = 0 ↔ find s.l k = none := by
  unfold revOf
  split
  · rename_i e h
    have := hs.revs e (find_some h).1
    rw [h]
    constructor
    · intro h; omega
    · intro h; cases h
  · rename_i h; rw [h]; simp
/-- Told again, with what it asked. -/
theorem again {s : St} {ops : List Po} (hs : Good s) (h : doE s ops = 0) (hp : ∃ o ∈ ops, 0 ≤ o.rev ∧ o.drop = false) : doE (after s ops) ops ≠ 0 := by
  obtain ⟨o, ho, h0, hd⟩ := hp
  have hz := doE_zero h
  intro h2
  refine (doE_zero h2).2.1 o ho ⟨h0, ?_⟩
  have e : o.rev = revOf s.l o.key := Classical.not_not.1 fun hne => hz.2.1 o ho ⟨h0, hne⟩
  have := (rev_range hs o.key).2
  have e2 : revOf (after s ops).l o.key = s.rev + 1 := by
    unfold revOf
    rw [show find (after s ops).l o.key = _ from find_steps hz.1.2.2 ho, hd]
    rfl
  rw [e2]; omega
/-- What a done change's op leaves. -/
theorem done_get {s : St} {ops : List Po} (h : doE s ops = 0) {o : Po} (ho : o ∈ ops) : valOf (after s ops).l o.key = (if o.drop then ⟨#[]⟩ else o.val) ∧ revOf (after s ops).l o.key = (if o.drop then 0 else s.rev + 1) := by
  have hz := doE_zero h
  unfold valOf revOf
  rw [show find (after s ops).l o.key = _ from find_steps hz.1.2.2 ho]
  cases o.drop
  · exact ⟨rfl, rfl⟩
  · exact ⟨rfl, rfl⟩
theorem since_zero {s : St} (hs : Good s) : since s 0 = keysOf s.l := by
  unfold since keysOf
  rw [List.filter_eq_self.2 fun e he => by have := hs.revs e he; simp; omega]
theorem since_own {s : St} (hs : Good s) : since s s.rev = [] := by
  unfold since
  rw [List.filter_eq_nil_iff.2 fun e he => by have := hs.revs e he; simp; omega]
  rfl
end Go.Proofs.Ytemnioijgkahcaa.Kv
