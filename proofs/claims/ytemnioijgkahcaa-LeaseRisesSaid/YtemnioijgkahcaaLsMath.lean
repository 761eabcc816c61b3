/-
  Layer 9 in numbers and texts: a table of leases as a rising list. No program is named.
-/
import Derived.Test.YtemnioijgkahcaaKvMath
namespace Go.Proofs.Ytemnioijgkahcaa.Ls
open Kv (lt teq tne gt_eq lt_irrefl lt_ne lt_trans lt_asymm lt_tri)

structure En where
  name : ByteArray
  holder : Int
  epoch : Int
  till : Int
  dropped : Bool
structure St where
  margin : Int
  l : List En
def find (l : List En) (k : ByteArray) : Option En := l.find? fun e => e.name.toList == k.toList
def Rise (l : List En) : Prop := l.Pairwise fun a b => lt a.name b.name
def dropK (l : List En) (k : ByteArray) : List En := l.filter fun e => !(e.name.toList == k.toList)
def putK (l : List En) (e : En) : List En := (l.takeWhile fun x => !(!(Op.bytesLess x.name.toList e.name.toList || x.name.toList == e.name.toList))) ++ e :: (l.dropWhile fun x => !(!(Op.bytesLess x.name.toList e.name.toList || x.name.toList == e.name.toList)))
def put (l : List En) (e : En) : List En := putK (dropK l e.name) e
theorem find_nil (k : ByteArray) : find [] k = none := rfl
theorem find_cons (e : En) (l : List En) (k : ByteArray) : find (e :: l) k = if e.name = k then some e else find l k := by
  unfold find
  by_cases h : e.name = k
  · rw [if_pos h, List.find?_cons_of_pos (p := fun e : En => e.name.toList == k.toList) (teq.2 h)]
  · rw [if_neg h, List.find?_cons_of_neg (p := fun e : En => e.name.toList == k.toList) (fun h2 => h (teq.1 h2))]
theorem find_some {l : List En} {k : ByteArray} {e : En} (h : find l k = some e) : e ∈ l ∧ e.name = k := by
  unfold find at h
  exact ⟨List.mem_of_find?_eq_some h, teq.1 (List.find?_some (p := fun e : En => e.name.toList == k.toList) h)⟩
theorem find_none {l : List En} {k : ByteArray} : find l k = none ↔ ∀ e ∈ l, e.name ≠ k := by
  unfold find
  rw [List.find?_eq_none]
  exact ⟨fun h e he hk => h e he (teq.2 hk), fun h e he hk => h e he (teq.1 hk)⟩
theorem find_mem {l : List En} (h : Rise l) {e : En} (he : e ∈ l) : find l e.name = some e := by
  induction l with
  | nil => cases he
  | cons a l ih =>
    rw [find_cons]
    rcases List.mem_cons.1 he with rfl | he
    · rw [if_pos rfl]
    · have hr := List.pairwise_cons.1 h
      rw [if_neg (lt_ne (hr.1 e he)), ih hr.2 he]

theorem mem_dropK {l : List En} {k : ByteArray} {e : En} : e ∈ dropK l k ↔ e ∈ l ∧ e.name ≠ k := by
  unfold dropK
  rw [List.mem_filter, Bool.not_eq_true', tne]
theorem dropK_rise {l : List En} (h : Rise l) (k : ByteArray) : Rise (dropK l k) := List.Pairwise.filter _ h
theorem dropK_cons (e : En) (l : List En) (k : ByteArray) : dropK (e :: l) k = if e.name = k then dropK l k else e :: dropK l k := by
  unfold dropK
  by_cases h : e.name = k
  · rw [if_pos h, List.filter_cons_of_neg (by rw [teq.2 h]; simp)]
  · rw [if_neg h, List.filter_cons_of_pos (by rw [tne.2 h]; rfl)]
theorem find_dropK (l : List En) (k k' : ByteArray) : find (dropK l k) k' = if k' = k then none else find l k' := by
  induction l with
  | nil => rw [show dropK [] k = [] from rfl, find_nil]; split <;> rfl
  | cons e l ih =>
    rw [dropK_cons, find_cons]
    by_cases h : e.name = k
    · rw [if_pos h, ih]
      by_cases h2 : k' = k
      · rw [if_pos h2, if_pos h2]
      · rw [if_neg h2, if_neg h2, if_neg (fun e' => h2 (by rw [← e', h]))]
    · rw [if_neg h, find_cons, ih]
      by_cases h2 : k' = k
      · rw [if_pos h2, if_pos h2, if_neg (by rw [h2]; exact h)]
      · rw [if_neg h2, if_neg h2]
/-- Is x not behind the key? -/
def low (k : ByteArray) (x : En) : Bool := !(!(Op.bytesLess x.name.toList k.toList || x.name.toList == k.toList))
theorem low_false {k : ByteArray} {x : En} : low k x = false ↔ lt k x.name := by
  unfold low; rw [Bool.not_eq_false', gt_eq]
theorem putK_cons (x : En) (l : List En) (e : En) : putK (x :: l) e = if lt e.name x.name then e :: x :: l else x :: putK l e := by
  have hd : ∀ l, putK l e = (l.takeWhile (low e.name)) ++ e :: (l.dropWhile (low e.name)) := fun _ => rfl
  rw [hd, hd]
  by_cases h : lt e.name x.name
  · rw [if_pos h, List.takeWhile_cons_of_neg (by rw [low_false.2 h]; simp), List.dropWhile_cons_of_neg (by rw [low_false.2 h]; simp)]
    rfl
  · have : low e.name x = true := by rw [← Bool.not_eq_false, low_false]; exact h
    rw [if_neg h, List.takeWhile_cons_of_pos this, List.dropWhile_cons_of_pos this]
    rfl
theorem putK_nil (e : En) : putK [] e = [e] := rfl
theorem mem_putK {l : List En} {e x : En} : x ∈ putK l e ↔ x = e ∨ x ∈ l := by
  induction l with
  | nil => simp [putK_nil]
  | cons a l ih =>
    rw [putK_cons]
    split
    · simp
    · rw [List.mem_cons, ih, List.mem_cons]
      constructor
      · rintro (h | h | h)
        · exact .inr (.inl h)
        · exact .inl h
        · exact .inr (.inr h)
      · rintro (h | h | h)
        · exact .inr (.inl h)
        · exact .inl h
        · exact .inr (.inr h)
theorem putK_length (l : List En) (e : En) : (putK l e).length = l.length + 1 := by
  induction l with
  | nil => rfl
  | cons a l ih => rw [putK_cons]; split <;> simp [ih]
theorem putK_rise {l : List En} {e : En} (h : Rise l) (hne : ∀ x ∈ l, x.name ≠ e.name) : Rise (putK l e) := by
  induction l with
  | nil => exact List.pairwise_singleton _ _
  | cons a l ih =>
    have hr := List.pairwise_cons.1 h
    rw [putK_cons]
    split
    · rename_i h1
      refine List.pairwise_cons.2 ⟨fun x hx => ?_, h⟩
      rcases List.mem_cons.1 hx with rfl | hx
      · exact h1
      · exact lt_trans h1 (hr.1 x hx)
    · rename_i h1
      refine List.pairwise_cons.2 ⟨fun x hx => ?_, ih hr.2 fun x hx => hne x (List.mem_cons_of_mem _ hx)⟩
      rcases mem_putK.1 hx with rfl | hx
      · exact lt_tri h1 (hne a (List.mem_cons_self ..)).symm
      · exact hr.1 x hx
theorem find_putK {l : List En} {e : En} (hne : ∀ x ∈ l, x.name ≠ e.name) (k : ByteArray) : find (putK l e) k = if e.name = k then some e else find l k := by
  induction l with
  | nil => rw [putK_nil, find_cons]
  | cons a l ih =>
    rw [putK_cons]
    split
    · rw [find_cons]
    · rw [find_cons, ih fun x hx => hne x (List.mem_cons_of_mem _ hx), find_cons]
      by_cases h2 : a.name = k
      · rw [if_pos h2, if_pos h2, if_neg (fun e' => hne a (List.mem_cons_self ..) (h2.trans e'.symm))]
      · rw [if_neg h2, if_neg h2]
theorem put_rise {l : List En} (h : Rise l) (e : En) : Rise (put l e) := putK_rise (dropK_rise h _) fun _ hx => (mem_dropK.1 hx).2
theorem find_put (l : List En) (e : En) (k : ByteArray) : find (put l e) k = if e.name = k then some e else find l k := by
  unfold put
  rw [find_putK fun x hx => (mem_dropK.1 hx).2, find_dropK]
  by_cases h : e.name = k
  · rw [if_pos h, if_pos h]
  · rw [if_neg h, if_neg h, if_neg (fun e => h e.symm)]
theorem mem_put {l : List En} {e x : En} (h : x ∈ put l e) : x = e ∨ x ∈ l := by
  rcases mem_putK.1 h with h | h
  · exact .inl h
  · exact .inr (mem_dropK.1 h).1

/-! What a table answers. -/
def top : Int := 1099511627776
def Time (n : Int) : Prop := 0 ≤ n ∧ n ≤ 1099511627776
def late (a b : Int) : Int := min (a + b) 1099511627776
def Right (k : ByteArray) (h now ttl : Int) : Prop := 1 ≤ k.size ∧ k.size ≤ 16 ∧ 0 ≤ h ∧ h ≤ 63 ∧ Time now ∧ 1 ≤ ttl ∧ ttl ≤ 1048576
def new (margin : Int) : St := ⟨min (max margin 0) 1048576, []⟩
def Free (s : St) (k : ByteArray) (now : Int) : Prop := ∀ e, find s.l k = some e → e.dropped = true ∨ late e.till s.margin ≤ now
def Holds (s : St) (k : ByteArray) (h ep now : Int) : Prop := ∃ e, find s.l k = some e ∧ e.dropped = false ∧ e.holder = h ∧ e.epoch = ep ∧ now < e.till
def epochOf (l : List En) (k : ByteArray) : Int := match find l k with | some e => e.epoch | none => 0
def holderOf (l : List En) (k : ByteArray) : Int := match find l k with | some e => e.holder | none => 0
def tillOf (l : List En) (k : ByteArray) : Int := match find l k with | some e => e.till | none => 0
open Classical in
noncomputable def takeE (s : St) (k : ByteArray) (h now ttl : Int) : Nat := if ¬ Right k h now ttl then 1 else if ¬ Free s k now then 9 else 0
def taken (s : St) (k : ByteArray) (h now ttl : Int) : St := ⟨s.margin, put s.l ⟨k, h, epochOf s.l k + 1, late now ttl, false⟩⟩
open Classical in
noncomputable def takeS (s : St) (k : ByteArray) (h now ttl : Int) : St := if takeE s k h now ttl = 0 then taken s k h now ttl else s
open Classical in
noncomputable def takeN (s : St) (k : ByteArray) (h now ttl : Int) : Int := if takeE s k h now ttl = 0 then epochOf s.l k + 1 else 0
def Other (e : En) (h ep : Int) : Prop := e.holder ≠ h ∨ e.epoch ≠ ep
open Classical in
noncomputable def renewE (s : St) (k : ByteArray) (h ep now ttl : Int) : Nat :=
  if ¬ Right k h now ttl then 1 else match find s.l k with
    | none => 5
    | some e => if Other e h ep then 8 else if e.dropped = true ∨ e.till ≤ now then 9 else 0
def renewed (s : St) (k : ByteArray) (now ttl : Int) : St := match find s.l k with
  | none => s
  | some e => ⟨s.margin, put s.l ⟨e.name, e.holder, e.epoch, max e.till (late now ttl), e.dropped⟩⟩
open Classical in
noncomputable def renewS (s : St) (k : ByteArray) (h ep now ttl : Int) : St := if renewE s k h ep now ttl = 0 then renewed s k now ttl else s
open Classical in
noncomputable def renewN (s : St) (k : ByteArray) (h ep now ttl : Int) : Int := if renewE s k h ep now ttl = 0 then max (tillOf s.l k) (late now ttl) else 0
open Classical in
noncomputable def dropE (s : St) (k : ByteArray) (h ep : Int) : Nat := match find s.l k with
  | none => 5
  | some e => if Other e h ep then 8 else if e.dropped = true then 10 else 0
def droppedS (s : St) (k : ByteArray) : St := match find s.l k with
  | none => s
  | some e => ⟨s.margin, put s.l ⟨e.name, e.holder, e.epoch, 0, true⟩⟩
open Classical in
noncomputable def dropS (s : St) (k : ByteArray) (h ep : Int) : St := if dropE s k h ep = 0 then droppedS s k else s
/-- What a table keeps. -/
structure Good (s : St) : Prop where
  rise : Rise s.l
  m0 : 0 ≤ s.margin
  m1 : s.margin ≤ 1048576
  each : ∀ e ∈ s.l, 1 ≤ e.name.size ∧ e.name.size ≤ 16 ∧ 0 ≤ e.holder ∧ e.holder ≤ 63 ∧ 1 ≤ e.epoch ∧ Time e.till ∧ (e.dropped = true → e.till = 0) ∧ (e.dropped = false → 1 ≤ e.till)
theorem new_good (m : Int) : Good (new m) := ⟨List.Pairwise.nil, by show 0 ≤ min (max m 0) 1048576; omega, by show min (max m 0) 1048576 ≤ 1048576; omega, fun e he => by cases he⟩
theorem late_time {a b : Int} (h1 : 0 ≤ a) (h2 : 0 ≤ b) : Time (late a b) := by unfold Time late; omega
theorem epoch_pos {s : St} (h : Good s) (k : ByteArray) : 0 ≤ epochOf s.l k := by
  unfold epochOf
  split
  · rename_i e he
    have := h.each e (find_some he).1; omega
  · omega
theorem taken_good {s : St} (h : Good s) {k : ByteArray} {ho now ttl : Int} (hr : Right k ho now ttl) : Good (taken s k ho now ttl) := by
  obtain ⟨r1, r2, r3, r4, r5, r6, r7⟩ := hr
  refine ⟨put_rise h.rise _, h.m0, h.m1, fun e he => ?_⟩
  rcases mem_put he with rfl | he
  · have := epoch_pos h k
    refine ⟨r1, r2, r3, r4, by show 1 ≤ epochOf s.l k + 1; omega, late_time r5.1 (by omega), (fun h => by cases h), fun _ => ?_⟩
    have := r5.1; have := r5.2
    show 1 ≤ late now ttl
    unfold late; omega
  · exact h.each e he
theorem renewed_good {s : St} (h : Good s) {k : ByteArray} {ho now ttl : Int} (hr : Right k ho now ttl) {e : En} (he : find s.l k = some e) (hd : e.dropped = false) : Good (renewed s k now ttl) := by
  unfold renewed
  rw [he]
  obtain ⟨r1, r2, r3, r4, r5, r6, r7⟩ := hr
  have h1 := h.each e (find_some he).1
  refine ⟨put_rise h.rise _, h.m0, h.m1, fun x hx => ?_⟩
  rcases mem_put hx with rfl | hx
  · have h2 := late_time r5.1 (show 0 ≤ ttl by omega)
    have h3 := h1.2.2.2.2.2.1
    have h4 := h1.2.2.2.2.2.2.2 hd
    refine ⟨h1.1, h1.2.1, h1.2.2.1, h1.2.2.2.1, h1.2.2.2.2.1, ?_, (fun h => by rw [show e.dropped = true from h] at hd; cases hd), fun _ => ?_⟩
    · show Time (max e.till (late now ttl))
      unfold Time at *; omega
    · show 1 ≤ max e.till (late now ttl)
      omega
  · exact h.each x hx
theorem dropped_good {s : St} (h : Good s) (k : ByteArray) : Good (droppedS s k) := by
  unfold droppedS
  cases he : find s.l k with
  | none => exact h
  | some e =>
    have h1 := h.each e (find_some he).1
    refine ⟨put_rise h.rise _, h.m0, h.m1, fun x hx => ?_⟩
    rcases mem_put hx with rfl | hx
    · exact ⟨h1.1, h1.2.1, h1.2.2.1, h1.2.2.2.1, h1.2.2.2.2.1, ⟨by show (0 : Int) ≤ 0; omega, by show (0 : Int) ≤ 1099511627776; omega⟩, fun _ => rfl, fun h => by cases h⟩
    · exact h.each x hx
end Go.Proofs.Ytemnioijgkahcaa.Ls
