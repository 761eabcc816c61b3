import Derived.Deep.RegionHeld3
import Derived.Test.YtnacjhnfkkddcaaGreatDoorQp02
set_option maxHeartbeats 6400000
set_option maxRecDepth 100000
set_option linter.unusedSimpArgs false
set_option linter.unusedVariables false
namespace Go.Proofs.YtnacjhnfkkddcaaGreatDoor
namespace Rc
theorem right1 {r : R} (hk : r.kind = 1) (h : right r = true) : (0 ≤ r.who ∧ r.who ≤ 63) ∧ (0 ≤ r.n ∧ r.n ≤ 1099511627776) ∧ (1 ≤ r.seq ∧ r.seq ≤ 1048576) := by
 unfold right at h
 simp [hk, Spc.inn_iff] at h
 omega
theorem right2 {r : R} (hk : r.kind = 2) (h : right r = true) : (1 ≤ r.text.size ∧ r.text.size ≤ 64) ∧ (1 ≤ r.n ∧ r.n ≤ 1048576) := by
 unfold right at h
 simp [hk, Spc.inn_iff, told_iff] at h
 omega
theorem right3 {r : R} (hk : r.kind = 3) (h : right r = true) : (0 ≤ r.n ∧ r.n ≤ 1099511627776) ∧ Spc.May r.sp := by
 have hb := (ok_of h).begin_ hk
 have hn := (ok_of h).n
 exact ⟨hn, hb⟩
theorem right4 {r : R} (hk : r.kind = 4) (h : right r = true) : (1 ≤ r.n ∧ r.n ≤ 5) := by
 unfold right at h
 simp [hk, Spc.inn_iff, told_iff] at h
 omega
theorem right5 {r : R} (hk : r.kind = 5) (h : right r = true) : (0 ≤ r.who ∧ r.who ≤ 15) ∧ (0 ≤ r.n ∧ r.n ≤ 1048576) ∧ (1 ≤ r.seq ∧ r.seq ≤ 1099511627776) := by
 unfold right at h
 simp [hk, Spc.inn_iff, told_iff] at h
 omega
theorem right6 {r : R} (hk : r.kind = 6) (h : right r = true) : (0 ≤ r.who ∧ r.who ≤ 15) ∧ (1 ≤ r.seq ∧ r.seq ≤ 1099511627776) := by
 unfold right at h
 simp [hk, Spc.inn_iff, told_iff] at h
 omega
theorem right7 {r : R} (hk : r.kind = 7) (h : right r = true) : (1 ≤ r.who ∧ r.who ≤ 4) ∧ (0 ≤ r.n ∧ r.n ≤ 1099511627776) := by
 unfold right at h
 simp [hk, Spc.inn_iff, told_iff] at h
 omega
end Rc
namespace Bk
open Rc (R right)
section
variable {s : St} {r : R}
theorem chk_right (h : chk s r = 0) : right r = true := by
 unfold chk at h
 cases e : right r with
 | true => rfl
 | false => rw [if_pos e] at h; exact absurd h (by decide)
theorem chk_wrong (h : right r = false) : chk s r = 1 := if_pos h
theorem chk_lead (hr : right r = true) (hk : r.kind = 1) : chk s r = leadE s r := by unfold chk; rw [if_neg (by rw [hr]; simp), if_pos hk]
theorem chk_ep (hr : right r = true) (hk : r.kind ≠ 1) (he : r.epoch ≠ s.ep) : chk s r = 8 := by unfold chk; rw [if_neg (by rw [hr]; simp), if_neg hk, if_pos he]
theorem chk_two (hr : right r = true) (hk : r.kind = 2) (he : r.epoch = s.ep) : chk s r = chk2 s r := by unfold chk; rw [if_neg (by rw [hr]; simp), if_neg (by omega), if_neg (by omega), if_pos hk]
theorem chk_three (hr : right r = true) (hk : r.kind = 3) (he : r.epoch = s.ep) : chk s r = chk3 s r := by unfold chk; rw [if_neg (by rw [hr]; simp), if_neg (by omega), if_neg (by omega), if_neg (by omega), if_pos hk]
theorem chk_four (hr : right r = true) (hk : r.kind = 4) (he : r.epoch = s.ep) : chk s r = chk4 s r := by unfold chk; rw [if_neg (by rw [hr]; simp), if_neg (by omega), if_neg (by omega), if_neg (by omega), if_neg (by omega), if_pos hk]
theorem chk_five (hr : right r = true) (hk : r.kind = 5) (he : r.epoch = s.ep) : chk s r = chk5 s r := by unfold chk; rw [if_neg (by rw [hr]; simp), if_neg (by omega), if_neg (by omega), if_neg (by omega), if_neg (by omega), if_neg (by omega), if_pos hk]
theorem chk_six (hr : right r = true) (hk : r.kind = 6) (he : r.epoch = s.ep) : chk s r = chk6 s r := by unfold chk; rw [if_neg (by rw [hr]; simp), if_neg (by omega), if_neg (by omega), if_neg (by omega), if_neg (by omega), if_neg (by omega), if_neg (by omega), if_pos hk]
theorem chk_seven (hr : right r = true) (hk : r.kind = 7) (he : r.epoch = s.ep) : chk s r = chk7 s r := by unfold chk; rw [if_neg (by rw [hr]; simp), if_neg (by omega), if_neg (by omega), if_neg (by omega), if_neg (by omega), if_neg (by omega), if_neg (by omega), if_neg (by omega), if_pos hk]
theorem chk_epoch (h : chk s r = 0) (hk : r.kind ≠ 1) : r.epoch = s.ep := Decidable.byContradiction fun he => absurd ((chk_ep (chk_right h) hk he).symm.trans h) (by decide)
theorem lead_ok (h : leadE s r = 0) : (r.epoch = s.ep ∨ r.epoch = s.ep + 1) ∧ leadOk s r = true := by
 unfold leadE at h
 split at h
 ·exact absurd h (by decide)
 ·split at h
  ·exact ⟨by omega, by assumption⟩
  ·exact absurd h (by decide)
theorem two_ok (h : chk2 s r = 0) : has s.vs r.n = false ∧ s.vs.length < 64 := by
 unfold chk2 at h
 split at h
 ·exact absurd h (by decide)
 ·rename_i h1
  split at h
  ·exact absurd h (by decide)
  ·exact ⟨by simpa using h1, by omega⟩
theorem three_ok (h : chk3 s r = 0) : Ph.open_ s.ph = false ∧ has s.vs r.sp.v = true ∧ r.sp.v ≠ s.stable := by
 unfold chk3 at h
 split at h
 ·exact absurd h (by decide)
 ·rename_i h1
  split at h
  ·exact absurd h (by decide)
  ·rename_i h2
   split at h
   ·exact absurd h (by decide)
   ·exact ⟨by simpa using h1, by simpa using h2, by assumption⟩
theorem four_ok (h : chk4 s r = 0) : Ph.isWord r.text = true ∧ Ph.of r.text ≠ 0 ∧ Ph.of r.text ≠ 3 ∧ Ph.did s.ph (Ph.of r.text) = true ∧ Ph.next s.ph (Ph.of r.text) = r.n := by
 unfold chk4 at h
 split at h
 ·exact absurd h (by decide)
 ·rename_i h1
  split at h
  ·exact absurd h (by decide)
  ·rename_i h2
   simp only [not_or, Bool.not_eq_false, Decidable.not_not] at h1 h2
   exact ⟨h1.1, h1.2.1, h1.2.2, h2.1, h2.2⟩
theorem five_ok (h : chk5 s r = 0) : (s.ph = 1 ∨ s.ph = 4) ∧ r.seq = s.seq + 1 ∧ (r.n = 0 ∨ r.n = s.sp.v ∨ r.n = s.from_) := by
 unfold chk5 at h
 split at h
 ·exact absurd h (by decide)
 ·split at h
  ·exact absurd h (by decide)
  ·split at h
   ·exact absurd h (by decide)
   ·omega
theorem six_ok (h : chk6 s r = 0) : (s.us r.who.toNat).q = r.seq ∧ (s.us r.who.toNat).d = false := by
 unfold chk6 at h
 split at h
 ·exact absurd h (by decide)
 ·rename_i h1
  split at h
  ·exact absurd h (by decide)
  ·rename_i h2
   exact ⟨by omega, by simpa using h2⟩
theorem act1 (hk : r.kind = 1) : act s r = { s with ep := r.epoch, who := r.who, till := leadT s r } := by unfold act; rw [if_pos hk]
theorem act2 (hk : r.kind = 2) : act s r = { s with vs := pub s.vs ⟨r.n, r.text⟩ } := by unfold act; rw [if_neg (by omega), if_pos hk]
theorem act3 (hk : r.kind = 3) : act s r = { s with h := last24 (s.h ++ [r]), sp := r.sp, ph := 1, step := 0, since := r.n, begun := r.n, from_ := s.stable } := by unfold act; rw [if_neg (by omega), if_neg (by omega), if_pos hk]
theorem act4 (hk : r.kind = 4) : act s r = { s with h := last24 (s.h ++ [r]), ph := r.n, stable := if r.n = 3 then s.sp.v else s.stable } := by unfold act; rw [if_neg (by omega), if_neg (by omega), if_neg (by omega), if_pos hk]
theorem act5 (hk : r.kind = 5) : act s r = { s with us := setU s.us r.who.toNat ⟨r.n, r.seq, false⟩, seq := r.seq } := by unfold act; rw [if_neg (by omega), if_neg (by omega), if_neg (by omega), if_neg (by omega), if_pos hk]
theorem act6 (hk : r.kind = 6) : act s r = { s with us := setU s.us r.who.toNat { s.us r.who.toNat with d := true } } := by unfold act; rw [if_neg (by omega), if_neg (by omega), if_neg (by omega), if_neg (by omega), if_neg (by omega), if_pos hk]
theorem act7 (hk : r.kind = 7) : act s r = { s with h := last24 (s.h ++ [r]), step := r.who, since := r.n } := by unfold act; rw [if_neg (by omega), if_neg (by omega), if_neg (by omega), if_neg (by omega), if_neg (by omega), if_neg (by omega), if_pos hk]
theorem leadT_in (h : Ok s) (hr : right r = true) (hk : r.kind = 1) : 0 ≤ leadT s r ∧ leadT s r ≤ 1099511627776 := by
 obtain ⟨_, h1, h2⟩ := Rc.right1 hk hr
 have h3 := h.till
 unfold leadT late
 split <;> omega
theorem h_note {l : List R} (h : ∀ x ∈ l, right x = true) (hr : right r = true) : ∀ x ∈ last24 (l ++ [r]), right x = true := by
 intro x hx
 rcases List.mem_append.1 (last24_mem hx) with hx | hx
 ·exact h x hx
 ·rw [List.mem_singleton.1 hx]; exact hr
theorem move_ph {p e n : Int} (hd : Ph.did p e = true) (hn : Ph.next p e = n) (h0 : e ≠ 0) : (p = 1 ∨ p = 2 ∨ p = 4) ∧ (n = 1 ∨ n = 2 ∨ n = 3 ∨ n = 4 ∨ n = 5) ∧ (n = 3 → p = 1) := by
 have h1 := Ph.did_iff.1 hd
 rw [Ph.next_to h1] at hn
 subst hn
 rcases Ph.pairs h1 with ⟨rfl, rfl⟩ | ⟨rfl, rfl⟩ | ⟨rfl, rfl⟩ | ⟨rfl, rfl⟩ | ⟨rfl, rfl⟩ | ⟨rfl, rfl⟩ | ⟨rfl, rfl⟩ | ⟨rfl, rfl⟩ | ⟨rfl, rfl⟩ | ⟨rfl, rfl⟩ | ⟨rfl, rfl⟩ | ⟨rfl, rfl⟩
 all_goals first | exact absurd rfl h0 | decide
theorem z1 : 0 ≤ (1 : Int) ∧ (1 : Int) ≤ 5 := by decide
theorem act_ok (h : Ok s) (hc : chk s r = 0) : Ok (act s r) := by
 have hr := chk_right hc
 have ho := Rc.ok_of hr
 have hk7 := ho.kind
 have hk : r.kind = 1 ∨ r.kind = 2 ∨ r.kind = 3 ∨ r.kind = 4 ∨ r.kind = 5 ∨ r.kind = 6 ∨ r.kind = 7 := by omega
 clear hk7
 rcases hk with hk | hk | hk | hk | hk | hk | hk
 ·rw [act1 hk]
  obtain ⟨h1, h2, h3⟩ := Rc.right1 hk hr
  exact { h with ep := ⟨by have := ho.epoch; show 0 ≤ r.epoch; omega, ho.epoch.2⟩, who := h1, till := leadT_in h hr hk, zero := fun e => by have := ho.epoch; have e2 : r.epoch = 0 := e; omega }
 ·rw [act2 hk]
  obtain ⟨h1, h2⟩ := Rc.right2 hk hr
  rw [chk_two hr hk (chk_epoch hc (by omega))] at hc
  obtain ⟨h3, h4⟩ := two_ok hc
  have h5 : dig s.vs r.n = none := by
   unfold has at h3
   cases e : dig s.vs r.n with
   | none => rfl
   | some t => rw [e] at h3; cases h3
  refine { h with vs := fun v hv => ?_, vl := by show (pub s.vs ⟨r.n, r.text⟩).length ≤ 64; rw [pub_length]; omega, rise := pub_rise h.rise h5, spec := fun e => has_pub (v := ⟨r.n, r.text⟩) h3 _ (h.spec e), known := fun e => has_pub (v := ⟨r.n, r.text⟩) h3 _ (h.known e) }
  rcases mem_pub.1 hv with rfl | hv
  ·exact ⟨h2.1, h2.2, h1.2⟩
  ·exact h.vs v hv
 ·rw [act3 hk]
  obtain ⟨h1, h2⟩ := Rc.right3 hk hr
  rw [chk_three hr hk (chk_epoch hc (by omega))] at hc
  obtain ⟨h3, h4, h5⟩ := three_ok hc
  exact { h with h := h_note h.h hr, hl := last24_length _, sp := ho.flds, spv := ⟨by have := h2.v; show 0 ≤ r.sp.v; omega, h2.v.2⟩, ph := z1, step := z_in (by omega), since := h1, begun := h1, from_ := h.stable, idle := fun e => absurd e (by show ¬ (1 : Int) = 0; omega), back := fun _ _ => rfl, spec := fun _ => h4 }
 ·rw [act4 hk]
  have h1 := Rc.right4 hk hr
  rw [chk_four hr hk (chk_epoch hc (by omega))] at hc
  obtain ⟨_, h3, _, h5, h6⟩ := four_ok hc
  obtain ⟨h7, h8, h9⟩ := move_ph h5 h6 h3
  have h10 := h.spec (by omega)
  refine { h with h := h_note h.h hr, hl := last24_length _, ph := ⟨by show 0 ≤ r.n; omega, by show r.n ≤ 5; omega⟩, stable := ?_, idle := fun e => absurd e (by show ¬ r.n = 0; omega), back := fun e0 e3 => ?_, spec := fun _ => h10, known := fun e => ?_ }
  ·show 0 ≤ (if r.n = 3 then s.sp.v else s.stable) ∧ (if r.n = 3 then s.sp.v else s.stable) ≤ 1048576
   split
   ·exact h.spv
   ·exact h.stable
  ·show (if r.n = 3 then s.sp.v else s.stable) = s.from_
   rw [if_neg e3]
   exact h.back (by omega) (by omega)
  ·show has s.vs (if r.n = 3 then s.sp.v else s.stable) = true
   by_cases e3 : r.n = 3
   ·rw [if_pos e3]; exact h10
   ·rw [if_neg e3]
    refine h.known fun e2 => e ?_
    show (if r.n = 3 then s.sp.v else s.stable) = 0
    rw [if_neg e3, e2]
 ·rw [act5 hk]
  obtain ⟨h1, h2, h3⟩ := Rc.right5 hk hr
  rw [chk_five hr hk (chk_epoch hc (by omega))] at hc
  obtain ⟨h4, h5, h6⟩ := five_ok hc
  refine { h with seq := ⟨by show 0 ≤ r.seq; omega, h3.2⟩, us := fun i => ?_ }
  show 0 ≤ (setU s.us r.who.toNat ⟨r.n, r.seq, false⟩ i).v ∧ (setU s.us r.who.toNat ⟨r.n, r.seq, false⟩ i).v ≤ 1048576 ∧ 0 ≤ (setU s.us r.who.toNat ⟨r.n, r.seq, false⟩ i).q ∧ (setU s.us r.who.toNat ⟨r.n, r.seq, false⟩ i).q ≤ r.seq
  have := h.us i
  unfold setU
  split
  ·show 0 ≤ r.n ∧ r.n ≤ 1048576 ∧ 0 ≤ r.seq ∧ r.seq ≤ r.seq
   omega
  ·omega
 ·rw [act6 hk]
  refine { h with us := fun i => ?_ }
  show 0 ≤ (setU s.us r.who.toNat { s.us r.who.toNat with d := true } i).v ∧ (setU s.us r.who.toNat { s.us r.who.toNat with d := true } i).v ≤ 1048576 ∧ 0 ≤ (setU s.us r.who.toNat { s.us r.who.toNat with d := true } i).q ∧ (setU s.us r.who.toNat { s.us r.who.toNat with d := true } i).q ≤ s.seq
  unfold setU
  split
  ·exact h.us r.who.toNat
  ·exact h.us i
 ·rw [act7 hk]
  obtain ⟨h1, h2⟩ := Rc.right7 hk hr
  exact { h with h := h_note h.h hr, hl := last24_length _, step := ⟨by show 0 ≤ r.who; omega, h1.2⟩, since := h2 }
theorem app_okay (h : Ok s) : Ok (app s r) := by
 unfold app
 split
 ·exact act_ok h (by assumption)
 ·exact h
theorem run_ok (l : List R) : ∀ {s : St}, Ok s → Ok (run s l) := by
 induction l with
 | nil => exact fun h => h
 | cons x l ih => exact fun h => ih (app_okay h)
theorem app_m : (app s r).m = s.m := by
 unfold app
 split
 ·unfold act; repeat' split
  all_goals rfl
 ·rfl
theorem run_m (l : List R) : ∀ {s : St}, (run s l).m = s.m := by
 induction l with
 | nil => exact rfl
 | cons x l ih => intro s; exact ih.trans app_m
end
end Bk
section
variable {P : Program} {ops : Array Oper} {Q : Exit → Act → World → Prop} {S : World → Prop} {fuel : Nat} {listed : Array Bool} {a : Act} {w : World}
theorem tkYes (i : Nat) {oi : Oper} {v : Value} (hi : ops.toList[i]? = some oi)
  (hk : (Region.noSelect ops && (Region.free .any ops listed i && (Region.ready .any ops listed).contains i)) = true)
  (hQ : ∀ c a w, Q (.panic c) (a.put oi.dst v) w → Q (.panic c) a w) (hw : Region.wanted oi (yielded ops a.tmps) = true)
  (hy : ∀ w, S w → (execOp a.eval oi).run P w = .ok (.value v) w) (hS : S w)
  (h : wpAnyH P .any ops Q S fuel (listed.setIfInBounds i true) (a.put oi.dst v) w) : wpAnyH P .any ops Q S (fuel + 1) listed a w := by
 simp only [Bool.and_eq_true] at hk
 exact wpAnyH_take (by simpa using hi) hk.1 hk.2.1 hk.2.2 hQ (.inl ⟨hw, hy⟩) hS h
theorem tkNo (i : Nat) {oi : Oper} (hi : ops.toList[i]? = some oi)
  (hk : (Region.noSelect ops && (Region.free .any ops listed i && (Region.ready .any ops listed).contains i)) = true)
  (hQ : ∀ c a w, Q (.panic c) (a.put oi.dst undef) w → Q (.panic c) a w) (hw : Region.wanted oi (yielded ops a.tmps) = false) (hS : S w)
  (h : wpAnyH P .any ops Q S fuel (listed.setIfInBounds i true) (a.put oi.dst undef) w) : wpAnyH P .any ops Q S (fuel + 1) listed a w := by
 simp only [Bool.and_eq_true] at hk
 exact wpAnyH_take (by simpa using hi) hk.1 hk.2.1 hk.2.2 hQ (.inr ⟨hw, rfl⟩) hS h
theorem rnOne (i : Nat) {oi : Oper} (hi : ops.toList[i]? = some oi) (hr : Region.ready .any ops listed = [i]) (hw : Region.wanted oi (yielded ops a.tmps) = true)
  (h : ∀ K : Act → World → Prop, Shut (∀ a w, S w → (S w → wpAnyH P .any ops Q S fuel (listed.setIfInBounds i true) a w) → K a w) → Oper.wp P oi a w K Q) :
  wpAnyH P .any ops Q S (fuel + 1) listed a w :=
 wpAnyH_ready hr (by simp) (AllReadyH.cons (o := oi) (by simpa using hi) (fun K hK => by rw [if_pos hw]; exact h K hK) AllReadyH.nil)
theorem jdp (i j : Nat) {oi oj : Oper} (hi : ops.toList[i]? = some oi) (hj : ops.toList[j]? = some oj) (hr : Region.ready .any ops listed = [i, j])
  (hw : Region.wanted oi (yielded ops a.tmps) = true) (hwj : Region.wanted oj (yielded ops a.tmps) = true)
  (h : ∀ K : Act → World → Prop, Shut (∀ a w, S w → (S w → wpAnyH P .any ops Q S fuel (listed.setIfInBounds i true) a w) → K a w) → Oper.wp P oi a w K Q)
  (h2 : ∀ K : Act → World → Prop, Shut (∀ a w, S w → (S w → wpAnyH P .any ops Q S fuel (listed.setIfInBounds j true) a w) → K a w) → Oper.wp P oj a w K Q) :
  wpAnyH P .any ops Q S (fuel + 1) listed a w :=
 wpAnyH_ready hr (by simp) (AllReadyH.cons (o := oi) (by simpa using hi) (fun K hK => by rw [if_pos hw]; exact h K hK) (AllReadyH.cons (o := oj) (by simpa using hj) (fun K hK => by rw [if_pos hwj]; exact h2 K hK) AllReadyH.nil))
theorem tZ (i : Nat) {oi : Oper} {v : Value} (hi : ops.toList[i]? = some oi) (hy : ∀ w, S w → (execOp a.eval oi).run P w = .ok (.value v) w) (hS : S w) (h : wpAnyH P .any ops Q S fuel (listed.setIfInBounds i true) (a.put oi.dst v) w) (hk : (Region.noSelect ops && (Region.free .any ops listed i && (Region.ready .any ops listed).contains i)) = true := by kernel_rfl) (hQ : ∀ c a w, Q (.panic c) (a.put oi.dst v) w → Q (.panic c) a w := by exact fun _ _ _ h => h) (hw : Region.wanted oi (yielded ops a.tmps) = true := by rfl) : wpAnyH P .any ops Q S (fuel + 1) listed a w := tkYes i hi hk hQ hw hy hS h
theorem tY (i : Nat) {oi : Oper} {v : Value} (hS : S w) (h : wpAnyH P .any ops Q S fuel (listed.setIfInBounds i true) (a.put oi.dst v) w) (hi : ops.toList[i]? = some oi := by rfl) (hk : (Region.noSelect ops && (Region.free .any ops listed i && (Region.ready .any ops listed).contains i)) = true := by kernel_rfl) (hy : ∀ w, S w → (execOp a.eval oi).run P w = .ok (.value v) w := by intro W hW; go_simp; (try with_reducible rfl)) (hQ : ∀ c a w, Q (.panic c) (a.put oi.dst v) w → Q (.panic c) a w := by exact fun _ _ _ h => h) (hw : Region.wanted oi (yielded ops a.tmps) = true := by rfl) : wpAnyH P .any ops Q S (fuel + 1) listed a w := tkYes i hi hk hQ hw hy hS h
theorem tN (i : Nat) {oi : Oper} (hS : S w) (h : wpAnyH P .any ops Q S fuel (listed.setIfInBounds i true) (a.put oi.dst undef) w) (hi : ops.toList[i]? = some oi := by rfl) (hk : (Region.noSelect ops && (Region.free .any ops listed i && (Region.ready .any ops listed).contains i)) = true := by kernel_rfl) (hQ : ∀ c a w, Q (.panic c) (a.put oi.dst undef) w → Q (.panic c) a w := by exact fun _ _ _ h => h) (hw : Region.wanted oi (yielded ops a.tmps) = false := by rfl) : wpAnyH P .any ops Q S (fuel + 1) listed a w := tkNo i hi hk hQ hw hS h
theorem rO (i : Nat) {oi : Oper} (h : ∀ K : Act → World → Prop, Shut (∀ a w, S w → (S w → wpAnyH P .any ops Q S fuel (listed.setIfInBounds i true) a w) → K a w) → Oper.wp P oi a w K Q) (hi : ops.toList[i]? = some oi := by rfl) (hr : Region.ready .any ops listed = [i] := by kernel_rfl) (hw : Region.wanted oi (yielded ops a.tmps) = true := by rfl) : wpAnyH P .any ops Q S (fuel + 1) listed a w := rnOne i hi hr hw h
end
open Go.RowKit
def APos (w : World) (x : Value) (e : Ending) (w' : World) : Prop := e = .returned x ∧ Below w.heap.size w w'
theorem rstep0 (v d u n g a b c f wi x k : Int) (w : World) : Calls Tryz.prog 176 #[.agg #[.int .i64 v, .int .i64 d, .int .i64 u, .int .i64 n, .int .i64 g, .int .i64 a, .int .i64 b, .int .i64 c, .int .i64 f, .int .i64 wi, .int .i64 x, .int .i64 k], .int .i64 0] w (APos w (.bool (Spc.st ⟨v, d, u, n, g, a, b, c, f, wi, x, k⟩ 0))) := by
 have hb := (Below.refl w.heap.size w).alloc (Nat.le_refl _) (.cells #[.int .i64 v, .int .i64 d, .int .i64 u, .int .i64 n, .int .i64 g, .int .i64 a, .int .i64 b, .int .i64 c, .int .i64 f, .int .i64 wi, .int .i64 x, .int .i64 k] 35)
 have B1 := zh hb
 clear hb
 by_cases hg : g = 0
 ·subst hg
  have e1 : Spc.st ⟨v, d, u, n, 0, a, b, c, f, wi, x, k⟩ 0 = Spc.inn a 1 100 := rfl
  rw [e1]
  clear e1
  go_enter Tryz.func176, Tryz.ntmps176
  go_wp2_with fail
  refine (ja1 a 1 100 _).mono ?_
  rintro e w1 ⟨rfl, rfl⟩
  generalize Spc.inn a 1 100 = z at *
  go_wp2_with fail
  go_ret
  exact ⟨rfl, B1.out⟩
 ·have e1 : Spc.st ⟨v, d, u, n, g, a, b, c, f, wi, x, k⟩ 0 = decide (a = 0) := by unfold Spc.st; rw [if_pos hg]; rfl
  rw [e1]
  have hgn : (g != 0) = true := by rw [bne_iff_ne]; exact hg
  clear e1
  go_enter Tryz.func176, Tryz.ntmps176
  go_wp2_with fail
  go_ret
  exact ⟨jd6 (by by_cases hx : a = 0 <;> simp [hx]), B1.out⟩
theorem rstep1 (v d u n g a b c f wi x k : Int) (w : World) (hs : g = 0 → -9223372036854775808 ≤ a ∧ a ≤ 1000) : Calls Tryz.prog 176 #[.agg #[.int .i64 v, .int .i64 d, .int .i64 u, .int .i64 n, .int .i64 g, .int .i64 a, .int .i64 b, .int .i64 c, .int .i64 f, .int .i64 wi, .int .i64 x, .int .i64 k], .int .i64 1] w (APos w (.bool (Spc.st ⟨v, d, u, n, g, a, b, c, f, wi, x, k⟩ 1))) := by
 have hb := (Below.refl w.heap.size w).alloc (Nat.le_refl _) (.cells #[.int .i64 v, .int .i64 d, .int .i64 u, .int .i64 n, .int .i64 g, .int .i64 a, .int .i64 b, .int .i64 c, .int .i64 f, .int .i64 wi, .int .i64 x, .int .i64 k] 35)
 have B1 := zh hb
 clear hb
 by_cases hg : g = 0
 ·subst hg
  obtain ⟨hs1, hs2⟩ := hs rfl
  have e1 : Spc.st ⟨v, d, u, n, 0, a, b, c, f, wi, x, k⟩ 1 = (decide (b = 0) || (decide (0 < a) && Spc.inn b (a + 1) 100)) := rfl
  rw [e1]
  clear e1
  have wr0 : IntKind.i64.wrap 0 = 0 := rfl
  by_cases hx : b = 0
  ·rw [decide_eq_true hx, Bool.true_or]
   subst hx
   go_enter Tryz.func176, Tryz.ntmps176
   go_wp2_with fail
   go_quiet (fail)
   go_wp2_with fail
   go_ret
   exact ⟨rfl, Below.drewN B1.out _⟩
  ·have hxn : (b == 0) = false := by rw [beq_eq_false_iff_ne]; exact hx
   rw [decide_eq_false hx, Bool.false_or]
   by_cases hy : 0 < a
   ·rw [decide_eq_true hy, Bool.true_and]
    have C : Hid (∀ W, Calls Tryz.prog 175 #[.int .i64 b, .int .i64 (a + 1), .int .i64 100] W fun e w' => e = .returned (.bool (Spc.inn b (a + 1) 100)) ∧ w' = W) := ja1 b (a + 1) 100
    generalize Spc.inn b (a + 1) 100 = z at *
    go_enter Tryz.func176, Tryz.ntmps176
    go_wp2_with fail
    go_quiet ((go_at_call 175; exact Calls.quiet_of_same (C.out _)))
    go_wp2_with fail
    go_ret
    exact ⟨rfl, Below.drewN B1.out _⟩
   ·rw [decide_eq_false hy, Bool.false_and]
    have hyn := decide_eq_false hy
    clear hy
    go_enter Tryz.func176, Tryz.ntmps176
    go_wp2_with fail
    go_quiet ((go_at_call 175; fail))
    go_wp2_with fail
    go_ret
    exact ⟨rfl, Below.drewN B1.out _⟩
 ·have e1 : Spc.st ⟨v, d, u, n, g, a, b, c, f, wi, x, k⟩ 1 = decide (b = 0) := by unfold Spc.st; rw [if_pos hg]; rfl
  rw [e1]
  have hgn : (g != 0) = true := by rw [bne_iff_ne]; exact hg
  clear e1
  go_enter Tryz.func176, Tryz.ntmps176
  go_wp2_with fail
  go_ret
  exact ⟨jd6 (by by_cases hx : b = 0 <;> simp [hx]), B1.out⟩
theorem rstep2 (v d u n g a b c f wi x k : Int) (w : World) (hs : g = 0 → -9223372036854775808 ≤ b ∧ b ≤ 1000) : Calls Tryz.prog 176 #[.agg #[.int .i64 v, .int .i64 d, .int .i64 u, .int .i64 n, .int .i64 g, .int .i64 a, .int .i64 b, .int .i64 c, .int .i64 f, .int .i64 wi, .int .i64 x, .int .i64 k], .int .i64 2] w (APos w (.bool (Spc.st ⟨v, d, u, n, g, a, b, c, f, wi, x, k⟩ 2))) := by
 have hb := (Below.refl w.heap.size w).alloc (Nat.le_refl _) (.cells #[.int .i64 v, .int .i64 d, .int .i64 u, .int .i64 n, .int .i64 g, .int .i64 a, .int .i64 b, .int .i64 c, .int .i64 f, .int .i64 wi, .int .i64 x, .int .i64 k] 35)
 have B1 := zh hb
 clear hb
 by_cases hg : g = 0
 ·subst hg
  obtain ⟨hs1, hs2⟩ := hs rfl
  have e1 : Spc.st ⟨v, d, u, n, 0, a, b, c, f, wi, x, k⟩ 2 = (decide (c = 0) || (decide (0 < b) && Spc.inn c (b + 1) 100)) := rfl
  rw [e1]
  clear e1
  have wr0 : IntKind.i64.wrap 1 = 1 := rfl
  by_cases hx : c = 0
  ·rw [decide_eq_true hx, Bool.true_or]
   subst hx
   go_enter Tryz.func176, Tryz.ntmps176
   go_wp2_with fail
   go_quiet (fail)
   go_wp2_with fail
   go_ret
   exact ⟨rfl, Below.drewN B1.out _⟩
  ·have hxn : (c == 0) = false := by rw [beq_eq_false_iff_ne]; exact hx
   rw [decide_eq_false hx, Bool.false_or]
   by_cases hy : 0 < b
   ·rw [decide_eq_true hy, Bool.true_and]
    have C : Hid (∀ W, Calls Tryz.prog 175 #[.int .i64 c, .int .i64 (b + 1), .int .i64 100] W fun e w' => e = .returned (.bool (Spc.inn c (b + 1) 100)) ∧ w' = W) := ja1 c (b + 1) 100
    generalize Spc.inn c (b + 1) 100 = z at *
    go_enter Tryz.func176, Tryz.ntmps176
    go_wp2_with fail
    go_quiet ((go_at_call 175; exact Calls.quiet_of_same (C.out _)))
    go_wp2_with fail
    go_ret
    exact ⟨rfl, Below.drewN B1.out _⟩
   ·rw [decide_eq_false hy, Bool.false_and]
    have hyn := decide_eq_false hy
    clear hy
    go_enter Tryz.func176, Tryz.ntmps176
    go_wp2_with fail
    go_quiet ((go_at_call 175; fail))
    go_wp2_with fail
    go_ret
    exact ⟨rfl, Below.drewN B1.out _⟩
 ·have e1 : Spc.st ⟨v, d, u, n, g, a, b, c, f, wi, x, k⟩ 2 = decide (c = 0) := by unfold Spc.st; rw [if_pos hg]; rfl
  rw [e1]
  have hgn : (g != 0) = true := by rw [bne_iff_ne]; exact hg
  clear e1
  go_enter Tryz.func176, Tryz.ntmps176
  go_wp2_with fail
  go_ret
  exact ⟨jd6 (by by_cases hx : c = 0 <;> simp [hx]), B1.out⟩
theorem rstep3 (v d u n g a b c f wi x k : Int) (w : World) (hs : g = 0 → -9223372036854775808 ≤ c ∧ c ≤ 1000) : Calls Tryz.prog 176 #[.agg #[.int .i64 v, .int .i64 d, .int .i64 u, .int .i64 n, .int .i64 g, .int .i64 a, .int .i64 b, .int .i64 c, .int .i64 f, .int .i64 wi, .int .i64 x, .int .i64 k], .int .i64 3] w (APos w (.bool (Spc.st ⟨v, d, u, n, g, a, b, c, f, wi, x, k⟩ 3))) := by
 have hb := (Below.refl w.heap.size w).alloc (Nat.le_refl _) (.cells #[.int .i64 v, .int .i64 d, .int .i64 u, .int .i64 n, .int .i64 g, .int .i64 a, .int .i64 b, .int .i64 c, .int .i64 f, .int .i64 wi, .int .i64 x, .int .i64 k] 35)
 have B1 := zh hb
 clear hb
 by_cases hg : g = 0
 ·subst hg
  obtain ⟨hs1, hs2⟩ := hs rfl
  have e1 : Spc.st ⟨v, d, u, n, 0, a, b, c, f, wi, x, k⟩ 3 = (decide (f = 0) || (decide (0 < c) && Spc.inn f (c + 1) 100)) := rfl
  rw [e1]
  clear e1
  have wr0 : IntKind.i64.wrap 2 = 2 := rfl
  by_cases hx : f = 0
  ·rw [decide_eq_true hx, Bool.true_or]
   subst hx
   go_enter Tryz.func176, Tryz.ntmps176
   go_wp2_with fail
   go_quiet (fail)
   go_wp2_with fail
   go_ret
   exact ⟨rfl, Below.drewN B1.out _⟩
  ·have hxn : (f == 0) = false := by rw [beq_eq_false_iff_ne]; exact hx
   rw [decide_eq_false hx, Bool.false_or]
   by_cases hy : 0 < c
   ·rw [decide_eq_true hy, Bool.true_and]
    have C : Hid (∀ W, Calls Tryz.prog 175 #[.int .i64 f, .int .i64 (c + 1), .int .i64 100] W fun e w' => e = .returned (.bool (Spc.inn f (c + 1) 100)) ∧ w' = W) := ja1 f (c + 1) 100
    generalize Spc.inn f (c + 1) 100 = z at *
    go_enter Tryz.func176, Tryz.ntmps176
    go_wp2_with fail
    go_quiet ((go_at_call 175; exact Calls.quiet_of_same (C.out _)))
    go_wp2_with fail
    go_ret
    exact ⟨rfl, Below.drewN B1.out _⟩
   ·rw [decide_eq_false hy, Bool.false_and]
    have hyn := decide_eq_false hy
    clear hy
    go_enter Tryz.func176, Tryz.ntmps176
    go_wp2_with fail
    go_quiet ((go_at_call 175; fail))
    go_wp2_with fail
    go_ret
    exact ⟨rfl, Below.drewN B1.out _⟩
 ·have e1 : Spc.st ⟨v, d, u, n, g, a, b, c, f, wi, x, k⟩ 3 = decide (f = 0) := by unfold Spc.st; rw [if_pos hg]; rfl
  rw [e1]
  have hgn : (g != 0) = true := by rw [bne_iff_ne]; exact hg
  clear e1
  go_enter Tryz.func176, Tryz.ntmps176
  go_wp2_with fail
  go_ret
  exact ⟨jd6 (by by_cases hx : f = 0 <;> simp [hx]), B1.out⟩
structure SpFz (w : World) (g : Nat) : Prop where
 z0 : w.frozen? ⟨g, 0, none⟩ = false
 z1 : w.frozen? ⟨g, 1, none⟩ = false
 z2 : w.frozen? ⟨g, 2, none⟩ = false
 z3 : w.frozen? ⟨g, 3, none⟩ = false
 z4 : w.frozen? ⟨g, 4, none⟩ = false
 z5 : w.frozen? ⟨g, 5, none⟩ = false
 z6 : w.frozen? ⟨g, 6, none⟩ = false
 z7 : w.frozen? ⟨g, 7, none⟩ = false
 z8 : w.frozen? ⟨g, 8, none⟩ = false
 z9 : w.frozen? ⟨g, 9, none⟩ = false
 z10 : w.frozen? ⟨g, 10, none⟩ = false
 z11 : w.frozen? ⟨g, 11, none⟩ = false
theorem jba {w : World} {g : Nat} {cs : Array Value} {t : TypeId} (h : w.heap[g]? = some (.cells cs t (0, 0))) : SpFz w g := by
 constructor <;> exact frozen_of_row w g _ _ _ h
def puts (w : World) (g : Nat) : Nat → List Value → World
 | _, [] => w
 | k, v :: vs => puts (w.setCell ⟨g, k, none⟩ v) g (k + 1) vs
theorem jca (g : Nat) (vs : List Value) (k : Nat) (w : World) : w.grownBy (puts w g k vs) (some g) := by
 induction vs generalizing k w with
 | nil => exact World.grownBy.refl _ _
 | cons v vs ih => exact jbh (jan _ _ _ _) (ih (k + 1) _)
theorem jkf (g : Nat) (vs : List Value) (pre post : List Value) (old : List Value) (w : World) (t : TypeId) (hl : old.length = vs.length) (h : w.heap[g]? = some (.cells (pre ++ old ++ post).toArray t (0, 0))) :
  (puts w g pre.length vs).heap[g]? = some (.cells (pre ++ vs ++ post).toArray t (0, 0)) := by
 induction vs generalizing pre old w with
 | nil =>
  have : old = [] := List.eq_nil_of_length_eq_zero (by simpa using hl)
  subst this
  exact h
 | cons v vs ih =>
  rcases old with _ | ⟨x, old⟩
  ·simp at hl
  ·have h1 := heap_setCell_same w g pre.length _ _ v h
   have e : (pre ++ x :: old ++ post).toArray.setIfInBounds pre.length v = ((pre ++ [v]) ++ old ++ post).toArray := by
    simp
   rw [e] at h1
   have := ih (pre ++ [v]) old _ (by simpa using hl) h1
   rw [List.length_append, List.length_singleton] at this
   rw [show pre ++ v :: vs ++ post = pre ++ [v] ++ vs ++ post by simp]
   exact this
theorem jed {w : World} {g : Nat} {r s : Spc.Sp} {t : TypeId} (h : w.heap[g]? = some (.cells (Spc.cells r) t (0, 0))) : (puts w g 0 (Spc.cells s).toList).heap[g]? = some (.cells (Spc.cells s) t (0, 0)) := by
 have := jkf g (Spc.cells s).toList [] [] (Spc.cells r).toList w t rfl (by simpa using h)
 simpa using this
def GoodC : Prop := ∀ s W, Spc.In s → Calls Tryz.prog 89 #[Spc.val s] W (APos W (Spc.val (Spc.good s)))
end Go.Proofs.YtnacjhnfkkddcaaGreatDoor
