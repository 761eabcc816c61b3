/-
  What the calls of a table tell: LeaseRises' numbers. No condition.
-/
import Derived.Test.YtemnioijgkahcaaLsSide
namespace Go.Proofs.Ytemnioijgkahcaa.Ls
theorem take_cases (s : St) (k : ByteArray) (h now ttl : Int) : (takeE s k h now ttl = 0 ∧ Right k h now ttl ∧ Free s k now) ∨ takeE s k h now ttl = 1 ∨ (takeE s k h now ttl = 9 ∧ ¬ Free s k now) := by
  unfold takeE
  by_cases h1 : Right k h now ttl
  · by_cases h2 : Free s k now
    · exact .inl ⟨by rw [if_neg (fun h => h h1), if_neg (fun h => h h2)], h1, h2⟩
    · exact .inr (.inr ⟨by rw [if_neg (fun h => h h1), if_pos h2], h2⟩)
  · exact .inr (.inl (by rw [if_pos h1]))
theorem take_no {s : St} {k : ByteArray} {h now ttl : Int} (hE : takeE s k h now ttl ≠ 0) : takeS s k h now ttl = s ∧ takeN s k h now ttl = 0 := by
  unfold takeS takeN
  rw [if_neg hE, if_neg hE]
  exact ⟨rfl, rfl⟩
theorem take_yes {s : St} {k : ByteArray} {h now ttl : Int} (hE : takeE s k h now ttl = 0) (hr : Right k h now ttl) : takeN s k h now ttl = epochOf s.l k + 1 ∧ (Holds (takeS s k h now ttl) k h (epochOf s.l k + 1) now ↔ now < 1099511627776) := by
  unfold takeS takeN
  rw [if_pos hE, if_pos hE]
  refine ⟨rfl, ?_⟩
  obtain ⟨r1, r2, r3, r4, r5, r6, r7⟩ := hr
  have r8 := r5.2
  have hf : find (taken s k h now ttl).l k = some ⟨k, h, epochOf s.l k + 1, late now ttl, false⟩ := by
    show find (put s.l _) k = _
    rw [find_put, if_pos rfl]
  unfold Holds
  rw [hf]
  constructor
  · rintro ⟨e, he, _, _, _, h4⟩
    obtain rfl := Option.some.inj he
    have h5 : now < late now ttl := h4
    unfold late at h5
    omega
  · intro h1
    refine ⟨_, rfl, rfl, rfl, rfl, ?_⟩
    show now < late now ttl
    unfold late
    omega
theorem renew_cases (s : St) (k : ByteArray) (h ep now ttl : Int) : (renewE s k h ep now ttl ≠ 0 ∧ renewS s k h ep now ttl = s) ∨ (renewE s k h ep now ttl = 0 ∧ tillOf s.l k ≤ renewN s k h ep now ttl ∧ Holds (renewS s k h ep now ttl) k h ep now ∧ epochOf (renewS s k h ep now ttl).l k = epochOf s.l k) := by
  by_cases h0 : renewE s k h ep now ttl = 0
  · refine .inr ⟨h0, ?_⟩
    unfold renewS renewN
    rw [if_pos h0, if_pos h0]
    unfold renewE at h0
    split at h0
    · cases h0
    · split at h0
      · cases h0
      · rename_i e he
        split at h0
        · cases h0
        · rename_i h1
          split at h0
          · cases h0
          · rename_i h2
            unfold Other at h1
            have a1 : e.holder = h := Decidable.of_not_not fun h => h1 (.inl h)
            have a2 : e.epoch = ep := Decidable.of_not_not fun h => h1 (.inr h)
            have a3 : e.dropped = false := by
              cases hd : e.dropped with
              | false => rfl
              | true => exact absurd (.inl hd) h2
            have a4 : now < e.till := by
              have : ¬ e.till ≤ now := fun h => h2 (.inr h)
              omega
            have hk := (find_some he).2
            have hf : find (renewed s k now ttl).l k = some ⟨e.name, e.holder, e.epoch, max e.till (late now ttl), e.dropped⟩ := by
              unfold renewed
              rw [he]
              show find (put s.l _) k = _
              rw [find_put, if_pos hk]
            have ht : tillOf s.l k = e.till := by unfold tillOf; rw [he]
            have hp : epochOf s.l k = e.epoch := by unfold epochOf; rw [he]
            refine ⟨by omega, ⟨_, hf, a3, a1, a2, ?_⟩, ?_⟩
            · show now < max e.till (late now ttl)
              omega
            · rw [hp]
              unfold epochOf
              rw [hf]
  · refine .inl ⟨h0, ?_⟩
    unfold renewS
    rw [if_neg h0]
theorem drop_cases (s : St) (k : ByteArray) (h ep now : Int) : (dropE s k h ep ≠ 0 ∧ dropS s k h ep = s) ∨ (dropE s k h ep = 0 ∧ Free (dropS s k h ep) k now ∧ ¬ Holds (dropS s k h ep) k h ep now ∧ epochOf (dropS s k h ep).l k = epochOf s.l k) := by
  by_cases h0 : dropE s k h ep = 0
  · refine .inr ⟨h0, ?_⟩
    unfold dropS
    rw [if_pos h0]
    unfold dropE at h0
    split at h0
    · cases h0
    · rename_i e he
      have hk := (find_some he).2
      have hf : find (droppedS s k).l k = some ⟨e.name, e.holder, e.epoch, 0, true⟩ := by
        unfold droppedS
        rw [he]
        show find (put s.l _) k = _
        rw [find_put, if_pos hk]
      have hp : epochOf s.l k = e.epoch := by unfold epochOf; rw [he]
      refine ⟨fun x hx => ?_, ?_, ?_⟩
      · rw [hf] at hx
        obtain rfl := Option.some.inj hx
        exact .inl rfl
      · rintro ⟨x, hx, h1, _⟩
        rw [hf] at hx
        obtain rfl := Option.some.inj hx
        cases h1
      · rw [hp]
        unfold epochOf
        rw [hf]
  · refine .inl ⟨h0, ?_⟩
    unfold dropS
    rw [if_neg h0]
end Go.Proofs.Ytemnioijgkahcaa.Ls
