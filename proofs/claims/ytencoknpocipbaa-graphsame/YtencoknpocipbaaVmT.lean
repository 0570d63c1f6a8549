/-
  What holds of every run: its places rise, it ends. No Go text here.
-/
import Derived.Test.YtencoknpocipbaaLotP4
namespace Go.Proofs.Ytencoknpocipbaa
open Go.RowKit
set_option maxRecDepth 100000

/-- Where a run goes on. -/
theorem taken_next {xs : List In} (h : (checkV xs).2 = 0) {j : Nat} (hj : j < xs.length) (hr : retB xs[j].code.toNat = false) :
    j + 1 < xs.length ∧ (((xs[j].code.toNat : Int) == 5) = true → j + 1 + xs[j].k.toNat < xs.length) ∧ (jumpB xs[j].code.toNat = true → j + 1 + xs[j].jt.toNat < xs.length ∧ j + 1 + xs[j].jf.toNat < xs.length) := by
  obtain ⟨t1, t2, t3, t4⟩ := taken h
  obtain ⟨p1, p2⟩ := jumpBad_out (bad_zero (t3 j hj)).2
  have hn := last_ret t4 hj hr
  refine ⟨hn, fun h5 => by have := p1 h5; omega, fun hjb => by have := p2 hjb; omega⟩

/-- What a run from a place on comes to. -/
structure Runs (xs : List In) (j : Nat) (r : Nat × Int × List Nat) : Prop where
  head : ∃ l, r.2.2 = j :: l
  rise : r.2.2.Pairwise (· < ·)
  within : ∀ t ∈ r.2.2, t < xs.length
  reach : (reachTo xs j).getD j false = true → ∀ t ∈ r.2.2, (reachTo xs t).getD t false = true
  few : r.2.2.length + j ≤ xs.length
  last : ∃ t, r.2.2.getLast? = some t ∧ ∃ x, xs[t]? = some x ∧ (r.2.1 ≠ 0 → r.1 = 0 ∧ retB x.code.toNat = false ∧ jumpB x.code.toNat = false ∧ ((x.code.toNat : Int) == 5) = false ∧ ∃ M pk, (stepV x.code.toNat x.k.toNat pk M).2 ≠ 0) ∧ (r.2.1 = 0 → retB x.code.toNat = true ∧ (((x.code.toNat : Int) == 22) = true ∨ r.1 = x.k.toNat))

theorem stepB_mono (x : In) (i t : Nat) (bs : List Bool) (h : bs.getD t false = true) : (stepB x i bs).getD t false = true := by
  have hs : ∀ (l : List Bool) (k : Nat), l.getD t false = true → (l.set k true).getD t false = true := fun l k hl => by
    simp only [List.getD_eq_getElem?_getD, List.getElem?_set] at *
    by_cases e : k = t
    · subst e
      by_cases hk : k < l.length
      · simp [hk]
      · simp [hk] at hl
    · simp [e, hl]
  unfold stepB
  split
  · exact h
  split
  · exact hs _ _ h
  split
  · exact hs _ _ (hs _ _ h)
  · exact hs _ _ h

theorem reachTo_mono (xs : List In) (i d t : Nat) (h : (reachTo xs i).getD t false = true) : (reachTo xs (i + d)).getD t false = true := by
  induction d with
  | zero => exact h
  | succ d ih =>
    rw [show i + (d + 1) = i + d + 1 by omega, reachTo]
    cases xs[i + d]? with
    | none => exact ih
    | some x => exact stepB_mono x _ _ _ ih

theorem reach_set {bs : List Bool} {k t : Nat} (h : k = t) (ht : t < bs.length) : (bs.set k true).getD t false = true := by
  subst h
  simp [List.getD_eq_getElem?_getD, ht]

/-- What is come to goes on. -/
theorem reach_step {xs : List In} {j n : Nat} (hj : j < xs.length) (h : (reachTo xs j).getD j false = true) (hr : retB xs[j].code.toNat = false) (hn : n < xs.length)
    (hg : if ((xs[j].code.toNat : Int) == 5) = true then n = j + 1 + xs[j].k.toNat else if jumpB xs[j].code.toNat = true then (n = j + 1 + xs[j].jt.toNat ∨ n = j + 1 + xs[j].jf.toNat) else n = j + 1) : (reachTo xs n).getD n false = true := by
  have hjn : j + 1 ≤ n := by
    split at hg
    · omega
    · split at hg
      · rcases hg with e | e <;> omega
      · omega
  have key : (reachTo xs (j + 1)).getD n false = true := by
    rw [reachTo_succ hj, stepB, if_neg (by rw [h, hr]; simp)]
    have hl := reachTo_len xs j
    split at hg
    · rename_i h5
      rw [if_pos h5]
      exact reach_set hg.symm (by omega)
    · rename_i h5
      rw [if_neg h5]
      split at hg
      · rename_i hjb
        rw [if_pos hjb]
        rcases hg with e | e
        · by_cases hee : xs[j].jf.toNat = xs[j].jt.toNat
          · exact reach_set (by omega) (by simp; omega)
          · have := reach_set (bs := reachTo xs j) (k := j + 1 + xs[j].jt.toNat) e.symm (by omega)
            simp only [List.getD_eq_getElem?_getD] at this ⊢
            rw [List.getElem?_set_ne (by omega)]
            exact this
        · exact reach_set e.symm (by simp; omega)
      · rename_i hjb
        rw [if_neg hjb]
        exact reach_set hg.symm (by omega)
  have := reachTo_mono xs (j + 1) (n - (j + 1)) n key
  rw [show j + 1 + (n - (j + 1)) = n by omega] at this
  exact this

theorem retB_of {c : Int} (h6 : (c == 6) = false) (h22 : (c == 22) = false) : retB c = false := by simp only [retB, h6, h22]; rfl

theorem Runs.cons {xs : List In} {j n : Nat} {r : Nat × Int × List Nat} (hj : j < xs.length) (hr : retB xs[j].code.toNat = false) (hjn : j < n) (hn : n < xs.length)
    (hg : if ((xs[j].code.toNat : Int) == 5) = true then n = j + 1 + xs[j].k.toNat else if jumpB xs[j].code.toNat = true then (n = j + 1 + xs[j].jt.toNat ∨ n = j + 1 + xs[j].jf.toNat) else n = j + 1)
    (h : Runs xs n r) : Runs xs j (hdV j r) := by
  obtain ⟨l, hl⟩ := h.head
  obtain ⟨t, ht, x, hx, q⟩ := h.last
  refine ⟨⟨_, rfl⟩, ?_, ?_, ?_, ?_, t, ?_, x, hx, q⟩
  · show (j :: r.2.2).Pairwise (· < ·)
    rw [List.pairwise_cons]
    refine ⟨fun a ha => ?_, h.rise⟩
    have hp := h.rise
    rw [hl] at hp ha
    rw [List.pairwise_cons] at hp
    rcases List.mem_cons.1 ha with rfl | ha
    · exact hjn
    · exact Nat.lt_trans hjn (hp.1 a ha)
  · intro a ha
    rcases List.mem_cons.1 ha with rfl | ha
    · exact hj
    · exact h.within a ha
  · intro h0 a ha
    rcases List.mem_cons.1 ha with rfl | ha
    · exact h0
    · exact h.reach (reach_step hj h0 hr hn hg) a ha
  · have := h.few
    show (j :: r.2.2).length + j ≤ xs.length
    simp only [List.length_cons]
    omega
  · show (j :: r.2.2).getLast? = some t
    rw [List.getLast?_cons, ht]
    rfl

theorem Runs.one {xs : List In} {j v : Nat} {f : Int} (hj : j < xs.length)
    (q : (f ≠ 0 → v = 0 ∧ retB xs[j].code.toNat = false ∧ jumpB xs[j].code.toNat = false ∧ ((xs[j].code.toNat : Int) == 5) = false ∧ ∃ M pk, (stepV xs[j].code.toNat xs[j].k.toNat pk M).2 ≠ 0) ∧ (f = 0 → retB xs[j].code.toNat = true ∧ (((xs[j].code.toNat : Int) == 22) = true ∨ v = xs[j].k.toNat))) : Runs xs j (v, f, [j]) := by
  refine ⟨⟨_, rfl⟩, by simp, ?_, ?_, by simp; omega, j, rfl, xs[j], List.getElem?_eq_getElem hj, q⟩
  · intro a ha
    simp only [List.mem_singleton] at ha
    omega
  · intro h0 a ha
    simp only [List.mem_singleton] at ha
    subst ha
    exact h0

theorem runF_runs {xs : List In} (h : (checkV xs).2 = 0) (pk : List UInt8) : ∀ (n j : Nat) (M : Mc), j < xs.length → xs.length ≤ j + n → Runs xs j (runF xs pk n j M) := by
  intro n
  induction n with
  | zero => intro j M h1 h2; omega
  | succ n ih =>
    intro j M hj hn
    by_cases h6 : ((xs[j].code.toNat : Int) == 6) = true
    · rw [runF_retK hj h6]
      exact Runs.one hj ⟨fun hf => absurd rfl hf, fun _ => ⟨by simp [retB, h6], .inr rfl⟩⟩
    have h6 : ((xs[j].code.toNat : Int) == 6) = false := by simpa using h6
    by_cases h22 : ((xs[j].code.toNat : Int) == 22) = true
    · rw [runF_retA hj h6 h22]
      exact Runs.one hj ⟨fun hf => absurd rfl hf, fun _ => ⟨by simp [retB, h22], .inl h22⟩⟩
    have h22 : ((xs[j].code.toNat : Int) == 22) = false := by simpa using h22
    have hr := retB_of h6 h22
    obtain ⟨p0, p1, p2⟩ := taken_next h hj hr
    by_cases h5 : ((xs[j].code.toNat : Int) == 5) = true
    · rw [runF_ja hj h6 h22 h5]
      have := p1 h5
      exact Runs.cons hj hr (by omega) this (by rw [if_pos h5]) (ih _ _ this (by omega))
    have h5 : ((xs[j].code.toNat : Int) == 5) = false := by simpa using h5
    cases hjb : jumpB xs[j].code.toNat with
    | true =>
      rw [runF_jump hj h6 h22 h5 hjb]
      obtain ⟨q1, q2⟩ := p2 hjb
      have hgo : j + 1 + goalV xs[j] M = j + 1 + xs[j].jt.toNat ∨ j + 1 + goalV xs[j] M = j + 1 + xs[j].jf.toNat := by
        unfold goalV
        split
        · exact .inl rfl
        · exact .inr rfl
      have hlt : j + 1 + goalV xs[j] M < xs.length := by rcases hgo with e | e <;> omega
      exact Runs.cons hj hr (by omega) hlt (by rw [h5, if_neg (by simp), if_pos hjb]; exact hgo) (ih _ _ hlt (by omega))
    | false =>
      rw [runF_step hj h6 h22 h5 hjb]
      by_cases hf : (stepV xs[j].code.toNat xs[j].k.toNat pk M).2 = 0
      · rw [if_pos hf]
        exact Runs.cons hj hr (by omega) p0 (by rw [h5, hjb, if_neg (by simp), if_neg (by simp)]) (ih _ _ p0 (by omega))
      · rw [if_neg hf]
        exact Runs.one hj ⟨fun _ => ⟨rfl, hr, hjb, h5, M, pk, hf⟩, fun e => absurd e hf⟩

theorem runE_zero {xs : List In} {pk : List UInt8} (h : runE xs pk = 0) : (checkV xs).2 = 0 ∧ pk.length ≤ 65536 := by
  unfold runE at h
  split at h
  · rename_i h0
    split at h
    · simp at h
    · exact ⟨h0, by omega⟩
  · simp at h

theorem runV_runs {xs : List In} {pk : List UInt8} (h : runE xs pk = 0) : Runs xs 0 (runV xs pk) := by
  obtain ⟨h0, -⟩ := runE_zero h
  rw [runV, if_pos h]
  exact runF_runs h0 pk _ _ _ (taken h0).1 (by omega)

theorem runV_len (xs : List In) (pk : List UInt8) : (runV xs pk).2.2.length ≤ 4096 := by
  by_cases h : runE xs pk = 0
  · have := (runV_runs h).few
    have := (taken (runE_zero h).1).2.1
    omega
  · rw [runV, if_neg h]
    simp

end Go.Proofs.Ytencoknpocipbaa
