/-
  What holds of every run: its places rise, it ends. No Go text here. The program of a graph: where its blocks lie, that it is taken, that its runs come to what the graph's come to. No Go text here.
-/
import Derived.Test.YtencoknpocipbaaGreatLotP5
import Derived.Test.YtencoknpocipbaaGreatLotP6
import Derived.Test.YtencoknpocipbaaGreatLotP19
namespace Go.Proofs.YtencoknpocipbaaGreat
open Go.RowKit
set_option maxRecDepth 100000

/-- Where a run goes on. -/
theorem taken_next {xs : List In} (h : (checkV xs).2 = 0) {j : Nat} (hj : j < xs.length) (hr : retB xs[j].code.toNat = false) :
    j + 1 < xs.length ∧ (((xs[j].code.toNat : Int) == 5) = true → j + 1 + xs[j].k.toNat < xs.length) ∧ (jumpB xs[j].code.toNat = true → j + 1 + xs[j].jt.toNat < xs.length ∧ j + 1 + xs[j].jf.toNat < xs.length) := by
  obtain ⟨t1, t2, t3, t4⟩ := taken h
  obtain ⟨p1, p2⟩ := jumpBad_out (bad_zero (t3 j hj)).2
  have hn := last_ret t4 hj hr
  refine ⟨hn, fun h5 => by have := p1 h5; omega, fun hjb => by have := p2 hjb; omega⟩

/-- What a run from a place on comes to. -/
structure Runs (xs : List In) (j : Nat) (r : Nat × Int × List Nat) : Prop where
  head : ∃ l, r.2.2 = j :: l
  rise : r.2.2.Pairwise (· < ·)
  within : ∀ t ∈ r.2.2, t < xs.length
  reach : (reachTo xs j).getD j false = true → ∀ t ∈ r.2.2, (reachTo xs t).getD t false = true
  few : r.2.2.length + j ≤ xs.length
  last : ∃ t, r.2.2.getLast? = some t ∧ ∃ x, xs[t]? = some x ∧ (r.2.1 ≠ 0 → r.1 = 0 ∧ retB x.code.toNat = false ∧ jumpB x.code.toNat = false ∧ ((x.code.toNat : Int) == 5) = false ∧ ∃ M pk, (stepV x.code.toNat x.k.toNat pk M).2 ≠ 0) ∧ (r.2.1 = 0 → retB x.code.toNat = true ∧ (((x.code.toNat : Int) == 22) = true ∨ r.1 = x.k.toNat))

theorem stepB_mono (x : In) (i t : Nat) (bs : List Bool) (h : bs.getD t false = true) : (stepB x i bs).getD t false = true := by
  have hs : ∀ (l : List Bool) (k : Nat), l.getD t false = true → (l.set k true).getD t false = true := fun l k hl => by
    simp only [List.getD_eq_getElem?_getD, List.getElem?_set] at *
    by_cases e : k = t
    · subst e
      by_cases hk : k < l.length
      · simp [hk]
      · simp [hk] at hl
    · simp [e, hl]
  unfold stepB
  split
  · exact h
  split
  · exact hs _ _ h
  split
  · exact hs _ _ (hs _ _ h)
  · exact hs _ _ h

theorem reachTo_mono (xs : List In) (i d t : Nat) (h : (reachTo xs i).getD t false = true) : (reachTo xs (i + d)).getD t false = true := by
  induction d with
  | zero => exact h
  | succ d ih =>
    rw [show i + (d + 1) = i + d + 1 by omega, reachTo]
    cases xs[i + d]? with
    | none => exact ih
    | some x => exact stepB_mono x _ _ _ ih

theorem reach_set {bs : List Bool} {k t : Nat} (h : k = t) (ht : t < bs.length) : (bs.set k true).getD t false = true := by
  subst h
  simp [List.getD_eq_getElem?_getD, ht]

/-- What is come to goes on. -/
theorem reach_step {xs : List In} {j n : Nat} (hj : j < xs.length) (h : (reachTo xs j).getD j false = true) (hr : retB xs[j].code.toNat = false) (hn : n < xs.length)
    (hg : if ((xs[j].code.toNat : Int) == 5) = true then n = j + 1 + xs[j].k.toNat else if jumpB xs[j].code.toNat = true then (n = j + 1 + xs[j].jt.toNat ∨ n = j + 1 + xs[j].jf.toNat) else n = j + 1) : (reachTo xs n).getD n false = true := by
  have hjn : j + 1 ≤ n := by
    split at hg
    · omega
    · split at hg
      · rcases hg with e | e <;> omega
      · omega
  have key : (reachTo xs (j + 1)).getD n false = true := by
    rw [reachTo_succ hj, stepB, if_neg (by rw [h, hr]; simp)]
    have hl := reachTo_len xs j
    split at hg
    · rename_i h5
      rw [if_pos h5]
      exact reach_set hg.symm (by omega)
    · rename_i h5
      rw [if_neg h5]
      split at hg
      · rename_i hjb
        rw [if_pos hjb]
        rcases hg with e | e
        · by_cases hee : xs[j].jf.toNat = xs[j].jt.toNat
          · exact reach_set (by omega) (by simp; omega)
          · have := reach_set (bs := reachTo xs j) (k := j + 1 + xs[j].jt.toNat) e.symm (by omega)
            simp only [List.getD_eq_getElem?_getD] at this ⊢
            rw [List.getElem?_set_ne (by omega)]
            exact this
        · exact reach_set e.symm (by simp; omega)
      · rename_i hjb
        rw [if_neg hjb]
        exact reach_set hg.symm (by omega)
  have := reachTo_mono xs (j + 1) (n - (j + 1)) n key
  rw [show j + 1 + (n - (j + 1)) = n by omega] at this
  exact this

theorem retB_of {c : Int} (h6 : (c == 6) = false) (h22 : (c == 22) = false) : retB c = false := by simp only [retB, h6, h22]; rfl

theorem Runs.cons {xs : List In} {j n : Nat} {r : Nat × Int × List Nat} (hj : j < xs.length) (hr : retB xs[j].code.toNat = false) (hjn : j < n) (hn : n < xs.length)
    (hg : if ((xs[j].code.toNat : Int) == 5) = true then n = j + 1 + xs[j].k.toNat else if jumpB xs[j].code.toNat = true then (n = j + 1 + xs[j].jt.toNat ∨ n = j + 1 + xs[j].jf.toNat) else n = j + 1)
    (h : Runs xs n r) : Runs xs j (hdV j r) := by
  obtain ⟨l, hl⟩ := h.head
  obtain ⟨t, ht, x, hx, q⟩ := h.last
  refine ⟨⟨_, rfl⟩, ?_, ?_, ?_, ?_, t, ?_, x, hx, q⟩
  · show (j :: r.2.2).Pairwise (· < ·)
    rw [List.pairwise_cons]
    refine ⟨fun a ha => ?_, h.rise⟩
    have hp := h.rise
    rw [hl] at hp ha
    rw [List.pairwise_cons] at hp
    rcases List.mem_cons.1 ha with rfl | ha
    · exact hjn
    · exact Nat.lt_trans hjn (hp.1 a ha)
  · intro a ha
    rcases List.mem_cons.1 ha with rfl | ha
    · exact hj
    · exact h.within a ha
  · intro h0 a ha
    rcases List.mem_cons.1 ha with rfl | ha
    · exact h0
    · exact h.reach (reach_step hj h0 hr hn hg) a ha
  · have := h.few
    show (j :: r.2.2).length + j ≤ xs.length
    simp only [List.length_cons]
    omega
  · show (j :: r.2.2).getLast? = some t
    rw [List.getLast?_cons, ht]
    rfl

theorem Runs.one {xs : List In} {j v : Nat} {f : Int} (hj : j < xs.length)
    (q : (f ≠ 0 → v = 0 ∧ retB xs[j].code.toNat = false ∧ jumpB xs[j].code.toNat = false ∧ ((xs[j].code.toNat : Int) == 5) = false ∧ ∃ M pk, (stepV xs[j].code.toNat xs[j].k.toNat pk M).2 ≠ 0) ∧ (f = 0 → retB xs[j].code.toNat = true ∧ (((xs[j].code.toNat : Int) == 22) = true ∨ v = xs[j].k.toNat))) : Runs xs j (v, f, [j]) := by
  refine ⟨⟨_, rfl⟩, by simp, ?_, ?_, by simp; omega, j, rfl, xs[j], List.getElem?_eq_getElem hj, q⟩
  · intro a ha
    simp only [List.mem_singleton] at ha
    omega
  · intro h0 a ha
    simp only [List.mem_singleton] at ha
    subst ha
    exact h0

theorem runF_runs {xs : List In} (h : (checkV xs).2 = 0) (pk : List UInt8) : ∀ (n j : Nat) (M : Mc), j < xs.length → xs.length ≤ j + n → Runs xs j (runF xs pk n j M) := by
  intro n
  induction n with
  | zero => intro j M h1 h2; omega
  | succ n ih =>
    intro j M hj hn
    by_cases h6 : ((xs[j].code.toNat : Int) == 6) = true
    · rw [runF_retK hj h6]
      exact Runs.one hj ⟨fun hf => absurd rfl hf, fun _ => ⟨by simp [retB, h6], .inr rfl⟩⟩
    have h6 : ((xs[j].code.toNat : Int) == 6) = false := by simpa using h6
    by_cases h22 : ((xs[j].code.toNat : Int) == 22) = true
    · rw [runF_retA hj h6 h22]
      exact Runs.one hj ⟨fun hf => absurd rfl hf, fun _ => ⟨by simp [retB, h22], .inl h22⟩⟩
    have h22 : ((xs[j].code.toNat : Int) == 22) = false := by simpa using h22
    have hr := retB_of h6 h22
    obtain ⟨p0, p1, p2⟩ := taken_next h hj hr
    by_cases h5 : ((xs[j].code.toNat : Int) == 5) = true
    · rw [runF_ja hj h6 h22 h5]
      have := p1 h5
      exact Runs.cons hj hr (by omega) this (by rw [if_pos h5]) (ih _ _ this (by omega))
    have h5 : ((xs[j].code.toNat : Int) == 5) = false := by simpa using h5
    cases hjb : jumpB xs[j].code.toNat with
    | true =>
      rw [runF_jump hj h6 h22 h5 hjb]
      obtain ⟨q1, q2⟩ := p2 hjb
      have hgo : j + 1 + goalV xs[j] M = j + 1 + xs[j].jt.toNat ∨ j + 1 + goalV xs[j] M = j + 1 + xs[j].jf.toNat := by
        unfold goalV
        split
        · exact .inl rfl
        · exact .inr rfl
      have hlt : j + 1 + goalV xs[j] M < xs.length := by rcases hgo with e | e <;> omega
      exact Runs.cons hj hr (by omega) hlt (by rw [h5, if_neg (by simp), if_pos hjb]; exact hgo) (ih _ _ hlt (by omega))
    | false =>
      rw [runF_step hj h6 h22 h5 hjb]
      by_cases hf : (stepV xs[j].code.toNat xs[j].k.toNat pk M).2 = 0
      · rw [if_pos hf]
        exact Runs.cons hj hr (by omega) p0 (by rw [h5, hjb, if_neg (by simp), if_neg (by simp)]) (ih _ _ p0 (by omega))
      · rw [if_neg hf]
        exact Runs.one hj ⟨fun _ => ⟨rfl, hr, hjb, h5, M, pk, hf⟩, fun e => absurd e hf⟩

theorem runE_zero {xs : List In} {pk : List UInt8} (h : runE xs pk = 0) : (checkV xs).2 = 0 ∧ pk.length ≤ 65536 := by
  unfold runE at h
  split at h
  · rename_i h0
    split at h
    · simp at h
    · exact ⟨h0, by omega⟩
  · simp at h

theorem runV_runs {xs : List In} {pk : List UInt8} (h : runE xs pk = 0) : Runs xs 0 (runV xs pk) := by
  obtain ⟨h0, -⟩ := runE_zero h
  rw [runV, if_pos h]
  exact runF_runs h0 pk _ _ _ (taken h0).1 (by omega)

theorem runV_len (xs : List In) (pk : List UInt8) : (runV xs pk).2.2.length ≤ 4096 := by
  by_cases h : runE xs pk = 0
  · have := (runV_runs h).few
    have := (taken (runE_zero h).1).2.1
    omega
  · rw [runV, if_neg h]
    simp

end Go.Proofs.YtencoknpocipbaaGreat

namespace Go.Proofs.YtencoknpocipbaaGreat
open Go.RowKit
set_option maxRecDepth 100000

theorem u8I_nat {v : Int} (h0 : 0 ≤ v) (h1 : v ≤ 255) : ((u8I v).toNat : Int) = v := by
  unfold u8I
  rw [UInt8.toNat_ofNat']
  omega
theorem u32I_nat {v : Int} (h0 : 0 ≤ v) (h1 : v ≤ 4294967295) : ((u32I v).toNat : Int) = v := by
  unfold u32I
  rw [UInt32.toNat_ofNat']
  omega

/-- From a place on one comes to another one, by a Ja or at once. -/
def Goes (P : List In) (a b : Nat) : Prop := a = b ∨ ∃ k : UInt32, P[a]? = some ⟨5, 0, 0, k⟩ ∧ a + 1 + k.toNat = b

structure LayB (P : List In) (pl : Nat → Nat) (b : Bk) (d : List Int) (p : Nat) : Prop where
  code : ∀ i (h : i < b.code.length), P[p + i]? = some b.code[i]
  ret : b.en = 1 → P[p + b.code.length]? = some b.last
  go : b.en = 2 → Goes P (p + b.code.length) (pl b.yes.toNat)
  test : b.en = 3 → ∃ t f, P[p + b.code.length]? = some ⟨b.last.code, t, f, b.last.k⟩ ∧ Goes P (p + b.code.length + 1 + t.toNat) (pl b.yes.toNat) ∧ Goes P (p + b.code.length + 1 + f.toNat) (pl b.no.toNat)
  jas : ∀ k, k < d.length → ∃ K : UInt32, P[p + roomV b + k]? = some ⟨5, 0, 0, K⟩ ∧ ∃ G, (b.en = 2 ∧ G = b.yes ∨ b.en = 3 ∧ (G = b.yes ∨ G = b.no)) ∧ p + roomV b + k + 1 + K.toNat = pl G.toNat

theorem jasF_get (pl : Int → Int) : ∀ (d : List Int) (p k : Nat), (jasF pl p d)[k]? = (d[k]?).map (jaF pl (p + k))
  | [], _, k => by simp [jasF]
  | x :: r, p, 0 => by simp [jasF]
  | x :: r, p, k + 1 => by
    rw [jasF, List.getElem?_cons_succ, List.getElem?_cons_succ, jasF_get pl r (p + 1) k, show p + 1 + k = p + (k + 1) by omega]

theorem sum_meas {g : List Bk} (hE : ∀ b ∈ g, b.en = 1 ∨ b.en = 2 ∨ b.en = 3) : ∀ i, sumL (zipL i g) ≤ countG measE g := by
  induction g with
  | nil => intro i; exact Nat.le_refl _
  | cons b r ih =>
    intro i
    have h1 := ih (fun x hx => hE x (List.mem_cons_of_mem _ hx)) (i + 1)
    rw [zipL, sumL_cons]
    have h2 : countG measE (b :: r) = b.code.length + measE b + countG measE r := by simp [countG]
    have h3 : lenB (b, detL i b (leftL (i + 1) r)) ≤ b.code.length + measE b := by
      unfold lenB roomV detL detV farV sizeE measE
      rcases hE b (List.mem_cons_self ..) with h | h | h <;> simp only [h] <;> (repeat' split) <;> simp_all <;> omega
    omega

/-- One block's goals, told by places. -/
theorem far_cases (b : Bk) (y n : Int) : (farV b y n).length ≤ 2 ∧ (b.yes ∈ farV b y n ∨ y + (farV b y n).length ≤ 255) ∧ (b.no ∈ farV b y n ∨ n + (farV b y n).length ≤ 255) ∧ ∀ G ∈ farV b y n, G = b.yes ∨ G = b.no := by
  unfold farV
  split
  · rename_i h; exact ⟨by simp, .inr (by simp; omega), .inr (by simp; omega), by simp⟩
  split
  · rename_i h; exact ⟨by simp, .inl (by simp), .inl (by simp [h]), by simp⟩
  split
  · exact ⟨by simp, .inr (by simp; omega), .inl (by simp), by simp⟩
  split
  · exact ⟨by simp, .inl (by simp), .inr (by simp; omega), by simp⟩
  · exact ⟨by simp, .inl (by simp), .inl (by simp), by simp⟩

theorem goal_goes {P : List In} {pl : Nat → Nat} {plI : Int → Int} (hpl : ∀ G : Int, plI G = (pl G.toNat : Int)) {d : List Int} {e : Nat} {G : Int} (hd : d.length ≤ 2) (hlim : pl G.toNat ≤ 4294967295) (hle : e + 1 + d.length ≤ pl G.toNat)
    (hja : ∀ k (h : k < d.length), P[e + 1 + k]? = some (jaF plI (e + 1 + k) d[k])) (hG : G ∈ d ∨ (pl G.toNat : Int) - e - 1 ≤ 255) : Goes P (e + 1 + (u8I (leapL plI d G e)).toNat) (pl G.toNat) := by
  by_cases hm : G ∈ d
  · have hi := List.idxOf_lt_length_iff.2 hm
    have hv : leapL plI d G e = (d.idxOf G : Int) := by rw [leapL, if_pos hm]
    have h8 := u8I_nat (v := (d.idxOf G : Int)) (by omega) (by omega)
    rw [hv]
    have h8' : (u8I (d.idxOf G : Int)).toNat = d.idxOf G := by omega
    rw [h8']
    have hx := hja _ hi
    have hg : d[d.idxOf G] = G := List.getElem_idxOf hi
    rw [hg] at hx
    refine .inr ⟨_, hx, ?_⟩
    have hl : leapL plI [] G ((e + 1 + d.idxOf G : Nat) : Int) = (pl G.toNat : Int) - ((e + 1 + d.idxOf G : Nat) : Int) - 1 := by rw [leapL, if_neg (by simp), hpl]
    have h32 := u32I_nat (v := (pl G.toNat : Int) - ((e + 1 + d.idxOf G : Nat) : Int) - 1) (by omega) (by omega)
    rw [hl]
    omega
  · have hf : (pl G.toNat : Int) - e - 1 ≤ 255 := hG.resolve_left hm
    have hv : leapL plI d G e = (pl G.toNat : Int) - e - 1 := by rw [leapL, if_neg hm, hpl]
    have h8 := u8I_nat (v := (pl G.toNat : Int) - e - 1) (by omega) hf
    rw [hv]
    exact .inl (by omega)

def detG (g : List Bk) (j : Nat) (b : Bk) : List Int := detL j b (leftL (j + 1) (g.drop (j + 1)))

theorem goals_ahead {g : List Bk} (T : TakenG g) {j : Nat} (hj : j < g.length) : (g[j].en = 2 → j + 1 ≤ g[j].yes.toNat ∧ g[j].yes.toNat < g.length) ∧ (g[j].en = 3 → (j + 1 ≤ g[j].yes.toNat ∧ g[j].yes.toNat < g.length) ∧ (j + 1 ≤ g[j].no.toNat ∧ g[j].no.toNat < g.length)) := by
  obtain ⟨-, he, hl⟩ := T.ok j hj
  have h := leads_next he hl
  refine ⟨fun h2 => ?_, fun h3 => ?_⟩
  · rw [nextL, if_neg (by omega), if_pos h2] at h
    exact h _ (by simp)
  · rw [nextL, if_neg (by omega), if_neg (by omega)] at h
    exact ⟨h _ (by simp), h _ (by simp)⟩

theorem ens_of {g : List Bk} (T : TakenG g) : ∀ b ∈ g, b.en = 1 ∨ b.en = 2 ∨ b.en = 3 := by
  intro b hb
  obtain ⟨i, hi, rfl⟩ := List.getElem_of_mem hb
  exact ends_cases (T.ok i hi).2.1

set_option maxHeartbeats 2000000 in
theorem lay_ok {g : List Bk} (T : TakenG g) (hM : countG measE g ≤ 4096) {j : Nat} (hj : j < g.length) : LayB (progG g) (plN (zipL 0 g)) g[j] (detG g j g[j]) (plN (zipL 0 g) j) := by
  have hS := sum_meas (ens_of T) 0
  have hP : ∀ k, plN (zipL 0 g) k ≤ 4096 := fun k => by have := plN_le (zipL 0 g) k; omega
  have hz : (zipL 0 g)[j]? = some (g[j], detG g j g[j]) := by have := zipL_get (i := 0) hj; rwa [Nat.zero_add] at this
  have hs : plN (zipL 0 g) (j + 1) = plN (zipL 0 g) j + lenB (g[j], detG g j g[j]) := by have := plN_succ (i := 0) hj; rwa [Nat.zero_add] at this
  have hd : detG g j g[j] = detV g[j] (((plN (zipL 0 g) (j + 1 + (g[j].yes.toNat - (j + 1))) : Nat) : Int) - plN (zipL 0 g) (j + 1)) (((plN (zipL 0 g) (j + 1 + (g[j].no.toNat - (j + 1))) : Nat) : Int) - plN (zipL 0 g) (j + 1)) := detL_eq g j g[j]
  have hget := finG_get (plF (zipL 0 g)) 0 (zipL 0 g) j _ hz
  rw [Nat.zero_add] at hget
  have hmono : ∀ k, j + 1 ≤ k → plN (zipL 0 g) (j + 1) ≤ plN (zipL 0 g) k := fun k h => plN_mono _ h
  obtain ⟨ha2, ha3⟩ := goals_ahead T hj
  have hen := ens_of T g[j] (List.getElem_mem hj)
  have hpf : ∀ G : Int, plF (zipL 0 g) G = (plN (zipL 0 g) G.toNat : Int) := fun _ => rfl
  show LayB (finG (plF (zipL 0 g)) 0 (zipL 0 g)) _ _ _ _
  generalize finG (plF (zipL 0 g)) 0 (zipL 0 g) = P at *
  generalize detG g j g[j] = d at *
  generalize plF (zipL 0 g) = pf at *
  generalize plN (zipL 0 g) = pl at *
  generalize g[j] = b at *
  clear hz hS hM
  have hlen : lenB (b, d) = b.code.length + sizeE b + d.length := rfl
  have hcode : ∀ i (h : i < b.code.length), P[pl j + i]? = some b.code[i] := fun i h => by
    rw [hget i (by omega), finB]
    simp only
    rw [List.getElem?_append_left h, List.getElem?_eq_getElem h]
  have hend : ∀ k, k < sizeE b → P[pl j + b.code.length + k]? = (endF pf (pl j + b.code.length) b d)[k]? := fun k h => by
    rw [Nat.add_assoc, hget (b.code.length + k) (by omega), finB]
    simp only
    rw [List.getElem?_append_right (by omega), List.getElem?_append_left (by rw [endF_len]; omega), Nat.add_sub_cancel_left]
  have hjas : ∀ k (h : k < d.length), P[pl j + roomV b + k]? = some (jaF pf (pl j + roomV b + k) d[k]) := fun k h => by
    rw [roomV, show pl j + (b.code.length + sizeE b) + k = pl j + (b.code.length + sizeE b + k) by omega, hget (b.code.length + sizeE b + k) (by omega), finB]
    simp only
    rw [List.getElem?_append_right (by omega), List.getElem?_append_right (by rw [endF_len]; omega), endF_len, show b.code.length + sizeE b + k - b.code.length - sizeE b = k by omega, jasF_get, List.getElem?_eq_getElem h, roomV,
      show pl j + (b.code.length + sizeE b) + k = pl j + (b.code.length + sizeE b + k) by omega]
    rfl
  have hjaN : ∀ k (h : k < d.length), j + 1 ≤ d[k].toNat → ∃ K : UInt32, P[pl j + roomV b + k]? = some ⟨5, 0, 0, K⟩ ∧ pl j + roomV b + k + 1 + K.toNat = pl d[k].toNat := fun k h hk => by
    refine ⟨_, hjas k h, ?_⟩
    have h1 := hmono _ hk
    have h2 := hP d[k].toNat
    have hr : roomV b = b.code.length + sizeE b := rfl
    have h32 := u32I_nat (v := (pl d[k].toNat : Int) - ((pl j + roomV b + k : Nat) : Int) - 1) (by omega) (by omega)
    rw [leapL, if_neg (by simp), hpf]
    omega
  rcases hen with h1 | h2 | h3
  · have hd0 : d = [] := by rw [hd, detV, if_neg (by omega), if_neg (by omega)]
    refine ⟨hcode, fun _ => ?_, fun h => by omega, fun h => by omega, fun k hk => by rw [hd0] at hk; simp at hk⟩
    have := hend 0 (by rw [sizeE, if_neg (by omega)]; omega)
    rw [endF, if_neg (by omega), if_neg (by omega)] at this
    exact this
  · obtain ⟨hy1, hy2⟩ := ha2 h2
    have e1 : j + 1 + (b.yes.toNat - (j + 1)) = b.yes.toNat := by omega
    rw [e1, detV, if_neg (by omega)] at hd
    have hsz : sizeE b = 0 := by rw [sizeE, if_pos h2]
    have hr : roomV b = b.code.length := by rw [roomV, hsz, Nat.add_zero]
    have hm := hmono _ hy1
    by_cases hy : (0 : Int) < (pl b.yes.toNat : Int) - (pl (j + 1) : Int)
    · rw [if_pos ⟨h2, hy⟩] at hd
      subst hd
      have hk := hjaN 0 (by simp) (by simpa using hy1)
      refine ⟨hcode, fun h => by omega, fun _ => ?_, fun h => by omega, fun k hk' => ?_⟩
      · obtain ⟨K, q1, q2⟩ := hk
        rw [hr] at q1 q2
        exact .inr ⟨K, q1, q2⟩
      · obtain rfl : k = 0 := by simpa using hk'
        obtain ⟨K, q1, q2⟩ := hk
        exact ⟨K, q1, b.yes, .inl ⟨h2, rfl⟩, q2⟩
    · rw [if_neg (by omega)] at hd
      subst hd
      refine ⟨hcode, fun h => by omega, fun _ => .inl ?_, fun h => by omega, fun k hk' => by simp at hk'⟩
      rw [List.length_nil] at hlen
      omega
  · obtain ⟨⟨hy1, hy2⟩, hn1, hn2⟩ := ha3 h3
    have e1 : j + 1 + (b.yes.toNat - (j + 1)) = b.yes.toNat := by omega
    have e2 : j + 1 + (b.no.toNat - (j + 1)) = b.no.toNat := by omega
    rw [e1, e2, detV, if_pos h3] at hd
    have hsz : sizeE b = 1 := by rw [sizeE, if_neg (by omega)]
    have hr : roomV b = b.code.length + 1 := by rw [roomV, hsz]
    obtain ⟨f1, f2, f3, f4⟩ := far_cases b ((pl b.yes.toNat : Int) - (pl (j + 1) : Int)) ((pl b.no.toNat : Int) - (pl (j + 1) : Int))
    rw [← hd] at f1 f2 f3 f4
    have my := hmono _ hy1
    have mn := hmono _ hn1
    have py := hP b.yes.toNat
    have pn := hP b.no.toNat
    have hja : ∀ k (h : k < d.length), P[pl j + b.code.length + 1 + k]? = some (jaF pf (pl j + b.code.length + 1 + k) d[k]) := fun k h => by
      have := hjas k h
      rw [hr, ← Nat.add_assoc] at this
      exact this
    refine ⟨hcode, fun h => by omega, fun h => by omega, fun _ => ?_, fun k hk' => ?_⟩
    · refine ⟨u8I (leapL pf d b.yes ((pl j + b.code.length : Nat) : Int)), u8I (leapL pf d b.no ((pl j + b.code.length : Nat) : Int)), ?_, ?_, ?_⟩
      · have := hend 0 (by omega)
        rw [endF, if_neg (by omega), if_pos h3] at this
        exact this
      · refine goal_goes hpf f1 (by omega) (by omega) hja ?_
        rcases f2 with h | h
        · exact .inl h
        · exact .inr (by omega)
      · refine goal_goes hpf f1 (by omega) (by omega) hja ?_
        rcases f3 with h | h
        · exact .inl h
        · exact .inr (by omega)
    · have hg := f4 d[k] (List.getElem_mem hk')
      obtain ⟨K, q1, q2⟩ := hjaN k hk' (by rcases hg with h | h <;> rw [h] <;> assumption)
      exact ⟨K, q1, d[k], .inr ⟨h3, hg⟩, q2⟩

/-- Each place lies in a block. -/
theorem in_block : ∀ (z : List (Bk × List Int)) (i : Nat), i < sumL z → ∃ j x k, z[j]? = some x ∧ k < lenB x ∧ i = plN z j + k
  | [], i, h => by simp [sumL] at h
  | y :: r, i, h => by
    by_cases hi : i < lenB y
    · exact ⟨0, y, i, rfl, hi, by simp [plN, sumL]⟩
    · rw [sumL_cons] at h
      obtain ⟨j, x, k, h1, h2, h3⟩ := in_block r (i - lenB y) (by omega)
      refine ⟨j + 1, x, k, by simpa using h1, h2, ?_⟩
      have : plN (y :: r) (j + 1) = lenB y + plN r j := by rw [plN, List.take_succ_cons, sumL_cons]; rfl
      omega

theorem goes_lt {P : List In} {a b : Nat} (h : Goes P a b) (hb : b < P.length) : a < P.length := by
  rcases h with rfl | ⟨k, hk, -⟩
  · exact hb
  · exact (List.getElem?_eq_some_iff.1 hk).1

theorem ret_bad {x : In} {n i : Nat} (h : (classV x.code.toNat == 6) = true) : badV n i x = 0 := by
  have hc : (x.code.toNat : Int) = 6 ∨ (x.code.toNat : Int) = 22 := by
    rcases ret_codes h with q | ⟨-, q⟩
    · exact .inl (beq_iff_eq.1 q)
    · exact .inr (beq_iff_eq.1 q)
  refine bad_of ?_ ?_
  · rcases hc with q | q <;> rw [q] <;> simp [faultV, knownB, plainB, jumpB, memB, divB, shfB]
  · rcases hc with q | q <;> rw [q] <;> simp [jumpBad, jumpB]
theorem test_bad {x : In} {n i : Nat} (h : usesJ x.code.toNat = true) (h1 : i + 1 + x.jt.toNat < n) (h2 : i + 1 + x.jf.toNat < n) : badV n i x = 0 := by
  rw [usesJ, Bool.and_eq_true] at h
  have hj := h.2
  simp only [jumpB, Bool.or_eq_true, beq_iff_eq] at hj
  refine bad_of ?_ ?_
  · rw [faultV, if_neg (by rw [h.1]; simp)]
    have m : memB x.code.toNat = false := by simp only [memB, Bool.or_eq_false_iff, beq_eq_false_iff_ne]; omega
    have dv : divB x.code.toNat = false := by simp only [divB, Bool.or_eq_false_iff, beq_eq_false_iff_ne]; omega
    have sh : shfB x.code.toNat = false := by simp only [shfB, Bool.or_eq_false_iff, beq_eq_false_iff_ne]; omega
    rw [m, dv, sh]
    simp
  · have h5 : ((x.code.toNat : Int) == 5) = false := by rw [beq_eq_false_iff_ne]; omega
    have a1 : ¬ n - 1 - i ≤ x.jt.toNat := by omega
    have a2 : ¬ n - 1 - i ≤ x.jf.toNat := by omega
    simp [jumpBad, h5, a1, a2]
theorem ja_bad {K : UInt32} {n i : Nat} (h1 : i + 1 + K.toNat < n) : badV n i ⟨5, 0, 0, K⟩ = 0 := by
  refine bad_of ?_ ?_
  · show faultV 5 K.toNat = 0
    simp [faultV, knownB, plainB, jumpB, memB, divB, shfB]
  · show jumpBad 5 0 0 K.toNat (n - 1 - i) = false
    have a1 : ¬ n - 1 - i ≤ K.toNat := by omega
    simp [jumpBad, jumpB, a1]

theorem last_block {g : List Bk} (T : TakenG g) : ∃ h : g.length - 1 < g.length, g[g.length - 1].en = 1 := by
  have h := T.pos
  refine ⟨by omega, ?_⟩
  obtain ⟨a, b⟩ := goals_ahead T (j := g.length - 1) (by omega)
  rcases ens_of T g[g.length - 1] (List.getElem_mem _) with q | q | q
  · exact q
  · have := a q; omega
  · have := b q; omega

theorem prog_len {g : List Bk} : (progG g).length = sumL (zipL 0 g) := finG_len _ _ _
theorem pl_lt {g : List Bk} (T : TakenG g) (hM : countG measE g ≤ 4096) {j : Nat} (hj : j < g.length) : plN (zipL 0 g) j < (progG g).length := by
  obtain ⟨h, he⟩ := last_block T
  have := (lay_ok T hM h).ret he
  have h2 := (List.getElem?_eq_some_iff.1 this).1
  have h3 := plN_mono (zipL 0 g) (show j ≤ g.length - 1 by omega)
  omega

theorem prog_taken {g : List Bk} (T : TakenG g) (hM : countG measE g ≤ 4096) : checkV (progG g) = (0, 0) ∧ (progG g).length ≤ countG measE g := by
  have hS := sum_meas (ens_of T) 0
  have hl := prog_len (g := g)
  have hlt := fun j hj => pl_lt T hM (j := j) hj
  refine ⟨taken_of ?_ (by omega) (fun i hi => ?_) ?_, by omega⟩
  · have := hlt 0 T.pos; omega
  · obtain ⟨j, x, k, h1, h2, h3⟩ := in_block (zipL 0 g) i (by omega)
    have hj : j < g.length := by have := (List.getElem?_eq_some_iff.1 h1).1; rwa [zipL_len] at this
    have hz : (zipL 0 g)[j]? = some (g[j], detG g j g[j]) := by have := zipL_get (i := 0) hj; rwa [Nat.zero_add] at this
    rw [hz] at h1
    obtain rfl : (g[j], detG g j g[j]) = x := by simpa using h1
    have L := lay_ok T hM hj
    obtain ⟨o1, o2, o3⟩ := T.ok j hj
    obtain ⟨ha2, ha3⟩ := goals_ahead T hj
    have hx : (progG g)[plN (zipL 0 g) j + k]? = some (progG g)[i] := by rw [← h3, List.getElem?_eq_getElem hi]
    have hlen : lenB (g[j], detG g j g[j]) = roomV g[j] + (detG g j g[j]).length := rfl
    by_cases hk : k < g[j].code.length
    · have := L.code k hk
      rw [hx] at this
      have e : (progG g)[i] = g[j].code[k] := by simpa using this
      rw [e]
      have hp := List.all_eq_true.1 o1 _ (List.getElem_mem hk)
      simp only [plainI, Bool.and_eq_true, Bool.not_eq_true', beq_iff_eq] at hp
      exact plain_bad hp.1 hp.2
    · by_cases hr : k < roomV g[j]
      · have hsz : sizeE g[j] = 0 ∨ sizeE g[j] = 1 := by unfold sizeE; split <;> simp
        have hrv : roomV g[j] = g[j].code.length + sizeE g[j] := rfl
        obtain rfl : k = g[j].code.length := by omega
        have h2' : ¬ g[j].en = 2 := fun h => by rw [sizeE, if_pos h] at hrv; omega
        rcases ens_of T g[j] (List.getElem_mem hj) with q | q | q
        · have := L.ret q
          rw [hx] at this
          have e : (progG g)[i] = g[j].last := by simpa using this
          rw [e]
          rw [gendsB, if_pos q] at o2
          simp only [Bool.and_eq_true] at o2
          exact ret_bad o2.1.1
        · exact absurd q h2'
        · obtain ⟨t, f, p1, p2, p3⟩ := L.test q
          rw [hx] at p1
          have e : (progG g)[i] = ⟨g[j].last.code, t, f, g[j].last.k⟩ := by simpa using p1
          rw [e]
          rw [gendsB, if_neg (by omega), if_neg (by omega), if_pos q] at o2
          simp only [Bool.and_eq_true] at o2
          have g1 := goes_lt p2 (hlt _ (ha3 q).1.2)
          have g2 := goes_lt p3 (hlt _ (ha3 q).2.2)
          exact test_bad o2.1 (by simp only; omega) (by simp only; omega)
      · obtain ⟨K, q1, G, q2, q3⟩ := L.jas (k - roomV g[j]) (by omega)
        rw [show plN (zipL 0 g) j + roomV g[j] + (k - roomV g[j]) = plN (zipL 0 g) j + k by omega] at q1 q3
        rw [hx] at q1
        have e : (progG g)[i] = ⟨5, 0, 0, K⟩ := by simpa using q1
        rw [e]
        have hG : G.toNat < g.length := by
          rcases q2 with ⟨q, rfl⟩ | ⟨q, rfl | rfl⟩
          · exact (ha2 q).2
          · exact (ha3 q).1.2
          · exact (ha3 q).2.2
        have := hlt _ hG
        exact ja_bad (by omega)
  · obtain ⟨h, he⟩ := last_block T
    have L := lay_ok T hM h
    have hr := L.ret he
    have hi := (List.getElem?_eq_some_iff.1 hr).1
    have hz : plN (zipL 0 g) (g.length - 1 + 1) = plN (zipL 0 g) (g.length - 1) + lenB (g[g.length - 1], detG g (g.length - 1) g[g.length - 1]) := by have := plN_succ (i := 0) h; rwa [Nat.zero_add] at this
    have hd : detG g (g.length - 1) g[g.length - 1] = [] := by rw [detG, detL, detV, if_neg (by omega), if_neg (by omega)]
    have hd2 : plN (zipL 0 g) (g.length - 1 + 1) = sumL (zipL 0 g) := by rw [plN, List.take_of_length_le (by rw [zipL_len]; omega)]
    have hlen : lenB (g[g.length - 1], detG g (g.length - 1) g[g.length - 1]) = g[g.length - 1].code.length + 1 := by rw [hd]; simp [lenB, roomV, sizeE, he]
    unfold lastB
    rw [List.getLast?_eq_getElem?, show (progG g).length - 1 = plN (zipL 0 g) (g.length - 1) + g[g.length - 1].code.length by omega, hr]
    simp only
    have o2 := (T.ok _ h).2.1
    rw [gendsB, if_pos he] at o2
    simp only [Bool.and_eq_true] at o2
    rw [← class6_ret]
    exact o2.1.1

end Go.Proofs.YtencoknpocipbaaGreat
