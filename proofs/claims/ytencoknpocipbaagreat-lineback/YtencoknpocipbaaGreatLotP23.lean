/-
  All blocks laid and all jumps filled in: the program. No Go text here. Package graph as landed: taken, total, Size, Measure.
-/
import Derived.Test.YtencoknpocipbaaGreatLotP19
import Derived.Test.YtencoknpocipbaaGreatLotP20
import Derived.Test.YtencoknpocipbaaGreatLotP12
namespace Go.Proofs.YtencoknpocipbaaGreat
open Go.RowKit
open Go.Maps
set_option maxRecDepth 100000

def rawG (z : List (Bk × List Int)) : List In := z.flatMap fun x => rawB x.1 x.2
def jmpG : Nat → List (Bk × List Int) → List (Option Addr × Nat) → List Jp
  | p, x :: r, q :: qs => jmpB p x.1 x.2 q.1 q.2 ++ jmpG (p + lenB x) r qs
  | _, [], _ => []
  | _, _ :: _, [] => []

theorem endR_len (b : Bk) : (endR b).length = sizeE b := by unfold endR sizeE; split <;> rfl
theorem rawB_len (b : Bk) (d : List Int) : (rawB b d).length = lenB (b, d) := by
  rw [rawB, List.length_append, List.length_append, List.length_replicate, endR_len, lenB, roomV]
  simp only
  omega
theorem rawG_len (z : List (Bk × List Int)) : (rawG z).length = sumL z := by
  induction z with
  | nil => rfl
  | cons x r ih => rw [rawG, List.flatMap_cons, List.length_append, rawB_len, sumL_cons]; rw [rawG] at ih; rw [ih]
theorem rawG_snoc (z : List (Bk × List Int)) (x : Bk × List Int) : rawG (z ++ [x]) = rawG z ++ rawB x.1 x.2 := by simp [rawG]
theorem jmpG_snoc : ∀ (z : List (Bk × List Int)) (qs : List (Option Addr × Nat)) (p : Nat) (x : Bk × List Int) (q : Option Addr × Nat), z.length = qs.length → jmpG p (z ++ [x]) (qs ++ [q]) = jmpG p z qs ++ jmpB (p + sumL z) x.1 x.2 q.1 q.2
  | [], [], p, x, q, _ => by simp [jmpG, sumL]
  | [], _ :: _, _, _, _, h => by simp at h
  | _ :: _, [], _, _, _, h => by simp at h
  | y :: z, u :: qs, p, x, q, h => by
    rw [List.cons_append, List.cons_append, jmpG, jmpG, jmpG_snoc z qs (p + lenB y) x q (by simpa using h), sumL_cons, List.append_assoc, Nat.add_assoc]

theorem fill_at {pl : Int → Int} {l r : List In} {x : In} {j : Jp} (h : j.at' = (l.length : Int)) : fillJ pl (l ++ x :: r) j = l ++ filled pl x j :: r := by
  rw [fillJ, h, Int.toNat_natCast, List.set_append_right _ _ (Nat.le_refl _), Nat.sub_self, List.set_cons_zero, List.getD_eq_getElem?_getD, List.getElem?_append_right (Nat.le_refl _), Nat.sub_self]
  rfl
theorem fill_jas {pl : Int → Int} {r : List In} : ∀ (d : List Int) (l : List In), (jasJ l.length d).foldl (fillJ pl) (l ++ (List.replicate d.length ja0 ++ r)) = l ++ (jasF pl l.length d ++ r)
  | [], l => rfl
  | g :: d, l => by
    rw [jasJ, List.foldl_cons, List.length_cons, List.replicate_succ, List.cons_append, fill_at (by rfl), jasF]
    have e : filled pl ja0 (jaJ l.length g) = jaF pl l.length g := rfl
    rw [e]
    have h := fill_jas (pl := pl) (r := r) d (l ++ [jaF pl l.length g])
    rw [List.length_append, List.length_singleton, List.append_assoc, List.append_assoc] at h
    exact h
theorem fill_block {pl : Int → Int} {b : Bk} {d : List Int} {da : Option Addr} {dc : Nat} {l r : List In} (h5 : b.en = 3 → ((b.last.code.toNat : Int) == 5) = false) : (jmpB l.length b d da dc).foldl (fillJ pl) (l ++ (rawB b d ++ r)) = l ++ (finB pl l.length (b, d) ++ r) := by
  have key : ∀ (E : List In), E.length = sizeE b → (jasJ (l.length + roomV b) d).foldl (fillJ pl) (l ++ ((b.code ++ (E ++ List.replicate d.length ja0)) ++ r)) = l ++ ((b.code ++ (E ++ jasF pl (l.length + roomV b) d)) ++ r) := fun E hE => by
    have h := fill_jas (pl := pl) (r := r) d (l ++ (b.code ++ E))
    have e : (l ++ (b.code ++ E)).length = l.length + roomV b := by rw [List.length_append, List.length_append, hE, roomV]
    rw [e] at h
    simp only [List.append_assoc] at h ⊢
    exact h
  rw [jmpB, List.foldl_append, endJ, rawB, finB, endF, endR]
  simp only
  by_cases h3 : b.en = 3
  · rw [if_pos h3, if_neg (by omega), if_neg (by omega), if_pos h3, List.foldl_cons, List.foldl_nil]
    have h := fill_at (pl := pl) (l := l ++ b.code) (r := List.replicate d.length ja0 ++ r) (x := b.last) (j := ⟨((l.length + b.code.length : Nat) : Int), b.yes, b.no, d, da, dc⟩) (by simp)
    have e : filled pl b.last ⟨((l.length + b.code.length : Nat) : Int), b.yes, b.no, d, da, dc⟩ = ⟨b.last.code, u8I (leapL pl d b.yes ((l.length + b.code.length : Nat) : Int)), u8I (leapL pl d b.no ((l.length + b.code.length : Nat) : Int)), b.last.k⟩ := by rw [filled, if_neg (by rw [h5 h3]; simp)]
    rw [e] at h
    have k := key [⟨b.last.code, u8I (leapL pl d b.yes ((l.length + b.code.length : Nat) : Int)), u8I (leapL pl d b.no ((l.length + b.code.length : Nat) : Int)), b.last.k⟩] (by rw [sizeE, if_neg (by omega)]; rfl)
    simp only [List.append_assoc, List.cons_append, List.nil_append] at h k ⊢
    rw [h]
    exact k
  · rw [if_neg h3, List.foldl_nil]
    by_cases h2 : b.en = 2
    · rw [if_pos h2, if_pos h2]
      exact key [] (by rw [sizeE, if_pos h2]; rfl)
    · rw [if_neg h2, if_neg h2, if_neg h3]
      exact key [b.last] (by rw [sizeE, if_neg h2]; rfl)
theorem fill_all {pl : Int → Int} : ∀ (z : List (Bk × List Int)) (qs : List (Option Addr × Nat)) (l : List In), z.length = qs.length → (∀ x ∈ z, x.1.en = 3 → ((x.1.last.code.toNat : Int) == 5) = false) → (jmpG l.length z qs).foldl (fillJ pl) (l ++ rawG z) = l ++ finG pl l.length z
  | [], [], l, _, _ => by simp [jmpG, rawG, finG]
  | [], _ :: _, _, h, _ => by simp at h
  | _ :: _, [], _, h, _ => by simp at h
  | x :: z, q :: qs, l, h, h5 => by
    have hb := fill_block (pl := pl) (b := x.1) (d := x.2) (da := q.1) (dc := q.2) (l := l) (r := rawG z) (h5 x (List.mem_cons_self ..))
    have e : rawG (x :: z) = rawB x.1 x.2 ++ rawG z := by simp [rawG]
    rw [jmpG, List.foldl_append, e, hb, finG]
    have ih := fill_all (pl := pl) z qs (l ++ finB pl l.length x) (by simpa using h) (fun y hy => h5 y (List.mem_cons_of_mem _ hy))
    rw [List.length_append, finB_len, List.append_assoc, List.append_assoc] at ih
    exact ih

/-- Each jump stands in its block. -/
theorem jmpG_mem : ∀ (z : List (Bk × List Int)) (qs : List (Option Addr × Nat)) (p : Nat) (j : Jp), j ∈ jmpG p z qs → ∃ (i : Nat) (x : Bk × List Int) (q : Option Addr × Nat), z[i]? = some x ∧ qs[i]? = some q ∧ j ∈ jmpB (p + plN z i) x.1 x.2 q.1 q.2
  | [], _, p, j, h => by rw [jmpG] at h; simp at h
  | _ :: _, [], p, j, h => by rw [jmpG] at h; simp at h
  | x :: z, q :: qs, p, j, h => by
    rw [jmpG, List.mem_append] at h
    rcases h with h | h
    · exact ⟨0, x, q, rfl, rfl, h⟩
    · obtain ⟨i, y, u, h1, h2, h3⟩ := jmpG_mem z qs (p + lenB x) j h
      refine ⟨i + 1, y, u, by simpa using h1, by simpa using h2, ?_⟩
      have e : plN (x :: z) (i + 1) = lenB x + plN z i := by rw [plN, List.take_succ_cons, sumL_cons]; rfl
      rw [e, ← Nat.add_assoc]
      exact h3
theorem jasJ_mem : ∀ (d : List Int) (p : Nat) (j : Jp), j ∈ jasJ p d → ∃ k g, d[k]? = some g ∧ j = jaJ (p + k) g
  | [], p, j, h => by rw [jasJ] at h; simp at h
  | g :: d, p, j, h => by
    rw [jasJ, List.mem_cons] at h
    rcases h with rfl | h
    · exact ⟨0, g, rfl, rfl⟩
    · obtain ⟨k, u, h1, h2⟩ := jasJ_mem d (p + 1) j h
      exact ⟨k + 1, u, by simpa using h1, by rw [h2, show p + 1 + k = p + (k + 1) by omega]⟩

/-- The map from blocks to places. -/
def MapOk (z : List (Bk × List Int)) (k : Nat) (D : DataW Unit) : Prop := IsMap D ∧ ∀ i : Nat, i < k → D.atKey (.int .i64 (i : Int)) (.lit (.int .i64 0)) = .lit (.int .i64 (plN z i : Int))

theorem MapOk.put {z : List (Bk × List Int)} {k : Nat} {D : DataW Unit} (h : MapOk z k D) : MapOk z (k + 1) (D.put (.int .i64 (k : Int)) (.lit (.int .i64 (plN z k : Int)))) := by
  refine ⟨?_, fun i hi => ?_⟩
  · obtain ⟨es, rfl⟩ := h.1
    exact ⟨_, rfl⟩
  · by_cases he : i = k
    · subst he
      exact atKey_put_same h.1 (by first | exact trivial | simp [WideAt.IsKeyLit]) _ _
    · rw [atKey_put_other (fun e => he (by injection e with _ e; omega))]
      exact h.2 i (by omega)

/-- What fill asks for, of all jumps of a graph that is taken. -/
theorem jok_all {w : World} {base : Nat} {g : List Bk} {D : DataW Unit} {qs : List (Option Addr × Nat)} (T : TakenG g) (hM : countG measE g ≤ 4096) (hD : MapOk (zipL 0 g) g.length D)
    (hq : ∀ (i : Nat) (x : Bk × List Int) (q : Option Addr × Nat), (zipL 0 g)[i]? = some x → qs[i]? = some q → ZOwns w base (.slice q.1 x.2.length q.2) x.2) : ∀ j ∈ jmpG 0 (zipL 0 g) qs, JOk w base (plF (zipL 0 g)) D (rawG (zipL 0 g)).length j := by
  intro j hj
  obtain ⟨i, x, q, h1, h2, h3⟩ := jmpG_mem _ _ _ _ hj
  have hi : i < g.length := by have := (List.getElem?_eq_some_iff.1 h1).1; rwa [zipL_len] at this
  have hz : (zipL 0 g)[i]? = some (g[i], detG g i g[i]) := by have := zipL_get (i := 0) hi; rwa [Nat.zero_add] at this
  rw [hz] at h1
  have hx : (g[i], detG g i g[i]) = x := Option.some.inj h1
  subst hx
  have hown := hq i _ q hz h2
  simp only at h3 hown
  have hS := sum_meas (ens_of T) 0
  have hs : plN (zipL 0 g) (i + 1) = plN (zipL 0 g) i + lenB (g[i], detG g i g[i]) := by have := plN_succ (i := 0) hi; rwa [Nat.zero_add] at this
  have hle := plN_le (zipL 0 g) (i + 1)
  have hlen : lenB (g[i], detG g i g[i]) = g[i].code.length + sizeE g[i] + (detG g i g[i]).length := rfl
  obtain ⟨ha2, ha3⟩ := goals_ahead T hi
  have hgok : ∀ (d : List Int) (G : Int), G.toNat < g.length → 0 ≤ G → Gok (plF (zipL 0 g)) D d G := fun d G h h0 => by
    have hG : ((G.toNat : Nat) : Int) = G := by omega
    have h4 := hD.2 G.toNat h
    rw [hG] at h4
    have h5 := plN_le (zipL 0 g) G.toNat
    exact ⟨_, h4, fun _ => rfl, by omega, by omega, WalkArith.wf_i64 (by have := T.few; omega)⟩
  have hd2 : (detG g i g[i]).length ≤ 2 := by
    rw [detG, detL, detV]
    split
    · exact (far_cases _ _ _).1
    · split <;> simp
  have hdm : ∀ G ∈ detG g i g[i], (g[i].en = 2 ∧ G = g[i].yes) ∨ (g[i].en = 3 ∧ (G = g[i].yes ∨ G = g[i].no)) := by
    intro G hG
    rw [detG, detL, detV] at hG
    split at hG
    · rename_i h
      exact .inr ⟨h, (far_cases _ _ _).2.2.2 G hG⟩
    · split at hG
      · rename_i h
        simp only [List.mem_singleton] at hG
        exact .inl ⟨h.1, hG⟩
      · simp at hG
  have hrl := rawG_len (zipL 0 g)
  rw [jmpB, List.mem_append] at h3
  rcases h3 with h3 | h3
  · rw [endJ] at h3
    split at h3
    · rename_i he
      simp only [List.mem_singleton] at h3
      subst h3
      have hsz : sizeE g[i] = 1 := by rw [sizeE, if_neg (by omega)]
      obtain ⟨⟨y1, y2⟩, n1, n2⟩ := ha3 he
      exact ⟨hown, ⟨_, rfl, by omega⟩, by simp only; omega, hgok _ _ y2 (by simp only; omega), hgok _ _ n2 (by simp only; omega)⟩
    · simp at h3
  · obtain ⟨k, G, hk, rfl⟩ := jasJ_mem _ _ _ h3
    have hkl := (List.getElem?_eq_some_iff.1 hk).1
    have hGm : G ∈ detG g i g[i] := List.mem_of_getElem? hk
    have hGl : G.toNat < g.length ∧ 0 ≤ G := by
      rcases hdm G hGm with ⟨h, rfl⟩ | ⟨h, rfl | rfl⟩
      · exact ⟨(ha2 h).2, by have := (ha2 h).1; omega⟩
      · exact ⟨(ha3 h).1.2, by have := (ha3 h).1.1; omega⟩
      · exact ⟨(ha3 h).2.2, by have := (ha3 h).2.1; omega⟩
    have hr : roomV g[i] = g[i].code.length + sizeE g[i] := rfl
    refine ⟨World.ownsRow_nil _ _ _ _, ⟨0 + plN (zipL 0 g) i + roomV g[i] + k, rfl, by omega⟩, by simp [jaJ], ?_, ?_⟩
    · exact hgok _ _ hGl.1 hGl.2
    · exact hgok _ _ hGl.1 hGl.2

end Go.Proofs.YtencoknpocipbaaGreat

namespace Go.Proofs.YtencoknpocipbaaGreat
open Go.RowKit
set_option maxRecDepth 100000

def takenB (g : List Bk) : Bool := (gckG g).2 == 0
theorem takenB_iff {g : List Bk} : takenB g = true ↔ (gckG g).2 = 0 := by simp [takenB]

theorem taken_any (a : Option Addr) (ca : Nat) (xs : List Bv) (w : World) (ha : GC w a xs) (hlen : ∀ x ∈ xs, x.b.code.length ≤ 4611686018427387904) :
    Calls Tryz.prog 19 #[.slice a xs.length ca] w fun e w' => e = .returned (.bool (takenB (gOf xs))) ∧ w.grownBy w' none := by
  have C := gcheck_any a ca xs w ha hlen
  clear ha
  go_enter Tryz.func19, Tryz.ntmps19
  go_wp2_with fail
  refine C.mono ?_
  rintro e w1 ⟨rfl, K⟩
  go_wp2
  go_ret
  exact ⟨rfl, K⟩

/-- What the ends count. -/
def priceE (p1 p2 p3 : Nat) (b : Bk) : Nat := if b.en = 1 then p1 else if b.en = 2 then p2 else p3
theorem countG_nil (f : Bk → Nat) : countG f [] = 0 := rfl
theorem countG_cons (f : Bk → Nat) (b : Bk) (g : List Bk) : countG f (b :: g) = b.code.length + f b + countG f g := by simp [countG]
theorem countG_snoc (f : Bk → Nat) (b : Bk) (g : List Bk) : countG f (g ++ [b]) = countG f g + (b.code.length + f b) := by simp [countG]
theorem countG_le (f : Bk → Nat) (m : Nat) (hf : ∀ b, f b ≤ m) : ∀ g : List Bk, countG f g ≤ codeLen g + m * g.length
  | [] => by simp [countG]
  | b :: g => by
    have := countG_le f m hf g
    have := hf b
    rw [countG_cons, codeLen_cons, List.length_cons, Nat.mul_add]
    omega
theorem countG_congr {f f' : Bk → Nat} : ∀ {g : List Bk}, (∀ b ∈ g, f b = f' b) → countG f g = countG f' g
  | [], _ => rfl
  | b :: g, h => by rw [countG_cons, countG_cons, h b (by simp), countG_congr fun c hc => h c (by simp [hc])]
theorem codeLen_take : ∀ (g : List Bk) (k : Nat), codeLen (g.take k) ≤ codeLen g
  | [], k => by simp
  | b :: g, 0 => by simp [codeLen]
  | b :: g, k + 1 => by
    have := codeLen_take g k
    rw [List.take_succ_cons, codeLen_cons, codeLen_cons]
    omega

theorem price_le {p1 p2 p3 : Nat} (h1 : p1 ≤ 3) (h2 : p2 ≤ 3) (h3 : p3 ≤ 3) (b : Bk) : priceE p1 p2 p3 b ≤ 3 := by
  unfold priceE
  split
  · exact h1
  · split
    · exact h2
    · exact h3

set_option maxHeartbeats 4000000 in
theorem total_any (p1 p2 p3 : Nat) (h1 : p1 ≤ 3) (h2 : p2 ≤ 3) (h3 : p3 ≤ 3) (a : Option Addr) (ca : Nat) (xs : List Bv) (w : World) (ha : GC w a xs) (hlen : ∀ x ∈ xs, x.b.code.length ≤ 4611686018427387904) :
    Calls Tryz.prog 24 #[.slice a xs.length ca, .agg #[.int .i64 0, .int .i64 (p1 : Int), .int .i64 (p2 : Int), .int .i64 (p3 : Int)]] w fun e w' => e = .returned (.tuple #[.int .i64 ((if takenB (gOf xs) = true then countG (priceE p1 p2 p3) (gOf xs) else 0 : Nat) : Int), .int .i64 (if takenB (gOf xs) = true then 0 else 155)]) ∧ w.grownBy w' none := by
  have CT := fun W (G : w.grownBy W none) => taken_any a ca xs W (ha.keptNone G) hlen
  have H : Hid (GC w a xs) := ha
  clear ha
  have V0 := GVt.alloc w 79 #[.int .i64 0, .int .i64 (p1 : Int), .int .i64 (p2 : Int), .int .i64 (p3 : Int)]
  have G0 : w.grownBy (w.alloc (.cells #[.int .i64 0, .int .i64 (p1 : Int), .int .i64 (p2 : Int), .int .i64 (p3 : Int)] 79)) none := World.grownBy_alloc _ _ _
  cases ht : takenB (gOf xs) with
  | false =>
    rw [ht] at CT
    simp only [Bool.false_eq_true, if_false]
    go_enter Tryz.func24, Tryz.ntmps24
    go_wp2_with fail
    refine (CT _ G0).mono ?_
    rintro e w1 ⟨rfl, K⟩
    go_wp2
    go_ret2
    exact ⟨rfl, grown_trans G0 K⟩
  | true =>
    rw [ht] at CT
    simp only [if_true]
    have T := taken_g (takenB_iff.1 ht)
    have HT : Hid (TakenG (gOf xs)) := T
    clear T ht
    go_enter Tryz.func24, Tryz.ntmps24
    go_wp2_with fail
    refine (CT _ G0).mono ?_
    rintro e w1 ⟨rfl, K⟩
    have V1 := V0.kept K
    have G1 := grown_trans G0 K
    clear K G0 V0 CT
    generalize w.heap.size = A at *
    go_wp2
    go_loopw [6, 14] (fun s i wr => ∃ (k : Nat), k ≤ xs.length ∧ i = .int .i64 k ∧ s = .int .i64 (countG (priceE p1 p2 p3) ((gOf xs).take k) : Int) ∧ Hid (GVt wr A 79 #[.int .i64 0, .int .i64 (p1 : Int), .int .i64 (p2 : Int), .int .i64 (p3 : Int)]) ∧ w.grownBy wr none) (fun _ i _ => xs.length - (intOf i).toNat)
    case atStart => exact ⟨0, Nat.zero_le _, rfl, by simp [countG], V1, G1⟩
    case round =>
      clear V1 G1
      obtain ⟨k, hk, rfl, rfl, HV, G⟩ := hrel
      by_cases hlt : k < xs.length
      · have hl : (k : Int) < (xs.length : Int) := by omega
        obtain ⟨b1, o1, rfl, h1'⟩ := ((H.out.keptNone G).1).blocks hlt
        have h1' := h1' k hlt
        have hT := (HT.out.ok k (by rw [gOf_len]; exact hlt)).2.1
        have hcl : codeLen ((gOf xs).take (k + 1)) ≤ 4096 := Nat.le_trans (codeLen_take _ _) HT.out.room
        have hcc := countG_le (priceE p1 p2 p3) 3 (fun b => price_le h1 h2 h3 b) ((gOf xs).take (k + 1))
        have hfew := HT.out.few
        rw [gOf_len] at hfew
        rw [List.length_take] at hcc
        have HQ' := countG_snoc (priceE p1 p2 p3) ((gOf xs)[k]'(by rw [gOf_len]; exact hlt)) ((gOf xs).take k)
        rw [List.take_append_getElem (by rw [gOf_len]; exact hlt)] at HQ'
        rw [HQ'] at hcc
        rw [show (gOf xs)[k]'(by rw [gOf_len]; exact hlt) = xs[k].b by simp [gOf]] at hT HQ' hcc
        generalize xs[k] = x at *
        obtain ⟨b, xa, xc⟩ := x
        have hcc' : countG (priceE p1 p2 p3) ((gOf xs).take k) + b.code.length ≤ 20000 := by simp only at hcc; omega
        have HQ : Hid (countG (priceE p1 p2 p3) ((gOf xs).take k) + (b.code.length + priceE p1 p2 p3 b) = countG (priceE p1 p2 p3) ((gOf xs).take (k + 1))) := HQ'.symm
        clear HQ' hcc hcl
        have c0 := h1' 0 _ rfl
        have c1 := h1' 1 _ rfl
        have c2 := h1' 2 _ rfl
        have c3 := h1' 3 _ rfl
        have c4 := h1' 4 _ rfl
        have c5 := h1' 5 _ rfl
        have c6 := h1' 6 _ rfl
        have c7 := h1' 7 _ rfl
        clear h1'
        rw [Nat.add_zero] at c0
        have hen := ends_cases hT
        obtain ⟨code, en, ⟨ic, it, jf, ik⟩, yes, no⟩ := b
        simp only at c0 c1 c2 c3 c4 c5 c6 c7 hen hcc'
        clear hT
        generalize countG (priceE p1 p2 p3) ((gOf xs).take k) = S at *
        rcases hen with rfl | rfl | rfl
        · skip
          have V1 := GVt.alloc wr 56 #[.slice xa code.length xc, .int .i64 1, .int .u16 (ic.toNat : Int), .int .u8 (it.toNat : Int), .int .u8 (jf.toNat : Int), .int .u32 (ik.toNat : Int), .int .i64 yes, .int .i64 no]
          have G1 : wr.grownBy (wr.alloc (.cells #[.slice xa code.length xc, .int .i64 1, .int .u16 (ic.toNat : Int), .int .u8 (it.toNat : Int), .int .u8 (jf.toNat : Int), .int .u32 (ik.toNat : Int), .int .i64 yes, .int .i64 no] 56)) none := World.grownBy_alloc _ _ _
          have HP : Hid (S + (code.length + p1) = countG (priceE p1 p2 p3) ((gOf xs).take (k + 1))) := HQ.out
          have hsub : IntKind.i64.wrap ((code.length : Int) + (p1 : Int)) = (code.length : Int) + (p1 : Int) := by rw [IntKind.wrap_i64]; omega
          have hsub2 : IntKind.i64.wrap ((S : Int) + ((code.length : Int) + (p1 : Int))) = (S : Int) + ((code.length : Int) + (p1 : Int)) := by rw [IntKind.wrap_i64]; omega
          go_upto_region 7 with fail
          generalize wr.alloc (.cells #[.slice xa code.length xc, .int .i64 1, .int .u16 (ic.toNat : Int), .int .u8 (it.toNat : Int), .int .u8 (jf.toNat : Int), .int .u32 (ik.toNat : Int), .int .i64 yes, .int .i64 no] 56) = w1 at *
          generalize wr.heap.size = B at *
          have a0 : w1.cell? ⟨B, 0, none⟩ = some (.slice xa code.length xc) := V1.cell 0
          have a1 : w1.cell? ⟨B, 1, none⟩ = some (.int .i64 1) := V1.cell 1
          have V2 := HV.out.kept G1
          have d1 : w1.cell? ⟨A, 1, none⟩ = some (.int .i64 (p1 : Int)) := V2.cell 1
          have G2 := grown_trans G G1
          have HV2 : Hid _ := V2
          clear c0 c1 c2 c3 c4 c5 c6 c7 G1 G V1 V2 HV HQ
          go_region
          go_wp2
          go_roundw
          case rel => exact ⟨k + 1, by omega, by go_num, by rw [← HP.out]; push_cast; rfl, GVt.kept HV2.out (grown_drewN _ _ none), grown_trans G2 (grown_drewN _ _ none)⟩
          case measure => simp [intOf]; omega
        · skip
          have V1 := GVt.alloc wr 56 #[.slice xa code.length xc, .int .i64 2, .int .u16 (ic.toNat : Int), .int .u8 (it.toNat : Int), .int .u8 (jf.toNat : Int), .int .u32 (ik.toNat : Int), .int .i64 yes, .int .i64 no]
          have G1 : wr.grownBy (wr.alloc (.cells #[.slice xa code.length xc, .int .i64 2, .int .u16 (ic.toNat : Int), .int .u8 (it.toNat : Int), .int .u8 (jf.toNat : Int), .int .u32 (ik.toNat : Int), .int .i64 yes, .int .i64 no] 56)) none := World.grownBy_alloc _ _ _
          have HP : Hid (S + (code.length + p2) = countG (priceE p1 p2 p3) ((gOf xs).take (k + 1))) := HQ.out
          have hsub : IntKind.i64.wrap ((code.length : Int) + (p2 : Int)) = (code.length : Int) + (p2 : Int) := by rw [IntKind.wrap_i64]; omega
          have hsub2 : IntKind.i64.wrap ((S : Int) + ((code.length : Int) + (p2 : Int))) = (S : Int) + ((code.length : Int) + (p2 : Int)) := by rw [IntKind.wrap_i64]; omega
          go_upto_region 7 with fail
          generalize wr.alloc (.cells #[.slice xa code.length xc, .int .i64 2, .int .u16 (ic.toNat : Int), .int .u8 (it.toNat : Int), .int .u8 (jf.toNat : Int), .int .u32 (ik.toNat : Int), .int .i64 yes, .int .i64 no] 56) = w1 at *
          generalize wr.heap.size = B at *
          have a0 : w1.cell? ⟨B, 0, none⟩ = some (.slice xa code.length xc) := V1.cell 0
          have a1 : w1.cell? ⟨B, 1, none⟩ = some (.int .i64 2) := V1.cell 1
          have V2 := HV.out.kept G1
          have d1 : w1.cell? ⟨A, 2, none⟩ = some (.int .i64 (p2 : Int)) := V2.cell 2
          have G2 := grown_trans G G1
          have HV2 : Hid _ := V2
          clear c0 c1 c2 c3 c4 c5 c6 c7 G1 G V1 V2 HV HQ
          go_region
          go_wp2
          go_roundw
          case rel => exact ⟨k + 1, by omega, by go_num, by rw [← HP.out]; push_cast; rfl, GVt.kept HV2.out (grown_drewN _ _ none), grown_trans G2 (grown_drewN _ _ none)⟩
          case measure => simp [intOf]; omega
        · skip
          have V1 := GVt.alloc wr 56 #[.slice xa code.length xc, .int .i64 3, .int .u16 (ic.toNat : Int), .int .u8 (it.toNat : Int), .int .u8 (jf.toNat : Int), .int .u32 (ik.toNat : Int), .int .i64 yes, .int .i64 no]
          have G1 : wr.grownBy (wr.alloc (.cells #[.slice xa code.length xc, .int .i64 3, .int .u16 (ic.toNat : Int), .int .u8 (it.toNat : Int), .int .u8 (jf.toNat : Int), .int .u32 (ik.toNat : Int), .int .i64 yes, .int .i64 no] 56)) none := World.grownBy_alloc _ _ _
          have HP : Hid (S + (code.length + p3) = countG (priceE p1 p2 p3) ((gOf xs).take (k + 1))) := HQ.out
          have hsub : IntKind.i64.wrap ((code.length : Int) + (p3 : Int)) = (code.length : Int) + (p3 : Int) := by rw [IntKind.wrap_i64]; omega
          have hsub2 : IntKind.i64.wrap ((S : Int) + ((code.length : Int) + (p3 : Int))) = (S : Int) + ((code.length : Int) + (p3 : Int)) := by rw [IntKind.wrap_i64]; omega
          go_upto_region 7 with fail
          generalize wr.alloc (.cells #[.slice xa code.length xc, .int .i64 3, .int .u16 (ic.toNat : Int), .int .u8 (it.toNat : Int), .int .u8 (jf.toNat : Int), .int .u32 (ik.toNat : Int), .int .i64 yes, .int .i64 no] 56) = w1 at *
          generalize wr.heap.size = B at *
          have a0 : w1.cell? ⟨B, 0, none⟩ = some (.slice xa code.length xc) := V1.cell 0
          have a1 : w1.cell? ⟨B, 1, none⟩ = some (.int .i64 3) := V1.cell 1
          have V2 := HV.out.kept G1
          have d1 : w1.cell? ⟨A, 3, none⟩ = some (.int .i64 (p3 : Int)) := V2.cell 3
          have G2 := grown_trans G G1
          have HV2 : Hid _ := V2
          clear c0 c1 c2 c3 c4 c5 c6 c7 G1 G V1 V2 HV HQ
          go_region
          go_wp2
          go_roundw
          case rel => exact ⟨k + 1, by omega, by go_num, by rw [← HP.out]; push_cast; rfl, GVt.kept HV2.out (grown_drewN _ _ none), grown_trans G2 (grown_drewN _ _ none)⟩
          case measure => simp [intOf]; omega
      · have hl : ¬ (k : Int) < (xs.length : Int) := by omega
        have HE : Hid (countG (priceE p1 p2 p3) ((gOf xs).take k) = countG (priceE p1 p2 p3) (gOf xs)) := by
          show _ = _
          rw [List.take_of_length_le (by rw [gOf_len]; omega)]
        go_wp2
        go_ret2
        exact ⟨by rw [HE.out]; rfl, G⟩

theorem gmeasure_any (a : Option Addr) (ca : Nat) (xs : List Bv) (w : World) (ha : GC w a xs) (hlen : ∀ x ∈ xs, x.b.code.length ≤ 4611686018427387904) :
    Calls Tryz.prog 12 #[.slice a xs.length ca] w fun e w' => e = .returned (.tuple #[.int .i64 ((if takenB (gOf xs) = true then countG measE (gOf xs) else 0 : Nat) : Int), .int .i64 (if takenB (gOf xs) = true then 0 else 155)]) ∧ w.grownBy w' none := by
  have C := total_any 1 1 3 (by omega) (by omega) (by omega) a ca xs w ha hlen
  have e : (if takenB (gOf xs) = true then countG (priceE 1 1 3) (gOf xs) else 0) = (if takenB (gOf xs) = true then countG measE (gOf xs) else 0) := by
    cases ht : takenB (gOf xs) with
    | false => rfl
    | true =>
      simp only [if_true]
      refine countG_congr fun b hb => ?_
      obtain ⟨i, hi, rfl⟩ := List.getElem_of_mem hb
      have := ends_cases ((taken_g (takenB_iff.1 ht)).ok i hi).2.1
      unfold priceE measE
      rcases this with h | h | h
      · rw [if_pos h, if_neg (by omega)]
      · rw [if_neg (by omega), if_pos h, if_neg (by omega)]
      · rw [if_neg (by omega), if_neg (by omega), if_pos h]
  rw [e] at C
  clear e ha
  generalize (if takenB (gOf xs) = true then countG measE (gOf xs) else 0) = N at *
  generalize (if takenB (gOf xs) = true then (0 : Int) else 155) = E at *
  go_enter Tryz.func12, Tryz.ntmps12
  go_wp2_with fail
  refine C.mono ?_
  rintro e w1 ⟨rfl, K⟩
  go_wp2
  go_ret2
  exact ⟨rfl, K⟩

end Go.Proofs.YtencoknpocipbaaGreat
