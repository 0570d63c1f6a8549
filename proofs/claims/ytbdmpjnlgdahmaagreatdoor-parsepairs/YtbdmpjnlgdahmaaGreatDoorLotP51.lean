/-
  Two parts with a sign between them. No Go text here. Two sources in brackets, a sign between them. No Go text here. How many nodes are read: not more than tokens. No Go text here. Nodes in memory: CopyNodes.
-/
import Derived.Test.YtbdmpjnlgdahmaaGreatDoorLotP25
import Derived.Test.YtbdmpjnlgdahmaaGreatDoorLotP49
import Derived.Test.YtbdmpjnlgdahmaaGreatDoorLotP8
import Derived.Test.YtbdmpjnlgdahmaaGreatDoorLotP21
namespace Go.Proofs.YtbdmpjnlgdahmaaGreatDoor
open Go.RowKit
set_option maxRecDepth 100000

/-- No word or sign that stands ahead of a part. -/
def Bare (ts : List Tk) : Prop := isB ts wNot = false ∧ isB ts [33] = false ∧ isB ts [45] = false
theorem up_op {f k nest : Nat} {ts r : List Tk} {ns : List (Nd × Nat)} (hk : k ≠ 3 ∧ k ≠ 11 ∧ k ≠ 12) (ho : opT k r = none) (h : rowF f (k + 1) nest ts = .ok (ns, r)) : rowF (f + 1) k nest ts = .ok (ns, r) := by
  rw [row_succ]
  unfold stepR
  rw [if_neg (by omega), if_neg (by omega), if_neg (by omega), if_neg hk.2.2, h]
  show loopG _ k r.length ns r = _
  cases r.length with
  | zero => rfl
  | succ n => unfold loopG; rw [ho]
/-- Up some rows, whose signs are not reached. -/
theorem climb_ok {g nest : Nat} {ts r : List Tk} {ns : List (Nd × Nat)} (hb : Bare ts) {k0 : Nat} (h0 : k0 ≤ 12) (h : rowF g k0 nest ts = .ok (ns, r)) : ∀ d, d < k0 → (∀ k, k0 - d ≤ k → k < k0 → opT k r = none) → rowF (g + d) (k0 - d) nest ts = .ok (ns, r)
  | 0, _, _ => h
  | d + 1, hd, ho => by
    have ih := climb_ok hb h0 h d (by omega) (fun k h1 h2 => ho k (by omega) h2)
    have e : k0 - d = k0 - (d + 1) + 1 := by omega
    rw [e] at ih
    rw [← Nat.add_assoc]
    by_cases hk : k0 - (d + 1) = 3 ∨ k0 - (d + 1) = 11
    · rw [up_not hk hb.1 hb.2.1 hb.2.2]; exact ih
    · exact up_op ⟨by omega, by omega, by omega⟩ (ho _ (Nat.le_refl _) (by omega)) ih
theorem climb_er {g nest : Nat} {ts : List Tk} {e : Er} (hb : Bare ts) {k0 : Nat} (h0 : k0 ≤ 12) (h : rowF g k0 nest ts = .error e) : ∀ d, d < k0 → rowF (g + d) (k0 - d) nest ts = .error e
  | 0, _ => h
  | d + 1, hd => by
    have ih := climb_er hb h0 h d (by omega)
    have e' : k0 - d = k0 - (d + 1) + 1 := by omega
    rw [e'] at ih
    rw [← Nat.add_assoc]
    by_cases hk : k0 - (d + 1) = 3 ∨ k0 - (d + 1) = 11
    · rw [up_not hk hb.1 hb.2.1 hb.2.2]; exact ih
    · exact up_er ⟨by omega, by omega, by omega⟩ ih
theorem row_part {f nest : Nat} {ts : List Tk} : rowF (f + 1) 12 nest ts = partF (rowF f 1) nest ts := by
  rw [row_succ]
  unfold stepR
  rw [if_neg (by omega), if_neg (by omega), if_neg (by omega), if_pos rfl]
/-- Two parts, a row's sign between them, an end behind. -/
theorem pair_row {f j : Nat} {ts R : List Tk} {sg e : Tk} {nsA nsB : List (Nd × Nat)} {nd : Nd} (hj : 1 ≤ j ∧ j ≤ 10 ∧ j ≠ 3) (he : e.kind = 0) (hts : Bare ts) (hR : Bare R) (hop : opT j (sg :: R) = some nd) (hno : ∀ k, k ≠ j → opT k (sg :: R) = none)
    (hA : partF (rowF f 1) 0 ts = .ok (nsA, sg :: R)) (hB : partF (rowF f 1) 0 R = .ok (nsB, [e])) : rowF (f + 12) 1 0 ts = .ok (nsA ++ nsB ++ [(nd, sg.pos)], [e]) := by
  have hs := stop_end he []
  have a1 := climb_ok hts (Nat.le_refl 12) (by rw [row_part]; exact hA) (11 - j) (by omega) (fun k h1 _ => hno k (by omega))
  have b1 := climb_ok hR (Nat.le_refl 12) (by rw [row_part]; exact hB) (11 - j) (by omega) (fun k _ _ => hs.2 k)
  rw [show 12 - (11 - j) = j + 1 by omega] at a1 b1
  have c1 : rowF (f + 1 + (11 - j) + 1) j 0 ts = .ok (nsA ++ nsB ++ [(nd, sg.pos)], [e]) := by
    rw [row_succ]
    unfold stepR
    rw [if_neg (by omega), if_neg (by omega), if_neg (by omega), if_neg (by omega), a1]
    show loopG _ j (sg :: R).length nsA (sg :: R) = _
    rw [List.length_cons]
    unfold loopG
    rw [hop]
    show thenE (rowF (f + 1 + (11 - j)) (j + 1) 0 R) _ = _
    rw [b1]
    show (if j = 4 then Except.ok (nsA ++ nsB ++ [(nd, sg.pos)], [e]) else loopG _ j R.length (nsA ++ nsB ++ [(nd, sg.pos)]) [e]) = _
    split
    · rfl
    · exact loop_stop hs _ _ _ _
  have d1 := climb_ok hts (by omega) c1 (j - 1) (by omega) (fun k _ _ => hs.2 k)
  rw [show j - (j - 1) = 1 by omega, show f + 1 + (11 - j) + 1 + (j - 1) = f + 12 by omega] at d1
  exact d1

end Go.Proofs.YtbdmpjnlgdahmaaGreatDoor

namespace Go.Proofs.YtbdmpjnlgdahmaaGreatDoor
open Go.RowKit
set_option maxRecDepth 100000

theorem sign_open {t : List UInt8} (ht : t ≠ []) (r : List UInt8) : signV (t ++ 40 :: r) = signV t := by
  cases t with
  | nil => exact absurd rfl ht
  | cons c t =>
    cases t with
    | nil =>
      have h1 : ¬ (([c] ++ 40 :: r).take 2 ∈ twosL) := by
        show ¬ ([c, 40] ∈ twosL)
        simp [twosL]
      have h2 : ¬ ([c].take 2 ∈ twosL) := by simp [twosL]
      unfold signV
      rw [if_neg h1, if_neg h2]
      rfl
    | cons d t =>
      unfold signV
      rfl
theorem tok_open {t : List UInt8} (ht : t ≠ []) (r : List UInt8) : tokV (t ++ 40 :: r) = tokV t := by
  have hb : ∀ p : UInt8 → Bool, p 40 = false → (t ++ 40 :: r).takeWhile p = t.takeWhile p := fun p hp => takeWhile_end p t _ (.inr ⟨40, r, rfl, hp⟩)
  have hh : (t ++ 40 :: r).head? = t.head? := by
    cases t with
    | nil => exact absurd rfl ht
    | cons c t => rfl
  unfold tokV
  rw [hb sixB (by decide), hb quadB (by decide), hb wordB (by decide), hh, sign_open ht]

/-- A sign or word of a row, and its node. -/
def SgOk (x : List UInt8) (k j : Nat) (nd : Nd) : Prop :=
  tokV x = .ok (k, x, 0) ∧ (k = 5 ∨ k = 2) ∧ binV j x = some nd ∧ (∀ i, i ≠ j → binV i x = none) ∧ (1 ≤ j ∧ j ≤ 10 ∧ j ≠ 3) ∧ x.length ≤ 3 ∧ ∃ c r, x = c :: r ∧ blankB c = false
theorem bin_only {x : List UInt8} {j : Nat} (h : ∀ i : Fin 11, i.val ≠ j → (binV i.val x).isNone = true) : ∀ i, i ≠ j → binV i x = none := fun i hi => by
  by_cases h1 : i ≤ 10
  · exact Option.isNone_iff_eq_none.1 (h ⟨i, by omega⟩ hi)
  · unfold binV
    rw [if_neg (by omega), if_neg (by omega), if_neg (by omega), if_neg (by omega), if_neg (by omega), if_neg (by omega), if_neg (by omega), if_neg (by omega), if_neg (by omega)]
/-- The eight of the law. -/
def sgL : List (List UInt8 × Nd) := [([97, 110, 100], ndK 7), ([111, 114], ndK 8), ([61], { ndK 6 with op := 1 }), ([62, 61], { ndK 6 with op := 6 }), ([43], { ndK 4 with op := 1 }), ([37], { ndK 4 with op := 5 }), ([60, 60], { ndK 4 with op := 9 }), ([124], { ndK 4 with op := 7 })]
theorem sg_ok : ∀ q ∈ sgL, ∃ k j, SgOk q.1 k j q.2 := by
  intro q hq
  simp only [sgL, List.mem_cons, List.not_mem_nil, or_false] at hq
  rcases hq with rfl | rfl | rfl | rfl | rfl | rfl | rfl | rfl
  · exact ⟨2, 2, by kernel_rfl, .inr rfl, rfl, bin_only (by decide), by decide, by decide, _, _, rfl, rfl⟩
  · exact ⟨2, 1, by kernel_rfl, .inr rfl, rfl, bin_only (by decide), by decide, by decide, _, _, rfl, rfl⟩
  · exact ⟨5, 4, by kernel_rfl, .inl rfl, rfl, bin_only (by decide), by decide, by decide, _, _, rfl, rfl⟩
  · exact ⟨5, 4, by kernel_rfl, .inl rfl, rfl, bin_only (by decide), by decide, by decide, _, _, rfl, rfl⟩
  · exact ⟨5, 9, by kernel_rfl, .inl rfl, rfl, bin_only (by decide), by decide, by decide, _, _, rfl, rfl⟩
  · exact ⟨5, 10, by kernel_rfl, .inl rfl, rfl, bin_only (by decide), by decide, by decide, _, _, rfl, rfl⟩
  · exact ⟨5, 8, by kernel_rfl, .inl rfl, rfl, bin_only (by decide), by decide, by decide, _, _, rfl, rfl⟩
  · exact ⟨5, 5, by kernel_rfl, .inl rfl, rfl, bin_only (by decide), by decide, by decide, _, _, rfl, rfl⟩

/-- The source. -/
def pairS (a x b : List UInt8) : List UInt8 := 40 :: (a ++ 41 :: (x ++ 40 :: (b ++ 41 :: [])))
theorem lex_pair {a b x : List UInt8} {ta tb : List Tk} {k : Nat} (hx : tokV x = .ok (k, x, 0)) (hc : ∃ c r, x = c :: r ∧ blankB c = false) (ha : lexR (0 + 1) a = .ok ta) (hb : lexR (0 + 1 + a.length + 1 + x.length + 1) b = .ok tb) :
    ∃ l rp sg l2 rp2 e, lpB l ∧ rpB rp ∧ sg.kind = k ∧ sg.text = x ∧ lpB l2 ∧ rpB rp2 ∧ e.kind = 0 ∧ lexR 0 (pairS a x b) = .ok (l :: (ta.dropLast ++ (rp :: (sg :: (l2 :: (tb.dropLast ++ (rp2 :: [e]))))))) := by
  obtain ⟨c, r, rfl, hcb⟩ := hc
  have h1 := lexR_wrap hb [] (lexR_nil _)
  have h2 : lexR (0 + 1 + a.length + 1) ((c :: r) ++ 40 :: (b ++ 41 :: [])) = .ok (⟨k, 0 + 1 + a.length + 1, c :: r, 0⟩ :: (⟨5, 0 + 1 + a.length + 1 + (c :: r).length, [40], 0⟩ :: (tb.dropLast ++ (⟨5, 0 + 1 + a.length + 1 + (c :: r).length + 1 + b.length, [41], 0⟩ :: [⟨0, 0 + 1 + a.length + 1 + (c :: r).length + 1 + b.length + 1, [], 0⟩])))) := by
    have ht : tokV (c :: (r ++ 40 :: (b ++ 41 :: []))) = .ok (k, c :: r, 0) := by
      have := tok_open (t := c :: r) (by simp) (b ++ 41 :: [])
      rw [hx] at this
      exact this
    rw [List.cons_append, lexR_tok _ hcb ht]
    have hd : (c :: (r ++ 40 :: (b ++ 41 :: []))).drop (c :: r).length = 40 :: (b ++ 41 :: []) := by
      rw [← List.cons_append, List.drop_left]
    rw [hd, h1]
  have h3 := lexR_wrap ha _ h2
  exact ⟨_, _, _, _, _, _, ⟨rfl, rfl⟩, ⟨rfl, rfl⟩, rfl, rfl, ⟨rfl, rfl⟩, ⟨rfl, rfl⟩, rfl, h3⟩

/-- A whole source in brackets, as a part. -/
theorem part_brk {f : Nat} {pre rest : List Tk} {eA l rp : Tk} {ns : List (Nd × Nat)} (hl : lpB l) (hr : rpB rp) (he : eA.kind = 0) (h : rowF f 1 0 (pre ++ [eA]) = .ok (ns, [eA])) :
    partF (rowF f 1) 0 (l :: (pre ++ (rp :: rest))) = .ok (ns, rest) ∨ ∃ p, partF (rowF f 1) 0 (l :: (pre ++ (rp :: rest))) = .error (p, 113) := by
  have hd := deep_row he h 0 [] [] rfl rfl (fun _ h => by cases h) (fun _ h => by cases h) 1 (rp :: rest) (by decide) (stop_paren hr.1 hr.2 rest)
  rw [lp_part hl]
  unfold opnV
  rw [if_neg (by decide)]
  rcases hd with hd | ⟨p, hd⟩
  · left
    have hd' : rowF f 1 (0 + 1) (pre ++ (rp :: rest)) = .ok (ns, rp :: rest) := hd
    rw [hd']
    show thenE (mustV [41] (rp :: rest)) _ = _
    unfold mustV
    rw [if_pos (by show ((rp.kind == 5 || rp.kind == 2) && rp.text == [41]) = true; rw [hr.1, hr.2]; rfl)]
    rfl
  · right
    have hd' : rowF f 1 (0 + 1) (pre ++ (rp :: rest)) = .error (p, 113) := hd
    rw [hd']
    exact ⟨p, rfl⟩
theorem pair_er {f j : Nat} {ts R : List Tk} {sg : Tk} {nsA : List (Nd × Nat)} {nd : Nd} {x : Er} (hj : 1 ≤ j ∧ j ≤ 10 ∧ j ≠ 3) (hts : Bare ts) (hR : Bare R) (hop : opT j (sg :: R) = some nd) (hno : ∀ k, k ≠ j → opT k (sg :: R) = none)
    (hA : partF (rowF f 1) 0 ts = .ok (nsA, sg :: R)) (hB : partF (rowF f 1) 0 R = .error x) : rowF (f + 12) 1 0 ts = .error x := by
  have a1 := climb_ok hts (Nat.le_refl 12) (by rw [row_part]; exact hA) (11 - j) (by omega) (fun k h1 _ => hno k (by omega))
  have b1 := climb_er hR (Nat.le_refl 12) (by rw [row_part]; exact hB) (11 - j) (by omega)
  rw [show 12 - (11 - j) = j + 1 by omega] at a1 b1
  have c1 : rowF (f + 1 + (11 - j) + 1) j 0 ts = .error x := by
    rw [row_succ]
    unfold stepR
    rw [if_neg (by omega), if_neg (by omega), if_neg (by omega), if_neg (by omega), a1]
    show loopG _ j (sg :: R).length nsA (sg :: R) = _
    rw [List.length_cons]
    unfold loopG
    rw [hop]
    show thenE (rowF (f + 1 + (11 - j)) (j + 1) 0 R) _ = _
    rw [b1]
    rfl
  have d1 := climb_er hts (by omega) c1 (j - 1) (by omega)
  rw [show j - (j - 1) = 1 by omega, show f + 1 + (11 - j) + 1 + (j - 1) = f + 12 by omega] at d1
  exact d1
theorem lp_bare {l : Tk} (hl : lpB l) (r : List Tk) : Bare (l :: r) := ⟨by rw [lp_is hl]; rfl, by rw [lp_is hl]; rfl, by rw [lp_is hl]; rfl⟩

/-- A source's tokens, from another place on. -/
theorem moved {s : List UInt8} {ns : List (Nd × Nat)} (n : Nat) (hl : s.length ≤ 65536) (hp : parseV s = .ok ns) : ∃ pre e, (∀ t ∈ pre, t.kind ≠ 0) ∧ e.kind = 0 ∧ lexR n s = .ok (pre ++ [e]) ∧ ∃ ns', parseT (pre ++ [e]) = .ok ns' ∧ ns'.map Prod.fst = ns.map Prod.fst := by
  unfold parseV at hp
  obtain ⟨ts, h, hp⟩ := thenE_inv hp
  obtain ⟨-, us, e, -, hu⟩ := lexV_toks h
  have e1 : lexV s = lexR 0 s := by rw [lexV, if_neg (by omega)]
  have h5 : ∀ t ∈ ts, t.kind ≤ 5 := fun t ht => by
    rw [e] at ht
    rcases List.mem_append.1 ht with ht | ht
    · exact (hu t ht).2.2.2.2.1
    · simp only [List.mem_singleton] at ht
      subst ht
      exact Nat.zero_le _
  obtain ⟨ns', hp', hn⟩ := pk_parse (al_shift n ts h5) hp
  have hs : lexR (0 + n) s = .ok (ts.map fun t => { t with pos := t.pos + n }) := by rw [lexR_shift _ 0 n s (Nat.le_refl _), ← e1, h]
  rw [Nat.zero_add] at hs
  rw [e, List.map_append] at hs hp'
  refine ⟨us.map fun t => { t with pos := t.pos + n }, ⟨0, s.length + n, [], 0⟩, fun t ht => ?_, rfl, hs, ns', hp', ?_⟩
  · obtain ⟨x, hx, rfl⟩ := List.mem_map.1 ht
    have := (tok_ok (hu x hx).2.1).2.2.2.1
    show x.kind ≠ 0
    omega
  · rw [al_map hn, List.map_map]
    exact List.map_congr_left fun _ _ => rfl

/-- Two sources. -/
theorem pair_parse {a b x : List UInt8} {nd : Nd} {k j : Nat} {nsA nsB : List (Nd × Nat)} (hl : a.length + b.length ≤ 6000) (hx : SgOk x k j nd) (ha : parseV a = .ok nsA) (hb : parseV b = .ok nsB) :
    (∃ ns, parseV (pairS a x b) = .ok ns ∧ ns.map Prod.fst = nsA.map Prod.fst ++ nsB.map Prod.fst ++ [nd]) ∨ ∃ p, parseV (pairS a x b) = .error (p, 113) := by
  obtain ⟨h1, hk, h2, h3, hj, hxl, hc⟩ := hx
  obtain ⟨pA, eA, kA, zA, lA, mA, rA, fA⟩ := moved (0 + 1) (by omega) ha
  obtain ⟨pB, eB, kB, zB, lB, mB, rB, fB⟩ := moved (0 + 1 + a.length + 1 + x.length + 1) (by omega) hb
  obtain ⟨l, rp, sg, l2, rp2, e, q1, q2, q3, q4, q5, q6, q7, q8⟩ := lex_pair h1 hc lA lB
  rw [List.dropLast_concat, List.dropLast_concat] at q8
  have wA := whole_row kA zA rA
  have wB := whole_row kB zB rB
  have e2 : parseV (pairS a x b) = parseT (l :: (pA ++ (rp :: (sg :: (l2 :: (pB ++ (rp2 :: [e]))))))) := by
    have hlen : (pairS a x b).length ≤ 65536 := by
      simp only [pairS, List.length_cons, List.length_append, List.length_nil]
      omega
    rw [parseV, lexV, if_neg (by omega), q8, thenE_ok]
  rw [e2]
  obtain ⟨F, hF⟩ : ∃ F, needF 1 (pA ++ [eA]) + needF 1 (pB ++ [eB]) + needF 1 (l :: (pA ++ (rp :: (sg :: (l2 :: (pB ++ (rp2 :: [e]))))))) = F := ⟨_, rfl⟩
  have vA := row_more (g := F) (by omega) (show rowF (needF 1 (pA ++ [eA])) 1 0 (pA ++ [eA]) ≠ .error exP by rw [wA]; intro h; cases h)
  have vB := row_more (g := F) (by omega) (show rowF (needF 1 (pB ++ [eB])) 1 0 (pB ++ [eB]) ≠ .error exP by rw [wB]; intro h; cases h)
  rw [wA] at vA
  rw [wB] at vB
  rw [parse_fuel (f := F + 12) (by omega)]
  have hop : ∀ i, opT i (sg :: (l2 :: (pB ++ (rp2 :: [e])))) = binV i x := fun i => by
    unfold opT
    rw [if_pos (by show sg.kind = 5 ∨ sg.kind = 2; rw [q3]; exact hk)]
    show binV i sg.text = _
    rw [q4]
  rcases part_brk (rest := sg :: (l2 :: (pB ++ (rp2 :: [e])))) q1 q2 zA vA with hA | ⟨p, hA⟩
  · rcases part_brk (rest := [e]) q5 q6 zB vB with hB | ⟨p, hB⟩
    · left
      rw [pair_row hj q7 (lp_bare q1 _) (lp_bare q5 _) (by rw [hop]; exact h2) (fun i hi => by rw [hop]; exact h3 i hi) hA hB, thenE_ok]
      refine ⟨_, show (if e.kind = 0 then _ else _) = _ by rw [if_pos q7], ?_⟩
      simp only [List.map_append, List.map_cons, List.map_nil, fA, fB]
    · right
      rw [pair_er hj (lp_bare q1 _) (lp_bare q5 _) (by rw [hop]; exact h2) (fun i hi => by rw [hop]; exact h3 i hi) hA hB]
      exact ⟨p, rfl⟩
  · right
    have := climb_er (lp_bare q1 _) (Nat.le_refl 12) (by rw [row_part]; exact hA) 11 (by decide)
    rw [show F + 12 = F + 1 + 11 by omega]
    rw [show 12 - 11 = 1 from rfl] at this
    rw [this]
    exact ⟨p, rfl⟩

end Go.Proofs.YtbdmpjnlgdahmaaGreatDoor

namespace Go.Proofs.YtbdmpjnlgdahmaaGreatDoor
open Go.RowKit
set_option maxRecDepth 100000

theorem tail_len {ts : List Tk} (h : ts ≠ []) : ts.tail.length + 1 = ts.length := by
  cases ts with
  | nil => exact absurd rfl h
  | cons a r => rfl
theorem sidedB_one {of at' side : Nat} {ts r : List Tk} {ns : List (Nd × Nat)} (h : sidedB of at' side ts = .ok (ns, r)) : ns.length = 1 := by
  unfold sidedB at h
  split at h
  · obtain ⟨⟨n, r1⟩, h1, h2⟩ := thenE_inv h
    cases h2
    rfl
  · split at h
    · obtain ⟨⟨n, r1⟩, h1, h2⟩ := thenE_inv h
      obtain ⟨r2, h3, h4⟩ := thenE_inv h2
      obtain ⟨⟨m, r3⟩, h5, h6⟩ := thenE_inv h4
      cases h6
      rfl
    · split at h
      · obtain ⟨⟨n, r1⟩, h1, h2⟩ := thenE_inv h
        cases h2
        rfl
      · split at h
        · obtain ⟨⟨n, r1⟩, h1, h2⟩ := thenE_inv h
          obtain ⟨r2, h3, h4⟩ := thenE_inv h2
          obtain ⟨⟨m, r3⟩, h5, h6⟩ := thenE_inv h4
          cases h6
          rfl
        · cases h
theorem word_one {ts r : List Tk} {ns : List (Nd × Nat)} (h : wordF ts = .ok (ns, r)) : ns.length = 1 := by
  unfold wordF at h
  split at h
  · cases h; rfl
  · split at h
    · cases h; rfl
    · split at h
      · cases h; rfl
      · split at h
        · obtain ⟨⟨n, r1⟩, h1, h2⟩ := thenE_inv h
          cases h2
          rfl
        · split at h
          · exact sidedB_one h
          · cases h
/-- Not more nodes than tokens. -/
def LnO (rec : Nat → List Tk → Out) : Prop := ∀ nest ts ns r, rec nest ts = .ok (ns, r) → ns.length + r.length ≤ ts.length
theorem name_ln {rec : Nat → List Tk → Out} (hr : LnO rec) {nest of at' : Nat} {ts r : List Tk} {ns : List (Nd × Nat)} (h : nameF rec nest of at' ts = .ok (ns, r)) : ns.length + r.length ≤ ts.length + 1 := by
  unfold nameF at h
  split at h
  · rename_i hb
    obtain ⟨-, h⟩ := opn_inv h
    obtain ⟨⟨n1, r1⟩, h1, h2⟩ := thenE_inv h
    obtain ⟨⟨n2, r2⟩, h3, h4⟩ := thenE_inv h2
    cases h4
    have a1 := hr _ _ _ _ h1
    have a2 := (size_fr h3).2
    have a3 := tail_len (isB_ne hb.1)
    simp only [List.length_append, List.length_singleton] at *
    omega
  · split at h
    · cases h
    · split at h
      · rename_i hb
        obtain ⟨⟨n, r1⟩, h1, h2⟩ := thenE_inv h
        cases h2
        have a2 := ((fr_tail (isB_ne hb.2)).trans (num_fr h1)).2
        simp only [List.length_singleton]
        omega
      · split at h
        · have a1 := sidedB_one h
          have a2 := (sided_fr h).1.2
          omega
        · cases h
          simp only [List.length_singleton]
          omega
theorem part_ln {rec : Nat → List Tk → Out} (hr : LnO rec) : LnO (partF rec) := by
  intro nest ts ns r h
  unfold partF at h
  split at h
  · cases h
    have := (fr_tail (ts := ts) (hd_ne (by omega))).2
    simp only [List.length_singleton]
    omega
  · split at h
    · rename_i hb
      obtain ⟨-, h⟩ := opn_inv h
      obtain ⟨⟨n1, r1⟩, h1, h2⟩ := thenE_inv h
      obtain ⟨r2, h3, h4⟩ := thenE_inv h2
      cases h4
      have a1 := hr _ _ _ _ h1
      have a2 := (must_fr h3).2
      have a3 := tail_len (isB_ne hb)
      simp only at *
      omega
    · split at h
      · cases h
      · rename_i hk
        have hk' : (hdT ts).kind = 2 := Decidable.byContradiction hk
        have hne := hd_ne (ts := ts) (by omega)
        split at h
        · have a1 := name_ln hr h
          have a3 := tail_len hne
          omega
        · have a1 := word_one h
          have a2 := (word_fr hk' h).1.2
          omega
theorem loop_ln {rec : List Tk → Out} (hr : ∀ ts ns r, rec ts = .ok (ns, r) → ns.length + r.length ≤ ts.length) (k : Nat) : ∀ (f : Nat) (ns : List (Nd × Nat)) (ts : List Tk) (ms : List (Nd × Nat)) (r : List Tk), loopG rec k f ns ts = .ok (ms, r) → ms.length + r.length ≤ ns.length + ts.length
  | 0, ns, ts, ms, r, h => by
    cases h
    exact Nat.le_refl _
  | f + 1, ns, ts, ms, r, h => by
    unfold loopG at h
    split at h
    · cases h
      exact Nat.le_refl _
    · rename_i nd ho
      have hne : ts ≠ [] := hd_ne (by
        unfold opT at ho
        split at ho
        · omega
        · cases ho)
      have a3 := tail_len hne
      obtain ⟨⟨n1, r1⟩, h1, h2⟩ := thenE_inv h
      have a1 := hr _ _ _ h1
      split at h2
      · cases h2
        simp only [List.length_append, List.length_singleton] at *
        omega
      · have a4 := loop_ln hr k f _ _ _ _ h2
        simp only [List.length_append, List.length_singleton] at *
        omega
theorem row_ln : ∀ (f k : Nat), LnO (rowF f k)
  | 0, k => fun nest ts ns r h => by cases h
  | f + 1, k => fun nest ts ns r h => by
    have ih := row_ln f
    rw [row_succ] at h
    unfold stepR at h
    split at h
    · rename_i hb
      obtain ⟨-, h⟩ := opn_inv h
      obtain ⟨⟨n1, r1⟩, h1, h2⟩ := thenE_inv h
      cases h2
      have hne : ts ≠ [] := by rcases hb.2 with hb | hb <;> exact isB_ne hb
      have a1 := ih 3 _ _ _ _ h1
      have a3 := tail_len hne
      simp only [List.length_append, List.length_singleton] at *
      omega
    · split at h
      · rename_i hb
        obtain ⟨-, h⟩ := opn_inv h
        obtain ⟨⟨n1, r1⟩, h1, h2⟩ := thenE_inv h
        cases h2
        have a1 := ih 11 _ _ _ _ h1
        have a3 := tail_len (isB_ne hb.2)
        simp only [List.length_append, List.length_singleton] at *
        omega
      · split at h
        · exact ih (k + 1) _ _ _ _ h
        · split at h
          · exact part_ln (ih 1) _ _ _ _ h
          · obtain ⟨⟨n1, r1⟩, h1, h2⟩ := thenE_inv h
            have a1 := ih (k + 1) _ _ _ _ h1
            have a2 := loop_ln (fun ts ns r h => ih (k + 1) nest ts ns r h) k _ _ _ _ _ h2
            simp only at *
            omega
theorem parse_len {ts : List Tk} {ns : List (Nd × Nat)} (h : parseT ts = .ok ns) : ns.length ≤ ts.length := by
  unfold parseT at h
  obtain ⟨⟨v, r⟩, h1, h2⟩ := thenE_inv h
  have a := row_ln _ _ _ _ _ _ h1
  simp only at h2
  split at h2
  · cases h2; omega
  · cases h2

end Go.Proofs.YtbdmpjnlgdahmaaGreatDoor

namespace Go.Proofs.YtbdmpjnlgdahmaaGreatDoor
open Go.RowKit
set_option maxRecDepth 100000

set_option maxHeartbeats 1000000 in
theorem ncopy_any (a : Option Addr) (ca : Nat) (xs : List Nd) (w : World) (ha : CV w a (flatN xs)) (hc0 : a = none → ca = 0) (hm : xs.length * 72 ≤ 140737488355328) :
    Calls Tryz.prog 20 #[.slice a xs.length ca] w fun e w' => ∃ v, e = .returned v ∧ NOwns w' w.heap.size v xs ∧ w.grownBy w' none := by
  obtain ⟨i0, hi, hz0, hz1, hz2⟩ := info_parts info46
  have H : Hid (CV w a (flatN xs)) := ha
  clear ha
  go_enter Tryz.func20, Tryz.ntmps20
  go_wp2_with (at_builtin; refine wpList_append_cv rfl (.tmp 3) (.tmp 4) 22 rfl 46 i0 _ 24 72 Tryz.underlying22 hi hz0 hz1 hz2 rfl (by decide) w.heap.size _ 0 [] rfl ?q1 a xs.length ca (flatN xs) rfl (flatN_len xs) hc0 ?q2 (flatN_one xs) ?q3 ?q4 ?q5 ?q6)
  case q1 => exact World.ownsRow_made w #[] 0 (Nat.le_refl _) (Nat.zero_le _) rfl
  case q2 => exact H.out.keptNone (World.grownBy_alloc _ _ _)
  case q3 => unfold maxLen; omega
  case q4 => omega
  case q5 => simp
  case q6 =>
    intro v' w' h1 h2
    have G : w.grownBy w' none := grown_trans_new (World.grownBy_alloc w _ _) h2 (by intro x hx; simp [Value.ownBlock] at hx; omega)
    have O : NOwns w' w.heap.size v' xs := by simpa using h1
    clear h2 h1
    go_wp2
    go_ret
    exact ⟨v', rfl, O, G⟩

end Go.Proofs.YtbdmpjnlgdahmaaGreatDoor
