/-
  Sources and their tokens: blanks, what stands behind a blank. No Go text here. Tokens in memory: four cells each; SameTokens, SpoilTokens. The document's own Lex.
-/
import Derived.Test.YtbdmpjnlgdahmaaGreatDoorLotP9
import Derived.Test.YtbdmpjnlgdahmaaGreatDoorLotP4
import Derived.Test.YtbdmpjnlgdahmaaGreatDoorLotP3
import Derived.Test.YtbdmpjnlgdahmaaGreatDoorLotP1
import Derived.Test.YtbdmpjnlgdahmaaGreatDoorLotP12
namespace Go.Proofs.YtbdmpjnlgdahmaaGreatDoor
open Go.RowKit
set_option maxRecDepth 100000

theorem lexF_fuel : ∀ (k k' p : Nat) (s : List UInt8), s.length ≤ k → s.length ≤ k' → lexF k p s = lexF k' p s
  | 0, k', p, s, h, h' => by
    have : s = [] := List.eq_nil_of_length_eq_zero (by omega)
    subst this
    cases k' <;> rfl
  | k + 1, 0, p, s, h, h' => by
    have : s = [] := List.eq_nil_of_length_eq_zero (by omega)
    subst this
    rfl
  | k + 1, k' + 1, p, [], _, _ => rfl
  | k + 1, k' + 1, p, c :: r, h, h' => by
    simp only [List.length_cons] at h h'
    rw [lexF, lexF]
    split
    · exact lexF_fuel k k' (p + 1) r (by omega) (by omega)
    · split
      · rfl
      · rename_i q t n ht
        have hl := List.length_pos_iff.2 (tok_ok ht).1
        rw [lexF_fuel k k' (p + t.length) ((c :: r).drop t.length) (by rw [List.length_drop, List.length_cons]; omega) (by rw [List.length_drop, List.length_cons]; omega)]

theorem lexR_nil (p : Nat) : lexR p [] = .ok [⟨0, p, [], 0⟩] := rfl
theorem lexR_blank (p : Nat) {c : UInt8} (r : List UInt8) (h : blankB c = true) : lexR p (c :: r) = lexR (p + 1) r := by
  unfold lexR
  rw [List.length_cons, lexF, if_pos h]
theorem lexR_err (p : Nat) {c : UInt8} {r : List UInt8} {e : Int} (h : blankB c = false) (ht : tokV (c :: r) = .error e) : lexR p (c :: r) = .error (p, e) := by
  unfold lexR
  rw [List.length_cons, lexF, if_neg (by rw [h]; simp), ht]
theorem lexR_tok (p : Nat) {c : UInt8} {r : List UInt8} {q n : Nat} {t : List UInt8} (h : blankB c = false) (ht : tokV (c :: r) = .ok (q, t, n)) :
    lexR p (c :: r) = match lexR (p + t.length) ((c :: r).drop t.length) with
      | .error e => .error e
      | .ok ts => .ok (⟨q, p, t, n⟩ :: ts) := by
  have hl := List.length_pos_iff.2 (tok_ok ht).1
  unfold lexR
  rw [List.length_cons, lexF, if_neg (by rw [h]; simp), ht]
  simp only
  rw [lexF_fuel r.length ((c :: r).drop t.length).length _ _ (by rw [List.length_drop, List.length_cons]; omega) (Nat.le_refl _)]
  cases lexF ((c :: r).drop t.length).length (p + t.length) ((c :: r).drop t.length) <;> rfl

theorem lexR_skip (p : Nat) : ∀ (bs r : List UInt8), (∀ b ∈ bs, blankB b = true) → lexR p (bs ++ r) = lexR (p + bs.length) r := by
  intro bs
  induction bs generalizing p with
  | nil => intro r _; rfl
  | cons b bs ih =>
    intro r h
    rw [List.cons_append, lexR_blank p _ (h b (List.mem_cons_self ..)), ih (p + 1) r (fun x hx => h x (List.mem_cons_of_mem _ hx)), List.length_cons, show p + 1 + bs.length = p + (bs.length + 1) by omega]

/-- The last token is the end. -/
theorem lexR_end : ∀ (k p : Nat) (s : List UInt8) (ts : List Tk), s.length ≤ k → lexR p s = .ok ts → ∃ us, ts = us ++ [⟨0, p + s.length, [], 0⟩] ∧ ∀ t ∈ us, t.text ≠ [] ∧ tokV t.text = .ok (t.kind, t.text, t.num)
  | k, p, [], ts, _, h => by
    rw [lexR_nil] at h
    cases h
    exact ⟨[], rfl, fun t ht => by cases ht⟩
  | 0, p, c :: r, ts, hk, h => by simp at hk
  | k + 1, p, c :: r, ts, hk, h => by
    simp only [List.length_cons] at hk
    cases hb : blankB c with
    | true =>
      rw [lexR_blank p r hb] at h
      obtain ⟨us, e, hu⟩ := lexR_end k (p + 1) r ts (by omega) h
      exact ⟨us, by rw [e, List.length_cons, show p + 1 + r.length = p + (r.length + 1) by omega], hu⟩
    | false =>
      cases ht : tokV (c :: r) with
      | error e => rw [lexR_err p hb ht] at h; cases h
      | ok x =>
        obtain ⟨q, t, n⟩ := x
        rw [lexR_tok p hb ht] at h
        have hok := tok_ok ht
        have hl := List.length_pos_iff.2 hok.1
        split at h
        · cases h
        · rename_i ts' h'
          cases h
          obtain ⟨us, e, hu⟩ := lexR_end k (p + t.length) ((c :: r).drop t.length) ts' (by rw [List.length_drop, List.length_cons]; omega) h'
          refine ⟨⟨q, p, t, n⟩ :: us, ?_, fun x hx => ?_⟩
          · rw [e, List.cons_append]
            have := hok.2.2.1
            rw [List.length_drop, show p + t.length + ((c :: r).length - t.length) = p + (c :: r).length by omega]
          · rcases List.mem_cons.1 hx with rfl | hx
            · exact ⟨hok.1, tok_alone ht⟩
            · exact hu x hx

/-- A source behind a blank: the one ahead of it decides first; its tokens stand, and those behind follow. -/
theorem lexR_app : ∀ (k p : Nat) (s : List UInt8) (b : UInt8) (m : List UInt8), s.length ≤ k → blankB b = true →
    lexR p (s ++ b :: m) = match lexR p s with
      | .error e => .error e
      | .ok ts => match lexR (p + s.length + 1) m with
        | .error e => .error e
        | .ok us => .ok (ts.dropLast ++ us)
  | k, p, [], b, m, _, hb => by
    rw [List.nil_append, lexR_blank p m hb, lexR_nil]
    simp only [List.length_nil, Nat.add_zero]
    split <;> rename_i h <;> rw [h] <;> rfl
  | 0, p, c :: r, b, m, hk, _ => by simp at hk
  | k + 1, p, c :: r, b, m, hk, hbb => by
    simp only [List.length_cons] at hk
    rw [List.cons_append]
    cases hb : blankB c with
    | true =>
      rw [lexR_blank p _ hb, lexR_blank p _ hb, lexR_app k (p + 1) r b m (by omega) hbb, List.length_cons, show p + (r.length + 1) + 1 = p + 1 + r.length + 1 by omega]
    | false =>
      have he : tokV (c :: (r ++ b :: m)) = tokV (c :: r) := tok_end (t := c :: r) (r := b :: m) (by simp) (.inr ⟨b, m, rfl, hbb⟩)
      cases ht : tokV (c :: r) with
      | error e => rw [lexR_err p hb ht, lexR_err p hb (by rw [he, ht])]
      | ok x =>
        obtain ⟨q, t, n⟩ := x
        have hok := tok_ok ht
        have hl := List.length_pos_iff.2 hok.1
        have hle := hok.2.2.1
        rw [lexR_tok p hb ht, lexR_tok p hb (by rw [he, ht]), show (c :: (r ++ b :: m)).drop t.length = (c :: r).drop t.length ++ b :: m by rw [← List.cons_append, List.drop_append_of_le_length hle],
          lexR_app k (p + t.length) ((c :: r).drop t.length) b m (by rw [List.length_drop, List.length_cons]; omega) hbb,
          show p + t.length + ((c :: r).drop t.length).length + 1 = p + (c :: r).length + 1 by rw [List.length_drop]; omega]
        cases h1 : lexR (p + t.length) ((c :: r).drop t.length) with
        | error e => rfl
        | ok ts =>
          simp only
          cases h2 : lexR (p + (c :: r).length + 1) m with
          | error e => rfl
          | ok us =>
            simp only
            obtain ⟨vs, e, -⟩ := lexR_end _ _ _ _ (Nat.le_refl _) h1
            have hd : ∀ (a z : Tk) (v : List Tk), (a :: (v ++ [z])).dropLast = a :: v := fun a z v => by rw [← List.cons_append, List.dropLast_concat]
            rw [e, List.dropLast_concat, hd, List.cons_append]

/-- Places from another beginning. -/
theorem lexR_shift : ∀ (k p d : Nat) (s : List UInt8), s.length ≤ k → lexR (p + d) s = match lexR p s with
      | .error e => .error (e.1 + d, e.2)
      | .ok ts => .ok (ts.map fun t => { t with pos := t.pos + d })
  | k, p, d, [], _ => rfl
  | 0, p, d, c :: r, hk => by simp at hk
  | k + 1, p, d, c :: r, hk => by
    simp only [List.length_cons] at hk
    cases hb : blankB c with
    | true => rw [lexR_blank _ _ hb, lexR_blank _ _ hb, show p + d + 1 = p + 1 + d by omega, lexR_shift k (p + 1) d r (by omega)]
    | false =>
      cases ht : tokV (c :: r) with
      | error e => rw [lexR_err _ hb ht, lexR_err _ hb ht]
      | ok x =>
        obtain ⟨q, t, n⟩ := x
        have hl := List.length_pos_iff.2 (tok_ok ht).1
        rw [lexR_tok _ hb ht, lexR_tok _ hb ht, show p + d + t.length = p + t.length + d by omega, lexR_shift k (p + t.length) d ((c :: r).drop t.length) (by rw [List.length_drop, List.length_cons]; omega)]
        cases h1 : lexR (p + t.length) ((c :: r).drop t.length) with
        | error e => rfl
        | ok ts => rfl

end Go.Proofs.YtbdmpjnlgdahmaaGreatDoor

namespace Go.Proofs.YtbdmpjnlgdahmaaGreatDoor
open Go.RowKit
set_option maxRecDepth 100000

def Tk.cells (x : Tk) : List Value := [.int .i64 (x.kind : Int), .int .i64 (x.pos : Int), str x.text, .int .u32 (x.num : Int)]

/-- The cells of a list of them. -/
def flatT (xs : List Tk) : List Value := xs.flatMap Tk.cells

theorem flatT_nil : flatT [] = [] := rfl
theorem flatT_cons (x : Tk) (xs : List Tk) : flatT (x :: xs) = x.cells ++ flatT xs := rfl
theorem flatT_append (xs ys : List Tk) : flatT (xs ++ ys) = flatT xs ++ flatT ys := by simp only [flatT, List.flatMap_append]

theorem flatT_len (xs : List Tk) : (flatT xs).length = xs.length * 4 := by
  induction xs with
  | nil => rfl
  | cons x xs ih => rw [flatT_cons, List.length_append, ih, List.length_cons]; simp [Tk.cells]; omega

theorem flatT_get (xs : List Tk) (i j : Nat) (hi : i < xs.length) (hj : j < 4) : (flatT xs)[i * 4 + j]? = (xs[i].cells)[j]? := by
  induction xs generalizing i with
  | nil => simp at hi
  | cons x xs ih =>
    rw [flatT_cons]
    have hl : x.cells.length = 4 := rfl
    cases i with
    | zero => rw [List.getElem?_append_left (by omega)]; simp
    | succ i =>
      rw [List.getElem?_append_right (by omega), hl, show (i + 1) * 4 + j - 4 = i * 4 + j by omega, ih i (by simpa using hi)]
      simp

theorem flatT_one (xs : List Tk) : ∀ u ∈ flatT xs, u.oneCell' = true := by
  intro u hu
  obtain ⟨x, _, hx⟩ := List.mem_flatMap.1 hu
  simp only [Tk.cells, List.mem_cons, List.not_mem_nil, or_false] at hx
  rcases hx with rfl | rfl | rfl | rfl <;> rfl

theorem CV.toks {w : World} {ao : Option Addr} {xs : List Tk} (h : CV w ao (flatT xs)) {k : Nat} (hk : k < xs.length) :
    ∃ b off, ao = some ⟨b, off, none⟩ ∧ ∀ i (hi : i < xs.length), w.cell? ⟨b, off + i * 4, none⟩ = some (.int .i64 (xs[i].kind : Int)) ∧ w.cell? ⟨b, off + i * 4 + 1, none⟩ = some (.int .i64 (xs[i].pos : Int)) ∧
      w.cell? ⟨b, off + i * 4 + 2, none⟩ = some (str xs[i].text) ∧ w.cell? ⟨b, off + i * 4 + 3, none⟩ = some (.int .u32 (xs[i].num : Int)) := by
  have hl := flatT_len xs
  obtain ⟨b, off, hao, hc⟩ := h.addr (k := k * 4) (by omega)
  refine ⟨b, off, hao, fun i hi => ?_⟩
  have key : ∀ j (hj : j < 4), w.cell? ⟨b, off + i * 4 + j, none⟩ = (xs[i].cells)[j]? := fun j hj => by
    rw [← flatT_get xs i j hi hj, Nat.add_assoc, hc (i * 4 + j) (by omega), List.getElem?_eq_getElem (by omega)]
  exact ⟨key 0 (by omega), key 1 (by omega), key 2 (by omega), key 3 (by omega)⟩

theorem info42 : (Tryz.prog.info? 42).map (fun i => (i.zero, i.size, i.bytes)) = some (some (.agg #[.int .i64 0, .int .i64 0, .string .empty, .int .u32 0]), 4, 40) := by kernel_rfl
/-- An owned row of tokens. -/
abbrev TOwns (w : World) (base : Nat) (v : Value) (xs : List Tk) : Prop := w.ownsRow base 42 4 v xs.length (flatT xs)

/-- The two loops of SpoilTokens, behind its append. -/
def TSpoilRel (w : World) (row : Option Nat) (g g' n n' : Nat) (wr : World) : Prop := BlkN wr 42 g n ∧ BlkN wr 42 g' n' ∧ w.grownBy wr row
theorem TSpoilRel.set {w wr : World} {row : Option Nat} {g g' n n' : Nat} (h : TSpoilRel w row g g' n n' wr) {p : Addr} (hp : row = some p.block ∨ w.heap.size ≤ p.block) (u : Value) : TSpoilRel w row g g' n n' (wr.setCell p u) :=
  ⟨h.1.setCell _ _, h.2.1.setCell _ _, grown_setCell h.2.2 _ _ hp⟩

end Go.Proofs.YtbdmpjnlgdahmaaGreatDoor

namespace Go.Proofs.YtbdmpjnlgdahmaaGreatDoor
open Go.RowKit
set_option maxRecDepth 100000

/-- What Lex tells: the tokens, the place, the error. -/
def lexT (x : Except (Nat × Int) (List Tk)) : List Tk := match x with
  | .ok ts => ts
  | .error _ => []
def lexP (x : Except (Nat × Int) (List Tk)) : Nat := match x with
  | .ok _ => 0
  | .error e => e.1
def lexE (x : Except (Nat × Int) (List Tk)) : Int := match x with
  | .ok _ => 0
  | .error e => e.2
def glue (us : List Tk) (x : Except (Nat × Int) (List Tk)) : Except (Nat × Int) (List Tk) := match x with
  | .ok ts => .ok (us ++ ts)
  | .error e => .error e

theorem tok_er {s : List UInt8} {e : Int} (h : tokV s = .error e) : (e != 0) = true := by
  unfold tokV at h
  split at h
  · cases h
  · split at h
    · split at h
      · cases h
      · split at h
        · cases h; rfl
        · cases h
    · split at h
      · cases h
      · split at h
        · cases h; rfl
        · cases h

set_option maxRecDepth 100000 in
set_option maxHeartbeats 8000000 in
theorem reflex_any (s : ByteArray) (hs : s.size ≤ 140737488355328) (w : World) :
    Calls Tryz.prog 23 #[.string s] w fun e w' => ∃ v, e = .returned (.tuple #[v, .int .i64 (lexP (lexV (sl s)) : Int), .int .i64 (lexE (lexV (sl s)))]) ∧ TOwns w' w.heap.size v (lexT (lexV (sl s))) ∧ w.grownBy w' none := by
  by_cases hl : 65536 < s.size
  · have e0 : lexV (sl s) = .error (0, 100) := by rw [lexV, if_pos (by rw [sl_len]; exact hl)]
    rw [e0]
    have hl' : (65536 : Int) < (s.size : Int) := by omega
    clear e0
    go_enter Tryz.func23, Tryz.ntmps23
    go_wp2
    go_ret3
    exact ⟨_, rfl, World.ownsRow_nil _ _ _ _, World.grownBy.refl _ _⟩
  have e0 : lexV (sl s) = lexR 0 (sl s) := by rw [lexV, if_neg (by rw [sl_len]; exact hl)]
  have hl' : ¬ (65536 : Int) < (s.size : Int) := by omega
  obtain ⟨ans, hans⟩ : ∃ ans, lexV (sl s) = ans := ⟨_, rfl⟩
  have HA : Hid (lexR 0 (sl s) = ans) := by show lexR 0 (sl s) = ans; rw [← e0]; exact hans
  rw [hans]
  clear e0 hans
  obtain ⟨i0, hi, hz0, hz1, hz2⟩ := info_parts info42
  have HTS : Hid (∀ q p t n, (Tryz.prog.info? 42).map (·.size) = some (tkA q p t n).size) := fun _ _ _ _ => size42
  go_enter Tryz.func23, Tryz.ntmps23
  go_upto_region 5 with fail
  go_loopw [5, 6] (fun u x wr => ∃ (j : Nat) (us : List Tk), j ≤ s.size ∧ us.length ≤ j ∧ x = .int .i64 j ∧ Hid (glue us (lexR j ((sl s).drop j)) = ans) ∧ TOwns wr w.heap.size u us ∧ w.grownBy wr none) (fun _ x _ => s.size - (intOf x).toNat)
  case atStart => exact ⟨0, [], Nat.zero_le _, Nat.zero_le _, rfl, by show glue [] (lexR 0 ((sl s).drop 0)) = ans; rw [List.drop_zero, HA.out]; cases ans <;> rfl, World.ownsRow_nil _ _ _ _, World.grownBy.refl _ _⟩
  case round =>
    clear HA
    obtain ⟨j, us, hj, hu, rfl, HI, OU, G⟩ := hrel
    have z0 : (0 : Int) ≤ (j : Int) := by omega
    by_cases hlt : j < s.size
    · have hji : (j : Int) < (s.size : Int) := by omega
      have HD : Hid ((sl s).drop j = s[j] :: (sl s).drop (j + 1)) := sl_drop s j hlt
      have CB := refblank_any s[j] wr
      cases hb : blankB s[j] with
      | true =>
        rw [hb] at CB
        have HN : Hid (glue us (lexR (j + 1) ((sl s).drop (j + 1))) = ans) := by
          show glue us _ = ans
          rw [← HI.out, HD.out, lexR_blank j _ hb]
        have HO : Hid (TOwns wr w.heap.size u5 us ∧ w.grownBy wr none) := ⟨OU, G⟩
        clear HI HD OU G
        go_wp2_with fail
        refine CB.mono ?_
        rintro e w1 ⟨rfl, rfl⟩
        clear CB
        go_wp2
        go_roundw
        case rel => exact ⟨j + 1, us, by omega, by omega, by go_num, HN, HO.out.1, HO.out.2⟩
        case measure => simp [intOf]; omega
      | false =>
        rw [hb] at CB
        have CT := reftok_any s j hlt hs wr
        cases ht : tokV ((sl s).drop j) with
        | error er =>
          rw [ht] at CT
          simp only [tokA, tokE, tkA] at CT
          have hz := tok_er ht
          have hans : ans = .error (j, er) := by
            rw [← HI.out, HD.out, lexR_err j hb (by rw [← HD.out]; exact ht)]
            rfl
          subst hans
          have HG : Hid (w.grownBy wr none) := G
          clear HI HD OU G ht
          go_wp2_with fail
          refine CB.mono ?_
          rintro e w1 ⟨rfl, rfl⟩
          go_wp2_with fail
          refine CT.mono ?_
          rintro e w1 ⟨rfl, K1⟩
          have G1 := grown_trans HG.out K1
          clear CB CT K1
          go_wp2
          go_ret3
          exact ⟨_, rfl, World.ownsRow_nil _ _ _ _, grown_trans G1 (World.grownBy_alloc _ _ _)⟩
        | ok y =>
          obtain ⟨q, t, n⟩ := y
          rw [ht] at CT
          simp only [tokA, tokE, tkA] at CT
          have hok := tok_ok ht
          have htl : 1 ≤ t.length := List.length_pos_iff.2 hok.1
          have htl2 : j + t.length ≤ s.size := by
            have := hok.2.2.1
            rw [List.length_drop, sl_len] at this
            omega
          have HN : Hid (glue (us ++ [⟨q, j, t, n⟩]) (lexR (j + t.length) ((sl s).drop (j + t.length))) = ans) := by
            show glue _ _ = ans
            have e1 := lexR_tok j hb (by rw [← HD.out]; exact ht)
            rw [← HD.out, List.drop_drop] at e1
            rw [← HI.out, e1]
            cases lexR (j + t.length) ((sl s).drop (j + t.length)) with
            | error e => rfl
            | ok ts => simp [glue]
          have HG : Hid (w.grownBy wr none) := G
          have HOU : Hid (TOwns wr w.heap.size u5 us) := OU
          clear HI HD OU G ht hok
          go_wp2_with fail
          refine CB.mono ?_
          rintro e w1 ⟨rfl, rfl⟩
          go_wp2_with fail
          refine CT.mono ?_
          rintro e w2 ⟨rfl, K2⟩
          clear CB CT
          go_upto_region 11 with fail
          have VA := VAt.alloc w2 42 #[.int .i64 (q : Int), .int .i64 (j : Int), str t, .int .u32 (n : Int)]
          have K3 := grown_trans K2 (World.grownBy_alloc w2 (.cells #[.int .i64 (q : Int), .int .i64 (j : Int), str t, .int .u32 (n : Int)] 42) none)
          have HV : Hid (∀ y, u5.ownBlock = some y → y < w2.heap.size) := fun y hy => by
            have := (World.ownsRow.lt HOU.out y hy).2
            have := K2.size
            omega
          have O3 : TOwns (w2.alloc (.cells #[.int .i64 (q : Int), .int .i64 (j : Int), str t, .int .u32 (n : Int)] 42)) w.heap.size u5 us := owns_keptNone HOU.out K3
          have G3 := grown_trans HG.out K3
          have HVL : Hid (w.heap.size ≤ w2.heap.size) := (grown_trans HG.out K2).size
          generalize w2.alloc (.cells #[.int .i64 (q : Int), .int .i64 (j : Int), str t, .int .u32 (n : Int)] 42) = w3 at *
          generalize w2.heap.size = V at *
          have HSZ : Hid ((Tryz.prog.info? 42).map (·.size) = some (#[.int .i64 (q : Int), .int .i64 (j : Int), str t, .int .u32 (n : Int)] : Array Value).size) := size42
          clear K2 K3 HOU HG
          have KA := World.grownBy_alloc w3 (.cells #[.int .i64 (q : Int), .int .i64 (j : Int), str t, .int .u32 (n : Int)] 42) none
          have HO4 : Hid (TOwns (w3.alloc (.cells #[.int .i64 (q : Int), .int .i64 (j : Int), str t, .int .u32 (n : Int)] 42)) w.heap.size u5 us ∧ VAt (w3.alloc (.cells #[.int .i64 (q : Int), .int .i64 (j : Int), str t, .int .u32 (n : Int)] 42)) V 42 #[.int .i64 (q : Int), .int .i64 (j : Int), str t, .int .u32 (n : Int)] ∧ w.grownBy (w3.alloc (.cells #[.int .i64 (q : Int), .int .i64 (j : Int), str t, .int .u32 (n : Int)] 42)) none) := ⟨owns_keptNone O3 KA, VA.kept KA, grown_trans G3 KA⟩
          have HCB : Hid (CV (w3.alloc (.cells #[.int .i64 (q : Int), .int .i64 (j : Int), str t, .int .u32 (n : Int)] 42)) (some ⟨w3.heap.size, 0, none⟩) [.int .i64 (q : Int), .int .i64 (j : Int), str t, .int .u32 (n : Int)]) := cv_lit w3 _ _
          clear O3 G3 KA
          go_wp2_with (first
            | refine wpList_load_row rfl 42 (.tmp 7) rfl V rfl 42 _ (0, 0) _ VA Tryz.underlying42 rfl HSZ.out ?_
            | (at_builtin; refine wpList_append_cv rfl (.tmp 32) (.tmp 34) 33 rfl 42 i0 _ 4 40 Tryz.underlying33 hi hz0 hz1 hz2 rfl (by decide) w.heap.size u5 us.length (flatT us) rfl ?r1 (some ⟨w3.heap.size, 0, none⟩) 1 1 [.int .i64 (q : Int), .int .i64 (j : Int), str t, .int .u32 (n : Int)] rfl rfl (by simp) ?r2 (by simp [Value.oneCell']) ?r3 ?r4 ?r5 ?r6))
          case r1 => exact HO4.out.1
          case r2 => exact HCB.out
          case r3 => unfold maxLen; omega
          case r4 => omega
          case r5 => exact HO4.out.2.2.size
          case r6 =>
            intro v5 w5 O5 K5
            have V5 := HO4.out.2.1.grown K5 (fun e => by have := HV.out V e; omega)
            have G5 := grown_trans_new HO4.out.2.2 K5 (fun x hx => (World.ownsRow.lt HO4.out.1 x hx).1)
            have HO5 : Hid (TOwns w5 w.heap.size v5 (us ++ [⟨q, j, t, n⟩]) ∧ w.grownBy w5 none) := ⟨by
              show w5.ownsRow w.heap.size 42 4 v5 (us ++ [(⟨q, j, t, n⟩ : Tk)]).length (flatT (us ++ [(⟨q, j, t, n⟩ : Tk)]))
              rw [List.length_append, flatT_append]
              exact O5, G5⟩
            have c2 : w5.cell? ⟨V, 2, none⟩ = some (str t) := V5.cell 2
            have hw : IntKind.i64.wrap ((j : Int) + (t.length : Int)) = ((j + t.length : Nat) : Int) := by rw [IntKind.wrap_i64]; omega
            have hts : ((⟨t.toArray⟩ : ByteArray).size : Int) = (t.length : Int) := by rw [← sl_len, sl_str]
            clear VA HO4 HCB O5 K5 V5 G5
            go_wp2
            go_roundw
            case rel => exact ⟨j + t.length, us ++ [⟨q, j, t, n⟩], htl2, by rw [List.length_append, List.length_singleton]; omega, by go_num, HN, HO5.out.1, HO5.out.2⟩
            case measure => simp [intOf]; omega
    · obtain rfl : j = s.size := by omega
      have hji : ¬ (s.size : Int) < (s.size : Int) := by omega
      have hans : ans = .ok (us ++ [⟨0, s.size, [], 0⟩]) := by
        rw [← HI.out, List.drop_eq_nil_of_le (by rw [sl_len]; exact Nat.le_refl _), lexR_nil]
        rfl
      subst hans
      have KA := World.grownBy_alloc wr (.cells #[.int .i64 0, .int .i64 (s.size : Int), str [], .int .u32 0] 42) none
      have HO4 : Hid (TOwns (wr.alloc (.cells #[.int .i64 0, .int .i64 (s.size : Int), str [], .int .u32 0] 42)) w.heap.size u5 us ∧ w.grownBy (wr.alloc (.cells #[.int .i64 0, .int .i64 (s.size : Int), str [], .int .u32 0] 42)) none) := ⟨owns_keptNone OU KA, grown_trans G KA⟩
      have HCB : Hid (CV (wr.alloc (.cells #[.int .i64 0, .int .i64 (s.size : Int), str [], .int .u32 0] 42)) (some ⟨wr.heap.size, 0, none⟩) [.int .i64 0, .int .i64 (s.size : Int), str [], .int .u32 0]) := cv_lit wr _ _
      clear HI OU G KA
      go_wp2_with (at_builtin; refine wpList_append_cv rfl (.tmp 41) (.tmp 45) 33 rfl 42 i0 _ 4 40 Tryz.underlying33 hi hz0 hz1 hz2 rfl (by decide) w.heap.size u5 us.length (flatT us) rfl ?r1 (some ⟨wr.heap.size, 0, none⟩) 1 1 [.int .i64 0, .int .i64 (s.size : Int), str [], .int .u32 0] rfl rfl (by simp) ?r2 (by simp [Value.oneCell']) ?r3 ?r4 ?r5 ?r6)
      case r1 => exact HO4.out.1
      case r2 => exact HCB.out
      case r3 => unfold maxLen; omega
      case r4 => omega
      case r5 => have := HO4.out.2.size; simpa using this
      case r6 =>
        intro v5 w5 O5 K5
        have G5 := grown_trans_new HO4.out.2 K5 (fun x hx => (World.ownsRow.lt HO4.out.1 x hx).1)
        have HO5 : Hid (TOwns w5 w.heap.size v5 (us ++ [⟨0, s.size, [], 0⟩]) ∧ w.grownBy w5 none) := ⟨by
          show w5.ownsRow w.heap.size 42 4 v5 (us ++ [(⟨0, s.size, [], 0⟩ : Tk)]).length (flatT (us ++ [(⟨0, s.size, [], 0⟩ : Tk)]))
          rw [List.length_append, flatT_append]
          exact O5, G5⟩
        clear HO4 HCB O5 K5 G5
        go_wp2
        go_ret3
        exact ⟨_, rfl, HO5.out.1, HO5.out.2⟩

end Go.Proofs.YtbdmpjnlgdahmaaGreatDoor
