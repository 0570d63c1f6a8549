import Derived.Test.YtlfmddjppejmaaaGreatDoorqLotQ1
import Derived.Laws.IdiomStrings
set_option maxHeartbeats 64000000
set_option maxRecDepth 100000
namespace Go.Proofs.YtlfmddjppejmaaaGreatDoor
open Go.RowKit
structure In where
 code : UInt16
 jt : UInt8
 jf : UInt8
 k : UInt32
def In.cells (x : In) : List Value := [.int .u16 (x.code.toNat : Int), .int .u8 (x.jt.toNat : Int), .int .u8 (x.jf.toNat : Int), .int .u32 (x.k.toNat : Int)]
theorem L1 {w : World} {base e size n : Nat} {v : Value} {vs : List Value} (h : w.ownsRow base e size v n vs) :
  ∃ ao cap, v = .slice ao n cap ∧ CV w ao vs ∧ n ≤ cap ∧ cap ≤ maxLen ∧ (ao = none → cap = 0) ∧ (∀ ad, ao = some ad → base ≤ ad.block ∧ ad.block < w.heap.size) ∧ v.ownBlock = ao.map (·.block) := by
 have hl := h.lt
 have h0 := h.1
 rcases h.2 with ⟨rfl, hn⟩ | ⟨g, cap, cur, rfl, hb, hg, hc, hm, hs, ht⟩
 ·subst hn
  refine ⟨none, 0, rfl, ⟨fun _ => List.eq_nil_of_length_eq_zero (by simpa using h0), fun ad had => (by cases had)⟩, by omega, Nat.zero_le _, fun _ => rfl, fun ad had => (by cases had), rfl⟩
 ·refine ⟨some ⟨g, 0, none⟩, cap, rfl, ⟨fun h => (by cases h), fun ad had i hi => ?_⟩, hc, hm, fun h => (by cases h), fun ad had => ?_, rfl⟩
  ·obtain rfl := Option.some.inj had
   exact h.cells (g := g) rfl i _ (by simp [hi])
  ·obtain rfl := Option.some.inj had
   exact hl g rfl
theorem a1X {w : World} {base e size n : Nat} {v : Value} {vs : List Value} (h : w.ownsRow base e size v n vs) (hn : 0 < n) :
  ∃ g cap, v = .slice (some ⟨g, 0, none⟩) n cap ∧ n ≤ cap ∧ cap ≤ maxLen ∧ base ≤ g ∧ g < w.heap.size := by
 have hl := h.lt
 rcases h.2 with ⟨rfl, hn⟩ | ⟨g, cap, cur, rfl, hb, hg, hc, hm, hs, ht⟩
 ·omega
 ·exact ⟨g, cap, rfl, hc, hm, (hl g rfl).1, (hl g rfl).2⟩
theorem Y5 {P : Program} {w : World} {ops : Array Oper} {rest : List Oper} {o : Oper} {a : Act} {Q : Exit → Act → World → Prop} (hgd : o.guard = none) (s x : Operand) (t : TypeId)
  (ho : o.op = .call { callee := .builtin .append, args := #[s, x], argTypes := #[t, t] })
  (e : TypeId) (i : TypeInfo) (z : Value) (size bytes : Nat) (ht : P.underlying t = some (.slice e)) (hi : P.info? e = some i) (hz : i.zero = some z) (hsize : i.size = size) (hby : i.bytes = bytes) (hzs : z.cells.size = size) (hsz : 0 < size)
  (base : Nat) (v : Value) (n : Nat) (vs : List Value) (hs : a.eval s = v) (hown : w.ownsRow base e size v n vs)
  (ao : Option Addr) (m c : Nat) (us : List Value) (hx : a.eval x = .slice ao m c) (hl : us.length = m * size) (hc0 : ao = none → c = 0) (hus : CV w ao us) (h1 : ∀ u ∈ us, u.oneCell' = true)
  (h63 : n + m ≤ maxLen) (hbytes : (n + m) * bytes ≤ 140737488355328) (hbase : base ≤ w.heap.size)
  (h : ∀ v' w', w'.ownsRow base e size v' (n + m) (vs ++ us) → w.grownBy w' v.ownBlock → wpList P ops Q rest (a.put o.dst v') w') : wpList P ops Q (o :: rest) a w := by
 cases ao with
 | none =>
  have e0 := hus.1 rfl
  subst e0
  have e1 := hc0 rfl
  subst e1
  have e2 : m = 0 := by
   rcases Nat.mul_eq_zero.1 hl.symm with h | h
   ·exact h
   ·omega
  subst e2
  refine wpList_append_own_none hgd s x t ho base e i size ht hi v n vs hs hown hx (h v w (by simpa using hown) (World.grownBy.refl _ _))
 | some ad =>
  refine wpList_append_own w hgd s x t ho base e i z size bytes ht hi hz hsize hby hzs hsz v n vs hs hown ad m c us hx hl ?_ h1 h63 hbytes hbase fun v' w' h1 h2 _ => h v' w' h1 h2
  intro j u hj
  obtain ⟨hlt, e⟩ := List.getElem?_eq_some_iff.1 hj
  rw [hus.2 ad rfl j hlt, e]
def s6 (w : World) (e : TypeId) (g n : Nat) : Prop := ∃ cur : Array Value, w.heap[g]? = some (.cells cur e (0, 0)) ∧ cur.size = n
theorem s6.cell {w : World} {e : TypeId} {g n : Nat} (h : s6 w e g n) {i : Nat} (hi : i < n) : ∃ u, w.cell? ⟨g, i, none⟩ = some u := by
 obtain ⟨cur, hh, hs⟩ := h
 refine ⟨cur[i], ?_⟩
 rw [cell_of_row w g i cur _ _ hh]
 simp
theorem s6.free {w : World} {e : TypeId} {g n : Nat} (h : s6 w e g n) (i : Nat) : w.frozen? ⟨g, i, none⟩ = false := by
 obtain ⟨cur, hh, hs⟩ := h
 simp [World.frozen?, hh]
theorem s6.lt {w : World} {e : TypeId} {g n : Nat} (h : s6 w e g n) : g < w.heap.size := by
 obtain ⟨cur, hh, hs⟩ := h
 exact (Array.getElem?_eq_some_iff.1 hh).1
theorem s6.setCell {w : World} {e : TypeId} {g n : Nat} (h : s6 w e g n) (a : Addr) (u : Value) : s6 (w.setCell a u) e g n := by
 obtain ⟨cur, hh, hs⟩ := h
 by_cases e : g = a.block
 ·subst e
  by_cases hsp : a.spot.isSome = true
  ·refine ⟨cur, ?_, hs⟩
   simp only [World.setCell, Array.getElem?_modify, hh]
   simp [hsp]
  ·refine ⟨cur.setIfInBounds a.off u, ?_, by simpa using hs⟩
   simp only [World.setCell, Array.getElem?_modify, hh]
   simp [hsp]
 ·exact ⟨cur, by rw [Below.heap_setCell _ _ _ _ e]; exact hh, hs⟩
theorem s6.kept {w w' : World} {e : TypeId} {g n : Nat} {row : Option Nat} (h : s6 w e g n) (hg : w.grownBy w' row) (hne : some g ≠ row) : s6 w' e g n := by
 have hl := h.lt
 obtain ⟨cur, hh, hs⟩ := h
 exact ⟨cur, by rw [hg.block g hl hne]; exact hh, hs⟩
theorem s6.ofRow {w : World} {base e size g n cap : Nat} {xs : List Value} (h : w.ownsRow base e size (.slice (some ⟨g, 0, none⟩) n cap) n xs) : s6 w e g (cap * size) ∧ n ≤ cap ∧ cap ≤ maxLen := by
 rcases h.2 with ⟨h, _⟩ | ⟨g', cap', cur, hv, hb, hg, hc, hm, hs, ht⟩
 ·cases h
 ·simp only [Value.slice.injEq, Option.some.injEq, Addr.mk.injEq] at hv
  obtain ⟨⟨rfl, _⟩, _, rfl⟩ := hv
  exact ⟨⟨cur, hg, hs⟩, hc, hm⟩
theorem s6.row {w : World} {e size g cap : Nat} (h : s6 w e g (cap * size)) (n : Nat) (hn : n ≤ cap) (hm : cap ≤ maxLen) : ∃ xs : List Value, w.ownsRow 0 e size (.slice (some ⟨g, 0, none⟩) n cap) n xs := by
 obtain ⟨cur, hh, hs⟩ := h
 have hle : n * size ≤ cap * size := Nat.mul_le_mul_right _ hn
 exact ⟨cur.toList.take (n * size), by rw [List.length_take, Array.length_toList, hs]; omega, .inr ⟨g, cap, cur, rfl, Nat.zero_le _, hh, hn, hm, hs, rfl⟩⟩
theorem a5D {P : Program} {w : World} {ops : Array Oper} {rest : List Oper} {o : Oper} {a : Act} {Q : Exit → Act → World → Prop} (hgd : o.guard = none) (s x : Operand) (t : TypeId)
  (ho : o.op = .call { callee := .builtin .append, args := #[s, x], argTypes := #[t, t] })
  (e : TypeId) (i : TypeInfo) (z : Value) (size bytes : Nat) (ht : P.underlying t = some (.slice e)) (hi : P.info? e = some i) (hz : i.zero = some z) (hsize : i.size = size) (hby : i.bytes = bytes) (hzs : z.cells.size = size) (hsz : 0 < size)
  (g n cap : Nat) (hs : a.eval s = .slice (some ⟨g, 0, none⟩) n cap) (hb : s6 w e g (cap * size)) (hn : n ≤ cap) (hm : cap ≤ maxLen)
  (ad : Addr) (m c : Nat) (us : List Value) (hx : a.eval x = .slice (some ad) m c) (hl : us.length = m * size) (hus : CV w (some ad) us) (h1 : ∀ u ∈ us, u.oneCell' = true)
  (h63 : n + m ≤ maxLen) (hbytes : (n + m) * bytes ≤ 140737488355328)
  (h : ∀ g' cap' w', (g' = g ∨ w.heap.size ≤ g') → s6 w' e g (cap * size) → s6 w' e g' (cap' * size) → n + m ≤ cap' → cap' ≤ maxLen → w.grownBy w' (some g) → wpList P ops Q rest (a.put o.dst (.slice (some ⟨g', 0, none⟩) (n + m) cap')) w') : wpList P ops Q (o :: rest) a w := by
 obtain ⟨xs, hrow⟩ := hb.row n hn hm
 have hcells : ∀ j u, us[j]? = some u → w.cell? (ad.add j) = some u := by
  intro j u hj
  obtain ⟨hlt, e⟩ := List.getElem?_eq_some_iff.1 hj
  rw [hus.2 ad rfl j hlt, e]
 by_cases hr : n + m ≤ cap
 ·refine wpList_append_fits w hgd s x t ho 0 e i size ht hi hsize g n cap xs hs hrow ad m c us hx hl hcells h1 hr ?_
  intro w' h1 h2
  have k := s6.ofRow h1
  exact h g cap w' (.inl rfl) k.1 k.1 k.2.1 k.2.2 h2
 ·refine wpList_append_grows w hgd s x t ho e i z size bytes ht hi hz hsize hby hzs hsz (some ⟨g, 0, none⟩) n cap xs hs (by simp) hrow.1 ?_ ad m c us hx hl hcells h1 (by omega) h63 hbytes ?_
  ·intro b hb' j u hj
   obtain rfl := Option.some.inj hb'
   exact hrow.cells (g := g) rfl j u hj
  ·intro v' w' h1 h2
   rcases h1.2 with ⟨rfl, hn0⟩ | ⟨g', cap', cur, rfl, hbb, hgg, hc, hmm, hss, htt⟩
   ·omega
   ·exact h g' cap' w' (.inr hbb) (hb.kept h2 (by simp)) ⟨cur, hgg, hss⟩ hc hmm (a2t h2)
def sl (s : ByteArray) : List UInt8 := s.data.toList
theorem j0 (s : ByteArray) : (sl s).length = s.size := by simp [sl]
theorem J3 (xs : List UInt8) : sl ⟨xs.toArray⟩ = xs := rfl
theorem K0 (s : ByteArray) : Value.string s = str (sl s) := by simp [sl, str]
theorem D8 (s : ByteArray) (k : Nat) (hk : k < s.size) : (sl s).drop k = s[k] :: (sl s).drop (k + 1) := by
 rw [List.drop_eq_getElem_cons (by rw [j0]; exact hk)]
 rfl
theorem a56 (s : ByteArray) (most : Nat) (w : World) (hs : s.size ≤ 9223372036854775807) (hm : most ≤ 1000000000000000000) :
  Calls Tryz.prog 57 #[.string s, .int .u64 most] w fun e w' => e = .returned (.tuple #[.int .u64 (((k9 most (sl s)).getD 0 : Nat) : Int), .bool (k9 most (sl s)).isSome]) ∧ w = w' := by
 by_cases h0 : s.size = 0
 ·have e : k9 most (sl s) = none := by
   have : sl s = [] := List.eq_nil_of_length_eq_zero (by rw [j0]; exact h0)
   simp [k9, this]
  rw [e]
  go_enter Tryz.func57, Tryz.ntmps57
  go_wp2
  all_goals (go_ret2; exact ⟨rfl, rfl⟩)
 ·obtain ⟨b, r, hbr⟩ : ∃ b r, sl s = b :: r := by
   cases h : sl s with
   | nil => have := j0 s; rw [h] at this; simp at this; omega
   | cons b r => exact ⟨b, r, rfl⟩
  have hb0 : s[0]'(by omega) = b := by
   have := D8 s 0 (by omega)
   rw [hbr] at this
   simpa using this.symm
  have hnb : (s.size == 0) = false := by simp [h0]
  by_cases hlead : 1 < s.size ∧ b = 48
  ·have e : k9 most (sl s) = none := by
    rw [k9, if_pos]
    rw [hbr]
    right
    have := j0 s
    rw [hbr] at this
    exact ⟨by omega, by rw [hlead.2]; rfl⟩
   rw [e]
   obtain ⟨h1, rfl⟩ := hlead
   have h1' : (1 : Int) < (s.size : Int) := by omega
   go_enter Tryz.func57, Tryz.ntmps57
   go_wp2
   all_goals (go_ret2; exact ⟨rfl, rfl⟩)
  ·have e : k9 most (sl s) = u6 most 0 (sl s) := by
    rw [k9, if_neg]
    rw [hbr]
    have := j0 s
    rw [hbr] at this
    simp only [reduceCtorEq, List.head?_cons, Option.some.injEq, false_or]
    intro ⟨x, y⟩
    exact hlead ⟨by omega, y⟩
   rw [e]
   have HE : Hid (u6 most 0 (sl s) = u6 most 0 (sl s)) := rfl
   generalize hans : u6 most 0 (sl s) = ans at *
   have HA : Hid (u6 most 0 (sl s) = ans) := hans
   clear e hans HE
   have hz : ((s.size : Int) == 0) = false := by rw [beq_eq_false_iff_ne]; omega
   have hcase : (¬ (1 : Int) < (s.size : Int)) ∨ ((1 : Int) < (s.size : Int) ∧ ((b.toNat : Int) == 48) = false) := by
    by_cases h1 : 1 < s.size
    ·refine .inr ⟨by omega, ?_⟩
     rw [beq_eq_false_iff_ne]
     intro hb
     refine hlead ⟨h1, UInt8.toNat_inj.1 ?_⟩
     simp
     omega
    ·exact .inl (by omega)
   clear hlead hbr
   rcases hcase with hca | ⟨hca, hcb⟩
   all_goals
    go_enter Tryz.func57, Tryz.ntmps57
    go_wp2
    try clear hcb
    clear hca hb0 hz hnb
    go_loop [6, 7] (fun x i => ∃ k v : Nat, k ≤ s.size ∧ v ≤ most ∧ i = .int .i64 k ∧ x = .int .u64 v ∧ u6 most v ((sl s).drop k) = ans) (fun _ i => s.size - (intOf i).toNat)
    case atStart => exact ⟨0, 0, Nat.zero_le _, Nat.zero_le _, rfl, rfl, HA.out⟩
    case round =>
     obtain ⟨k, v, hk, hv, rfl, rfl, hi⟩ := hrel
     have HI : Hid (u6 most v ((sl s).drop k) = ans) := hi
     clear hi
     by_cases hlt : k < s.size
     ·have hki : (k : Int) < (s.size : Int) := by omega
      have HD := D8 s k hlt
      have HS : Hid ((sl s).drop k = s[k] :: (sl s).drop (k + 1)) := HD
      clear HD
      have hb := s[k].toNat_lt
      by_cases hd : s8 s[k] = true
      ·have hd1 : 48 ≤ s[k].toNat := by simp [s8] at hd; omega
       have hd2 : s[k].toNat ≤ 57 := by simp [s8] at hd; omega
       by_cases hbig : most < 10 * v + (s[k].toNat - 48)
       ·have hans : ans = none := by rw [← HI.out, HS.out, u6]; simp [hd, hbig]
        rw [hans]
        go_wp2
        go_ret2
        exact ⟨rfl, rfl⟩
       ·have hnext : u6 most (10 * v + (s[k].toNat - 48)) ((sl s).drop (k + 1)) = ans := by rw [← HI.out, HS.out, u6]; simp [hd, hbig]
        have HN : Hid (u6 most (10 * v + (s[k].toNat - 48)) ((sl s).drop (k + 1)) = ans) := hnext
        clear hnext
        go_wp2
        go_round
        case rel => exact ⟨k + 1, 10 * v + (s[k].toNat - 48), by omega, by omega, by go_num, by rw [show ((10 * v + (s[k].toNat - 48) : Nat) : Int) = 10 * (v : Int) + ((s[k].toNat : Int) - 48) by omega], HN.out⟩
        case measure => simp [intOf]; omega
      ·have hans : ans = none := by rw [← HI.out, HS.out, u6]; simp [hd]
       have hd' : s[k].toNat < 48 ∨ 57 < s[k].toNat := by simp [s8] at hd; omega
       rw [hans]
       rcases hd' with hd' | hd'
       all_goals
        go_wp2
        all_goals (first | (exfalso; omega) | (go_ret2; exact ⟨rfl, rfl⟩))
     ·obtain rfl : k = s.size := by omega
      have hans : ans = some v := by
       rw [← HI.out, List.drop_eq_nil_of_le (by rw [j0]; omega)]; rfl
      rw [hans]
      go_wp2
      go_ret2
      exact ⟨rfl, rfl⟩
theorem N1 (s : ByteArray) (i k : Nat) : sl (s.extract i k) = ((sl s).drop i).take (k - i) := by
 simp [sl, ByteArray.data_extract, Array.toList_extract, List.extract]
theorem a2K {most : Nat} : ∀ (v : Nat) (d : List UInt8) (n : Nat), v ≤ most → u6 most v d = some n → n ≤ most
 | v, [], n, hv, h => by simp [u6] at h; omega
 | v, c :: d, n, hv, h => by
  rw [u6] at h
  split at h
  ·split at h
   ·cases h
   ·exact a2K _ d n (by omega) h
  ·cases h
theorem a4L {most n : Nat} {d : List UInt8} (h : k9 most d = some n) : n ≤ most := by
 unfold k9 at h
 split at h
 ·cases h
 ·exact a2K 0 d n (Nat.zero_le _) h
theorem ag2 (s : ByteArray) (j : Nat) (hj : j < s.size) : (sl s)[j]? = some s[j] := by
 rw [List.getElem?_eq_getElem (by rw [j0]; exact hj)]
 rfl
theorem ag8 (s : ByteArray) (g j : Nat) (hgj : g ≤ j) (hj : j < s.size) : ((sl s).drop g).take (j + 1 - g) = ((sl s).drop g).take (j - g) ++ [s[j]] := by
 rw [show j + 1 - g = (j - g) + 1 by omega, List.take_add_one, List.getElem?_drop, show g + (j - g) = j by omega, ag2 s j hj]
 rfl
theorem a7i : (Tryz.prog.info? 9).map (fun i => (i.zero, i.size, i.bytes)) = some (some (.string ⟨#[]⟩), 1, 16) := by kernel_rfl
abbrev a02 (w : World) (base : Nat) (v : Value) (ls : List (List UInt8)) : Prop := w.ownsRow base 9 1 v ls.length (ls.map str)
def v6 (c : Nat) : Bool := decide ((48 ≤ c ∧ c ≤ 57) ∨ (97 ≤ c ∧ c ≤ 102))
def m9 (c : Nat) : Nat := if 48 ≤ c ∧ c ≤ 57 then c - 48 else if 97 ≤ c ∧ c ≤ 102 then c - 87 else 0
theorem a1d (c : Nat) : m9 c < 16 := by unfold m9; split <;> (try split) <;> omega
theorem a2i {c : Nat} (h : 48 ≤ c ∧ c ≤ 57) : v6 c = true ∧ m9 c = c - 48 := ⟨decide_eq_true (.inl h), by simp [m9, h]⟩
theorem a2j {c : Nat} (h : 97 ≤ c ∧ c ≤ 102) : v6 c = true ∧ m9 c = c - 87 := ⟨decide_eq_true (.inr h), by unfold m9; rw [if_neg (by omega), if_pos h]⟩
theorem a2k {c : Nat} (h1 : ¬ (48 ≤ c ∧ c ≤ 57)) (h2 : ¬ (97 ≤ c ∧ c ≤ 102)) : v6 c = false ∧ m9 c = 0 := ⟨decide_eq_false (by omega), by unfold m9; rw [if_neg h1, if_neg h2]⟩
theorem a5b {a b : Int} {x y : Bool} (h : a = b) (h' : x = y) : Ending.returned (.tuple #[.int .u8 a, .bool x]) = .returned (.tuple #[.int .u8 b, .bool y]) := by rw [h, h']
theorem a3L (c : Nat) (w : World) (hc : c < 256) :
  Calls Tryz.prog 144 #[.int .u8 c] w fun e w' => e = .returned (.tuple #[.int .u8 (m9 c), .bool (v6 c)]) ∧ w = w' := by
 by_cases h1 : 48 ≤ c ∧ c ≤ 57
 ·obtain ⟨e1, e2⟩ := a2i h1
  rw [e1, e2]
  clear e1 e2
  obtain ⟨h1a, h1b⟩ := h1
  go_enter Tryz.func144, Tryz.ntmps144
  go_wp2
  go_ret2
  exact ⟨a5b (by omega) rfl, rfl⟩
 ·by_cases h2 : 97 ≤ c ∧ c ≤ 102
  ·obtain ⟨e1, e2⟩ := a2j h2
   rw [e1, e2]
   clear e1 e2
   obtain ⟨h2a, h2b⟩ := h2
   have h57 : 57 < c := by omega
   clear h1
   go_enter Tryz.func144, Tryz.ntmps144
   go_wp2
   go_ret2
   exact ⟨a5b (by omega) rfl, rfl⟩
  ·obtain ⟨e1, e2⟩ := a2k h1 h2
   rw [e1, e2]
   clear e1 e2
   go_enter Tryz.func144, Tryz.ntmps144
   go_wp2
   all_goals
    first
     | (exfalso; omega)
     | (go_ret2; exact ⟨rfl, rfl⟩)
theorem a1Y (c : Nat) (w : World) (hc : c < 256) :
  Calls Tryz.prog 56 #[.int .u8 c] w fun e w' => e = .returned (.int .i64 (if v6 c = true then (m9 c : Int) else -1)) ∧ w = w' := by
 by_cases h1 : 48 ≤ c ∧ c ≤ 57
 ·obtain ⟨e1, e2⟩ := a2i h1
  rw [e1, e2, if_pos rfl]
  clear e1 e2
  obtain ⟨h1a, h1b⟩ := h1
  go_enter Tryz.func56, Tryz.ntmps56
  go_wp2
  go_ret
  exact ⟨a31 (by omega), rfl⟩
 ·by_cases h2 : 97 ≤ c ∧ c ≤ 102
  ·obtain ⟨e1, e2⟩ := a2j h2
   rw [e1, e2, if_pos rfl]
   clear e1 e2
   obtain ⟨h2a, h2b⟩ := h2
   have h57 : 57 < c := by omega
   clear h1
   go_enter Tryz.func56, Tryz.ntmps56
   go_wp2
   go_ret
   exact ⟨a31 (by omega), rfl⟩
  ·obtain ⟨e1, e2⟩ := a2k h1 h2
   rw [e1, if_neg (by simp)]
   clear e1 e2
   go_enter Tryz.func56, Tryz.ntmps56
   go_wp2
   all_goals
    first
     | (exfalso; omega)
     | (go_ret; exact ⟨rfl, rfl⟩)
def gd (s : ByteArray) (i : Nat) : Nat := (s.data.toList.getD i 0).toNat
theorem a3Y (s : ByteArray) (i : Nat) (h : i < s.size) : s[i].toNat = gd s i := by
 have h' : i < s.data.toList.length := by simpa using h
 unfold gd
 rw [List.getD_eq_getElem?_getD, List.getElem?_eq_getElem h']
 rfl
theorem a3Z (s : ByteArray) (i : Nat) : gd s i < 256 := UInt8.toNat_lt _
def U1 (s : ByteArray) : Nat → Bool
 | 0 => true
 | k + 1 => U1 s k && (v6 (gd s (2 * k)) && v6 (gd s (2 * k + 1)))
def S8 (s : ByteArray) : Nat → List UInt8
 | 0 => []
 | k + 1 => S8 s k ++ [UInt8.ofNat (16 * m9 (gd s (2 * k)) + m9 (gd s (2 * k + 1)))]
theorem a6I (s : ByteArray) (k : Nat) : (S8 s k).length = k := by
 induction k with
 | zero => rfl
 | succ k ih => simp [S8, ih]
theorem a8l (s : ByteArray) (k n : Nat) (hk : k < n) (h : (v6 (gd s (2 * k)) && v6 (gd s (2 * k + 1))) = false) : U1 s n = false := by
 induction n with
 | zero => omega
 | succ n ih =>
  by_cases e : k = n
  ·subst e
   simp only [U1, h, Bool.and_false]
  ·simp only [U1, ih (by omega), Bool.false_and]
def O9 (s : ByteArray) : Bool := decide (s.size % 2 = 0) && U1 s (s.size / 2)
def unV (s : ByteArray) : List UInt8 := if O9 s = true then S8 s (s.size / 2) else []
theorem ah9 {s : ByteArray} (h : s.size % 2 ≠ 0) : O9 s = false ∧ unV s = [] := by
 have e : O9 s = false := by simp [O9, h]
 exact ⟨e, by simp [unV, e]⟩
theorem a5A {s : ByteArray} {k : Nat} (hk : 2 * k < s.size) (he : s.size % 2 = 0) (h : (v6 (gd s (2 * k)) && v6 (gd s (2 * k + 1))) = false) : O9 s = false ∧ unV s = [] := by
 have e : O9 s = false := by simp only [O9, a8l s k (s.size / 2) (by omega) h, Bool.and_false]
 exact ⟨e, by simp [unV, e]⟩
theorem ah8 {s : ByteArray} {k : Nat} (hk : 2 * k = s.size) (h : U1 s k = true) : O9 s = true ∧ unV s = S8 s k := by
 have e2 : s.size / 2 = k := by omega
 have e : O9 s = true := by simp only [O9, e2, h, Bool.and_true, decide_eq_true_eq]; omega
 exact ⟨e, by simp [unV, e, e2]⟩
theorem a6z (a b : Nat) (ha : a < 16) (hb : b < 16) : bits .or .u8 ((a : Int) * 16) (b : Int) = ((16 * a + b : Nat) : Int) := by
 rw [show ((a : Int) * 16) = ((a * 16 : Nat) : Int) by omega, u8_or_nat _ _ (by omega) (by omega), nat_join 4 _ _ (by omega) (by omega)]
 omega
theorem ai0 (s : ByteArray) (w : World) (hs : s.size ≤ 9223372036854775807) (hm : s.size ≤ 281474976710656) :
  Calls Tryz.prog 138 #[.string s] w fun e w' => a5I w w' e (unV s) (O9 s) := by
 obtain ⟨i0, hi, hz0, hz1, hz2⟩ := info_parts a2w
 by_cases hev : s.size % 2 = 0
 case neg =>
  obtain ⟨e1, e2⟩ := ah9 hev
  rw [e1, e2]
  clear e1 e2
  have h1 : (((s.size : Int) % 2) != 0) = true := by rw [bne_iff_ne]; omega
  go_enter Tryz.func138, Tryz.ntmps138
  go_wp2
  go_ret2
  exact ⟨_, rfl, World.ownsRow_nil _ _ _ _, World.grownBy.refl _ _⟩
 case pos =>
  have h1 : (((s.size : Int) % 2) != 0) = false := by simp; omega
  have HE : Hid (s.size % 2 = 0) := hev
  clear hev
  go_enter Tryz.func138, Tryz.ntmps138
  go_wp2_with (at_make; refine wpList_make_own _ rfl (.const (.int .i64 0)) (.tmp 16) 105 rfl w.heap.size 5 i0 (.int .u8 0) 1 Tryz.underlying105 hi hz0 hz1 .i64 .i64 _ (s.size / 2) rfl rfl ?r1 ?r2 ?r3 ?r4 ?r5)
  case r1 => omega
  case r2 => rw [hz2]; omega
  case r3 => unfold maxLen; omega
  case r4 => exact Nat.le_refl _
  case r5 =>
   intro w1 k1 k2
   have O1 : L8 w1 w.heap.size (.slice (some ⟨w.heap.size, 0, none⟩) 0 (s.size / 2)) (S8 s 0) := k1
   clear k1
   go_wp2
   go_loopw [4, 5] (fun v i wr => ∃ m k : Nat, m = 2 * k ∧ m ≤ s.size ∧ i = .int .i64 m ∧ U1 s k = true ∧ L8 wr w.heap.size v (S8 s k) ∧ w.grownBy wr none) (fun _ i _ => s.size - (intOf i).toNat)
   case atStart => exact ⟨0, 0, rfl, Nat.zero_le _, rfl, rfl, O1, k2⟩
   case round =>
    clear O1 k2
    obtain ⟨m, k, hmk, hk, rfl, hok, O, G⟩ := hrel
    have HM : Hid (m = 2 * k) := hmk
    have HO : Hid (U1 s k = true) := hok
    have hk1 : k < 281474976710656 := by omega
    by_cases hlt : m < s.size
    ·have hlt1 : m + 1 < s.size := by have := HE.out; omega
     clear hmk hok
     go_wp2_with fail
     rw [a3Y s m hlt]
     refine (a3L (gd s m) _ (a3Z s m)).mono ?_
     rintro e w2 ⟨rfl, rfl⟩
     go_wp2_with fail
     rw [a3Y s (m + 1) hlt1]
     refine (a3L (gd s (m + 1)) _ (a3Z s (m + 1))).mono ?_
     rintro e w2 ⟨rfl, rfl⟩
     have hv1 := a1d (gd s m)
     have hv2 := a1d (gd s (m + 1))
     have HJ : Hid (bits .or .u8 ((m9 (gd s m) : Int) * 16) (m9 (gd s (m + 1)) : Int) = ((16 * m9 (gd s m) + m9 (gd s (m + 1)) : Nat) : Int)) := a6z _ _ hv1 hv2
     cases hd1 : v6 (gd s m) with
     | false =>
      obtain ⟨e1, e2⟩ := a5A (k := k) (by have := HM.out; omega) HE.out (by rw [← HM.out, hd1, Bool.false_and])
      go_wp2
      go_ret2
      rw [e1, e2]
      exact ⟨_, rfl, World.ownsRow_nil _ _ _ _, G⟩
     | true =>
      cases hd2 : v6 (gd s (m + 1)) with
      | false =>
       obtain ⟨e1, e2⟩ := a5A (k := k) (by have := HM.out; omega) HE.out (by rw [← HM.out, hd2, Bool.and_false])
       go_wp2
       go_ret2
       rw [e1, e2]
       exact ⟨_, rfl, World.ownsRow_nil _ _ _ _, G⟩
      | true =>
       have HD : Hid (S8 s (k + 1) = S8 s k ++ [UInt8.ofNat (16 * m9 (gd s m) + m9 (gd s (m + 1)))]) := by
        have e := HM.out
        show S8 s (k + 1) = _
        rw [e]
        rfl
       have HO' : Hid (U1 s (k + 1) = true) := by
        show U1 s (k + 1) = true
        have e := HM.out
        subst e
        simp only [U1, HO.out, hd1, hd2, Bool.and_self]
       have hj : bits .or .u8 ((m9 (gd s m) : Int) * 16) (m9 (gd s (m + 1)) : Int) = ((UInt8.ofNat (16 * m9 (gd s m) + m9 (gd s (m + 1)))).toNat : Int) := by
        rw [HJ.out]
        simp
        omega
       have hl := a6I s k
       generalize UInt8.ofNat (16 * m9 (gd s m) + m9 (gd s (m + 1))) = t at *
       clear HJ hd1 hd2
       generalize m9 (gd s m) = a1 at *
       generalize m9 (gd s (m + 1)) = a2 at *
       have HL : Hid ((S8 s k).length = k) := hl
       clear hl
       go_wp2_with (at_builtin; refine ai4 rfl (.tmp 45) (.tmp 50) 105 rfl i0 Tryz.underlying105 hi hz0 hz1 hz2 w.heap.size u4 (S8 s k) rfl ?q1 (some ⟨wr.heap.size, 0, none⟩) 1 [t] rfl (by simp) ?q2 ?q3 ?q4 ?q5)
       case q1 => exact O.alloc _
       case q2 => exact a6B wr [t]
       case q3 =>
        have e := HM.out
        rw [HL.out]
        simp
        omega
       case q4 => have := G.size; simp; omega
       case q5 =>
        intro v' w' k1 k2
        have G' : w.grownBy w' none := z6 G (d5 (World.grownBy_alloc wr _ _) k2) (fun x hx => (O.lt x hx).1)
        rw [← HD.out] at k1
        clear k2 G O hj
        go_wp2
        go_roundw
        case rel => exact ⟨m + 2, k + 1, by have := HM.out; omega, by omega, by go_num, HO'.out, k1, G'⟩
        case measure => simp [intOf]; omega
    ·obtain ⟨e1, e2⟩ := ah8 (s := s) (k := k) (by omega) hok
     clear hmk hok
     go_wp2
     go_ret2
     rw [e1, e2]
     exact ⟨_, rfl, O, G⟩

end Go.Proofs.YtlfmddjppejmaaaGreatDoor
