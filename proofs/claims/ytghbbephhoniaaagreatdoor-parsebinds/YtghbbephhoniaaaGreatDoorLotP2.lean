import Derived.Test.YtghbbephhoniaaaGreatDoorLotP1
import Derived.Laws.IdiomStrings
namespace Go.Proofs.YtghbbephhoniaaaGreatDoor
open Go.RowKit
set_option maxRecDepth 100000
theorem cv_of_row {w : World} {base e size n : Nat} {v : Value} {vs : List Value} (h : w.ownsRow base e size v n vs) :
  ∃ ao cap, v = .slice ao n cap ∧ CV w ao vs ∧ n ≤ cap ∧ cap ≤ maxLen ∧ (ao = none → cap = 0) ∧ (∀ ad, ao = some ad → base ≤ ad.block ∧ ad.block < w.heap.size) ∧ v.ownBlock = ao.map (·.block) := by
 have hl := h.lt
 have h0 := h.1
 rcases h.2 with ⟨rfl, hn⟩ | ⟨g, cap, cur, rfl, hb, hg, hc, hm, hs, ht⟩
 ·subst hn
  refine ⟨none, 0, rfl, ⟨fun _ => List.eq_nil_of_length_eq_zero (by simpa using h0), fun ad had => (by cases had)⟩, by omega, Nat.zero_le _, fun _ => rfl, fun ad had => (by cases had), rfl⟩
 ·refine ⟨some ⟨g, 0, none⟩, cap, rfl, ⟨fun h => (by cases h), fun ad had i hi => ?_⟩, hc, hm, fun h => (by cases h), fun ad had => ?_, rfl⟩
  ·obtain rfl := Option.some.inj had
   exact h.cells (g := g) rfl i _ (by simp [hi])
  ·obtain rfl := Option.some.inj had
   exact hl g rfl
theorem owns_head {w : World} {base e size n : Nat} {v : Value} {vs : List Value} (h : w.ownsRow base e size v n vs) (hn : 0 < n) :
  ∃ g cap, v = .slice (some ⟨g, 0, none⟩) n cap ∧ n ≤ cap ∧ cap ≤ maxLen ∧ base ≤ g ∧ g < w.heap.size := by
 have hl := h.lt
 rcases h.2 with ⟨rfl, hn⟩ | ⟨g, cap, cur, rfl, hb, hg, hc, hm, hs, ht⟩
 ·omega
 ·exact ⟨g, cap, rfl, hc, hm, (hl g rfl).1, (hl g rfl).2⟩
theorem wpList_append_cv {P : Program} {w : World} {ops : Array Oper} {rest : List Oper} {o : Oper} {a : Act} {Q : Exit → Act → World → Prop} (hgd : o.guard = none) (s x : Operand) (t : TypeId)
  (ho : o.op = .call { callee := .builtin .append, args := #[s, x], argTypes := #[t, t] })
  (e : TypeId) (i : TypeInfo) (z : Value) (size bytes : Nat) (ht : P.underlying t = some (.slice e)) (hi : P.info? e = some i) (hz : i.zero = some z) (hsize : i.size = size) (hby : i.bytes = bytes) (hzs : z.cells.size = size) (hsz : 0 < size)
  (base : Nat) (v : Value) (n : Nat) (vs : List Value) (hs : a.eval s = v) (hown : w.ownsRow base e size v n vs)
  (ao : Option Addr) (m c : Nat) (us : List Value) (hx : a.eval x = .slice ao m c) (hl : us.length = m * size) (hc0 : ao = none → c = 0) (hus : CV w ao us) (h1 : ∀ u ∈ us, u.oneCell' = true)
  (h63 : n + m ≤ maxLen) (hbytes : (n + m) * bytes ≤ 140737488355328) (hbase : base ≤ w.heap.size)
  (h : ∀ v' w', w'.ownsRow base e size v' (n + m) (vs ++ us) → w.grownBy w' v.ownBlock → wpList P ops Q rest (a.put o.dst v') w') : wpList P ops Q (o :: rest) a w := by
 cases ao with
 | none =>
  have e0 := hus.1 rfl
  subst e0
  have e1 := hc0 rfl
  subst e1
  have e2 : m = 0 := by
   rcases Nat.mul_eq_zero.1 hl.symm with h | h
   ·exact h
   ·omega
  subst e2
  refine wpList_append_own_none hgd s x t ho base e i size ht hi v n vs hs hown hx (h v w (by simpa using hown) (World.grownBy.refl _ _))
 | some ad =>
  refine wpList_append_own w hgd s x t ho base e i z size bytes ht hi hz hsize hby hzs hsz v n vs hs hown ad m c us hx hl ?_ h1 h63 hbytes hbase fun v' w' h1 h2 _ => h v' w' h1 h2
  intro j u hj
  obtain ⟨hlt, e⟩ := List.getElem?_eq_some_iff.1 hj
  rw [hus.2 ad rfl j hlt, e]
def BlkN (w : World) (e : TypeId) (g n : Nat) : Prop := ∃ cur : Array Value, w.heap[g]? = some (.cells cur e (0, 0)) ∧ cur.size = n
theorem BlkN.cell {w : World} {e : TypeId} {g n : Nat} (h : BlkN w e g n) {i : Nat} (hi : i < n) : ∃ u, w.cell? ⟨g, i, none⟩ = some u := by
 obtain ⟨cur, hh, hs⟩ := h
 refine ⟨cur[i], ?_⟩
 rw [cell_of_row w g i cur _ _ hh]
 simp
theorem BlkN.free {w : World} {e : TypeId} {g n : Nat} (h : BlkN w e g n) (i : Nat) : w.frozen? ⟨g, i, none⟩ = false := by
 obtain ⟨cur, hh, hs⟩ := h
 simp [World.frozen?, hh]
theorem BlkN.lt {w : World} {e : TypeId} {g n : Nat} (h : BlkN w e g n) : g < w.heap.size := by
 obtain ⟨cur, hh, hs⟩ := h
 exact (Array.getElem?_eq_some_iff.1 hh).1
theorem BlkN.setCell {w : World} {e : TypeId} {g n : Nat} (h : BlkN w e g n) (a : Addr) (u : Value) : BlkN (w.setCell a u) e g n := by
 obtain ⟨cur, hh, hs⟩ := h
 by_cases e : g = a.block
 ·subst e
  by_cases hsp : a.spot.isSome = true
  ·refine ⟨cur, ?_, hs⟩
   simp only [World.setCell, Array.getElem?_modify, hh]
   simp [hsp]
  ·refine ⟨cur.setIfInBounds a.off u, ?_, by simpa using hs⟩
   simp only [World.setCell, Array.getElem?_modify, hh]
   simp [hsp]
 ·exact ⟨cur, by rw [Below.heap_setCell _ _ _ _ e]; exact hh, hs⟩
theorem BlkN.kept {w w' : World} {e : TypeId} {g n : Nat} {row : Option Nat} (h : BlkN w e g n) (hg : w.grownBy w' row) (hne : some g ≠ row) : BlkN w' e g n := by
 have hl := h.lt
 obtain ⟨cur, hh, hs⟩ := h
 exact ⟨cur, by rw [hg.block g hl hne]; exact hh, hs⟩
theorem BlkN.ofRow {w : World} {base e size g n cap : Nat} {xs : List Value} (h : w.ownsRow base e size (.slice (some ⟨g, 0, none⟩) n cap) n xs) : BlkN w e g (cap * size) ∧ n ≤ cap ∧ cap ≤ maxLen := by
 rcases h.2 with ⟨h, _⟩ | ⟨g', cap', cur, hv, hb, hg, hc, hm, hs, ht⟩
 ·cases h
 ·simp only [Value.slice.injEq, Option.some.injEq, Addr.mk.injEq] at hv
  obtain ⟨⟨rfl, _⟩, _, rfl⟩ := hv
  exact ⟨⟨cur, hg, hs⟩, hc, hm⟩
theorem BlkN.row {w : World} {e size g cap : Nat} (h : BlkN w e g (cap * size)) (n : Nat) (hn : n ≤ cap) (hm : cap ≤ maxLen) : ∃ xs : List Value, w.ownsRow 0 e size (.slice (some ⟨g, 0, none⟩) n cap) n xs := by
 obtain ⟨cur, hh, hs⟩ := h
 have hle : n * size ≤ cap * size := Nat.mul_le_mul_right _ hn
 exact ⟨cur.toList.take (n * size), by rw [List.length_take, Array.length_toList, hs]; omega, .inr ⟨g, cap, cur, rfl, Nat.zero_le _, hh, hn, hm, hs, rfl⟩⟩
def sl (s : ByteArray) : List UInt8 := s.data.toList
theorem sl_len (s : ByteArray) : (sl s).length = s.size := by simp [sl]
theorem sl_str (xs : List UInt8) : sl ⟨xs.toArray⟩ = xs := rfl
theorem str_sl (s : ByteArray) : Value.string s = str (sl s) := by simp [sl, str]
theorem sl_drop (s : ByteArray) (k : Nat) (hk : k < s.size) : (sl s).drop k = s[k] :: (sl s).drop (k + 1) := by
 rw [List.drop_eq_getElem_cons (by rw [sl_len]; exact hk)]
 rfl
theorem sl_extract (s : ByteArray) (i k : Nat) : sl (s.extract i k) = ((sl s).drop i).take (k - i) := by
 simp [sl, ByteArray.data_extract, Array.toList_extract, List.extract]
theorem numFrom_le {most : Nat} : ∀ (v : Nat) (d : List UInt8) (n : Nat), v ≤ most → numFrom most v d = some n → n ≤ most
 | v, [], n, hv, h => by simp [numFrom] at h; omega
 | v, c :: d, n, hv, h => by
  rw [numFrom] at h
  split at h
  ·split at h
   ·cases h
   ·exact numFrom_le _ d n (by omega) h
  ·cases h
theorem numberV_le {most n : Nat} {d : List UInt8} (h : numberV most d = some n) : n ≤ most := by
 unfold numberV at h
 split at h
 ·cases h
 ·exact numFrom_le 0 d n (Nat.zero_le _) h
def hexD (n : Nat) : UInt8 := if n < 10 then UInt8.ofNat (48 + n) else UInt8.ofNat (87 + n)
def hexS (xs : List UInt8) : List UInt8 := xs.flatMap fun c => [hexD (c.toNat / 16), hexD (c.toNat % 16)]
theorem hexS_succ (xs : List UInt8) (k : Nat) (hk : k < xs.length) : hexS (xs.take (k + 1)) = hexS (xs.take k) ++ [hexD (xs[k].toNat / 16), hexD (xs[k].toNat % 16)] := by
 rw [List.take_succ_eq_append_getElem hk]; simp only [hexS, List.flatMap_append, List.flatMap_cons, List.flatMap_nil, List.append_nil]
theorem hexS_len (xs : List UInt8) : (hexS xs).length = 2 * xs.length := by
 induction xs with
 | nil => rfl
 | cons x xs ih => simp only [hexS, List.flatMap_cons, List.length_append, List.length_cons, List.length_nil] at *; omega
theorem run_str {P : Program} {w : World} {base : Nat} {v : Value} {ys : List UInt8} (h : Owns w base v ys) (src dst : TypeId) (hs : P.underlying src = some (.slice 5)) (he : P.underlying 5 = some (.int .u8)) (hd : P.underlying dst = some .string) :
  (convert src dst v).run P w = .ok (.string ⟨ys.toArray⟩) w := by
 obtain ⟨ao, cap, rfl, hc, _⟩ := h.shape
 cases ao with
 | none =>
  have e := hc.1 rfl
  subst e
  show (convert src dst (.slice none 0 cap)).run P w = _
  rw [run_convert_bytes_string w src dst 5 none 0 cap hs he hd]
  simp [Conv.bytesToString]
  rfl
 | some ad => exact run_convert_bytes_back w src dst 5 ad cap ys hs he hd (fun j hj => hc.2 ad rfl j hj)
def hexT : ByteArray := ⟨#[48, 49, 50, 51, 52, 53, 54, 55, 56, 57, 97, 98, 99, 100, 101, 102]⟩
theorem hexT_at (i : Nat) (h : i < hexT.size) : hexT[i] = hexD i := by
 have h' : i < 16 := h
 have key : ∀ j : Fin 16, hexT[j.val]'(j.isLt) = hexD j.val := by decide +kernel
 exact key ⟨i, h'⟩
set_option maxHeartbeats 1000000 in
theorem refhex_any (a : Option Addr) (ca : Nat) (xs : List UInt8) (w : World) (ha : Cells w a xs) (hn : xs.length ≤ 70368744177664) :
  Calls Tryz.prog 73 #[.slice a xs.length ca] w fun e w' => e = .returned (.string ⟨(hexS xs).toArray⟩) ∧ w.grownBy w' none := by
 obtain ⟨i0, hi, hz0, hz1, hz2⟩ := info_parts info5
 have H : Hid (Cells w a xs) := ha
 clear ha
 go_enter Tryz.func73, Tryz.ntmps73
 go_wp2
 go_loopw [3, 4] (fun v i wr => ∃ k : Nat, k ≤ xs.length ∧ i = .int .i64 k ∧ Owns wr w.heap.size v (hexS (xs.take k)) ∧ w.grownBy wr none) (fun _ i _ => xs.length - (intOf i).toNat)
 case atStart => exact ⟨0, Nat.zero_le _, rfl, World.ownsRow_nil _ _ _ _, World.grownBy.refl _ _⟩
 case round =>
  obtain ⟨k, hk, rfl, O, G⟩ := hrel
  by_cases hlt : k < xs.length
  ·obtain ⟨b, o, rfl, hc⟩ := H.out.addr hlt
   have c0 := hc k hlt
   have c1 : wr.cell? ⟨b, o + k, none⟩ = some (.int .u8 (xs[k].toNat : Int)) := G.cell c0 (by simp)
   have hx := xs[k].toNat_lt
   have HJ : Hid (hexS (xs.take (k + 1)) = hexS (xs.take k) ++ [hexD (xs[k].toNat / 16), hexD (xs[k].toNat % 16)]) := hexS_succ xs k hlt
   generalize xs[k].toNat = c at *
   have d1 : (0 : Int) ≤ (c : Int) / 16 := by omega
   have d2 : (c : Int) / 16 < 16 := by omega
   have d3 : bits .and .u8 (c : Int) 15 = (c : Int) % 16 := u8_and15 (c : Int) (by omega) (by omega)
   have d4 : (0 : Int) ≤ (c : Int) % 16 := by omega
   have d5 : (c : Int) % 16 < 16 := by omega
   have e1 : (⟨#[48, 49, 50, 51, 52, 53, 54, 55, 56, 57, 97, 98, 99, 100, 101, 102]⟩ : ByteArray)[((c : Int) / 16).toNat]'(by show _ < 16; omega) = hexD (c / 16) := hexT_at _ _
   have e2 : (⟨#[48, 49, 50, 51, 52, 53, 54, 55, 56, 57, 97, 98, 99, 100, 101, 102]⟩ : ByteArray)[((c : Int) % 16).toNat]'(by show _ < 16; omega) = hexD (c % 16) := hexT_at _ _
   have hlen : (hexS (xs.take k)).length + 2 ≤ 140737488355328 := by rw [hexS_len, List.length_take]; omega
   have hl : (k : Int) < (xs.length : Int) := by omega
   clear hc c0
   go_wp2
   go_region_law (refine step_append_rd rfl (.tmp 11) (.tmp 24) 88 rfl i0 Tryz.underlying88 hi hz0 hz1 hz2 w.heap.size u3 (hexS (xs.take k)) (by simp [Act.eval]) (by first | exact (O.alloc _).drew | exact O.drew.alloc _) ⟨wr.heap.size, 0, none⟩ 2 [hexD (c / 16), hexD (c % 16)] (by simp [Act.eval]) (by exact cells_lit wr [hexD (c / 16), hexD (c % 16)]) (by simpa using hlen) (by have := G.size; simp; omega) ?_; intro v' w' h1 h2)
   all_goals
    rename_i v' w' h1 h2
    have G' : w.grownBy w' none := grown_trans_new G (grown_trans (grown_alloc_drew wr _ _) h2) (fun x hx => (O.lt x hx).1)
    rw [← HJ.out] at h1
    clear h2 G O
    go_wp2
    go_roundw
    case rel => exact ⟨k + 1, by omega, by go_num, h1, G'⟩
    case measure => simp [intOf]; omega
  ·obtain rfl : k = xs.length := by omega
   rw [List.take_length] at O
   have hcv := run_str (P := Tryz.prog) O 88 9 Tryz.underlying88 Tryz.underlying5 Tryz.underlying9
   go_wp2
   go_ret
   exact ⟨rfl, G⟩
def digOk (c : Nat) : Bool := decide ((48 ≤ c ∧ c ≤ 57) ∨ (97 ≤ c ∧ c ≤ 102))
def digV (c : Nat) : Nat := if 48 ≤ c ∧ c ≤ 57 then c - 48 else if 97 ≤ c ∧ c ≤ 102 then c - 87 else 0
theorem digV_lt (c : Nat) : digV c < 16 := by unfold digV; split <;> (try split) <;> omega
theorem dig_dec {c : Nat} (h : 48 ≤ c ∧ c ≤ 57) : digOk c = true ∧ digV c = c - 48 := ⟨decide_eq_true (.inl h), by simp [digV, h]⟩
theorem dig_let {c : Nat} (h : 97 ≤ c ∧ c ≤ 102) : digOk c = true ∧ digV c = c - 87 := ⟨decide_eq_true (.inr h), by unfold digV; rw [if_neg (by omega), if_pos h]⟩
theorem dig_no {c : Nat} (h1 : ¬ (48 ≤ c ∧ c ≤ 57)) (h2 : ¬ (97 ≤ c ∧ c ≤ 102)) : digOk c = false ∧ digV c = 0 := ⟨decide_eq_false (by omega), by unfold digV; rw [if_neg h1, if_neg h2]⟩
theorem ret_digit {a b : Int} {x y : Bool} (h : a = b) (h' : x = y) : Ending.returned (.tuple #[.int .u8 a, .bool x]) = .returned (.tuple #[.int .u8 b, .bool y]) := by rw [h, h']
set_option maxHeartbeats 400000 in
theorem digit_any (c : Nat) (w : World) (hc : c < 256) :
  Calls Tryz.prog 142 #[.int .u8 c] w fun e w' => e = .returned (.tuple #[.int .u8 (digV c), .bool (digOk c)]) ∧ w = w' := by
 by_cases h1 : 48 ≤ c ∧ c ≤ 57
 ·obtain ⟨e1, e2⟩ := dig_dec h1
  rw [e1, e2]
  clear e1 e2
  obtain ⟨h1a, h1b⟩ := h1
  go_enter Tryz.func142, Tryz.ntmps142
  go_wp2
  go_ret2
  exact ⟨ret_digit (by omega) rfl, rfl⟩
 ·by_cases h2 : 97 ≤ c ∧ c ≤ 102
  ·obtain ⟨e1, e2⟩ := dig_let h2
   rw [e1, e2]
   clear e1 e2
   obtain ⟨h2a, h2b⟩ := h2
   have h57 : 57 < c := by omega
   clear h1
   go_enter Tryz.func142, Tryz.ntmps142
   go_wp2
   go_ret2
   exact ⟨ret_digit (by omega) rfl, rfl⟩
  ·obtain ⟨e1, e2⟩ := dig_no h1 h2
   rw [e1, e2]
   clear e1 e2
   go_enter Tryz.func142, Tryz.ntmps142
   go_wp2
   all_goals
    first
     | (exfalso; omega)
     | (go_ret2; exact ⟨rfl, rfl⟩)
def gd (s : ByteArray) (i : Nat) : Nat := (s.data.toList.getD i 0).toNat
theorem gd_eq (s : ByteArray) (i : Nat) (h : i < s.size) : s[i].toNat = gd s i := by
 have h' : i < s.data.toList.length := by simpa using h
 unfold gd
 rw [List.getD_eq_getElem?_getD, List.getElem?_eq_getElem h']
 rfl
theorem gd_lt (s : ByteArray) (i : Nat) : gd s i < 256 := UInt8.toNat_lt _
def okTo (s : ByteArray) : Nat → Bool
 | 0 => true
 | k + 1 => okTo s k && (digOk (gd s (2 * k)) && digOk (gd s (2 * k + 1)))
def decTo (s : ByteArray) : Nat → List UInt8
 | 0 => []
 | k + 1 => decTo s k ++ [UInt8.ofNat (16 * digV (gd s (2 * k)) + digV (gd s (2 * k + 1)))]
theorem decTo_len (s : ByteArray) (k : Nat) : (decTo s k).length = k := by
 induction k with
 | zero => rfl
 | succ k ih => simp [decTo, ih]
theorem okTo_no (s : ByteArray) (k n : Nat) (hk : k < n) (h : (digOk (gd s (2 * k)) && digOk (gd s (2 * k + 1))) = false) : okTo s n = false := by
 induction n with
 | zero => omega
 | succ n ih =>
  by_cases e : k = n
  ·subst e
   simp only [okTo, h, Bool.and_false]
  ·simp only [okTo, ih (by omega), Bool.false_and]
def unOk (s : ByteArray) : Bool := decide (s.size % 2 = 0) && okTo s (s.size / 2)
def unV (s : ByteArray) : List UInt8 := if unOk s = true then decTo s (s.size / 2) else []
theorem un_odd {s : ByteArray} (h : s.size % 2 ≠ 0) : unOk s = false ∧ unV s = [] := by
 have e : unOk s = false := by simp [unOk, h]
 exact ⟨e, by simp [unV, e]⟩
theorem un_bad {s : ByteArray} {k : Nat} (hk : 2 * k < s.size) (he : s.size % 2 = 0) (h : (digOk (gd s (2 * k)) && digOk (gd s (2 * k + 1))) = false) : unOk s = false ∧ unV s = [] := by
 have e : unOk s = false := by simp only [unOk, okTo_no s k (s.size / 2) (by omega) h, Bool.and_false]
 exact ⟨e, by simp [unV, e]⟩
theorem un_good {s : ByteArray} {k : Nat} (hk : 2 * k = s.size) (h : okTo s k = true) : unOk s = true ∧ unV s = decTo s k := by
 have e2 : s.size / 2 = k := by omega
 have e : unOk s = true := by simp only [unOk, e2, h, Bool.and_true, decide_eq_true_eq]; omega
 exact ⟨e, by simp [unV, e, e2]⟩
theorem bytes_join (a b : Nat) (ha : a < 16) (hb : b < 16) : bits .or .u8 ((a : Int) * 16) (b : Int) = ((16 * a + b : Nat) : Int) := by
 rw [show ((a : Int) * 16) = ((a * 16 : Nat) : Int) by omega, u8_or_nat _ _ (by omega) (by omega), nat_join 4 _ _ (by omega) (by omega)]
 omega
set_option maxHeartbeats 1000000 in
theorem unhex_any (s : ByteArray) (w : World) (hs : s.size ≤ 9223372036854775807) (hm : s.size ≤ 281474976710656) :
  Calls Tryz.prog 136 #[.string s] w fun e w' => MadeB w w' e (unV s) (unOk s) := by
 obtain ⟨i0, hi, hz0, hz1, hz2⟩ := info_parts info5
 by_cases hev : s.size % 2 = 0
 case neg =>
  obtain ⟨e1, e2⟩ := un_odd hev
  rw [e1, e2]
  clear e1 e2
  have h1 : (((s.size : Int) % 2) != 0) = true := by rw [bne_iff_ne]; omega
  go_enter Tryz.func136, Tryz.ntmps136
  go_wp2
  go_ret2
  exact ⟨_, rfl, World.ownsRow_nil _ _ _ _, World.grownBy.refl _ _⟩
 case pos =>
  have h1 : (((s.size : Int) % 2) != 0) = false := by simp; omega
  have HE : Hid (s.size % 2 = 0) := hev
  clear hev
  go_enter Tryz.func136, Tryz.ntmps136
  go_wp2_with (at_make; refine wpList_make_own _ rfl (.const (.int .i64 0)) (.tmp 16) 88 rfl w.heap.size 5 i0 (.int .u8 0) 1 Tryz.underlying88 hi hz0 hz1 .i64 .i64 _ (s.size / 2) rfl rfl ?r1 ?r2 ?r3 ?r4 ?r5)
  case r1 => omega
  case r2 => rw [hz2]; omega
  case r3 => unfold maxLen; omega
  case r4 => exact Nat.le_refl _
  case r5 =>
   intro w1 k1 k2
   have O1 : Owns w1 w.heap.size (.slice (some ⟨w.heap.size, 0, none⟩) 0 (s.size / 2)) (decTo s 0) := k1
   clear k1
   go_wp2
   go_loopw [4, 5] (fun v i wr => ∃ m k : Nat, m = 2 * k ∧ m ≤ s.size ∧ i = .int .i64 m ∧ okTo s k = true ∧ Owns wr w.heap.size v (decTo s k) ∧ w.grownBy wr none) (fun _ i _ => s.size - (intOf i).toNat)
   case atStart => exact ⟨0, 0, rfl, Nat.zero_le _, rfl, rfl, O1, k2⟩
   case round =>
    clear O1 k2
    obtain ⟨m, k, hmk, hk, rfl, hok, O, G⟩ := hrel
    have HM : Hid (m = 2 * k) := hmk
    have HO : Hid (okTo s k = true) := hok
    have hk1 : k < 281474976710656 := by omega
    by_cases hlt : m < s.size
    ·have hlt1 : m + 1 < s.size := by have := HE.out; omega
     clear hmk hok
     go_wp2_with fail
     rw [gd_eq s m hlt]
     refine (digit_any (gd s m) _ (gd_lt s m)).mono ?_
     rintro e w2 ⟨rfl, rfl⟩
     go_wp2_with fail
     rw [gd_eq s (m + 1) hlt1]
     refine (digit_any (gd s (m + 1)) _ (gd_lt s (m + 1))).mono ?_
     rintro e w2 ⟨rfl, rfl⟩
     have hv1 := digV_lt (gd s m)
     have hv2 := digV_lt (gd s (m + 1))
     have HJ : Hid (bits .or .u8 ((digV (gd s m) : Int) * 16) (digV (gd s (m + 1)) : Int) = ((16 * digV (gd s m) + digV (gd s (m + 1)) : Nat) : Int)) := bytes_join _ _ hv1 hv2
     cases hd1 : digOk (gd s m) with
     | false =>
      obtain ⟨e1, e2⟩ := un_bad (k := k) (by have := HM.out; omega) HE.out (by rw [← HM.out, hd1, Bool.false_and])
      go_wp2
      go_ret2
      rw [e1, e2]
      exact ⟨_, rfl, World.ownsRow_nil _ _ _ _, G⟩
     | true =>
      cases hd2 : digOk (gd s (m + 1)) with
      | false =>
       obtain ⟨e1, e2⟩ := un_bad (k := k) (by have := HM.out; omega) HE.out (by rw [← HM.out, hd2, Bool.and_false])
       go_wp2
       go_ret2
       rw [e1, e2]
       exact ⟨_, rfl, World.ownsRow_nil _ _ _ _, G⟩
      | true =>
       have HD : Hid (decTo s (k + 1) = decTo s k ++ [UInt8.ofNat (16 * digV (gd s m) + digV (gd s (m + 1)))]) := by
        have e := HM.out
        show decTo s (k + 1) = _
        rw [e]
        rfl
       have HO' : Hid (okTo s (k + 1) = true) := by
        show okTo s (k + 1) = true
        have e := HM.out
        subst e
        simp only [okTo, HO.out, hd1, hd2, Bool.and_self]
       have hj : bits .or .u8 ((digV (gd s m) : Int) * 16) (digV (gd s (m + 1)) : Int) = ((UInt8.ofNat (16 * digV (gd s m) + digV (gd s (m + 1)))).toNat : Int) := by
        rw [HJ.out]
        simp
        omega
       have hl := decTo_len s k
       generalize UInt8.ofNat (16 * digV (gd s m) + digV (gd s (m + 1))) = t at *
       clear HJ hd1 hd2
       generalize digV (gd s m) = a1 at *
       generalize digV (gd s (m + 1)) = a2 at *
       have HL : Hid ((decTo s k).length = k) := hl
       clear hl
       go_wp2_with (at_builtin; refine wpList_append_rd rfl (.tmp 45) (.tmp 50) 88 rfl i0 Tryz.underlying88 hi hz0 hz1 hz2 w.heap.size u4 (decTo s k) rfl ?q1 (some ⟨wr.heap.size, 0, none⟩) 1 [t] rfl (by simp) ?q2 ?q3 ?q4 ?q5)
       case q1 => exact O.alloc _
       case q2 => exact cells_lit wr [t]
       case q3 =>
        have e := HM.out
        rw [HL.out]
        simp
        omega
       case q4 => have := G.size; simp; omega
       case q5 =>
        intro v' w' k1 k2
        have G' : w.grownBy w' none := grown_trans_new G (grown_trans (World.grownBy_alloc wr _ _) k2) (fun x hx => (O.lt x hx).1)
        rw [← HD.out] at k1
        clear k2 G O hj
        go_wp2
        go_roundw
        case rel => exact ⟨m + 2, k + 1, by have := HM.out; omega, by omega, by go_num, HO'.out, k1, G'⟩
        case measure => simp [intOf]; omega
    ·obtain ⟨e1, e2⟩ := un_good (s := s) (k := k) (by omega) hok
     clear hmk hok
     go_wp2
     go_ret2
     rw [e1, e2]
     exact ⟨_, rfl, O, G⟩
def blankB (c : UInt8) : Bool := c == 32 || c == 9 || c == 10 || c == 13
def letB (c : UInt8) : Bool := decide (97 ≤ c.toNat) && decide (c.toNat ≤ 122)
def sixB (c : UInt8) : Bool := digOk c.toNat || c == 58
def quadB (c : UInt8) : Bool := isDig c || c == 46
def wordB (c : UInt8) : Bool := isDig c || letB c
def hexL : Nat → List UInt8 → Option Nat
 | v, [] => some v
 | v, c :: r => if digOk c.toNat = true then (if 4294967295 < 16 * v + digV c.toNat then none else hexL (16 * v + digV c.toNat) r) else none
def numV (s : List UInt8) : Option Nat := if 2 < s.length ∧ s.getD 0 0 = 48 ∧ s.getD 1 0 = 120 then hexL 0 (s.drop 2) else numberV 4294967295 s
def twosL : List (List UInt8) := [[60, 60], [62, 62], [60, 61], [62, 61], [61, 61], [33, 61], [38, 38], [124, 124]]
def onesL : List UInt8 := [40, 41, 91, 93, 58, 43, 45, 42, 47, 37, 38, 124, 94, 60, 62, 61, 33]
def signV (s : List UInt8) : List UInt8 := if s.take 2 ∈ twosL then s.take 2 else if s.head?.all (onesL.contains ·) = true then s.take 1 else []
def tokV (s : List UInt8) : Except Int (Nat × List UInt8 × Nat) :=
 if 2 ≤ (s.takeWhile sixB).count 58 then .ok (4, s.takeWhile sixB, 0)
 else if s.head?.any isDig = true then
  (if 46 ∈ s.takeWhile quadB then .ok (3, s.takeWhile quadB, 0)
  else match numV (s.takeWhile wordB) with
   | none => .error 102
   | some n => .ok (1, s.takeWhile wordB, n))
 else if s.head?.any letB = true then .ok (2, s.takeWhile wordB, 0)
 else if signV s = [] then .error 101 else .ok (5, signV s, 0)
structure Tk where
 kind : Nat
 pos : Nat
 text : List UInt8
 num : Nat
def lexF : Nat → Nat → List UInt8 → Except (Nat × Int) (List Tk)
 | 0, p, _ => .ok [⟨0, p, [], 0⟩]
 | _ + 1, p, [] => .ok [⟨0, p, [], 0⟩]
 | k + 1, p, c :: r =>
  if blankB c = true then lexF k (p + 1) r
  else match tokV (c :: r) with
   | .error e => .error (p, e)
   | .ok (q, t, n) => match lexF k (p + t.length) ((c :: r).drop t.length) with
    | .error e => .error e
    | .ok ts => .ok (⟨q, p, t, n⟩ :: ts)
def lexR (p : Nat) (s : List UInt8) : Except (Nat × Int) (List Tk) := lexF s.length p s
def lexV (s : List UInt8) : Except (Nat × Int) (List Tk) := if 65536 < s.length then .error (0, 100) else lexR 0 s
theorem blank_not {c : UInt8} (h : blankB c = true) : sixB c = false ∧ quadB c = false ∧ wordB c = false ∧ isDig c = false ∧ letB c = false ∧ onesL.contains c = false := by
 unfold blankB at h
 simp only [Bool.or_eq_true, beq_iff_eq] at h
 rcases h with ((rfl | rfl) | rfl) | rfl <;> decide
theorem takeWhile_len {α : Type} (p : α → Bool) : ∀ (l : List α), (l.takeWhile p).length ≤ l.length
 | [] => Nat.le_refl _
 | x :: r => by
  rw [List.takeWhile_cons]
  split
  ·simp only [List.length_cons]
   exact Nat.succ_le_succ (takeWhile_len p r)
  ·simp
theorem takeWhile_pre {α : Type} (p : α → Bool) (l : List α) : l.takeWhile p = l.take (l.takeWhile p).length := by
 induction l with
 | nil => rfl
 | cons x r ih =>
  rw [List.takeWhile_cons]
  split
  ·simp only [List.length_cons, List.take_succ_cons]
   rw [← ih]
  ·simp
theorem takeWhile_twice {α : Type} (p : α → Bool) (l : List α) : (l.takeWhile p).takeWhile p = l.takeWhile p := by
 induction l with
 | nil => rfl
 | cons x r ih =>
  by_cases h : p x = true
  ·rw [List.takeWhile_cons_of_pos h, List.takeWhile_cons_of_pos h, ih]
  ·rw [List.takeWhile_cons_of_neg h]
   rfl
theorem takeWhile_end {α : Type} (p : α → Bool) (t r : List α) (h : r = [] ∨ ∃ b r', r = b :: r' ∧ p b = false) : (t ++ r).takeWhile p = t.takeWhile p := by
 induction t with
 | nil =>
  rcases h with rfl | ⟨b, r', rfl, hb⟩
  ·rfl
  ·rw [List.nil_append, List.takeWhile_cons_of_neg (by rw [hb]; simp)]
   rfl
 | cons x t ih =>
  rw [List.cons_append]
  by_cases hx : p x = true
  ·rw [List.takeWhile_cons_of_pos hx, List.takeWhile_cons_of_pos hx, ih]
  ·rw [List.takeWhile_cons_of_neg hx, List.takeWhile_cons_of_neg hx]
theorem takeWhile_all {α : Type} (p : α → Bool) (l : List α) (h : ∀ x ∈ l, p x = true) : l.takeWhile p = l := by
 induction l with
 | nil => rfl
 | cons x r ih =>
  rw [List.takeWhile_cons_of_pos (h x (List.mem_cons_self ..)), ih (fun y hy => h y (List.mem_cons_of_mem _ hy))]
theorem takeWhile_mem {α : Type} (p : α → Bool) (l : List α) {x : α} (h : x ∈ l.takeWhile p) : p x = true := by
 induction l with
 | nil => simp at h
 | cons y r ih =>
  by_cases hy : p y = true
  ·rw [List.takeWhile_cons_of_pos hy] at h
   rcases List.mem_cons.1 h with rfl | h
   ·exact hy
   ·exact ih h
  ·rw [List.takeWhile_cons_of_neg hy] at h
   simp at h
theorem takeWhile_head {α : Type} (p : α → Bool) (c : α) (r : List α) (h : p c = true) : ∃ t, (c :: r).takeWhile p = c :: t := ⟨_, List.takeWhile_cons_of_pos h⟩

end Go.Proofs.YtghbbephhoniaaaGreatDoor
