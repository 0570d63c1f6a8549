/-
  Nodes of whatever numbers, in memory: twenty-four cells each; SameNodes, CopyNodes. The first bits of some bytes; the document's own Mask, same, Net, In. The document's own answers on codes: Jump, Operation, Load, ByX, Known, Class, Uses.
-/
import Derived.Test.YtdajpnlpcdnckabLotP7
import Derived.Test.YtdajpnlpcdnckabLotP9
import Derived.BigQuiet
import Derived.Deep.RegionHeld
import Derived.Test.YtdajpnlpcdnckabLotP6
import Derived.Test.YtdajpnlpcdnckabLotP2
namespace Go.Proofs.Ytdajpnlpcdnckab
open Go.RowKit
set_option maxRecDepth 100000

/-- A node of whatever numbers. -/
structure Ng where
  kind : Int
  op : Int
  n : Nat
  m : Nat
  size : Int
  of : Int
  side : Int
  addr : List UInt8
  bits : Int
def adg (x : Ng) (i : Nat) : Value := .int .u8 ((x.addr.getD i 0).toNat : Int)
def Ng.cells (x : Ng) : List Value := [.int .i64 x.kind, .int .i64 x.op, .int .u32 (x.n : Int), .int .u32 (x.m : Int), .int .i64 x.size, .int .i64 x.of, .int .i64 x.side,
  adg x 0, adg x 1, adg x 2, adg x 3, adg x 4, adg x 5, adg x 6, adg x 7, adg x 8, adg x 9, adg x 10, adg x 11, adg x 12, adg x 13, adg x 14, adg x 15, .int .i64 x.bits]
theorem Ng.cells_len (x : Ng) : x.cells.length = 24 := rfl

/-- The cells of a list of them. -/
def flatG (xs : List Ng) : List Value := xs.flatMap Ng.cells

theorem flatG_nil : flatG [] = [] := rfl
theorem flatG_cons (x : Ng) (xs : List Ng) : flatG (x :: xs) = x.cells ++ flatG xs := rfl
theorem flatG_append (xs ys : List Ng) : flatG (xs ++ ys) = flatG xs ++ flatG ys := by simp only [flatG, List.flatMap_append]
theorem flatG_one1 (x : Ng) : flatG [x] = x.cells := by rw [flatG_cons, flatG_nil, List.append_nil]

theorem flatG_len (xs : List Ng) : (flatG xs).length = xs.length * 24 := by
  induction xs with
  | nil => rfl
  | cons x xs ih => rw [flatG_cons, List.length_append, ih, List.length_cons, Ng.cells_len]; omega

theorem flatG_get (xs : List Ng) (i j : Nat) (hi : i < xs.length) (hj : j < 24) : (flatG xs)[i * 24 + j]? = (xs[i].cells)[j]? := by
  induction xs generalizing i with
  | nil => simp at hi
  | cons x xs ih =>
    rw [flatG_cons]
    have hl : x.cells.length = 24 := rfl
    cases i with
    | zero => rw [List.getElem?_append_left (by omega)]; simp
    | succ i =>
      rw [List.getElem?_append_right (by omega), hl, show (i + 1) * 24 + j - 24 = i * 24 + j by omega, ih i (by simpa using hi)]
      simp

theorem Ng.cells_one (x : Ng) : ∀ u ∈ x.cells, u.oneCell' = true := by
  intro u hu
  simp only [Ng.cells, adg, List.mem_cons, List.not_mem_nil, or_false] at hu
  rcases hu with rfl | rfl | rfl | rfl | rfl | rfl | rfl | rfl | rfl | rfl | rfl | rfl | rfl | rfl | rfl | rfl | rfl | rfl | rfl | rfl | rfl | rfl | rfl | rfl <;> rfl
theorem flatG_one (xs : List Ng) : ∀ u ∈ flatG xs, u.oneCell' = true := by
  intro u hu
  obtain ⟨x, _, hx⟩ := List.mem_flatMap.1 hu
  exact x.cells_one u hx

theorem CV.ngs {w : World} {ao : Option Addr} {xs : List Ng} (h : CV w ao (flatG xs)) {k : Nat} (hk : k < xs.length) :
    ∃ b off, ao = some ⟨b, off, none⟩ ∧ ∀ i (hi : i < xs.length), w.rangeAt b (off + i * 24) xs[i].cells := by
  have hl := flatG_len xs
  obtain ⟨b, off, hao, hc⟩ := h.addr (k := k * 24) (by omega)
  refine ⟨b, off, hao, fun i hi j v hv => ?_⟩
  have hj : j < 24 := (List.getElem?_eq_some_iff.1 hv).1
  rw [← flatG_get xs i j hi hj] at hv
  rw [Nat.add_assoc, hc (i * 24 + j) (by omega), ← hv, List.getElem?_eq_getElem (by omega)]

/-- An owned row of nodes. -/
abbrev NgOwns (w : World) (base : Nat) (v : Value) (xs : List Ng) : Prop := w.ownsRow base 32 24 v xs.length (flatG xs)
def adgs (x : Ng) : List UInt8 := [x.addr.getD 0 0, x.addr.getD 1 0, x.addr.getD 2 0, x.addr.getD 3 0, x.addr.getD 4 0, x.addr.getD 5 0, x.addr.getD 6 0, x.addr.getD 7 0, x.addr.getD 8 0, x.addr.getD 9 0, x.addr.getD 10 0, x.addr.getD 11 0, x.addr.getD 12 0, x.addr.getD 13 0, x.addr.getD 14 0, x.addr.getD 15 0]
theorem ng_fields : (Try.prog.fieldsOf 32).toList.map (fun f => (f.type, f.offset)) = [(3, 0), (3, 1), (29, 2), (29, 3), (3, 4), (3, 5), (3, 6), (30, 7), (3, 23)] := by kernel_rfl
theorem ng_eq (x : Ng) (w : World) : (Op.equalIn 10000 32 (.agg x.cells.toArray) (.agg x.cells.toArray)).run Try.prog w = .ok true w := by
  obtain ⟨i0, hi, -⟩ := info_parts info5
  rw [show (10000 : Nat) = 9999 + 1 from rfl, run_equalIn_struct w 9999 _ _ _ (by kernel_rfl) (by kernel_rfl)]
  refine eqFields_refl 9999 _ w _ (fun f hf => ?_)
  have hm : (f.type, f.offset) ∈ (Try.prog.fieldsOf 32).toList.map (fun f => (f.type, f.offset)) := List.mem_map_of_mem hf
  rw [ng_fields] at hm
  generalize f.type = ft at *
  generalize f.offset = fo at *
  simp only [List.mem_cons, Prod.mk.injEq, List.not_mem_nil, or_false] at hm
  rcases hm with ⟨rfl, rfl⟩ | ⟨rfl, rfl⟩ | ⟨rfl, rfl⟩ | ⟨rfl, rfl⟩ | ⟨rfl, rfl⟩ | ⟨rfl, rfl⟩ | ⟨rfl, rfl⟩ | ⟨rfl, rfl⟩ | ⟨rfl, rfl⟩
  · exact ⟨.int .i64 x.kind, by kernel_rfl, by rw [run_equalIn_int w 9998 _ _ .i64 _ _ Try.underlying3]; simp⟩
  · exact ⟨.int .i64 x.op, by kernel_rfl, by rw [run_equalIn_int w 9998 _ _ .i64 _ _ Try.underlying3]; simp⟩
  · exact ⟨.int .u32 (x.n : Int), by kernel_rfl, by rw [run_equalIn_int w 9998 _ _ .u32 _ _ Try.underlying29]; simp⟩
  · exact ⟨.int .u32 (x.m : Int), by kernel_rfl, by rw [run_equalIn_int w 9998 _ _ .u32 _ _ Try.underlying29]; simp⟩
  · exact ⟨.int .i64 x.size, by kernel_rfl, by rw [run_equalIn_int w 9998 _ _ .i64 _ _ Try.underlying3]; simp⟩
  · exact ⟨.int .i64 x.of, by kernel_rfl, by rw [run_equalIn_int w 9998 _ _ .i64 _ _ Try.underlying3]; simp⟩
  · exact ⟨.int .i64 x.side, by kernel_rfl, by rw [run_equalIn_int w 9998 _ _ .i64 _ _ Try.underlying3]; simp⟩
  · exact ⟨.agg ((adgs x).map bv).toArray, by kernel_rfl, eq_arr 9997 Try.underlying30 hi Try.underlying5 (by kernel_rfl) (by kernel_rfl) (adgs x) rfl w⟩
  · exact ⟨.int .i64 x.bits, by kernel_rfl, by rw [run_equalIn_int w 9998 _ _ .i64 _ _ Try.underlying3]; simp⟩

set_option maxRecDepth 100000 in
set_option maxHeartbeats 2000000 in
theorem gsame_any (a b : Option Addr) (ca cb : Nat) (xs : List Ng) (w : World) (ha : CV w a (flatG xs)) (hb : CV w b (flatG xs)) (hm : xs.length ≤ 9223372036854775807) :
    Calls Try.prog 14 #[.slice a xs.length ca, .slice b xs.length cb] w fun e w' => e = .returned (.bool true) ∧ ∃ n, w' = w.drewN n := by
  have hne : ((xs.length : Int) != (xs.length : Int)) = false := by simp
  go_enter Try.func14, Try.ntmps14
  go_wp2
  go_loopw [5] (fun i wr => ∃ k : Nat, k ≤ xs.length ∧ i = .int .i64 k ∧ ∃ n, wr = w.drewN n) (fun i _ => xs.length - (intOf i).toNat)
  case atStart => exact ⟨0, Nat.zero_le _, rfl, 0, rfl⟩
  case round =>
    obtain ⟨k, hk, rfl, n, rfl⟩ := hrel
    by_cases hlt : k < xs.length
    · obtain ⟨b1, o1, rfl, -⟩ := ha.ngs hlt
      obtain ⟨b2, o2, rfl, -⟩ := hb.ngs hlt
      have HA : Hid (∀ W, (∃ n, W = w.drewN n) → W.rangeAt b1 (o1 + k * 24) xs[k].cells) := fun W ⟨n, hW⟩ => by
        obtain ⟨b, o, e, h⟩ := (ha.keptNone (hW ▸ grown_drewN w n none)).ngs hlt
        simp only [Option.some.injEq, Addr.mk.injEq] at e
        obtain ⟨rfl, rfl, -⟩ := e
        exact h k hlt
      have HB : Hid (∀ W, (∃ n, W = w.drewN n) → W.rangeAt b2 (o2 + k * 24) xs[k].cells) := fun W ⟨n, hW⟩ => by
        obtain ⟨b, o, e, h⟩ := (hb.keptNone (hW ▸ grown_drewN w n none)).ngs hlt
        simp only [Option.some.injEq, Addr.mk.injEq] at e
        obtain ⟨rfl, rfl, -⟩ := e
        exact h k hlt
      have HEQ := fun W => ng_eq xs[k] W
      have HSZ : xs[k].cells.length = 24 := rfl
      have HS : Hid ((Try.prog.info? 32).map (·.size) = some xs[k].cells.length) := size32
      clear ha hb HSZ
      generalize xs[k].cells = cs at *
      have hl : (k : Int) < (xs.length : Int) := by omega
      have z0 : (0 : Int) ≤ (k : Int) := by omega
      go_upto_region 6 with fail
      refine wp_region_held_drew (S := fun W => ∃ n, W = w.drewN n) (by kernel_rfl) ⟨n + 1, rfl⟩ (fun hHeld => ?_)
      refine wpAnyH_take (i := 0) (v := .slice (some ⟨b1, o1, none⟩) xs.length ca) rfl (by kernel_rfl) (by kernel_rfl) (by kernel_rfl) (fun _ _ _ h => h) (Or.inl ⟨by rfl, fun W hW => ?_⟩) hHeld ?_
      · clear hW
        go_simp
      try simp only [Act.put, List.getElem_toArray, List.getElem_cons_zero, List.setIfInBounds_toArray, List.set_cons_zero, List.set_cons_succ]
      refine wpAnyH_take (i := 1) (v := .int .i64 (k : Int)) rfl (by kernel_rfl) (by kernel_rfl) (by kernel_rfl) (fun _ _ _ h => h) (Or.inl ⟨by rfl, fun W hW => ?_⟩) hHeld ?_
      · clear hW
        go_simp
      try simp only [Act.put, List.getElem_toArray, List.getElem_cons_zero, List.getElem_cons_succ, List.setIfInBounds_toArray, List.set_cons_zero, List.set_cons_succ]
      refine wpAnyH_take (i := 2) (v := .pointer (some ⟨b1, o1 + k * 24, none⟩)) rfl (by kernel_rfl) (by kernel_rfl) (by kernel_rfl) (fun _ _ _ h => h) (Or.inl ⟨by rfl, fun W hW => ?_⟩) hHeld ?_
      · clear hW
        go_simp
      try simp only [Act.put, List.getElem_toArray, List.getElem_cons_zero, List.getElem_cons_succ, List.setIfInBounds_toArray, List.set_cons_zero, List.set_cons_succ]
      refine wpAnyH_take (i := 3) (v := .agg cs.toArray) rfl (by kernel_rfl) (by kernel_rfl) (by kernel_rfl) (fun _ _ _ h => h) (yieldsIf_load_mid (by rfl) _ _ rfl _ _ rfl cs _ (fun W hW => HA.out W hW) Try.underlying32 rfl HS.out) hHeld ?_
      try simp only [Act.put, List.getElem_toArray, List.getElem_cons_zero, List.getElem_cons_succ, List.setIfInBounds_toArray, List.set_cons_zero, List.set_cons_succ]
      refine wpAnyH_take (i := 4) (v := .slice (some ⟨b2, o2, none⟩) xs.length cb) rfl (by kernel_rfl) (by kernel_rfl) (by kernel_rfl) (fun _ _ _ h => h) (Or.inl ⟨by rfl, fun W hW => ?_⟩) hHeld ?_
      · clear hW
        go_simp
      try simp only [Act.put, List.getElem_toArray, List.getElem_cons_zero, List.getElem_cons_succ, List.setIfInBounds_toArray, List.set_cons_zero, List.set_cons_succ]
      refine wpAnyH_take (i := 5) (v := .int .i64 (k : Int)) rfl (by kernel_rfl) (by kernel_rfl) (by kernel_rfl) (fun _ _ _ h => h) (Or.inl ⟨by rfl, fun W hW => ?_⟩) hHeld ?_
      · clear hW
        go_simp
      try simp only [Act.put, List.getElem_toArray, List.getElem_cons_zero, List.getElem_cons_succ, List.setIfInBounds_toArray, List.set_cons_zero, List.set_cons_succ]
      refine wpAnyH_take (i := 6) (v := .pointer (some ⟨b2, o2 + k * 24, none⟩)) rfl (by kernel_rfl) (by kernel_rfl) (by kernel_rfl) (fun _ _ _ h => h) (Or.inl ⟨by rfl, fun W hW => ?_⟩) hHeld ?_
      · clear hW
        go_simp
      try simp only [Act.put, List.getElem_toArray, List.getElem_cons_zero, List.getElem_cons_succ, List.setIfInBounds_toArray, List.set_cons_zero, List.set_cons_succ]
      refine wpAnyH_take (i := 7) (v := .agg cs.toArray) rfl (by kernel_rfl) (by kernel_rfl) (by kernel_rfl) (fun _ _ _ h => h) (yieldsIf_load_mid (by rfl) _ _ rfl _ _ rfl cs _ (fun W hW => HB.out W hW) Try.underlying32 rfl HS.out) hHeld ?_
      try simp only [Act.put, List.getElem_toArray, List.getElem_cons_zero, List.getElem_cons_succ, List.setIfInBounds_toArray, List.set_cons_zero, List.set_cons_succ]
      refine wpAnyH_take (i := 8) (v := .bool false) rfl (by kernel_rfl) (by kernel_rfl) (by kernel_rfl) (fun _ _ _ h => h) (Or.inl ⟨by rfl, fun W hW => ?_⟩) hHeld ?_
      · clear hW
        go_simp
      try simp only [Act.put, List.getElem_toArray, List.getElem_cons_zero, List.getElem_cons_succ, List.setIfInBounds_toArray, List.set_cons_zero, List.set_cons_succ]
      refine wpAnyH_done (by kernel_rfl) ?_ _
      clear HA HB HS HEQ
      go_wp2
      go_roundw
      case rel => exact ⟨k + 1, by omega, by go_num, hHeld⟩
      case measure => simp [intOf]; omega
    · go_wp2
      go_ret
      exact ⟨rfl, n, rfl⟩

set_option maxHeartbeats 1000000 in
theorem gcopy_any (a : Option Addr) (ca : Nat) (xs : List Ng) (w : World) (ha : CV w a (flatG xs)) (hc0 : a = none → ca = 0) (hm : xs.length * 72 ≤ 140737488355328) :
    Calls Try.prog 6 #[.slice a xs.length ca] w fun e w' => ∃ v, e = .returned v ∧ NgOwns w' w.heap.size v xs ∧ w.grownBy w' none := by
  obtain ⟨i0, hi, hz0, hz1, hz2⟩ := info_parts info32
  have H : Hid (CV w a (flatG xs)) := ha
  clear ha
  go_enter Try.func6, Try.ntmps6
  go_wp2_with (at_builtin; refine wpList_append_cv rfl (.tmp 3) (.tmp 4) 22 rfl 32 i0 _ 24 72 Try.underlying22 hi hz0 hz1 hz2 rfl (by decide) w.heap.size _ 0 [] rfl ?q1 a xs.length ca (flatG xs) rfl (flatG_len xs) hc0 ?q2 (flatG_one xs) ?q3 ?q4 ?q5 ?q6)
  case q1 => exact World.ownsRow_made w #[] 0 (Nat.le_refl _) (Nat.zero_le _) rfl
  case q2 => exact H.out.keptNone (World.grownBy_alloc _ _ _)
  case q3 => unfold maxLen; omega
  case q4 => omega
  case q5 => simp
  case q6 =>
    intro v' w' h1 h2
    have G : w.grownBy w' none := grown_trans_new (World.grownBy_alloc w _ _) h2 (by intro x hx; simp [Value.ownBlock] at hx; omega)
    have O : NgOwns w' w.heap.size v' xs := by simpa using h1
    clear h2 h1
    go_wp2
    go_ret
    exact ⟨v', rfl, O, G⟩


/-- A node that was read is one of these. -/
def Nd.g (x : Nd) : Ng := ⟨x.kind, x.op, x.n, x.m, x.size, x.of, x.side, x.addr, x.bits⟩
theorem Nd.g_cells (x : Nd) : x.g.cells = x.cells := rfl
theorem flatG_g (xs : List Nd) : flatG (xs.map Nd.g) = flatN xs := by
  induction xs with
  | nil => rfl
  | cons x xs ih => rw [List.map_cons, flatG_cons, ih, flatN_cons, Nd.g_cells]

end Go.Proofs.Ytdajpnlpcdnckab

namespace Go.Proofs.Ytdajpnlpcdnckab
open Go.RowKit
set_option maxRecDepth 100000

/-- The first n bits of a byte. -/
def topB (n : Nat) (x : UInt8) : UInt8 := if n = 0 then 0 else if n < 8 then UInt8.ofNat (x.toNat / 2 ^ (8 - n) * 2 ^ (8 - n)) else x
def maskV : Nat → List UInt8 → List UInt8
  | _, [] => []
  | n, x :: r => topB n x :: maskV (n - 8) r

theorem mask_len (n : Nat) (xs : List UInt8) : (maskV n xs).length = xs.length := by
  induction xs generalizing n with
  | nil => rfl
  | cons x r ih => rw [maskV, List.length_cons, List.length_cons, ih]
theorem mask_get (n : Nat) (xs : List UInt8) (j : Nat) (h : j < xs.length) : (maskV n xs)[j]'(by rw [mask_len]; exact h) = topB (n - 8 * j) xs[j] := by
  induction xs generalizing n j with
  | nil => simp at h
  | cons x r ih =>
    cases j with
    | zero => rfl
    | succ j =>
      simp only [maskV, List.getElem_cons_succ]
      rw [ih (n - 8) j (by simpa using h)]
      congr 1
      omega

/-- Masked up to a place. -/
def mixV (n : Nat) (xs : List UInt8) (j : Nat) : List UInt8 := (maskV n xs).take j ++ xs.drop j
theorem mix_len (n : Nat) (xs : List UInt8) (j : Nat) (h : j ≤ xs.length) : (mixV n xs j).length = xs.length := by
  unfold mixV
  rw [List.length_append, List.length_take, List.length_drop, mask_len]
  omega
theorem mix_next (n : Nat) (xs : List UInt8) (j : Nat) (h : j < xs.length) : mixV n xs (j + 1) = (mixV n xs j).set j (topB (n - 8 * j) xs[j]) := by
  have hl : (List.take j (maskV n xs)).length = j := by rw [List.length_take, mask_len]; omega
  unfold mixV
  rw [List.set_append_right _ _ (by omega), hl, Nat.sub_self, List.drop_eq_getElem_cons h, List.set_cons_zero, List.take_succ_eq_append_getElem (by rw [mask_len]; exact h), mask_get n xs j h]
  simp
theorem mix_at (n : Nat) (xs : List UInt8) (j : Nat) (h : j < xs.length) : (mixV n xs j)[j]? = some xs[j] := by
  unfold mixV
  rw [List.getElem?_append_right (by rw [List.length_take, mask_len]; omega), List.length_take, mask_len, show j - min j xs.length = 0 by omega, List.getElem?_drop, Nat.add_zero, List.getElem?_eq_getElem h]

theorem set_same {α : Type} (l : List α) (j : Nat) (v : α) (h : l[j]? = some v) : l.set j v = l := by
  apply List.ext_getElem?
  intro i
  rw [List.getElem?_set]
  by_cases e : j = i
  · subst e
    rw [if_pos rfl, h]
    obtain ⟨hlt, -⟩ := List.getElem?_eq_some_iff.1 h
    simp [hlt]
  · rw [if_neg e]

theorem andNot_top : ∀ (x : Fin 256) (m : Fin 7), bits .andNot .u8 ((x.val : Nat) : Int) (((2 ^ (m.val + 1) - 1 : Nat)) : Int) = ((x.val / 2 ^ (m.val + 1) * 2 ^ (m.val + 1) : Nat) : Int) := by decide +kernel

/-- P6.3. -/
def netE (n : Nat) (bits : Int) : Int := if n ≠ 4 ∧ n ≠ 16 then 60 else if bits < 0 ∨ 8 * (n : Int) < bits then 61 else 0
def netV (xs : List UInt8) (bits : Int) : List UInt8 := if netE xs.length bits = 0 then maskV bits.toNat xs else []
/-- P6.4. -/
def inE (xs ys : List UInt8) (bits : Int) : Int := if ys.length ≠ xs.length then 60 else if netE xs.length bits = 0 then (if maskV bits.toNat ys = ys then 0 else 62) else netE xs.length bits
def inV (xs ys : List UInt8) (bits : Int) : Bool := decide (inE xs ys bits = 0) && decide (maskV bits.toNat xs = ys)

theorem netE_ok {n : Nat} {bits : Int} (h : netE n bits = 0) : (n = 4 ∨ n = 16) ∧ 0 ≤ bits ∧ bits ≤ 8 * (n : Int) := by
  unfold netE at h
  split at h
  · simp at h
  · split at h
    · simp at h
    · omega

end Go.Proofs.Ytdajpnlpcdnckab

namespace Go.Proofs.Ytdajpnlpcdnckab
open Go.RowKit
set_option maxRecDepth 100000

def jumpB (c : Int) : Bool := c == 21 || c == 29 || c == 37 || c == 45 || c == 53 || c == 61 || c == 69 || c == 77
def operB (c : Int) : Bool := c == 4 || c == 12 || c == 20 || c == 28 || c == 36 || c == 44 || c == 52 || c == 60 || c == 68 || c == 76 || c == 84 || c == 92 || c == 100 || c == 108 || c == 116 || c == 124 || c == 148 || c == 156 || c == 164 || c == 172
def loadB (c : Int) : Bool := c == 32 || c == 40 || c == 48 || c == 64 || c == 72 || c == 80 || c == 177
def plainB (c : Int) : Bool := (c == 0 || c == 32 || c == 40 || c == 48 || c == 64 || c == 72 || c == 80 || c == 96 || c == 128) || (c == 1 || c == 97 || c == 129 || c == 177 || c == 2 || c == 3 || c == 132 || c == 6 || c == 22 || c == 7 || c == 135 || c == 5)
def knownB (c : Int) : Bool := plainB c || (jumpB c || operB c)

/-- Its bit 8. -/
def bit8 (c : Int) : Bool := bits .and .u16 c 8 != 0
def byxB (c : Int) : Bool := (jumpB c || operB c) && bit8 c

/-- What Class says. -/
def classV (c : Int) : Int := if knownB c = true then c % 8 else -1

theorem and7 (c : Int) (h0 : 0 ≤ c) (h1 : c ≤ 65535) : bits .and .u16 c 7 = c % 8 := by
  obtain ⟨n, rfl⟩ := Int.eq_ofNat_of_zero_le h0
  have h := u16_and_nat n 7 (by omega) (by omega)
  rw [show n &&& 7 = n % 8 from Nat.and_two_pow_sub_one_eq_mod n 3] at h
  rw [show (7 : Int) = ((7 : Nat) : Int) by rfl, h]
  omega

/-- What Uses says, answer by answer. -/
def noKB (c : Int) : Bool := c == 128 || c == 129 || c == 132 || c == 22 || c == 7 || c == 135
def usesK (c : Int) : Bool := knownB c && (!byxB c && !noKB c)
def usesJ (c : Int) : Bool := knownB c && jumpB c
def usesF (c : Int) : Bool := knownB c && (loadB c || c == 60 || c == 156)

theorem cret_three {a b c x y z : Bool} (h1 : a = x) (h2 : b = y) (h3 : c = z) : Ending.returned (.tuple #[.bool a, .bool b, .bool c]) = .returned (.tuple #[.bool x, .bool y, .bool z]) := by rw [h1, h2, h3]

end Go.Proofs.Ytdajpnlpcdnckab
