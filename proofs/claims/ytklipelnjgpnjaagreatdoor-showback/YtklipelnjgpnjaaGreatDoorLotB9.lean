import Derived.Test.YtklipelnjgpnjaaGreatDoorBAb
import Derived.Test.YtklipelnjgpnjaaGreatDoorLotB7
import Derived.Test.YtklipelnjgpnjaaGreatDoorLotB1
import Derived.Test.YtklipelnjgpnjaaGreatDoorLotB8
import Derived.Laws.CopyOwn
import Derived.Test.YtklipelnjgpnjaaGreatDoorLotB5
set_option maxHeartbeats 64000000
set_option maxRecDepth 100000
namespace Go.Proofs.YtklipelnjgpnjaaGreatDoor
open Go.RowKit
def a1H (l : Int) : Nat := min l.toNat 8
def af4 (k : Nat) : Nat := 255 - 255 / 2 ^ k
theorem ai6 : ∀ (x : Fin 256) (k : Fin 9), bits .and .u8 ((x.val : Nat) : Int) ((af4 k.val : Nat) : Int) = (((a0X k.val (UInt8.ofNat x.val)).toNat : Nat) : Int) := by decide +kernel
theorem aE3 (l : Int) (w : World) :
  Calls Tryz.prog 144 #[.int .i64 l] w fun e w' => e = .returned (.int .u8 ((af4 (a1H l) : Nat) : Int)) ∧ w = w' := by
 by_cases h0 : l ≤ 0
 ·have e : a1H l = 0 := by unfold a1H; omega
  rw [e]
  have h1 : ¬ l > 0 := by omega
  have h2 : (if (0 : Int) > l then (0 : Int) else l) = 0 := by split <;> omega
  go_enter Tryz.func144, Tryz.ntmps144
  go_wp2
  go_ret
  first | exact ⟨rfl, rfl⟩ | (refine ⟨?_, rfl⟩; rw [show max l 0 = 0 by omega]; rfl)
 ·by_cases h8 : 8 ≤ l
  ·have e : a1H l = 8 := by unfold a1H; omega
   rw [e]
   have h2 : (if (0 : Int) > l then (0 : Int) else l) = l := by split <;> omega
   have h3 : (if (8 : Int) < l then (8 : Int) else l) = 8 := by split <;> omega
   go_enter Tryz.func144, Tryz.ntmps144
   go_wp2
   go_ret
   first | exact ⟨rfl, rfl⟩ | (refine ⟨?_, rfl⟩; rw [show max l 0 = l by omega, show min l 8 = 8 by omega]; rfl)
  ·have : l = 1 ∨ l = 2 ∨ l = 3 ∨ l = 4 ∨ l = 5 ∨ l = 6 ∨ l = 7 := by omega
   clear h0 h8
   rcases this with rfl | rfl | rfl | rfl | rfl | rfl | rfl
   all_goals
    go_enter Tryz.func144, Tryz.ntmps144
    go_wp2
    go_ret
    exact ⟨rfl, rfl⟩
theorem b0g (k : Nat) (x : UInt8) (h : 8 ≤ k) : a0X k x = a0X 8 x := by
 unfold a0X
 rw [if_neg (by omega), if_neg (by omega), if_neg (by omega), if_neg (by omega)]
theorem b0f (n j : Nat) (x : UInt8) : a0X (a1H ((n : Int) - 8 * (j : Int))) x = a0X (n - 8 * j) x := by
 have e : ((n : Int) - 8 * (j : Int)).toNat = n - 8 * j := by omega
 unfold a1H
 rw [e]
 by_cases h : 8 ≤ n - 8 * j
 ·rw [show min (n - 8 * j) 8 = 8 by omega, ← b0g _ x h]
 ·rw [show min (n - 8 * j) 8 = n - 8 * j by omega]
def a1k (n : Nat) (xs : List UInt8) (j : Nat) : List UInt8 := (a05 n xs).take j ++ List.replicate (xs.length - j) 0
theorem aH7 (n : Nat) (xs : List UInt8) (j : Nat) (h : j < xs.length) : a1k n xs (j + 1) = (a1k n xs j).set j (a0X (n - 8 * j) xs[j]) := by
 have hl : (List.take j (a05 n xs)).length = j := by rw [List.length_take, a25]; omega
 unfold a1k
 rw [List.set_append_right _ _ (by omega), hl, Nat.sub_self, List.take_succ_eq_append_getElem (by rw [a25]; exact h), aE4 n xs j h, show xs.length - j = (xs.length - (j + 1)) + 1 by omega, List.replicate_succ, List.set_cons_zero]
 simp
theorem aH8 (a : Option Addr) (ca : Nat) (xs : List UInt8) (bits : Int) (w : World) (ha : Cells w a xs) (hc0 : a = none → ca = 0) (hx : xs.length ≤ 140737488355328) :
  Calls Tryz.prog 114 #[.slice a xs.length ca, .int .i64 bits] w fun e w' => ∃ v, e = .returned (.tuple #[v, .int .i64 (a1j xs.length bits)]) ∧ q8 w' w.heap.size v (a1N xs bits) ∧ w.grownBy w' none := by
 obtain ⟨i0, hi, hz0, hz1, hz2⟩ := info_parts a1g
 by_cases h4 : xs.length ≠ 4 ∧ xs.length ≠ 16
 ·have e : a1j xs.length bits = 60 := by rw [a1j, if_pos h4]
  have e2 : a1N xs bits = [] := by rw [a1N, if_neg (by rw [e]; decide)]
  rw [e, e2]
  have b1 : ((xs.length : Int) != 4) = true := by rw [bne_iff_ne]; omega
  have b2 : ((xs.length : Int) != 16) = true := by rw [bne_iff_ne]; omega
  clear ha e e2
  go_enter Tryz.func114, Tryz.ntmps114
  go_wp2
  go_ret2
  exact ⟨_, rfl, World.ownsRow_nil _ _ _ _, World.grownBy.refl _ _⟩
 ·have hlen : xs.length = 4 ∨ xs.length = 16 := by omega
  have hb : ((xs.length : Int) != 4) = false ∨ (((xs.length : Int) != 4) = true ∧ ((xs.length : Int) != 16) = false) := by
   rcases hlen with h | h
   ·left; rw [h]; rfl
   ·right; rw [h]; exact ⟨rfl, rfl⟩
  have hl16 : xs.length ≤ 16 := by omega
  by_cases hbad : bits < 0 ∨ 8 * (xs.length : Int) < bits
  ·have e : a1j xs.length bits = 61 := by rw [a1j, if_neg h4, if_pos hbad]
   have e2 : a1N xs bits = [] := by rw [a1N, if_neg (by rw [e]; decide)]
   rw [e, e2]
   have hbb : bits < 0 ∨ (¬ bits < 0 ∧ 8 * (xs.length : Int) < bits) := by omega
   clear ha e e2 h4 hlen hbad
   rcases hb with hb | ⟨hb, hb2⟩
   all_goals
    rcases hbb with hq | ⟨hq, hq2⟩
    all_goals
     go_enter Tryz.func114, Tryz.ntmps114
     go_wp2
     go_ret2
     exact ⟨_, rfl, World.ownsRow_nil _ _ _ _, World.grownBy.refl _ _⟩
  ·have e : a1j xs.length bits = 0 := by rw [a1j, if_neg h4, if_neg hbad]
   have e2 : a1N xs bits = a05 bits.toNat xs := by rw [a1N, if_pos e]
   rw [e, e2]
   have hq : ¬ bits < 0 := by omega
   have hq2 : ¬ 8 * (xs.length : Int) < bits := by omega
   obtain ⟨n, rfl⟩ := Int.eq_ofNat_of_zero_le (show 0 ≤ bits by omega)
   rw [Int.toNat_natCast]
   have H : Hid (Cells w a xs) := ha
   have hn : n ≤ 128 := by omega
   clear ha e e2 h4 hlen hbad
   rcases hb with hb | ⟨hb, hb2⟩
   all_goals
    go_enter Tryz.func114, Tryz.ntmps114
    go_wp2_with (at_make; refine wpList_make_full _ rfl (.tmp 27) (.tmp 27) 115 rfl w.heap.size 5 i0 (.int .u8 0) 1 Tryz.underlying115 hi hz0 hz1 .i64 .i64 (xs.length : Int) (xs.length : Int) xs.length rfl rfl rfl rfl ?q1 ?q2 ?q3 ?q4)
    case q1 => omega
    case q2 => unfold maxLen; omega
    case q4 =>
     intro w2 h2 K2
     rw [toList_madeCells_one] at h2
     have R2 : w2.ownsRow w.heap.size 5 1 (.slice (some ⟨w.heap.size, 0, none⟩) xs.length xs.length) xs.length ((a1k n xs 0).map bv) := by
      have : a1k n xs 0 = List.replicate xs.length 0 := by simp [a1k]
      rw [this]
      simpa [bv] using h2
     clear h2
     obtain ⟨g, hg, hgw⟩ : ∃ g, w.heap.size = g ∧ w.heap.size ≤ g := ⟨_, rfl, Nat.le_refl _⟩
     rw [show (Value.slice (some ⟨w.heap.size, 0, none⟩) xs.length xs.length) = .slice (some ⟨g, 0, none⟩) xs.length xs.length by rw [hg]] at R2
     rw [show (Value.slice (some ⟨w.heap.size, 0, none⟩) xs.length xs.length) = .slice (some ⟨g, 0, none⟩) xs.length xs.length by rw [hg]]
     clear hg
     go_wp2
     go_loopw [31] (fun i wr => ∃ j : Nat, j ≤ xs.length ∧ i = .int .i64 j ∧ wr.ownsRow w.heap.size 5 1 (.slice (some ⟨g, 0, none⟩) xs.length xs.length) xs.length ((a1k n xs j).map bv) ∧ w.grownBy wr none) (fun i _ => xs.length - (intOf i).toNat)
     case atStart => exact ⟨0, Nat.zero_le _, rfl, R2, K2⟩
     case round =>
      clear R2 K2
      obtain ⟨j, hj, rfl, R, G⟩ := hrel
      by_cases hlt : j < xs.length
      ·have hl : (j : Int) < (xs.length : Int) := by omega
       obtain ⟨b, o, rfl, hc⟩ := H.out.addr hlt
       have hcj : wr.cell? ⟨b, o + j, none⟩ = some (.int .u8 (xs[j].toNat : Int)) := G.cell (hc j hlt) (by simp)
       have bl := (P0.ofRow R).1
       have hfr := bl.free j
       obtain ⟨u0, hu0⟩ := bl.cell (i := j) (by omega)
       have hy := xs[j].toNat_lt
       have HB := ai6 ⟨xs[j].toNat, hy⟩ ⟨a1H ((n : Int) - 8 * (j : Int)), by unfold a1H; omega⟩
       rw [b0f] at HB
       simp only [UInt8.ofNat_toNat] at HB
       have R3 := (R.stored j (.int .u8 ((a0X (n - 8 * j) xs[j]).toNat : Int))).1
       rw [show (((a1k n xs j).map bv).set j (.int .u8 ((a0X (n - 8 * j) xs[j]).toNat : Int))) = (a1k n xs (j + 1)).map bv by rw [aH7 n xs j hlt, List.map_set]; rfl] at R3
       have G3 := T2 G ⟨g, j, none⟩ (.int .u8 ((a0X (n - 8 * j) xs[j]).toNat : Int)) (.inr hgw)
       generalize (a0X (n - 8 * j) xs[j]).toNat = t at *
       generalize xs[j].toNat = y at *
       clear hc bl R G
       go_wp2_with (go_at_call 144; refine (aE3 _ _).mono ?_; rintro e w' ⟨rfl, rfl⟩)
       go_roundw
       case rel => exact ⟨j + 1, by omega, by go_num, R3, G3⟩
       case measure => simp [intOf]; omega
      ·obtain rfl : j = xs.length := by omega
       have R4 : q8 wr w.heap.size (.slice (some ⟨g, 0, none⟩) xs.length xs.length) (a05 n xs) := by
        unfold q8
        rw [a25]
        have : a1k n xs xs.length = a05 n xs := by
         unfold a1k
         rw [Nat.sub_self, List.replicate_zero, List.append_nil, List.take_of_length_le (by rw [a25]; exact Nat.le_refl _)]
        rw [this] at R
        exact R
       go_wp2
       go_ret2
       exact ⟨_, rfl, R4, G⟩
theorem aa9 {P : Program} {w : World} {ao : Option Addr} {cap : Nat} {ys : List UInt8} (hc : Cells w ao ys) (src dst : TypeId) (hs : P.underlying src = some (.slice 5)) (he : P.underlying 5 = some (.int .u8)) (hd : P.underlying dst = some .string) :
  (convert src dst (.slice ao ys.length cap)).run P w = .ok (.string ⟨ys.toArray⟩) w := by
 cases ao with
 | none =>
  have e := hc.1 rfl
  subst e
  show (convert src dst (.slice none 0 cap)).run P w = _
  rw [run_convert_bytes_string w src dst 5 none 0 cap hs he hd]
  simp [Conv.bytesToString]
  rfl
 | some ad => exact run_convert_bytes_back w src dst 5 ad cap ys hs he hd (fun j hj => hc.2 ad rfl j hj)
theorem as1 (a b : Option Addr) (ca cb : Nat) (xs ys : List UInt8) (w : World) (ha : Cells w a xs) (hb : Cells w b ys) :
  Calls Tryz.prog 115 #[.slice a xs.length ca, .slice b ys.length cb] w fun e w' => e = .returned (.bool (decide (xs = ys))) ∧ w = w' := by
 have h1 := aa9 (P := Tryz.prog) (cap := ca) ha 115 9 Tryz.underlying115 Tryz.underlying5 Tryz.underlying9
 have h2 := aa9 (P := Tryz.prog) (cap := cb) hb 115 9 Tryz.underlying115 Tryz.underlying5 Tryz.underlying9
 clear ha hb
 obtain ⟨S, hS⟩ : ∃ S : ByteArray, ⟨xs.toArray⟩ = S := ⟨_, rfl⟩
 obtain ⟨T, hT⟩ : ∃ T : ByteArray, ⟨ys.toArray⟩ = T := ⟨_, rfl⟩
 have e : decide (xs = ys) = (S.toList == T.toList) := by
  rw [← hS, ← hT, ByteArray.toList_eq, ByteArray.toList_eq]
  show decide (xs = ys) = (xs == ys)
  by_cases h : xs = ys
  ·subst h; simp
  ·rw [decide_eq_false h, Eq.comm, beq_eq_false_iff_ne]; exact h
 rw [e]
 rw [hS] at h1
 rw [hT] at h2
 clear hS hT e
 go_enter Tryz.func115, Tryz.ntmps115
 go_wp2
 go_ret
 exact ⟨rfl, rfl⟩
theorem a0F (x : Ng) : (m3 x).length = 16 := rfl
theorem a4s (x : Ng) : (o6 x).length = if x.of = 2 then 4 else 16 := by
 unfold o6
 split <;> simp [a0F]
theorem aQ7 {w : World} {b o : Nat} {xs : List UInt8} (h : w.rangeAt b o (xs.map bv)) : Cells w (some ⟨b, o, none⟩) xs := by
 refine ⟨fun e => (by cases e), fun ad had j hj => ?_⟩
 cases had
 rw [Addr.add_lit]
 exact h j _ (by simp [hj])
theorem aQ8 {w : World} {b o n : Nat} {xs : List UInt8} (h : Cells w (some ⟨b, o, none⟩) xs) : Cells w (some ⟨b, o, none⟩) (xs.take n) := by
 refine ⟨fun e => (by cases e), fun ad had j hj => ?_⟩
 rw [List.length_take] at hj
 rw [h.2 ad had j (by omega), List.getElem_take]
theorem a7H (x : Ng) (w : World) : Calls Tryz.prog 112 #[.agg x.cells.toArray] w fun e w' => ∃ B, e = .returned (.slice (some ⟨B, 7, none⟩) (o6 x).length 16) ∧ Cells w' (some ⟨B, 7, none⟩) (o6 x) ∧ w.heap.size ≤ B ∧ w.grownBy w' none := by
 have HBX := D0 x
 have h1 := NB.alloc w x
 have h3 := World.grownBy_alloc w (.cells x.cells.toArray 43) none
 have c5 := h1.of
 have HA : Hid (Cells _ _ (m3 x)) := aQ7 h1.addr
 have HB : Hid (w.heap.size ≤ w.heap.size) := Nat.le_refl _
 obtain ⟨L, hL⟩ : ∃ L, (o6 x).length = L := ⟨_, rfl⟩
 rw [hL]
 have HL : Hid ((o6 x).length = L) := hL
 clear hL
 obtain ⟨X, hX⟩ : ∃ X, x.cells.toArray = X := ⟨_, rfl⟩
 rw [hX] at HBX ⊢
 by_cases q : x.of = 2
 ·have HQ : Hid (o6 x = (m3 x).take 4) := by show o6 x = _; rw [o6, if_pos q]
  have e1 : (x.of == 2) = true := by simpa using q
  have HL2 : Hid (L = 4) := by show L = 4; rw [← HL.out, HQ.out]; rfl
  clear q
  go_enter Tryz.func112, Tryz.ntmps112
  go_upto_region 1 with fail
  rw [← hX] at *
  generalize w.alloc (.cells x.cells.toArray 43) = w1 at *
  obtain ⟨B, hB⟩ : ∃ B, w.heap.size = B := ⟨_, rfl⟩
  have HB2 : Hid (w.heap.size ≤ B) := Nat.le_of_eq hB
  rw [hB] at c5 HA ⊢
  clear HBX hX X h1 HB hB
  go_wp2
  go_ret
  refine ⟨B, ?_, ?_, HB2.out, h3⟩
  ·rw [HL2.out]; rfl
  ·rw [HQ.out]; exact aQ8 HA.out
 ·have HQ : Hid (o6 x = m3 x) := by show o6 x = _; rw [o6, if_neg q]
  have e1 : (x.of == 2) = false := by simpa using q
  have HL2 : Hid (L = 16) := by show L = 16; rw [← HL.out, HQ.out]; rfl
  clear q
  go_enter Tryz.func112, Tryz.ntmps112
  go_upto_region 1 with fail
  rw [← hX] at *
  generalize w.alloc (.cells x.cells.toArray 43) = w1 at *
  obtain ⟨B, hB⟩ : ∃ B, w.heap.size = B := ⟨_, rfl⟩
  have HB2 : Hid (w.heap.size ≤ B) := Nat.le_of_eq hB
  rw [hB] at c5 HA ⊢
  clear HBX hX X h1 HB hB
  go_wp2
  go_ret
  refine ⟨B, ?_, ?_, HB2.out, h3⟩
  ·rw [HL2.out]; rfl
  ·rw [HQ.out]; exact HA.out
def a0B (x : Ng) : List UInt8 := splice ((j0 16)) 0 (o6 x)
theorem ax3 (x : Ng) : (inG x.of 2 3 && inG x.side 0 2 && decide (m3 x = a0B x)) = a1w x := by
 unfold a1w a0B o6
 by_cases h : x.of = 2
 ·rw [if_pos h]
  have e : (x.of == 3) = false := by rw [h]; rfl
  rw [e, Bool.false_or]
  congr 1
  apply decide_eq_decide.2
  constructor
  ·intro h2
   have := congrArg (List.drop 4) h2
   simpa [splice, j0, a0F] using this
  ·intro h2
   have : splice (j0 16) 0 ((m3 x).take 4) = (m3 x).take 4 ++ j0 12 := by simp [splice, j0, a0F]
   rw [this, ← h2, List.take_append_drop]
 ·rw [if_neg h]
  have : splice (j0 16) 0 (m3 x) = m3 x := by simp [splice, j0, a0F]
  rw [this, decide_eq_true rfl, Bool.and_true]
  by_cases h3 : x.of = 3
  ·rw [h3]; simp
  ·have : inG x.of 2 3 = false := by unfold inG; by_cases h4 : (2 : Int) ≤ x.of <;> simp [h4] <;> omega
   rw [this]; rfl
theorem am0 (W : World) : (Instr.alloc 41 true (.tuple #[])).run Tryz.prog W = .ok (.pointer (some ⟨W.heap.size, 0, none⟩)) (W.alloc (.cells ((j0 16).map bv).toArray 41)) := by kernel_rfl
theorem aX4 : (Tryz.prog.info? 5).map (·.size) = some 1 := by kernel_rfl
theorem aX5 (xs : List UInt8) (h : xs.length = 16) : (Tryz.prog.info? 41).map (·.size) = some (xs.map bv).toArray.size := by rw [List.size_toArray, List.length_map, h]; kernel_rfl
theorem a9H (x : Ng) : (a0B x).length = 16 := by
 have := a4s x
 unfold a0B
 simp only [splice, j0]
 rw [List.length_append, List.length_append, List.length_take, List.length_drop, List.length_replicate]
 split at this <;> omega
theorem aL2 (x : Ng) : splice ((j0 16).map bv) 0 ((o6 x).map bv) = (a0B x).map bv := by simp [a0B, splice, j0]
theorem ai1 (x : Ng) (w : World) : (Op.equalIn 10000 41 (.agg ((m3 x).map bv).toArray) (.agg ((a0B x).map bv).toArray)).run Tryz.prog w = .ok (decide (m3 x = a0B x)) w := by
 obtain ⟨i0, hi, -⟩ := info_parts a1g
 exact as0 Tryz.underlying41 hi Tryz.underlying5 (by kernel_rfl) (by kernel_rfl) _ _ (a0F x) (a9H x) w
theorem a2U {P : Program} {ops : Array Oper} {rest : List Oper} {op : Oper} {a : Act} {w : World} {Q : Exit → Act → World → Prop} (hw : Region.wanted op (yielded ops a.tmps) = true) (ty : TypeId) (x : Operand) (ho : op.op = .load ty x)
  (b o : Nat) (hx : a.eval x = .pointer (some ⟨b, o, none⟩)) (cs : List Value) (d : TypeDesc) (hc : w.rangeAt b o cs)
  (hu : P.underlying ty = some d) (hd : d.isRow = true) (hi : (P.info? ty).map (·.size) = some cs.length)
  (h : wpList P ops Q rest (a.put op.dst (.agg cs.toArray)) w) : wpList P ops Q (op :: rest) a w :=
 BigFrame.wpList_want hw fun _ hK => wp_load_mid ty x ho b o hx cs d hc hu hd hi (hK _ _ h)
theorem a9p (x : Ng) (w : World) : Calls Tryz.prog 72 #[.agg x.cells.toArray] w fun e w' => e = .returned (.bool (a1w x)) ∧ w.grownBy w' none := by
 rw [← ax3]
 obtain ⟨E, hE⟩ : ∃ E : Bool, (inG x.of 2 3 && inG x.side 0 2 && decide (m3 x = a0B x)) = E := ⟨_, rfl⟩
 rw [hE]
 have HE : Hid ((inG x.of 2 3 && inG x.side 0 2 && decide (m3 x = a0B x)) = E) := hE
 clear hE
 have HBX := D0 x
 have HAR := am0
 have HZ : Hid ((Tryz.prog.info? 43).map (·.size) = some x.cells.toArray.size) := J3 x
 have HAD : Hid (∀ W : World, Calls Tryz.prog 112 #[.agg x.cells.toArray] W fun e w' => ∃ B, e = .returned (.slice (some ⟨B, 7, none⟩) (o6 x).length 16) ∧ Cells w' (some ⟨B, 7, none⟩) (o6 x) ∧ W.heap.size ≤ B ∧ W.grownBy w' none) := fun W => a7H x W
 have HC1 : Hid (∀ W : World, Calls Tryz.prog 68 #[.agg x.cells.toArray] W fun e w' => e = .returned (.bool (inG x.of 2 3)) ∧ W.grownBy w' none) := fun W => a9q x W
 have HC2 : Hid (∀ W : World, Calls Tryz.prog 113 #[.agg x.cells.toArray] W fun e w' => e = .returned (.bool (inG x.side 0 2)) ∧ W.grownBy w' none) := fun W => a9r x W
 have HEQ := ai1 x
 have HLA : Hid ((o6 x).length ≤ 16 ∧ (o6 x).length = Nat.min (o6 x).length 16) := by
  have := a4s x
  have h : (o6 x).length ≤ 16 := by rw [this]; split <;> omega
  exact ⟨h, (Nat.min_eq_left h).symm⟩
 obtain ⟨X, hX⟩ : ∃ X, x.cells.toArray = X := ⟨_, rfl⟩
 have HXX : Hid (x.cells.toArray = X) := hX
 rw [hX] at HBX HZ HAD HC1 HC2 ⊢
 have V1 := VAt.alloc w 43 X
 have G1 := World.grownBy_alloc w (.cells X 43) none
 go_enter Tryz.func72, Tryz.ntmps72
 go_upto_region 1 with fail
 generalize w.alloc (.cells X 43) = w1 at *
 obtain ⟨B, hB⟩ : ∃ B, w.heap.size = B := ⟨_, rfl⟩
 have HB2 : Hid (w.heap.size ≤ B) := Nat.le_of_eq hB
 rw [hB] at V1 ⊢
 clear HBX hX hB
 have V2 := VAt.alloc w1 41 ((j0 16).map bv).toArray
 have G2 := World.grownBy_alloc w1 (.cells ((j0 16).map bv).toArray 41) none
 go_upto_region 2 with fail
 rw [show #[.int .u8 0, .int .u8 0, .int .u8 0, .int .u8 0, .int .u8 0, .int .u8 0, .int .u8 0, .int .u8 0, .int .u8 0, .int .u8 0, .int .u8 0, .int .u8 0, .int .u8 0, .int .u8 0, .int .u8 0, .int .u8 0] = ((j0 16).map bv).toArray from rfl]
 generalize w1.alloc (.cells ((j0 16).map bv).toArray 41) = w2 at *
 obtain ⟨A, hA⟩ : ∃ A, w1.heap.size = A := ⟨_, rfl⟩
 have HA : Hid (B < A ∧ w.heap.size ≤ A) := by have := V1.lt; have := HB2.out; exact ⟨by omega, by omega⟩
 rw [hA] at V2 ⊢
 have HS0 : Hid (VAt w2.drew B 43 X ∧ VAt w2.drew A 41 ((j0 16).map bv).toArray ∧ w.grownBy w2.drew none) := ⟨(V1.kept G2).kept (f9 w2 1 none), V2.kept (f9 w2 1 none), d3 G1 (d3 G2 (f9 w2 1 none))⟩
 clear hA V1 V2 G1 G2 HAR
 refine wp_region_held_drew (S := fun W => VAt W B 43 X) (by kernel_rfl) HS0.out.1 (fun hHeld => ?_)
 refine wpT (i := 0) (v := .slice (some ⟨A, 0, none⟩) 16 16) rfl (Or.inl ⟨by rfl, fun W hW => ?_⟩) hHeld ?_
 ·clear hW
  go_simp
 try simp only [Act.put, a0, a1, a3, a4, a5]
 refine wpT (i := 1) (v := .agg X) rfl (M8 (by rfl) _ _ rfl B rfl 43 X _ (fun W hW => hW) Tryz.underlying43 rfl HZ.out) hHeld ?_
 try simp only [Act.put, a0, a1, a2, a3, a4, a5]
 refine wpR (rs := [2]) (AllReadyH.cons rfl (fun K hK => ?_) AllReadyH.nil)
 go_simp
 refine (HAD.out _).mono ?_
 rintro e wc ⟨B2, rfl, C2, hB2, K2⟩
 go_wp2_with fail
 have V2 := HS0.out.2.1.kept K2
 have G2 := d3 HS0.out.2.2 K2
 refine hK.out _ _ (hHeld.kept K2) (fun hHeld => ?_)
 clear hK K K2 HS0
 try simp only [Act.put, a0, a1, a2, a3, a4, a5]
 refine wpR (rs := [3]) (AllReadyH.cons rfl (fun K hK => ?_) AllReadyH.nil)
 refine step_copy_splice rfl (.tmp 4) (.tmp 6) 115 115 rfl 5 Tryz.underlying115 aX4 (some ⟨A, 0, none⟩) (some ⟨B2, 7, none⟩) 16 16 (o6 x).length 16 rfl rfl A 0 ((j0 16).map bv) 41 V2 ((o6 x).map bv) (by rw [List.length_map]; exact HLA.out.2) (fun _ => ⟨rfl, _, rfl, ?_⟩) (by rw [List.length_map, List.length_map, b1h]; have := HLA.out.1; omega) (a0H _) A wc (Below.refl _ _) (Nat.le_refl _) ?_
 ·intro j v hv
  obtain ⟨hlt, e⟩ := List.getElem?_eq_some_iff.1 hv
  rw [List.length_map] at hlt
  rw [C2.2 _ rfl j hlt, ← e]
  simp
 intro w3 hc3 hb3
 have V3 : VAt w3 B 43 X := by have := hb3.block B HA.out.1; unfold VAt; rw [this]; exact hHeld
 have P3 : VAt w3 A 41 ((a0B x).map bv).toArray := by have := hc3.out; rw [aL2] at this; exact this
 have G3 : w.grownBy w3 none := ⟨hb3.os.trans G2.os, hb3.tape.trans G2.tape, hb3.output.trans G2.output, Nat.le_trans G2.size hb3.size, fun k hk _ => (hb3.block k (Nat.lt_of_lt_of_le hk HA.out.2)).trans (G2.block k hk (by simp))⟩
 refine hK.out _ _ V3 (fun hHeld => ?_)
 clear hK K hb3 hc3 G2 V2 C2 hB2
 try simp only [Act.put, a0, a1, a2, a3, a4, a5]
 refine wpAnyH_done (by kernel_rfl) ?_ _
 clear hHeld
 have LV := V3
 have HV3 : Hid (VAt w3 B 43 X ∧ VAt w3 A 41 ((a0B x).map bv).toArray) := ⟨V3, P3⟩
 have HZA : Hid ((Tryz.prog.info? 41).map (·.size) = some ((a0B x).map bv).toArray.size) := aX5 _ (a9H x)
 have HZB : Hid ((Tryz.prog.info? 41).map (·.size) = some ((m3 x).map bv).length) := a5r x
 clear V3 P3 HAD HLA
 go_wp2_with (refine wpList_load_row rfl 43 (.tmp 1) rfl B rfl 43 X (0, 0) _ LV Tryz.underlying43 rfl HZ.out ?_)
 refine (HC1.out _).mono ?_
 rintro e w4 ⟨rfl, K4⟩
 have LV := HV3.out.1.kept K4
 have G4 := d3 G3 K4
 cases q1 : inG x.of 2 3 with
 | false =>
  have HQ : Hid (inG x.of 2 3 = false) := q1
  clear q1
  go_wp2
  go_ret
  exact ⟨a08 (by rw [← HE.out, HQ.out]; rfl), G4⟩
 | true =>
  have HQ : Hid (inG x.of 2 3 = true) := q1
  clear q1
  go_wp2_with (refine a5J (by rfl) 43 (.tmp 1) rfl B rfl 43 X (0, 0) _ LV Tryz.underlying43 rfl HZ.out ?_)
  refine (HC2.out _).mono ?_
  rintro e w5 ⟨rfl, K5⟩
  have LV5 := LV.kept K5
  have LA5 := (HV3.out.2.kept K4).kept K5
  have G5 := d3 G4 K5
  have HR : Hid (w5.rangeAt B 7 ((m3 x).map bv)) := by
   have : NB w5 B x := by unfold NB; rw [HXX.out]; exact LV5
   exact this.addr
  clear LV K4 K5
  cases q2 : inG x.side 0 2 with
  | false =>
   have HQ2 : Hid (inG x.side 0 2 = false) := q2
   clear q2
   go_wp2
   go_ret
   exact ⟨a08 (by rw [← HE.out, HQ.out, HQ2.out]; rfl), G5⟩
  | true =>
   have HQ2 : Hid (inG x.side 0 2 = true) := q2
   clear q2
   go_wp2_with (first | refine a5J (by rfl) 41 (.tmp 3) rfl A rfl 41 ((a0B x).map bv).toArray (0, 0) _ LA5 Tryz.underlying41 rfl HZA.out ?_ | refine a2U (by rfl) 41 (.tmp 15) rfl B 7 rfl ((m3 x).map bv) _ HR.out Tryz.underlying41 rfl HZB.out ?_)
   go_ret
   exact ⟨a08 (by rw [← HE.out, HQ.out, HQ2.out]; rfl), G5⟩
theorem aH6 (x : Ng) (b : Int) : a1j (o6 x).length b = if ¬ (0 ≤ b ∧ b ≤ 8 * ((o6 x).length : Int)) then 61 else 0 := by
 have h := a4s x
 have h4 : ¬ ((o6 x).length ≠ 4 ∧ (o6 x).length ≠ 16) := by split at h <;> omega
 rw [a1j, if_neg h4]
 by_cases hb : b < 0 ∨ 8 * ((o6 x).length : Int) < b
 ·rw [if_pos hb, if_pos (by omega)]
 ·rw [if_neg hb, if_neg (by omega)]
theorem am6 (x : Ng) (w : World) (hk : x.kind = 15) : Calls Tryz.prog 74 #[.agg x.cells.toArray] w fun e w' => e = .returned (.int .i64 (o9 x)) ∧ w.grownBy w' none := by
 obtain ⟨E, hE⟩ : ∃ E : Int, o9 x = E := ⟨_, rfl⟩
 rw [hE]
 have HE : Hid ((if ¬ (0 ≤ x.bits ∧ x.bits ≤ 8 * ((o6 x).length : Int)) then 124 else if a05 x.bits.toNat (o6 x) = o6 x then 0 else 125) = E) := by
  have := hE
  rw [o9, if_neg (show ¬ x.kind = 3 by omega), if_neg (show ¬ x.kind = 12 by omega), if_neg (show ¬ x.kind = 13 by omega), if_neg (show ¬ x.kind = 16 by omega), if_pos hk] at this
  exact this
 clear hE hk
 have HBX := D0 x
 have HZ : Hid ((Tryz.prog.info? 43).map (·.size) = some x.cells.toArray.size) := J3 x
 have HAD : Hid (∀ W : World, Calls Tryz.prog 112 #[.agg x.cells.toArray] W fun e w' => ∃ B, e = .returned (.slice (some ⟨B, 7, none⟩) (o6 x).length 16) ∧ Cells w' (some ⟨B, 7, none⟩) (o6 x) ∧ W.heap.size ≤ B ∧ W.grownBy w' none) := fun W => a7H x W
 have HLA : Hid ((o6 x).length ≤ 16) := by
  have := a4s x
  show _ ≤ _
  rw [this]; split <;> omega
 have HNE : Hid _ := aH6 x x.bits
 obtain ⟨X, hX⟩ : ∃ X, x.cells.toArray = X := ⟨_, rfl⟩
 have HXX : Hid (x.cells.toArray = X) := hX
 rw [hX] at HBX HZ HAD ⊢
 have V1 := VAt.alloc w 43 X
 have G1 := World.grownBy_alloc w (.cells X 43) none
 go_enter Tryz.func74, Tryz.ntmps74
 go_upto_region 1 with fail
 generalize w.alloc (.cells X 43) = w1 at *
 generalize w.heap.size = B at V1 ⊢
 clear HBX hX
 go_wp2_with (refine wpList_load_row rfl 43 (.tmp 1) rfl B rfl 43 X (0, 0) _ V1 Tryz.underlying43 rfl HZ.out ?_)
 refine (HAD.out _).mono ?_
 rintro e w2 ⟨B2, rfl, C2, -, K2⟩
 have c8 : w2.cell? ⟨B, 23, none⟩ = some (.int .i64 x.bits) := by
  have : NB w2 B x := by unfold NB; rw [HXX.out]; exact V1.kept K2
  exact this.bits
 have G2 := d3 G1 K2
 have CN := aH8 (some ⟨B2, 7, none⟩) 16 (o6 x) x.bits w2 C2 (by simp) (by have := HLA.out; omega)
 have HC2 : Hid (Cells w2 (some ⟨B2, 7, none⟩) (o6 x)) := C2
 clear V1 G1 K2 HAD C2
 rw [HNE.out] at CN
 by_cases hb : 0 ≤ x.bits ∧ x.bits ≤ 8 * ((o6 x).length : Int)
 ·rw [if_neg (fun h => h hb)] at CN
  have HQ : Hid (0 ≤ x.bits ∧ x.bits ≤ 8 * ((o6 x).length : Int)) := hb
  have hn : a1j (o6 x).length x.bits = 0 := by rw [HNE.out, if_neg (fun h => h hb)]
  have hv : a1N (o6 x) x.bits = a05 x.bits.toNat (o6 x) := by rw [a1N, if_pos hn]
  rw [hv] at CN
  clear hb hv hn HNE
  go_wp2_with fail
  refine CN.mono ?_
  rintro e w3 ⟨v3, rfl, O3, K3⟩
  obtain ⟨a3, k3, rfl, C3, -⟩ := O3.rd
  have CE := as1 a3 (some ⟨B2, 7, none⟩) k3 16 _ _ w3 C3 (HC2.out.keptNone K3)
  have G3 := d3 G2 K3
  rw [a25] at CE
  clear CN K3 O3 C3 G2
  by_cases hm : a05 x.bits.toNat (o6 x) = o6 x
  ·rw [decide_eq_true hm] at CE
   have HM : Hid (a05 x.bits.toNat (o6 x) = o6 x) := hm
   clear hm
   rw [a25]
   go_wp2_with fail
   refine CE.mono ?_
   rintro e w' ⟨rfl, rfl⟩
   go_wp2
   go_ret
   exact ⟨P7 (by rw [← HE.out, if_neg (fun h => h HQ.out), if_pos HM.out]), G3⟩
  ·rw [decide_eq_false hm] at CE
   have HM : Hid (¬ a05 x.bits.toNat (o6 x) = o6 x) := hm
   clear hm
   rw [a25]
   go_wp2_with fail
   refine CE.mono ?_
   rintro e w' ⟨rfl, rfl⟩
   go_wp2
   go_ret
   exact ⟨P7 (by rw [← HE.out, if_neg (fun h => h HQ.out), if_neg HM.out]), G3⟩
 ·rw [if_pos hb] at CN
  have HQ : Hid (¬ (0 ≤ x.bits ∧ x.bits ≤ 8 * ((o6 x).length : Int))) := hb
  clear hb HNE
  go_wp2_with fail
  refine CN.mono ?_
  rintro e w3 ⟨v3, rfl, O3, K3⟩
  have G3 := d3 G2 K3
  clear CN K3 O3 G2
  go_wp2
  go_ret
  exact ⟨P7 (by rw [← HE.out, if_pos HQ.out]), G3⟩
def a3C (k : Nat) : Nat := ([0, 48, 52, 54, 57, 52, 57, 52, 52, 52, 62, 64, 48, 67, 71, 73, 75] : List Nat).getD k 0
def a3h (k : Nat) : Nat := ([0, 49, 49, 55, 58, 49, 61, 49, 49, 49, 63, 65, 49, 68, 72, 72, 76] : List Nat).getD k 0
def a33 (k : Nat) : Nat := ([0, 50, 50, 56, 50, 50, 50, 50, 50, 50, 50, 50, 66, 69, 50, 74, 77] : List Nat).getD k 0
def a2T (k : Nat) : Nat := ([0, 51, 53, 53, 59, 60, 53, 53, 53, 53, 53, 53, 53, 53, 53, 53, 53] : List Nat).getD k 0
def a3E (k : Nat) : Int := ([0, 1, 2, 24, 6, 2, 8, 1, 1, 1, 6, 12, 8, 16, 24, 32, 40] : List Int).getD k 0
def fnV (n : Nat) : Value := .func (.func n) #[] #[]
structure RT where
 g : Nat
 n1 : Nat
 n2 : Nat
 t1 : Nat
 t2 : Nat
 wv : Nat → Value
def a4g (R : RT) (k : Nat) : Value :=
 if k = 3 ∨ k = 5 then .slice (some ⟨R.n1, 0, none⟩) 1 1 else if k = 4 ∨ k = 6 then .slice (some ⟨R.n2, 0, none⟩) 2 2
 else if k = 9 then .slice (some ⟨R.t1, 0, none⟩) 1 1 else if k = 7 ∨ k = 8 then .slice (some ⟨R.t2, 0, none⟩) 2 2 else .slice none 0 0
def D6 (R : RT) (k : Nat) : List Value := [a4g R k, .int .i64 (if k ≤ 5 then 1 else 0), R.wv k, fnV (a3C k), fnV (a3h k), fnV (a33 k), fnV (a2T k)]
structure S2 (R : RT) (w : World) : Prop where
 rows : ∀ k, 1 ≤ k → k ≤ 16 → w.rangeAt R.g (k * 7) (D6 R k)
 n1 : w.cell? ⟨R.n1, 0, none⟩ = some (.int .i64 1)
 n2 : w.cell? ⟨R.n2, 0, none⟩ = some (.int .i64 1) ∧ w.cell? ⟨R.n2, 1, none⟩ = some (.int .i64 1)
 t1 : w.cell? ⟨R.t1, 0, none⟩ = some (.int .i64 0)
 t2 : w.cell? ⟨R.t2, 0, none⟩ = some (.int .i64 0) ∧ w.cell? ⟨R.t2, 1, none⟩ = some (.int .i64 0)
 wgt : ∀ k, 1 ≤ k → k ≤ 16 → k ≠ 14 → k ≠ 15 → ∃ b, R.wv k = .func (.func 106) #[] #[.pointer (some ⟨b, 0, none⟩)] ∧ w.cell? ⟨b, 0, none⟩ = some (.int .i64 (a3E k))
 wg2 : ∀ k, k = 14 ∨ k = 15 → ∃ b c, R.wv k = .func (.func 111) #[] #[.pointer (some ⟨c, 0, none⟩), .pointer (some ⟨b, 0, none⟩)] ∧ w.cell? ⟨b, 0, none⟩ = some (.int .i64 (a3E k)) ∧ w.cell? ⟨c, 0, none⟩ = some (.int .i64 (a3E k + 48))
theorem S2.kept {R : RT} {w w' : World} (h : S2 R w) (K : w.grownBy w' none) : S2 R w' where
 rows := fun k h1 h2 j v hv => K.cell (h.rows k h1 h2 j v hv) (by simp)
 n1 := K.cell h.n1 (by simp)
 n2 := ⟨K.cell h.n2.1 (by simp), K.cell h.n2.2 (by simp)⟩
 t1 := K.cell h.t1 (by simp)
 t2 := ⟨K.cell h.t2.1 (by simp), K.cell h.t2.2 (by simp)⟩
 wgt := fun k h1 h2 h3 h4 => by
  obtain ⟨b, e, c⟩ := h.wgt k h1 h2 h3 h4
  exact ⟨b, e, K.cell c (by simp)⟩
 wg2 := fun k h1 => by
  obtain ⟨b, d, e, c1, c2⟩ := h.wg2 k h1
  exact ⟨b, d, e, K.cell c1 (by simp), K.cell c2 (by simp)⟩
theorem mkf (fn : Fn) (first cap : Array Value) (w : World) : (Instr.makeFunc fn first cap).run Tryz.prog w = .ok (.func fn first cap) w := rfl
theorem a6J (w : World) (t : Nat) (v : Value) : (w.alloc (.cells #[v] t)).cell? ⟨w.heap.size, 0, none⟩ = some v := (VAt.alloc w t #[v]).cell 0
theorem a0D (c : Int) (w : World) : Calls Tryz.prog 47 #[.int .i64 c] w fun e w' => ∃ b, e = .returned (.func (.func 106) #[] #[.pointer (some ⟨b, 0, none⟩)]) ∧ w'.cell? ⟨b, 0, none⟩ = some (.int .i64 c) ∧ w.grownBy w' none := by
 have h1 := a6J w 3 (.int .i64 c)
 have h2 := World.grownBy_alloc w (.cells #[.int .i64 c] 3) none
 have hmf := mkf
 go_enter Tryz.func47, Tryz.ntmps47
 go_upto_region 1 with fail
 generalize w.alloc (.cells #[.int .i64 c] 3) = w1 at *
 generalize w.heap.size = B at *
 go_wp2
 go_ret
 exact ⟨B, rfl, h1, h2⟩
theorem ag6 (c d : Int) (w : World) : Calls Tryz.prog 70 #[.int .i64 c, .int .i64 d] w fun e w' => ∃ b g, e = .returned (.func (.func 111) #[] #[.pointer (some ⟨g, 0, none⟩), .pointer (some ⟨b, 0, none⟩)]) ∧ w'.cell? ⟨b, 0, none⟩ = some (.int .i64 c) ∧ w'.cell? ⟨g, 0, none⟩ = some (.int .i64 d) ∧ w.grownBy w' none := by
 have h1 := a6J w 3 (.int .i64 c)
 have h2 := World.grownBy_alloc w (.cells #[.int .i64 c] 3) none
 have h3 := a6J (w.alloc (.cells #[.int .i64 c] 3)) 3 (.int .i64 d)
 have h4 := World.grownBy_alloc (w.alloc (.cells #[.int .i64 c] 3)) (.cells #[.int .i64 d] 3) none
 have h5 := h4.cell h1 (by simp)
 have h6 := d3 h2 h4
 rw [show (w.alloc (.cells #[.int .i64 c] 3)).heap.size = w.heap.size + 1 by simp] at h3
 have hmf := mkf
 clear h1 h2 h4
 go_enter Tryz.func70, Tryz.ntmps70
 go_upto_region 1 with fail
 generalize (w.alloc (.cells #[.int .i64 c] 3)).alloc (.cells #[.int .i64 d] 3) = w1 at *
 generalize w.heap.size + 1 = G at *
 generalize w.heap.size = B at *
 go_wp2
 go_ret
 exact ⟨B, G, rfl, h5, h3, h6⟩
def a5T (n1 n2 t1 t2 : Nat) (v1 v2 v3 v4 v5 v6 v7 v8 v9 v10 v11 v12 v13 v14 v15 v16 : Value) : List Value := [.slice none 0 0, .int .i64 0, .nilFunc, .nilFunc, .nilFunc, .nilFunc, .nilFunc,
 .slice none 0 0, .int .i64 1, v1, fnV 48, fnV 49, fnV 50, fnV 51,
 .slice none 0 0, .int .i64 1, v2, fnV 52, fnV 49, fnV 50, fnV 53,
 .slice (some ⟨n1, 0, none⟩) 1 1, .int .i64 1, v3, fnV 54, fnV 55, fnV 56, fnV 53,
 .slice (some ⟨n2, 0, none⟩) 2 2, .int .i64 1, v4, fnV 57, fnV 58, fnV 50, fnV 59,
 .slice (some ⟨n1, 0, none⟩) 1 1, .int .i64 1, v5, fnV 52, fnV 49, fnV 50, fnV 60,
 .slice (some ⟨n2, 0, none⟩) 2 2, .int .i64 0, v6, fnV 57, fnV 61, fnV 50, fnV 53,
 .slice (some ⟨t2, 0, none⟩) 2 2, .int .i64 0, v7, fnV 52, fnV 49, fnV 50, fnV 53,
 .slice (some ⟨t2, 0, none⟩) 2 2, .int .i64 0, v8, fnV 52, fnV 49, fnV 50, fnV 53,
 .slice (some ⟨t1, 0, none⟩) 1 1, .int .i64 0, v9, fnV 52, fnV 49, fnV 50, fnV 53,
 .slice none 0 0, .int .i64 0, v10, fnV 62, fnV 63, fnV 50, fnV 53,
 .slice none 0 0, .int .i64 0, v11, fnV 64, fnV 65, fnV 50, fnV 53,
 .slice none 0 0, .int .i64 0, v12, fnV 48, fnV 49, fnV 66, fnV 53,
 .slice none 0 0, .int .i64 0, v13, fnV 67, fnV 68, fnV 69, fnV 53,
 .slice none 0 0, .int .i64 0, v14, fnV 71, fnV 72, fnV 50, fnV 53,
 .slice none 0 0, .int .i64 0, v15, fnV 73, fnV 72, fnV 74, fnV 53,
 .slice none 0 0, .int .i64 0, v16, fnV 75, fnV 76, fnV 77, fnV 53]
theorem aD2 (n1 n2 t1 t2 : Nat) (v1 v2 v3 v4 v5 v6 v7 v8 v9 v10 v11 v12 v13 v14 v15 v16 : Value) (W : World) : (Instr.buildSlice 52 17 #[(1, .agg #[.slice none 0 0, .int .i64 1, v1, fnV 48, fnV 49, fnV 50, fnV 51]), (2, .agg #[.slice none 0 0, .int .i64 1, v2, fnV 52, fnV 49, fnV 50, fnV 53]), (3, .agg #[.slice (some ⟨n1, 0, none⟩) 1 1, .int .i64 1, v3, fnV 54, fnV 55, fnV 56, fnV 53]), (4, .agg #[.slice (some ⟨n2, 0, none⟩) 2 2, .int .i64 1, v4, fnV 57, fnV 58, fnV 50, fnV 59]), (5, .agg #[.slice (some ⟨n1, 0, none⟩) 1 1, .int .i64 1, v5, fnV 52, fnV 49, fnV 50, fnV 60]), (6, .agg #[.slice (some ⟨n2, 0, none⟩) 2 2, .int .i64 0, v6, fnV 57, fnV 61, fnV 50, fnV 53]), (7, .agg #[.slice (some ⟨t2, 0, none⟩) 2 2, .int .i64 0, v7, fnV 52, fnV 49, fnV 50, fnV 53]), (8, .agg #[.slice (some ⟨t2, 0, none⟩) 2 2, .int .i64 0, v8, fnV 52, fnV 49, fnV 50, fnV 53]), (9, .agg #[.slice (some ⟨t1, 0, none⟩) 1 1, .int .i64 0, v9, fnV 52, fnV 49, fnV 50, fnV 53]), (10, .agg #[.slice none 0 0, .int .i64 0, v10, fnV 62, fnV 63, fnV 50, fnV 53]), (11, .agg #[.slice none 0 0, .int .i64 0, v11, fnV 64, fnV 65, fnV 50, fnV 53]), (12, .agg #[.slice none 0 0, .int .i64 0, v12, fnV 48, fnV 49, fnV 66, fnV 53]), (13, .agg #[.slice none 0 0, .int .i64 0, v13, fnV 67, fnV 68, fnV 69, fnV 53]), (14, .agg #[.slice none 0 0, .int .i64 0, v14, fnV 71, fnV 72, fnV 50, fnV 53]), (15, .agg #[.slice none 0 0, .int .i64 0, v15, fnV 73, fnV 72, fnV 74, fnV 53]), (16, .agg #[.slice none 0 0, .int .i64 0, v16, fnV 75, fnV 76, fnV 77, fnV 53])]).run Tryz.prog W = .ok (.slice (some ⟨W.heap.size, 0, none⟩) 17 17) (W.alloc (.cells (a5T n1 n2 t1 t2 v1 v2 v3 v4 v5 v6 v7 v8 v9 v10 v11 v12 v13 v14 v15 v16).toArray 77)) := by kernel_rfl
theorem aT1 (g n1 n2 t1 t2 : Nat) (v1 v2 v3 v4 v5 v6 v7 v8 v9 v10 v11 v12 v13 v14 v15 v16 : Value) (k : Nat) (h1 : 1 ≤ k) (h2 : k ≤ 16) (j : Nat) (hj : j < 7) : (a5T n1 n2 t1 t2 v1 v2 v3 v4 v5 v6 v7 v8 v9 v10 v11 v12 v13 v14 v15 v16)[k * 7 + j]? = (D6 ⟨g, n1, n2, t1, t2, fun k => ([undef, v1, v2, v3, v4, v5, v6, v7, v8, v9, v10, v11, v12, v13, v14, v15, v16] : List Value).getD k undef⟩ k)[j]? := by
 have hk : k = 1 ∨ k = 2 ∨ k = 3 ∨ k = 4 ∨ k = 5 ∨ k = 6 ∨ k = 7 ∨ k = 8 ∨ k = 9 ∨ k = 10 ∨ k = 11 ∨ k = 12 ∨ k = 13 ∨ k = 14 ∨ k = 15 ∨ k = 16 := by omega
 have hjj : j = 0 ∨ j = 1 ∨ j = 2 ∨ j = 3 ∨ j = 4 ∨ j = 5 ∨ j = 6 := by omega
 clear h1 h2 hj
 rcases hk with rfl | rfl | rfl | rfl | rfl | rfl | rfl | rfl | rfl | rfl | rfl | rfl | rfl | rfl | rfl | rfl <;> rcases hjj with rfl | rfl | rfl | rfl | rfl | rfl | rfl <;> rfl
theorem aT0 (w : World) : Calls Tryz.prog 28 #[] w fun e w' => ∃ R : RT, e = .returned (.slice (some ⟨R.g, 0, none⟩) 17 17) ∧ S2 R w' ∧ w.grownBy w' none := by
 obtain ⟨W4, hW4⟩ : ∃ W4, (((w.alloc (.cells #[.int .i64 1] 3)).alloc (.cells #[.int .i64 1, .int .i64 1] 3)).alloc (.cells #[.int .i64 0] 3)).alloc (.cells #[.int .i64 0, .int .i64 0] 3) = W4 := ⟨_, rfl⟩
 have A1 := VAt.alloc w 3 #[.int .i64 1]
 have A2 := VAt.alloc (w.alloc (.cells #[.int .i64 1] 3)) 3 #[.int .i64 1, .int .i64 1]
 have A3 := VAt.alloc ((w.alloc (.cells #[.int .i64 1] 3)).alloc (.cells #[.int .i64 1, .int .i64 1] 3)) 3 #[.int .i64 0]
 have A4 := VAt.alloc (((w.alloc (.cells #[.int .i64 1] 3)).alloc (.cells #[.int .i64 1, .int .i64 1] 3)).alloc (.cells #[.int .i64 0] 3)) 3 #[.int .i64 0, .int .i64 0]
 have K1 := World.grownBy_alloc w (.cells #[.int .i64 1] 3) none
 have K2 := World.grownBy_alloc (w.alloc (.cells #[.int .i64 1] 3)) (.cells #[.int .i64 1, .int .i64 1] 3) none
 have K3 := World.grownBy_alloc ((w.alloc (.cells #[.int .i64 1] 3)).alloc (.cells #[.int .i64 1, .int .i64 1] 3)) (.cells #[.int .i64 0] 3) none
 have K4 := World.grownBy_alloc (((w.alloc (.cells #[.int .i64 1] 3)).alloc (.cells #[.int .i64 1, .int .i64 1] 3)).alloc (.cells #[.int .i64 0] 3)) (.cells #[.int .i64 0, .int .i64 0] 3) none
 have B1 := A1.kept (d3 K2 (d3 K3 K4))
 have B2 := A2.kept (d3 K3 K4)
 have B3 := A3.kept K4
 have G4 := d3 K1 (d3 K2 (d3 K3 K4))
 simp only [World.size_alloc] at B2 B3 A4
 rw [hW4] at B1 B2 B3 A4 G4
 have HN : Hid (W4.cell? ⟨w.heap.size, 0, none⟩ = some (.int .i64 1) ∧ (W4.cell? ⟨w.heap.size + 1, 0, none⟩ = some (.int .i64 1) ∧ W4.cell? ⟨w.heap.size + 1, 1, none⟩ = some (.int .i64 1)) ∧ W4.cell? ⟨w.heap.size + 1 + 1, 0, none⟩ = some (.int .i64 0) ∧ W4.cell? ⟨w.heap.size + 1 + 1 + 1, 0, none⟩ = some (.int .i64 0) ∧ W4.cell? ⟨w.heap.size + 1 + 1 + 1, 1, none⟩ = some (.int .i64 0)) := ⟨B1.cell 0, ⟨B2.cell 0, B2.cell 1⟩, B3.cell 0, A4.cell 0, A4.cell 1⟩
 clear A1 A2 A3 A4 K1 K2 K3 K4 B1 B2 B3
 go_enter Tryz.func28, Tryz.ntmps28
 go_upto_region 4 with fail
 clear hW4
 generalize w.heap.size + 1 + 1 + 1 = t2 at HN ⊢
 generalize w.heap.size + 1 + 1 = t1 at HN ⊢
 generalize w.heap.size + 1 = n2 at HN ⊢
 generalize w.heap.size = n1 at HN ⊢
 have HG : Hid (w.grownBy W4 none) := G4
 clear G4
 have X0 : Hid (W4.grownBy W4 none) := World.grownBy.refl _ _
 go_wp2_with fail
 refine (a0D _ _).mono ?_
 rintro e w1 ⟨b1, rfl, c1, K1⟩
 have C1 : Hid (w1.cell? ⟨b1, 0, none⟩ = _) := c1
 have X1 : Hid (W4.grownBy w1 none) := K1
 clear c1 K1
 go_wp2_with fail
 refine (a0D _ _).mono ?_
 rintro e w2 ⟨b2, rfl, c2, K2⟩
 have C2 : Hid (w2.cell? ⟨b2, 0, none⟩ = _) := c2
 have X2 : Hid (w1.grownBy w2 none) := K2
 clear c2 K2
 go_wp2_with fail
 refine (a0D _ _).mono ?_
 rintro e w3 ⟨b3, rfl, c3, K3⟩
 have C3 : Hid (w3.cell? ⟨b3, 0, none⟩ = _) := c3
 have X3 : Hid (w2.grownBy w3 none) := K3
 clear c3 K3
 go_wp2_with fail
 refine (a0D _ _).mono ?_
 rintro e w4 ⟨b4, rfl, c4, K4⟩
 have C4 : Hid (w4.cell? ⟨b4, 0, none⟩ = _) := c4
 have X4 : Hid (w3.grownBy w4 none) := K4
 clear c4 K4
 go_wp2_with fail
 refine (a0D _ _).mono ?_
 rintro e w5 ⟨b5, rfl, c5, K5⟩
 have C5 : Hid (w5.cell? ⟨b5, 0, none⟩ = _) := c5
 have X5 : Hid (w4.grownBy w5 none) := K5
 clear c5 K5
 go_wp2_with fail
 refine (a0D _ _).mono ?_
 rintro e w6 ⟨b6, rfl, c6, K6⟩
 have C6 : Hid (w6.cell? ⟨b6, 0, none⟩ = _) := c6
 have X6 : Hid (w5.grownBy w6 none) := K6
 clear c6 K6
 go_wp2_with fail
 refine (a0D _ _).mono ?_
 rintro e w7 ⟨b7, rfl, c7, K7⟩
 have C7 : Hid (w7.cell? ⟨b7, 0, none⟩ = _) := c7
 have X7 : Hid (w6.grownBy w7 none) := K7
 clear c7 K7
 go_wp2_with fail
 refine (a0D _ _).mono ?_
 rintro e w8 ⟨b8, rfl, c8, K8⟩
 have C8 : Hid (w8.cell? ⟨b8, 0, none⟩ = _) := c8
 have X8 : Hid (w7.grownBy w8 none) := K8
 clear c8 K8
 go_wp2_with fail
 refine (a0D _ _).mono ?_
 rintro e w9 ⟨b9, rfl, c9, K9⟩
 have C9 : Hid (w9.cell? ⟨b9, 0, none⟩ = _) := c9
 have X9 : Hid (w8.grownBy w9 none) := K9
 clear c9 K9
 go_wp2_with fail
 refine (a0D _ _).mono ?_
 rintro e w10 ⟨b10, rfl, c10, K10⟩
 have C10 : Hid (w10.cell? ⟨b10, 0, none⟩ = _) := c10
 have X10 : Hid (w9.grownBy w10 none) := K10
 clear c10 K10
 go_wp2_with fail
 refine (a0D _ _).mono ?_
 rintro e w11 ⟨b11, rfl, c11, K11⟩
 have C11 : Hid (w11.cell? ⟨b11, 0, none⟩ = _) := c11
 have X11 : Hid (w10.grownBy w11 none) := K11
 clear c11 K11
 go_wp2_with fail
 refine (a0D _ _).mono ?_
 rintro e w12 ⟨b12, rfl, c12, K12⟩
 have C12 : Hid (w12.cell? ⟨b12, 0, none⟩ = _) := c12
 have X12 : Hid (w11.grownBy w12 none) := K12
 clear c12 K12
 go_wp2_with fail
 refine (a0D _ _).mono ?_
 rintro e w13 ⟨b13, rfl, c13, K13⟩
 have C13 : Hid (w13.cell? ⟨b13, 0, none⟩ = _) := c13
 have X13 : Hid (w12.grownBy w13 none) := K13
 clear c13 K13
 go_wp2_with fail
 refine (ag6 _ _ _).mono ?_
 rintro e w14 ⟨b14, g14, rfl, c14, d14, K14⟩
 have C14 : Hid (w14.cell? ⟨b14, 0, none⟩ = _ ∧ w14.cell? ⟨g14, 0, none⟩ = _) := ⟨c14, d14⟩
 have X14 : Hid (w13.grownBy w14 none) := K14
 clear c14 d14 K14
 go_wp2_with fail
 refine (ag6 _ _ _).mono ?_
 rintro e w15 ⟨b15, g15, rfl, c15, d15, K15⟩
 have C15 : Hid (w15.cell? ⟨b15, 0, none⟩ = _ ∧ w15.cell? ⟨g15, 0, none⟩ = _) := ⟨c15, d15⟩
 have X15 : Hid (w14.grownBy w15 none) := K15
 clear c15 d15 K15
 go_wp2_with fail
 refine (a0D _ _).mono ?_
 rintro e w16 ⟨b16, rfl, c16, K16⟩
 have C16 : Hid (w16.cell? ⟨b16, 0, none⟩ = _) := c16
 have X16 : Hid (w15.grownBy w16 none) := K16
 clear c16 K16
 go_wp2_with (refine b1d (by rfl) 52 17 _ rfl _ (by kernel_rfl) (a5T n1 n2 t1 t2 (.func (.func 106) #[] #[.pointer (some ⟨b1, 0, none⟩)]) (.func (.func 106) #[] #[.pointer (some ⟨b2, 0, none⟩)]) (.func (.func 106) #[] #[.pointer (some ⟨b3, 0, none⟩)]) (.func (.func 106) #[] #[.pointer (some ⟨b4, 0, none⟩)]) (.func (.func 106) #[] #[.pointer (some ⟨b5, 0, none⟩)]) (.func (.func 106) #[] #[.pointer (some ⟨b6, 0, none⟩)]) (.func (.func 106) #[] #[.pointer (some ⟨b7, 0, none⟩)]) (.func (.func 106) #[] #[.pointer (some ⟨b8, 0, none⟩)]) (.func (.func 106) #[] #[.pointer (some ⟨b9, 0, none⟩)]) (.func (.func 106) #[] #[.pointer (some ⟨b10, 0, none⟩)]) (.func (.func 106) #[] #[.pointer (some ⟨b11, 0, none⟩)]) (.func (.func 106) #[] #[.pointer (some ⟨b12, 0, none⟩)]) (.func (.func 106) #[] #[.pointer (some ⟨b13, 0, none⟩)]) (.func (.func 111) #[] #[.pointer (some ⟨g14, 0, none⟩), .pointer (some ⟨b14, 0, none⟩)]) (.func (.func 111) #[] #[.pointer (some ⟨g15, 0, none⟩), .pointer (some ⟨b15, 0, none⟩)]) (.func (.func 106) #[] #[.pointer (some ⟨b16, 0, none⟩)])) 77 (aD2 n1 n2 t1 t2 (.func (.func 106) #[] #[.pointer (some ⟨b1, 0, none⟩)]) (.func (.func 106) #[] #[.pointer (some ⟨b2, 0, none⟩)]) (.func (.func 106) #[] #[.pointer (some ⟨b3, 0, none⟩)]) (.func (.func 106) #[] #[.pointer (some ⟨b4, 0, none⟩)]) (.func (.func 106) #[] #[.pointer (some ⟨b5, 0, none⟩)]) (.func (.func 106) #[] #[.pointer (some ⟨b6, 0, none⟩)]) (.func (.func 106) #[] #[.pointer (some ⟨b7, 0, none⟩)]) (.func (.func 106) #[] #[.pointer (some ⟨b8, 0, none⟩)]) (.func (.func 106) #[] #[.pointer (some ⟨b9, 0, none⟩)]) (.func (.func 106) #[] #[.pointer (some ⟨b10, 0, none⟩)]) (.func (.func 106) #[] #[.pointer (some ⟨b11, 0, none⟩)]) (.func (.func 106) #[] #[.pointer (some ⟨b12, 0, none⟩)]) (.func (.func 106) #[] #[.pointer (some ⟨b13, 0, none⟩)]) (.func (.func 111) #[] #[.pointer (some ⟨g14, 0, none⟩), .pointer (some ⟨b14, 0, none⟩)]) (.func (.func 111) #[] #[.pointer (some ⟨g15, 0, none⟩), .pointer (some ⟨b15, 0, none⟩)]) (.func (.func 106) #[] #[.pointer (some ⟨b16, 0, none⟩)])) ?_; intro V wl CL KL)
 have Y16 : w16.grownBy wl none := KL
 have Y15 := d3 X16.out Y16
 have Y14 := d3 X15.out Y15
 have Y13 := d3 X14.out Y14
 have Y12 := d3 X13.out Y13
 have Y11 := d3 X12.out Y12
 have Y10 := d3 X11.out Y11
 have Y9 := d3 X10.out Y10
 have Y8 := d3 X9.out Y9
 have Y7 := d3 X8.out Y8
 have Y6 := d3 X7.out Y7
 have Y5 := d3 X6.out Y6
 have Y4 := d3 X5.out Y5
 have Y3 := d3 X4.out Y4
 have Y2 := d3 X3.out Y3
 have Y1 := d3 X2.out Y2
 have Y0 := d3 X1.out Y1
 have GW := d3 HG.out Y0
 have TT : S2 ⟨V, n1, n2, t1, t2, fun k => ([undef, (.func (.func 106) #[] #[.pointer (some ⟨b1, 0, none⟩)]), (.func (.func 106) #[] #[.pointer (some ⟨b2, 0, none⟩)]), (.func (.func 106) #[] #[.pointer (some ⟨b3, 0, none⟩)]), (.func (.func 106) #[] #[.pointer (some ⟨b4, 0, none⟩)]), (.func (.func 106) #[] #[.pointer (some ⟨b5, 0, none⟩)]), (.func (.func 106) #[] #[.pointer (some ⟨b6, 0, none⟩)]), (.func (.func 106) #[] #[.pointer (some ⟨b7, 0, none⟩)]), (.func (.func 106) #[] #[.pointer (some ⟨b8, 0, none⟩)]), (.func (.func 106) #[] #[.pointer (some ⟨b9, 0, none⟩)]), (.func (.func 106) #[] #[.pointer (some ⟨b10, 0, none⟩)]), (.func (.func 106) #[] #[.pointer (some ⟨b11, 0, none⟩)]), (.func (.func 106) #[] #[.pointer (some ⟨b12, 0, none⟩)]), (.func (.func 106) #[] #[.pointer (some ⟨b13, 0, none⟩)]), (.func (.func 111) #[] #[.pointer (some ⟨g14, 0, none⟩), .pointer (some ⟨b14, 0, none⟩)]), (.func (.func 111) #[] #[.pointer (some ⟨g15, 0, none⟩), .pointer (some ⟨b15, 0, none⟩)]), (.func (.func 106) #[] #[.pointer (some ⟨b16, 0, none⟩)])] : List Value).getD k undef⟩ wl := {
  rows := fun k h1 h2 j v hv => by
   have hj : j < 7 := (List.getElem?_eq_some_iff.1 hv).1
   have e := aT1 V n1 n2 t1 t2 (.func (.func 106) #[] #[.pointer (some ⟨b1, 0, none⟩)]) (.func (.func 106) #[] #[.pointer (some ⟨b2, 0, none⟩)]) (.func (.func 106) #[] #[.pointer (some ⟨b3, 0, none⟩)]) (.func (.func 106) #[] #[.pointer (some ⟨b4, 0, none⟩)]) (.func (.func 106) #[] #[.pointer (some ⟨b5, 0, none⟩)]) (.func (.func 106) #[] #[.pointer (some ⟨b6, 0, none⟩)]) (.func (.func 106) #[] #[.pointer (some ⟨b7, 0, none⟩)]) (.func (.func 106) #[] #[.pointer (some ⟨b8, 0, none⟩)]) (.func (.func 106) #[] #[.pointer (some ⟨b9, 0, none⟩)]) (.func (.func 106) #[] #[.pointer (some ⟨b10, 0, none⟩)]) (.func (.func 106) #[] #[.pointer (some ⟨b11, 0, none⟩)]) (.func (.func 106) #[] #[.pointer (some ⟨b12, 0, none⟩)]) (.func (.func 106) #[] #[.pointer (some ⟨b13, 0, none⟩)]) (.func (.func 111) #[] #[.pointer (some ⟨g14, 0, none⟩), .pointer (some ⟨b14, 0, none⟩)]) (.func (.func 111) #[] #[.pointer (some ⟨g15, 0, none⟩), .pointer (some ⟨b15, 0, none⟩)]) (.func (.func 106) #[] #[.pointer (some ⟨b16, 0, none⟩)]) k h1 h2 j hj
   rw [hv] at e
   obtain ⟨hlt, e2⟩ := List.getElem?_eq_some_iff.1 e
   have := CL.2 _ rfl (k * 7 + j) hlt
   rw [Addr.add_lit, Nat.zero_add] at this
   rw [this, e2]
  n1 := Y0.cell HN.out.1 (by simp)
  n2 := ⟨Y0.cell HN.out.2.1.1 (by simp), Y0.cell HN.out.2.1.2 (by simp)⟩
  t1 := Y0.cell HN.out.2.2.1 (by simp)
  t2 := ⟨Y0.cell HN.out.2.2.2.1 (by simp), Y0.cell HN.out.2.2.2.2 (by simp)⟩
  wgt := fun k h1 h2 h3 h4 => by
   have : k = 1 ∨ k = 2 ∨ k = 3 ∨ k = 4 ∨ k = 5 ∨ k = 6 ∨ k = 7 ∨ k = 8 ∨ k = 9 ∨ k = 10 ∨ k = 11 ∨ k = 12 ∨ k = 13 ∨ k = 16 := by omega
   rcases this with rfl | rfl | rfl | rfl | rfl | rfl | rfl | rfl | rfl | rfl | rfl | rfl | rfl | rfl
   ·exact ⟨b1, rfl, Y1.cell C1.out (by simp)⟩
   ·exact ⟨b2, rfl, Y2.cell C2.out (by simp)⟩
   ·exact ⟨b3, rfl, Y3.cell C3.out (by simp)⟩
   ·exact ⟨b4, rfl, Y4.cell C4.out (by simp)⟩
   ·exact ⟨b5, rfl, Y5.cell C5.out (by simp)⟩
   ·exact ⟨b6, rfl, Y6.cell C6.out (by simp)⟩
   ·exact ⟨b7, rfl, Y7.cell C7.out (by simp)⟩
   ·exact ⟨b8, rfl, Y8.cell C8.out (by simp)⟩
   ·exact ⟨b9, rfl, Y9.cell C9.out (by simp)⟩
   ·exact ⟨b10, rfl, Y10.cell C10.out (by simp)⟩
   ·exact ⟨b11, rfl, Y11.cell C11.out (by simp)⟩
   ·exact ⟨b12, rfl, Y12.cell C12.out (by simp)⟩
   ·exact ⟨b13, rfl, Y13.cell C13.out (by simp)⟩
   ·exact ⟨b16, rfl, Y16.cell C16.out (by simp)⟩
  wg2 := fun k h => by
   rcases h with rfl | rfl
   ·exact ⟨b14, g14, rfl, Y14.cell C14.out.1 (by simp), Y14.cell C14.out.2 (by simp)⟩
   ·exact ⟨b15, g15, rfl, Y15.cell C15.out.1 (by simp), Y15.cell C15.out.2 (by simp)⟩ }
 clear C1 X1 Y1 C2 X2 Y2 C3 X3 Y3 C4 X4 Y4 C5 X5 Y5 C6 X6 Y6 C7 X7 Y7 C8 X8 Y8 C9 X9 Y9 C10 X10 Y10 C11 X11 Y11 C12 X12 Y12 C13 X13 Y13 C14 X14 Y14 C15 X15 Y15 C16 X16 Y16 CL KL
 go_wp2
 go_ret
 exact ⟨_, rfl, TT, GW⟩
theorem a1z {k : Nat} (h1 : 1 ≤ k) (h2 : k ≤ 16) : k = 1 ∨ k = 2 ∨ k = 3 ∨ k = 4 ∨ k = 5 ∨ k = 6 ∨ k = 7 ∨ k = 8 ∨ k = 9 ∨ k = 10 ∨ k = 11 ∨ k = 12 ∨ k = 13 ∨ k = 14 ∨ k = 15 ∨ k = 16 := by omega

end Go.Proofs.YtklipelnjgpnjaaGreatDoor
