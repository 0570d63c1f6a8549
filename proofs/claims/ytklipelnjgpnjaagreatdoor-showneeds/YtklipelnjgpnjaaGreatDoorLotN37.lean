import Derived.Test.YtklipelnjgpnjaaGreatDoorLotN36
import Derived.Deep.DeepCutAuto
import Derived.Test.YtklipelnjgpnjaaGreatDoorLotN12
import Derived.Test.YtklipelnjgpnjaaGreatDoorLotN2
import Derived.Test.YtklipelnjgpnjaaGreatDoorLotN8
import Derived.Test.YtklipelnjgpnjaaGreatDoorLotN3
import Derived.Test.YtklipelnjgpnjaaGreatDoorLotN16
import Derived.Test.YtklipelnjgpnjaaGreatDoorLotN5
import Derived.Test.YtklipelnjgpnjaaGreatDoorLotN4
import Derived.Deep.RegionHeld3
set_option maxHeartbeats 64000000
set_option maxRecDepth 100000
namespace Go.Proofs.YtklipelnjgpnjaaGreatDoor
open Go.RowKit
theorem ap1 (s : List UInt8) (p : UInt8 → Bool) : s = s.takeWhile p ++ s.drop (s.takeWhile p).length := by
 have h := a3O p s
 generalize (s.takeWhile p).length = n at h
 rw [h, List.take_append_drop]
theorem ap0 (s : List UInt8) (p : UInt8 → Bool) (c : UInt8) (r : List UInt8) (h : s.drop (s.takeWhile p).length = c :: r) : p c = false := by
 induction s with
 | nil => simp at h
 | cons a s ih =>
  by_cases ha : p a = true
  ·rw [List.takeWhile_cons_of_pos ha] at h
   exact ih (by simpa using h)
  ·rw [List.takeWhile_cons_of_neg ha] at h
   simp at h
   rw [← h.1]
   simpa using ha
theorem aA0 (s : ByteArray) (hs : s.size ≤ 140737488355328) (w : World) (T : Tab w) :
  Calls Tryz.prog 31 #[.string s] w fun e w' => ∃ v, e = .returned (.tuple #[v, .int .i64 (a63 (O0 (sl s)) : Int), .int .i64 (a61 (O0 (sl s)))]) ∧ V8 w' w.heap.size v (a8N (O0 (sl s))) ∧ w.grownBy w' none := by
 by_cases hl : 65536 < s.size
 ·have e0 : O0 (sl s) = .error (0, 100) := by rw [O0, if_pos (by rw [m8]; exact hl)]
  rw [e0]
  have hl' : (65536 : Int) < (s.size : Int) := by omega
  clear e0 T
  go_enter Tryz.func31, Tryz.ntmps31
  go_wp2
  go_ret3
  exact ⟨_, rfl, World.ownsRow_nil _ _ _ _, World.grownBy.refl _ _⟩
 have e0 : O0 (sl s) = J6 0 (sl s) := by rw [O0, if_neg (by rw [m8]; exact hl)]
 have hl' : ¬ (65536 : Int) < (s.size : Int) := by omega
 have hl2 : s.size ≤ 65536 := by omega
 obtain ⟨ans, hans⟩ : ∃ ans, O0 (sl s) = ans := ⟨_, rfl⟩
 have HA : Hid (J6 0 (sl s) = ans) := by show J6 0 (sl s) = ans; rw [← e0]; exact hans
 rw [hans]
 have HT : Hid (Tab w) := T
 clear e0 hans hl T
 obtain ⟨i0, hi, hz0, hz1, hz2⟩ := info_parts av1
 go_enter Tryz.func31, Tryz.ntmps31
 go_upto_region 5 with fail
 go_loopw [5, 6] (fun u x wr => ∃ (j : Nat) (us : List Tk), j ≤ s.size ∧ us.length ≤ j ∧ x = .int .i64 j ∧ Hid (a27 us (J6 j ((sl s).drop j)) = ans) ∧ V8 wr w.heap.size u us ∧ w.grownBy wr none) (fun _ x _ => s.size - (intOf x).toNat)
 case atStart => exact ⟨0, [], Nat.zero_le _, Nat.zero_le _, rfl, by show a27 [] (J6 0 ((sl s).drop 0)) = ans; rw [List.drop_zero, HA.out]; cases ans <;> rfl, World.ownsRow_nil _ _ _ _, World.grownBy.refl _ _⟩
 case round =>
  clear HA
  obtain ⟨j, us, hj, hu, rfl, HI, OU, G⟩ := hrel
  have z0 : (0 : Int) ≤ (j : Int) := by omega
  have hji : (j : Int) ≤ (s.size : Int) := by omega
  have hex : ∀ k, sl (s.extract k s.size) = (sl s).drop k := fun k => by
   rw [a1l]
   exact List.take_of_length_le (by rw [List.length_drop, m8]; exact Nat.le_refl _)
  have hxs : ∀ k, (s.extract k s.size).size ≤ 140737488355328 := fun k => by rw [← m8, hex, List.length_drop, m8]; omega
  have CB := aQ5 (s.extract j s.size) (hxs j) wr
  rw [hex j] at CB
  have hsplit := ap1 ((sl s).drop j) I3
  have hnot := ap0 ((sl s).drop j) I3
  have hbl : (((sl s).drop j).takeWhile I3).length ≤ s.size - j := by
   have := a2C I3 ((sl s).drop j)
   rw [List.length_drop, m8] at this
   exact this
  have hskip := az8 j (((sl s).drop j).takeWhile I3) (((sl s).drop j).drop (((sl s).drop j).takeWhile I3).length) (fun b hb => a2D I3 _ hb)
  rw [← hsplit, List.drop_drop] at hskip
  simp only [List.drop_drop] at hnot
  clear hsplit
  obtain ⟨B, hB⟩ : ∃ B, ((sl s).drop j).takeWhile I3 = B := ⟨_, rfl⟩
  rw [hB] at CB hbl hskip hnot
  have hBs : ((⟨B.toArray⟩ : ByteArray).size : Int) = (B.length : Int) := by rw [← m8, a1U]
  obtain ⟨k, hk⟩ : ∃ k, j + B.length = k := ⟨_, rfl⟩
  have hw : IntKind.i64.wrap ((j : Int) + (B.length : Int)) = (k : Int) := by rw [IntKind.wrap_i64]; omega
  rw [hk] at hskip hnot
  have HI2 : Hid (a27 us (J6 k ((sl s).drop k)) = ans) := by show a27 us _ = ans; rw [← hskip]; exact HI.out
  have hks : k ≤ s.size := by omega
  have hku : us.length ≤ k := by omega
  have hjk : j ≤ k := by omega
  have HNB : Hid (∀ c r, (sl s).drop k = c :: r → I3 c = false) := hnot
  have z1 : (0 : Int) ≤ (k : Int) := by omega
  have hksi : (k : Int) ≤ (s.size : Int) := by omega
  clear HI hskip hnot hB hbl hk hu hj
  by_cases hlt : k < s.size
  ·have hne : ((k : Int) == (s.size : Int)) = false := by rw [beq_eq_false_iff_ne]; omega
   have HD : Hid ((sl s).drop k = s[k] :: (sl s).drop (k + 1)) := a0c s k hlt
   have hb : I3 s[k] = false := HNB.out _ _ HD.out
   have hpos : 0 < (s.extract k s.size).size := by rw [← m8, hex, List.length_drop, m8]; omega
   have CT := aF1 (s.extract k s.size) (hxs k) hpos wr (HT.out.grown G)
   rw [hex k] at CT
   clear hpos hxs hex HNB
   cases ht : o6 ((sl s).drop k) with
   | error er =>
    rw [ht] at CT
    simp only [a2E, a2F, tkA] at CT
    have hz := ac1 ht
    have hans : ans = .error (k, er) := by
     rw [← HI2.out, HD.out, a3B k hb (by rw [← HD.out]; exact ht)]
     rfl
    subst hans
    have HG : Hid (w.grownBy wr none) := G
    clear HI2 HD OU G ht
    go_wp2_with fail
    refine CB.mono ?_
    rintro e w1 ⟨rfl, rfl⟩
    clear CB
    go_wp2_with fail
    refine CT.mono ?_
    rintro e w1 ⟨rfl, K1⟩
    have G1 := d3 HG.out K1
    clear CT K1
    go_wp2
    go_ret3
    exact ⟨_, rfl, World.ownsRow_nil _ _ _ _, d3 G1 (World.grownBy_alloc _ _ _)⟩
   | ok y =>
    obtain ⟨q, t, n⟩ := y
    rw [ht] at CT
    simp only [a2E, a2F, tkA] at CT
    have hok := a0l ht
    have htl : 1 ≤ t.length := List.length_pos_iff.2 hok.1
    have htl2 : k + t.length ≤ s.size := by
     have := hok.2.2.1
     rw [List.length_drop, m8] at this
     omega
    have HN : Hid (a27 (us ++ [⟨q, k, t, n⟩]) (J6 (k + t.length) ((sl s).drop (k + t.length))) = ans) := by
     show a27 _ _ = ans
     have e1 := a3D k hb (by rw [← HD.out]; exact ht)
     rw [← HD.out, List.drop_drop] at e1
     rw [← HI2.out, e1]
     cases J6 (k + t.length) ((sl s).drop (k + t.length)) with
     | error e => rfl
     | ok ts => simp [a27]
    have HG : Hid (w.grownBy wr none) := G
    have HOU : Hid (V8 wr w.heap.size u5 us) := OU
    clear HI2 HD OU G ht hok
    go_wp2_with fail
    refine CB.mono ?_
    rintro e w1 ⟨rfl, rfl⟩
    clear CB
    go_wp2_with fail
    refine CT.mono ?_
    rintro e w2 ⟨rfl, K2⟩
    clear CT
    go_upto_region 12 with fail
    have VA := VAt.alloc w2 99 #[.int .i64 (q : Int), .int .i64 (k : Int), str t, .int .u32 (n : Int)]
    have K3 := d3 K2 (World.grownBy_alloc w2 (.cells #[.int .i64 (q : Int), .int .i64 (k : Int), str t, .int .u32 (n : Int)] 99) none)
    have HV : Hid (∀ y, u5.ownBlock = some y → y < w2.heap.size) := fun y hy => by
     have := (World.ownsRow.lt HOU.out y hy).2
     have := K2.size
     omega
    have O3 : V8 (w2.alloc (.cells #[.int .i64 (q : Int), .int .i64 (k : Int), str t, .int .u32 (n : Int)] 99)) w.heap.size u5 us := x9 HOU.out K3
    have G3 := d3 HG.out K3
    have HVL : Hid (w.heap.size ≤ w2.heap.size) := (d3 HG.out K2).size
    generalize w2.alloc (.cells #[.int .i64 (q : Int), .int .i64 (k : Int), str t, .int .u32 (n : Int)] 99) = w3 at *
    generalize w2.heap.size = V at *
    have HSZ : Hid ((Tryz.prog.info? 99).map (·.size) = some (#[.int .i64 (q : Int), .int .i64 (k : Int), str t, .int .u32 (n : Int)] : Array Value).size) := I9
    clear K2 K3 HOU HG
    have KA := World.grownBy_alloc w3 (.cells #[.int .i64 (q : Int), .int .i64 (k : Int), str t, .int .u32 (n : Int)] 99) none
    have HO4 : Hid (V8 (w3.alloc (.cells #[.int .i64 (q : Int), .int .i64 (k : Int), str t, .int .u32 (n : Int)] 99)) w.heap.size u5 us ∧ VAt (w3.alloc (.cells #[.int .i64 (q : Int), .int .i64 (k : Int), str t, .int .u32 (n : Int)] 99)) V 99 #[.int .i64 (q : Int), .int .i64 (k : Int), str t, .int .u32 (n : Int)] ∧ w.grownBy (w3.alloc (.cells #[.int .i64 (q : Int), .int .i64 (k : Int), str t, .int .u32 (n : Int)] 99)) none) := ⟨x9 O3 KA, VA.kept KA, d3 G3 KA⟩
    have HCB : Hid (CV (w3.alloc (.cells #[.int .i64 (q : Int), .int .i64 (k : Int), str t, .int .u32 (n : Int)] 99)) (some ⟨w3.heap.size, 0, none⟩) [.int .i64 (q : Int), .int .i64 (k : Int), str t, .int .u32 (n : Int)]) := o4 w3 _ _
    clear O3 G3 KA
    go_wp2_with (first
     | refine wpList_load_row rfl 99 (.tmp 7) rfl V rfl 99 _ (0, 0) _ VA Tryz.underlying99 rfl HSZ.out ?_
     | (at_builtin; refine a0R rfl (.tmp 41) (.tmp 43) 61 rfl 99 i0 _ 4 40 Tryz.underlying61 hi hz0 hz1 hz2 rfl (by decide) w.heap.size u5 us.length (a08 us) rfl ?r1 (some ⟨w3.heap.size, 0, none⟩) 1 1 [.int .i64 (q : Int), .int .i64 (k : Int), str t, .int .u32 (n : Int)] rfl rfl (by simp) ?r2 (by simp [Value.oneCell']) ?r3 ?r4 ?r5 ?r6))
    case r1 => exact HO4.out.1
    case r2 => exact HCB.out
    case r3 => unfold maxLen; omega
    case r4 => omega
    case r5 => exact HO4.out.2.2.size
    case r6 =>
     intro v5 w5 O5 K5
     have V5 := HO4.out.2.1.grown K5 (fun e => by have := HV.out V e; omega)
     have G5 := V0 HO4.out.2.2 K5 (fun x hx => (World.ownsRow.lt HO4.out.1 x hx).1)
     have HO5 : Hid (V8 w5 w.heap.size v5 (us ++ [⟨q, k, t, n⟩]) ∧ w.grownBy w5 none) := ⟨by
      show w5.ownsRow w.heap.size 99 4 v5 (us ++ [(⟨q, k, t, n⟩ : Tk)]).length (a08 (us ++ [(⟨q, k, t, n⟩ : Tk)]))
      rw [List.length_append, a8a]
      exact O5, G5⟩
     have c2 : w5.cell? ⟨V, 2, none⟩ = some (str t) := V5.cell 2
     have hw2 : IntKind.i64.wrap ((k : Int) + (t.length : Int)) = ((k + t.length : Nat) : Int) := by rw [IntKind.wrap_i64]; omega
     have hts : ((⟨t.toArray⟩ : ByteArray).size : Int) = (t.length : Int) := by rw [← m8, a1U]
     clear VA HO4 HCB O5 K5 V5 G5
     go_wp2
     go_roundw
     case rel => exact ⟨k + t.length, us ++ [⟨q, k, t, n⟩], htl2, by rw [List.length_append, List.length_singleton]; omega, by go_num, HN, HO5.out.1, HO5.out.2⟩
     case measure => simp [intOf]; omega
  ·obtain rfl : k = s.size := by omega
   have hne : ((s.size : Int) == (s.size : Int)) = true := by simp
   have hans : ans = .ok (us ++ [⟨0, s.size, [], 0⟩]) := by
    rw [← HI2.out, List.drop_eq_nil_of_le (by rw [m8]; exact Nat.le_refl _), a3C]
    rfl
   subst hans
   have KA := World.grownBy_alloc wr (.cells #[.int .i64 0, .int .i64 (s.size : Int), str [], .int .u32 0] 99) none
   have HO4 : Hid (V8 (wr.alloc (.cells #[.int .i64 0, .int .i64 (s.size : Int), str [], .int .u32 0] 99)) w.heap.size u5 us ∧ w.grownBy (wr.alloc (.cells #[.int .i64 0, .int .i64 (s.size : Int), str [], .int .u32 0] 99)) none) := ⟨x9 OU KA, d3 G KA⟩
   have HCB : Hid (CV (wr.alloc (.cells #[.int .i64 0, .int .i64 (s.size : Int), str [], .int .u32 0] 99)) (some ⟨wr.heap.size, 0, none⟩) [.int .i64 0, .int .i64 (s.size : Int), str [], .int .u32 0]) := o4 wr _ _
   clear HI2 OU G KA hxs hex HNB
   go_wp2_with fail
   refine CB.mono ?_
   rintro e w1 ⟨rfl, rfl⟩
   clear CB
   go_wp2_with (at_builtin; refine a0R rfl (.tmp 23) (.tmp 26) 61 rfl 99 i0 _ 4 40 Tryz.underlying61 hi hz0 hz1 hz2 rfl (by decide) w.heap.size u5 us.length (a08 us) rfl ?r1 (some ⟨wr.heap.size, 0, none⟩) 1 1 [.int .i64 0, .int .i64 (s.size : Int), str [], .int .u32 0] rfl rfl (by simp) ?r2 (by simp [Value.oneCell']) ?r3 ?r4 ?r5 ?r6)
   case r1 => exact HO4.out.1
   case r2 => exact HCB.out
   case r3 => unfold maxLen; omega
   case r4 => omega
   case r5 => have := HO4.out.2.size; simpa using this
   case r6 =>
    intro v5 w5 O5 K5
    have G5 := V0 HO4.out.2 K5 (fun x hx => (World.ownsRow.lt HO4.out.1 x hx).1)
    have HO5 : Hid (V8 w5 w.heap.size v5 (us ++ [⟨0, s.size, [], 0⟩]) ∧ w.grownBy w5 none) := ⟨by
     show w5.ownsRow w.heap.size 99 4 v5 (us ++ [(⟨0, s.size, [], 0⟩ : Tk)]).length (a08 (us ++ [(⟨0, s.size, [], 0⟩ : Tk)]))
     rw [List.length_append, a8a]
     exact O5, G5⟩
    clear HO4 HCB O5 K5 G5
    go_wp2
    go_ret3
    exact ⟨_, rfl, HO5.out.1, HO5.out.2⟩
theorem V8.toks {w : World} {base : Nat} {v : Value} {xs : List Tk} (h : V8 w base v xs) (hx : 0 < xs.length) : ∃ g cap, v = .slice (some ⟨g, 0, none⟩) xs.length cap ∧ ∀ i (hi : i < xs.length), w.cell? ⟨g, i * 4, none⟩ = some (.int .i64 (xs[i].kind : Int)) ∧ w.cell? ⟨g, i * 4 + 1, none⟩ = some (.int .i64 (xs[i].pos : Int)) ∧
   w.cell? ⟨g, i * 4 + 2, none⟩ = some (str xs[i].text) ∧ w.cell? ⟨g, i * 4 + 3, none⟩ = some (.int .u32 (xs[i].num : Int)) := by
 obtain ⟨g, cap, hv, -⟩ := a9g h hx
 obtain ⟨ao, cap', hv', C, -⟩ := S5 h
 rw [hv] at hv'
 simp only [Value.slice.injEq, true_and] at hv'
 obtain ⟨rfl, rfl⟩ := hv'
 refine ⟨g, cap, hv, fun i hi => ?_⟩
 obtain ⟨b, off, e, hc⟩ := C.toks hi
 simp only [Option.some.injEq, Addr.mk.injEq] at e
 obtain ⟨rfl, rfl, -⟩ := e
 have := hc i hi
 simpa using this
theorem a64 : ∀ (k p : Nat) (s : List UInt8) (ts : List Tk), s.length ≤ k → J6 p s = .ok ts → ts.length ≤ s.length + 1
 | k, p, [], ts, _, h => by
  rw [a3C] at h
  cases h
  simp
 | 0, p, c :: r, ts, hk, h => by simp at hk
 | k + 1, p, c :: r, ts, hk, h => by
  simp only [List.length_cons] at hk
  cases hb : I3 c with
  | true =>
   rw [a3A p r hb] at h
   have := a64 k (p + 1) r ts (by omega) h
   simp only [List.length_cons]
   omega
  | false =>
   cases ht : o6 (c :: r) with
   | error e => rw [a3B p hb ht] at h; cases h
   | ok x =>
    obtain ⟨q, t, n⟩ := x
    rw [a3D p hb ht] at h
    have hl := List.length_pos_iff.2 (a0l ht).1
    have hle := (a0l ht).2.2.1
    split at h
    ·cases h
    ·rename_i ts' h'
     cases h
     have := a64 k (p + t.length) ((c :: r).drop t.length) ts' (by rw [List.length_drop, List.length_cons]; omega) h'
     rw [List.length_drop] at this
     simp only [List.length_cons] at *
     omega
theorem V8.items {w : World} {base : Nat} {v : Value} {xs : List Tk} (h : V8 w base v xs) : ∃ ao ca, v = .slice ao xs.length ca ∧ CV w ao (a08 xs) ∧ xs.length ≤ ca ∧ (ao = none → ca = 0) := by
 obtain ⟨ao, cap, hv, C, h1, -, h2, -⟩ := S5 h
 exact ⟨ao, cap, hv, C, h1, h2⟩
theorem a65 : ∀ (k p : Nat) (s : List UInt8) (ts : List Tk), s.length ≤ k → J6 p s = .ok ts → ∀ t ∈ ts, t.text.length ≤ s.length ∧ t.pos ≤ p + s.length ∧ t.kind ≤ 5 ∧ t.num ≤ 4294967295
 | k, p, [], ts, _, h, t, ht => by
  rw [a3C] at h
  cases h
  simp only [List.mem_singleton] at ht
  subst ht
  simp
 | 0, p, c :: r, ts, hk, h, t, ht => by simp at hk
 | k + 1, p, c :: r, ts, hk, h, t, ht => by
  simp only [List.length_cons] at hk
  cases hb : I3 c with
  | true =>
   rw [a3A p r hb] at h
   have := a65 k (p + 1) r ts (by omega) h t ht
   simp only [List.length_cons]
   omega
  | false =>
   cases hx : o6 (c :: r) with
   | error e => rw [a3B p hb hx] at h; cases h
   | ok x =>
    obtain ⟨q, u, n⟩ := x
    rw [a3D p hb hx] at h
    have hok := a0l hx
    have hl := List.length_pos_iff.2 hok.1
    have hle := hok.2.2.1
    split at h
    ·cases h
    ·rename_i ts' h'
     cases h
     rcases List.mem_cons.1 ht with rfl | ht
     ·exact ⟨hle, by simp only; omega, by simp only; omega, hok.2.2.2.2.2⟩
     ·have := a65 k (p + u.length) ((c :: r).drop u.length) ts' (by rw [List.length_drop, List.length_cons]; omega) h' t ht
      rw [List.length_drop] at this
      simp only [List.length_cons] at *
      omega
theorem a8P {s : List UInt8} {ts : List Tk} (h : O0 s = .ok ts) : s.length ≤ 65536 ∧ ∃ us, ts = us ++ [⟨0, s.length, [], 0⟩] ∧ us.length ≤ 65536 ∧ ∀ t ∈ us, t.text ≠ [] ∧ o6 t.text = .ok (t.kind, t.text, t.num) ∧ t.text.length ≤ 65536 ∧ t.pos ≤ 65536 ∧ t.kind ≤ 5 ∧ t.num ≤ 4294967295 := by
 unfold O0 at h
 split at h
 ·cases h
 ·rename_i hl
  obtain ⟨us, e, hu⟩ := a4q _ 0 s ts (Nat.le_refl _) h
  have hf := a64 _ 0 s ts (Nat.le_refl _) h
  have ht := a65 _ 0 s ts (Nat.le_refl _) h
  rw [Nat.zero_add] at e
  refine ⟨by omega, us, e, ?_, fun t hm => ?_⟩
  ·rw [e, List.length_append, List.length_singleton] at hf
   omega
  ·obtain ⟨a, b⟩ := hu t hm
   obtain ⟨c, d, e', f⟩ := ht t (by rw [e]; exact List.mem_append_left _ hm)
   exact ⟨a, b, by omega, by omega, e', f⟩
theorem a8M {s : List UInt8} {x : Nat × Int} (h : O0 s = .error x) : (x.2 != 0) = true := by
 unfold O0 at h
 split at h
 ·cases h; rfl
 ·exact go _ 0 s (Nat.le_refl _) x h
where
 go : ∀ (k p : Nat) (s : List UInt8), s.length ≤ k → ∀ x, J6 p s = .error x → (x.2 != 0) = true
  | k, p, [], _, x, h => by rw [a3C] at h; cases h
  | 0, p, c :: r, hk, x, h => by simp at hk
  | k + 1, p, c :: r, hk, x, h => by
   simp only [List.length_cons] at hk
   cases hb : I3 c with
   | true =>
    rw [a3A p r hb] at h
    exact go k (p + 1) r (by omega) x h
   | false =>
    cases hx : o6 (c :: r) with
    | error e =>
     rw [a3B p hb hx] at h
     cases h
     exact ac1 hx
    | ok y =>
     obtain ⟨q, u, n⟩ := y
     rw [a3D p hb hx] at h
     have hl := List.length_pos_iff.2 (a0l hx).1
     split at h
     ·rename_i e h'
      cases h
      exact go k (p + u.length) ((c :: r).drop u.length) (by rw [List.length_drop, List.length_cons]; omega) _ h'
     ·cases h
def TkG (t : Tk) : Prop := ((t.kind = 0 ∧ t.text = []) ∨ o6 t.text = .ok (t.kind, t.text, t.num)) ∧ t.text.length ≤ 65536 ∧ t.pos ≤ 65536 ∧ t.num ≤ 4294967295 ∧ t.kind ≤ 5
def M3 (x : List UInt8) : Prop := x ≠ [] ∧ ∃ q, (q = 5 ∨ q = 2) ∧ o6 x = .ok (q, x, 0)
def Z7 (ts : List Tk) : Prop := K0 ts ∧ ∀ t ∈ ts, TkG t
theorem Z7.hd {ts : List Tk} (h : Z7 ts) : TkG (hdT ts) := h.2 _ h.1.mem
theorem Z7.tail {ts : List Tk} (h : Z7 ts) (hk : (hdT ts).kind ≠ 0) : Z7 ts.tail := ⟨h.1.tail hk, fun t ht => h.2 t (List.mem_of_mem_tail ht)⟩
theorem Z7.ne {ts : List Tk} (h : Z7 ts) : ts ≠ [] := fun e => by
 obtain ⟨us, x, hx, -⟩ := h.1
 rw [e] at hx
 cases us <;> cases hx
theorem a8O {s : List UInt8} {ts : List Tk} (h : O0 s = .ok ts) : Z7 ts ∧ ts.length ≤ 65537 := by
 obtain ⟨hl, us, rfl, hu, ht⟩ := a8P h
 have hk : ∀ t ∈ us, t.kind ≠ 0 := fun t hm => by
  have := (a0l (ht t hm).2.1).2.2.2.1
  omega
 refine ⟨⟨⟨us, _, rfl, rfl, hk⟩, fun t hm => ?_⟩, by rw [List.length_append, List.length_singleton]; omega⟩
 rcases List.mem_append.1 hm with hm | hm
 ·obtain ⟨-, h2, h3, h4, h5, h6⟩ := ht t hm
  exact ⟨.inr h2, h3, h4, h6, h5⟩
 ·rw [List.mem_singleton] at hm
  subst hm
  exact ⟨.inl ⟨rfl, rfl⟩, by simp, hl, by simp, by simp⟩
theorem a0J {ts : List Tk} {x : List UInt8} (h : TkG (hdT ts)) (hx : M3 x) : isB ts x = decide ((hdT ts).text = x) := by
 unfold isB
 by_cases e : (hdT ts).text = x
 ·rw [decide_eq_true e]
  obtain ⟨hne, q, hq, ht⟩ := hx
  rcases h.1 with ⟨-, h0⟩ | h1
  ·exact absurd (e.symm.trans h0) hne
  ·rw [e, ht] at h1
   have hk : (hdT ts).kind = q := (congrArg Prod.fst (Except.ok.inj h1)).symm
   rw [hk, e]
   rcases hq with rfl | rfl <;> simp
 ·rw [decide_eq_false e]
  simp [e]
theorem a3t {ts : List Tk} {x : List UInt8} {q : Nat} (h : TkG (hdT ts)) (hne : x ≠ []) (hx : o6 x = .ok (q, x, 0)) (e : (hdT ts).text = x) : (hdT ts).kind = q := by
 rcases h.1 with ⟨-, h0⟩ | h1
 ·exact absurd (e.symm.trans h0) hne
 ·rw [e, hx] at h1
  exact (congrArg Prod.fst (Except.ok.inj h1)).symm
def a1a : List (List UInt8) := [a3k, a3j, a3l, J2, V7, R0, a0Q, a19, S0, M1]
theorem a3Q : ∀ x ∈ a1a, x ≠ [] ∧ o6 x = .ok (2, x, 0) ∧ D5 x = 0 := by
 intro x hx
 simp only [a1a, List.mem_cons, List.not_mem_nil, or_false] at hx
 rcases hx with rfl | rfl | rfl | rfl | rfl | rfl | rfl | rfl | rfl | rfl <;> exact ⟨by decide, by kernel_rfl, by decide⟩
def a4v : List (List UInt8) := [[112, 112, 112], [105, 112], [105, 112, 54], [116, 99, 112], [117, 100, 112], [105, 99, 109, 112], [105, 99, 109, 112, 54], [108, 99, 112], [112, 97, 112], [99, 104, 97, 112], [105, 112, 99, 112], [105, 112, 54, 99, 112], [109, 112]]
theorem aX6 : ∀ x ∈ a4v, x ≠ [] ∧ o6 x = .ok (2, x, 0) := by
 intro x hx
 simp only [a4v, List.mem_cons, List.not_mem_nil, or_false] at hx
 rcases hx with rfl | rfl | rfl | rfl | rfl | rfl | rfl | rfl | rfl | rfl | rfl | rfl | rfl <;> exact ⟨by decide, by kernel_rfl⟩
theorem aD0 {x : List UInt8} (h : D5 x ≠ 0) : x ∈ a4v := by
 unfold D5 at h
 simp only [a4v, List.mem_cons, List.not_mem_nil, or_false]
 by_cases e1 : x = [112, 112, 112]; · simp [e1]
 by_cases e2 : x = [105, 112]; · simp [e2]
 by_cases e3 : x = [105, 112, 54]; · simp [e3]
 by_cases e4 : x = [116, 99, 112]; · simp [e4]
 by_cases e5 : x = [117, 100, 112]; · simp [e5]
 by_cases e6 : x = [105, 99, 109, 112]; · simp [e6]
 by_cases e7 : x = [105, 99, 109, 112, 54]; · simp [e7]
 by_cases e8 : x = [108, 99, 112]; · simp [e8]
 by_cases e9 : x = [112, 97, 112]; · simp [e9]
 by_cases e10 : x = [99, 104, 97, 112]; · simp [e10]
 by_cases e11 : x = [105, 112, 99, 112]; · simp [e11]
 by_cases e12 : x = [105, 112, 54, 99, 112]; · simp [e12]
 by_cases e13 : x = [109, 112]; · simp [e13]
 simp [e1, e2, e3, e4, e5, e6, e7, e8, e9, e10, e11, e12, e13] at h
theorem aK8 {rec : Nat → List Tk → Out} {nest : Nat} {ts : List Tk} (h : (hdT ts).kind = 1) : L3 rec nest ts = .ok ([({ ndK 1 with n := (hdT ts).num }, (hdT ts).pos)], ts.tail) := by rw [L3, if_pos h]
theorem aL1 {rec : Nat → List Tk → Out} {nest : Nat} {ts : List Tk} (hG : TkG (hdT ts)) (h : (hdT ts).text = [40]) : L3 rec nest ts = D6 nest ts (d6 (rec (nest + 1) ts.tail) fun p => d6 (m3 [41] p.2) fun r => .ok (p.1, r)) := by
 have hk : (hdT ts).kind = 5 := a3t hG (by decide) (by kernel_rfl) h
 have hb : isB ts [40] = true := by rw [isB, hk, h]; rfl
 rw [L3, if_neg (by omega), if_pos hb]
theorem aM3 {rec : Nat → List Tk → Out} {nest : Nat} {ts : List Tk} (hG : TkG (hdT ts)) (h : (hdT ts).text ∈ a1a) : L3 rec nest ts = L7 ts := by
 obtain ⟨h0, h1, h2⟩ := a3Q _ h
 have hk : (hdT ts).kind = 2 := a3t hG h0 h1 rfl
 have hb : ¬ isB ts [40] = true := fun e => by
  have := a2T e
  rw [this] at h
  simp [a1a, a3k, a3j, a3l, J2, V7, R0, a0Q, a19, S0, M1] at h
 rw [L3, if_neg (by omega), if_neg hb, if_neg (by omega), if_neg (by rw [h2]; simp)]
theorem a9q {rec : Nat → List Tk → Out} {nest : Nat} {ts : List Tk} (hG : TkG (hdT ts)) (h : D5 (hdT ts).text ≠ 0) : L3 rec nest ts = T2 rec nest (D5 (hdT ts).text) (hdT ts).pos ts.tail ∧ (hdT ts).kind = 2 := by
 obtain ⟨h0, h1⟩ := aX6 _ (aD0 h)
 have hk : (hdT ts).kind = 2 := a3t hG h0 h1 rfl
 have hb : ¬ isB ts [40] = true := fun e => by
  have := a2T e
  rw [this] at h
  exact h (by decide)
 refine ⟨?_, hk⟩
 rw [L3, if_neg (by omega), if_neg hb, if_neg (by omega), if_pos h]
theorem aK7 {rec : Nat → List Tk → Out} {nest : Nat} {ts : List Tk} (h1 : (hdT ts).kind ≠ 1) (h2 : (hdT ts).text ≠ [40]) (h3 : (hdT ts).text ∉ a1a) (h4 : D5 (hdT ts).text = 0) : L3 rec nest ts = q9 ts 111 := by
 have hb : ¬ isB ts [40] = true := fun e => h2 (a2T e)
 rw [L3, if_neg h1, if_neg hb]
 by_cases hk : (hdT ts).kind ≠ 2
 ·rw [if_pos hk]
 ·rw [if_neg hk, if_neg (by rw [h4]; simp)]
  simp only [a1a, List.mem_cons, List.not_mem_nil, or_false, not_or] at h3
  obtain ⟨a, b, c, d, e, f, g, h, i, j⟩ := h3
  rw [L7, if_neg a, if_neg b, if_neg c, if_neg d, if_neg (by simp [e, f, g, h, i, j])]
structure PC where
 w0 : World
 g : Nat
 tv : Value
 all : List Tk
def d4 (g : Nat) (vt vp : Value) (x : Nat) : Prop := x = g ∨ vt.ownBlock = some x ∨ vp.ownBlock = some x
def plc (p : Nd × Nat) : Int := (p.2 : Int)
structure PS (c : PC) (w : World) (i : Nat) (vt vp : Value) (ts : List Tk) (nest bud : Nat) (ns : List (Nd × Nat)) : Prop where
 tab : j2 c.w0
 grown : c.w0.grownBy w none
 blk : VAt w c.g 70 #[c.tv, .int .i64 (i : Int), .int .i64 (nest : Int), vt, vp]
 new : c.w0.heap.size ≤ c.g
 toks : V8 w c.w0.heap.size c.tv c.all
 drop : c.all.drop i = ts
 good : Z7 ts
 len : c.all.length ≤ 65537
 nest_le : nest ≤ 200
 bud_le : ns.length + ts.length + bud ≤ 65537
 tree : a5b w c.w0.heap.size vt (ns.map Prod.fst)
 places : a5h w c.w0.heap.size vp (ns.map plc)

section
variable {c : PC} {w w' : World} {i nest bud : Nat} {vt vp : Value} {ts : List Tk} {ns : List (Nd × Nat)}
theorem PS.lt (h : PS c w i vt vp ts nest bud ns) {x : Nat} (hx : d4 c.g vt vp x) : x < w.heap.size := by
 rcases hx with rfl | hx | hx
 ·exact h.blk.lt
 ·exact (h.tree.lt x hx).2
 ·exact (h.places.lt x hx).2
theorem PS.ge (h : PS c w i vt vp ts nest bud ns) {x : Nat} (hx : d4 c.g vt vp x) : c.w0.heap.size ≤ x := by
 rcases hx with rfl | hx | hx
 ·exact h.new
 ·exact (h.tree.lt x hx).1
 ·exact (h.places.lt x hx).1
theorem PS.ne_tree (h : PS c w i vt vp ts nest bud ns) : ¬ vt.ownBlock = some c.g := a13 h.tree h.blk (by decide)
theorem PS.ne_places (h : PS c w i vt vp ts nest bud ns) : ¬ vp.ownBlock = some c.g := a13 h.places h.blk (by decide)
theorem PS.keep (h : PS c w i vt vp ts nest bud ns) (G : w.grownBy w' none) : PS c w' i vt vp ts nest bud ns :=
 { h with grown := d3 h.grown G, blk := h.blk.kept G, toks := x9 h.toks G, tree := x9 h.tree G, places := x9 h.places G }
theorem PS.less (h : PS c w i vt vp ts nest bud ns) {b : Nat} (hb : b ≤ bud) : PS c w i vt vp ts nest b ns := { h with bud_le := by have := h.bud_le; omega }
theorem PS.tabw (h : PS c w i vt vp ts nest bud ns) : j2 w := h.tab.grown h.grown
theorem PS.gb (h : PS c w i vt vp ts nest bud ns) (G : GB w w' (d4 c.g vt vp)) : c.w0.grownBy w' none :=
 ⟨G.os.trans h.grown.os, G.tape.trans h.grown.tape, G.output.trans h.grown.output, Nat.le_trans h.grown.size G.size, fun k hk _ =>
  (G.block k (Nat.lt_of_lt_of_le hk h.grown.size) (fun hf => by have := h.ge hf; omega)).trans (h.grown.block k hk (by simp))⟩
theorem PS.idx (h : PS c w i vt vp ts nest bud ns) : ∃ hi : i < c.all.length, c.all[i] = hdT ts ∧ c.all.drop (i + 1) = ts.tail := by
 have hne := h.good.ne
 have hd := h.drop
 have hi : i < c.all.length := by
  by_cases hh : i < c.all.length
  ·exact hh
  ·rw [List.drop_eq_nil_of_le (by omega)] at hd
   exact absurd hd.symm hne
 rw [List.drop_eq_getElem_cons hi] at hd
 refine ⟨hi, ?_, ?_⟩
 ·rw [← hd]; rfl
 ·rw [← hd]; rfl
theorem a9N (W : World) (g j k : Nat) (v : Value) (h : k ≠ g) : (W.setCell ⟨g, j, none⟩ v).heap[k]? = W.heap[k]? := Below.heap_setCell _ _ _ _ h
theorem S8 (W : World) (g j : Nat) (v : Value) : W.grownBy (W.setCell ⟨g, j, none⟩ v) (some g) := N8 (World.grownBy.refl W (some g)) _ _ (.inl rfl)
theorem PS.store (h : PS c w i vt vp ts nest bud ns) (j : Nat) (v : Value) {i' nest' : Nat} {ts' : List Tk} {bud' : Nat} (hc : (#[c.tv, .int .i64 (i : Int), .int .i64 (nest : Int), vt, vp] : Array Value).setIfInBounds j v = #[c.tv, .int .i64 (i' : Int), .int .i64 (nest' : Int), vt, vp])
  (h1 : c.all.drop i' = ts') (h2 : Z7 ts') (h3 : nest' ≤ 200) (h4 : ns.length + ts'.length + bud' ≤ 65537) : PS c (w.setCell ⟨c.g, j, none⟩ v) i' vt vp ts' nest' bud' ns := by
 have G := S8 w c.g j v
 exact { h with
  grown := V0 h.grown G (fun x hx => by cases hx; exact h.new)
  blk := by have := h.blk.set j v; rw [hc] at this; exact this
  toks := a0j h.toks G (a13 h.toks h.blk (by decide))
  drop := h1, good := h2, nest_le := h3, bud_le := h4
  tree := a0j h.tree G h.ne_tree
  places := a0j h.places G h.ne_places }
def Ret (c : PC) (w : World) (vt vp : Value) (ts' : List Tk) (nest' bud' : Nat) (ns' : List (Nd × Nat)) (w' : World) : Prop :=
 ∃ i' vt' vp', PS c w' i' vt' vp' ts' nest' bud' ns' ∧ GB w w' (d4 c.g vt vp) ∧ ∀ x, x < w.heap.size → d4 c.g vt' vp' x → d4 c.g vt vp x
theorem Ret.same (h : PS c w' i vt vp ts nest bud ns) (G : GB w w' (d4 c.g vt vp)) : Ret c w vt vp ts nest bud ns w' := ⟨i, vt, vp, h, G, fun _ _ k => k⟩
theorem Ret.of {w1 : World} {vt1 vp1 : Value} (G : GB w w1 (d4 c.g vt vp)) (hf : ∀ x, x < w.heap.size → d4 c.g vt1 vp1 x → d4 c.g vt vp x) (R : Ret c w1 vt1 vp1 ts nest bud ns w') : Ret c w vt vp ts nest bud ns w' := by
 obtain ⟨i', vt', vp', h, G', hf'⟩ := R
 exact ⟨i', vt', vp', h, G.trans G' hf, fun x hx k => hf x hx (hf' x (Nat.lt_of_lt_of_le hx G.size) k)⟩
theorem Ret.less (R : Ret c w vt vp ts nest bud ns w') {b : Nat} (hb : b ≤ bud) : Ret c w vt vp ts nest b ns w' := by
 obtain ⟨i', vt', vp', h, r⟩ := R
 exact ⟨i', vt', vp', h.less hb, r⟩
theorem PS.take (h : PS c w i vt vp ts nest bud ns) (hk : (hdT ts).kind ≠ 0) : PS c (w.setCell ⟨c.g, 1, none⟩ (.int .i64 ((i + 1 : Nat) : Int))) (i + 1) vt vp ts.tail nest (bud + 1) ns := by
 obtain ⟨hi, h1, h2⟩ := h.idx
 refine h.store 1 _ rfl h2 (h.good.tail hk) h.nest_le ?_
 have := h.bud_le
 have := List.length_pos_iff.2 h.good.ne
 rw [List.length_tail]
 omega
theorem PS.away {R : Nat} (h : PS c w i vt vp ts nest bud ns) (K : w.grownBy w' (some R)) (hf : ¬ d4 c.g vt vp R) (ht : ¬ c.tv.ownBlock = some R) (h0 : c.w0.heap.size ≤ R) : PS c w' i vt vp ts nest bud ns :=
 { h with
  grown := V0 h.grown K (fun x hx => by cases hx; exact h0)
  blk := h.blk.grown K (fun e => by cases e; exact hf (.inl rfl))
  toks := a0j h.toks K ht
  tree := a0j h.tree K (fun e => hf (.inr (.inl e)))
  places := a0j h.places K (fun e => hf (.inr (.inr e))) }
theorem PS.toks_lt (h : PS c w i vt vp ts nest bud ns) {x : Nat} (hx : c.tv.ownBlock = some x) : x < w.heap.size := (h.toks.lt x hx).2
theorem Ret.fin {W W' : World} {R i0 nest0 bud0 i1 : Nat} {ts0 : List Tk} {ns0 : List (Nd × Nat)} {vt1 vp1 : Value} (h0 : PS c w i0 vt vp ts0 nest0 bud0 ns0) (G : GB w W (d4 c.g vt vp)) (hf : ∀ x, x < w.heap.size → d4 c.g vt1 vp1 x → d4 c.g vt vp x) (P : PS c W i1 vt1 vp1 ts nest bud ns) (K : W.grownBy W' (some R)) (hR : w.heap.size ≤ R) (hfR : ¬ d4 c.g vt1 vp1 R) : Ret c w vt vp ts nest bud ns W' := by
 refine ⟨i1, vt1, vp1, P.away K hfR (fun e => by have := h0.toks_lt e; omega) (Nat.le_trans h0.grown.size hR), G.trans (GB.of K (S := fun x => x = R) (fun x hx => by cases hx; rfl)) (fun x hx e => by omega), hf⟩
theorem PS.awayG {S : Nat → Prop} (h : PS c w i vt vp ts nest bud ns) (K : GB w w' S) (hS : ∀ x, S x → ¬ d4 c.g vt vp x ∧ ¬ c.tv.ownBlock = some x ∧ c.w0.heap.size ≤ x) : PS c w' i vt vp ts nest bud ns :=
 { h with
  grown := ⟨K.os.trans h.grown.os, K.tape.trans h.grown.tape, K.output.trans h.grown.output, Nat.le_trans h.grown.size K.size, fun k hk _ => (K.block k (Nat.lt_of_lt_of_le hk h.grown.size) (fun hs => by have := (hS k hs).2.2; omega)).trans (h.grown.block k hk (by simp))⟩
  blk := K.vat h.blk (fun hs => (hS _ hs).1 (.inl rfl))
  toks := K.owns h.toks (fun x hx hs => (hS x hs).2.1 hx)
  tree := K.owns h.tree (fun x hx hs => (hS x hs).1 (.inr (.inl hx)))
  places := K.owns h.places (fun x hx hs => (hS x hs).1 (.inr (.inr hx))) }
theorem Ret.finG {S : Nat → Prop} {W W' : World} {i0 nest0 bud0 i1 : Nat} {ts0 : List Tk} {ns0 : List (Nd × Nat)} {vt1 vp1 : Value} (h0 : PS c w i0 vt vp ts0 nest0 bud0 ns0) (G : GB w W (d4 c.g vt vp)) (hf : ∀ x, x < w.heap.size → d4 c.g vt1 vp1 x → d4 c.g vt vp x) (P : PS c W i1 vt1 vp1 ts nest bud ns) (K : GB W W' S) (hS : ∀ x, S x → w.heap.size ≤ x ∧ ¬ d4 c.g vt1 vp1 x) : Ret c w vt vp ts nest bud ns W' :=
 ⟨i1, vt1, vp1, P.awayG K (fun x hx => ⟨(hS x hx).2, fun e => by have := (h0.toks.lt x e).2; have := (hS x hx).1; omega, Nat.le_trans h0.grown.size (hS x hx).1⟩), G.trans K (fun x hx hs => by have := (hS x hs).1; omega), hf⟩
theorem PS.not_foot (h : PS c w i vt vp ts nest bud ns) {R : Nat} (hR : w.heap.size ≤ R) : ¬ d4 c.g vt vp R := fun e => by have := h.lt e; omega
theorem GB.set (W : World) (vt vp : Value) (g j : Nat) (v : Value) : GB W (W.setCell ⟨g, j, none⟩ v) (d4 g vt vp) := GB.of (S8 W g j v) (fun x hx => by cases hx; exact .inl rfl)
end
structure HS (c : PC) (w : World) (i : Nat) (vt vp : Value) (nest : Nat) (xs : List Nd) (zs : List Int) : Prop where
 grown : c.w0.grownBy w none
 blk : VAt w c.g 70 #[c.tv, .int .i64 (i : Int), .int .i64 (nest : Int), vt, vp]
 new : c.w0.heap.size ≤ c.g
 toks : V8 w c.w0.heap.size c.tv c.all
 tree : a5b w c.w0.heap.size vt xs
 places : a5h w c.w0.heap.size vp zs
section
variable {c : PC} {w w' : World} {i nest bud : Nat} {vt vp : Value} {ts : List Tk} {ns : List (Nd × Nat)} {xs : List Nd} {zs : List Int}
theorem PS.hs (h : PS c w i vt vp ts nest bud ns) : HS c w i vt vp nest (ns.map Prod.fst) (ns.map plc) := ⟨h.grown, h.blk, h.new, h.toks, h.tree, h.places⟩
theorem HS.keep (h : HS c w i vt vp nest xs zs) (G : w.grownBy w' none) : HS c w' i vt vp nest xs zs := ⟨d3 h.grown G, h.blk.kept G, h.new, x9 h.toks G, x9 h.tree G, x9 h.places G⟩
theorem a4D {w w' : World} {base e size n base' e' size' n' : Nat} {v v' : Value} {vs vs' : List Value} (h : w.ownsRow base e size v n vs) (O : w.ownsRow base' e' size' v' n' vs') (he : e ≠ e') (K : w.grownBy w' v'.ownBlock) : w'.ownsRow base e size v n vs := by
 refine h.kept K ?_
 by_cases hv : v.ownBlock = none
 ·exact .inl hv
 ·right
  intro e
  obtain ⟨x, hx⟩ := Option.ne_none_iff_exists'.1 hv
  exact aH8 h O he hx (e ▸ hx)
theorem a43 {w w' : World} {base e size n g t : Nat} {v : Value} {vs : List Value} {cs : Array Value} (A : VAt w g t cs) (O : w.ownsRow base e size v n vs) (he : e ≠ t) (K : w.grownBy w' v.ownBlock) : VAt w' g t cs := A.grown K (a13 O A he)
theorem HS.put_tree (h : HS c w i vt vp nest xs zs) {x : Nd} {v4 : Value} {w4 : World} (O : w4.ownsRow c.w0.heap.size 43 24 v4 (xs.length + 1) (a0r xs ++ x.cells)) (K : w.grownBy w4 vt.ownBlock) (B : v4.ownBlock = vt.ownBlock ∨ v4.ownBlock = some w.heap.size) :
  HS c (w4.setCell ⟨c.g, 3, none⟩ v4) i v4 vp nest (xs ++ [x]) zs ∧ GB w (w4.setCell ⟨c.g, 3, none⟩ v4) (d4 c.g vt vp) ∧ ∀ y, y < w.heap.size → d4 c.g v4 vp y → d4 c.g vt vp y := by
 have A := a43 h.blk h.tree (by decide) K
 have T := a4D h.toks h.tree (by decide) K
 have P := a4D h.places h.tree (by decide) K
 have G := S8 w4 c.g 3 v4
 have g4 : c.w0.grownBy w4 none := V0 h.grown K (fun y hy => (h.tree.lt y hy).1)
 refine ⟨⟨V0 g4 G (fun y hy => by cases hy; exact h.new), A.set 3 v4, h.new, a0j T G (a13 T A (by decide)), ?_, a0j P G (a13 P A (by decide))⟩, ?_, ?_⟩
 ·have := a0j O G (a13 O A (by decide))
  show World.ownsRow _ _ _ _ _ _ _
  rw [List.length_append, ar3, ar5]
  exact this
 ·exact (GB.of K (S := d4 c.g vt vp) (fun y hy => .inr (.inl hy))).trans (GB.set w4 vt vp c.g 3 v4) (fun _ _ h => h)
 ·rintro y hy (rfl | e | e)
  ·exact .inl rfl
  ·rcases B with B | B
   ·exact .inr (.inl (B ▸ e))
   ·rw [B] at e
    cases e
    omega
  ·exact .inr (.inr e)
theorem HS.put_places (h : HS c w i vt vp nest xs zs) {z : Int} {v4 : Value} {w4 : World} (O : w4.ownsRow c.w0.heap.size 3 1 v4 (zs.length + 1) (zs.map iv ++ [.int .i64 z])) (K : w.grownBy w4 vp.ownBlock) (B : v4.ownBlock = vp.ownBlock ∨ v4.ownBlock = some w.heap.size) :
  HS c (w4.setCell ⟨c.g, 4, none⟩ v4) i vt v4 nest xs (zs ++ [z]) ∧ GB w (w4.setCell ⟨c.g, 4, none⟩ v4) (d4 c.g vt vp) ∧ ∀ y, y < w.heap.size → d4 c.g vt v4 y → d4 c.g vt vp y := by
 have A := a43 h.blk h.places (by decide) K
 have T := a4D h.toks h.places (by decide) K
 have P := a4D h.tree h.places (by decide) K
 have G := S8 w4 c.g 4 v4
 have g4 : c.w0.grownBy w4 none := V0 h.grown K (fun y hy => (h.places.lt y hy).1)
 refine ⟨⟨V0 g4 G (fun y hy => by cases hy; exact h.new), A.set 4 v4, h.new, a0j T G (a13 T A (by decide)), a0j P G (a13 P A (by decide)), ?_⟩, ?_, ?_⟩
 ·have := a0j O G (a13 O A (by decide))
  show World.ownsRow _ _ _ _ _ _ _
  rw [List.length_append, List.map_append]
  exact this
 ·exact (GB.of K (S := d4 c.g vt vp) (fun y hy => .inr (.inr hy))).trans (GB.set w4 vt vp c.g 4 v4) (fun _ _ h => h)
 ·rintro y hy (rfl | e | e)
  ·exact .inl rfl
  ·exact .inr (.inl e)
  ·rcases B with B | B
   ·exact .inr (.inr (B ▸ e))
   ·rw [B] at e
    cases e
    omega
theorem PS.of_hs {bud' : Nat} {ns' : List (Nd × Nat)} {w1 : World} {vt1 vp1 : Value} (h0 : PS c w i vt vp ts nest bud ns) (h : HS c w1 i vt1 vp1 nest (ns'.map Prod.fst) (ns'.map plc)) (hb : ns'.length + ts.length + bud' ≤ 65537) : PS c w1 i vt1 vp1 ts nest bud' ns' :=
 { h0 with grown := h.grown, blk := h.blk, new := h.new, toks := h.toks, tree := h.tree, places := h.places, bud_le := hb }
end
def Z2 (er : Er) : List PanicEntry := [{ v := .iface 65 (.agg #[.int .i64 (er.1 : Int), .int .i64 er.2]), recovered := false }]
def l9 (c : PC) (w : World) (vt vp : Value) (nest bud : Nat) (ns : List (Nd × Nat)) (r : Out) (e : Ending) (w' : World) : Prop := match r with
 | .ok (ms, ts') => e = .returned (.tuple #[]) ∧ Ret c w vt vp ts' nest bud (ns ++ ms) w'
 | .error er => e = .panicked (Z2 er) ∧ GB w w' (d4 c.g vt vp)
def Z3 {α : Type} (c : PC) (w : World) (vt vp : Value) (nest bud : Nat) (ns : List (Nd × Nat)) (val : α → Value) (r : Except Er (α × List Tk)) (e : Ending) (w' : World) : Prop := match r with
 | .ok (v, ts') => e = .returned (val v) ∧ Ret c w vt vp ts' nest bud ns w'
 | .error er => e = .panicked (Z2 er) ∧ GB w w' (d4 c.g vt vp)
theorem a1S {P : Program} {fn : Func} {p : Tmp} {ty : TypeId} (h : fn.results = #[.cell p ty]) (tmps : Array Value) (w : World) (g : Nat) (cs : Array Value) (d : TypeDesc) (hp : tmps.getD p undef = .pointer (some ⟨g, 0, none⟩)) (A : VAt w g ty cs)
  (hu : P.underlying ty = some d) (hd : (match d with | .struct _ | .array _ _ => true | _ => false) = true) (hi : (P.info? ty).map (·.size) = some cs.size) : (results fn tmps).run P w = .ok (.agg cs) w := by
 have hp' : tmps[p]?.getD undef = .pointer (some ⟨g, 0, none⟩) := by simpa using hp
 have h1 := run_loadVar_row (P := P) w g ty ty cs (0, 0) _ A hu hd hi
 simp [results, h, hp', asAddr, h1]
def tkC (t : Tk) : Array Value := #[.int .i64 (t.kind : Int), .int .i64 (t.pos : Int), str t.text, .int .u32 (t.num : Int)]
theorem J1 : (Tryz.prog.info? 99).map (·.size) = some 4 := by kernel_rfl
theorem ac0 (t : Tk) : (tkC t).all (·.oneCell') = true := by simp [tkC, Value.oneCell']
theorem aX8 {w W : World} {R : Nat} {z0 z1 z2 z3 : Value} (hR : w.heap.size ≤ R) (A : VAt W R 99 #[z0, z1, z2, z3]) (G : w.grownBy W none) (a b d e : Value) :
  VAt ((((W.setCell ⟨R, 0, none⟩ a).setCell ⟨R, 1, none⟩ b).setCell ⟨R, 2, none⟩ d).setCell ⟨R, 3, none⟩ e) R 99 #[a, b, d, e] ∧ w.grownBy ((((W.setCell ⟨R, 0, none⟩ a).setCell ⟨R, 1, none⟩ b).setCell ⟨R, 2, none⟩ d).setCell ⟨R, 3, none⟩ e) none :=
 ⟨(((A.set 0 a).set 1 b).set 2 d).set 3 e, N8 (N8 (N8 (N8 G _ _ (.inr hR)) _ _ (.inr hR)) _ _ (.inr hR)) _ _ (.inr hR)⟩

section
variable {c : PC} {w : World} {i nest bud : Nat} {vt vp : Value} {ts : List Tk} {ns : List (Nd × Nat)}
theorem PS.reads (h : PS c w i vt vp ts nest bud ns) : ∃ b off ca, c.tv = .slice (some ⟨b, off, none⟩) c.all.length ca ∧ i < c.all.length ∧ w.cell? ⟨c.g, 0, none⟩ = some (.slice (some ⟨b, off, none⟩) c.all.length ca) ∧ w.cell? ⟨c.g, 1, none⟩ = some (.int .i64 (i : Int)) ∧
  w.cell? ⟨b, off + i * 4, none⟩ = some (.int .i64 ((hdT ts).kind : Int)) ∧ w.cell? ⟨b, off + i * 4 + 1, none⟩ = some (.int .i64 ((hdT ts).pos : Int)) ∧ w.cell? ⟨b, off + i * 4 + 2, none⟩ = some (str (hdT ts).text) ∧ w.cell? ⟨b, off + i * 4 + 3, none⟩ = some (.int .u32 ((hdT ts).num : Int)) := by
 obtain ⟨hi, ht, -⟩ := h.idx
 obtain ⟨a, ca, htv, hC, -⟩ := h.toks.items
 obtain ⟨b, off, rfl, hc⟩ := hC.toks hi
 obtain ⟨k0, k1, k2, k3⟩ := hc i hi
 rw [ht] at k0 k1 k2 k3
 have c0 : w.cell? ⟨c.g, 0, none⟩ = some c.tv := h.blk.cell 0
 rw [htv] at c0
 exact ⟨b, off, ca, htv, hi, c0, h.blk.cell 1, k0, k1, k2, k3⟩
theorem D7 (h : PS c w i vt vp ts nest bud ns) :
  Calls Tryz.prog 87 #[.pointer (some ⟨c.g, 0, none⟩)] w fun e w' => e = .returned (.agg (tkC (hdT ts))) ∧ w.grownBy w' none := by
 have hl := h.len
 have G := World.grownBy_alloc w (.cells #[.int .i64 0, .int .i64 0, .string ⟨#[]⟩, .int .u32 0] 99) none
 have RA := VAt.alloc w 99 #[.int .i64 0, .int .i64 0, .string ⟨#[]⟩, .int .u32 0]
 obtain ⟨b, off, ca, -, hi, c0, c1, k0, k1, k2, k3⟩ := (h.keep G).reads
 clear h
 unfold tkC
 generalize hdT ts = t at *
 obtain ⟨tk, tp, tx, tn⟩ := t
 simp only at *
 generalize c.g = g at *
 generalize c.all.length = n at *
 have hlt : (i : Int) < (n : Int) := by omega
 go_enter Tryz.func87, Tryz.ntmps87
 go_upto_region 1 with fail
 have HR : Hid (w.heap.size ≤ w.heap.size) := Nat.le_refl _
 generalize w.alloc (.cells #[.int .i64 0, .int .i64 0, .string ⟨#[]⟩, .int .u32 0] 99) = W at *
 obtain ⟨R, hR⟩ : ∃ R, w.heap.size = R := ⟨_, rfl⟩
 rw [hR] at RA
 have r0 : W.cell? ⟨R, 0, none⟩ = some (.int .i64 0) := RA.cell 0
 have r1 : W.cell? ⟨R, 1, none⟩ = some (.int .i64 0) := RA.cell 1
 have r2 : W.cell? ⟨R, 2, none⟩ = some (.string ⟨#[]⟩) := RA.cell 2
 have r3 : W.cell? ⟨R, 3, none⟩ = some (.int .u32 0) := RA.cell 3
 have f0 := RA.free 0
 have f1 := RA.free 1
 have f2 := RA.free 2
 have f3 := RA.free 3
 rw [hR]
 have HR2 : Hid (w.heap.size ≤ R) := Nat.le_of_eq hR
 have HRA : Hid (VAt W R 99 #[.int .i64 0, .int .i64 0, .string ⟨#[]⟩, .int .u32 0]) := RA
 have HG : Hid (w.grownBy W none) := G
 clear hR HR RA G
 go_region
 go_wp2
 obtain ⟨A, K⟩ := aX8 HR2.out HRA.out HG.out (.int .i64 (tk : Int)) (.int .i64 (tp : Int)) (str tx) (.int .u32 (tn : Int))
 refine bodyPost_ret (a1S rfl _ _ R _ _ rfl A Tryz.underlying99 rfl J1) rfl ?_
 exact ⟨rfl, d3 K (f9 _ 1 none)⟩
theorem P7 (h : PS c w i vt vp ts nest bud ns) (hk : (hdT ts).kind ≠ 0) :
  Calls Tryz.prog 151 #[.pointer (some ⟨c.g, 0, none⟩)] w fun e w' => e = .returned (.agg (tkC (hdT ts))) ∧ Ret c w vt vp ts.tail nest (bud + 1) ns w' := by
 have hl := h.len
 have hi := h.idx.1
 have G := World.grownBy_alloc w (.cells #[.int .i64 0, .int .i64 0, .string ⟨#[]⟩, .int .u32 0] 99) none
 have RA := VAt.alloc w 99 #[.int .i64 0, .int .i64 0, .string ⟨#[]⟩, .int .u32 0]
 have H1 := h.keep G
 have HP : Hid (PS c w i vt vp ts nest bud ns) := h
 go_enter Tryz.func151, Tryz.ntmps151
 go_upto_region 1 with fail
 generalize w.alloc (.cells #[.int .i64 0, .int .i64 0, .string ⟨#[]⟩, .int .u32 0] 99) = W at *
 obtain ⟨R, hR⟩ : ∃ R, w.heap.size = R := ⟨_, rfl⟩
 rw [hR] at RA ⊢
 have HR2 : Hid (w.heap.size ≤ R) := Nat.le_of_eq hR
 clear h hR
 go_wp2_with fail
 refine (D7 H1).mono ?_
 rintro e w1 ⟨rfl, G1⟩
 have RA1 := RA.kept G1
 have H2 := H1.keep G1
 have G2 := d3 G G1
 clear H1 G1 RA G
 unfold tkC
 have HK : Hid ((hdT ts).kind ≠ 0) := hk
 clear hk
 obtain ⟨t, ht⟩ : ∃ t, hdT ts = t := ⟨_, rfl⟩
 have HT : Hid (hdT ts = t) := ht
 rw [ht]
 clear ht
 obtain ⟨tk, tp, tx, tn⟩ := t
 simp only
 have KA := World.grownBy_alloc w1 (.cells #[.int .i64 (tk : Int), .int .i64 (tp : Int), str tx, .int .u32 (tn : Int)] 99) none
 have VA := VAt.alloc w1 99 #[.int .i64 (tk : Int), .int .i64 (tp : Int), str tx, .int .u32 (tn : Int)]
 have H3 := H2.keep KA
 have RA2 := RA1.kept KA
 have G3 := d3 G2 KA
 have HV : Hid (w.heap.size ≤ w1.heap.size) := G2.size
 go_upto_region 2 with fail
 generalize w1.alloc (.cells #[.int .i64 (tk : Int), .int .i64 (tp : Int), .string ⟨tx.toArray⟩, .int .u32 (tn : Int)] 99) = w2 at *
 generalize w1.heap.size = V at *
 clear H2 RA1 G2 KA
 have c1 : w2.cell? ⟨c.g, 1, none⟩ = some (.int .i64 (i : Int)) := H3.blk.cell 1
 have f1 := H3.blk.free 1
 have hw : IntKind.i64.wrap ((i : Int) + 1) = ((i + 1 : Nat) : Int) := by rw [IntKind.wrap_i64]; omega
 have HQ : Hid (PS c (w2.setCell ⟨c.g, 1, none⟩ (.int .i64 ((i : Int) + 1))) (i + 1) vt vp ts.tail nest (bud + 1) ns ∧ GB w (w2.setCell ⟨c.g, 1, none⟩ (.int .i64 ((i : Int) + 1))) (d4 c.g vt vp)) :=
  ⟨H3.take HK.out, (GB.non G3).trans (GB.set w2 vt vp c.g 1 _) (fun _ _ h => h)⟩
 have hgV : V ≠ c.g := fun e => by have := HP.out.blk.lt; have := HV.out; omega
 have hgR : R ≠ c.g := fun e => by have := HP.out.blk.lt; have := HR2.out; omega
 have VA3 := VA.grown (S8 w2 c.g 1 (.int .i64 ((i : Int) + 1))) (fun e => hgV (Option.some.inj e).symm)
 have RA3 := RA2.grown (S8 w2 c.g 1 (.int .i64 ((i : Int) + 1))) (fun e => hgR (Option.some.inj e).symm)
 clear VA RA2 H3 G3
 go_upto_region 3 with fail
 generalize w2.setCell ⟨c.g, 1, none⟩ (.int .i64 ((i : Int) + 1)) = w3 at *
 go_wp2_with (first
  | refine wpList_load_row rfl 99 (.tmp 3) rfl V rfl 99 _ (0, 0) _ VA3 Tryz.underlying99 rfl J1 ?_
  | refine wpList_store_row rfl 99 (.tmp 2) (.tmp 13) rfl R (tkC ⟨tk, tp, tx, tn⟩) rfl rfl 99 _ RA3 J1 rfl (ac0 _) ?_)
 refine bodyPost_ret (a1S rfl _ _ R _ _ rfl (RA3.setRow _) Tryz.underlying99 rfl J1) rfl ?_
 exact ⟨by rw [HT.out], Ret.fin HP.out HQ.out.2 (fun _ _ h => h) HQ.out.1 (x5 (World.grownBy.refl w3 (some R)) R _ (.inl rfl)) HR2.out (HP.out.not_foot HR2.out)⟩
theorem N6 (k p : Int) (x : Value) (n : Int) (W : World) : (Instr.field 99 (.agg #[.int .i64 k, .int .i64 p, x, .int .u32 n]) 0).run Tryz.prog W = .ok (.int .i64 k) W ∧ (Instr.field 99 (.agg #[.int .i64 k, .int .i64 p, x, .int .u32 n]) 1).run Tryz.prog W = .ok (.int .i64 p) W ∧
  (Instr.field 99 (.agg #[.int .i64 k, .int .i64 p, x, .int .u32 n]) 2).run Tryz.prog W = .ok x W ∧ (Instr.field 99 (.agg #[.int .i64 k, .int .i64 p, x, .int .u32 n]) 3).run Tryz.prog W = .ok (.int .u32 n) W := ⟨by kernel_rfl, by kernel_rfl, by kernel_rfl, by kernel_rfl⟩
theorem a4f (h : PS c w i vt vp ts nest bud ns) (e : Int) :
  Calls Tryz.prog 125 #[.pointer (some ⟨c.g, 0, none⟩), .int .i64 e] w fun x w' => x = .panicked (Z2 ((hdT ts).pos, e)) ∧ w.grownBy w' none := by
 have CN := D7 h
 unfold tkC at CN
 have HF := fun k p x n W => (N6 k p x n W).2.1
 unfold Z2
 generalize hdT ts = t at *
 obtain ⟨tk, tp, tx, tn⟩ := t
 simp only at *
 clear h
 go_enter Tryz.func125, Tryz.ntmps125
 go_wp2_with fail
 refine CN.mono ?_
 rintro x w1 ⟨rfl, G⟩
 clear CN
 go_wp2
 exact ⟨rfl, rfl, G⟩
def W9 (ts : List Tk) : Er := ((hdT ts).pos, if (hdT ts).kind = 0 then 110 else 111)
theorem a5A {α : Type} (ts : List Tk) : (q9 ts 111 : Except Er α) = .error (W9 ts) := rfl
theorem a3f (h : PS c w i vt vp ts nest bud ns) :
  Calls Tryz.prog 88 #[.pointer (some ⟨c.g, 0, none⟩)] w fun x w' => x = .panicked (Z2 (W9 ts)) ∧ w.grownBy w' none := by
 have CN := D7 h
 unfold W9
 have HG : Hid (∀ W, w.grownBy W none → ∀ e, Calls Tryz.prog 125 #[.pointer (some ⟨c.g, 0, none⟩), .int .i64 e] W fun x w' => x = .panicked (Z2 ((hdT ts).pos, e)) ∧ W.grownBy w' none) := fun W G e => a4f (h.keep G) e
 unfold tkC at CN
 have HF := fun k p x n W => (N6 k p x n W).1
 generalize hdT ts = t at *
 obtain ⟨tk, tp, tx, tn⟩ := t
 simp only at *
 clear h
 by_cases hk : tk = 0
 ·have hk' : ((tk : Int) == 0) = true := by rw [hk]; rfl
  rw [if_pos hk]
  clear hk
  go_enter Tryz.func88, Tryz.ntmps88
  go_wp2_with fail
  refine CN.mono ?_
  rintro x w1 ⟨rfl, G⟩
  clear CN
  go_wp2_with fail
  refine (HG.out w1 G _).mono ?_
  rintro x w2 ⟨rfl, G2⟩
  go_wp2
  exact ⟨rfl, rfl, d3 G G2⟩
 ·have hk' : ((tk : Int) == 0) = false := by rw [beq_eq_false_iff_ne]; omega
  rw [if_neg hk]
  clear hk
  go_enter Tryz.func88, Tryz.ntmps88
  go_wp2_with fail
  refine CN.mono ?_
  rintro x w1 ⟨rfl, G⟩
  clear CN
  go_wp2_with fail
  refine (HG.out w1 G _).mono ?_
  rintro x w2 ⟨rfl, G2⟩
  go_wp2
  exact ⟨rfl, rfl, d3 G G2⟩

end
theorem au9 (a : Option Addr) (ca : Nat) (xs : List (List UInt8)) (x : List UInt8) (w : World) (ha : CV w a (xs.map str)) (hm : xs.length ≤ 1000) :
  Calls Tryz.prog 195 #[.slice a xs.length ca, str x] w fun e w' => ∃ z : Int, e = .returned (.int .i64 z) ∧ (decide ((0 : Int) ≤ z) = decide (x ∈ xs)) ∧ ∃ n, w' = w.drewN n := by
 have HA : Hid (CV w a (xs.map str)) := ha
 clear ha
 go_enter Tryz.func195, Tryz.ntmps195
 go_wp2
 go_loopw [8] (fun i wr => ∃ k : Nat, k ≤ xs.length ∧ i = .int .i64 k ∧ Hid (∀ j, j < k → ∀ y, xs[j]? = some y → y ≠ x) ∧ ∃ n, wr = w.drewN n) (fun i _ => xs.length - (intOf i).toNat)
 case atStart => exact ⟨0, Nat.zero_le _, rfl, fun j hj => by omega, 0, rfl⟩
 case round =>
  obtain ⟨k, hk, rfl, HI, n, rfl⟩ := hrel
  by_cases hlt : k < xs.length
  ·obtain ⟨b, o, rfl, hc⟩ := HA.out.addr (k := k) (by simpa using hlt)
   have hc1 := hc k (by simpa using hlt)
   rw [List.getElem_map] at hc1
   have hl : (k : Int) < (xs.length : Int) := by omega
   clear hc
   by_cases he : x = xs[k]
   ·have HM : Hid (x ∈ xs) := by show x ∈ xs; rw [he]; exact List.getElem_mem hlt
    have hE : (x == xs[k]) = true := by simpa using he
    clear he
    generalize xs[k] = y at *
    go_wp2
    go_ret
    exact ⟨_, rfl, by rw [decide_eq_true HM.out]; simp, _, rfl⟩
   ·have HN : Hid (∀ j, j < k + 1 → ∀ y, xs[j]? = some y → y ≠ x) := fun j hj y hy => by
     by_cases e : j = k
     ·subst e
      rw [List.getElem?_eq_getElem hlt] at hy
      cases hy
      exact fun e => he e.symm
     ·exact HI.out j (by omega) y hy
    have hE : (x == xs[k]) = false := by simpa using he
    clear he HI
    generalize xs[k] = y at *
    go_wp2
    go_roundw
    case rel => exact ⟨k + 1, by omega, by go_num, HN, _, by rfl⟩
    case measure => simp [intOf]; omega
  ·obtain rfl : k = xs.length := by omega
   have HM : Hid (¬ x ∈ xs) := fun e => by
    obtain ⟨j, hj, e⟩ := List.getElem_of_mem e
    exact HI.out j hj _ (List.getElem?_eq_getElem hj) e
   clear HI
   go_wp2
   go_ret
   exact ⟨_, rfl, by rw [decide_eq_false HM.out]; simp, n, rfl⟩
theorem am9 (a : Option Addr) (ca : Nat) (xs : List (List UInt8)) (x : List UInt8) (w : World) (ha : CV w a (xs.map str)) (hm : xs.length ≤ 1000) :
  Calls Tryz.prog 173 #[.slice a xs.length ca, str x] w fun e w' => e = .returned (.bool (decide (x ∈ xs))) ∧ ∃ n, w' = w.drewN n := by
 have C := au9 a ca xs x w ha hm
 generalize decide (x ∈ xs) = B at *
 clear ha
 go_enter Tryz.func173, Tryz.ntmps173
 go_wp2_with fail
 refine C.mono ?_
 rintro e w1 ⟨z, rfl, hz, n, rfl⟩
 clear C
 go_wp2
 go_ret
 exact ⟨rfl, n, rfl⟩

section
variable {c : PC} {w : World} {i nest bud : Nat} {vt vp : Value} {ts : List Tk} {ns : List (Nd × Nat)}
theorem a1W (h : PS c w i vt vp ts nest bud ns) (a : Option Addr) (ca : Nat) (xs : List (List UInt8)) (ha : CV w a (xs.map str)) (hm : xs.length ≤ 1000) :
  Calls Tryz.prog 150 #[.pointer (some ⟨c.g, 0, none⟩), .slice a xs.length ca] w fun e w' => e = .returned (.bool (decide ((hdT ts).text ∈ xs))) ∧ w.grownBy w' none := by
 have CN := D7 h
 have HC : Hid (∀ W, w.grownBy W none → Calls Tryz.prog 173 #[.slice a xs.length ca, str (hdT ts).text] W fun e w' => e = .returned (.bool (decide ((hdT ts).text ∈ xs))) ∧ ∃ n, w' = W.drewN n) := fun W G => am9 a ca xs _ W (ha.keptNone G) hm
 unfold tkC at CN
 have HF := fun k p x n W => (N6 k p x n W).2.2.1
 generalize hdT ts = t at *
 obtain ⟨tk, tp, tx, tn⟩ := t
 simp only at *
 generalize decide (tx ∈ xs) = B at *
 clear h ha
 go_enter Tryz.func150, Tryz.ntmps150
 go_wp2_with fail
 refine CN.mono ?_
 rintro x w1 ⟨rfl, G⟩
 clear CN
 go_wp2_with fail
 refine (HC.out w1 G).mono ?_
 rintro x w2 ⟨rfl, n, rfl⟩
 clear HC
 go_wp2
 go_ret
 exact ⟨rfl, d3 G (f9 _ _ _)⟩
def a6Z (c : PC) (w : World) (vt vp : Value) (ts : List Tk) (nest bud : Nat) (ns : List (Nd × Nat)) : Bool → World → Prop
 | true, w' => Ret c w vt vp ts.tail nest (bud + 1) ns w'
 | false, w' => w.grownBy w' none
theorem a2B (h : PS c w i vt vp ts nest bud ns) (x : List UInt8) (hx : M3 x) :
  Calls Tryz.prog 229 #[.pointer (some ⟨c.g, 0, none⟩), str x] w fun e w' => e = .returned (.bool (isB ts x)) ∧ a6Z c w vt vp ts nest bud ns (isB ts x) w' := by
 have hb := a0J h.good.hd hx
 have G0 := World.grownBy_alloc w (.cells #[str x] 9) none
 have CS := a1W (h.keep G0) (some ⟨w.heap.size, 0, none⟩) 1 [x] (o4 w _ _) (by simp)
 have hm : decide ((hdT ts).text ∈ [x]) = isB ts x := by rw [hb]; simp
 rw [hm] at CS
 have HT : Hid (∀ W, w.grownBy W none → isB ts x = true → Calls Tryz.prog 151 #[.pointer (some ⟨c.g, 0, none⟩)] W fun e w' => e = .returned (.agg (tkC (hdT ts))) ∧ Ret c w vt vp ts.tail nest (bud + 1) ns w') := fun W G hb' =>
  (P7 (h.keep G) (M9 hb')).mono fun e w' ⟨he, hR⟩ => ⟨he, Ret.of (GB.non G) (fun _ _ k => k) hR⟩
 generalize (⟨x.toArray⟩ : ByteArray) = X at *
 clear h hm hb
 generalize isB ts x = B at *
 simp only [List.length_singleton] at CS
 cases B with
 | true =>
  go_enter Tryz.func229, Tryz.ntmps229
  go_wp2_with fail
  refine CS.mono ?_
  rintro e w1 ⟨rfl, G⟩
  clear CS
  go_wp2_with fail
  refine (HT.out w1 (d3 G0 G) (by first | trivial | rfl)).mono ?_
  rintro e w2 ⟨rfl, R⟩
  clear HT G G0
  go_wp2
  go_ret
  exact ⟨rfl, R⟩
 | false =>
  go_enter Tryz.func229, Tryz.ntmps229
  go_wp2_with fail
  refine CS.mono ?_
  rintro e w1 ⟨rfl, G⟩
  clear CS
  go_wp2
  go_ret
  exact ⟨rfl, d3 G0 G⟩
def ae7 (c : PC) (w : World) (vt vp : Value) (nest bud : Nat) (ns : List (Nd × Nat)) (r : Except Er (List Tk)) (e : Ending) (w' : World) : Prop := match r with
 | .ok ts' => e = .returned (.tuple #[]) ∧ Ret c w vt vp ts' nest bud ns w'
 | .error er => e = .panicked (Z2 er) ∧ GB w w' (d4 c.g vt vp)
theorem a2i (h : PS c w i vt vp ts nest bud ns) (x : List UInt8) (hx : M3 x) :
  Calls Tryz.prog 225 #[.pointer (some ⟨c.g, 0, none⟩), str x] w (ae7 c w vt vp nest (bud + 1) ns (m3 x ts)) := by
 have CS := a2B h x hx
 have HS : Hid (∀ W, w.grownBy W none → Calls Tryz.prog 88 #[.pointer (some ⟨c.g, 0, none⟩)] W fun e w' => e = .panicked (Z2 (W9 ts)) ∧ W.grownBy w' none) := fun W G => a3f (h.keep G)
 unfold m3
 generalize (⟨x.toArray⟩ : ByteArray) = X at *
 cases hb : isB ts x with
 | true =>
  rw [if_pos rfl]
  rw [hb] at CS
  clear h HS hb
  go_enter Tryz.func225, Tryz.ntmps225
  go_wp2_with fail
  refine CS.mono ?_
  rintro e w1 ⟨rfl, R⟩
  clear CS
  go_wp2
  go_end0
  exact ⟨rfl, R⟩
 | false =>
  rw [if_neg (by simp), a5A]
  rw [hb] at CS
  clear h hb
  go_enter Tryz.func225, Tryz.ntmps225
  go_wp2_with fail
  refine CS.mono ?_
  rintro e w1 ⟨rfl, hG⟩
  have G : w.grownBy w1 none := hG
  clear CS hG
  go_wp2_with fail
  refine (HS.out w1 G).mono ?_
  rintro e w2 ⟨rfl, G2⟩
  clear HS
  go_wp2
  exact ⟨rfl, rfl, GB.non (d3 G G2)⟩
theorem a2x (h : PS c w i vt vp ts nest bud ns) :
  Calls Tryz.prog 223 #[.pointer (some ⟨c.g, 0, none⟩)] w (Z3 c w vt vp nest (bud + 1) ns (fun n : Nat => .int .u32 (n : Int)) (j7 ts)) := by
 have CN := D7 h
 have HS : Hid (∀ W, w.grownBy W none → Calls Tryz.prog 88 #[.pointer (some ⟨c.g, 0, none⟩)] W fun e w' => e = .panicked (Z2 (W9 ts)) ∧ W.grownBy w' none) := fun W G => a3f (h.keep G)
 have HT : Hid (∀ W, w.grownBy W none → (hdT ts).kind ≠ 0 → Calls Tryz.prog 151 #[.pointer (some ⟨c.g, 0, none⟩)] W fun e w' => e = .returned (.agg (tkC (hdT ts))) ∧ Ret c w vt vp ts.tail nest (bud + 1) ns w') := fun W G hk =>
  (P7 (h.keep G) hk).mono fun e w' ⟨he, hR⟩ => ⟨he, Ret.of (GB.non G) (fun _ _ k => k) hR⟩
 unfold j7
 rw [a5A]
 generalize W9 ts = er at *
 unfold tkC at CN HT
 have HF := fun k p x n W => (N6 k p x n W).1
 have HF3 := fun k p x n W => (N6 k p x n W).2.2.2
 generalize hdT ts = t at *
 obtain ⟨tk, tp, tx, tn⟩ := t
 simp only at *
 clear h
 by_cases hk : tk = 1
 ·rw [if_pos hk]
  have hk' : ((tk : Int) != 1) = false := by rw [hk]; rfl
  have hk0 : tk ≠ 0 := by omega
  clear hk HS
  go_enter Tryz.func223, Tryz.ntmps223
  go_wp2_with fail
  refine CN.mono ?_
  rintro e w1 ⟨rfl, G⟩
  clear CN
  go_wp2_with fail
  refine (HT.out w1 G hk0).mono ?_
  rintro e w2 ⟨rfl, R⟩
  clear HT G
  go_wp2
  go_ret
  exact ⟨rfl, R⟩
 ·rw [if_neg hk]
  have hk' : ((tk : Int) != 1) = true := by rw [bne_iff_ne]; omega
  clear hk HT
  go_enter Tryz.func223, Tryz.ntmps223
  go_wp2_with fail
  refine CN.mono ?_
  rintro e w1 ⟨rfl, G⟩
  clear CN
  go_wp2_with fail
  refine (HS.out w1 G).mono ?_
  rintro e w2 ⟨rfl, G2⟩
  clear HS
  go_wp2
  exact ⟨rfl, rfl, GB.non (d3 G G2)⟩
theorem ap3 (h : PS c w i vt vp ts nest bud ns) :
  Calls Tryz.prog 34 #[.pointer (some ⟨c.g, 0, none⟩)] w fun e w' => w.grownBy w' none ∧ (((hdT ts).kind = 0 ∧ e = .returned (.tuple #[])) ∨ ((hdT ts).kind ≠ 0 ∧ e = .panicked (Z2 (W9 ts)))) := by
 have CN := D7 h
 have HS : Hid (∀ W, w.grownBy W none → Calls Tryz.prog 88 #[.pointer (some ⟨c.g, 0, none⟩)] W fun e w' => e = .panicked (Z2 (W9 ts)) ∧ W.grownBy w' none) := fun W G => a3f (h.keep G)
 generalize W9 ts = er at *
 unfold tkC at CN
 have HF := fun k p x n W => (N6 k p x n W).1
 generalize hdT ts = t at *
 obtain ⟨tk, tp, tx, tn⟩ := t
 simp only at *
 clear h
 by_cases hk : tk = 0
 ·have hk' : ((tk : Int) != 0) = false := by rw [hk]; rfl
  have HK : Hid (tk = 0) := hk
  clear hk HS
  go_enter Tryz.func34, Tryz.ntmps34
  go_wp2_with fail
  refine CN.mono ?_
  rintro e w1 ⟨rfl, G⟩
  clear CN
  go_wp2
  go_end0
  exact ⟨G, .inl ⟨HK.out, rfl⟩⟩
 ·have hk' : ((tk : Int) != 0) = true := by rw [bne_iff_ne]; omega
  have HK : Hid (tk ≠ 0) := hk
  clear hk
  go_enter Tryz.func34, Tryz.ntmps34
  go_wp2_with fail
  refine CN.mono ?_
  rintro e w1 ⟨rfl, G⟩
  clear CN
  go_wp2_with fail
  refine (HS.out w1 G).mono ?_
  rintro e w2 ⟨rfl, G2⟩
  clear HS
  go_wp2
  exact ⟨rfl, d3 G G2, .inr ⟨HK.out, rfl⟩⟩

end
end Go.Proofs.YtklipelnjgpnjaaGreatDoor
