import Derived.Test.YtlfmddjppejmaaaGreatDoorqLotQ10
import Derived.Deep.DeepCutAuto
import Derived.Test.YtlfmddjppejmaaaGreatDoorqLotQ4
set_option maxHeartbeats 64000000
set_option maxRecDepth 100000
namespace Go.Proofs.YtlfmddjppejmaaaGreatDoor
open Go.RowKit
theorem a6M (s : List UInt8) (p : UInt8 → Bool) : s = s.takeWhile p ++ s.drop (s.takeWhile p).length := by
 have h := a1t p s
 generalize (s.takeWhile p).length = n at h
 rw [h, List.take_append_drop]
theorem a6L (s : List UInt8) (p : UInt8 → Bool) (c : UInt8) (r : List UInt8) (h : s.drop (s.takeWhile p).length = c :: r) : p c = false := by
 induction s with
 | nil => simp at h
 | cons a s ih =>
  by_cases ha : p a = true
  ·rw [List.takeWhile_cons_of_pos ha] at h
   exact ih (by simpa using h)
  ·rw [List.takeWhile_cons_of_neg ha] at h
   simp at h
   rw [← h.1]
   simpa using ha
theorem a7C (s : ByteArray) (hs : s.size ≤ 140737488355328) (w : World) (T : Tab w) :
  Calls Tryz.prog 15 #[.string s] w fun e w' => ∃ v, e = .returned (.tuple #[v, .int .i64 (a0F (E4 (sl s)) : Int), .int .i64 (a0E (E4 (sl s)))]) ∧ D9 w' w.heap.size v (a1N (E4 (sl s))) ∧ w.grownBy w' none := by
 by_cases hl : 65536 < s.size
 ·have e0 : E4 (sl s) = .error (0, 100) := by rw [E4, if_pos (by rw [j0]; exact hl)]
  rw [e0]
  have hl' : (65536 : Int) < (s.size : Int) := by omega
  clear e0 T
  go_enter Tryz.func15, Tryz.ntmps15
  go_wp2
  go_ret3
  exact ⟨_, rfl, World.ownsRow_nil _ _ _ _, World.grownBy.refl _ _⟩
 have e0 : E4 (sl s) = A9 0 (sl s) := by rw [E4, if_neg (by rw [j0]; exact hl)]
 have hl' : ¬ (65536 : Int) < (s.size : Int) := by omega
 have hl2 : s.size ≤ 65536 := by omega
 obtain ⟨ans, hans⟩ : ∃ ans, E4 (sl s) = ans := ⟨_, rfl⟩
 have HA : Hid (A9 0 (sl s) = ans) := by show A9 0 (sl s) = ans; rw [← e0]; exact hans
 rw [hans]
 have HT : Hid (Tab w) := T
 clear e0 hans hl T
 obtain ⟨i0, hi, hz0, hz1, hz2⟩ := info_parts a4b
 go_enter Tryz.func15, Tryz.ntmps15
 go_upto_region 5 with fail
 go_loopw [5, 6] (fun u x wr => ∃ (j : Nat) (us : List Tk), j ≤ s.size ∧ us.length ≤ j ∧ x = .int .i64 j ∧ Hid (P3 us (A9 j ((sl s).drop j)) = ans) ∧ D9 wr w.heap.size u us ∧ w.grownBy wr none) (fun _ x _ => s.size - (intOf x).toNat)
 case atStart => exact ⟨0, [], Nat.zero_le _, Nat.zero_le _, rfl, by show P3 [] (A9 0 ((sl s).drop 0)) = ans; rw [List.drop_zero, HA.out]; cases ans <;> rfl, World.ownsRow_nil _ _ _ _, World.grownBy.refl _ _⟩
 case round =>
  clear HA
  obtain ⟨j, us, hj, hu, rfl, HI, OU, G⟩ := hrel
  have z0 : (0 : Int) ≤ (j : Int) := by omega
  have hji : (j : Int) ≤ (s.size : Int) := by omega
  have hex : ∀ k, sl (s.extract k s.size) = (sl s).drop k := fun k => by
   rw [N1]
   exact List.take_of_length_le (by rw [List.length_drop, j0]; exact Nat.le_refl _)
  have hxs : ∀ k, (s.extract k s.size).size ≤ 140737488355328 := fun k => by rw [← j0, hex, List.length_drop, j0]; omega
  have CB := ac7 (s.extract j s.size) (hxs j) wr
  rw [hex j] at CB
  have hsplit := a6M ((sl s).drop j) y9
  have hnot := a6L ((sl s).drop j) y9
  have hbl : (((sl s).drop j).takeWhile y9).length ≤ s.size - j := by
   have := Y1 y9 ((sl s).drop j)
   rw [List.length_drop, j0] at this
   exact this
  have hskip := a7A j (((sl s).drop j).takeWhile y9) (((sl s).drop j).drop (((sl s).drop j).takeWhile y9).length) (fun b hb => a0Z y9 _ hb)
  rw [← hsplit, List.drop_drop] at hskip
  simp only [List.drop_drop] at hnot
  clear hsplit
  obtain ⟨B, hB⟩ : ∃ B, ((sl s).drop j).takeWhile y9 = B := ⟨_, rfl⟩
  rw [hB] at CB hbl hskip hnot
  have hBs : ((⟨B.toArray⟩ : ByteArray).size : Int) = (B.length : Int) := by rw [← j0, J3]
  obtain ⟨k, hk⟩ : ∃ k, j + B.length = k := ⟨_, rfl⟩
  have hw : IntKind.i64.wrap ((j : Int) + (B.length : Int)) = (k : Int) := by rw [IntKind.wrap_i64]; omega
  rw [hk] at hskip hnot
  have HI2 : Hid (P3 us (A9 k ((sl s).drop k)) = ans) := by show P3 us _ = ans; rw [← hskip]; exact HI.out
  have hks : k ≤ s.size := by omega
  have hku : us.length ≤ k := by omega
  have hjk : j ≤ k := by omega
  have HNB : Hid (∀ c r, (sl s).drop k = c :: r → y9 c = false) := hnot
  have z1 : (0 : Int) ≤ (k : Int) := by omega
  have hksi : (k : Int) ≤ (s.size : Int) := by omega
  clear HI hskip hnot hB hbl hk hu hj
  by_cases hlt : k < s.size
  ·have hne : ((k : Int) == (s.size : Int)) = false := by rw [beq_eq_false_iff_ne]; omega
   have HD : Hid ((sl s).drop k = s[k] :: (sl s).drop (k + 1)) := D8 s k hlt
   have hb : y9 s[k] = false := HNB.out _ _ HD.out
   have hpos : 0 < (s.extract k s.size).size := by rw [← j0, hex, List.length_drop, j0]; omega
   have CT := a84 (s.extract k s.size) (hxs k) hpos wr (HT.out.grown G)
   rw [hex k] at CT
   clear hpos hxs hex HNB
   cases ht : o7 ((sl s).drop k) with
   | error er =>
    rw [ht] at CT
    simp only [Y2, Y3, tkA] at CT
    have hz := a3a ht
    have hans : ans = .error (k, er) := by
     rw [← HI2.out, HD.out, a0H k hb (by rw [← HD.out]; exact ht)]
     rfl
    subst hans
    have HG : Hid (w.grownBy wr none) := G
    clear HI2 HD OU G ht
    go_wp2_with fail
    refine CB.mono ?_
    rintro e w1 ⟨rfl, rfl⟩
    clear CB
    go_wp2_with fail
    refine CT.mono ?_
    rintro e w1 ⟨rfl, K1⟩
    have G1 := d5 HG.out K1
    clear CT K1
    go_wp2
    go_ret3
    exact ⟨_, rfl, World.ownsRow_nil _ _ _ _, d5 G1 (World.grownBy_alloc _ _ _)⟩
   | ok y =>
    obtain ⟨q, t, n⟩ := y
    rw [ht] at CT
    simp only [Y2, Y3, tkA] at CT
    have hok := V9 ht
    have htl : 1 ≤ t.length := List.length_pos_iff.2 hok.1
    have htl2 : k + t.length ≤ s.size := by
     have := hok.2.2.1
     rw [List.length_drop, j0] at this
     omega
    have HN : Hid (P3 (us ++ [⟨q, k, t, n⟩]) (A9 (k + t.length) ((sl s).drop (k + t.length))) = ans) := by
     show P3 _ _ = ans
     have e1 := a0J k hb (by rw [← HD.out]; exact ht)
     rw [← HD.out, List.drop_drop] at e1
     rw [← HI2.out, e1]
     cases A9 (k + t.length) ((sl s).drop (k + t.length)) with
     | error e => rfl
     | ok ts => simp [P3]
    have HG : Hid (w.grownBy wr none) := G
    have HOU : Hid (D9 wr w.heap.size u5 us) := OU
    clear HI2 HD OU G ht hok
    go_wp2_with fail
    refine CB.mono ?_
    rintro e w1 ⟨rfl, rfl⟩
    clear CB
    go_wp2_with fail
    refine CT.mono ?_
    rintro e w2 ⟨rfl, K2⟩
    clear CT
    go_upto_region 12 with fail
    have VA := VAt.alloc w2 42 #[.int .i64 (q : Int), .int .i64 (k : Int), str t, .int .u32 (n : Int)]
    have K3 := d5 K2 (World.grownBy_alloc w2 (.cells #[.int .i64 (q : Int), .int .i64 (k : Int), str t, .int .u32 (n : Int)] 42) none)
    have HV : Hid (∀ y, u5.ownBlock = some y → y < w2.heap.size) := fun y hy => by
     have := (World.ownsRow.lt HOU.out y hy).2
     have := K2.size
     omega
    have O3 : D9 (w2.alloc (.cells #[.int .i64 (q : Int), .int .i64 (k : Int), str t, .int .u32 (n : Int)] 42)) w.heap.size u5 us := y8 HOU.out K3
    have G3 := d5 HG.out K3
    have HVL : Hid (w.heap.size ≤ w2.heap.size) := (d5 HG.out K2).size
    generalize w2.alloc (.cells #[.int .i64 (q : Int), .int .i64 (k : Int), str t, .int .u32 (n : Int)] 42) = w3 at *
    generalize w2.heap.size = V at *
    have HSZ : Hid ((Tryz.prog.info? 42).map (·.size) = some (#[.int .i64 (q : Int), .int .i64 (k : Int), str t, .int .u32 (n : Int)] : Array Value).size) := p5
    clear K2 K3 HOU HG
    have KA := World.grownBy_alloc w3 (.cells #[.int .i64 (q : Int), .int .i64 (k : Int), str t, .int .u32 (n : Int)] 42) none
    have HO4 : Hid (D9 (w3.alloc (.cells #[.int .i64 (q : Int), .int .i64 (k : Int), str t, .int .u32 (n : Int)] 42)) w.heap.size u5 us ∧ VAt (w3.alloc (.cells #[.int .i64 (q : Int), .int .i64 (k : Int), str t, .int .u32 (n : Int)] 42)) V 42 #[.int .i64 (q : Int), .int .i64 (k : Int), str t, .int .u32 (n : Int)] ∧ w.grownBy (w3.alloc (.cells #[.int .i64 (q : Int), .int .i64 (k : Int), str t, .int .u32 (n : Int)] 42)) none) := ⟨y8 O3 KA, VA.kept KA, d5 G3 KA⟩
    have HCB : Hid (CV (w3.alloc (.cells #[.int .i64 (q : Int), .int .i64 (k : Int), str t, .int .u32 (n : Int)] 42)) (some ⟨w3.heap.size, 0, none⟩) [.int .i64 (q : Int), .int .i64 (k : Int), str t, .int .u32 (n : Int)]) := m8 w3 _ _
    clear O3 G3 KA
    go_wp2_with (first
     | refine wpList_load_row rfl 42 (.tmp 7) rfl V rfl 42 _ (0, 0) _ VA Tryz.underlying42 rfl HSZ.out ?_
     | (at_builtin; refine Y5 rfl (.tmp 41) (.tmp 43) 33 rfl 42 i0 _ 4 40 Tryz.underlying33 hi hz0 hz1 hz2 rfl (by decide) w.heap.size u5 us.length (J6 us) rfl ?r1 (some ⟨w3.heap.size, 0, none⟩) 1 1 [.int .i64 (q : Int), .int .i64 (k : Int), str t, .int .u32 (n : Int)] rfl rfl (by simp) ?r2 (by simp [Value.oneCell']) ?r3 ?r4 ?r5 ?r6))
    case r1 => exact HO4.out.1
    case r2 => exact HCB.out
    case r3 => unfold maxLen; omega
    case r4 => omega
    case r5 => exact HO4.out.2.2.size
    case r6 =>
     intro v5 w5 O5 K5
     have V5 := HO4.out.2.1.grown K5 (fun e => by have := HV.out V e; omega)
     have G5 := z6 HO4.out.2.2 K5 (fun x hx => (World.ownsRow.lt HO4.out.1 x hx).1)
     have HO5 : Hid (D9 w5 w.heap.size v5 (us ++ [⟨q, k, t, n⟩]) ∧ w.grownBy w5 none) := ⟨by
      show w5.ownsRow w.heap.size 42 4 v5 (us ++ [(⟨q, k, t, n⟩ : Tk)]).length (J6 (us ++ [(⟨q, k, t, n⟩ : Tk)]))
      rw [List.length_append, a1E]
      exact O5, G5⟩
     have c2 : w5.cell? ⟨V, 2, none⟩ = some (str t) := V5.cell 2
     have hw2 : IntKind.i64.wrap ((k : Int) + (t.length : Int)) = ((k + t.length : Nat) : Int) := by rw [IntKind.wrap_i64]; omega
     have hts : ((⟨t.toArray⟩ : ByteArray).size : Int) = (t.length : Int) := by rw [← j0, J3]
     clear VA HO4 HCB O5 K5 V5 G5
     go_wp2
     go_roundw
     case rel => exact ⟨k + t.length, us ++ [⟨q, k, t, n⟩], htl2, by rw [List.length_append, List.length_singleton]; omega, by go_num, HN, HO5.out.1, HO5.out.2⟩
     case measure => simp [intOf]; omega
  ·obtain rfl : k = s.size := by omega
   have hne : ((s.size : Int) == (s.size : Int)) = true := by simp
   have hans : ans = .ok (us ++ [⟨0, s.size, [], 0⟩]) := by
    rw [← HI2.out, List.drop_eq_nil_of_le (by rw [j0]; exact Nat.le_refl _), a0I]
    rfl
   subst hans
   have KA := World.grownBy_alloc wr (.cells #[.int .i64 0, .int .i64 (s.size : Int), str [], .int .u32 0] 42) none
   have HO4 : Hid (D9 (wr.alloc (.cells #[.int .i64 0, .int .i64 (s.size : Int), str [], .int .u32 0] 42)) w.heap.size u5 us ∧ w.grownBy (wr.alloc (.cells #[.int .i64 0, .int .i64 (s.size : Int), str [], .int .u32 0] 42)) none) := ⟨y8 OU KA, d5 G KA⟩
   have HCB : Hid (CV (wr.alloc (.cells #[.int .i64 0, .int .i64 (s.size : Int), str [], .int .u32 0] 42)) (some ⟨wr.heap.size, 0, none⟩) [.int .i64 0, .int .i64 (s.size : Int), str [], .int .u32 0]) := m8 wr _ _
   clear HI2 OU G KA hxs hex HNB
   go_wp2_with fail
   refine CB.mono ?_
   rintro e w1 ⟨rfl, rfl⟩
   clear CB
   go_wp2_with (at_builtin; refine Y5 rfl (.tmp 23) (.tmp 26) 33 rfl 42 i0 _ 4 40 Tryz.underlying33 hi hz0 hz1 hz2 rfl (by decide) w.heap.size u5 us.length (J6 us) rfl ?r1 (some ⟨wr.heap.size, 0, none⟩) 1 1 [.int .i64 0, .int .i64 (s.size : Int), str [], .int .u32 0] rfl rfl (by simp) ?r2 (by simp [Value.oneCell']) ?r3 ?r4 ?r5 ?r6)
   case r1 => exact HO4.out.1
   case r2 => exact HCB.out
   case r3 => unfold maxLen; omega
   case r4 => omega
   case r5 => have := HO4.out.2.size; simpa using this
   case r6 =>
    intro v5 w5 O5 K5
    have G5 := z6 HO4.out.2 K5 (fun x hx => (World.ownsRow.lt HO4.out.1 x hx).1)
    have HO5 : Hid (D9 w5 w.heap.size v5 (us ++ [⟨0, s.size, [], 0⟩]) ∧ w.grownBy w5 none) := ⟨by
     show w5.ownsRow w.heap.size 42 4 v5 (us ++ [(⟨0, s.size, [], 0⟩ : Tk)]).length (J6 (us ++ [(⟨0, s.size, [], 0⟩ : Tk)]))
     rw [List.length_append, a1E]
     exact O5, G5⟩
    clear HO4 HCB O5 K5 G5
    go_wp2
    go_ret3
    exact ⟨_, rfl, HO5.out.1, HO5.out.2⟩
theorem D9.toks {w : World} {base : Nat} {v : Value} {xs : List Tk} (h : D9 w base v xs) (hx : 0 < xs.length) : ∃ g cap, v = .slice (some ⟨g, 0, none⟩) xs.length cap ∧ ∀ i (hi : i < xs.length), w.cell? ⟨g, i * 4, none⟩ = some (.int .i64 (xs[i].kind : Int)) ∧ w.cell? ⟨g, i * 4 + 1, none⟩ = some (.int .i64 (xs[i].pos : Int)) ∧
   w.cell? ⟨g, i * 4 + 2, none⟩ = some (str xs[i].text) ∧ w.cell? ⟨g, i * 4 + 3, none⟩ = some (.int .u32 (xs[i].num : Int)) := by
 obtain ⟨g, cap, hv, -⟩ := a1X h hx
 obtain ⟨ao, cap', hv', C, -⟩ := L1 h
 rw [hv] at hv'
 simp only [Value.slice.injEq, true_and] at hv'
 obtain ⟨rfl, rfl⟩ := hv'
 refine ⟨g, cap, hv, fun i hi => ?_⟩
 obtain ⟨b, off, e, hc⟩ := C.toks hi
 simp only [Option.some.injEq, Addr.mk.injEq] at e
 obtain ⟨rfl, rfl, -⟩ := e
 have := hc i hi
 simpa using this
theorem a2D : ∀ (k p : Nat) (s : List UInt8) (ts : List Tk), s.length ≤ k → A9 p s = .ok ts → ts.length ≤ s.length + 1
 | k, p, [], ts, _, h => by
  rw [a0I] at h
  cases h
  simp
 | 0, p, c :: r, ts, hk, h => by simp at hk
 | k + 1, p, c :: r, ts, hk, h => by
  simp only [List.length_cons] at hk
  cases hb : y9 c with
  | true =>
   rw [a0G p r hb] at h
   have := a2D k (p + 1) r ts (by omega) h
   simp only [List.length_cons]
   omega
  | false =>
   cases ht : o7 (c :: r) with
   | error e => rw [a0H p hb ht] at h; cases h
   | ok x =>
    obtain ⟨q, t, n⟩ := x
    rw [a0J p hb ht] at h
    have hl := List.length_pos_iff.2 (V9 ht).1
    have hle := (V9 ht).2.2.1
    split at h
    ·cases h
    ·rename_i ts' h'
     cases h
     have := a2D k (p + t.length) ((c :: r).drop t.length) ts' (by rw [List.length_drop, List.length_cons]; omega) h'
     rw [List.length_drop] at this
     simp only [List.length_cons] at *
     omega
theorem D9.items {w : World} {base : Nat} {v : Value} {xs : List Tk} (h : D9 w base v xs) : ∃ ao ca, v = .slice ao xs.length ca ∧ CV w ao (J6 xs) ∧ xs.length ≤ ca ∧ (ao = none → ca = 0) := by
 obtain ⟨ao, cap, hv, C, h1, -, h2, -⟩ := L1 h
 exact ⟨ao, cap, hv, C, h1, h2⟩
theorem a2E : ∀ (k p : Nat) (s : List UInt8) (ts : List Tk), s.length ≤ k → A9 p s = .ok ts → ∀ t ∈ ts, t.text.length ≤ s.length ∧ t.pos ≤ p + s.length ∧ t.kind ≤ 5 ∧ t.num ≤ 4294967295
 | k, p, [], ts, _, h, t, ht => by
  rw [a0I] at h
  cases h
  simp only [List.mem_singleton] at ht
  subst ht
  simp
 | 0, p, c :: r, ts, hk, h, t, ht => by simp at hk
 | k + 1, p, c :: r, ts, hk, h, t, ht => by
  simp only [List.length_cons] at hk
  cases hb : y9 c with
  | true =>
   rw [a0G p r hb] at h
   have := a2E k (p + 1) r ts (by omega) h t ht
   simp only [List.length_cons]
   omega
  | false =>
   cases hx : o7 (c :: r) with
   | error e => rw [a0H p hb hx] at h; cases h
   | ok x =>
    obtain ⟨q, u, n⟩ := x
    rw [a0J p hb hx] at h
    have hok := V9 hx
    have hl := List.length_pos_iff.2 hok.1
    have hle := hok.2.2.1
    split at h
    ·cases h
    ·rename_i ts' h'
     cases h
     rcases List.mem_cons.1 ht with rfl | ht
     ·exact ⟨hle, by simp only; omega, by simp only; omega, hok.2.2.2.2.2⟩
     ·have := a2E k (p + u.length) ((c :: r).drop u.length) ts' (by rw [List.length_drop, List.length_cons]; omega) h' t ht
      rw [List.length_drop] at this
      simp only [List.length_cons] at *
      omega
theorem a7B {s : List UInt8} {ts : List Tk} (h : E4 s = .ok ts) : s.length ≤ 65536 ∧ ∃ us, ts = us ++ [⟨0, s.length, [], 0⟩] ∧ us.length ≤ 65536 ∧ ∀ t ∈ us, t.text ≠ [] ∧ o7 t.text = .ok (t.kind, t.text, t.num) ∧ t.text.length ≤ 65536 ∧ t.pos ≤ 65536 ∧ t.kind ≤ 5 ∧ t.num ≤ 4294967295 := by
 unfold E4 at h
 split at h
 ·cases h
 ·rename_i hl
  obtain ⟨us, e, hu⟩ := a2C _ 0 s ts (Nat.le_refl _) h
  have hf := a2D _ 0 s ts (Nat.le_refl _) h
  have ht := a2E _ 0 s ts (Nat.le_refl _) h
  rw [Nat.zero_add] at e
  refine ⟨by omega, us, e, ?_, fun t hm => ?_⟩
  ·rw [e, List.length_append, List.length_singleton] at hf
   omega
  ·obtain ⟨a, b⟩ := hu t hm
   obtain ⟨c, d, e', f⟩ := ht t (by rw [e]; exact List.mem_append_left _ hm)
   exact ⟨a, b, by omega, by omega, e', f⟩
theorem a4i {s : List UInt8} {x : Nat × Int} (h : E4 s = .error x) : (x.2 != 0) = true := by
 unfold E4 at h
 split at h
 ·cases h; rfl
 ·exact go _ 0 s (Nat.le_refl _) x h
where
 go : ∀ (k p : Nat) (s : List UInt8), s.length ≤ k → ∀ x, A9 p s = .error x → (x.2 != 0) = true
  | k, p, [], _, x, h => by rw [a0I] at h; cases h
  | 0, p, c :: r, hk, x, h => by simp at hk
  | k + 1, p, c :: r, hk, x, h => by
   simp only [List.length_cons] at hk
   cases hb : y9 c with
   | true =>
    rw [a0G p r hb] at h
    exact go k (p + 1) r (by omega) x h
   | false =>
    cases hx : o7 (c :: r) with
    | error e =>
     rw [a0H p hb hx] at h
     cases h
     exact a3a hx
    | ok y =>
     obtain ⟨q, u, n⟩ := y
     rw [a0J p hb hx] at h
     have hl := List.length_pos_iff.2 (V9 hx).1
     split at h
     ·rename_i e h'
      cases h
      exact go k (p + u.length) ((c :: r).drop u.length) (by rw [List.length_drop, List.length_cons]; omega) _ h'
     ·cases h
def TkG (t : Tk) : Prop := ((t.kind = 0 ∧ t.text = []) ∨ o7 t.text = .ok (t.kind, t.text, t.num)) ∧ t.text.length ≤ 65536 ∧ t.pos ≤ 65536 ∧ t.num ≤ 4294967295 ∧ t.kind ≤ 5
def F9 (x : List UInt8) : Prop := x ≠ [] ∧ ∃ q, (q = 5 ∨ q = 2) ∧ o7 x = .ok (q, x, 0)
def I0 (ts : List Tk) : Prop := a0x ts ∧ ∀ t ∈ ts, TkG t
theorem I0.hd {ts : List Tk} (h : I0 ts) : TkG (hdT ts) := h.2 _ h.1.mem
theorem I0.tail {ts : List Tk} (h : I0 ts) (hk : (hdT ts).kind ≠ 0) : I0 ts.tail := ⟨h.1.tail hk, fun t ht => h.2 t (List.mem_of_mem_tail ht)⟩
theorem I0.ne {ts : List Tk} (h : I0 ts) : ts ≠ [] := fun e => by
 obtain ⟨us, x, hx, -⟩ := h.1
 rw [e] at hx
 cases us <;> cases hx
theorem a4j {s : List UInt8} {ts : List Tk} (h : E4 s = .ok ts) : I0 ts ∧ ts.length ≤ 65537 := by
 obtain ⟨hl, us, rfl, hu, ht⟩ := a7B h
 have hk : ∀ t ∈ us, t.kind ≠ 0 := fun t hm => by
  have := (V9 (ht t hm).2.1).2.2.2.1
  omega
 refine ⟨⟨⟨us, _, rfl, rfl, hk⟩, fun t hm => ?_⟩, by rw [List.length_append, List.length_singleton]; omega⟩
 rcases List.mem_append.1 hm with hm | hm
 ·obtain ⟨-, h2, h3, h4, h5, h6⟩ := ht t hm
  exact ⟨.inr h2, h3, h4, h6, h5⟩
 ·rw [List.mem_singleton] at hm
  subst hm
  exact ⟨.inl ⟨rfl, rfl⟩, by simp, hl, by simp, by simp⟩
theorem T6 {ts : List Tk} {x : List UInt8} (h : TkG (hdT ts)) (hx : F9 x) : isB ts x = decide ((hdT ts).text = x) := by
 unfold isB
 by_cases e : (hdT ts).text = x
 ·rw [decide_eq_true e]
  obtain ⟨hne, q, hq, ht⟩ := hx
  rcases h.1 with ⟨-, h0⟩ | h1
  ·exact absurd (e.symm.trans h0) hne
  ·rw [e, ht] at h1
   have hk : (hdT ts).kind = q := (congrArg Prod.fst (Except.ok.inj h1)).symm
   rw [hk, e]
   rcases hq with rfl | rfl <;> simp
 ·rw [decide_eq_false e]
  simp [e]
theorem a1a {ts : List Tk} {x : List UInt8} {q : Nat} (h : TkG (hdT ts)) (hne : x ≠ []) (hx : o7 x = .ok (q, x, 0)) (e : (hdT ts).text = x) : (hdT ts).kind = q := by
 rcases h.1 with ⟨-, h0⟩ | h1
 ·exact absurd (e.symm.trans h0) hne
 ·rw [e, hx] at h1
  exact (congrArg Prod.fst (Except.ok.inj h1)).symm
def W7 : List (List UInt8) := [W5, W4, W6, q7, g9, j5, p9, C9, j1, j4]
theorem a1u : ∀ x ∈ W7, x ≠ [] ∧ o7 x = .ok (2, x, 0) ∧ l9 x = 0 := by
 intro x hx
 simp only [W7, List.mem_cons, List.not_mem_nil, or_false] at hx
 rcases hx with rfl | rfl | rfl | rfl | rfl | rfl | rfl | rfl | rfl | rfl <;> exact ⟨by decide, by kernel_rfl, by decide⟩
def a1P : List (List UInt8) := [[112, 112, 112], [105, 112], [105, 112, 54], [116, 99, 112], [117, 100, 112], [105, 99, 109, 112], [105, 99, 109, 112, 54], [108, 99, 112], [112, 97, 112], [99, 104, 97, 112], [105, 112, 99, 112], [105, 112, 54, 99, 112], [109, 112]]
theorem ah0 : ∀ x ∈ a1P, x ≠ [] ∧ o7 x = .ok (2, x, 0) := by
 intro x hx
 simp only [a1P, List.mem_cons, List.not_mem_nil, or_false] at hx
 rcases hx with rfl | rfl | rfl | rfl | rfl | rfl | rfl | rfl | rfl | rfl | rfl | rfl | rfl <;> exact ⟨by decide, by kernel_rfl⟩
theorem a7P {x : List UInt8} (h : l9 x ≠ 0) : x ∈ a1P := by
 unfold l9 at h
 simp only [a1P, List.mem_cons, List.not_mem_nil, or_false]
 by_cases e1 : x = [112, 112, 112]; · simp [e1]
 by_cases e2 : x = [105, 112]; · simp [e2]
 by_cases e3 : x = [105, 112, 54]; · simp [e3]
 by_cases e4 : x = [116, 99, 112]; · simp [e4]
 by_cases e5 : x = [117, 100, 112]; · simp [e5]
 by_cases e6 : x = [105, 99, 109, 112]; · simp [e6]
 by_cases e7 : x = [105, 99, 109, 112, 54]; · simp [e7]
 by_cases e8 : x = [108, 99, 112]; · simp [e8]
 by_cases e9 : x = [112, 97, 112]; · simp [e9]
 by_cases e10 : x = [99, 104, 97, 112]; · simp [e10]
 by_cases e11 : x = [105, 112, 99, 112]; · simp [e11]
 by_cases e12 : x = [105, 112, 54, 99, 112]; · simp [e12]
 by_cases e13 : x = [109, 112]; · simp [e13]
 simp [e1, e2, e3, e4, e5, e6, e7, e8, e9, e10, e11, e12, e13] at h
theorem a8G {rec : Nat → List Tk → Out} {nest : Nat} {ts : List Tk} (h : (hdT ts).kind = 1) : J2 rec nest ts = .ok ([({ ndK 1 with n := (hdT ts).num }, (hdT ts).pos)], ts.tail) := by rw [J2, if_pos h]
theorem a8J {rec : Nat → List Tk → Out} {nest : Nat} {ts : List Tk} (hG : TkG (hdT ts)) (h : (hdT ts).text = [40]) : J2 rec nest ts = s9 nest ts (d8 (rec (nest + 1) ts.tail) fun p => d8 (l5 [41] p.2) fun r => .ok (p.1, r)) := by
 have hk : (hdT ts).kind = 5 := a1a hG (by decide) (by kernel_rfl) h
 have hb : isB ts [40] = true := by rw [isB, hk, h]; rfl
 rw [J2, if_neg (by omega), if_pos hb]
theorem a8S {rec : Nat → List Tk → Out} {nest : Nat} {ts : List Tk} (hG : TkG (hdT ts)) (h : (hdT ts).text ∈ W7) : J2 rec nest ts = K9 ts := by
 obtain ⟨h0, h1, h2⟩ := a1u _ h
 have hk : (hdT ts).kind = 2 := a1a hG h0 h1 rfl
 have hb : ¬ isB ts [40] = true := fun e => by
  have := a0C e
  rw [this] at h
  simp [W7, W5, W4, W6, q7, g9, j5, p9, C9, j1, j4] at h
 rw [J2, if_neg (by omega), if_neg hb, if_neg (by omega), if_neg (by rw [h2]; simp)]
theorem a4T {rec : Nat → List Tk → Out} {nest : Nat} {ts : List Tk} (hG : TkG (hdT ts)) (h : l9 (hdT ts).text ≠ 0) : J2 rec nest ts = N7 rec nest (l9 (hdT ts).text) (hdT ts).pos ts.tail ∧ (hdT ts).kind = 2 := by
 obtain ⟨h0, h1⟩ := ah0 _ (a7P h)
 have hk : (hdT ts).kind = 2 := a1a hG h0 h1 rfl
 have hb : ¬ isB ts [40] = true := fun e => by
  have := a0C e
  rw [this] at h
  exact h (by decide)
 refine ⟨?_, hk⟩
 rw [J2, if_neg (by omega), if_neg hb, if_neg (by omega), if_pos h]
theorem a8F {rec : Nat → List Tk → Out} {nest : Nat} {ts : List Tk} (h1 : (hdT ts).kind ≠ 1) (h2 : (hdT ts).text ≠ [40]) (h3 : (hdT ts).text ∉ W7) (h4 : l9 (hdT ts).text = 0) : J2 rec nest ts = x6 ts 111 := by
 have hb : ¬ isB ts [40] = true := fun e => h2 (a0C e)
 rw [J2, if_neg h1, if_neg hb]
 by_cases hk : (hdT ts).kind ≠ 2
 ·rw [if_pos hk]
 ·rw [if_neg hk, if_neg (by rw [h4]; simp)]
  simp only [W7, List.mem_cons, List.not_mem_nil, or_false, not_or] at h3
  obtain ⟨a, b, c, d, e, f, g, h, i, j⟩ := h3
  rw [K9, if_neg a, if_neg b, if_neg c, if_neg d, if_neg (by simp [e, f, g, h, i, j])]

end Go.Proofs.YtlfmddjppejmaaaGreatDoor
