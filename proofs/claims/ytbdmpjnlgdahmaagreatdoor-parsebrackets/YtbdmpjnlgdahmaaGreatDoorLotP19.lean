/-
  Package lex: its contract. What every program answers that is one: awake of stage 10. What the statements of stage 10 share.
-/
import Derived.Test.YtbdmpjnlgdahmaaGreatDoorLkX
import Derived.Deep.DeepCutAuto
namespace Go.Proofs.YtbdmpjnlgdahmaaGreatDoor
open Go.RowKit
set_option maxRecDepth 100000

theorem drop_while (s : List UInt8) (p : UInt8 → Bool) : s = s.takeWhile p ++ s.drop (s.takeWhile p).length := by
  have h := takeWhile_pre p s
  generalize (s.takeWhile p).length = n at h
  rw [h, List.take_append_drop]
theorem drop_not (s : List UInt8) (p : UInt8 → Bool) (c : UInt8) (r : List UInt8) (h : s.drop (s.takeWhile p).length = c :: r) : p c = false := by
  induction s with
  | nil => simp at h
  | cons a s ih =>
    by_cases ha : p a = true
    · rw [List.takeWhile_cons_of_pos ha] at h
      exact ih (by simpa using h)
    · rw [List.takeWhile_cons_of_neg ha] at h
      simp at h
      rw [← h.1]
      simpa using ha

set_option maxRecDepth 100000 in
set_option maxHeartbeats 8000000 in
theorem lex_any (s : ByteArray) (hs : s.size ≤ 140737488355328) (w : World) (T : Tab w) :
    Calls Tryz.prog 16 #[.string s] w fun e w' => ∃ v, e = .returned (.tuple #[v, .int .i64 (lexP (lexV (sl s)) : Int), .int .i64 (lexE (lexV (sl s)))]) ∧ TOwns w' w.heap.size v (lexT (lexV (sl s))) ∧ w.grownBy w' none := by
  by_cases hl : 65536 < s.size
  · have e0 : lexV (sl s) = .error (0, 100) := by rw [lexV, if_pos (by rw [sl_len]; exact hl)]
    rw [e0]
    have hl' : (65536 : Int) < (s.size : Int) := by omega
    clear e0 T
    go_enter Tryz.func16, Tryz.ntmps16
    go_wp2
    go_ret3
    exact ⟨_, rfl, World.ownsRow_nil _ _ _ _, World.grownBy.refl _ _⟩
  have e0 : lexV (sl s) = lexR 0 (sl s) := by rw [lexV, if_neg (by rw [sl_len]; exact hl)]
  have hl' : ¬ (65536 : Int) < (s.size : Int) := by omega
  have hl2 : s.size ≤ 65536 := by omega
  obtain ⟨ans, hans⟩ : ∃ ans, lexV (sl s) = ans := ⟨_, rfl⟩
  have HA : Hid (lexR 0 (sl s) = ans) := by show lexR 0 (sl s) = ans; rw [← e0]; exact hans
  rw [hans]
  have HT : Hid (Tab w) := T
  clear e0 hans hl T
  obtain ⟨i0, hi, hz0, hz1, hz2⟩ := info_parts info42
  go_enter Tryz.func16, Tryz.ntmps16
  go_upto_region 5 with fail
  go_loopw [5, 6] (fun u x wr => ∃ (j : Nat) (us : List Tk), j ≤ s.size ∧ us.length ≤ j ∧ x = .int .i64 j ∧ Hid (glue us (lexR j ((sl s).drop j)) = ans) ∧ TOwns wr w.heap.size u us ∧ w.grownBy wr none) (fun _ x _ => s.size - (intOf x).toNat)
  case atStart => exact ⟨0, [], Nat.zero_le _, Nat.zero_le _, rfl, by show glue [] (lexR 0 ((sl s).drop 0)) = ans; rw [List.drop_zero, HA.out]; cases ans <;> rfl, World.ownsRow_nil _ _ _ _, World.grownBy.refl _ _⟩
  case round =>
    clear HA
    obtain ⟨j, us, hj, hu, rfl, HI, OU, G⟩ := hrel
    have z0 : (0 : Int) ≤ (j : Int) := by omega
    have hji : (j : Int) ≤ (s.size : Int) := by omega
    have hex : ∀ k, sl (s.extract k s.size) = (sl s).drop k := fun k => by
      rw [sl_extract]
      exact List.take_of_length_le (by rw [List.length_drop, sl_len]; exact Nat.le_refl _)
    have hxs : ∀ k, (s.extract k s.size).size ≤ 140737488355328 := fun k => by rw [← sl_len, hex, List.length_drop, sl_len]; omega
    have CB := runblank_any (s.extract j s.size) (hxs j) wr
    rw [hex j] at CB
    have hsplit := drop_while ((sl s).drop j) blankB
    have hnot := drop_not ((sl s).drop j) blankB
    have hbl : (((sl s).drop j).takeWhile blankB).length ≤ s.size - j := by
      have := takeWhile_len blankB ((sl s).drop j)
      rw [List.length_drop, sl_len] at this
      exact this
    have hskip := lexR_skip j (((sl s).drop j).takeWhile blankB) (((sl s).drop j).drop (((sl s).drop j).takeWhile blankB).length) (fun b hb => takeWhile_mem blankB _ hb)
    rw [← hsplit, List.drop_drop] at hskip
    simp only [List.drop_drop] at hnot
    clear hsplit
    obtain ⟨B, hB⟩ : ∃ B, ((sl s).drop j).takeWhile blankB = B := ⟨_, rfl⟩
    rw [hB] at CB hbl hskip hnot
    have hBs : ((⟨B.toArray⟩ : ByteArray).size : Int) = (B.length : Int) := by rw [← sl_len, sl_str]
    obtain ⟨k, hk⟩ : ∃ k, j + B.length = k := ⟨_, rfl⟩
    have hw : IntKind.i64.wrap ((j : Int) + (B.length : Int)) = (k : Int) := by rw [IntKind.wrap_i64]; omega
    rw [hk] at hskip hnot
    have HI2 : Hid (glue us (lexR k ((sl s).drop k)) = ans) := by show glue us _ = ans; rw [← hskip]; exact HI.out
    have hks : k ≤ s.size := by omega
    have hku : us.length ≤ k := by omega
    have hjk : j ≤ k := by omega
    have HNB : Hid (∀ c r, (sl s).drop k = c :: r → blankB c = false) := hnot
    have z1 : (0 : Int) ≤ (k : Int) := by omega
    have hksi : (k : Int) ≤ (s.size : Int) := by omega
    clear HI hskip hnot hB hbl hk hu hj
    by_cases hlt : k < s.size
    · have hne : ((k : Int) == (s.size : Int)) = false := by rw [beq_eq_false_iff_ne]; omega
      have HD : Hid ((sl s).drop k = s[k] :: (sl s).drop (k + 1)) := sl_drop s k hlt
      have hb : blankB s[k] = false := HNB.out _ _ HD.out
      have hpos : 0 < (s.extract k s.size).size := by rw [← sl_len, hex, List.length_drop, sl_len]; omega
      have CT := next_any (s.extract k s.size) (hxs k) hpos wr (HT.out.grown G)
      rw [hex k] at CT
      clear hpos hxs hex HNB
      cases ht : tokV ((sl s).drop k) with
      | error er =>
        rw [ht] at CT
        simp only [tokA, tokE, tkA] at CT
        have hz := tok_er ht
        have hans : ans = .error (k, er) := by
          rw [← HI2.out, HD.out, lexR_err k hb (by rw [← HD.out]; exact ht)]
          rfl
        subst hans
        have HG : Hid (w.grownBy wr none) := G
        clear HI2 HD OU G ht
        go_wp2_with fail
        refine CB.mono ?_
        rintro e w1 ⟨rfl, rfl⟩
        clear CB
        go_wp2_with fail
        refine CT.mono ?_
        rintro e w1 ⟨rfl, K1⟩
        have G1 := grown_trans HG.out K1
        clear CT K1
        go_wp2
        go_ret3
        exact ⟨_, rfl, World.ownsRow_nil _ _ _ _, grown_trans G1 (World.grownBy_alloc _ _ _)⟩
      | ok y =>
        obtain ⟨q, t, n⟩ := y
        rw [ht] at CT
        simp only [tokA, tokE, tkA] at CT
        have hok := tok_ok ht
        have htl : 1 ≤ t.length := List.length_pos_iff.2 hok.1
        have htl2 : k + t.length ≤ s.size := by
          have := hok.2.2.1
          rw [List.length_drop, sl_len] at this
          omega
        have HN : Hid (glue (us ++ [⟨q, k, t, n⟩]) (lexR (k + t.length) ((sl s).drop (k + t.length))) = ans) := by
          show glue _ _ = ans
          have e1 := lexR_tok k hb (by rw [← HD.out]; exact ht)
          rw [← HD.out, List.drop_drop] at e1
          rw [← HI2.out, e1]
          cases lexR (k + t.length) ((sl s).drop (k + t.length)) with
          | error e => rfl
          | ok ts => simp [glue]
        have HG : Hid (w.grownBy wr none) := G
        have HOU : Hid (TOwns wr w.heap.size u5 us) := OU
        clear HI2 HD OU G ht hok
        go_wp2_with fail
        refine CB.mono ?_
        rintro e w1 ⟨rfl, rfl⟩
        clear CB
        go_wp2_with fail
        refine CT.mono ?_
        rintro e w2 ⟨rfl, K2⟩
        clear CT
        go_upto_region 12 with fail
        have VA := VAt.alloc w2 42 #[.int .i64 (q : Int), .int .i64 (k : Int), str t, .int .u32 (n : Int)]
        have K3 := grown_trans K2 (World.grownBy_alloc w2 (.cells #[.int .i64 (q : Int), .int .i64 (k : Int), str t, .int .u32 (n : Int)] 42) none)
        have HV : Hid (∀ y, u5.ownBlock = some y → y < w2.heap.size) := fun y hy => by
          have := (World.ownsRow.lt HOU.out y hy).2
          have := K2.size
          omega
        have O3 : TOwns (w2.alloc (.cells #[.int .i64 (q : Int), .int .i64 (k : Int), str t, .int .u32 (n : Int)] 42)) w.heap.size u5 us := owns_keptNone HOU.out K3
        have G3 := grown_trans HG.out K3
        have HVL : Hid (w.heap.size ≤ w2.heap.size) := (grown_trans HG.out K2).size
        generalize w2.alloc (.cells #[.int .i64 (q : Int), .int .i64 (k : Int), str t, .int .u32 (n : Int)] 42) = w3 at *
        generalize w2.heap.size = V at *
        have HSZ : Hid ((Tryz.prog.info? 42).map (·.size) = some (#[.int .i64 (q : Int), .int .i64 (k : Int), str t, .int .u32 (n : Int)] : Array Value).size) := size42
        clear K2 K3 HOU HG
        have KA := World.grownBy_alloc w3 (.cells #[.int .i64 (q : Int), .int .i64 (k : Int), str t, .int .u32 (n : Int)] 42) none
        have HO4 : Hid (TOwns (w3.alloc (.cells #[.int .i64 (q : Int), .int .i64 (k : Int), str t, .int .u32 (n : Int)] 42)) w.heap.size u5 us ∧ VAt (w3.alloc (.cells #[.int .i64 (q : Int), .int .i64 (k : Int), str t, .int .u32 (n : Int)] 42)) V 42 #[.int .i64 (q : Int), .int .i64 (k : Int), str t, .int .u32 (n : Int)] ∧ w.grownBy (w3.alloc (.cells #[.int .i64 (q : Int), .int .i64 (k : Int), str t, .int .u32 (n : Int)] 42)) none) := ⟨owns_keptNone O3 KA, VA.kept KA, grown_trans G3 KA⟩
        have HCB : Hid (CV (w3.alloc (.cells #[.int .i64 (q : Int), .int .i64 (k : Int), str t, .int .u32 (n : Int)] 42)) (some ⟨w3.heap.size, 0, none⟩) [.int .i64 (q : Int), .int .i64 (k : Int), str t, .int .u32 (n : Int)]) := cv_lit w3 _ _
        clear O3 G3 KA
        go_wp2_with (first
          | refine wpList_load_row rfl 42 (.tmp 7) rfl V rfl 42 _ (0, 0) _ VA Tryz.underlying42 rfl HSZ.out ?_
          | (at_builtin; refine wpList_append_cv rfl (.tmp 41) (.tmp 43) 33 rfl 42 i0 _ 4 40 Tryz.underlying33 hi hz0 hz1 hz2 rfl (by decide) w.heap.size u5 us.length (flatT us) rfl ?r1 (some ⟨w3.heap.size, 0, none⟩) 1 1 [.int .i64 (q : Int), .int .i64 (k : Int), str t, .int .u32 (n : Int)] rfl rfl (by simp) ?r2 (by simp [Value.oneCell']) ?r3 ?r4 ?r5 ?r6))
        case r1 => exact HO4.out.1
        case r2 => exact HCB.out
        case r3 => unfold maxLen; omega
        case r4 => omega
        case r5 => exact HO4.out.2.2.size
        case r6 =>
          intro v5 w5 O5 K5
          have V5 := HO4.out.2.1.grown K5 (fun e => by have := HV.out V e; omega)
          have G5 := grown_trans_new HO4.out.2.2 K5 (fun x hx => (World.ownsRow.lt HO4.out.1 x hx).1)
          have HO5 : Hid (TOwns w5 w.heap.size v5 (us ++ [⟨q, k, t, n⟩]) ∧ w.grownBy w5 none) := ⟨by
            show w5.ownsRow w.heap.size 42 4 v5 (us ++ [(⟨q, k, t, n⟩ : Tk)]).length (flatT (us ++ [(⟨q, k, t, n⟩ : Tk)]))
            rw [List.length_append, flatT_append]
            exact O5, G5⟩
          have c2 : w5.cell? ⟨V, 2, none⟩ = some (str t) := V5.cell 2
          have hw2 : IntKind.i64.wrap ((k : Int) + (t.length : Int)) = ((k + t.length : Nat) : Int) := by rw [IntKind.wrap_i64]; omega
          have hts : ((⟨t.toArray⟩ : ByteArray).size : Int) = (t.length : Int) := by rw [← sl_len, sl_str]
          clear VA HO4 HCB O5 K5 V5 G5
          go_wp2
          go_roundw
          case rel => exact ⟨k + t.length, us ++ [⟨q, k, t, n⟩], htl2, by rw [List.length_append, List.length_singleton]; omega, by go_num, HN, HO5.out.1, HO5.out.2⟩
          case measure => simp [intOf]; omega
    · obtain rfl : k = s.size := by omega
      have hne : ((s.size : Int) == (s.size : Int)) = true := by simp
      have hans : ans = .ok (us ++ [⟨0, s.size, [], 0⟩]) := by
        rw [← HI2.out, List.drop_eq_nil_of_le (by rw [sl_len]; exact Nat.le_refl _), lexR_nil]
        rfl
      subst hans
      have KA := World.grownBy_alloc wr (.cells #[.int .i64 0, .int .i64 (s.size : Int), str [], .int .u32 0] 42) none
      have HO4 : Hid (TOwns (wr.alloc (.cells #[.int .i64 0, .int .i64 (s.size : Int), str [], .int .u32 0] 42)) w.heap.size u5 us ∧ w.grownBy (wr.alloc (.cells #[.int .i64 0, .int .i64 (s.size : Int), str [], .int .u32 0] 42)) none) := ⟨owns_keptNone OU KA, grown_trans G KA⟩
      have HCB : Hid (CV (wr.alloc (.cells #[.int .i64 0, .int .i64 (s.size : Int), str [], .int .u32 0] 42)) (some ⟨wr.heap.size, 0, none⟩) [.int .i64 0, .int .i64 (s.size : Int), str [], .int .u32 0]) := cv_lit wr _ _
      clear HI2 OU G KA hxs hex HNB
      go_wp2_with fail
      refine CB.mono ?_
      rintro e w1 ⟨rfl, rfl⟩
      clear CB
      go_wp2_with (at_builtin; refine wpList_append_cv rfl (.tmp 23) (.tmp 26) 33 rfl 42 i0 _ 4 40 Tryz.underlying33 hi hz0 hz1 hz2 rfl (by decide) w.heap.size u5 us.length (flatT us) rfl ?r1 (some ⟨wr.heap.size, 0, none⟩) 1 1 [.int .i64 0, .int .i64 (s.size : Int), str [], .int .u32 0] rfl rfl (by simp) ?r2 (by simp [Value.oneCell']) ?r3 ?r4 ?r5 ?r6)
      case r1 => exact HO4.out.1
      case r2 => exact HCB.out
      case r3 => unfold maxLen; omega
      case r4 => omega
      case r5 => have := HO4.out.2.size; simpa using this
      case r6 =>
        intro v5 w5 O5 K5
        have G5 := grown_trans_new HO4.out.2 K5 (fun x hx => (World.ownsRow.lt HO4.out.1 x hx).1)
        have HO5 : Hid (TOwns w5 w.heap.size v5 (us ++ [⟨0, s.size, [], 0⟩]) ∧ w.grownBy w5 none) := ⟨by
          show w5.ownsRow w.heap.size 42 4 v5 (us ++ [(⟨0, s.size, [], 0⟩ : Tk)]).length (flatT (us ++ [(⟨0, s.size, [], 0⟩ : Tk)]))
          rw [List.length_append, flatT_append]
          exact O5, G5⟩
        clear HO4 HCB O5 K5 G5
        go_wp2
        go_ret3
        exact ⟨_, rfl, HO5.out.1, HO5.out.2⟩

end Go.Proofs.YtbdmpjnlgdahmaaGreatDoor

namespace Go.Proofs.YtbdmpjnlgdahmaaGreatDoor
open Go.RowKit
set_option maxRecDepth 100000

def wk10 : List Tk := [⟨2, 0, [105, 112], 0⟩, ⟨5, 2, [60, 61], 0⟩, ⟨1, 4, [48, 120, 48, 102], 15⟩, ⟨0, 8, [], 0⟩]
theorem lex10a : lexV [105, 112, 60, 61, 48, 120, 48, 102] = .ok wk10 := by kernel_rfl
theorem lex10b : lexV [97, 32, 59] = .error (2, 101) := by kernel_rfl

theorem TOwns.toks {w : World} {base : Nat} {v : Value} {xs : List Tk} (h : TOwns w base v xs) (hx : 0 < xs.length) : ∃ g cap, v = .slice (some ⟨g, 0, none⟩) xs.length cap ∧ ∀ i (hi : i < xs.length), w.cell? ⟨g, i * 4, none⟩ = some (.int .i64 (xs[i].kind : Int)) ∧ w.cell? ⟨g, i * 4 + 1, none⟩ = some (.int .i64 (xs[i].pos : Int)) ∧
      w.cell? ⟨g, i * 4 + 2, none⟩ = some (str xs[i].text) ∧ w.cell? ⟨g, i * 4 + 3, none⟩ = some (.int .u32 (xs[i].num : Int)) := by
  obtain ⟨g, cap, hv, -⟩ := owns_head h hx
  obtain ⟨ao, cap', hv', C, -⟩ := cv_of_row h
  rw [hv] at hv'
  simp only [Value.slice.injEq, true_and] at hv'
  obtain ⟨rfl, rfl⟩ := hv'
  refine ⟨g, cap, hv, fun i hi => ?_⟩
  obtain ⟨b, off, e, hc⟩ := C.toks hi
  simp only [Option.some.injEq, Addr.mk.injEq] at e
  obtain ⟨rfl, rfl, -⟩ := e
  have := hc i hi
  simpa using this

end Go.Proofs.YtbdmpjnlgdahmaaGreatDoor

namespace Go.Proofs.YtbdmpjnlgdahmaaGreatDoor
open Go.RowKit
set_option maxRecDepth 100000

/-- No more tokens than bytes, and the end. -/
theorem lexR_few : ∀ (k p : Nat) (s : List UInt8) (ts : List Tk), s.length ≤ k → lexR p s = .ok ts → ts.length ≤ s.length + 1
  | k, p, [], ts, _, h => by
    rw [lexR_nil] at h
    cases h
    simp
  | 0, p, c :: r, ts, hk, h => by simp at hk
  | k + 1, p, c :: r, ts, hk, h => by
    simp only [List.length_cons] at hk
    cases hb : blankB c with
    | true =>
      rw [lexR_blank p r hb] at h
      have := lexR_few k (p + 1) r ts (by omega) h
      simp only [List.length_cons]
      omega
    | false =>
      cases ht : tokV (c :: r) with
      | error e => rw [lexR_err p hb ht] at h; cases h
      | ok x =>
        obtain ⟨q, t, n⟩ := x
        rw [lexR_tok p hb ht] at h
        have hl := List.length_pos_iff.2 (tok_ok ht).1
        have hle := (tok_ok ht).2.2.1
        split at h
        · cases h
        · rename_i ts' h'
          cases h
          have := lexR_few k (p + t.length) ((c :: r).drop t.length) ts' (by rw [List.length_drop, List.length_cons]; omega) h'
          rw [List.length_drop] at this
          simp only [List.length_cons] at *
          omega
theorem lexV_few (s : List UInt8) : (lexT (lexV s)).length ≤ 65537 := by
  unfold lexV
  split
  · simp [lexT]
  · cases h : lexR 0 s with
    | error e => simp [lexT]
    | ok ts =>
      have := lexR_few _ 0 s ts (Nat.le_refl _) h
      show ts.length ≤ 65537
      omega
theorem TOwns.items {w : World} {base : Nat} {v : Value} {xs : List Tk} (h : TOwns w base v xs) : ∃ ao ca, v = .slice ao xs.length ca ∧ CV w ao (flatT xs) ∧ xs.length ≤ ca ∧ (ao = none → ca = 0) := by
  obtain ⟨ao, cap, hv, C, h1, -, h2, -⟩ := cv_of_row h
  exact ⟨ao, cap, hv, C, h1, h2⟩

/-- No token begins with a blank. -/
theorem tok_head {c : UInt8} {r : List UInt8} {x : Nat × List UInt8 × Nat} (h : tokV (c :: r) = .ok x) : blankB c = false := by
  cases hb : blankB c with
  | false => rfl
  | true =>
    obtain ⟨h1, h2, h3, h4, h5, h6⟩ := blank_not hb
    exfalso
    have hs : signV (c :: r) = [] := by
      unfold signV
      have h2' : ¬ ((c :: r).take 2 ∈ twosL) := by
        unfold blankB at hb
        simp only [Bool.or_eq_true, beq_iff_eq] at hb
        cases r with
        | nil => simp [twosL]
        | cons d r =>
          show ¬ ([c, d] ∈ twosL)
          simp only [twosL, List.mem_cons, List.not_mem_nil, or_false, List.cons.injEq, and_true]
          rcases hb with ((rfl | rfl) | rfl) | rfl <;> simp
      rw [if_neg h2', if_neg (by show ¬ onesL.contains c = true; rw [h6]; simp)]
    unfold tokV at h
    rw [List.takeWhile_cons_of_neg (by rw [h1]; simp), if_neg (by simp), if_neg (by show ¬ isDig c = true; rw [h4]; simp), if_neg (by show ¬ letB c = true; rw [h5]; simp), if_pos hs] at h
    cases h
/-- A token's text by itself, as a source. -/
theorem lex_alone {t : List UInt8} {q n : Nat} (h : tokV t = .ok (q, t, n)) (hl : t.length ≤ 65536) : lexV t = .ok [⟨q, 0, t, n⟩, ⟨0, t.length, [], 0⟩] := by
  unfold lexV
  rw [if_neg (by omega)]
  cases t with
  | nil => exact absurd rfl (tok_ok h).1
  | cons c r =>
    rw [lexR_tok 0 (tok_head h) h, List.drop_length, lexR_nil, Nat.zero_add]
theorem lexR_text : ∀ (k p : Nat) (s : List UInt8) (ts : List Tk), s.length ≤ k → lexR p s = .ok ts → ∀ t ∈ ts, t.text.length ≤ s.length ∧ t.pos ≤ p + s.length ∧ t.kind ≤ 5 ∧ t.num ≤ 4294967295
  | k, p, [], ts, _, h, t, ht => by
    rw [lexR_nil] at h
    cases h
    simp only [List.mem_singleton] at ht
    subst ht
    simp
  | 0, p, c :: r, ts, hk, h, t, ht => by simp at hk
  | k + 1, p, c :: r, ts, hk, h, t, ht => by
    simp only [List.length_cons] at hk
    cases hb : blankB c with
    | true =>
      rw [lexR_blank p r hb] at h
      have := lexR_text k (p + 1) r ts (by omega) h t ht
      simp only [List.length_cons]
      omega
    | false =>
      cases hx : tokV (c :: r) with
      | error e => rw [lexR_err p hb hx] at h; cases h
      | ok x =>
        obtain ⟨q, u, n⟩ := x
        rw [lexR_tok p hb hx] at h
        have hok := tok_ok hx
        have hl := List.length_pos_iff.2 hok.1
        have hle := hok.2.2.1
        split at h
        · cases h
        · rename_i ts' h'
          cases h
          rcases List.mem_cons.1 ht with rfl | ht
          · exact ⟨hle, by simp only; omega, by simp only; omega, hok.2.2.2.2.2⟩
          · have := lexR_text k (p + u.length) ((c :: r).drop u.length) ts' (by rw [List.length_drop, List.length_cons]; omega) h' t ht
            rw [List.length_drop] at this
            simp only [List.length_cons] at *
            omega
/-- What a source's tokens are. -/
theorem lexV_toks {s : List UInt8} {ts : List Tk} (h : lexV s = .ok ts) : s.length ≤ 65536 ∧ ∃ us, ts = us ++ [⟨0, s.length, [], 0⟩] ∧ us.length ≤ 65536 ∧ ∀ t ∈ us, t.text ≠ [] ∧ tokV t.text = .ok (t.kind, t.text, t.num) ∧ t.text.length ≤ 65536 ∧ t.pos ≤ 65536 ∧ t.kind ≤ 5 ∧ t.num ≤ 4294967295 := by
  unfold lexV at h
  split at h
  · cases h
  · rename_i hl
    obtain ⟨us, e, hu⟩ := lexR_end _ 0 s ts (Nat.le_refl _) h
    have hf := lexR_few _ 0 s ts (Nat.le_refl _) h
    have ht := lexR_text _ 0 s ts (Nat.le_refl _) h
    rw [Nat.zero_add] at e
    refine ⟨by omega, us, e, ?_, fun t hm => ?_⟩
    · rw [e, List.length_append, List.length_singleton] at hf
      omega
    · obtain ⟨a, b⟩ := hu t hm
      obtain ⟨c, d, e', f⟩ := ht t (by rw [e]; exact List.mem_append_left _ hm)
      exact ⟨a, b, by omega, by omega, e', f⟩
theorem lexE_err {s : List UInt8} {x : Nat × Int} (h : lexV s = .error x) : (x.2 != 0) = true := by
  unfold lexV at h
  split at h
  · cases h; rfl
  · exact go _ 0 s (Nat.le_refl _) x h
where
  go : ∀ (k p : Nat) (s : List UInt8), s.length ≤ k → ∀ x, lexR p s = .error x → (x.2 != 0) = true
    | k, p, [], _, x, h => by rw [lexR_nil] at h; cases h
    | 0, p, c :: r, hk, x, h => by simp at hk
    | k + 1, p, c :: r, hk, x, h => by
      simp only [List.length_cons] at hk
      cases hb : blankB c with
      | true =>
        rw [lexR_blank p r hb] at h
        exact go k (p + 1) r (by omega) x h
      | false =>
        cases hx : tokV (c :: r) with
        | error e =>
          rw [lexR_err p hb hx] at h
          cases h
          exact tok_er hx
        | ok y =>
          obtain ⟨q, u, n⟩ := y
          rw [lexR_tok p hb hx] at h
          have hl := List.length_pos_iff.2 (tok_ok hx).1
          split at h
          · rename_i e h'
            cases h
            exact go k (p + u.length) ((c :: r).drop u.length) (by rw [List.length_drop, List.length_cons]; omega) _ h'
          · cases h

end Go.Proofs.YtbdmpjnlgdahmaaGreatDoor
