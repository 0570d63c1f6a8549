/-
  The document's own Lex.
-/
import Derived.Test.YthmfpodibgheiaaDoorLexU
import Derived.Test.YthmfpodibgheiaaDoorLexX
import Derived.Test.YthmfpodibgheiaaDoorTMem
namespace Go.Proofs.YthmfpodibgheiaaDoor
open Go.RowKit
set_option maxRecDepth 100000

/-- What Lex tells: the tokens, the place, the error. -/
def lexT (x : Except (Nat × Int) (List Tk)) : List Tk := match x with
  | .ok ts => ts
  | .error _ => []
def lexP (x : Except (Nat × Int) (List Tk)) : Nat := match x with
  | .ok _ => 0
  | .error e => e.1
def lexE (x : Except (Nat × Int) (List Tk)) : Int := match x with
  | .ok _ => 0
  | .error e => e.2
def glue (us : List Tk) (x : Except (Nat × Int) (List Tk)) : Except (Nat × Int) (List Tk) := match x with
  | .ok ts => .ok (us ++ ts)
  | .error e => .error e

theorem tok_er {s : List UInt8} {e : Int} (h : tokV s = .error e) : (e != 0) = true := by
  unfold tokV at h
  split at h
  · cases h
  · split at h
    · split at h
      · cases h
      · split at h
        · cases h; rfl
        · cases h
    · split at h
      · cases h
      · split at h
        · cases h; rfl
        · cases h

set_option maxRecDepth 100000 in
set_option maxHeartbeats 8000000 in
theorem reflex_any (s : ByteArray) (hs : s.size ≤ 140737488355328) (w : World) :
    Calls Tryd.prog 9 #[.string s] w fun e w' => ∃ v, e = .returned (.tuple #[v, .int .i64 (lexP (lexV (sl s)) : Int), .int .i64 (lexE (lexV (sl s)))]) ∧ TOwns w' w.heap.size v (lexT (lexV (sl s))) ∧ w.grownBy w' none := by
  by_cases hl : 65536 < s.size
  · have e0 : lexV (sl s) = .error (0, 100) := by rw [lexV, if_pos (by rw [sl_len]; exact hl)]
    rw [e0]
    have hl' : (65536 : Int) < (s.size : Int) := by omega
    clear e0
    go_enter Tryd.func9, Tryd.ntmps9
    go_wp2
    go_ret3
    exact ⟨_, rfl, World.ownsRow_nil _ _ _ _, World.grownBy.refl _ _⟩
  have e0 : lexV (sl s) = lexR 0 (sl s) := by rw [lexV, if_neg (by rw [sl_len]; exact hl)]
  have hl' : ¬ (65536 : Int) < (s.size : Int) := by omega
  obtain ⟨ans, hans⟩ : ∃ ans, lexV (sl s) = ans := ⟨_, rfl⟩
  have HA : Hid (lexR 0 (sl s) = ans) := by show lexR 0 (sl s) = ans; rw [← e0]; exact hans
  rw [hans]
  clear e0 hans
  obtain ⟨i0, hi, hz0, hz1, hz2⟩ := info_parts info32
  have HTS : Hid (∀ q p t n, (Tryd.prog.info? 32).map (·.size) = some (tkA q p t n).size) := fun _ _ _ _ => size32
  go_enter Tryd.func9, Tryd.ntmps9
  go_upto_region 5 with fail
  go_loopw [5, 6] (fun u x wr => ∃ (j : Nat) (us : List Tk), j ≤ s.size ∧ us.length ≤ j ∧ x = .int .i64 j ∧ Hid (glue us (lexR j ((sl s).drop j)) = ans) ∧ TOwns wr w.heap.size u us ∧ w.grownBy wr none) (fun _ x _ => s.size - (intOf x).toNat)
  case atStart => exact ⟨0, [], Nat.zero_le _, Nat.zero_le _, rfl, by show glue [] (lexR 0 ((sl s).drop 0)) = ans; rw [List.drop_zero, HA.out]; cases ans <;> rfl, World.ownsRow_nil _ _ _ _, World.grownBy.refl _ _⟩
  case round =>
    clear HA
    obtain ⟨j, us, hj, hu, rfl, HI, OU, G⟩ := hrel
    have z0 : (0 : Int) ≤ (j : Int) := by omega
    by_cases hlt : j < s.size
    · have hji : (j : Int) < (s.size : Int) := by omega
      have HD : Hid ((sl s).drop j = s[j] :: (sl s).drop (j + 1)) := sl_drop s j hlt
      have CB := refblank_any s[j] wr
      cases hb : blankB s[j] with
      | true =>
        rw [hb] at CB
        have HN : Hid (glue us (lexR (j + 1) ((sl s).drop (j + 1))) = ans) := by
          show glue us _ = ans
          rw [← HI.out, HD.out, lexR_blank j _ hb]
        have HO : Hid (TOwns wr w.heap.size u5 us ∧ w.grownBy wr none) := ⟨OU, G⟩
        clear HI HD OU G
        go_wp2_with fail
        refine CB.mono ?_
        rintro e w1 ⟨rfl, rfl⟩
        clear CB
        go_wp2
        go_roundw
        case rel => exact ⟨j + 1, us, by omega, by omega, by go_num, HN, HO.out.1, HO.out.2⟩
        case measure => simp [intOf]; omega
      | false =>
        rw [hb] at CB
        have CT := reftok_any s j hlt hs wr
        cases ht : tokV ((sl s).drop j) with
        | error er =>
          rw [ht] at CT
          simp only [tokA, tokE, tkA] at CT
          have hz := tok_er ht
          have hans : ans = .error (j, er) := by
            rw [← HI.out, HD.out, lexR_err j hb (by rw [← HD.out]; exact ht)]
            rfl
          subst hans
          have HG : Hid (w.grownBy wr none) := G
          clear HI HD OU G ht
          go_wp2_with fail
          refine CB.mono ?_
          rintro e w1 ⟨rfl, rfl⟩
          go_wp2_with fail
          refine CT.mono ?_
          rintro e w1 ⟨rfl, K1⟩
          have G1 := grown_trans HG.out K1
          clear CB CT K1
          go_wp2
          go_ret3
          exact ⟨_, rfl, World.ownsRow_nil _ _ _ _, grown_trans G1 (World.grownBy_alloc _ _ _)⟩
        | ok y =>
          obtain ⟨q, t, n⟩ := y
          rw [ht] at CT
          simp only [tokA, tokE, tkA] at CT
          have hok := tok_ok ht
          have htl : 1 ≤ t.length := List.length_pos_iff.2 hok.1
          have htl2 : j + t.length ≤ s.size := by
            have := hok.2.2.1
            rw [List.length_drop, sl_len] at this
            omega
          have HN : Hid (glue (us ++ [⟨q, j, t, n⟩]) (lexR (j + t.length) ((sl s).drop (j + t.length))) = ans) := by
            show glue _ _ = ans
            have e1 := lexR_tok j hb (by rw [← HD.out]; exact ht)
            rw [← HD.out, List.drop_drop] at e1
            rw [← HI.out, e1]
            cases lexR (j + t.length) ((sl s).drop (j + t.length)) with
            | error e => rfl
            | ok ts => simp [glue]
          have HG : Hid (w.grownBy wr none) := G
          have HOU : Hid (TOwns wr w.heap.size u5 us) := OU
          clear HI HD OU G ht hok
          go_wp2_with fail
          refine CB.mono ?_
          rintro e w1 ⟨rfl, rfl⟩
          go_wp2_with fail
          refine CT.mono ?_
          rintro e w2 ⟨rfl, K2⟩
          clear CB CT
          go_upto_region 11 with fail
          have VA := VAt.alloc w2 32 #[.int .i64 (q : Int), .int .i64 (j : Int), str t, .int .u32 (n : Int)]
          have K3 := grown_trans K2 (World.grownBy_alloc w2 (.cells #[.int .i64 (q : Int), .int .i64 (j : Int), str t, .int .u32 (n : Int)] 32) none)
          have HV : Hid (∀ y, u5.ownBlock = some y → y < w2.heap.size) := fun y hy => by
            have := (World.ownsRow.lt HOU.out y hy).2
            have := K2.size
            omega
          have O3 : TOwns (w2.alloc (.cells #[.int .i64 (q : Int), .int .i64 (j : Int), str t, .int .u32 (n : Int)] 32)) w.heap.size u5 us := owns_keptNone HOU.out K3
          have G3 := grown_trans HG.out K3
          have HVL : Hid (w.heap.size ≤ w2.heap.size) := (grown_trans HG.out K2).size
          generalize w2.alloc (.cells #[.int .i64 (q : Int), .int .i64 (j : Int), str t, .int .u32 (n : Int)] 32) = w3 at *
          generalize w2.heap.size = V at *
          have HSZ : Hid ((Tryd.prog.info? 32).map (·.size) = some (#[.int .i64 (q : Int), .int .i64 (j : Int), str t, .int .u32 (n : Int)] : Array Value).size) := size32
          clear K2 K3 HOU HG
          have KA := World.grownBy_alloc w3 (.cells #[.int .i64 (q : Int), .int .i64 (j : Int), str t, .int .u32 (n : Int)] 32) none
          have HO4 : Hid (TOwns (w3.alloc (.cells #[.int .i64 (q : Int), .int .i64 (j : Int), str t, .int .u32 (n : Int)] 32)) w.heap.size u5 us ∧ VAt (w3.alloc (.cells #[.int .i64 (q : Int), .int .i64 (j : Int), str t, .int .u32 (n : Int)] 32)) V 32 #[.int .i64 (q : Int), .int .i64 (j : Int), str t, .int .u32 (n : Int)] ∧ w.grownBy (w3.alloc (.cells #[.int .i64 (q : Int), .int .i64 (j : Int), str t, .int .u32 (n : Int)] 32)) none) := ⟨owns_keptNone O3 KA, VA.kept KA, grown_trans G3 KA⟩
          have HCB : Hid (CV (w3.alloc (.cells #[.int .i64 (q : Int), .int .i64 (j : Int), str t, .int .u32 (n : Int)] 32)) (some ⟨w3.heap.size, 0, none⟩) [.int .i64 (q : Int), .int .i64 (j : Int), str t, .int .u32 (n : Int)]) := cv_lit w3 _ _
          clear O3 G3 KA
          go_wp2_with (first
            | refine wpList_load_row rfl 32 (.tmp 7) rfl V rfl 32 _ (0, 0) _ VA Tryd.underlying32 rfl HSZ.out ?_
            | (at_builtin; refine wpList_append_cv rfl (.tmp 32) (.tmp 34) 22 rfl 32 i0 _ 4 40 Tryd.underlying22 hi hz0 hz1 hz2 rfl (by decide) w.heap.size u5 us.length (flatT us) rfl ?r1 (some ⟨w3.heap.size, 0, none⟩) 1 1 [.int .i64 (q : Int), .int .i64 (j : Int), str t, .int .u32 (n : Int)] rfl rfl (by simp) ?r2 (by simp [Value.oneCell']) ?r3 ?r4 ?r5 ?r6))
          case r1 => exact HO4.out.1
          case r2 => exact HCB.out
          case r3 => unfold maxLen; omega
          case r4 => omega
          case r5 => exact HO4.out.2.2.size
          case r6 =>
            intro v5 w5 O5 K5
            have V5 := HO4.out.2.1.grown K5 (fun e => by have := HV.out V e; omega)
            have G5 := grown_trans_new HO4.out.2.2 K5 (fun x hx => (World.ownsRow.lt HO4.out.1 x hx).1)
            have HO5 : Hid (TOwns w5 w.heap.size v5 (us ++ [⟨q, j, t, n⟩]) ∧ w.grownBy w5 none) := ⟨by
              show w5.ownsRow w.heap.size 32 4 v5 (us ++ [(⟨q, j, t, n⟩ : Tk)]).length (flatT (us ++ [(⟨q, j, t, n⟩ : Tk)]))
              rw [List.length_append, flatT_append]
              exact O5, G5⟩
            have c2 : w5.cell? ⟨V, 2, none⟩ = some (str t) := V5.cell 2
            have hw : IntKind.i64.wrap ((j : Int) + (t.length : Int)) = ((j + t.length : Nat) : Int) := by rw [IntKind.wrap_i64]; omega
            have hts : ((⟨t.toArray⟩ : ByteArray).size : Int) = (t.length : Int) := by rw [← sl_len, sl_str]
            clear VA HO4 HCB O5 K5 V5 G5
            go_wp2
            go_roundw
            case rel => exact ⟨j + t.length, us ++ [⟨q, j, t, n⟩], htl2, by rw [List.length_append, List.length_singleton]; omega, by go_num, HN, HO5.out.1, HO5.out.2⟩
            case measure => simp [intOf]; omega
    · obtain rfl : j = s.size := by omega
      have hji : ¬ (s.size : Int) < (s.size : Int) := by omega
      have hans : ans = .ok (us ++ [⟨0, s.size, [], 0⟩]) := by
        rw [← HI.out, List.drop_eq_nil_of_le (by rw [sl_len]; exact Nat.le_refl _), lexR_nil]
        rfl
      subst hans
      have KA := World.grownBy_alloc wr (.cells #[.int .i64 0, .int .i64 (s.size : Int), str [], .int .u32 0] 32) none
      have HO4 : Hid (TOwns (wr.alloc (.cells #[.int .i64 0, .int .i64 (s.size : Int), str [], .int .u32 0] 32)) w.heap.size u5 us ∧ w.grownBy (wr.alloc (.cells #[.int .i64 0, .int .i64 (s.size : Int), str [], .int .u32 0] 32)) none) := ⟨owns_keptNone OU KA, grown_trans G KA⟩
      have HCB : Hid (CV (wr.alloc (.cells #[.int .i64 0, .int .i64 (s.size : Int), str [], .int .u32 0] 32)) (some ⟨wr.heap.size, 0, none⟩) [.int .i64 0, .int .i64 (s.size : Int), str [], .int .u32 0]) := cv_lit wr _ _
      clear HI OU G KA
      go_wp2_with (at_builtin; refine wpList_append_cv rfl (.tmp 41) (.tmp 45) 22 rfl 32 i0 _ 4 40 Tryd.underlying22 hi hz0 hz1 hz2 rfl (by decide) w.heap.size u5 us.length (flatT us) rfl ?r1 (some ⟨wr.heap.size, 0, none⟩) 1 1 [.int .i64 0, .int .i64 (s.size : Int), str [], .int .u32 0] rfl rfl (by simp) ?r2 (by simp [Value.oneCell']) ?r3 ?r4 ?r5 ?r6)
      case r1 => exact HO4.out.1
      case r2 => exact HCB.out
      case r3 => unfold maxLen; omega
      case r4 => omega
      case r5 => have := HO4.out.2.size; simpa using this
      case r6 =>
        intro v5 w5 O5 K5
        have G5 := grown_trans_new HO4.out.2 K5 (fun x hx => (World.ownsRow.lt HO4.out.1 x hx).1)
        have HO5 : Hid (TOwns w5 w.heap.size v5 (us ++ [⟨0, s.size, [], 0⟩]) ∧ w.grownBy w5 none) := ⟨by
          show w5.ownsRow w.heap.size 32 4 v5 (us ++ [(⟨0, s.size, [], 0⟩ : Tk)]).length (flatT (us ++ [(⟨0, s.size, [], 0⟩ : Tk)]))
          rw [List.length_append, flatT_append]
          exact O5, G5⟩
        clear HO4 HCB O5 K5 G5
        go_wp2
        go_ret3
        exact ⟨_, rfl, HO5.out.1, HO5.out.2⟩

end Go.Proofs.YthmfpodibgheiaaDoor
