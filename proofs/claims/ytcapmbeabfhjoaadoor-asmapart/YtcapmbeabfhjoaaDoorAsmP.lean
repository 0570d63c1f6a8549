/-
  Package asm reads: Parse.
-/
import Derived.Test.YtcapmbeabfhjoaaDoorAsmJ
import Derived.Test.YtcapmbeabfhjoaaDoorAsmK
import Derived.Test.YtcapmbeabfhjoaaDoorAsmL
namespace Go.Proofs.YtcapmbeabfhjoaaDoor
open Go.RowKit
set_option maxRecDepth 100000

theorem rows_codes : rowsT.all (fun r => decide (r.1 ≤ 65535)) = true := by decide +kernel
theorem readT_ok {s : List UInt8} {r : Rd} (h : readT s = some r) : RdOk r := by
  obtain ⟨b, hb, hz⟩ := List.exists_of_findSome?_eq_some h
  refine row_ok (r := startR s b) ⟨?_, Nat.zero_le _, Nat.zero_le _, Nat.zero_le _⟩ hz
  have := List.all_eq_true.1 rows_codes b hb
  show b.1 ≤ 65535
  simpa using this

theorem mkI_nat {c t f k : Nat} (hc : c ≤ 65535) (ht : t ≤ 255) (hf : f ≤ 255) (hk : k ≤ 4294967295) : (mkI c t f k).code.toNat = c ∧ (mkI c t f k).jt.toNat = t ∧ (mkI c t f k).jf.toNat = f ∧ (mkI c t f k).k.toNat = k := by
  refine ⟨?_, ?_, ?_, ?_⟩ <;> simp [mkI] <;> omega
theorem mkI_flat {c t f k : Nat} (hc : c ≤ 65535) (ht : t ≤ 255) (hf : f ≤ 255) (hk : k ≤ 4294967295) (out : List In) : flat (out ++ [mkI c t f k]) = flat out ++ [.int .u16 (c : Int), .int .u8 (t : Int), .int .u8 (f : Int), .int .u32 (k : Int)] := by
  obtain ⟨h1, h2, h3, h4⟩ := mkI_nat hc ht hf hk
  simp only [flat_append, flat_cons, flat_nil, List.append_nil, In.cells, h1, h2, h3, h4]

/-- One line more, taken or not. -/
theorem parse_yes {i : Nat} {Y L R : List UInt8} {out : List In} {s : List UInt8} {c t f k : Nat} (hi : i ≠ 4096) (hY : Y ≠ []) (hL : L = cutL Y) (hR : R = cutR Y) (hr : readT L = some (s, c, t, f, k)) (hl : lineN c t f k = L) : parseG i (linesV Y) out = parseG (i + 1) (linesV R) (out ++ [mkI c t f k]) := by
  obtain ⟨h1, h2, h3, h4⟩ := readT_ok hr
  obtain ⟨e1, e2, e3, e4⟩ := mkI_nat h1 h2 h3 h4
  have hv : readV L = some (mkI c t f k) := by
    rw [readT_V, hr]
    simp only
    rw [if_pos]
    · rfl
    · show lineN _ _ _ _ = L
      rw [show inR (s, c, t, f, k) = mkI c t f k from rfl, e1, e2, e3, e4, hl]
  subst hL hR
  rw [lines_cut Y hY, parseG, if_neg hi, hv]
theorem parse_no {i : Nat} {Y L : List UInt8} {out : List In} (hi : i ≠ 4096) (hY : Y ≠ []) (hL : L = cutL Y) (hr : ∀ s c t f k, readT L = some (s, c, t, f, k) → lineN c t f k ≠ L) : parseG i (linesV Y) out = ([], i + 1, 31) := by
  have hv : readV L = none := by
    rw [readT_V]
    cases h : readT L with
    | none => rfl
    | some r =>
      obtain ⟨s, c, t, f, k⟩ := r
      obtain ⟨h1, h2, h3, h4⟩ := readT_ok h
      obtain ⟨e1, e2, e3, e4⟩ := mkI_nat h1 h2 h3 h4
      simp only
      rw [if_neg]
      intro e
      refine hr s c t f k h ?_
      have e' : lineN _ _ _ _ = L := e
      rw [show inR (s, c, t, f, k) = mkI c t f k from rfl, e1, e2, e3, e4] at e'
      exact e'
  subst hL
  rw [lines_cut Y hY, parseG, if_neg hi, hv]
theorem parse_many {Y : List UInt8} {out : List In} (hY : Y ≠ []) : parseG 4096 (linesV Y) out = ([], 4096 + 1, 32) := by
  rw [lines_cut Y hY, parseG, if_pos rfl]

set_option maxHeartbeats 8000000 in
theorem parse_any (s : ByteArray) (w : World) (hs : s.size ≤ 9223372036854775807) (T : Tab w) :
    Calls Tryd.prog 17 #[.string s] w fun e w' => PMade w w' e (parseV (sl s)) := by
  obtain ⟨i0, hi, hz0, hz1, hz2⟩ := info_parts info25
  have HTb : Hid (Tab w) := T
  clear T
  by_cases hbig : 1048576 < s.size
  · have e : parseV (sl s) = ([], 0, 30) := by rw [parseV, if_pos (by rw [sl_len]; exact hbig)]
    rw [e]
    have hb' : (1048576 : Int) < (s.size : Int) := by omega
    go_enter Tryd.func17, Tryd.ntmps17
    go_wp2
    go_ret3
    exact ⟨_, rfl, World.ownsRow_nil _ _ _ _, World.grownBy.refl _ _⟩
  · have e : parseV (sl s) = parseG 0 (linesV (sl s)) [] := by rw [parseV, if_neg (by rw [sl_len]; exact hbig)]
    rw [e]
    clear e
    have hb' : ¬ (1048576 : Int) < (s.size : Int) := by omega
    obtain ⟨ans, hans⟩ : ∃ ans, parseG 0 (linesV (sl s)) [] = ans := ⟨_, rfl⟩
    have HA : Hid (parseG 0 (linesV (sl s)) [] = ans) := hans
    rw [hans]
    clear hans
    go_enter Tryd.func17, Tryd.ntmps17
    go_wp2_with fail
    refine (forms_any _).mono ?_
    rintro e w0 ⟨rfl, KN, K0⟩
    go_wp2_with fail
    refine (rows_any _ _ KN).mono ?_
    rintro e w1 ⟨v1, rs, fp, rfl, hrs, O1, hok, hH, -, KN1, K1⟩
    obtain ⟨a, ca, rfl, hC, -, -, -, -, -⟩ := cv_of_row O1
    have HC : Hid (CV w1 a (rCells rs)) := hC
    have HO : Hid (RowsOk fp rs ∧ Held fp w1 ∧ rs.map (fun r => r.1) = rowsT) := ⟨hok, hH, hrs⟩
    have HK : Hid (KnownAt w1 w.heap.size) := KN1
    have G1 : Hid (w.grownBy w1 none) := grown_trans K0 K1
    have hrl : rs.length ≤ 100 := by
      have := congrArg List.length hrs
      rw [List.length_map, show rowsT.length = 50 by decide +kernel] at this
      omega
    clear hC hok hH hrs KN1 K0 K1 KN O1
    go_wp2
    go_loopw [0, 7, 8] (fun u o n wr => ∃ (Y : ByteArray) (i : Nat) (out : List In), u = .string Y ∧ n = .int .i64 ((i : Int) + 1) ∧ i ≤ 4096 ∧ out.length ≤ i ∧ Y.size ≤ 1048576 ∧ Hid (parseG i (linesV (sl Y)) out = ans) ∧ IOwns wr w1.heap.size o out ∧ w1.grownBy wr none) (fun u _ _ _ => strLen u)
    case atStart => exact ⟨s, 0, [], rfl, rfl, Nat.zero_le _, Nat.zero_le _, by omega, HA, World.ownsRow_nil _ _ _ _, World.grownBy.refl _ _⟩
    case round =>
      obtain ⟨Y, i, out, rfl, rfl, hi4, hol, hYs, HP, O, G⟩ := hrel
      by_cases hY0 : Y.size = 0
      · have hemp : Y.toList.isEmpty = true := by
          rw [toList_sl]
          rw [show sl Y = [] from List.eq_nil_of_length_eq_zero (by rw [sl_len]; exact hY0)]
          rfl
        have HE : Hid (ans = (out, 0, 0)) := by
          show ans = (out, 0, 0)
          rw [← HP.out, show sl Y = [] from List.eq_nil_of_length_eq_zero (by rw [sl_len]; exact hY0)]
          rfl
        clear HP
        go_wp2
        go_ret3
        rw [HE.out]
        exact ⟨_, rfl, owns_mono O G1.out.size, grown_trans G1.out G⟩
      · have hne : sl Y ≠ [] := by intro e; have := sl_len Y; rw [e] at this; simp at this; omega
        have HNE : Hid (sl Y ≠ []) := hne
        have hemp : Y.toList.isEmpty = false := by
          rw [toList_sl]
          cases h : sl Y with
          | nil => exact absurd h hne
          | cons _ _ => rfl
        clear hne
        by_cases h4 : i = 4096
        · subst h4
          have HE : Hid (ans = ([], 4096 + 1, 32)) := by
            show ans = _
            rw [← HP.out, parse_many HNE.out]
          clear HP
          go_wp2
          go_ret3
          rw [HE.out]
          exact ⟨_, rfl, World.ownsRow_nil _ _ _ _, grown_trans G1.out G⟩
        · have h4' : ¬ (4096 : Int) < (i : Int) + 1 := by omega
          go_wp2_with fail
          refine (cut_any Y _ hYs).mono ?_
          rintro e w2 ⟨L, R, bb, rfl, hL, hR, K2⟩
          have HL : Hid (sl L = cutL (sl Y)) := hL
          have HR : Hid (sl R = cutR (sl Y)) := hR
          have hLs : L.size ≤ 1048576 := by rw [← sl_len, hL]; have := cutL_len (sl Y); rw [sl_len] at this; omega
          have hRs : R.size < Y.size := by rw [← sl_len, hR]; have := cutR_len (sl Y) HNE.out; rw [sl_len] at this; omega
          have G2 := grown_trans G K2
          have O2 := owns_keptNone O K2
          clear hL hR G O K2
          go_wp2_with fail
          refine (read_any a ca rs fp L _ (HC.out.keptNone G2) HO.out.1 (HO.out.2.1.none G2) hLs hrl).mono ?_
          rintro e w3 ⟨s3, c, t, f, k, b3, rfl, K3, hy, hno⟩
          have G3 := grown_trans G2 K3
          have O3 := owns_keptNone O2 K3
          rw [readS_T HO.out.2.2] at hy hno
          clear G2 O2 K3
          cases b3 with
          | false =>
            have HE : Hid (ans = ([], i + 1, 31)) := by
              show ans = _
              rw [← HP.out]
              exact parse_no h4 HNE.out HL.out (fun s c t f k h => by rw [hno rfl] at h; cases h)
            clear HP hy hno
            go_wp2
            go_ret3
            rw [HE.out]
            exact ⟨_, rfl, World.ownsRow_nil _ _ _ _, grown_trans (grown_trans G1.out G3) (World.grownBy_alloc _ _ _)⟩
          | true =>
            have hrd := hy rfl
            obtain ⟨y1, y2, y3, y4⟩ := readT_ok hrd
            have HRd : Hid (readT (sl L) = some (s3, c, t, f, k)) := hrd
            clear hy hno hrd
            simp only at y1 y2 y3 y4
            have GA := World.grownBy_alloc w3 (.cells #[.int .u16 (c : Int), .int .u8 (t : Int), .int .u8 (f : Int), .int .u32 (k : Int)] 25) none
            have G4 := grown_trans G3 GA
            have T4 := HTb.out.grown (grown_trans G1.out G4)
            have O4 := owns_keptNone O3 GA
            have X4 := boxAt_new w3 c t f k
            go_wp2_with fail
            refine (append_line _ _ [] w.heap.size c t f k _ y1 y2 y3 y4 (World.ownsRow_nil _ _ _ _) (Nat.le_refl _) T4.size (by simp) T4 (HK.out.grown G4)).mono ?_
            rintro e w5 ⟨v5, rfl, O5, A5⟩
            have K5 := A5.none
            have G5 := grown_trans G4 K5
            have O6 := owns_keptNone O4 K5
            have X5 := X4.ap A5
            obtain ⟨x0, x1, x2, x3⟩ := X5.cells
            have hcv := run_str (P := Tryd.prog) O5 45 9 Tryd.underlying45 Tryd.underlying5 Tryd.underlying9
            rw [List.nil_append] at hcv
            clear T4 O4 X4 GA G4 G3 O3 A5 K5 O5 X5
            by_cases hln : lineN c t f k = sl L
            · have hb : (lineN c t f k == L.toList) = true := by rw [toList_sl, hln]; simp
              have HE : Hid (parseG (i + 1) (linesV (sl R)) (out ++ [mkI c t f k]) = ans) := by
                show _ = ans
                rw [← HP.out]
                exact (parse_yes h4 HNE.out HL.out HR.out HRd.out hln).symm
              clear HP hln
              go_wp2_with (at_builtin; refine wpList_append_cv rfl (.tmp 48) (.tmp 50) 29 rfl 25 i0 _ 4 8 Tryd.underlying29 hi hz0 hz1 hz2 rfl (by decide) w1.heap.size u7 out.length (flat out) rfl ?q1 (some ⟨w5.heap.size, 0, none⟩) 1 1 [.int .u16 (c : Int), .int .u8 (t : Int), .int .u8 (f : Int), .int .u32 (k : Int)] rfl rfl (by simp) ?q2 (by simp [Value.oneCell']) ?q3 ?q4 ?q5 ?q6)
              case q1 => exact O6.alloc _
              case q2 => exact cv_lit w5 _ _
              case q3 => unfold maxLen; omega
              case q4 => omega
              case q5 => have := G5.size; simp; omega
              case q6 =>
                intro z6 w6 O7 K6
                have G6 : w1.grownBy w6 none := grown_trans_new (grown_trans G5 (World.grownBy_alloc _ _ _)) K6 (fun z hz => (O6.lt z hz).1)
                have O8 : IOwns w6 w1.heap.size z6 (out ++ [mkI c t f k]) := by
                  unfold IOwns
                  rw [mkI_flat y1 y2 y3 y4, List.length_append]
                  exact O7
                clear O7 K6 O6 G5 x0 x1 x2 x3 hcv
                go_wp2
                go_roundw
                case rel => exact ⟨R, i + 1, out ++ [mkI c t f k], rfl, by go_num, by omega, by simp; omega, by omega, HE, O8, G6⟩
                case measure => simp [strLen]; omega
            · have hb : (lineN c t f k == L.toList) = false := by rw [toList_sl]; simpa using hln
              have HE : Hid (ans = ([], i + 1, 31)) := by
                show ans = _
                rw [← HP.out]
                exact parse_no h4 HNE.out HL.out (fun s c' t' f' k' h => by
                  rw [HRd.out] at h
                  injection h with h
                  simp only [Prod.mk.injEq] at h
                  obtain ⟨-, rfl, rfl, rfl, rfl⟩ := h
                  exact hln)
              clear HP
              go_wp2
              go_ret3
              rw [HE.out]
              exact ⟨_, rfl, World.ownsRow_nil _ _ _ _, grown_trans G1.out G5⟩

end Go.Proofs.YtcapmbeabfhjoaaDoor
