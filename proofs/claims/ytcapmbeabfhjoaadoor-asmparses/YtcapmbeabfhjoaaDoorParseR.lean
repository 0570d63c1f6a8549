/-
  The document's own Parse.
-/
import Derived.Test.YtcapmbeabfhjoaaDoorParseD
import Derived.Test.YtcapmbeabfhjoaaDoorRead2
namespace Go.Proofs.YtcapmbeabfhjoaaDoor
open Go.RowKit
set_option maxRecDepth 100000

theorem drop_cons {α : Type} {l : List α} {k : Nat} {x : α} {r : List α} (h : l.drop k = x :: r) : l.drop (k + 1) = r ∧ l[k]? = some x ∧ k < l.length := by
  have hk : k < l.length := by
    apply Classical.byContradiction
    intro hn
    rw [List.drop_eq_nil_of_le (by omega)] at h
    cases h
  rw [List.drop_eq_getElem_cons hk] at h
  simp only [List.cons.injEq] at h
  exact ⟨h.2, by rw [List.getElem?_eq_getElem hk, h.1], hk⟩

set_option maxRecDepth 100000 in
set_option maxHeartbeats 2000000 in
theorem refparse_any (s : ByteArray) (w : World) (hs : s.size ≤ 9223372036854775807) :
    Calls Tryd.prog 16 #[.string s] w fun e w' => PMade w w' e (parseV (sl s)) := by
  obtain ⟨i0, hi, hz0, hz1, hz2⟩ := info_parts info25
  by_cases hlong : 1048576 < s.size
  · have e : parseV (sl s) = ([], 0, 30) := by rw [parseV, if_pos (by rw [sl_len]; exact hlong)]
    rw [e]
    have h1 : (1048576 : Int) < (s.size : Int) := by omega
    go_enter Tryd.func16, Tryd.ntmps16
    go_wp2
    go_ret3
    exact ⟨_, rfl, World.ownsRow_nil _ _ _ _, World.grownBy.refl _ _⟩
  · have h1 : ¬ ((1048576 : Int) < (s.size : Int)) := by omega
    obtain ⟨ans, hans⟩ : ∃ ans, parseV (sl s) = ans := ⟨_, rfl⟩
    have e : parseG 0 (linesV (sl s)) [] = ans := by rw [← hans, parseV, if_neg (by rw [sl_len]; exact hlong)]
    rw [hans]
    have HP : Hid (parseG 0 (linesV (sl s)) [] = ans) := e
    have hln := linesG_len [] (sl s)
    have hlm := linesG_many [] (sl s)
    rw [sl_len] at hlm
    have HLN : Hid (∀ l ∈ linesV (sl s), l.length ≤ 1048576) := fun l hl => by
      have := hln l hl
      rw [sl_len] at this
      simp at this
      omega
    clear hans e hln
    go_enter Tryd.func16, Tryd.ntmps16
    go_wp2_with fail
    refine (reflines_any s _ (by omega)).mono ?_
    rintro e w1 ⟨v1, rfl, O1, G1⟩
    obtain ⟨al, cl, rfl, -, -, -, -, -, -⟩ := cv_of_row O1
    have C1 : w1.ownsRow w.heap.size 9 1 (.slice al (linesV (sl s)).length cl) (linesV (sl s)).length ((linesV (sl s)).map str) := O1
    clear O1
    have hlm2 : (linesV (sl s)).length ≤ s.size + 1 := hlm
    clear hlm
    generalize linesV (sl s) = ls at *
    go_wp2
    go_loopw [6, 7] (fun o i wr => ∃ (k : Nat) (out : List In), k ≤ ls.length ∧ k ≤ 4096 ∧ out.length = k ∧ i = .int .i64 k ∧ parseG k (ls.drop k) out = ans ∧ IOwns wr w.heap.size o out ∧ w.grownBy wr none ∧ wr.ownsRow w.heap.size 9 1 (.slice al ls.length cl) ls.length (ls.map str)) (fun _ i _ => ls.length - (intOf i).toNat)
    case atStart => exact ⟨0, [], Nat.zero_le _, Nat.zero_le _, rfl, rfl, HP.out, World.ownsRow_nil _ _ _ _, G1, C1⟩
    case round =>
      clear G1 C1
      obtain ⟨k, out, hk, hk4, hol, rfl, hp, O, G, C⟩ := hrel
      have HK : Hid (parseG k (ls.drop k) out = ans) := hp
      clear hp
      by_cases hlt : k < ls.length
      · obtain ⟨l, hl⟩ : ∃ l, ls.drop k = l :: ls.drop (k + 1) := ⟨ls[k], List.drop_eq_getElem_cons hlt⟩
        obtain ⟨-, hat, -⟩ := drop_cons hl
        have HL : Hid (ls.drop k = l :: ls.drop (k + 1)) := hl
        have hlmem : l ∈ ls := List.mem_of_getElem? hat
        have hll := HLN.out l hlmem
        have hki : (k : Int) < (ls.length : Int) := by omega
        by_cases h4 : k = 4096
        · subst h4
          have HA : Hid (ans = ([], 4096 + 1, 32)) := by
            show ans = _
            rw [← HK.out, HL.out, parseG, if_pos rfl]
          clear hat hl hlmem
          go_wp2
          go_ret3
          rw [HA.out]
          exact ⟨_, rfl, World.ownsRow_nil _ _ _ _, G⟩
        · have h4b : ((k : Int) == 4096) = false := by rw [beq_eq_false_iff_ne]; omega
          obtain ⟨al', cl', hv', CC, -⟩ := cv_of_row C
          simp only [Value.slice.injEq] at hv'
          obtain ⟨rfl, -, rfl⟩ := hv'
          obtain ⟨b, o, rfl, hc⟩ := CC.addr (k := k) (by simpa using hlt)
          have c0 : wr.cell? ⟨b, o + k, none⟩ = some (str l) := by
            have hjj : k < (ls.map str).length := by simpa using hlt
            rw [hc k hjj, ← List.getElem?_eq_getElem hjj, List.getElem?_map, hat]
            rfl
          clear hc hat hl hlmem CC
          have hsz : (⟨l.toArray⟩ : ByteArray).size ≤ 1099511627776 := by show l.toArray.size ≤ _; simp; omega
          have HPG : Hid (ans = match readV l with
            | none => ([], k + 1, 31)
            | some x => parseG (k + 1) (ls.drop (k + 1)) (out ++ [x])) := by
            show ans = _
            rw [← HK.out, HL.out, parseG, if_neg h4]
            cases readV l <;> rfl
          go_wp2_with fail
          refine (refread_any ⟨l.toArray⟩ _ hsz).mono ?_
          rintro e w2 ⟨rfl, K2⟩
          rw [sl_str]
          have G2 := grown_trans G K2
          have C2 := owns_keptNone C K2
          have O2 : IOwns w2 w.heap.size u6 out := owns_keptNone O K2
          clear G C O K2 c0
          unfold readC
          cases hr : readV l with
          | none =>
            have HA : Hid (ans = ([], k + 1, 31)) := by
              show ans = _
              rw [HPG.out, hr]
            have HZ : zeroI.cells.toArray = #[.int .u16 0, .int .u8 0, .int .u8 0, .int .u32 0] := rfl
            simp only [Option.getD_none, Option.isSome_none, HZ]
            go_wp2
            go_ret3
            rw [HA.out]
            exact ⟨_, rfl, World.ownsRow_nil _ _ _ _, grown_trans G2 (World.grownBy_alloc _ _ _)⟩
          | some x =>
            have HA : Hid (parseG (k + 1) (ls.drop (k + 1)) (out ++ [x]) = ans) := by
              show _ = ans
              rw [HPG.out, hr]
            obtain ⟨n0, n1, n2, n3, hv⟩ : ∃ n0 n1 n2 n3 : Nat, x.cells = [.int .u16 (n0 : Int), .int .u8 (n1 : Int), .int .u8 (n2 : Int), .int .u32 (n3 : Int)] := ⟨_, _, _, _, rfl⟩
            have HX : Hid (x.cells = [.int .u16 (n0 : Int), .int .u8 (n1 : Int), .int .u8 (n2 : Int), .int .u32 (n3 : Int)]) := hv
            simp only [Option.getD_some, Option.isSome_some, hv]
            clear hv
            go_wp2_with (at_builtin; refine wpList_append_cv rfl (.tmp 37) (.tmp 39) 29 rfl 25 i0 _ 4 8 Tryd.underlying29 hi hz0 hz1 hz2 rfl (by decide) w.heap.size u6 out.length (flat out) rfl ?q1 (some ⟨w2.heap.size + 1, 0, none⟩) 1 1 [.int .u16 (n0 : Int), .int .u8 (n1 : Int), .int .u8 (n2 : Int), .int .u32 (n3 : Int)] rfl rfl (by simp) ?q2 (by simp [Value.oneCell']) ?q3 ?q4 ?q5 ?q6)
            case q1 => exact (O2.alloc _).alloc _
            case q2 =>
              have := cv_lit (w2.alloc (.cells #[.int .u16 (n0 : Int), .int .u8 (n1 : Int), .int .u8 (n2 : Int), .int .u32 (n3 : Int)] 25)) 25 [.int .u16 (n0 : Int), .int .u8 (n1 : Int), .int .u8 (n2 : Int), .int .u32 (n3 : Int)]
              simpa using this
            case q3 => unfold maxLen; omega
            case q4 => omega
            case q5 => have := G2.size; simp; omega
            case q6 =>
              intro y3 w3 O3 K3
              have G3 : w.grownBy w3 none := grown_trans_new (grown_trans (grown_trans G2 (World.grownBy_alloc _ _ _)) (World.grownBy_alloc _ _ _)) K3 (fun z hz => (O2.lt z hz).1)
              have O4 : IOwns w3 w.heap.size y3 (out ++ [x]) := by
                have e1 : flat (out ++ [x]) = flat out ++ [.int .u16 (n0 : Int), .int .u8 (n1 : Int), .int .u8 (n2 : Int), .int .u32 (n3 : Int)] := by
                  rw [← HX.out]
                  simp only [flat_append, flat_cons, flat_nil, List.append_nil]
                unfold IOwns
                rw [e1, List.length_append, hol]
                exact O3
              have C4 := owns_kinds ((C2.alloc _).alloc _) ((O2.alloc _).alloc _) (by decide) K3
              clear K3 O3 O2 G2 C2
              go_wp2
              go_roundw
              case rel => exact ⟨k + 1, out ++ [x], by omega, by omega, by simp; omega, by go_num, HA.out, O4, G3, C4⟩
              case measure => simp [intOf]; omega
      · obtain rfl : k = ls.length := by omega
        have HA : Hid (ans = (out, 0, 0)) := by
          show ans = _
          rw [← HK.out, List.drop_length, parseG]
        go_wp2
        go_ret3
        rw [HA.out]
        exact ⟨_, rfl, O, G⟩

end Go.Proofs.YtcapmbeabfhjoaaDoor
