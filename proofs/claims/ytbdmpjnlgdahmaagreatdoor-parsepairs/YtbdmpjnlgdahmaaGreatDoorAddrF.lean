/-
  Package addr: a group of a text; groups laid into bytes.
-/
import Derived.Test.YtbdmpjnlgdahmaaGreatDoorLotP31
namespace Go.Proofs.YtbdmpjnlgdahmaaGreatDoor
open Go.RowKit
set_option maxRecDepth 100000

theorem gd_of {s : ByteArray} {l : List UInt8} (h : sl s = l) (i : Nat) : gd s i = (l.getD i 0).toNat := by unfold gd; unfold sl at h; rw [h]

/-- Four digits. -/
theorem un4 {s : ByteArray} {a b c d : UInt8} (h : sl s = [a, b, c, d]) :
    unOk s = (digOk a.toNat && digOk b.toNat && digOk c.toNat && digOk d.toNat) ∧
    (unOk s = true → unV s = [UInt8.ofNat (16 * digV a.toNat + digV b.toNat), UInt8.ofNat (16 * digV c.toNat + digV d.toNat)]) := by
  have hs : s.size = 4 := by rw [← sl_len, h]; rfl
  have g0 : gd s 0 = a.toNat := gd_of h 0
  have g1 : gd s 1 = b.toNat := gd_of h 1
  have g2 : gd s 2 = c.toNat := gd_of h 2
  have g3 : gd s 3 = d.toNat := gd_of h 3
  refine ⟨?_, fun ho => ?_⟩
  · simp [unOk, hs, okTo, g0, g1, g2, g3, Bool.and_assoc]
  · rw [unV, if_pos ho, hs]
    simp [decTo, g0, g1, g2, g3]

theorem digV_16 (c : Nat) : digV c < 16 := by unfold digV; split <;> (try split) <;> omega

/-- What the two bytes say. -/
theorem get2 (a b c d : Nat) (ha : a < 16) (hb : b < 16) (hc : c < 16) (hd : d < 16) : getV [UInt8.ofNat (16 * a + b), UInt8.ofNat (16 * c + d)] 0 2 = ((4096 * a + 256 * b + 16 * c + d : Nat) : Int) := by
  have e1 : (UInt8.ofNat (16 * a + b)).toNat = 16 * a + b := by rw [UInt8.toNat_ofNat_of_lt' (by show _ < 256; omega)]
  have e2 : (UInt8.ofNat (16 * c + d)).toNat = 16 * c + d := by rw [UInt8.toNat_ofNat_of_lt' (by show _ < 256; omega)]
  have ho : okB [UInt8.ofNat (16 * a + b), UInt8.ofNat (16 * c + d)].length 0 2 = true := show okB 2 0 2 = true by decide
  rw [getV, if_pos ho]
  show (((0 * 256 + (UInt8.ofNat (16 * a + b)).toNat) * 256 + (UInt8.ofNat (16 * c + d)).toNat : Nat) : Int) = _
  rw [e1, e2]
  omega

theorem hex0 (r : List UInt8) : hexFrom 0 (48 :: r) = hexFrom 0 r := by rw [hexFrom, if_pos (by decide)]; rfl
theorem hex4 (a b c d : UInt8) : hexFrom 0 [a, b, c, d] = if (digOk a.toNat && digOk b.toNat && digOk c.toNat && digOk d.toNat) = true then some (4096 * digV a.toNat + 256 * digV b.toNat + 16 * digV c.toNat + digV d.toNat) else none := by
  simp only [hexFrom]
  cases digOk a.toNat <;> cases digOk b.toNat <;> cases digOk c.toNat <;> cases digOk d.toNat <;> simp <;> omega

/-- Digits, noughts ahead up to four. -/
theorem group_four (l : List UInt8) (h1 : 1 ≤ l.length) (h4 : l.length ≤ 4) : ∃ a b c d, List.replicate (4 - l.length) 48 ++ l = [a, b, c, d] ∧ groupV l = hexFrom 0 [a, b, c, d] := by
  match l, h1, h4 with
  | [d], _, _ => exact ⟨48, 48, 48, d, rfl, by rw [hex0, hex0, hex0]; rfl⟩
  | [c, d], _, _ => exact ⟨48, 48, c, d, rfl, by rw [hex0, hex0]; rfl⟩
  | [b, c, d], _, _ => exact ⟨48, b, c, d, rfl, by rw [hex0]; rfl⟩
  | [a, b, c, d], _, _ => exact ⟨a, b, c, d, rfl, rfl⟩

theorem sl_cat (a b : ByteArray) : sl (a ++ b) = sl a ++ sl b := by simp [sl]

set_option maxHeartbeats 2000000 in
theorem group_any (s : ByteArray) (w : World) :
    Calls Tryz.prog 179 #[.string s] w fun e w' => e = .returned (.tuple #[.int .u16 (((groupV (sl s)).getD 0 : Nat) : Int), .bool (groupV (sl s)).isSome]) ∧ w.grownBy w' none := by
  have hl := sl_len s
  by_cases h0 : s.size < 1
  · have e : groupV (sl s) = none := by rw [groupV, if_pos (by omega)]
    rw [e]
    have h0' : (s.size : Int) < 1 := by omega
    go_enter Tryz.func179, Tryz.ntmps179
    go_wp2
    go_ret2
    exact ⟨rfl, World.grownBy.refl _ _⟩
  · have h0' : ¬ (s.size : Int) < 1 := by omega
    by_cases h4 : 4 < s.size
    · have e : groupV (sl s) = none := by rw [groupV, if_pos (by omega)]
      rw [e]
      have h4' : (4 : Int) < (s.size : Int) := by omega
      go_enter Tryz.func179, Tryz.ntmps179
      go_wp2
      go_ret2
      exact ⟨rfl, World.grownBy.refl _ _⟩
    · have h4' : ¬ (4 : Int) < (s.size : Int) := by omega
      have h5' : (s.size : Int) ≤ 4 := by omega
      obtain ⟨a, b, c, d, hs4, hg⟩ := group_four (sl s) (by omega) (by omega)
      rw [hl] at hs4
      have HS : Hid (List.replicate (4 - s.size) 48 ++ sl s = [a, b, c, d]) := hs4
      have CU : Hid (∀ (X : ByteArray) (W : World), sl X = [a, b, c, d] → Calls Tryz.prog 181 #[.string X] W fun e w' => ∃ v ys, e = .returned (.tuple #[v, .bool (groupV (sl s)).isSome]) ∧ Owns w' W.heap.size v ys ∧ getV ys 0 2 = (((groupV (sl s)).getD 0 : Nat) : Int) ∧ ys.length ≤ 2 ∧ W.grownBy w' none) := fun X W hX => by
        have hXs : X.size = 4 := by rw [← sl_len, hX]; rfl
        obtain ⟨u1, u2⟩ := un4 hX
        refine (unhex_any X W (by omega) (by omega)).mono ?_
        rintro e w' ⟨v, rfl, O, G⟩
        refine ⟨v, unV X, ?_, O, ?_, ?_, G⟩
        · rw [hg, hex4, u1]
          split <;> rename_i hh
          · rw [hh]; rfl
          · rw [Bool.eq_false_iff.2 hh]; rfl
        · rw [hg, hex4, ← u1]
          split
          · rename_i hh
            rw [u2 hh, get2 _ _ _ _ (digV_16 _) (digV_16 _) (digV_16 _) (digV_16 _)]
            rfl
          · rename_i hh
            rw [unV, if_neg hh]
            rfl
        · by_cases hh : unOk X = true
          · rw [u2 hh]; exact Nat.le_refl _
          · rw [unV, if_neg hh]; exact Nat.zero_le _
      have hlt : ((groupV (sl s)).getD 0 : Nat) < 65536 := by
        cases hq : groupV (sl s) with
        | none => decide
        | some u => exact group_lt hq
      clear hg hs4
      generalize (groupV (sl s)).isSome = ok at *
      generalize (groupV (sl s)).getD 0 = u at *
      go_enter Tryz.func179, Tryz.ntmps179
      go_wp2_with fail
      refine (CU.out _ _ ?hx).mono ?_
      case hx =>
        rw [sl_cat, sl_extract, ← HS.out]
        congr 1
        have : s.size = 1 ∨ s.size = 2 ∨ s.size = 3 ∨ s.size = 4 := by omega
        rcases this with h | h | h | h <;> simp only [h] <;> rfl
      rintro e w1 ⟨v, ys, rfl, O, hv, hy, G⟩
      obtain ⟨ao, cap, rfl, hc, -⟩ := O.rd
      have CG := get_any ao cap ys 0 2 w1 hc (by omega)
      rw [hv] at CG
      have hw : IntKind.u16.wrap (u : Int) = u := by rw [IntKind.wrap_u16]; omega
      clear CU HS O hc hv
      generalize okB ys.length 0 2 = ok2 at *
      go_wp2_with fail
      refine CG.mono ?_
      rintro e w2 ⟨rfl, rfl⟩
      go_wp2
      go_ret2
      exact ⟨rfl, G⟩

/-- Groups in memory. -/
def hv16 (g : Nat) : Value := .int .u16 (g : Int)
abbrev UOwns (w : World) (base : Nat) (v : Value) (gs : List Nat) : Prop := w.ownsRow base 161 1 v gs.length (gs.map hv16)

theorem bytesG_snoc (gs : List Nat) (g : Nat) : bytesG (gs ++ [g]) = bytesG gs ++ [UInt8.ofNat (g / 256), UInt8.ofNat g] := by simp [bytesG]
theorem bytesG_len (gs : List Nat) : (bytesG gs).length = 2 * gs.length := by
  induction gs with
  | nil => rfl
  | cons g r ih => simp only [bytesG, List.flatMap_cons, List.length_append, List.length_cons, List.length_nil] at *; omega

set_option maxHeartbeats 2000000 in
theorem laid_any (a : Option Addr) (ca : Nat) (gs : List Nat) (w : World) (ha : CV w a (gs.map hv16)) (hg : ∀ g ∈ gs, g < 65536) (h8 : gs.length ≤ 8) :
    Calls Tryz.prog 176 #[.slice a gs.length ca] w fun e w' => ∃ v, e = .returned v ∧ Owns w' w.heap.size v (bytesG gs) ∧ w.grownBy w' none := by
  obtain ⟨i0, hi, hz0, hz1, hz2⟩ := info_parts info5
  have H : Hid (CV w a (gs.map hv16)) := ha
  have HG : Hid (∀ g ∈ gs, g < 65536) := hg
  clear ha hg
  go_enter Tryz.func176, Tryz.ntmps176
  go_wp2
  go_loopw [3, 8] (fun v i wr => ∃ j : Nat, j ≤ gs.length ∧ i = .int .i64 j ∧ Owns wr w.heap.size v (bytesG (gs.take j)) ∧ w.grownBy wr none) (fun _ i _ => gs.length - (intOf i).toNat)
  case atStart => exact ⟨0, Nat.zero_le _, rfl, World.ownsRow_nil _ _ _ _, World.grownBy.refl _ _⟩
  case round =>
    obtain ⟨j, hj, rfl, O, G⟩ := hrel
    by_cases hlt : j < gs.length
    · have hl : (j : Int) < (gs.length : Int) := by omega
      obtain ⟨b, o, rfl, hc⟩ : ∃ b o, a = some ⟨b, o, none⟩ ∧ w.cell? ⟨b, o + j, none⟩ = some (.int .u16 (gs[j] : Int)) := by
        cases a with
        | none => have := H.out.1 rfl; simp at this; subst this; simp at hlt
        | some ad =>
          obtain ⟨b, off, spot⟩ := ad
          have h0 := H.out.2 _ rfl 0 (by simp; omega)
          have hspot : spot = none := by simpa [Addr.add] using World.cell?_spot h0
          subst hspot
          refine ⟨b, off, rfl, ?_⟩
          have := H.out.2 _ rfl j (by simp; omega)
          rw [Addr.add_lit] at this
          simpa [hv16] using this
      have hcj := G.cell hc (by simp)
      have hgj := HG.out gs[j] (List.getElem_mem hlt)
      have HN : Hid (bytesG (gs.take (j + 1)) = bytesG (gs.take j) ++ [UInt8.ofNat (gs[j] / 256), UInt8.ofNat gs[j]]) := by
        show _ = _
        rw [List.take_succ_eq_append_getElem hlt, bytesG_snoc]
      have hlen : (bytesG (gs.take j)).length ≤ 16 := by rw [bytesG_len, List.length_take]; omega
      generalize gs[j] = g at *
      generalize bytesG (gs.take j) = ys at *
      have hw1 : IntKind.u8.wrap ((g : Int) / 256) = ((UInt8.ofNat (g / 256)).toNat : Int) := by
        rw [IntKind.wrap_u8, UInt8.toNat_ofNat_of_lt' (by show _ < 256; omega)]; omega
      have hw2 : IntKind.u8.wrap (g : Int) = ((UInt8.ofNat g).toNat : Int) := by
        rw [IntKind.wrap_u8, UInt8.toNat_ofNat']; omega
      clear hc
      go_wp2_with (at_builtin; refine wpList_append_cv rfl (.tmp 12) (.tmp 18) 126 rfl 5 i0 (.int .u8 0) 1 1 Tryz.underlying126 hi hz0 hz1 hz2 rfl (by decide) w.heap.size u3 ys.length (ys.map bv) rfl ?q1 (some ⟨wr.heap.size, 0, none⟩) 2 2 [bv (UInt8.ofNat (g / 256)), bv (UInt8.ofNat g)] rfl rfl (by simp) ?q2 (by simp [Value.oneCell', bv]) ?q3 ?q4 ?q5 ?q6)
      case q1 => exact O.alloc _
      case q2 => exact cv_lit wr _ _
      case q3 => unfold maxLen; omega
      case q4 => omega
      case q5 => have := G.size; simp; omega
      case q6 =>
        intro y2 w2 O2 K2
        have G2 : w.grownBy w2 none := grown_trans_new (grown_trans G (World.grownBy_alloc _ _ _)) K2 (fun z hz => (O.lt z hz).1)
        have O3 : Owns w2 w.heap.size y2 (bytesG (gs.take (j + 1))) := by
          rw [HN.out]
          unfold Owns
          rw [List.length_append, List.map_append]
          exact O2
        clear O2 K2 O G
        go_wp2
        go_roundw
        case rel => exact ⟨j + 1, by omega, by go_num, O3, G2⟩
        case measure => simp [intOf]; omega
    · obtain rfl : j = gs.length := by omega
      rw [List.take_length] at O
      go_wp2
      go_ret
      exact ⟨_, rfl, O, G⟩

end Go.Proofs.YtbdmpjnlgdahmaaGreatDoor
