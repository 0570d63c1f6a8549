/-
  Package asm writes: an instruction's line; Line, Print.
-/
import Derived.Test.YtcapmbeabfhjoaaDoorAsmB
import Derived.Test.YtcapmbeabfhjoaaDoorPrintR
namespace Go.Proofs.YtcapmbeabfhjoaaDoor
open Go.RowKit
set_option maxRecDepth 100000

theorem fText_len : fText.length = 49 := by decide +kernel
theorem fCells_len (l : List (Nat × List UInt8)) : (l.flatMap fun r => [Value.int .u16 (r.1 : Int), str r.2]).length = 2 * l.length := by
  induction l with
  | nil => rfl
  | cons r l ih => rw [List.flatMap_cons, List.length_append, ih]; simp; omega
theorem fCells_at (l : List (Nat × List UInt8)) (j : Nat) (h : j < l.length) : (l.flatMap fun r => [Value.int .u16 (r.1 : Int), str r.2])[j * 2]? = some (.int .u16 (l[j].1 : Int)) ∧ (l.flatMap fun r => [Value.int .u16 (r.1 : Int), str r.2])[j * 2 + 1]? = some (str l[j].2) := by
  induction l generalizing j with
  | nil => simp at h
  | cons r l ih =>
    cases j with
    | zero => simp
    | succ j =>
      have := ih j (by simpa using h)
      rw [List.flatMap_cons, show (j + 1) * 2 = j * 2 + 1 + 1 by omega]
      simpa using this

theorem KnownAt.row {w : World} {b j : Nat} (h : KnownAt w b) (hj : j < fText.length) : w.cell? ⟨b, j * 2, none⟩ = some (.int .u16 (fText[j].1 : Int)) ∧ w.cell? ⟨b, j * 2 + 1, none⟩ = some (str fText[j].2) := by
  unfold KnownAt at h
  obtain ⟨h1, h2⟩ := fCells_at fText j hj
  constructor
  · simp only [World.cell?, h]; simpa [fCells] using h1
  · simp only [World.cell?, h]; simpa [fCells] using h2

theorem find_take {α : Type} {l : List α} {p : α → Bool} {j : Nat} (h : (l.take j).find? p = none) (hj : j < l.length) (hp : p l[j] = false) : (l.take (j + 1)).find? p = none := by
  rw [List.take_succ_eq_append_getElem hj, List.find?_append, h]
  simp [hp]
theorem find_hit {α : Type} {l : List α} {p : α → Bool} {j : Nat} (h : (l.take j).find? p = none) (hj : j < l.length) (hp : p l[j] = true) : l.find? p = some l[j] := by
  have e : l.find? p = (l.take j ++ l[j] :: l.drop (j + 1)).find? p := by rw [← List.drop_eq_getElem_cons hj, List.take_append_drop]
  rw [e, List.find?_append, h, List.find?_cons]
  simp only [hp, Option.none_or]

set_option maxHeartbeats 4000000 in
theorem append_line (B : Nat) (v : Value) (xs : List UInt8) (b c t f k : Nat) (w : World) (hc : c ≤ 65535) (ht : t ≤ 255) (hf : f ≤ 255) (hk : k ≤ 4294967295)
    (O : Owns w B v xs) (hB : B ≤ w.heap.size) (hT : 1 < B) (hl : xs.length ≤ 140737488300000) (T : Tab w) (KN : KnownAt w b) :
    Calls Tryd.prog 22 #[v, .slice (some ⟨b, 0, none⟩) 49 49, .agg #[.int .u16 c, .int .u8 t, .int .u8 f, .int .u32 k]] w fun e w' => ∃ v', e = .returned v' ∧ Owns w' B v' (xs ++ lineN c t f k) ∧ Ap B w w' := by
  have HT : Hid (lineT c t f k = lineN c t f k) := lineT_eq c t f k
  have X0 := boxAt_new w c t f k
  have G0 := World.grownBy_alloc w (.cells #[.int .u16 (c : Int), .int .u8 (t : Int), .int .u8 (f : Int), .int .u32 (k : Int)] 25) none
  have HO : Hid (Owns w B v xs) := O
  have HK : Hid (KnownAt w b) := KN
  have HTb : Hid (Tab w) := T
  clear O KN T
  go_enter Tryd.func22, Tryd.ntmps22
  go_wp2
  go_loopw [11] (fun i wr => ∃ j : Nat, j ≤ 49 ∧ i = .int .i64 j ∧ Hid ((fText.take j).find? (hitF c t f k) = none) ∧ BoxAt wr w.heap.size c t f k ∧ w.grownBy wr none) (fun i _ => 49 - (intOf i).toNat)
  case atStart => exact ⟨0, Nat.zero_le _, rfl, rfl, X0, G0⟩
  case round =>
    clear X0 G0
    obtain ⟨j, hj, rfl, HF, X, G⟩ := hrel
    by_cases hlt : j < 49
    · have hlt' : (j : Int) < 49 := by omega
      have hjf : j < fText.length := by rw [fText_len]; exact hlt
      obtain ⟨r0, r1⟩ := (HK.out.grown G).row hjf
      obtain ⟨x0, x1, x2, x3⟩ := X.cells
      have hsh := row_short (List.getElem_mem hjf)
      have HH : Hid (fText[j].1 = c ∧ showsB fText[j].2 t f k = true → fText.find? (hitF c t f k) = some fText[j]) := fun h => find_hit HF.out hjf (by simp [hitF, h.1, h.2])
      have HM : Hid (¬ (fText[j].1 = c ∧ showsB fText[j].2 t f k = true) → (fText.take (j + 1)).find? (hitF c t f k) = none) := fun h => find_take HF.out hjf (by
        cases hb : hitF c t f k fText[j] with
        | false => rfl
        | true => exact absurd (by simpa [hitF] using hb) h)
      obtain ⟨S, hS⟩ : ∃ S : ByteArray, S = ⟨fText[j].2.toArray⟩ := ⟨_, rfl⟩
      have hsl : sl S = fText[j].2 := by rw [hS, sl_str]
      have hsz : S.size ≤ 20 := by rw [← sl_len, hsl]; exact hsh
      rw [show str fText[j].2 = .string S by rw [hS]] at r1
      generalize fText[j] = row at *
      obtain ⟨rc, rt⟩ := row
      simp only at *
      clear hS hsh hjf
      subst hsl
      have GA := World.grownBy_alloc wr (.cells #[.int .u16 (rc : Int), .string S] 67) none
      have X1 : BoxAt (wr.alloc (.cells #[.int .u16 (rc : Int), .string S] 67)) w.heap.size c t f k := X.ap (Ap.ofNone (Nat.le_refl _) GA)
      have G1 := grown_trans G GA
      obtain ⟨z0, z1, z2, z3⟩ := X1.cells
      have q1 : (wr.alloc (.cells #[.int .u16 (rc : Int), .string S] 67)).heap[wr.heap.size]? = some (.cells #[.int .u16 (rc : Int), .string S] 67 (0, 0)) := heap_alloc_new wr _
      clear X x0 x1 x2 x3 GA
      by_cases hcc : rc = c
      · subst hcc
        have hcc1 : ((rc : Int) == (rc : Int)) = true := by simp
        go_wp2_with fail
        refine (shows_any rc S rc t f k _).mono ?_
        rintro e w1 ⟨rfl, K1⟩
        have G2 := grown_trans G1 K1
        have X2 : BoxAt w1 w.heap.size rc t f k := X1.ap (Ap.ofNone (Nat.le_refl _) K1)
        have q2 : w1.cell? ⟨wr.heap.size, 1, none⟩ = some (.string S) := K1.cell (by rw [World.cell?, q1]; rfl) (by simp)
        clear X1 z0 z1 z2 z3 q1 K1 G1 r0 r1
        cases hsw : showsB (sl S) t f k with
        | true =>
          obtain ⟨z0, z1, z2, z3⟩ := X2.cells
          have HR : Hid (render rc t f k (sl S) = lineN rc t f k) := by
            show render rc t f k (sl S) = lineN rc t f k
            rw [← HT.out, lineT, HH.out ⟨by trivial, hsw⟩]
            rfl
          have O2 := owns_keptNone HO.out G2
          have T2 := HTb.out.grown G2
          have hB2 := Nat.le_trans hB G2.size
          clear HH HM HF
          go_wp2_with fail
          refine (append_form B v xs S rc t f k _ hc ht hf hk O2 hB2 hT (by omega) hl T2).mono ?_
          rintro e w2 ⟨v2, rfl, O3, A3⟩
          rw [HR.out] at O3
          have A4 := (Ap.ofNone hB G2).trans A3
          clear A3 O2 T2 X2 z0 z1 z2 z3 q2 G2
          go_wp2
          go_ret
          exact ⟨v2, rfl, O3, A4⟩
        | false =>
          have HF2 : Hid ((fText.take (j + 1)).find? (hitF rc t f k) = none) := HM.out (fun h => by rw [hsw] at h; exact absurd h.2 (by simp))
          clear HH HM HF
          go_wp2
          go_roundw
          case rel => exact ⟨j + 1, by omega, by go_num, HF2, X2, G2⟩
          case measure => simp [intOf]; omega
      · have hcc1 : ((rc : Int) == (c : Int)) = false := by rw [beq_eq_false_iff_ne]; omega
        have HF2 : Hid ((fText.take (j + 1)).find? (hitF c t f k) = none) := HM.out (fun h => hcc h.1)
        clear HH HM HF
        go_wp2
        go_roundw
        case rel => exact ⟨j + 1, by omega, by go_num, HF2, X1, G1⟩
        case measure => simp [intOf]; omega
    · obtain rfl : j = 49 := by omega
      obtain ⟨z0, z1, z2, z3⟩ := X.cells
      have HR : Hid (render c t f k (sl ⟨#[114, 97, 119, 32, 67, 32, 84, 32, 70, 32, 75]⟩) = lineN c t f k) := by
        show render c t f k (sl ⟨#[114, 97, 119, 32, 67, 32, 84, 32, 70, 32, 75]⟩) = lineN c t f k
        have e : fText.take 49 = fText := List.take_of_length_le (by rw [fText_len]; omega)
        have h := HF.out
        rw [e] at h
        rw [← HT.out, lineT, h]
        rfl
      have O2 := owns_keptNone HO.out G
      have T2 := HTb.out.grown G
      have hB2 := Nat.le_trans hB G.size
      clear HF
      go_wp2_with fail
      refine (append_form B v xs _ c t f k _ hc ht hf hk O2 hB2 hT (by decide) hl T2).mono ?_
      rintro e w2 ⟨v2, rfl, O3, A3⟩
      rw [HR.out] at O3
      have A4 := (Ap.ofNone hB G).trans A3
      clear A3 O2 T2 X z0 z1 z2 z3 G
      go_wp2
      go_ret
      exact ⟨v2, rfl, O3, A4⟩

end Go.Proofs.YtcapmbeabfhjoaaDoor
