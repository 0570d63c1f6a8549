/-
  Hex, the document's and the program's: two digits a byte.
-/
import Derived.Test.YtbklagdegnflgaaDoorStep
import Derived.Laws.IdiomStrings
namespace Go.Proofs.YtbklagdegnflgaaDoor
open Go.RowKit
set_option maxRecDepth 100000

/-- A digit of base 16. -/
def hexD (n : Nat) : UInt8 := if n < 10 then UInt8.ofNat (48 + n) else UInt8.ofNat (87 + n)

/-- What Hex says. -/
def hexS (xs : List UInt8) : List UInt8 := xs.flatMap fun c => [hexD (c.toNat / 16), hexD (c.toNat % 16)]

theorem hexS_succ (xs : List UInt8) (k : Nat) (hk : k < xs.length) : hexS (xs.take (k + 1)) = hexS (xs.take k) ++ [hexD (xs[k].toNat / 16), hexD (xs[k].toNat % 16)] := by
  rw [List.take_succ_eq_append_getElem hk]; simp only [hexS, List.flatMap_append, List.flatMap_cons, List.flatMap_nil, List.append_nil]

theorem hexS_len (xs : List UInt8) : (hexS xs).length = 2 * xs.length := by
  induction xs with
  | nil => rfl
  | cons x xs ih => simp only [hexS, List.flatMap_cons, List.length_append, List.length_cons, List.length_nil] at *; omega

/-- 'string(b)', b the call's own. -/
theorem run_str {P : Program} {w : World} {base : Nat} {v : Value} {ys : List UInt8} (h : Owns w base v ys) (src dst : TypeId) (hs : P.underlying src = some (.slice 5)) (he : P.underlying 5 = some (.int .u8)) (hd : P.underlying dst = some .string) :
    (convert src dst v).run P w = .ok (.string ⟨ys.toArray⟩) w := by
  obtain ⟨ao, cap, rfl, hc, _⟩ := h.shape
  cases ao with
  | none =>
    have e := hc.1 rfl
    subst e
    show (convert src dst (.slice none 0 cap)).run P w = _
    rw [run_convert_bytes_string w src dst 5 none 0 cap hs he hd]
    simp [Conv.bytesToString]
    rfl
  | some ad => exact run_convert_bytes_back w src dst 5 ad cap ys hs he hd (fun j hj => hc.2 ad rfl j hj)

/-- The sixteen digits. -/
def hexT : ByteArray := ⟨#[48, 49, 50, 51, 52, 53, 54, 55, 56, 57, 97, 98, 99, 100, 101, 102]⟩

theorem hexT_at (i : Nat) (h : i < hexT.size) : hexT[i] = hexD i := by
  have h' : i < 16 := h
  have key : ∀ j : Fin 16, hexT[j.val]'(j.isLt) = hexD j.val := by decide +kernel
  exact key ⟨i, h'⟩

set_option maxHeartbeats 1000000 in
theorem refhex_any (a : Option Addr) (ca : Nat) (xs : List UInt8) (w : World) (ha : Cells w a xs) (hn : xs.length ≤ 70368744177664) :
    Calls Tryd.prog 53 #[.slice a xs.length ca] w fun e w' => e = .returned (.string ⟨(hexS xs).toArray⟩) ∧ w.grownBy w' none := by
  obtain ⟨i0, hi, hz0, hz1, hz2⟩ := info_parts info5
  have H : Hid (Cells w a xs) := ha
  clear ha
  go_enter Tryd.func53, Tryd.ntmps53
  go_wp2
  go_loopw [3, 4] (fun v i wr => ∃ k : Nat, k ≤ xs.length ∧ i = .int .i64 k ∧ Owns wr w.heap.size v (hexS (xs.take k)) ∧ w.grownBy wr none) (fun _ i _ => xs.length - (intOf i).toNat)
  case atStart => exact ⟨0, Nat.zero_le _, rfl, World.ownsRow_nil _ _ _ _, World.grownBy.refl _ _⟩
  case round =>
    obtain ⟨k, hk, rfl, O, G⟩ := hrel
    by_cases hlt : k < xs.length
    · obtain ⟨b, o, rfl, hc⟩ := H.out.addr hlt
      have c0 := hc k hlt
      have c1 : wr.cell? ⟨b, o + k, none⟩ = some (.int .u8 (xs[k].toNat : Int)) := G.cell c0 (by simp)
      have hx := xs[k].toNat_lt
      have HJ : Hid (hexS (xs.take (k + 1)) = hexS (xs.take k) ++ [hexD (xs[k].toNat / 16), hexD (xs[k].toNat % 16)]) := hexS_succ xs k hlt
      generalize xs[k].toNat = c at *
      have d1 : (0 : Int) ≤ (c : Int) / 16 := by omega
      have d2 : (c : Int) / 16 < 16 := by omega
      have d3 : bits .and .u8 (c : Int) 15 = (c : Int) % 16 := u8_and15 (c : Int) (by omega) (by omega)
      have d4 : (0 : Int) ≤ (c : Int) % 16 := by omega
      have d5 : (c : Int) % 16 < 16 := by omega
      have e1 : (⟨#[48, 49, 50, 51, 52, 53, 54, 55, 56, 57, 97, 98, 99, 100, 101, 102]⟩ : ByteArray)[((c : Int) / 16).toNat]'(by show _ < 16; omega) = hexD (c / 16) := hexT_at _ _
      have e2 : (⟨#[48, 49, 50, 51, 52, 53, 54, 55, 56, 57, 97, 98, 99, 100, 101, 102]⟩ : ByteArray)[((c : Int) % 16).toNat]'(by show _ < 16; omega) = hexD (c % 16) := hexT_at _ _
      have hlen : (hexS (xs.take k)).length + 2 ≤ 140737488355328 := by rw [hexS_len, List.length_take]; omega
      have hl : (k : Int) < (xs.length : Int) := by omega
      clear hc c0
      go_wp2
      go_region_law (refine step_append_rd rfl (.tmp 11) (.tmp 24) 34 rfl i0 Tryd.underlying34 hi hz0 hz1 hz2 w.heap.size u3 (hexS (xs.take k)) (by simp [Act.eval]) (by first | exact (O.alloc _).drew | exact O.drew.alloc _) ⟨wr.heap.size, 0, none⟩ 2 [hexD (c / 16), hexD (c % 16)] (by simp [Act.eval]) (by exact cells_lit wr [hexD (c / 16), hexD (c % 16)]) (by simpa using hlen) (by have := G.size; simp; omega) ?_; intro v' w' h1 h2)
      all_goals
        rename_i v' w' h1 h2
        have G' : w.grownBy w' none := grown_trans_new G (grown_trans (grown_alloc_drew wr _ _) h2) (fun x hx => (O.lt x hx).1)
        rw [← HJ.out] at h1
        clear h2 G O
        go_wp2
        go_roundw
        case rel => exact ⟨k + 1, by omega, by go_num, h1, G'⟩
        case measure => simp [intOf]; omega
    · obtain rfl : k = xs.length := by omega
      rw [List.take_length] at O
      have hcv := run_str (P := Tryd.prog) O 34 9 Tryd.underlying34 Tryd.underlying5 Tryd.underlying9
      go_wp2
      go_ret
      exact ⟨rfl, G⟩

end Go.Proofs.YtbklagdegnflgaaDoor
