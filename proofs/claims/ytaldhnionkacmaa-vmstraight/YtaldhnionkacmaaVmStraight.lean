/-
  For every three numbers of 32 bits riddlelaw5.VmStraight returns true and leaves what was there as it was: no condition of ours.
-/
import Derived.Test.YtaldhnionkacmaaOpenI
import Derived.Test.YtaldhnionkacmaaAwake5
import Derived.Test.YtaldhnionkacmaaVmX
import Derived.Deep.DeepCutAuto
namespace Go.Proofs.Ytaldhnionkacmaa
open Go.ChangeShapes Go.WideShapes Go.ChangeAt Go.RowKit
open Go.ChangeMaps (open_string shut_string)
set_option maxRecDepth 100000
namespace vmStraight

def u16v (v : Nat) : Value := .int .u16 (v : Int)

theorem flat6 {a b s op : Nat} (ha : a ≤ 4294967295) (hb : b ≤ 4294967295) (hs : s < 16) (ho : op ≤ 255) : flat (prog6 a b s op) = [.int .u16 0, .int .u8 0, .int .u8 0, .int .u32 (b : Int), .int .u16 2, .int .u8 0, .int .u8 0, .int .u32 (s : Int), .int .u16 0, .int .u8 0, .int .u8 0, .int .u32 (a : Int), .int .u16 97, .int .u8 0, .int .u8 0, .int .u32 (s : Int), .int .u16 (op : Int), .int .u8 0, .int .u8 0, .int .u32 0, .int .u16 22, .int .u8 0, .int .u8 0, .int .u32 0] := by
  simp only [prog6, flat, List.flatMap_cons, List.flatMap_nil, mkV_cells (show (0 : Nat) ≤ 65535 by omega) (show (0 : Nat) ≤ 255 by omega) (show (0 : Nat) ≤ 255 by omega) hb, mkV_cells (show (2 : Nat) ≤ 65535 by omega) (show (0 : Nat) ≤ 255 by omega) (show (0 : Nat) ≤ 255 by omega) (show s ≤ 4294967295 by omega), mkV_cells (show (0 : Nat) ≤ 65535 by omega) (show (0 : Nat) ≤ 255 by omega) (show (0 : Nat) ≤ 255 by omega) ha, mkV_cells (show (97 : Nat) ≤ 65535 by omega) (show (0 : Nat) ≤ 255 by omega) (show (0 : Nat) ≤ 255 by omega) (show s ≤ 4294967295 by omega), mkV_cells (show op ≤ 65535 by omega) (show (0 : Nat) ≤ 255 by omega) (show (0 : Nat) ≤ 255 by omega) (show (0 : Nat) ≤ 4294967295 by omega), mkV_cells (show (22 : Nat) ≤ 65535 by omega) (show (0 : Nat) ≤ 255 by omega) (show (0 : Nat) ≤ 255 by omega) (show (0 : Nat) ≤ 4294967295 by omega)]
  rfl

theorem flat3 {a b d : Nat} (ha : a ≤ 4294967295) (hb : b ≤ 4294967295) (hd : d ≤ 255) : flat (prog3 a b d) = [.int .u16 0, .int .u8 0, .int .u8 0, .int .u32 (a : Int), .int .u16 (d : Int), .int .u8 0, .int .u8 0, .int .u32 (b : Int), .int .u16 22, .int .u8 0, .int .u8 0, .int .u32 0] := by
  simp only [prog3, flat, List.flatMap_cons, List.flatMap_nil, mkV_cells (show (0 : Nat) ≤ 65535 by omega) (show (0 : Nat) ≤ 255 by omega) (show (0 : Nat) ≤ 255 by omega) ha, mkV_cells (show d ≤ 65535 by omega) (show (0 : Nat) ≤ 255 by omega) (show (0 : Nat) ≤ 255 by omega) hb, mkV_cells (show (22 : Nat) ≤ 65535 by omega) (show (0 : Nat) ≤ 255 by omega) (show (0 : Nat) ≤ 255 by omega) (show (0 : Nat) ≤ 4294967295 by omega)]
  rfl

/-- What is kept from round to round: the program, the codes, the numbers. -/
def Rel (w : World) (B O N a b s C : Nat) (wr : World) : Prop :=
  wr.ownsRow B 47 4 (.slice (some ⟨B, 0, none⟩) 6 6) 6 (flat (prog6 a b s C)) ∧ CV wr (some ⟨O, 0, none⟩) (opsL.map u16v) ∧ CV wr (some ⟨N, 0, none⟩) ((wantL a b).map u32v) ∧ w.grownBy wr none ∧ B < O ∧ O < N

theorem Rel.kept {w wr w' : World} {B O N a b s C : Nat} (h : Rel w B O N a b s C wr) (K : wr.grownBy w' none) : Rel w B O N a b s C w' :=
  ⟨owns_keptNone h.1 K, h.2.1.keptNone K, h.2.2.1.keptNone K, grown_trans h.2.2.2.1 K, h.2.2.2.2⟩

theorem Rel.store {w wr : World} {B O N a b s C op : Nat} (h : Rel w B O N a b s C wr) (hB : w.heap.size = B) (ha : a ≤ 4294967295) (hb : b ≤ 4294967295) (hs : s < 16) (hC : C ≤ 255) (ho : op ≤ 255) : Rel w B O N a b s op (wr.setCell ⟨B, 16, none⟩ (.int .u16 (op : Int))) := by
  obtain ⟨h1, h2, h3, h4, h5, h6⟩ := h
  have K : wr.grownBy (wr.setCell ⟨B, 16, none⟩ (.int .u16 (op : Int))) (some B) := grown_set1 wr _ _
  refine ⟨?_, h2.kept K (fun ad had _ e => by obtain rfl := Option.some.inj had; simp only [Option.some.injEq] at e; omega), h3.kept K (fun ad had _ e => by obtain rfl := Option.some.inj had; simp only [Option.some.injEq] at e; omega), grown_trans_new h4 K (by intro x hx; obtain rfl := Option.some.inj hx; omega), h5, h6⟩
  have k := (World.ownsRow.stored h1 16 (.int .u16 (op : Int))).1
  rw [flat6 ha hb hs hC] at k
  rw [flat6 ha hb hs ho]
  exact k

theorem copy6 {w wr : World} {B O N a b s C : Nat} (h : Rel w B O N a b s C wr) : Calls Try.prog 17 #[.slice (some ⟨B, 0, none⟩) 6 6] wr fun e w' => ∃ v, e = .returned v ∧ w'.ownsRow wr.heap.size 47 4 v 6 (flat (prog6 a b s C)) ∧ wr.grownBy w' none := by
  obtain ⟨ao, cap, hv, hc, -⟩ := cv_of_row h.1
  cases hv
  exact icopy_any (some ⟨B, 0, none⟩) 6 (prog6 a b s C) wr hc (by simp) (by simp [prog6])

theorem run6 {a b s op v : Nat} {f n : Int} (hE : runE (prog6 a b s op) [] = 0) {l : List Nat} (hV : runV (prog6 a b s op) [] = (v, f, l)) (hn : (l.length : Int) = n) (x : Option Addr) (cx : Nat) (W : World) (h : CV W x (flat (prog6 a b s op))) :
    Calls Try.prog 12 #[.slice x 6 cx, .slice none 0 0] W fun e w' => RunEnd W v f n 0 e w' := by
  have k := run_any x none cx 0 (prog6 a b s op) [] W h ⟨fun _ => rfl, fun _ h => by cases h⟩
  rw [hE, hV] at k
  rw [← hn]
  exact k

theorem run3 {a b d v : Nat} {f n : Int} (hE : runE (prog3 a b d) [] = 0) {l : List Nat} (hV : runV (prog3 a b d) [] = (v, f, l)) (hn : (l.length : Int) = n) (x : Option Addr) (cx : Nat) (W : World) (h : CV W x (flat (prog3 a b d))) :
    Calls Try.prog 12 #[.slice x 3 cx, .slice none 0 0] W fun e w' => RunEnd W v f n 0 e w' := by
  have k := run_any x none cx 0 (prog3 a b d) [] W h ⟨fun _ => rfl, fun _ h => by cases h⟩
  rw [hE, hV] at k
  rw [← hn]
  exact k

set_option maxHeartbeats 4000000 in
theorem walk (a b k : Nat) (w : World) (ha : a ≤ 4294967295) (hb : b ≤ 4294967295) (hk : k ≤ 4294967295) :
    Calls Try.prog 7 #[.int .u32 (a : Int), .int .u32 (b : Int), .int .u32 (k : Int)] w fun e w' => e = .returned (.bool true) ∧ w.grownBy w' none := by
  have hs := vand15 k hk
  have hs16 : k % 16 < 16 := by omega
  generalize k % 16 = s at *
  go_enter Try.func7, Try.ntmps7
  go_upto_region 3 with fail
  have G0 : w.grownBy (w.alloc (.cells #[.int .u16 0, .int .u8 0, .int .u8 0, .int .u32 (b : Int), .int .u16 2, .int .u8 0, .int .u8 0, .int .u32 (s : Int), .int .u16 0, .int .u8 0, .int .u8 0, .int .u32 (a : Int), .int .u16 97, .int .u8 0, .int .u8 0, .int .u32 (s : Int), .int .u16 12, .int .u8 0, .int .u8 0, .int .u32 0, .int .u16 22, .int .u8 0, .int .u8 0, .int .u32 0] 47)) none := World.grownBy_alloc _ _ _
  have P0 : (w.alloc (.cells #[.int .u16 0, .int .u8 0, .int .u8 0, .int .u32 (b : Int), .int .u16 2, .int .u8 0, .int .u8 0, .int .u32 (s : Int), .int .u16 0, .int .u8 0, .int .u8 0, .int .u32 (a : Int), .int .u16 97, .int .u8 0, .int .u8 0, .int .u32 (s : Int), .int .u16 12, .int .u8 0, .int .u8 0, .int .u32 0, .int .u16 22, .int .u8 0, .int .u8 0, .int .u32 0] 47)).ownsRow w.heap.size 47 4 (.slice (some ⟨w.heap.size, 0, none⟩) 6 6) 6 (flat (prog6 a b s 12)) := by
    rw [flat6 ha hb hs16 (by omega)]
    exact World.ownsRow_lit (e := 47) (size := 4) w #[.int .u16 0, .int .u8 0, .int .u8 0, .int .u32 (b : Int), .int .u16 2, .int .u8 0, .int .u8 0, .int .u32 (s : Int), .int .u16 0, .int .u8 0, .int .u8 0, .int .u32 (a : Int), .int .u16 97, .int .u8 0, .int .u8 0, .int .u32 (s : Int), .int .u16 12, .int .u8 0, .int .u8 0, .int .u32 0, .int .u16 22, .int .u8 0, .int .u8 0, .int .u32 0] 6 (Nat.le_refl _) (by unfold maxLen; omega) (by simp)
  have hB : Hid (w.heap.size = w.heap.size) := rfl
  have hBO : w.heap.size < (w.alloc (.cells #[.int .u16 0, .int .u8 0, .int .u8 0, .int .u32 (b : Int), .int .u16 2, .int .u8 0, .int .u8 0, .int .u32 (s : Int), .int .u16 0, .int .u8 0, .int .u8 0, .int .u32 (a : Int), .int .u16 97, .int .u8 0, .int .u8 0, .int .u32 (s : Int), .int .u16 12, .int .u8 0, .int .u8 0, .int .u32 0, .int .u16 22, .int .u8 0, .int .u8 0, .int .u32 0] 47)).heap.size := by simp
  generalize w.alloc (.cells #[.int .u16 0, .int .u8 0, .int .u8 0, .int .u32 (b : Int), .int .u16 2, .int .u8 0, .int .u8 0, .int .u32 (s : Int), .int .u16 0, .int .u8 0, .int .u8 0, .int .u32 (a : Int), .int .u16 97, .int .u8 0, .int .u8 0, .int .u32 (s : Int), .int .u16 12, .int .u8 0, .int .u8 0, .int .u32 0, .int .u16 22, .int .u8 0, .int .u8 0, .int .u32 0] 47) = wp at *
  obtain ⟨B, hBe⟩ : ∃ B, w.heap.size = B := ⟨_, rfl⟩
  rw [hBe] at P0 hBO ⊢
  have HB : Hid (w.heap.size = B) := hBe
  clear hB hBe
  go_upto_if 36 with fail
  have G1 : w.grownBy (wp.alloc (.cells #[.int .u16 12, .int .u16 28, .int .u16 44, .int .u16 76, .int .u16 92, .int .u16 172, .int .u16 108, .int .u16 124, .int .u16 60, .int .u16 156] 45)) none := grown_trans G0 (World.grownBy_alloc _ _ _)
  have P1 := owns_keptNone P0 (World.grownBy_alloc wp (.cells #[.int .u16 12, .int .u16 28, .int .u16 44, .int .u16 76, .int .u16 92, .int .u16 172, .int .u16 108, .int .u16 124, .int .u16 60, .int .u16 156] 45) none)
  have O1 : CV (wp.alloc (.cells #[.int .u16 12, .int .u16 28, .int .u16 44, .int .u16 76, .int .u16 92, .int .u16 172, .int .u16 108, .int .u16 124, .int .u16 60, .int .u16 156] 45)) (some ⟨wp.heap.size, 0, none⟩) (opsL.map u16v) := cv_lit wp 45 [.int .u16 12, .int .u16 28, .int .u16 44, .int .u16 76, .int .u16 92, .int .u16 172, .int .u16 108, .int .u16 124, .int .u16 60, .int .u16 156]
  have hON : wp.heap.size < (wp.alloc (.cells #[.int .u16 12, .int .u16 28, .int .u16 44, .int .u16 76, .int .u16 92, .int .u16 172, .int .u16 108, .int .u16 124, .int .u16 60, .int .u16 156] 45)).heap.size := by simp
  generalize wp.alloc (.cells #[.int .u16 12, .int .u16 28, .int .u16 44, .int .u16 76, .int .u16 92, .int .u16 172, .int .u16 108, .int .u16 124, .int .u16 60, .int .u16 156] 45) = wo at *
  generalize wp.heap.size = O at *
  clear G0 P0
  go_cut [10, 11] (fun l r wx => l = .int .u32 (shiftV a b true : Int) ∧ r = .int .u32 (shiftV a b false : Int) ∧ wx = wo)
  case first =>
    by_cases h : 31 < b
    · have h' : ¬ ((b : Int) < 32) := by omega
      go_wp2
      go_meet
      exact ⟨by simp [shiftV, h], by simp [shiftV, h], rfl⟩
    · have h' : (b : Int) < 32 := by omega
      go_wp2
      go_meet
      exact ⟨by simp [shiftV, h], by simp [shiftV, h], rfl⟩
  case rest =>
    obtain ⟨rfl, rfl, hw0⟩ := hcut
    have hw1 := hw0.symm
    clear hw0
    subst hw1
    have e1 := u32_or_nat a b (by omega) (by omega)
    have e2 := u32_and_nat a b (by omega) (by omega)
    have e3 := u32_xor_nat a b (by omega) (by omega)
    obtain ⟨sl, hsl⟩ : ∃ v, shiftV a b true = v := ⟨_, rfl⟩
    obtain ⟨sr, hsr⟩ : ∃ v, shiftV a b false = v := ⟨_, rfl⟩
    rw [hsl, hsr]
    have q1 : ((a : Int) + (b : Int)) % 4294967296 = (((a + b) % 4294967296 : Nat) : Int) := by omega
    have q2 : ((a : Int) - (b : Int)) % 4294967296 = (((a + 4294967296 - b) % 4294967296 : Nat) : Int) := by omega
    have q3 : (a : Int) * (b : Int) % 4294967296 = ((a * b % 4294967296 : Nat) : Int) := by rw [Int.natCast_emod, Int.natCast_mul]; rfl
    have HW0 : Hid (∀ x y : Nat, (b = 0 → x = 0 ∧ y = 0) → (¬ b = 0 → x = a / b ∧ y = a % b) → (wantL a b).map u32v = [.int .u32 (((a : Int) + (b : Int)) % 4294967296), .int .u32 (((a : Int) - (b : Int)) % 4294967296), .int .u32 ((a : Int) * (b : Int) % 4294967296), .int .u32 ((a ||| b : Nat) : Int), .int .u32 ((a &&& b : Nat) : Int), .int .u32 ((a ^^^ b : Nat) : Int), .int .u32 (sl : Int), .int .u32 (sr : Int), .int .u32 (x : Int), .int .u32 (y : Int)]) := fun x y h0 h1 => by
      rw [q1, q2, q3, wantL, hsl, hsr]
      by_cases hz : b = 0
      · obtain ⟨rfl, rfl⟩ := h0 hz
        rw [if_pos hz, if_pos hz]
        rfl
      · obtain ⟨rfl, rfl⟩ := h1 hz
        rw [if_neg hz, if_neg hz]
        rfl
    clear q1 q2 q3 hsl hsr
    go_upto_if 65 with fail
    have K2 : wo.grownBy (wo.alloc (.cells #[.int .u32 (((a : Int) + (b : Int)) % 4294967296), .int .u32 (((a : Int) - (b : Int)) % 4294967296), .int .u32 ((a : Int) * (b : Int) % 4294967296), .int .u32 ((a ||| b : Nat) : Int), .int .u32 ((a &&& b : Nat) : Int), .int .u32 ((a ^^^ b : Nat) : Int), .int .u32 (sl : Int), .int .u32 (sr : Int), .int .u32 0, .int .u32 0] 24)) none := World.grownBy_alloc _ _ _
    have N2 : (wo.alloc (.cells #[.int .u32 (((a : Int) + (b : Int)) % 4294967296), .int .u32 (((a : Int) - (b : Int)) % 4294967296), .int .u32 ((a : Int) * (b : Int) % 4294967296), .int .u32 ((a ||| b : Nat) : Int), .int .u32 ((a &&& b : Nat) : Int), .int .u32 ((a ^^^ b : Nat) : Int), .int .u32 (sl : Int), .int .u32 (sr : Int), .int .u32 0, .int .u32 0] 24)).ownsRow wo.heap.size 24 1 (.slice (some ⟨wo.heap.size, 0, none⟩) 10 10) 10 (#[.int .u32 (((a : Int) + (b : Int)) % 4294967296), .int .u32 (((a : Int) - (b : Int)) % 4294967296), .int .u32 ((a : Int) * (b : Int) % 4294967296), .int .u32 ((a ||| b : Nat) : Int), .int .u32 ((a &&& b : Nat) : Int), .int .u32 ((a ^^^ b : Nat) : Int), .int .u32 (sl : Int), .int .u32 (sr : Int), .int .u32 0, .int .u32 0] : Array Value).toList := World.ownsRow_lit (e := 24) (size := 1) wo #[.int .u32 (((a : Int) + (b : Int)) % 4294967296), .int .u32 (((a : Int) - (b : Int)) % 4294967296), .int .u32 ((a : Int) * (b : Int) % 4294967296), .int .u32 ((a ||| b : Nat) : Int), .int .u32 ((a &&& b : Nat) : Int), .int .u32 ((a ^^^ b : Nat) : Int), .int .u32 (sl : Int), .int .u32 (sr : Int), .int .u32 0, .int .u32 0] 10 (Nat.le_refl _) (by unfold maxLen; omega) (by simp)
    have HN2 : Hid ((wo.alloc (.cells #[.int .u32 (((a : Int) + (b : Int)) % 4294967296), .int .u32 (((a : Int) - (b : Int)) % 4294967296), .int .u32 ((a : Int) * (b : Int) % 4294967296), .int .u32 ((a ||| b : Nat) : Int), .int .u32 ((a &&& b : Nat) : Int), .int .u32 ((a ^^^ b : Nat) : Int), .int .u32 (sl : Int), .int .u32 (sr : Int), .int .u32 0, .int .u32 0] 24)).ownsRow wo.heap.size 24 1 (.slice (some ⟨wo.heap.size, 0, none⟩) 10 10) 10 (#[.int .u32 (((a : Int) + (b : Int)) % 4294967296), .int .u32 (((a : Int) - (b : Int)) % 4294967296), .int .u32 ((a : Int) * (b : Int) % 4294967296), .int .u32 ((a ||| b : Nat) : Int), .int .u32 ((a &&& b : Nat) : Int), .int .u32 ((a ^^^ b : Nat) : Int), .int .u32 (sl : Int), .int .u32 (sr : Int), .int .u32 0, .int .u32 0] : Array Value).toList) := N2
    have HK2 : Hid (wo.grownBy (wo.alloc (.cells #[.int .u32 (((a : Int) + (b : Int)) % 4294967296), .int .u32 (((a : Int) - (b : Int)) % 4294967296), .int .u32 ((a : Int) * (b : Int) % 4294967296), .int .u32 ((a ||| b : Nat) : Int), .int .u32 ((a &&& b : Nat) : Int), .int .u32 ((a ^^^ b : Nat) : Int), .int .u32 (sl : Int), .int .u32 (sr : Int), .int .u32 0, .int .u32 0] 24)) none) := K2
    clear N2 K2
    generalize wo.alloc (.cells #[.int .u32 (((a : Int) + (b : Int)) % 4294967296), .int .u32 (((a : Int) - (b : Int)) % 4294967296), .int .u32 ((a : Int) * (b : Int) % 4294967296), .int .u32 ((a ||| b : Nat) : Int), .int .u32 ((a &&& b : Nat) : Int), .int .u32 ((a ^^^ b : Nat) : Int), .int .u32 (sl : Int), .int .u32 (sr : Int), .int .u32 0, .int .u32 0] 24) = wn at *
    obtain ⟨N, hN⟩ : ∃ N, wo.heap.size = N := ⟨_, rfl⟩
    rw [hN] at HN2 hON ⊢
    have HNN : Hid (wo.heap.size = N) := hN
    clear hN e1 e2 e3
    go_cut [12] (fun v wx => v = .slice (some ⟨N, 0, none⟩) 10 10 ∧ CV wx (some ⟨N, 0, none⟩) ((wantL a b).map u32v) ∧ wo.grownBy wx none)
    case first =>
      by_cases hz : b = 0
      · have hz1 : ((b : Int) != 0) = false := by rw [hz]; rfl
        have HZ : Hid (b = 0) := hz
        clear hz
        go_wp2
        go_meet
        refine ⟨rfl, ?_, HK2.out⟩
        rw [HW0.out 0 0 (fun _ => ⟨rfl, rfl⟩) (fun h => absurd HZ.out h)]
        obtain ⟨ao, cap, hv, hc, -⟩ := CV.ofRow HN2.out
        cases hv
        exact hc
      · have hz1 : ((b : Int) != 0) = true := by rw [bne_iff_ne]; omega
        have hz2 : ¬ ((b : Int) = 0) := by omega
        have HZ : Hid (¬ b = 0) := hz
        have q0 : a / b ≤ a := Nat.div_le_self _ _
        have q3 : a % b ≤ a := Nat.mod_le _ _
        have w1 : (a : Int) / (b : Int) % 4294967296 = ((a / b : Nat) : Int) := by
          rw [← Int.natCast_ediv]
          generalize a / b = q at *
          omega
        have w2 : (a : Int) % (b : Int) % 4294967296 = ((a % b : Nat) : Int) := by
          rw [← Int.natCast_emod]
          generalize a % b = q at *
          omega
        have w3 : (a : Int) / (b : Int) = ((a / b : Nat) : Int) := by rw [Int.natCast_ediv]
        have w4 : (a : Int) % (b : Int) = ((a % b : Nat) : Int) := by rw [Int.natCast_emod]
        obtain ⟨qd, hqd⟩ : ∃ q, a / b = q := ⟨_, rfl⟩
        obtain ⟨qm, hqm⟩ : ∃ q, a % b = q := ⟨_, rfl⟩
        rw [hqd] at w1 w3
        rw [hqm] at w2 w4
        have HQ : Hid (qd = a / b ∧ qm = a % b) := ⟨hqd.symm, hqm.symm⟩
        have S1 := World.ownsRow.stored HN2.out 8 (.int .u32 (qd : Int))
        have S2 := World.ownsRow.stored S1.1 9 (.int .u32 (qm : Int))
        have c8 : wn.cell? ⟨N, 8, none⟩ = some (.int .u32 0) := by rw [World.ownsRow.cellAt HN2.out 8 (by omega)]; rfl
        have f8 := World.ownsRow.frozenAt HN2.out 8
        have c9 : (wn.setCell ⟨N, 8, none⟩ (.int .u32 (qd : Int))).cell? ⟨N, 9, none⟩ = some (.int .u32 0) := by rw [World.ownsRow.cellAt S1.1 9 (by omega)]; rfl
        have f9 := World.ownsRow.frozenAt S1.1 9
        have c9' : wn.cell? ⟨N, 9, none⟩ = some (.int .u32 0) := by rw [World.ownsRow.cellAt HN2.out 9 (by omega)]; rfl
        have f9' := World.ownsRow.frozenAt HN2.out 9
        have HS2 : Hid (((wn.setCell ⟨N, 8, none⟩ (.int .u32 (qd : Int))).setCell ⟨N, 9, none⟩ (.int .u32 (qm : Int))).ownsRow N 24 1 (.slice (some ⟨N, 0, none⟩) 10 10) 10 (((#[.int .u32 (((a : Int) + (b : Int)) % 4294967296), .int .u32 (((a : Int) - (b : Int)) % 4294967296), .int .u32 ((a : Int) * (b : Int) % 4294967296), .int .u32 ((a ||| b : Nat) : Int), .int .u32 ((a &&& b : Nat) : Int), .int .u32 ((a ^^^ b : Nat) : Int), .int .u32 (sl : Int), .int .u32 (sr : Int), .int .u32 0, .int .u32 0] : Array Value).toList.set 8 (.int .u32 (qd : Int))).set 9 (.int .u32 (qm : Int)))) := S2.1
        have HG2 : Hid (wo.grownBy ((wn.setCell ⟨N, 8, none⟩ (.int .u32 (qd : Int))).setCell ⟨N, 9, none⟩ (.int .u32 (qm : Int))) none) := grown_trans_new HK2.out (grown_trans S1.2 S2.2) (by intro x hx; obtain rfl := Option.some.inj hx; exact Nat.le_of_eq HNN.out)
        clear hqd hqm q0 q3 S1 S2 hz
        go_wp2
        go_meet
        refine ⟨rfl, ?_, HG2.out⟩
        rw [HW0.out qd qm (fun h => absurd h HZ.out) (fun _ => HQ.out)]
        obtain ⟨ao, cap, hv, hc, -⟩ := CV.ofRow HS2.out
        cases hv
        exact hc
    case rest =>
      obtain ⟨rfl, CN, KN⟩ := hcut
      have HR : Hid (Rel w B O N a b s 12 wc) := ⟨owns_keptNone P1 KN, O1.keptNone KN, CN, grown_trans G1 KN, hBO, hON⟩
      have hBe := HB.out
      clear CN KN P1 O1 G1 hBO hON HW0 HN2 HK2 HNN
      go_wp2
      go_loopw [13] (fun i wr => ∃ (j C : Nat), j ≤ 10 ∧ C ≤ 255 ∧ i = .int .i64 j ∧ ∃ n, Rel w B O N a b s C (wr) ∧ n = 0) (fun i _ => 10 - (intOf i).toNat)
      case atStart => exact ⟨0, 12, by omega, by omega, rfl, 0, HR.out, rfl⟩
      case round =>
        clear HR
        obtain ⟨j, C, hj, hC, rfl, -, R, -⟩ := hrel
        by_cases hlt : j < 10
        · obtain ⟨op, hop⟩ : ∃ op, opsL[j]? = some op := ⟨_, List.getElem?_eq_getElem (show j < opsL.length from hlt)⟩
          obtain ⟨wt, hwt⟩ : ∃ wt, (wantL a b)[j]? = some wt := ⟨_, List.getElem?_eq_getElem (show j < (wantL a b).length from hlt)⟩
          obtain ⟨d, hd, hdb, hop255, hd255⟩ := andnot_ops j op hop
          have HS6 := straight6 ha hb hs16 j op wt hop hwt
          have HS3 := straight3 ha hb j d wt hd hwt
          have hj1 : (j : Int) < 10 := by omega
          have co : wr.cell? ⟨O, j, none⟩ = some (.int .u16 (op : Int)) := by
            have := R.2.1.2 _ rfl j (by simpa [opsL] using hlt)
            rw [Addr.add_lit, Nat.zero_add] at this
            rw [this]
            have e : (opsL.map u16v)[j]? = some (u16v op) := by rw [List.getElem?_map, hop]; rfl
            rw [← List.getElem?_eq_getElem, e]
            rfl
          have cp : wr.cell? ⟨B, 16, none⟩ = some (.int .u16 (C : Int)) := by rw [World.ownsRow.cellAt R.1 16 (by omega), flat6 ha hb hs16 hC]; rfl
          have fp := World.ownsRow.frozenAt R.1 16
          have R1 := R.store (op := op) hBe ha hb hs16 hC hop255
          have HWT : Hid (∀ W : World, CV W (some ⟨N, 0, none⟩) ((wantL a b).map u32v) → W.cell? ⟨N, j, none⟩ = some (.int .u32 (wt : Int))) := fun W h => by
            have := h.2 _ rfl j (by simpa [wantL] using hlt)
            rw [Addr.add_lit, Nat.zero_add] at this
            rw [this]
            have e : ((wantL a b).map u32v)[j]? = some (u32v wt) := by rw [List.getElem?_map, hwt]; rfl
            rw [← List.getElem?_eq_getElem, e]
            rfl
          have HW00 : Hid (b = 0 ∧ 7 < j → wt = 0) := fun h => by
            obtain ⟨h0, h7⟩ := h
            rcases (show j = 8 ∨ j = 9 by omega) with e | e
            · rw [e] at hwt
              simp only [wantL, List.getElem?_cons_succ, List.getElem?_cons_zero, Option.some.injEq, if_pos h0] at hwt
              exact hwt.symm
            · rw [e] at hwt
              simp only [wantL, List.getElem?_cons_succ, List.getElem?_cons_zero, Option.some.injEq, if_pos h0] at hwt
              exact hwt.symm
          have HOP : Hid ((opsL.map u16v)[j]'(by simpa [opsL] using hlt) = .int .u16 (op : Int)) := by
            show (opsL.map u16v)[j]'(by simpa [opsL] using hlt) = _
            have e : (opsL.map u16v)[j]? = some (u16v op) := by rw [List.getElem?_map, hop]; rfl
            rw [← Option.some.injEq, ← List.getElem?_eq_getElem, e]
            rfl
          clear R hop hwt hd
          go_upto_region 16 with fail
          clear co cp fp
          generalize wr.setCell ⟨B, 16, none⟩ (.int .u16 (op : Int)) = w2 at *
          go_wp2_with fail
          refine (copy6 R1).mono ?_
          rintro e w3 ⟨v3, rfl, O3, K3⟩
          obtain ⟨ao3, cap3, rfl, C3, -⟩ := cv_of_row O3
          have R3 := R1.kept K3
          clear O3 K3 R1
          by_cases hz : b = 0
          · have hzb : ((b : Int) == 0) = true := by rw [hz]; rfl
            have h31 : ¬ ((31 : Int) < (b : Int)) := by omega
            have HZ : Hid (b = 0) := hz
            clear hz
            by_cases hj7 : 7 < j
            · have hj7' : (7 : Int) < (j : Int) := by omega
              have hj7b : decide ((7 : Int) < (j : Int)) = true := decide_eq_true hj7'
              rw [if_pos ⟨HZ.out, hj7⟩] at HS6
              have RUN := run6 (n := 5) HS6.1 HS6.2 rfl
              clear HS6
              go_wp2_with fail
              refine (RUN ao3 cap3 _ C3).mono ?_
              rintro e w4 ⟨rfl, K4⟩
              have R4 := R3.kept K4
              clear R3 K4 C3 RUN
              go_upto_region 17 with fail
              have R5 := R4.kept (World.grownBy_alloc w4 (.cells #[.int .u32 (0 : Int), .int .i64 2, .int .i64 5] 26) none)
              obtain ⟨y0, y1, y2⟩ := v3_alloc w4 26 0 2 5
              generalize w4.alloc (.cells #[.int .u32 (0 : Int), .int .i64 2, .int .i64 5] 26) = w5 at *
              generalize w4.heap.size = B5 at *
              clear R4
              have cw := HWT.out _ R5.2.2.1
              obtain rfl := HW00.out ⟨HZ.out, hj7⟩
              clear HW00 HS3
              go_wp2
              go_quiet (fail)
              go_wp2
              go_roundw
              case rel => exact ⟨j + 1, op, by omega, hop255, by go_num, 0, R5.kept (grown_drewN w5 _ none), rfl⟩
              case measure => simp [intOf]; omega
            · have hj7' : ¬ ((7 : Int) < (j : Int)) := by omega
              rw [if_neg (fun h => hj7 h.2)] at HS6
              have RUN := run6 (n := 6) HS6.1 HS6.2 rfl
              clear HS6
              go_wp2_with fail
              refine (RUN ao3 cap3 _ C3).mono ?_
              rintro e w4 ⟨rfl, K4⟩
              have R4 := R3.kept K4
              clear R3 K4 C3 RUN
              go_upto_region 17 with fail
              have R5 := R4.kept (World.grownBy_alloc w4 (.cells #[.int .u32 (wt : Int), .int .i64 0, .int .i64 6] 26) none)
              obtain ⟨y0, y1, y2⟩ := v3_alloc w4 26 wt 0 6
              generalize w4.alloc (.cells #[.int .u32 (wt : Int), .int .i64 0, .int .i64 6] 26) = w5 at *
              generalize w4.heap.size = B5 at *
              clear R4
              have cw := HWT.out _ R5.2.2.1
              clear HW00
              go_upto_region 22 with fail
              go_cut [113] (fun c wx => c = .bool false ∧ Rel w B O N a b s op wx)
              case first =>
                go_quiet (fail)
                go_wp2
                go_meet
                exact ⟨rfl, R5.kept (grown_drewN w5 _ none)⟩
              case rest =>
                obtain ⟨rfl, R6⟩ := hcut
                clear R5 y0 y1 y2 cw
                have co : wc.cell? ⟨O, j, none⟩ = some (.int .u16 (op : Int)) := by
                  have := R6.2.1.2 _ rfl j (by simpa [opsL] using hlt)
                  rw [Addr.add_lit, Nat.zero_add] at this
                  rw [this]
                  exact congrArg some HOP.out
                obtain ⟨HS3a, HS3b⟩ := HS3 (fun h => hj7 h.2) (fun h => by have := HZ.out; omega)
                have RUN3 := run3 (n := 3) HS3a HS3b rfl
                have HF3 : Hid (flat (prog3 a b d) = [.int .u16 0, .int .u8 0, .int .u8 0, .int .u32 (a : Int), .int .u16 (d : Int), .int .u8 0, .int .u8 0, .int .u32 (b : Int), .int .u16 22, .int .u8 0, .int .u8 0, .int .u32 0]) := flat3 ha hb hd255
                clear HS3a HS3b HS3
                go_upto_region 26 with fail
                have R7 := R6.kept (World.grownBy_alloc wc (.cells #[.int .u16 0, .int .u8 0, .int .u8 0, .int .u32 (a : Int), .int .u16 (d : Int), .int .u8 0, .int .u8 0, .int .u32 (b : Int), .int .u16 22, .int .u8 0, .int .u8 0, .int .u32 0] 47) none)
                have C7 : CV (wc.alloc (.cells #[.int .u16 0, .int .u8 0, .int .u8 0, .int .u32 (a : Int), .int .u16 (d : Int), .int .u8 0, .int .u8 0, .int .u32 (b : Int), .int .u16 22, .int .u8 0, .int .u8 0, .int .u32 0] 47)) (some ⟨wc.heap.size, 0, none⟩) (flat (prog3 a b d)) := by
                  rw [HF3.out]
                  exact cv_lit wc _ _
                clear R6 co
                generalize wc.alloc (.cells #[.int .u16 0, .int .u8 0, .int .u8 0, .int .u32 (a : Int), .int .u16 (d : Int), .int .u8 0, .int .u8 0, .int .u32 (b : Int), .int .u16 22, .int .u8 0, .int .u8 0, .int .u32 0] 47) = w7 at *
                generalize wc.heap.size = B7 at *
                go_wp2_with fail
                refine (RUN3 _ _ _ C7).mono ?_
                rintro e w8 ⟨rfl, K8⟩
                have R8 := R7.kept K8
                clear R7 K8 C7 RUN3
                go_upto_region 27 with fail
                have R9 := R8.kept (World.grownBy_alloc w8 (.cells #[.int .u32 (wt : Int), .int .i64 0, .int .i64 3] 26) none)
                obtain ⟨y0, y1, y2⟩ := v3_alloc w8 26 wt 0 3
                generalize w8.alloc (.cells #[.int .u32 (wt : Int), .int .i64 0, .int .i64 3] 26) = w9 at *
                generalize w8.heap.size = B9 at *
                clear R8
                have cw := HWT.out _ R9.2.2.1
                go_quiet (fail)
                go_wp2
                go_roundw
                case rel => exact ⟨j + 1, op, by omega, hop255, by go_num, 0, R9.kept (grown_drewN w9 _ none), rfl⟩
                case measure => simp [intOf]; omega
          · have hzb : ((b : Int) == 0) = false := by rw [beq_eq_false_iff_ne]; omega
            have HZ : Hid (¬ b = 0) := hz
            clear hz
            by_cases h31 : 31 < b
            · have h31' : (31 : Int) < (b : Int) := by omega
              by_cases h6 : ((j : Int) == 6) = true
              · skip
                rw [if_neg (fun h => HZ.out h.1)] at HS6
                have RUN := run6 (n := 6) HS6.1 HS6.2 rfl
                clear HS6
                go_wp2_with fail
                refine (RUN ao3 cap3 _ C3).mono ?_
                rintro e w4 ⟨rfl, K4⟩
                have R4 := R3.kept K4
                clear R3 K4 C3 RUN
                go_upto_region 17 with fail
                have R5 := R4.kept (World.grownBy_alloc w4 (.cells #[.int .u32 (wt : Int), .int .i64 0, .int .i64 6] 26) none)
                obtain ⟨y0, y1, y2⟩ := v3_alloc w4 26 wt 0 6
                generalize w4.alloc (.cells #[.int .u32 (wt : Int), .int .i64 0, .int .i64 6] 26) = w5 at *
                generalize w4.heap.size = B5 at *
                clear R4
                have cw := HWT.out _ R5.2.2.1
                clear HW00
                go_upto_region 22 with fail
                go_cut [113] (fun c wx => c = .bool false ∧ Rel w B O N a b s op wx)
                case first =>
                  go_quiet (fail)
                  go_wp2
                  go_meet
                  exact ⟨rfl, R5.kept (grown_drewN w5 _ none)⟩
                case rest =>
                  obtain ⟨rfl, R6⟩ := hcut
                  clear R5 y0 y1 y2 cw
                  clear HS3
                  go_wp2
                  go_roundw
                  case rel => exact ⟨j + 1, op, by omega, hop255, by go_num, 0, R6, rfl⟩
                  case measure => simp [intOf]; omega
              · have h6' : ((j : Int) == 6) = false := by simpa using h6
                clear h6
                by_cases h7 : ((j : Int) == 7) = true
                · skip
                  rw [if_neg (fun h => HZ.out h.1)] at HS6
                  have RUN := run6 (n := 6) HS6.1 HS6.2 rfl
                  clear HS6
                  go_wp2_with fail
                  refine (RUN ao3 cap3 _ C3).mono ?_
                  rintro e w4 ⟨rfl, K4⟩
                  have R4 := R3.kept K4
                  clear R3 K4 C3 RUN
                  go_upto_region 17 with fail
                  have R5 := R4.kept (World.grownBy_alloc w4 (.cells #[.int .u32 (wt : Int), .int .i64 0, .int .i64 6] 26) none)
                  obtain ⟨y0, y1, y2⟩ := v3_alloc w4 26 wt 0 6
                  generalize w4.alloc (.cells #[.int .u32 (wt : Int), .int .i64 0, .int .i64 6] 26) = w5 at *
                  generalize w4.heap.size = B5 at *
                  clear R4
                  have cw := HWT.out _ R5.2.2.1
                  clear HW00
                  go_upto_region 22 with fail
                  go_cut [113] (fun c wx => c = .bool false ∧ Rel w B O N a b s op wx)
                  case first =>
                    go_quiet (fail)
                    go_wp2
                    go_meet
                    exact ⟨rfl, R5.kept (grown_drewN w5 _ none)⟩
                  case rest =>
                    obtain ⟨rfl, R6⟩ := hcut
                    clear R5 y0 y1 y2 cw
                    clear HS3
                    go_wp2
                    go_roundw
                    case rel => exact ⟨j + 1, op, by omega, hop255, by go_num, 0, R6, rfl⟩
                    case measure => simp [intOf]; omega
                · have h7' : ((j : Int) == 7) = false := by simpa using h7
                  clear h7
                  have hn6 : j ≠ 6 := by have := beq_eq_false_iff_ne.1 h6'; omega
                  have hn7 : j ≠ 7 := by have := beq_eq_false_iff_ne.1 h7'; omega
                  rw [if_neg (fun h => HZ.out h.1)] at HS6
                  have RUN := run6 (n := 6) HS6.1 HS6.2 rfl
                  clear HS6
                  go_wp2_with fail
                  refine (RUN ao3 cap3 _ C3).mono ?_
                  rintro e w4 ⟨rfl, K4⟩
                  have R4 := R3.kept K4
                  clear R3 K4 C3 RUN
                  go_upto_region 17 with fail
                  have R5 := R4.kept (World.grownBy_alloc w4 (.cells #[.int .u32 (wt : Int), .int .i64 0, .int .i64 6] 26) none)
                  obtain ⟨y0, y1, y2⟩ := v3_alloc w4 26 wt 0 6
                  generalize w4.alloc (.cells #[.int .u32 (wt : Int), .int .i64 0, .int .i64 6] 26) = w5 at *
                  generalize w4.heap.size = B5 at *
                  clear R4
                  have cw := HWT.out _ R5.2.2.1
                  clear HW00
                  go_upto_region 22 with fail
                  go_cut [113] (fun c wx => c = .bool false ∧ Rel w B O N a b s op wx)
                  case first =>
                    go_quiet (fail)
                    go_wp2
                    go_meet
                    exact ⟨rfl, R5.kept (grown_drewN w5 _ none)⟩
                  case rest =>
                    obtain ⟨rfl, R6⟩ := hcut
                    clear R5 y0 y1 y2 cw
                    have co : wc.cell? ⟨O, j, none⟩ = some (.int .u16 (op : Int)) := by
                      have := R6.2.1.2 _ rfl j (by simpa [opsL] using hlt)
                      rw [Addr.add_lit, Nat.zero_add] at this
                      rw [this]
                      exact congrArg some HOP.out
                    obtain ⟨HS3a, HS3b⟩ := HS3 (fun h => HZ.out h.1) (fun h => by omega)
                    have RUN3 := run3 (n := 3) HS3a HS3b rfl
                    have HF3 : Hid (flat (prog3 a b d) = [.int .u16 0, .int .u8 0, .int .u8 0, .int .u32 (a : Int), .int .u16 (d : Int), .int .u8 0, .int .u8 0, .int .u32 (b : Int), .int .u16 22, .int .u8 0, .int .u8 0, .int .u32 0]) := flat3 ha hb hd255
                    clear HS3a HS3b HS3
                    go_upto_region 26 with fail
                    have R7 := R6.kept (World.grownBy_alloc wc (.cells #[.int .u16 0, .int .u8 0, .int .u8 0, .int .u32 (a : Int), .int .u16 (d : Int), .int .u8 0, .int .u8 0, .int .u32 (b : Int), .int .u16 22, .int .u8 0, .int .u8 0, .int .u32 0] 47) none)
                    have C7 : CV (wc.alloc (.cells #[.int .u16 0, .int .u8 0, .int .u8 0, .int .u32 (a : Int), .int .u16 (d : Int), .int .u8 0, .int .u8 0, .int .u32 (b : Int), .int .u16 22, .int .u8 0, .int .u8 0, .int .u32 0] 47)) (some ⟨wc.heap.size, 0, none⟩) (flat (prog3 a b d)) := by
                      rw [HF3.out]
                      exact cv_lit wc _ _
                    clear R6 co
                    generalize wc.alloc (.cells #[.int .u16 0, .int .u8 0, .int .u8 0, .int .u32 (a : Int), .int .u16 (d : Int), .int .u8 0, .int .u8 0, .int .u32 (b : Int), .int .u16 22, .int .u8 0, .int .u8 0, .int .u32 0] 47) = w7 at *
                    generalize wc.heap.size = B7 at *
                    go_wp2_with fail
                    refine (RUN3 _ _ _ C7).mono ?_
                    rintro e w8 ⟨rfl, K8⟩
                    have R8 := R7.kept K8
                    clear R7 K8 C7 RUN3
                    go_upto_region 27 with fail
                    have R9 := R8.kept (World.grownBy_alloc w8 (.cells #[.int .u32 (wt : Int), .int .i64 0, .int .i64 3] 26) none)
                    obtain ⟨y0, y1, y2⟩ := v3_alloc w8 26 wt 0 3
                    generalize w8.alloc (.cells #[.int .u32 (wt : Int), .int .i64 0, .int .i64 3] 26) = w9 at *
                    generalize w8.heap.size = B9 at *
                    clear R8
                    have cw := HWT.out _ R9.2.2.1
                    go_quiet (fail)
                    go_wp2
                    go_roundw
                    case rel => exact ⟨j + 1, op, by omega, hop255, by go_num, 0, R9.kept (grown_drewN w9 _ none), rfl⟩
                    case measure => simp [intOf]; omega
            · have h31' : ¬ ((31 : Int) < (b : Int)) := by omega
              rw [if_neg (fun h => HZ.out h.1)] at HS6
              have RUN := run6 (n := 6) HS6.1 HS6.2 rfl
              clear HS6
              go_wp2_with fail
              refine (RUN ao3 cap3 _ C3).mono ?_
              rintro e w4 ⟨rfl, K4⟩
              have R4 := R3.kept K4
              clear R3 K4 C3 RUN
              go_upto_region 17 with fail
              have R5 := R4.kept (World.grownBy_alloc w4 (.cells #[.int .u32 (wt : Int), .int .i64 0, .int .i64 6] 26) none)
              obtain ⟨y0, y1, y2⟩ := v3_alloc w4 26 wt 0 6
              generalize w4.alloc (.cells #[.int .u32 (wt : Int), .int .i64 0, .int .i64 6] 26) = w5 at *
              generalize w4.heap.size = B5 at *
              clear R4
              have cw := HWT.out _ R5.2.2.1
              clear HW00
              go_upto_region 22 with fail
              go_cut [113] (fun c wx => c = .bool false ∧ Rel w B O N a b s op wx)
              case first =>
                go_quiet (fail)
                go_wp2
                go_meet
                exact ⟨rfl, R5.kept (grown_drewN w5 _ none)⟩
              case rest =>
                obtain ⟨rfl, R6⟩ := hcut
                clear R5 y0 y1 y2 cw
                have co : wc.cell? ⟨O, j, none⟩ = some (.int .u16 (op : Int)) := by
                  have := R6.2.1.2 _ rfl j (by simpa [opsL] using hlt)
                  rw [Addr.add_lit, Nat.zero_add] at this
                  rw [this]
                  exact congrArg some HOP.out
                obtain ⟨HS3a, HS3b⟩ := HS3 (fun h => HZ.out h.1) (fun h => h31 h.1)
                have RUN3 := run3 (n := 3) HS3a HS3b rfl
                have HF3 : Hid (flat (prog3 a b d) = [.int .u16 0, .int .u8 0, .int .u8 0, .int .u32 (a : Int), .int .u16 (d : Int), .int .u8 0, .int .u8 0, .int .u32 (b : Int), .int .u16 22, .int .u8 0, .int .u8 0, .int .u32 0]) := flat3 ha hb hd255
                clear HS3a HS3b HS3
                go_upto_region 26 with fail
                have R7 := R6.kept (World.grownBy_alloc wc (.cells #[.int .u16 0, .int .u8 0, .int .u8 0, .int .u32 (a : Int), .int .u16 (d : Int), .int .u8 0, .int .u8 0, .int .u32 (b : Int), .int .u16 22, .int .u8 0, .int .u8 0, .int .u32 0] 47) none)
                have C7 : CV (wc.alloc (.cells #[.int .u16 0, .int .u8 0, .int .u8 0, .int .u32 (a : Int), .int .u16 (d : Int), .int .u8 0, .int .u8 0, .int .u32 (b : Int), .int .u16 22, .int .u8 0, .int .u8 0, .int .u32 0] 47)) (some ⟨wc.heap.size, 0, none⟩) (flat (prog3 a b d)) := by
                  rw [HF3.out]
                  exact cv_lit wc _ _
                clear R6 co
                generalize wc.alloc (.cells #[.int .u16 0, .int .u8 0, .int .u8 0, .int .u32 (a : Int), .int .u16 (d : Int), .int .u8 0, .int .u8 0, .int .u32 (b : Int), .int .u16 22, .int .u8 0, .int .u8 0, .int .u32 0] 47) = w7 at *
                generalize wc.heap.size = B7 at *
                go_wp2_with fail
                refine (RUN3 _ _ _ C7).mono ?_
                rintro e w8 ⟨rfl, K8⟩
                have R8 := R7.kept K8
                clear R7 K8 C7 RUN3
                go_upto_region 27 with fail
                have R9 := R8.kept (World.grownBy_alloc w8 (.cells #[.int .u32 (wt : Int), .int .i64 0, .int .i64 3] 26) none)
                obtain ⟨y0, y1, y2⟩ := v3_alloc w8 26 wt 0 3
                generalize w8.alloc (.cells #[.int .u32 (wt : Int), .int .i64 0, .int .i64 3] 26) = w9 at *
                generalize w8.heap.size = B9 at *
                clear R8
                have cw := HWT.out _ R9.2.2.1
                go_quiet (fail)
                go_wp2
                go_roundw
                case rel => exact ⟨j + 1, op, by omega, hop255, by go_num, 0, R9.kept (grown_drewN w9 _ none), rfl⟩
                case measure => simp [intOf]; omega
        · obtain rfl : j = 10 := by omega
          have GG := R.2.2.2.1
          go_wp2_with fail
          refine (awake5_any _).mono ?_
          rintro e w9 ⟨rfl, K9⟩
          have G9 := grown_trans GG K9
          clear GG K9 R
          go_wp2
          go_ret
          exact ⟨rfl, G9⟩

set_option maxRecDepth 100000 in
theorem lifted (os : Os) (started : os.Started) (H : Type) (enc : TypeId × Value → H) :
    ReturnsInHanded {} Try.checked os 7 .any (Rows.vmStraightSpec.pre6 enc Try.prog Try.f7 Rows.vmStraightRow.domain false) (Rows.vmStraightSpec.post enc Try.prog Try.f7 false true false false) := by
  refine returnsInHanded_of_change_sized (C := Try.checked) own started (by kernel_rfl) Try.func7
    (ChangeSpec.witness6 (enc := enc) (C := Try.checked) false ⟨#[], #[.int .u32 0, .int .u32 0, .int .u32 0], []⟩ 8 (by kernel_rfl) (by kernel_rfl) (by kernel_rfl) (by kernel_rfl)) ?_
  intro W base args ds gs before hval0 hW hcnd hsz0 _
  have hsz : (DataW.weightsEach Try.prog (Try.f7.params.toList ++ Rows.vmStraightSpec.plain.varTypes Try.prog) (ds ++ gs)).all (· ≤ reachBytes) = true := hsz0
  have hval : ∀ (j : Nat) t v, Try.f7.params[j]? = some t → args[j]? = some v → Value.okWide Try.prog W .any base t v := hval0
  have hW' := hW
  obtain ⟨p, q, hA0, hV, rfl, hfz, hnd⟩ := hW
  have hA : DataW.TrodAll enc Try.prog W 0 (fun _ => true) true Try.f7.params.toList args.toList ds p := hA0
  rw [Try.params7] at hA hval hsz
  obtain ⟨v0, vs0, d0, ds0, p0, q0, hargs, rfl, rfl, h0, r0⟩ := trodAll_cons hA
  obtain ⟨v1, vs1, d1, ds1, p1, q1, rfl, rfl, rfl, h1, r1⟩ := trodAll_cons r0
  obtain ⟨v2, vs2, d2, ds2, p2, q2, rfl, rfl, rfl, h2, r2⟩ := trodAll_cons r1
  obtain ⟨rfl, rfl, rfl⟩ := trodAll_nil r2
  obtain rfl : args = #[v0, v1, v2] := by cases args; simp_all
  obtain ⟨rfl, rfl⟩ := trodVars_none hV
  obtain ⟨y0, rfl, rfl, rfl, w0⟩ := open_int Try.underlying24 (hval 0 24 v0 rfl rfl) h0
  have bd0 := bounds_u32 w0
  obtain ⟨x0, rfl⟩ := Int.eq_ofNat_of_zero_le bd0.1
  have hv0 : x0 ≤ 4294967295 := by omega
  obtain ⟨y1, rfl, rfl, rfl, w1⟩ := open_int Try.underlying24 (hval 1 24 v1 rfl rfl) h1
  have bd1 := bounds_u32 w1
  obtain ⟨x1, rfl⟩ := Int.eq_ofNat_of_zero_le bd1.1
  have hv1 : x1 ≤ 4294967295 := by omega
  obtain ⟨y2, rfl, rfl, rfl, w2⟩ := open_int Try.underlying24 (hval 2 24 v2 rfl rfl) h2
  have bd2 := bounds_u32 w2
  obtain ⟨x2, rfl⟩ := Int.eq_ofNat_of_zero_le bd2.1
  have hv2 : x2 ≤ 4294967295 := by omega
  clear hA0 hval0
  refine (walk x0 x1 x2 W hv0 hv1 hv2).mono fun e W' ⟨he, hg⟩ => ?_
  subst he
  have bel : Below W.heap.size W W' := (Below.refl _ _).grown hg (Nat.le_refl _) (by simp)
  exact ⟨_, rfl, _, _, _, [], _, [], hW', trodAll_mk1 (shut_bool Try.underlying4 _), (trodAll_cons_mk (shut_int Try.underlying24 w0) (trodAll_cons_mk (shut_int Try.underlying24 w1) (trodAll_cons_mk (shut_int Try.underlying24 w2) trodAll_mk0))), rfl, bel.frame _, fun h => by cases h⟩

theorem over : Rows.VmStraightSaid :=
  OpenClaim.holds_of_wide 7 Try.f7 rfl rfl rfl rfl rfl rfl rfl ⟨rfl, rfl, rfl, rfl, rfl⟩ rfl rfl rfl rfl rfl (by kernel_rfl) Try.func7 (by kernel_rfl)
    (of_decide_eq_true (by kernel_rfl)) (by unfold Func.isWrapper; first | (rw [if_pos (by decide +kernel)]; kernel_rfl) | (rw [if_neg (by decide +kernel)]; exact ⟨rfl, rfl⟩))
    (fun os started H enc _ => lifted os started H enc)

end vmStraight

theorem vmStraight_holds : Rows.VmStraightSaid := vmStraight.over
#print axioms vmStraight_holds
end Go.Proofs.Ytaldhnionkacmaa
