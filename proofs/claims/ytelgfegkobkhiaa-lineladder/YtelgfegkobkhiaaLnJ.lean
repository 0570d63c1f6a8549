/-
  riddlelaw18: awake, code, same.
-/
import Derived.Test.YtelgfegkobkhiaaLnI
import Derived.Test.YtelgfegkobkhiaaLotP33
import Derived.Test.YtelgfegkobkhiaaGrS
import Derived.Test.YtelgfegkobkhiaaLotP40
import Derived.Test.YtelgfegkobkhiaaVmS
namespace Go.Proofs.Ytelgfegkobkhiaa
open Go.RowKit
set_option maxRecDepth 100000

def b18 : Bk := ⟨[], 1, ⟨6, 0, 0, 7⟩, 0, 0⟩
def v18 : Bv := ⟨b18, none, 0⟩
theorem b18_e : linE (gOf [v18]) = 0 := by kernel_rfl
theorem b18_p : linG (gOf [v18]) = [⟨6, 0, 0, 7⟩] := by kernel_rfl
theorem n18_e : linE (gOf []) = 180 := by kernel_rfl
theorem n18_p : linG (gOf []) = [] := by kernel_rfl
theorem r18_e : runE [⟨6, 0, 0, 7⟩] [] = 0 := by kernel_rfl
theorem r18_v : runV [⟨6, 0, 0, 7⟩] [] = (7, 0, [0]) := by kernel_rfl
theorem gc_nil (w : World) : GC w none [] := ⟨⟨fun _ => rfl, fun ad had => (by cases had)⟩, fun x hx => (by cases hx)⟩

set_option maxHeartbeats 2000000 in
theorem code18_any (a : Option Addr) (ca : Nat) (xs : List Bv) (w : World) (ha : GC w a xs) (hlen : ∀ x ∈ xs, x.b.code.length ≤ 4611686018427387904) :
    Calls Try.prog 7 #[.slice a xs.length ca] w fun e w' => e = .returned (.int .i64 (linE (gOf xs))) ∧ w.grownBy w' none := by
  have CT := reftakes_any a ca xs w ha hlen
  cases ht : takenB (gOf xs) with
  | false =>
    have e1 : linE (gOf xs) = 180 := by rw [linE, if_neg fun e => by rw [takenB_iff.2 e] at ht; cases ht]
    rw [e1]
    rw [ht] at CT
    clear e1 ht ha
    go_enter Try.func7, Try.ntmps7
    go_wp2_with fail
    refine CT.mono ?_
    rintro e w1 ⟨rfl, K1⟩
    go_wp2
    go_ret
    exact ⟨rfl, K1⟩
  | true =>
    have hG := takenB_iff.1 ht
    have HM : Hid (∀ W : World, w.grownBy W none → Calls Try.prog 17 #[.slice a xs.length ca] W fun e w' => e = .returned (.int .i64 (countG measE (gOf xs) : Int)) ∧ W.grownBy w' none) := fun W G => refmeasure_any a ca xs W (ha.keptNone G) (taken_g hG)
    have HE : Hid (linE (gOf xs) = if 4096 < countG measE (gOf xs) then 181 else 0) := by
      show linE (gOf xs) = _
      rw [linE, if_pos hG]
    rw [ht] at CT
    generalize countG measE (gOf xs) = M at *
    generalize linE (gOf xs) = E at *
    clear ht hG ha
    go_enter Try.func7, Try.ntmps7
    go_wp2_with fail
    refine CT.mono ?_
    rintro e w1 ⟨rfl, K1⟩
    go_wp2_with fail
    refine (HM.out _ K1).mono ?_
    rintro e w2 ⟨rfl, K2⟩
    by_cases h : 4096 < M
    · have h' : (4096 : Int) < (M : Int) := by omega
      have HE2 : Hid (E = 181) := HE.out.trans (if_pos h)
      clear HE
      go_wp2
      go_ret
      exact ⟨ret_int HE2.out.symm, grown_trans K1 K2⟩
    · have h' : ¬ (4096 : Int) < (M : Int) := by omega
      have HE2 : Hid (E = 0) := HE.out.trans (if_neg h)
      clear HE
      go_wp2
      go_ret
      exact ⟨ret_int HE2.out.symm, grown_trans K1 K2⟩

set_option maxHeartbeats 4000000 in
theorem same18_any (a pa pb : Option Addr) (ca pc cb : Nat) (xs : List Bv) (P : List In) (pk : List UInt8) (w : World) (ha : GC w a xs) (hlen : ∀ x ∈ xs, x.b.code.length ≤ 4611686018427387904) (hP : CV w pa (flat P)) (hb : Cells w pb pk) (hpl : pk.length ≤ 65536)
    (h1 : runE P pk = 0) (h2 : runGE (gOf xs) pk = 0) (S : SimR (runV P pk) (runG (gOf xs) pk)) :
    Calls Try.prog 18 #[.slice a xs.length ca, .slice pa P.length pc, .slice pb pk.length cb] w fun e w' => e = .returned (.bool true) ∧ w.grownBy w' none := by
  have CG := refgrun_any a pb ca cb xs pk w ha hlen hb (by omega)
  have HP : Hid (∀ W : World, w.grownBy W none → Calls Try.prog 28 #[.slice pa P.length pc, .slice pb pk.length cb] W fun e w' => RunPost W (runV P pk) (runE P pk) e w') := fun W G => refrun_any pa pb pc cb P pk W (hP.keptNone G) (hb.keptNone G)
  rw [h2] at CG
  rw [h1] at HP
  obtain ⟨⟨v, f, s⟩, hr1⟩ : ∃ r, runG (gOf xs) pk = r := ⟨_, rfl⟩
  obtain ⟨⟨v', f', l⟩, hr2⟩ : ∃ r, runV P pk = r := ⟨_, rfl⟩
  rw [hr1] at CG S
  rw [hr2] at HP S
  obtain ⟨s1, s2, s3⟩ := S
  simp only at s1 s2 s3
  subst s1 s2
  have s3' : (s : Int) ≤ (l.length : Int) := by omega
  clear hr1 hr2 h1 h2 ha hP hb s3
  go_enter Try.func18, Try.ntmps18
  go_wp2_with fail
  refine CG.mono ?_
  rintro e w1 ⟨rfl, K1⟩
  have V1 := GVt.alloc w1 61 #[.int .u32 (v' : Int), .int .i64 f', .int .i64 (s : Int)]
  have G1 : w1.grownBy (w1.alloc (.cells #[.int .u32 (v' : Int), .int .i64 f', .int .i64 (s : Int)] 61)) none := World.grownBy_alloc _ _ _
  go_upto_region 2 with fail
  generalize w1.alloc (.cells #[.int .u32 (v' : Int), .int .i64 f', .int .i64 (s : Int)] 61) = w2 at *
  generalize w1.heap.size = B at *
  have K2 := grown_trans K1 G1
  clear K1 G1
  go_wp2_with fail
  refine (HP.out _ K2).mono ?_
  rintro e w3 ⟨u, rfl, -, K3⟩
  have V3 := V1.kept K3
  have V4 := GVt.alloc w3 61 #[.int .u32 (v' : Int), .int .i64 f', .int .i64 (l.length : Int)]
  have G4 : w3.grownBy (w3.alloc (.cells #[.int .u32 (v' : Int), .int .i64 f', .int .i64 (l.length : Int)] 61)) none := World.grownBy_alloc _ _ _
  go_upto_region 3 with fail
  generalize w3.alloc (.cells #[.int .u32 (v' : Int), .int .i64 f', .int .i64 (l.length : Int)] 61) = w4 at *
  generalize w3.heap.size = C at *
  have V5 := V3.kept G4
  have b0 : w4.cell? ⟨B, 0, none⟩ = some (.int .u32 (v' : Int)) := V5.cell 0
  have b1 : w4.cell? ⟨B, 1, none⟩ = some (.int .i64 f') := V5.cell 1
  have b2 : w4.cell? ⟨B, 2, none⟩ = some (.int .i64 (s : Int)) := V5.cell 2
  have d0 : w4.cell? ⟨C, 0, none⟩ = some (.int .u32 (v' : Int)) := V4.cell 0
  have d1 : w4.cell? ⟨C, 1, none⟩ = some (.int .i64 f') := V4.cell 1
  have d2 : w4.cell? ⟨C, 2, none⟩ = some (.int .i64 (l.length : Int)) := V4.cell 2
  have K4 := grown_trans K2 (grown_trans K3 G4)
  clear V1 V3 V4 V5 K2 K3 G4 HP CG
  go_wp2
  go_ret
  exact ⟨by simp [*], K4⟩

theorem lit_b18 (W : World) : (Instr.buildSlice 22 1 #[(0, .agg v18.cells.toArray)]).run Try.prog W = .ok (.slice (some ⟨W.heap.size, 0, none⟩) 1 1) (W.alloc (.cells v18.cells.toArray 47)) := by kernel_rfl

set_option maxHeartbeats 4000000 in
theorem awake18_any (w : World) : Calls Try.prog 13 #[] w fun e w' => e = .returned (.bool true) ∧ w.grownBy w' none := by
  have HGC : Hid (∀ (W : World) (ad : Addr), CV W (some ad) v18.cells → GC W (some ad) [v18]) := fun W ad h => by
    refine ⟨by rw [flatB_cons, flatB_nil, List.append_nil]; exact h, fun x hx => ?_⟩
    simp only [List.mem_singleton] at hx
    subst hx
    exact ⟨⟨fun _ => rfl, fun ad had => (by cases had)⟩, Nat.le_refl _, fun _ => rfl⟩
  have HLN : Hid (∀ (W : World) (ad : Addr), CV W (some ad) v18.cells → Calls Try.prog 9 #[.slice (some ad) 1 1] W fun e w' => ∃ v, e = .returned (.tuple #[v, .int .i64 0]) ∧ IOwns w' W.heap.size v [⟨6, 0, 0, 7⟩] ∧ W.grownBy w' none) := fun W ad h => by
    have := linear_any (some ad) 1 [v18] W (HGC.out W ad h) (fun x hx => by simp only [List.mem_singleton] at hx; subst hx; decide)
    rw [b18_e, b18_p] at this
    exact this
  have HLZ : Hid (∀ W : World, Calls Try.prog 9 #[.slice none 0 0] W fun e w' => ∃ v, e = .returned (.tuple #[v, .int .i64 180]) ∧ W.grownBy w' none) := fun W => by
    have := linear_any none 0 [] W (gc_nil W) (fun x hx => by cases hx)
    rw [n18_e] at this
    refine this.mono ?_
    rintro e w' ⟨v, rfl, -, K⟩
    exact ⟨v, rfl, K⟩
  clear HGC
  go_enter Try.func13, Try.ntmps13
  go_wp2_with (first | (refine wpList_lit (by rfl) 22 1 _ rfl _ (by kernel_rfl) v18.cells 47 lit_b18 ?_; intro V1 w1 C1 K1) | fail)
  refine (HLN.out w1 _ C1).mono ?_
  rintro e w2 ⟨v, rfl, O2, K2⟩
  obtain ⟨a2, c2, rfl⟩ := own_slice O2
  have HO : Hid (CV w2 a2 (flat [⟨6, 0, 0, 7⟩])) := by
    obtain ⟨x1, x2, x3, x4, -⟩ := cv_of_row O2
    injection x3 with e
    subst e
    exact x4
  have G2 := grown_trans K1 K2
  clear C1 K1 O2 K2 HLN
  go_wp2_with fail
  refine (HLZ.out _).mono ?_
  rintro e w3 ⟨v3, rfl, K3⟩
  have HR := refrun_any a2 none c2 0 [⟨6, 0, 0, 7⟩] [] w3 (HO.out.keptNone K3) ⟨fun _ => rfl, fun ad had => (by cases had)⟩
  rw [r18_e, r18_v] at HR
  have G3 := grown_trans G2 K3
  clear G2 K3 HLZ HO
  go_wp2_with fail
  refine HR.mono ?_
  rintro e w4 ⟨u, rfl, -, K4⟩
  have V4 := GVt.alloc w4 61 #[.int .u32 7, .int .i64 0, .int .i64 1]
  have G4 : w4.grownBy (w4.alloc (.cells #[.int .u32 7, .int .i64 0, .int .i64 1] 61)) none := World.grownBy_alloc _ _ _
  go_upto_region 4 with fail
  generalize w4.alloc (.cells #[.int .u32 7, .int .i64 0, .int .i64 1] 61) = w5 at *
  generalize w4.heap.size = V at *
  have d0 : w5.cell? ⟨V, 0, none⟩ = some (.int .u32 7) := V4.cell 0
  have K5 := grown_trans G3 (grown_trans K4 G4)
  clear V4 G3 K4 G4
  go_wp2
  go_ret
  exact ⟨rfl, K5⟩

end Go.Proofs.Ytelgfegkobkhiaa
