/-
  The landed machine: loads. The landed machine: K or X; Do and Ask, whatever stands in their tables.
-/
import Derived.Test.YtencoknpocipbaaGreatLotP31
import Derived.Test.YtencoknpocipbaaGreatLotP6
import Derived.Deep.RegionHeld3
import Derived.Deep.DeepCutAuto
import Derived.Deep.RegionWith
import Derived.Shelf.Abstract
namespace Go.Proofs.YtencoknpocipbaaGreat
open Go.RowKit
set_option maxRecDepth 100000

theorem RAt.f0 {w : World} {g : Nat} {R : Rn} (h : RAt w g R) (hf : R.f = 0) : RAt w g { R with f := 0 } := by
  rw [← hf]
  exact h

set_option maxHeartbeats 1000000 in
theorem vmload_any (b : Option Addr) (cb : Nat) (pk : List UInt8) (g p S : Nat) (R : Rn) (w : World) (hr : RAt w g R) (hpk : R.pk = .slice b pk.length cb) (hC : Cells w b pk) (hl : pk.length ≤ 65536) (hf : R.f = 0) :
    Calls Tryz.prog 114 #[.pointer (some ⟨g, 0, none⟩), .int .u64 (p : Int), .int .i64 (S : Int)] w fun e w' => e = .returned (.int .u32 ((readAtV pk p S).1 : Int)) ∧ RAt w' g { R with f := (readAtV pk p S).2 } ∧ w.grownBy w' (some g) := by
  have HR : Hid (RAt w g R) := hr
  have cp : w.cell? ⟨g, 18, none⟩ = some (.slice b pk.length cb) := by rw [← hpk]; exact hr.tl 0
  have cf : w.cell? ⟨g, 19, none⟩ = some (.int .i64 R.f) := hr.tl 1
  have ff := hr.free 19
  have hn : pk.length ≤ 140737488355328 := by omega
  clear hr
  by_cases h : p < pk.length
  · have h' : ¬ ((pk.length : Int) ≤ (p : Int)) := by omega
    have HG := get_any b cb pk p S w hC hn
    cases hok : okB pk.length p S with
    | true =>
      have e : readAtV pk p S = (numAt pk p S, 0) := by rw [readAtV, hok]; rfl
      have g' : getV pk p S = numAt pk p S := by simp [getV, hok]
      rw [hok, g'] at HG
      rw [e]
      have HGG : Hid (Calls Tryz.prog 125 #[.slice b pk.length cb, .int .i64 (p : Int), .int .i64 (S : Int)] w fun e w' => e = .returned (.tuple #[.int .u32 (numAt pk p S), .bool true]) ∧ w = w') := HG
      clear HG hC g'
      go_enter Tryz.func114, Tryz.ntmps114
      go_wp2_with fail
      refine HGG.out.mono ?_
      rintro e w' ⟨rfl, rfl⟩
      go_wp2
      go_ret
      exact ⟨rfl, HR.out.f0 hf, World.grownBy.refl _ _⟩
    | false =>
      have e : readAtV pk p S = (0, 1) := by rw [readAtV, hok]; rfl
      have g' : getV pk p S = 0 := by simp [getV, hok]
      rw [hok, g'] at HG
      rw [e]
      have HGG : Hid (Calls Tryz.prog 125 #[.slice b pk.length cb, .int .i64 (p : Int), .int .i64 (S : Int)] w fun e w' => e = .returned (.tuple #[.int .u32 ((0 : Nat) : Int), .bool false]) ∧ w = w') := HG
      clear HG hC g'
      go_enter Tryz.func114, Tryz.ntmps114
      go_wp2_with fail
      refine HGG.out.mono ?_
      rintro e w' ⟨rfl, rfl⟩
      go_wp2
      go_ret
      exact ⟨rfl, HR.out.setF 1, grown_set1 _ _ _⟩
  · have h' : (pk.length : Int) ≤ (p : Int) := by omega
    have hok : okB pk.length p S = false := by
      cases hb : okB pk.length p S with
      | false => rfl
      | true => have := okB_yes hb; omega
    have e : readAtV pk p S = (0, 1) := by rw [readAtV, hok]; rfl
    rw [e]
    clear hC
    go_enter Tryz.func114, Tryz.ntmps114
    go_wp2
    go_ret
    exact ⟨rfl, HR.out.setF 1, grown_set1 _ _ _⟩

set_option maxHeartbeats 400000 in
theorem fromX_any (g k : Nat) (R : Rn) (w : World) (hr : RAt w g R) (hk : k ≤ 4294967295) (hM : R.M.ok) :
    Calls Tryz.prog 115 #[.pointer (some ⟨g, 0, none⟩), .int .u32 (k : Int)] w fun e w' => e = .returned (.int .u64 ((k + R.M.x : Nat) : Int)) ∧ w = w' := by
  have c1 := hr.x
  have hx := hM.2.1
  clear hr
  go_enter Tryz.func115, Tryz.ntmps115
  go_wp2
  go_ret
  exact ⟨ret_int (by omega), rfl⟩

set_option maxHeartbeats 1000000 in
theorem deed_wordAt (b : Option Addr) (cb : Nat) (pk : List UInt8) (g k : Nat) (R : Rn) (w : World) (hr : RAt w g R) (hk : k ≤ 4294967295) (hM : R.M.ok) (hpk : R.pk = .slice b pk.length cb) (hC : Cells w b pk) (hl : pk.length ≤ 65536) (hf : R.f = 0) :
    Calls Tryz.prog 64 #[.pointer (some ⟨g, 0, none⟩), .int .u32 (k : Int)] w fun e w' => DeedPost w g R ⟨(readAtV pk k 4).1, R.M.x, R.M.m⟩ (readAtV pk k 4).2 e w' := by
  have _hk : k ≤ 4294967295 := hk
  have _hM := hM
  have HL := vmload_any b cb pk g k 4 R w hr hpk hC hl hf
  generalize readAtV pk k 4 = r at *
  obtain ⟨rv, rf⟩ := r
  simp only at HL ⊢
  have HLL : Hid (Calls Tryz.prog 114 #[.pointer (some ⟨g, 0, none⟩), .int .u64 (k : Int), .int .i64 4] w fun e w' => e = .returned (.int .u32 (rv : Int)) ∧ RAt w' g { R with f := rf } ∧ w.grownBy w' (some g)) := HL
  clear HL hr hC
  go_enter Tryz.func64, Tryz.ntmps64
  go_wp2_with fail
  refine HLL.out.mono ?_
  rintro e w1 ⟨rfl, R1, G1⟩
  have HR1 : Hid (RAt w1 g { R with f := rf }) := R1
  have c0 := R1.a
  have c1 := R1.x
  have f0 := R1.free 0
  have HG1 : Hid (w.grownBy w1 (some g)) := G1
  clear R1 G1
  go_wp2
  (try simp only [Exit.inBlock, Exit.then]); (first | refine bodyPost_end (results_none rfl _ _ _) rfl ?_ | refine bodyPost_ret (results_none rfl _ _ _) rfl ?_)
  exact ⟨rfl, HR1.out.setA' _ (by rfl), grown_trans HG1.out (grown_set1 _ _ _)⟩

set_option maxHeartbeats 1000000 in
theorem deed_halfAt (b : Option Addr) (cb : Nat) (pk : List UInt8) (g k : Nat) (R : Rn) (w : World) (hr : RAt w g R) (hk : k ≤ 4294967295) (hM : R.M.ok) (hpk : R.pk = .slice b pk.length cb) (hC : Cells w b pk) (hl : pk.length ≤ 65536) (hf : R.f = 0) :
    Calls Tryz.prog 65 #[.pointer (some ⟨g, 0, none⟩), .int .u32 (k : Int)] w fun e w' => DeedPost w g R ⟨(readAtV pk k 2).1, R.M.x, R.M.m⟩ (readAtV pk k 2).2 e w' := by
  have _hk : k ≤ 4294967295 := hk
  have _hM := hM
  have HL := vmload_any b cb pk g k 2 R w hr hpk hC hl hf
  generalize readAtV pk k 2 = r at *
  obtain ⟨rv, rf⟩ := r
  simp only at HL ⊢
  have HLL : Hid (Calls Tryz.prog 114 #[.pointer (some ⟨g, 0, none⟩), .int .u64 (k : Int), .int .i64 2] w fun e w' => e = .returned (.int .u32 (rv : Int)) ∧ RAt w' g { R with f := rf } ∧ w.grownBy w' (some g)) := HL
  clear HL hr hC
  go_enter Tryz.func65, Tryz.ntmps65
  go_wp2_with fail
  refine HLL.out.mono ?_
  rintro e w1 ⟨rfl, R1, G1⟩
  have HR1 : Hid (RAt w1 g { R with f := rf }) := R1
  have c0 := R1.a
  have c1 := R1.x
  have f0 := R1.free 0
  have HG1 : Hid (w.grownBy w1 (some g)) := G1
  clear R1 G1
  go_wp2
  (try simp only [Exit.inBlock, Exit.then]); (first | refine bodyPost_end (results_none rfl _ _ _) rfl ?_ | refine bodyPost_ret (results_none rfl _ _ _) rfl ?_)
  exact ⟨rfl, HR1.out.setA' _ (by rfl), grown_trans HG1.out (grown_set1 _ _ _)⟩

set_option maxHeartbeats 1000000 in
theorem deed_byteAt (b : Option Addr) (cb : Nat) (pk : List UInt8) (g k : Nat) (R : Rn) (w : World) (hr : RAt w g R) (hk : k ≤ 4294967295) (hM : R.M.ok) (hpk : R.pk = .slice b pk.length cb) (hC : Cells w b pk) (hl : pk.length ≤ 65536) (hf : R.f = 0) :
    Calls Tryz.prog 66 #[.pointer (some ⟨g, 0, none⟩), .int .u32 (k : Int)] w fun e w' => DeedPost w g R ⟨(readAtV pk k 1).1, R.M.x, R.M.m⟩ (readAtV pk k 1).2 e w' := by
  have _hk : k ≤ 4294967295 := hk
  have _hM := hM
  have HL := vmload_any b cb pk g k 1 R w hr hpk hC hl hf
  generalize readAtV pk k 1 = r at *
  obtain ⟨rv, rf⟩ := r
  simp only at HL ⊢
  have HLL : Hid (Calls Tryz.prog 114 #[.pointer (some ⟨g, 0, none⟩), .int .u64 (k : Int), .int .i64 1] w fun e w' => e = .returned (.int .u32 (rv : Int)) ∧ RAt w' g { R with f := rf } ∧ w.grownBy w' (some g)) := HL
  clear HL hr hC
  go_enter Tryz.func66, Tryz.ntmps66
  go_wp2_with fail
  refine HLL.out.mono ?_
  rintro e w1 ⟨rfl, R1, G1⟩
  have HR1 : Hid (RAt w1 g { R with f := rf }) := R1
  have c0 := R1.a
  have c1 := R1.x
  have f0 := R1.free 0
  have HG1 : Hid (w.grownBy w1 (some g)) := G1
  clear R1 G1
  go_wp2
  (try simp only [Exit.inBlock, Exit.then]); (first | refine bodyPost_end (results_none rfl _ _ _) rfl ?_ | refine bodyPost_ret (results_none rfl _ _ _) rfl ?_)
  exact ⟨rfl, HR1.out.setA' _ (by rfl), grown_trans HG1.out (grown_set1 _ _ _)⟩

set_option maxHeartbeats 1000000 in
theorem deed_wordFromX (b : Option Addr) (cb : Nat) (pk : List UInt8) (g k : Nat) (R : Rn) (w : World) (hr : RAt w g R) (hk : k ≤ 4294967295) (hM : R.M.ok) (hpk : R.pk = .slice b pk.length cb) (hC : Cells w b pk) (hl : pk.length ≤ 65536) (hf : R.f = 0) :
    Calls Tryz.prog 67 #[.pointer (some ⟨g, 0, none⟩), .int .u32 (k : Int)] w fun e w' => DeedPost w g R ⟨(readAtV pk (k + R.M.x) 4).1, R.M.x, R.M.m⟩ (readAtV pk (k + R.M.x) 4).2 e w' := by
  have _hk : k ≤ 4294967295 := hk
  have _hM := hM
  have HL := vmload_any b cb pk g (k + R.M.x) 4 R w hr hpk hC hl hf
  have HX := fromX_any g k R w hr hk hM
  have hx := hM.2.1
  obtain ⟨p, hp⟩ : ∃ p, k + R.M.x = p := ⟨_, rfl⟩
  rw [hp] at HL HX
  rw [hp]
  have HXX : Hid (Calls Tryz.prog 115 #[.pointer (some ⟨g, 0, none⟩), .int .u32 (k : Int)] w fun e w' => e = .returned (.int .u64 (p : Int)) ∧ w = w') := HX
  clear HX hp
  generalize readAtV pk p 4 = r at *
  obtain ⟨rv, rf⟩ := r
  simp only at HL ⊢
  have HLL : Hid (Calls Tryz.prog 114 #[.pointer (some ⟨g, 0, none⟩), .int .u64 (p : Int), .int .i64 4] w fun e w' => e = .returned (.int .u32 (rv : Int)) ∧ RAt w' g { R with f := rf } ∧ w.grownBy w' (some g)) := HL
  clear HL hr hC
  go_enter Tryz.func67, Tryz.ntmps67
  go_wp2_with fail
  refine HXX.out.mono ?_
  rintro e w' ⟨rfl, rfl⟩
  go_wp2_with fail
  refine HLL.out.mono ?_
  rintro e w1 ⟨rfl, R1, G1⟩
  have HR1 : Hid (RAt w1 g { R with f := rf }) := R1
  have c0 := R1.a
  have c1 := R1.x
  have f0 := R1.free 0
  have HG1 : Hid (w.grownBy w1 (some g)) := G1
  clear R1 G1
  go_wp2
  (try simp only [Exit.inBlock, Exit.then]); (first | refine bodyPost_end (results_none rfl _ _ _) rfl ?_ | refine bodyPost_ret (results_none rfl _ _ _) rfl ?_)
  exact ⟨rfl, HR1.out.setA' _ (by rfl), grown_trans HG1.out (grown_set1 _ _ _)⟩

set_option maxHeartbeats 1000000 in
theorem deed_halfFromX (b : Option Addr) (cb : Nat) (pk : List UInt8) (g k : Nat) (R : Rn) (w : World) (hr : RAt w g R) (hk : k ≤ 4294967295) (hM : R.M.ok) (hpk : R.pk = .slice b pk.length cb) (hC : Cells w b pk) (hl : pk.length ≤ 65536) (hf : R.f = 0) :
    Calls Tryz.prog 68 #[.pointer (some ⟨g, 0, none⟩), .int .u32 (k : Int)] w fun e w' => DeedPost w g R ⟨(readAtV pk (k + R.M.x) 2).1, R.M.x, R.M.m⟩ (readAtV pk (k + R.M.x) 2).2 e w' := by
  have _hk : k ≤ 4294967295 := hk
  have _hM := hM
  have HL := vmload_any b cb pk g (k + R.M.x) 2 R w hr hpk hC hl hf
  have HX := fromX_any g k R w hr hk hM
  have hx := hM.2.1
  obtain ⟨p, hp⟩ : ∃ p, k + R.M.x = p := ⟨_, rfl⟩
  rw [hp] at HL HX
  rw [hp]
  have HXX : Hid (Calls Tryz.prog 115 #[.pointer (some ⟨g, 0, none⟩), .int .u32 (k : Int)] w fun e w' => e = .returned (.int .u64 (p : Int)) ∧ w = w') := HX
  clear HX hp
  generalize readAtV pk p 2 = r at *
  obtain ⟨rv, rf⟩ := r
  simp only at HL ⊢
  have HLL : Hid (Calls Tryz.prog 114 #[.pointer (some ⟨g, 0, none⟩), .int .u64 (p : Int), .int .i64 2] w fun e w' => e = .returned (.int .u32 (rv : Int)) ∧ RAt w' g { R with f := rf } ∧ w.grownBy w' (some g)) := HL
  clear HL hr hC
  go_enter Tryz.func68, Tryz.ntmps68
  go_wp2_with fail
  refine HXX.out.mono ?_
  rintro e w' ⟨rfl, rfl⟩
  go_wp2_with fail
  refine HLL.out.mono ?_
  rintro e w1 ⟨rfl, R1, G1⟩
  have HR1 : Hid (RAt w1 g { R with f := rf }) := R1
  have c0 := R1.a
  have c1 := R1.x
  have f0 := R1.free 0
  have HG1 : Hid (w.grownBy w1 (some g)) := G1
  clear R1 G1
  go_wp2
  (try simp only [Exit.inBlock, Exit.then]); (first | refine bodyPost_end (results_none rfl _ _ _) rfl ?_ | refine bodyPost_ret (results_none rfl _ _ _) rfl ?_)
  exact ⟨rfl, HR1.out.setA' _ (by rfl), grown_trans HG1.out (grown_set1 _ _ _)⟩

set_option maxHeartbeats 1000000 in
theorem deed_byteFromX (b : Option Addr) (cb : Nat) (pk : List UInt8) (g k : Nat) (R : Rn) (w : World) (hr : RAt w g R) (hk : k ≤ 4294967295) (hM : R.M.ok) (hpk : R.pk = .slice b pk.length cb) (hC : Cells w b pk) (hl : pk.length ≤ 65536) (hf : R.f = 0) :
    Calls Tryz.prog 69 #[.pointer (some ⟨g, 0, none⟩), .int .u32 (k : Int)] w fun e w' => DeedPost w g R ⟨(readAtV pk (k + R.M.x) 1).1, R.M.x, R.M.m⟩ (readAtV pk (k + R.M.x) 1).2 e w' := by
  have _hk : k ≤ 4294967295 := hk
  have _hM := hM
  have HL := vmload_any b cb pk g (k + R.M.x) 1 R w hr hpk hC hl hf
  have HX := fromX_any g k R w hr hk hM
  have hx := hM.2.1
  obtain ⟨p, hp⟩ : ∃ p, k + R.M.x = p := ⟨_, rfl⟩
  rw [hp] at HL HX
  rw [hp]
  have HXX : Hid (Calls Tryz.prog 115 #[.pointer (some ⟨g, 0, none⟩), .int .u32 (k : Int)] w fun e w' => e = .returned (.int .u64 (p : Int)) ∧ w = w') := HX
  clear HX hp
  generalize readAtV pk p 1 = r at *
  obtain ⟨rv, rf⟩ := r
  simp only at HL ⊢
  have HLL : Hid (Calls Tryz.prog 114 #[.pointer (some ⟨g, 0, none⟩), .int .u64 (p : Int), .int .i64 1] w fun e w' => e = .returned (.int .u32 (rv : Int)) ∧ RAt w' g { R with f := rf } ∧ w.grownBy w' (some g)) := HL
  clear HL hr hC
  go_enter Tryz.func69, Tryz.ntmps69
  go_wp2_with fail
  refine HXX.out.mono ?_
  rintro e w' ⟨rfl, rfl⟩
  go_wp2_with fail
  refine HLL.out.mono ?_
  rintro e w1 ⟨rfl, R1, G1⟩
  have HR1 : Hid (RAt w1 g { R with f := rf }) := R1
  have c0 := R1.a
  have c1 := R1.x
  have f0 := R1.free 0
  have HG1 : Hid (w.grownBy w1 (some g)) := G1
  clear R1 G1
  go_wp2
  (try simp only [Exit.inBlock, Exit.then]); (first | refine bodyPost_end (results_none rfl _ _ _) rfl ?_ | refine bodyPost_ret (results_none rfl _ _ _) rfl ?_)
  exact ⟨rfl, HR1.out.setA' _ (by rfl), grown_trans HG1.out (grown_set1 _ _ _)⟩

set_option maxHeartbeats 1000000 in
theorem deed_headerAt (b : Option Addr) (cb : Nat) (pk : List UInt8) (g k : Nat) (R : Rn) (w : World) (hr : RAt w g R) (hk : k ≤ 4294967295) (hM : R.M.ok) (hpk : R.pk = .slice b pk.length cb) (hC : Cells w b pk) (hl : pk.length ≤ 65536) (hf : R.f = 0) :
    Calls Tryz.prog 73 #[.pointer (some ⟨g, 0, none⟩), .int .u32 (k : Int)] w fun e w' => DeedPost w g R ⟨R.M.a, 4 * ((readAtV pk k 1).1 % 16), R.M.m⟩ (readAtV pk k 1).2 e w' := by
  have _hk : k ≤ 4294967295 := hk
  have _hM := hM
  have HL := vmload_any b cb pk g k 1 R w hr hpk hC hl hf
  have hb1 := readAtV_le pk k 1 (by omega)
  have ha15 := vand15 (readAtV pk k 1).1 hb1
  generalize readAtV pk k 1 = r at *
  obtain ⟨rv, rf⟩ := r
  simp only at HL hb1 ha15 ⊢
  have HLL : Hid (Calls Tryz.prog 114 #[.pointer (some ⟨g, 0, none⟩), .int .u64 (k : Int), .int .i64 1] w fun e w' => e = .returned (.int .u32 (rv : Int)) ∧ RAt w' g { R with f := rf } ∧ w.grownBy w' (some g)) := HL
  clear HL hr hC
  go_enter Tryz.func73, Tryz.ntmps73
  go_wp2_with fail
  refine HLL.out.mono ?_
  rintro e w1 ⟨rfl, R1, G1⟩
  have HR1 : Hid (RAt w1 g { R with f := rf }) := R1
  have c0 := R1.a
  have c1 := R1.x
  have f0 := R1.free 1
  have HG1 : Hid (w.grownBy w1 (some g)) := G1
  clear R1 G1
  go_wp2
  (try simp only [Exit.inBlock, Exit.then]); (first | refine bodyPost_end (results_none rfl _ _ _) rfl ?_ | refine bodyPost_ret (results_none rfl _ _ _) rfl ?_)
  exact ⟨rfl, HR1.out.setX' _ (by omega), grown_trans HG1.out (grown_set1 _ _ _)⟩

end Go.Proofs.YtencoknpocipbaaGreat

namespace Go.Proofs.YtencoknpocipbaaGreat
open Go.RowKit
set_option maxRecDepth 100000

set_option maxHeartbeats 400000 in
theorem looks_any (c t f k : Nat) (w : World) :
    Calls Tryz.prog 116 #[.agg #[.int .u16 (c : Int), .int .u8 (t : Int), .int .u8 (f : Int), .int .u32 (k : Int)]] w fun e w' => e = .returned (.bool (usesK c)) ∧ w.grownBy w' none := by
  have G0 : w.grownBy (w.alloc (.cells #[.int .u16 (c : Int), .int .u8 (t : Int), .int .u8 (f : Int), .int .u32 (k : Int)] 54)) none := World.grownBy_alloc _ _ _
  go_enter Tryz.func116, Tryz.ntmps116
  go_wp2_with fail
  refine (uses_any c _).mono ?_
  rintro e w1 ⟨rfl, K⟩
  go_wp2
  go_ret
  exact ⟨rfl, grown_trans G0 K⟩

def byV (c k x : Nat) : Nat := if usesK c = true then k else x

set_option maxHeartbeats 400000 in
theorem operand_any (g c t f k : Nat) (R : Rn) (w : World) (hr : RAt w g R) :
    Calls Tryz.prog 93 #[.pointer (some ⟨g, 0, none⟩), .agg #[.int .u16 (c : Int), .int .u8 (t : Int), .int .u8 (f : Int), .int .u32 (k : Int)]] w fun e w' => e = .returned (.int .u32 (byV c k R.M.x : Int)) ∧ w.grownBy w' none := by
  have G0 : w.grownBy (w.alloc (.cells #[.int .u16 (c : Int), .int .u8 (t : Int), .int .u8 (f : Int), .int .u32 (k : Int)] 54)) none := World.grownBy_alloc _ _ _
  have C0 := cv_lit w 54 [.int .u16 (c : Int), .int .u8 (t : Int), .int .u8 (f : Int), .int .u32 (k : Int)]
  have HC : Hid (CV (w.alloc (.cells #[.int .u16 (c : Int), .int .u8 (t : Int), .int .u8 (f : Int), .int .u32 (k : Int)] 54)) (some ⟨w.heap.size, 0, none⟩) [.int .u16 (c : Int), .int .u8 (t : Int), .int .u8 (f : Int), .int .u32 (k : Int)]) := C0
  have HR : Hid (RAt w g R) := hr
  have HG : Hid (w.grownBy (w.alloc (.cells #[.int .u16 (c : Int), .int .u8 (t : Int), .int .u8 (f : Int), .int .u32 (k : Int)] 54)) none) := G0
  clear C0 hr G0
  go_enter Tryz.func93, Tryz.ntmps93
  go_wp2_with fail
  refine (looks_any c t f k _).mono ?_
  rintro e w1 ⟨rfl, K⟩
  have y3 : w1.cell? ⟨w.heap.size, 3, none⟩ = some (.int .u32 (k : Int)) := K.cell (HC.out.2 _ rfl 3 (by simp)) (by simp)
  have G1 := grown_trans HG.out K
  have c1 := (HR.out.kept G1).x
  clear HC HG K HR
  cases hu : usesK c with
  | true =>
    go_wp2
    go_ret
    exact ⟨ret_int (by simp [byV, hu]), G1⟩
  | false =>
    go_wp2
    go_ret
    exact ⟨ret_int (by simp [byV, hu]), G1⟩

set_option maxHeartbeats 400000 in
theorem mgive_any (g c t f k : Nat) (R : Rn) (w : World) (hr : RAt w g R) :
    Calls Tryz.prog 94 #[.pointer (some ⟨g, 0, none⟩), .agg #[.int .u16 (c : Int), .int .u8 (t : Int), .int .u8 (f : Int), .int .u32 (k : Int)]] w fun e w' => e = .returned (.int .u32 (byV c k R.M.a : Int)) ∧ w.grownBy w' none := by
  have G0 : w.grownBy (w.alloc (.cells #[.int .u16 (c : Int), .int .u8 (t : Int), .int .u8 (f : Int), .int .u32 (k : Int)] 54)) none := World.grownBy_alloc _ _ _
  have C0 := cv_lit w 54 [.int .u16 (c : Int), .int .u8 (t : Int), .int .u8 (f : Int), .int .u32 (k : Int)]
  have HC : Hid (CV (w.alloc (.cells #[.int .u16 (c : Int), .int .u8 (t : Int), .int .u8 (f : Int), .int .u32 (k : Int)] 54)) (some ⟨w.heap.size, 0, none⟩) [.int .u16 (c : Int), .int .u8 (t : Int), .int .u8 (f : Int), .int .u32 (k : Int)]) := C0
  have HR : Hid (RAt w g R) := hr
  have HG : Hid (w.grownBy (w.alloc (.cells #[.int .u16 (c : Int), .int .u8 (t : Int), .int .u8 (f : Int), .int .u32 (k : Int)] 54)) none) := G0
  clear C0 hr G0
  go_enter Tryz.func94, Tryz.ntmps94
  go_wp2_with fail
  refine (looks_any c t f k _).mono ?_
  rintro e w1 ⟨rfl, K⟩
  have y3 : w1.cell? ⟨w.heap.size, 3, none⟩ = some (.int .u32 (k : Int)) := K.cell (HC.out.2 _ rfl 3 (by simp)) (by simp)
  have G1 := grown_trans HG.out K
  have c1 := (HR.out.kept G1).a
  clear HC HG K HR
  cases hu : usesK c with
  | true =>
    go_wp2
    go_ret
    exact ⟨ret_int (by simp [byV, hu]), G1⟩
  | false =>
    go_wp2
    go_ret
    exact ⟨ret_int (by simp [byV, hu]), G1⟩

/-- What Do leaves. -/
def DoPost (w : World) (g : Nat) (R : Rn) (good : Mc → Prop) (fl : Int) (e : Ending) (w' : World) : Prop := e = .returned (.int .i64 fl) ∧ ∃ M, good M ∧ RAt w' g { R with M := M, f := fl } ∧ w.grownBy w' (some g)

/-- What is read on the way of Do: the instruction, the table, its entry. -/
abbrev DoS (w0 : World) (B g d c : Nat) (t f k : Int) (v : Value) (W : World) : Prop := W.cell? ⟨B, 0, none⟩ = some (.int .u16 (c : Int)) ∧ W.cell? ⟨B, 1, none⟩ = some (.int .u8 t) ∧ W.cell? ⟨B, 2, none⟩ = some (.int .u8 f) ∧ W.cell? ⟨B, 3, none⟩ = some (.int .u32 k) ∧ W.cell? ⟨g, 20, none⟩ = some (.slice (some ⟨d, 0, none⟩) 178 178) ∧ W.cell? ⟨d, c, none⟩ = some v ∧ w0.grownBy W (some g)

theorem doS_call {w0 W W' : World} {B g d c : Nat} {t f k : Int} {v : Value} (K : W.grownBy W' none) (h : DoS w0 B g d c t f k v W) : DoS w0 B g d c t f k v W' :=
  ⟨K.cell h.1 (by simp), K.cell h.2.1 (by simp), K.cell h.2.2.1 (by simp), K.cell h.2.2.2.1 (by simp), K.cell h.2.2.2.2.1 (by simp), K.cell h.2.2.2.2.2.1 (by simp), grown_trans h.2.2.2.2.2.2 (grown_mono K)⟩

theorem doS_deed {w0 W W' : World} {B g d c : Nat} {t f k : Int} {v : Value} {R : Rn} (K : W.grownBy W' (some g)) (r : RAt W' g R) (hd : R.d = .slice (some ⟨d, 0, none⟩) 178 178) (hB : B ≠ g) (hdg : d ≠ g) (h : DoS w0 B g d c t f k v W) : DoS w0 B g d c t f k v W' :=
  ⟨K.cell h.1 (by simpa using hB), K.cell h.2.1 (by simpa using hB), K.cell h.2.2.1 (by simpa using hB), K.cell h.2.2.2.1 (by simpa using hB), by rw [← hd]; exact r.tl 2, K.cell h.2.2.2.2.2.1 (by simpa using hdg), grown_trans h.2.2.2.2.2.2 K⟩

theorem doS_drewn {w0 W : World} {B g d c n : Nat} {t f k : Int} {v : Value} (h : DoS w0 B g d c t f k v W) : DoS w0 B g d c t f k v (W.drewN n) := doS_call (grown_drewN _ _ none) h

set_option maxHeartbeats 1000000 in
theorem do_fn (g d c t f k fn by' : Nat) (R : Rn) (good : Mc → Prop) (fl : Int) (w : World) (hr : RAt w g R) (hd : R.d = .slice (some ⟨d, 0, none⟩) 178 178) (hc : c < 178) (hdg : d ≠ g)
    (hv : w.cell? ⟨d, c, none⟩ = some (.func (.func fn) #[] #[])) (he : ∀ args W, (callFunc fn args).run Tryz.prog W = .ok (.enter fn args) W) (hby : byV c k R.M.x = by')
    (hD : ∀ W : World, w.grownBy W none → RAt W g R → Calls Tryz.prog fn #[.pointer (some ⟨g, 0, none⟩), .int .u32 (by' : Int)] W fun e w' => e = .returned (.tuple #[]) ∧ ∃ M, good M ∧ RAt w' g { R with M := M, f := fl } ∧ W.grownBy w' (some g)) :
    Calls Tryz.prog 42 #[.pointer (some ⟨g, 0, none⟩), .agg #[.int .u16 (c : Int), .int .u8 (t : Int), .int .u8 (f : Int), .int .u32 (k : Int)]] w fun e w' => DoPost w g R good fl e w' := by
  have G0 : w.grownBy (w.alloc (.cells #[.int .u16 (c : Int), .int .u8 (t : Int), .int .u8 (f : Int), .int .u32 (k : Int)] 54)) none := World.grownBy_alloc _ _ _
  have C0 := cv_lit w 54 [.int .u16 (c : Int), .int .u8 (t : Int), .int .u8 (f : Int), .int .u32 (k : Int)]
  have HC : Hid (CV (w.alloc (.cells #[.int .u16 (c : Int), .int .u8 (t : Int), .int .u8 (f : Int), .int .u32 (k : Int)] 54)) (some ⟨w.heap.size, 0, none⟩) [.int .u16 (c : Int), .int .u8 (t : Int), .int .u8 (f : Int), .int .u32 (k : Int)]) := C0
  have HR : Hid (RAt w g R) := hr
  have HG : Hid (w.grownBy (w.alloc (.cells #[.int .u16 (c : Int), .int .u8 (t : Int), .int .u8 (f : Int), .int .u32 (k : Int)] 54)) none) := G0
  have HD : Hid (∀ W : World, w.grownBy W none → RAt W g R → Calls Tryz.prog fn #[.pointer (some ⟨g, 0, none⟩), .int .u32 (by' : Int)] W fun e w' => e = .returned (.tuple #[]) ∧ ∃ M, good M ∧ RAt w' g { R with M := M, f := fl } ∧ W.grownBy w' (some g)) := hD
  have hv1 := G0.cell hv (by simp)
  have hcd : (w.alloc (.cells #[.int .u16 (c : Int), .int .u8 (t : Int), .int .u8 (f : Int), .int .u32 (k : Int)] 54)).cell? ⟨g, 20, none⟩ = some (.slice (some ⟨d, 0, none⟩) 178 178) := by rw [← hd]; exact (hr.kept G0).tl 2
  have HO : Hid (∀ W : World, RAt W g R → Calls Tryz.prog 93 #[.pointer (some ⟨g, 0, none⟩), .agg #[.int .u16 (c : Int), .int .u8 (t : Int), .int .u8 (f : Int), .int .u32 (k : Int)]] W fun e w' => e = .returned (.int .u32 (by' : Int)) ∧ W.grownBy w' none) := fun W h => by
    rw [← hby]
    exact operand_any g c t f k R W h
  have hc1 : (c : Int) < 178 := by omega
  have HB : Hid (w.heap.size ≠ g ∧ d ≠ g ∧ R.d = .slice (some ⟨d, 0, none⟩) 178 178) := ⟨by have := hr.1.lt; omega, hdg, hd⟩
  clear C0 hr G0 hD hv hby hd hdg
  go_enter Tryz.func42, Tryz.ntmps42
  go_upto_region 1 with fail
  generalize w.alloc (.cells #[.int .u16 (c : Int), .int .u8 (t : Int), .int .u8 (f : Int), .int .u32 (k : Int)] 54) = w1 at *
  generalize w.heap.size = B at *
  have x0 : w1.cell? ⟨B, 0, none⟩ = some (.int .u16 (c : Int)) := HC.out.2 _ rfl 0 (by simp)
  have x1 : w1.cell? ⟨B, 1, none⟩ = some (.int .u8 (t : Int)) := HC.out.2 _ rfl 1 (by simp)
  have x2 : w1.cell? ⟨B, 2, none⟩ = some (.int .u8 (f : Int)) := HC.out.2 _ rfl 2 (by simp)
  have x3 : w1.cell? ⟨B, 3, none⟩ = some (.int .u32 (k : Int)) := HC.out.2 _ rfl 3 (by simp)
  clear HC
  have R1 : Hid (RAt w1 g R) := HR.out.kept HG.out
  have B0 : DoS w B g d c t f k (.func (.func fn) #[] #[]) w1 := ⟨x0, x1, x2, x3, hcd, hv1, grown_mono HG.out⟩
  clear x0 x1 x2 x3 hcd hv1
  go_region_held3 (fun W => W.cell? ⟨B, 0, none⟩ = some (.int .u16 (c : Int)) ∧ W.cell? ⟨B, 1, none⟩ = some (.int .u8 (t : Int)) ∧ W.cell? ⟨B, 2, none⟩ = some (.int .u8 (f : Int)) ∧ W.cell? ⟨B, 3, none⟩ = some (.int .u32 (k : Int)) ∧ W.cell? ⟨g, 20, none⟩ = some (.slice (some ⟨d, 0, none⟩) 178 178) ∧ W.cell? ⟨d, c, none⟩ = some (.func (.func fn) #[] #[]) ∧ w.grownBy W (some g)) (first | exact doS_deed K3 r3 HB.out.2.2 HB.out.1 HB.out.2.1 (by assumption) | exact doS_call K2 (by assumption) | exact doS_drewn B0) (first
    | (go_at_call 93; refine (HO.out _ ?_).mono ?_; (first | exact R1.out | exact R1.out.kept (grown_drewN _ 1 none)); rintro e w2 ⟨rfl, K2⟩; have G2 : Hid (w.grownBy w2 none) := (by first | exact grown_trans HG.out K2 | exact grown_trans HG.out (grown_trans (grown_drewN w1 1 none) K2)))
    | (go_at_fn fn; refine (HD.out _ G2.out (HR.out.kept G2.out)).mono ?_; rintro e w3 ⟨rfl, M3, hg3, r3, K3⟩))
  have G3 := grown_trans (grown_mono (row := some g) G2.out) K3
  have cf : w3.cell? ⟨g, 19, none⟩ = some (.int .i64 fl) := r3.tl 1
  have HE : Hid (∃ M, good M ∧ RAt w3 g { R with M := M, f := fl } ∧ w.grownBy w3 (some g)) := ⟨M3, hg3, r3, G3⟩
  clear B0 R1 HG HD HO HR K2 K3 G2 G3 hg3 r3
  go_wp2
  go_ret
  exact ⟨rfl, HE.out⟩

end Go.Proofs.YtencoknpocipbaaGreat
