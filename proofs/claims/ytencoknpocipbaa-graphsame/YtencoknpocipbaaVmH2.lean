/-
  The landed machine: loads.
-/
import Derived.Test.YtencoknpocipbaaVmH
namespace Go.Proofs.Ytencoknpocipbaa
open Go.RowKit
set_option maxRecDepth 100000

theorem RAt.f0 {w : World} {g : Nat} {R : Rn} (h : RAt w g R) (hf : R.f = 0) : RAt w g { R with f := 0 } := by
  rw [← hf]
  exact h

set_option maxHeartbeats 1000000 in
theorem vmload_any (b : Option Addr) (cb : Nat) (pk : List UInt8) (g p S : Nat) (R : Rn) (w : World) (hr : RAt w g R) (hpk : R.pk = .slice b pk.length cb) (hC : Cells w b pk) (hl : pk.length ≤ 65536) (hf : R.f = 0) :
    Calls Try.prog 99 #[.pointer (some ⟨g, 0, none⟩), .int .u64 (p : Int), .int .i64 (S : Int)] w fun e w' => e = .returned (.int .u32 ((readAtV pk p S).1 : Int)) ∧ RAt w' g { R with f := (readAtV pk p S).2 } ∧ w.grownBy w' (some g) := by
  have HR : Hid (RAt w g R) := hr
  have cp : w.cell? ⟨g, 18, none⟩ = some (.slice b pk.length cb) := by rw [← hpk]; exact hr.tl 0
  have cf : w.cell? ⟨g, 19, none⟩ = some (.int .i64 R.f) := hr.tl 1
  have ff := hr.free 19
  have hn : pk.length ≤ 140737488355328 := by omega
  clear hr
  by_cases h : p < pk.length
  · have h' : ¬ ((pk.length : Int) ≤ (p : Int)) := by omega
    have HG := get_any b cb pk p S w hC hn
    cases hok : okB pk.length p S with
    | true =>
      have e : readAtV pk p S = (numAt pk p S, 0) := by rw [readAtV, hok]; rfl
      have g' : getV pk p S = numAt pk p S := by simp [getV, hok]
      rw [hok, g'] at HG
      rw [e]
      have HGG : Hid (Calls Try.prog 101 #[.slice b pk.length cb, .int .i64 (p : Int), .int .i64 (S : Int)] w fun e w' => e = .returned (.tuple #[.int .u32 (numAt pk p S), .bool true]) ∧ w = w') := HG
      clear HG hC g'
      go_enter Try.func99, Try.ntmps99
      go_wp2_with fail
      refine HGG.out.mono ?_
      rintro e w' ⟨rfl, rfl⟩
      go_wp2
      go_ret
      exact ⟨rfl, HR.out.f0 hf, World.grownBy.refl _ _⟩
    | false =>
      have e : readAtV pk p S = (0, 1) := by rw [readAtV, hok]; rfl
      have g' : getV pk p S = 0 := by simp [getV, hok]
      rw [hok, g'] at HG
      rw [e]
      have HGG : Hid (Calls Try.prog 101 #[.slice b pk.length cb, .int .i64 (p : Int), .int .i64 (S : Int)] w fun e w' => e = .returned (.tuple #[.int .u32 ((0 : Nat) : Int), .bool false]) ∧ w = w') := HG
      clear HG hC g'
      go_enter Try.func99, Try.ntmps99
      go_wp2_with fail
      refine HGG.out.mono ?_
      rintro e w' ⟨rfl, rfl⟩
      go_wp2
      go_ret
      exact ⟨rfl, HR.out.setF 1, grown_set1 _ _ _⟩
  · have h' : (pk.length : Int) ≤ (p : Int) := by omega
    have hok : okB pk.length p S = false := by
      cases hb : okB pk.length p S with
      | false => rfl
      | true => have := okB_yes hb; omega
    have e : readAtV pk p S = (0, 1) := by rw [readAtV, hok]; rfl
    rw [e]
    clear hC
    go_enter Try.func99, Try.ntmps99
    go_wp2
    go_ret
    exact ⟨rfl, HR.out.setF 1, grown_set1 _ _ _⟩

set_option maxHeartbeats 400000 in
theorem fromX_any (g k : Nat) (R : Rn) (w : World) (hr : RAt w g R) (hk : k ≤ 4294967295) (hM : R.M.ok) :
    Calls Try.prog 100 #[.pointer (some ⟨g, 0, none⟩), .int .u32 (k : Int)] w fun e w' => e = .returned (.int .u64 ((k + R.M.x : Nat) : Int)) ∧ w = w' := by
  have c1 := hr.x
  have hx := hM.2.1
  clear hr
  go_enter Try.func100, Try.ntmps100
  go_wp2
  go_ret
  exact ⟨ret_int (by omega), rfl⟩

set_option maxHeartbeats 1000000 in
theorem deed_wordAt (b : Option Addr) (cb : Nat) (pk : List UInt8) (g k : Nat) (R : Rn) (w : World) (hr : RAt w g R) (hk : k ≤ 4294967295) (hM : R.M.ok) (hpk : R.pk = .slice b pk.length cb) (hC : Cells w b pk) (hl : pk.length ≤ 65536) (hf : R.f = 0) :
    Calls Try.prog 66 #[.pointer (some ⟨g, 0, none⟩), .int .u32 (k : Int)] w fun e w' => DeedPost w g R ⟨(readAtV pk k 4).1, R.M.x, R.M.m⟩ (readAtV pk k 4).2 e w' := by
  have _hk : k ≤ 4294967295 := hk
  have _hM := hM
  have HL := vmload_any b cb pk g k 4 R w hr hpk hC hl hf
  generalize readAtV pk k 4 = r at *
  obtain ⟨rv, rf⟩ := r
  simp only at HL ⊢
  have HLL : Hid (Calls Try.prog 99 #[.pointer (some ⟨g, 0, none⟩), .int .u64 (k : Int), .int .i64 4] w fun e w' => e = .returned (.int .u32 (rv : Int)) ∧ RAt w' g { R with f := rf } ∧ w.grownBy w' (some g)) := HL
  clear HL hr hC
  go_enter Try.func66, Try.ntmps66
  go_wp2_with fail
  refine HLL.out.mono ?_
  rintro e w1 ⟨rfl, R1, G1⟩
  have HR1 : Hid (RAt w1 g { R with f := rf }) := R1
  have c0 := R1.a
  have c1 := R1.x
  have f0 := R1.free 0
  have HG1 : Hid (w.grownBy w1 (some g)) := G1
  clear R1 G1
  go_wp2
  (try simp only [Exit.inBlock, Exit.then]); (first | refine bodyPost_end (results_none rfl _ _ _) rfl ?_ | refine bodyPost_ret (results_none rfl _ _ _) rfl ?_)
  exact ⟨rfl, HR1.out.setA' _ (by rfl), grown_trans HG1.out (grown_set1 _ _ _)⟩

set_option maxHeartbeats 1000000 in
theorem deed_halfAt (b : Option Addr) (cb : Nat) (pk : List UInt8) (g k : Nat) (R : Rn) (w : World) (hr : RAt w g R) (hk : k ≤ 4294967295) (hM : R.M.ok) (hpk : R.pk = .slice b pk.length cb) (hC : Cells w b pk) (hl : pk.length ≤ 65536) (hf : R.f = 0) :
    Calls Try.prog 67 #[.pointer (some ⟨g, 0, none⟩), .int .u32 (k : Int)] w fun e w' => DeedPost w g R ⟨(readAtV pk k 2).1, R.M.x, R.M.m⟩ (readAtV pk k 2).2 e w' := by
  have _hk : k ≤ 4294967295 := hk
  have _hM := hM
  have HL := vmload_any b cb pk g k 2 R w hr hpk hC hl hf
  generalize readAtV pk k 2 = r at *
  obtain ⟨rv, rf⟩ := r
  simp only at HL ⊢
  have HLL : Hid (Calls Try.prog 99 #[.pointer (some ⟨g, 0, none⟩), .int .u64 (k : Int), .int .i64 2] w fun e w' => e = .returned (.int .u32 (rv : Int)) ∧ RAt w' g { R with f := rf } ∧ w.grownBy w' (some g)) := HL
  clear HL hr hC
  go_enter Try.func67, Try.ntmps67
  go_wp2_with fail
  refine HLL.out.mono ?_
  rintro e w1 ⟨rfl, R1, G1⟩
  have HR1 : Hid (RAt w1 g { R with f := rf }) := R1
  have c0 := R1.a
  have c1 := R1.x
  have f0 := R1.free 0
  have HG1 : Hid (w.grownBy w1 (some g)) := G1
  clear R1 G1
  go_wp2
  (try simp only [Exit.inBlock, Exit.then]); (first | refine bodyPost_end (results_none rfl _ _ _) rfl ?_ | refine bodyPost_ret (results_none rfl _ _ _) rfl ?_)
  exact ⟨rfl, HR1.out.setA' _ (by rfl), grown_trans HG1.out (grown_set1 _ _ _)⟩

set_option maxHeartbeats 1000000 in
theorem deed_byteAt (b : Option Addr) (cb : Nat) (pk : List UInt8) (g k : Nat) (R : Rn) (w : World) (hr : RAt w g R) (hk : k ≤ 4294967295) (hM : R.M.ok) (hpk : R.pk = .slice b pk.length cb) (hC : Cells w b pk) (hl : pk.length ≤ 65536) (hf : R.f = 0) :
    Calls Try.prog 68 #[.pointer (some ⟨g, 0, none⟩), .int .u32 (k : Int)] w fun e w' => DeedPost w g R ⟨(readAtV pk k 1).1, R.M.x, R.M.m⟩ (readAtV pk k 1).2 e w' := by
  have _hk : k ≤ 4294967295 := hk
  have _hM := hM
  have HL := vmload_any b cb pk g k 1 R w hr hpk hC hl hf
  generalize readAtV pk k 1 = r at *
  obtain ⟨rv, rf⟩ := r
  simp only at HL ⊢
  have HLL : Hid (Calls Try.prog 99 #[.pointer (some ⟨g, 0, none⟩), .int .u64 (k : Int), .int .i64 1] w fun e w' => e = .returned (.int .u32 (rv : Int)) ∧ RAt w' g { R with f := rf } ∧ w.grownBy w' (some g)) := HL
  clear HL hr hC
  go_enter Try.func68, Try.ntmps68
  go_wp2_with fail
  refine HLL.out.mono ?_
  rintro e w1 ⟨rfl, R1, G1⟩
  have HR1 : Hid (RAt w1 g { R with f := rf }) := R1
  have c0 := R1.a
  have c1 := R1.x
  have f0 := R1.free 0
  have HG1 : Hid (w.grownBy w1 (some g)) := G1
  clear R1 G1
  go_wp2
  (try simp only [Exit.inBlock, Exit.then]); (first | refine bodyPost_end (results_none rfl _ _ _) rfl ?_ | refine bodyPost_ret (results_none rfl _ _ _) rfl ?_)
  exact ⟨rfl, HR1.out.setA' _ (by rfl), grown_trans HG1.out (grown_set1 _ _ _)⟩

set_option maxHeartbeats 1000000 in
theorem deed_wordFromX (b : Option Addr) (cb : Nat) (pk : List UInt8) (g k : Nat) (R : Rn) (w : World) (hr : RAt w g R) (hk : k ≤ 4294967295) (hM : R.M.ok) (hpk : R.pk = .slice b pk.length cb) (hC : Cells w b pk) (hl : pk.length ≤ 65536) (hf : R.f = 0) :
    Calls Try.prog 69 #[.pointer (some ⟨g, 0, none⟩), .int .u32 (k : Int)] w fun e w' => DeedPost w g R ⟨(readAtV pk (k + R.M.x) 4).1, R.M.x, R.M.m⟩ (readAtV pk (k + R.M.x) 4).2 e w' := by
  have _hk : k ≤ 4294967295 := hk
  have _hM := hM
  have HL := vmload_any b cb pk g (k + R.M.x) 4 R w hr hpk hC hl hf
  have HX := fromX_any g k R w hr hk hM
  have hx := hM.2.1
  obtain ⟨p, hp⟩ : ∃ p, k + R.M.x = p := ⟨_, rfl⟩
  rw [hp] at HL HX
  rw [hp]
  have HXX : Hid (Calls Try.prog 100 #[.pointer (some ⟨g, 0, none⟩), .int .u32 (k : Int)] w fun e w' => e = .returned (.int .u64 (p : Int)) ∧ w = w') := HX
  clear HX hp
  generalize readAtV pk p 4 = r at *
  obtain ⟨rv, rf⟩ := r
  simp only at HL ⊢
  have HLL : Hid (Calls Try.prog 99 #[.pointer (some ⟨g, 0, none⟩), .int .u64 (p : Int), .int .i64 4] w fun e w' => e = .returned (.int .u32 (rv : Int)) ∧ RAt w' g { R with f := rf } ∧ w.grownBy w' (some g)) := HL
  clear HL hr hC
  go_enter Try.func69, Try.ntmps69
  go_wp2_with fail
  refine HXX.out.mono ?_
  rintro e w' ⟨rfl, rfl⟩
  go_wp2_with fail
  refine HLL.out.mono ?_
  rintro e w1 ⟨rfl, R1, G1⟩
  have HR1 : Hid (RAt w1 g { R with f := rf }) := R1
  have c0 := R1.a
  have c1 := R1.x
  have f0 := R1.free 0
  have HG1 : Hid (w.grownBy w1 (some g)) := G1
  clear R1 G1
  go_wp2
  (try simp only [Exit.inBlock, Exit.then]); (first | refine bodyPost_end (results_none rfl _ _ _) rfl ?_ | refine bodyPost_ret (results_none rfl _ _ _) rfl ?_)
  exact ⟨rfl, HR1.out.setA' _ (by rfl), grown_trans HG1.out (grown_set1 _ _ _)⟩

set_option maxHeartbeats 1000000 in
theorem deed_halfFromX (b : Option Addr) (cb : Nat) (pk : List UInt8) (g k : Nat) (R : Rn) (w : World) (hr : RAt w g R) (hk : k ≤ 4294967295) (hM : R.M.ok) (hpk : R.pk = .slice b pk.length cb) (hC : Cells w b pk) (hl : pk.length ≤ 65536) (hf : R.f = 0) :
    Calls Try.prog 70 #[.pointer (some ⟨g, 0, none⟩), .int .u32 (k : Int)] w fun e w' => DeedPost w g R ⟨(readAtV pk (k + R.M.x) 2).1, R.M.x, R.M.m⟩ (readAtV pk (k + R.M.x) 2).2 e w' := by
  have _hk : k ≤ 4294967295 := hk
  have _hM := hM
  have HL := vmload_any b cb pk g (k + R.M.x) 2 R w hr hpk hC hl hf
  have HX := fromX_any g k R w hr hk hM
  have hx := hM.2.1
  obtain ⟨p, hp⟩ : ∃ p, k + R.M.x = p := ⟨_, rfl⟩
  rw [hp] at HL HX
  rw [hp]
  have HXX : Hid (Calls Try.prog 100 #[.pointer (some ⟨g, 0, none⟩), .int .u32 (k : Int)] w fun e w' => e = .returned (.int .u64 (p : Int)) ∧ w = w') := HX
  clear HX hp
  generalize readAtV pk p 2 = r at *
  obtain ⟨rv, rf⟩ := r
  simp only at HL ⊢
  have HLL : Hid (Calls Try.prog 99 #[.pointer (some ⟨g, 0, none⟩), .int .u64 (p : Int), .int .i64 2] w fun e w' => e = .returned (.int .u32 (rv : Int)) ∧ RAt w' g { R with f := rf } ∧ w.grownBy w' (some g)) := HL
  clear HL hr hC
  go_enter Try.func70, Try.ntmps70
  go_wp2_with fail
  refine HXX.out.mono ?_
  rintro e w' ⟨rfl, rfl⟩
  go_wp2_with fail
  refine HLL.out.mono ?_
  rintro e w1 ⟨rfl, R1, G1⟩
  have HR1 : Hid (RAt w1 g { R with f := rf }) := R1
  have c0 := R1.a
  have c1 := R1.x
  have f0 := R1.free 0
  have HG1 : Hid (w.grownBy w1 (some g)) := G1
  clear R1 G1
  go_wp2
  (try simp only [Exit.inBlock, Exit.then]); (first | refine bodyPost_end (results_none rfl _ _ _) rfl ?_ | refine bodyPost_ret (results_none rfl _ _ _) rfl ?_)
  exact ⟨rfl, HR1.out.setA' _ (by rfl), grown_trans HG1.out (grown_set1 _ _ _)⟩

set_option maxHeartbeats 1000000 in
theorem deed_byteFromX (b : Option Addr) (cb : Nat) (pk : List UInt8) (g k : Nat) (R : Rn) (w : World) (hr : RAt w g R) (hk : k ≤ 4294967295) (hM : R.M.ok) (hpk : R.pk = .slice b pk.length cb) (hC : Cells w b pk) (hl : pk.length ≤ 65536) (hf : R.f = 0) :
    Calls Try.prog 71 #[.pointer (some ⟨g, 0, none⟩), .int .u32 (k : Int)] w fun e w' => DeedPost w g R ⟨(readAtV pk (k + R.M.x) 1).1, R.M.x, R.M.m⟩ (readAtV pk (k + R.M.x) 1).2 e w' := by
  have _hk : k ≤ 4294967295 := hk
  have _hM := hM
  have HL := vmload_any b cb pk g (k + R.M.x) 1 R w hr hpk hC hl hf
  have HX := fromX_any g k R w hr hk hM
  have hx := hM.2.1
  obtain ⟨p, hp⟩ : ∃ p, k + R.M.x = p := ⟨_, rfl⟩
  rw [hp] at HL HX
  rw [hp]
  have HXX : Hid (Calls Try.prog 100 #[.pointer (some ⟨g, 0, none⟩), .int .u32 (k : Int)] w fun e w' => e = .returned (.int .u64 (p : Int)) ∧ w = w') := HX
  clear HX hp
  generalize readAtV pk p 1 = r at *
  obtain ⟨rv, rf⟩ := r
  simp only at HL ⊢
  have HLL : Hid (Calls Try.prog 99 #[.pointer (some ⟨g, 0, none⟩), .int .u64 (p : Int), .int .i64 1] w fun e w' => e = .returned (.int .u32 (rv : Int)) ∧ RAt w' g { R with f := rf } ∧ w.grownBy w' (some g)) := HL
  clear HL hr hC
  go_enter Try.func71, Try.ntmps71
  go_wp2_with fail
  refine HXX.out.mono ?_
  rintro e w' ⟨rfl, rfl⟩
  go_wp2_with fail
  refine HLL.out.mono ?_
  rintro e w1 ⟨rfl, R1, G1⟩
  have HR1 : Hid (RAt w1 g { R with f := rf }) := R1
  have c0 := R1.a
  have c1 := R1.x
  have f0 := R1.free 0
  have HG1 : Hid (w.grownBy w1 (some g)) := G1
  clear R1 G1
  go_wp2
  (try simp only [Exit.inBlock, Exit.then]); (first | refine bodyPost_end (results_none rfl _ _ _) rfl ?_ | refine bodyPost_ret (results_none rfl _ _ _) rfl ?_)
  exact ⟨rfl, HR1.out.setA' _ (by rfl), grown_trans HG1.out (grown_set1 _ _ _)⟩

set_option maxHeartbeats 1000000 in
theorem deed_headerAt (b : Option Addr) (cb : Nat) (pk : List UInt8) (g k : Nat) (R : Rn) (w : World) (hr : RAt w g R) (hk : k ≤ 4294967295) (hM : R.M.ok) (hpk : R.pk = .slice b pk.length cb) (hC : Cells w b pk) (hl : pk.length ≤ 65536) (hf : R.f = 0) :
    Calls Try.prog 75 #[.pointer (some ⟨g, 0, none⟩), .int .u32 (k : Int)] w fun e w' => DeedPost w g R ⟨R.M.a, 4 * ((readAtV pk k 1).1 % 16), R.M.m⟩ (readAtV pk k 1).2 e w' := by
  have _hk : k ≤ 4294967295 := hk
  have _hM := hM
  have HL := vmload_any b cb pk g k 1 R w hr hpk hC hl hf
  have hb1 := readAtV_le pk k 1 (by omega)
  have ha15 := vand15 (readAtV pk k 1).1 hb1
  generalize readAtV pk k 1 = r at *
  obtain ⟨rv, rf⟩ := r
  simp only at HL hb1 ha15 ⊢
  have HLL : Hid (Calls Try.prog 99 #[.pointer (some ⟨g, 0, none⟩), .int .u64 (k : Int), .int .i64 1] w fun e w' => e = .returned (.int .u32 (rv : Int)) ∧ RAt w' g { R with f := rf } ∧ w.grownBy w' (some g)) := HL
  clear HL hr hC
  go_enter Try.func75, Try.ntmps75
  go_wp2_with fail
  refine HLL.out.mono ?_
  rintro e w1 ⟨rfl, R1, G1⟩
  have HR1 : Hid (RAt w1 g { R with f := rf }) := R1
  have c0 := R1.a
  have c1 := R1.x
  have f0 := R1.free 1
  have HG1 : Hid (w.grownBy w1 (some g)) := G1
  clear R1 G1
  go_wp2
  (try simp only [Exit.inBlock, Exit.then]); (first | refine bodyPost_end (results_none rfl _ _ _) rfl ?_ | refine bodyPost_ret (results_none rfl _ _ _) rfl ?_)
  exact ⟨rfl, HR1.out.setX' _ (by omega), grown_trans HG1.out (grown_set1 _ _ _)⟩

end Go.Proofs.Ytencoknpocipbaa
