/-
  The landed machine: what stands in its table of deeds; Do of every code.
-/
import Derived.Test.YtencoknpocipbaaGreatLotP33
namespace Go.Proofs.YtencoknpocipbaaGreat
open Go.RowKit
set_option maxRecDepth 100000

/-- The deeds, by their codes. -/
def deedT : List (Nat × Value) :=
  [(0, .func (.methodOf 125 "riddle/machine.setA") #[] #[]),
   (1, .func (.methodOf 125 "riddle/machine.setX") #[] #[]),
   (2, .func (.methodOf 125 "riddle/machine.keepA") #[] #[]),
   (3, .func (.methodOf 125 "riddle/machine.keepX") #[] #[]),
   (4, .func (.methodOf 125 "riddle/machine.add") #[] #[]),
   (7, .func (.methodOf 125 "riddle/machine.copyToX") #[] #[]),
   (12, .func (.methodOf 125 "riddle/machine.add") #[] #[]),
   (20, .func (.methodOf 125 "riddle/machine.subtract") #[] #[]),
   (28, .func (.methodOf 125 "riddle/machine.subtract") #[] #[]),
   (32, .func (.func 64) #[] #[]),
   (36, .func (.methodOf 125 "riddle/machine.multiply") #[] #[]),
   (40, .func (.func 65) #[] #[]),
   (44, .func (.methodOf 125 "riddle/machine.multiply") #[] #[]),
   (48, .func (.func 66) #[] #[]),
   (52, .func (.func 79) #[] #[]),
   (60, .func (.func 79) #[] #[]),
   (64, .func (.func 67) #[] #[]),
   (68, .func (.methodOf 125 "riddle/machine.or") #[] #[]),
   (72, .func (.func 68) #[] #[]),
   (76, .func (.methodOf 125 "riddle/machine.or") #[] #[]),
   (80, .func (.func 69) #[] #[]),
   (84, .func (.methodOf 125 "riddle/machine.and") #[] #[]),
   (92, .func (.methodOf 125 "riddle/machine.and") #[] #[]),
   (96, .func (.methodOf 125 "riddle/machine.recallA") #[] #[]),
   (97, .func (.methodOf 125 "riddle/machine.recallX") #[] #[]),
   (100, .func (.methodOf 125 "riddle/machine.shiftLeft") #[] #[]),
   (108, .func (.methodOf 125 "riddle/machine.shiftLeft") #[] #[]),
   (116, .func (.methodOf 125 "riddle/machine.shiftRight") #[] #[]),
   (124, .func (.methodOf 125 "riddle/machine.shiftRight") #[] #[]),
   (128, .func (.func 63) #[] #[]),
   (129, .func (.func 72) #[] #[]),
   (132, .func (.methodOf 125 "riddle/machine.negate") #[] #[]),
   (135, .func (.methodOf 125 "riddle/machine.copyToA") #[] #[]),
   (148, .func (.func 80) #[] #[]),
   (156, .func (.func 80) #[] #[]),
   (164, .func (.methodOf 125 "riddle/machine.xor") #[] #[]),
   (172, .func (.methodOf 125 "riddle/machine.xor") #[] #[]),
   (177, .func (.func 73) #[] #[])]
/-- A block of one kind of cells. -/
def Kind (w : World) (d t : Nat) : Prop := ∃ cs, GVt w d t cs
theorem Kind.grown {w w' : World} {d t : Nat} {row : Option Nat} (h : Kind w d t) (G : w.grownBy w' row) (hr : some d ≠ row) : Kind w' d t := by
  obtain ⟨cs, hc⟩ := h
  exact ⟨cs, hc.grown G (Ne.symm hr)⟩
/-- They lie in a block. -/
def DTab (w : World) (d : Nat) : Prop := Kind w d 129 ∧ ∀ r ∈ deedT, w.cell? ⟨d, r.1, none⟩ = some r.2
theorem DTab.grown {w w' : World} {d : Nat} {row : Option Nat} (h : DTab w d) (G : w.grownBy w' row) (hr : some d ≠ row) : DTab w' d := ⟨h.1.grown G hr, fun r m => G.cell (h.2 r m) hr⟩

/-- What Do is to leave, of a code. -/
abbrev DoIs (w : World) (g : Nat) (R : Rn) (pk : List UInt8) (c k : Nat) (e : Ending) (w' : World) : Prop := DoPost w g R (fun M => (stepV (c : Int) k pk R.M).2 = 0 → M = (stepV (c : Int) k pk R.M).1) (stepV (c : Int) k pk R.M).2 e w'
theorem RAt.fIs {w : World} {g : Nat} {R : Rn} {M : Mc} (h : RAt w g { R with M := M, f := R.f }) (hf : R.f = 0) : RAt w g { R with M := M, f := 0 } := by
  rw [hf] at h
  exact h

set_option maxHeartbeats 400000 in
theorem do_0 (b : Option Addr) (cb : Nat) (pk : List UInt8) (g d t f k : Nat) (R : Rn) (w : World) (hr : RAt w g R) (hd : R.d = .slice (some ⟨d, 0, none⟩) 178 178) (hdg : d ≠ g) (T : DTab w d) (hpk : R.pk = .slice b pk.length cb) (hC : Cells w b pk) (hl : pk.length ≤ 65536) (hf : R.f = 0) (hM : R.M.ok) (hk : k ≤ 4294967295) :
    Calls Tryz.prog 42 #[.pointer (some ⟨g, 0, none⟩), .agg #[.int .u16 ((0 : Nat) : Int), .int .u8 (t : Int), .int .u8 (f : Int), .int .u32 (k : Int)]] w fun e w' => DoIs w g R pk 0 k e w' := by
  have _h := And.intro hpk (And.intro hC (And.intro hl (And.intro hf (And.intro hM hk))))
  have e : stepV ((0 : Nat) : Int) k pk R.M = (⟨k, R.M.x, R.M.m⟩, 0) := by simp [stepV]
  unfold DoIs
  rw [e]
  refine do_meth g d 0 t f k 61 k "riddle/machine.setA" R _ _ w hr hd (by omega) hdg (T.2 (0, .func (.methodOf 125 "riddle/machine.setA") #[] #[]) (by simp [deedT])) (fun W => by kernel_rfl) (enters_of Tryz.func61 (by kernel_rfl) rfl) (by rw [byV, show usesK ((0 : Nat) : Int) = true by rfl]; rfl) (fun W K h => ?_)
  refine (deed_setA g k R W h hk hM).mono ?_
  rintro e w' ⟨rfl, r, G⟩
  exact ⟨rfl, _, fun _ => rfl, r.fIs hf, G⟩

set_option maxHeartbeats 400000 in
theorem do_1 (b : Option Addr) (cb : Nat) (pk : List UInt8) (g d t f k : Nat) (R : Rn) (w : World) (hr : RAt w g R) (hd : R.d = .slice (some ⟨d, 0, none⟩) 178 178) (hdg : d ≠ g) (T : DTab w d) (hpk : R.pk = .slice b pk.length cb) (hC : Cells w b pk) (hl : pk.length ≤ 65536) (hf : R.f = 0) (hM : R.M.ok) (hk : k ≤ 4294967295) :
    Calls Tryz.prog 42 #[.pointer (some ⟨g, 0, none⟩), .agg #[.int .u16 ((1 : Nat) : Int), .int .u8 (t : Int), .int .u8 (f : Int), .int .u32 (k : Int)]] w fun e w' => DoIs w g R pk 1 k e w' := by
  have _h := And.intro hpk (And.intro hC (And.intro hl (And.intro hf (And.intro hM hk))))
  have e : stepV ((1 : Nat) : Int) k pk R.M = (⟨R.M.a, k, R.M.m⟩, 0) := by simp [stepV]
  unfold DoIs
  rw [e]
  refine do_meth g d 1 t f k 70 k "riddle/machine.setX" R _ _ w hr hd (by omega) hdg (T.2 (1, .func (.methodOf 125 "riddle/machine.setX") #[] #[]) (by simp [deedT])) (fun W => by kernel_rfl) (enters_of Tryz.func70 (by kernel_rfl) rfl) (by rw [byV, show usesK ((1 : Nat) : Int) = true by rfl]; rfl) (fun W K h => ?_)
  refine (deed_setX g k R W h hk hM).mono ?_
  rintro e w' ⟨rfl, r, G⟩
  exact ⟨rfl, _, fun _ => rfl, r.fIs hf, G⟩

set_option maxHeartbeats 400000 in
theorem do_2 (b : Option Addr) (cb : Nat) (pk : List UInt8) (g d t f k : Nat) (R : Rn) (w : World) (hr : RAt w g R) (hd : R.d = .slice (some ⟨d, 0, none⟩) 178 178) (hdg : d ≠ g) (T : DTab w d) (hpk : R.pk = .slice b pk.length cb) (hC : Cells w b pk) (hl : pk.length ≤ 65536) (hf : R.f = 0) (hM : R.M.ok) (hk : k ≤ 4294967295) (hq : k < 16) :
    Calls Tryz.prog 42 #[.pointer (some ⟨g, 0, none⟩), .agg #[.int .u16 ((2 : Nat) : Int), .int .u8 (t : Int), .int .u8 (f : Int), .int .u32 (k : Int)]] w fun e w' => DoIs w g R pk 2 k e w' := by
  have _h := And.intro hpk (And.intro hC (And.intro hl (And.intro hf (And.intro hM hk))))
  have hq2 : k % 16 = k := Nat.mod_eq_of_lt hq
  have e : stepV ((2 : Nat) : Int) k pk R.M = (⟨R.M.a, R.M.x, R.M.m.set k R.M.a⟩, 0) := by simp [stepV, hq2]
  unfold DoIs
  rw [e]
  refine do_meth g d 2 t f k 74 k "riddle/machine.keepA" R _ _ w hr hd (by omega) hdg (T.2 (2, .func (.methodOf 125 "riddle/machine.keepA") #[] #[]) (by simp [deedT])) (fun W => by kernel_rfl) (enters_of Tryz.func74 (by kernel_rfl) rfl) (by rw [byV, show usesK ((2 : Nat) : Int) = true by rfl]; rfl) (fun W K h => ?_)
  refine (deed_keepA g k R W h hk hM hq).mono ?_
  rintro e w' ⟨rfl, r, G⟩
  exact ⟨rfl, _, fun _ => rfl, r.fIs hf, G⟩

set_option maxHeartbeats 400000 in
theorem do_3 (b : Option Addr) (cb : Nat) (pk : List UInt8) (g d t f k : Nat) (R : Rn) (w : World) (hr : RAt w g R) (hd : R.d = .slice (some ⟨d, 0, none⟩) 178 178) (hdg : d ≠ g) (T : DTab w d) (hpk : R.pk = .slice b pk.length cb) (hC : Cells w b pk) (hl : pk.length ≤ 65536) (hf : R.f = 0) (hM : R.M.ok) (hk : k ≤ 4294967295) (hq : k < 16) :
    Calls Tryz.prog 42 #[.pointer (some ⟨g, 0, none⟩), .agg #[.int .u16 ((3 : Nat) : Int), .int .u8 (t : Int), .int .u8 (f : Int), .int .u32 (k : Int)]] w fun e w' => DoIs w g R pk 3 k e w' := by
  have _h := And.intro hpk (And.intro hC (And.intro hl (And.intro hf (And.intro hM hk))))
  have hq2 : k % 16 = k := Nat.mod_eq_of_lt hq
  have e : stepV ((3 : Nat) : Int) k pk R.M = (⟨R.M.a, R.M.x, R.M.m.set k R.M.x⟩, 0) := by simp [stepV, hq2]
  unfold DoIs
  rw [e]
  refine do_meth g d 3 t f k 75 k "riddle/machine.keepX" R _ _ w hr hd (by omega) hdg (T.2 (3, .func (.methodOf 125 "riddle/machine.keepX") #[] #[]) (by simp [deedT])) (fun W => by kernel_rfl) (enters_of Tryz.func75 (by kernel_rfl) rfl) (by rw [byV, show usesK ((3 : Nat) : Int) = true by rfl]; rfl) (fun W K h => ?_)
  refine (deed_keepX g k R W h hk hM hq).mono ?_
  rintro e w' ⟨rfl, r, G⟩
  exact ⟨rfl, _, fun _ => rfl, r.fIs hf, G⟩

set_option maxHeartbeats 400000 in
theorem do_7 (b : Option Addr) (cb : Nat) (pk : List UInt8) (g d t f k : Nat) (R : Rn) (w : World) (hr : RAt w g R) (hd : R.d = .slice (some ⟨d, 0, none⟩) 178 178) (hdg : d ≠ g) (T : DTab w d) (hpk : R.pk = .slice b pk.length cb) (hC : Cells w b pk) (hl : pk.length ≤ 65536) (hf : R.f = 0) (hM : R.M.ok) (hk : k ≤ 4294967295) :
    Calls Tryz.prog 42 #[.pointer (some ⟨g, 0, none⟩), .agg #[.int .u16 ((7 : Nat) : Int), .int .u8 (t : Int), .int .u8 (f : Int), .int .u32 (k : Int)]] w fun e w' => DoIs w g R pk 7 k e w' := by
  have _h := And.intro hpk (And.intro hC (And.intro hl (And.intro hf (And.intro hM hk))))
  have e : stepV ((7 : Nat) : Int) k pk R.M = (⟨R.M.a, R.M.a, R.M.m⟩, 0) := by simp [stepV]
  unfold DoIs
  rw [e]
  refine do_meth g d 7 t f k 87 R.M.x "riddle/machine.copyToX" R _ _ w hr hd (by omega) hdg (T.2 (7, .func (.methodOf 125 "riddle/machine.copyToX") #[] #[]) (by simp [deedT])) (fun W => by kernel_rfl) (enters_of Tryz.func87 (by kernel_rfl) rfl) (by rw [byV, show usesK ((7 : Nat) : Int) = false by rfl]; rfl) (fun W K h => ?_)
  refine (deed_copyToX g R.M.x R W h hM.2.1 hM).mono ?_
  rintro e w' ⟨rfl, r, G⟩
  exact ⟨rfl, _, fun _ => rfl, r.fIs hf, G⟩

set_option maxHeartbeats 400000 in
theorem do_96 (b : Option Addr) (cb : Nat) (pk : List UInt8) (g d t f k : Nat) (R : Rn) (w : World) (hr : RAt w g R) (hd : R.d = .slice (some ⟨d, 0, none⟩) 178 178) (hdg : d ≠ g) (T : DTab w d) (hpk : R.pk = .slice b pk.length cb) (hC : Cells w b pk) (hl : pk.length ≤ 65536) (hf : R.f = 0) (hM : R.M.ok) (hk : k ≤ 4294967295) (hq : k < 16) :
    Calls Tryz.prog 42 #[.pointer (some ⟨g, 0, none⟩), .agg #[.int .u16 ((96 : Nat) : Int), .int .u8 (t : Int), .int .u8 (f : Int), .int .u32 (k : Int)]] w fun e w' => DoIs w g R pk 96 k e w' := by
  have _h := And.intro hpk (And.intro hC (And.intro hl (And.intro hf (And.intro hM hk))))
  have hq2 : k % 16 = k := Nat.mod_eq_of_lt hq
  have e : stepV ((96 : Nat) : Int) k pk R.M = (⟨R.M.m.getD k 0, R.M.x, R.M.m⟩, 0) := by simp [stepV, hq2]
  unfold DoIs
  rw [e]
  refine do_meth g d 96 t f k 62 k "riddle/machine.recallA" R _ _ w hr hd (by omega) hdg (T.2 (96, .func (.methodOf 125 "riddle/machine.recallA") #[] #[]) (by simp [deedT])) (fun W => by kernel_rfl) (enters_of Tryz.func62 (by kernel_rfl) rfl) (by rw [byV, show usesK ((96 : Nat) : Int) = true by rfl]; rfl) (fun W K h => ?_)
  refine (deed_recallA g k R W h hk hM hq).mono ?_
  rintro e w' ⟨rfl, r, G⟩
  exact ⟨rfl, _, fun _ => rfl, r.fIs hf, G⟩

set_option maxHeartbeats 400000 in
theorem do_97 (b : Option Addr) (cb : Nat) (pk : List UInt8) (g d t f k : Nat) (R : Rn) (w : World) (hr : RAt w g R) (hd : R.d = .slice (some ⟨d, 0, none⟩) 178 178) (hdg : d ≠ g) (T : DTab w d) (hpk : R.pk = .slice b pk.length cb) (hC : Cells w b pk) (hl : pk.length ≤ 65536) (hf : R.f = 0) (hM : R.M.ok) (hk : k ≤ 4294967295) (hq : k < 16) :
    Calls Tryz.prog 42 #[.pointer (some ⟨g, 0, none⟩), .agg #[.int .u16 ((97 : Nat) : Int), .int .u8 (t : Int), .int .u8 (f : Int), .int .u32 (k : Int)]] w fun e w' => DoIs w g R pk 97 k e w' := by
  have _h := And.intro hpk (And.intro hC (And.intro hl (And.intro hf (And.intro hM hk))))
  have hq2 : k % 16 = k := Nat.mod_eq_of_lt hq
  have e : stepV ((97 : Nat) : Int) k pk R.M = (⟨R.M.a, R.M.m.getD k 0, R.M.m⟩, 0) := by simp [stepV, hq2]
  unfold DoIs
  rw [e]
  refine do_meth g d 97 t f k 71 k "riddle/machine.recallX" R _ _ w hr hd (by omega) hdg (T.2 (97, .func (.methodOf 125 "riddle/machine.recallX") #[] #[]) (by simp [deedT])) (fun W => by kernel_rfl) (enters_of Tryz.func71 (by kernel_rfl) rfl) (by rw [byV, show usesK ((97 : Nat) : Int) = true by rfl]; rfl) (fun W K h => ?_)
  refine (deed_recallX g k R W h hk hM hq).mono ?_
  rintro e w' ⟨rfl, r, G⟩
  exact ⟨rfl, _, fun _ => rfl, r.fIs hf, G⟩

set_option maxHeartbeats 400000 in
theorem do_128 (b : Option Addr) (cb : Nat) (pk : List UInt8) (g d t f k : Nat) (R : Rn) (w : World) (hr : RAt w g R) (hd : R.d = .slice (some ⟨d, 0, none⟩) 178 178) (hdg : d ≠ g) (T : DTab w d) (hpk : R.pk = .slice b pk.length cb) (hC : Cells w b pk) (hl : pk.length ≤ 65536) (hf : R.f = 0) (hM : R.M.ok) (hk : k ≤ 4294967295) :
    Calls Tryz.prog 42 #[.pointer (some ⟨g, 0, none⟩), .agg #[.int .u16 ((128 : Nat) : Int), .int .u8 (t : Int), .int .u8 (f : Int), .int .u32 (k : Int)]] w fun e w' => DoIs w g R pk 128 k e w' := by
  have _h := And.intro hpk (And.intro hC (And.intro hl (And.intro hf (And.intro hM hk))))
  have e : stepV ((128 : Nat) : Int) k pk R.M = (⟨pk.length, R.M.x, R.M.m⟩, 0) := by simp [stepV]
  unfold DoIs
  rw [e]
  refine do_fn g d 128 t f k 63 R.M.x R _ _ w hr hd (by omega) hdg (T.2 (128, .func (.func 63) #[] #[]) (by simp [deedT])) (enters_of Tryz.func63 (by kernel_rfl) rfl) (by rw [byV, show usesK ((128 : Nat) : Int) = false by rfl]; rfl) (fun W K h => ?_)
  refine (deed_lengthToA g R.M.x R W h hM.2.1 hM b pk.length cb hpk hl).mono ?_
  rintro e w' ⟨rfl, r, G⟩
  exact ⟨rfl, _, fun _ => rfl, r.fIs hf, G⟩

set_option maxHeartbeats 400000 in
theorem do_129 (b : Option Addr) (cb : Nat) (pk : List UInt8) (g d t f k : Nat) (R : Rn) (w : World) (hr : RAt w g R) (hd : R.d = .slice (some ⟨d, 0, none⟩) 178 178) (hdg : d ≠ g) (T : DTab w d) (hpk : R.pk = .slice b pk.length cb) (hC : Cells w b pk) (hl : pk.length ≤ 65536) (hf : R.f = 0) (hM : R.M.ok) (hk : k ≤ 4294967295) :
    Calls Tryz.prog 42 #[.pointer (some ⟨g, 0, none⟩), .agg #[.int .u16 ((129 : Nat) : Int), .int .u8 (t : Int), .int .u8 (f : Int), .int .u32 (k : Int)]] w fun e w' => DoIs w g R pk 129 k e w' := by
  have _h := And.intro hpk (And.intro hC (And.intro hl (And.intro hf (And.intro hM hk))))
  have e : stepV ((129 : Nat) : Int) k pk R.M = (⟨R.M.a, pk.length, R.M.m⟩, 0) := by simp [stepV]
  unfold DoIs
  rw [e]
  refine do_fn g d 129 t f k 72 R.M.x R _ _ w hr hd (by omega) hdg (T.2 (129, .func (.func 72) #[] #[]) (by simp [deedT])) (enters_of Tryz.func72 (by kernel_rfl) rfl) (by rw [byV, show usesK ((129 : Nat) : Int) = false by rfl]; rfl) (fun W K h => ?_)
  refine (deed_lengthToX g R.M.x R W h hM.2.1 hM b pk.length cb hpk hl).mono ?_
  rintro e w' ⟨rfl, r, G⟩
  exact ⟨rfl, _, fun _ => rfl, r.fIs hf, G⟩

set_option maxHeartbeats 400000 in
theorem do_132 (b : Option Addr) (cb : Nat) (pk : List UInt8) (g d t f k : Nat) (R : Rn) (w : World) (hr : RAt w g R) (hd : R.d = .slice (some ⟨d, 0, none⟩) 178 178) (hdg : d ≠ g) (T : DTab w d) (hpk : R.pk = .slice b pk.length cb) (hC : Cells w b pk) (hl : pk.length ≤ 65536) (hf : R.f = 0) (hM : R.M.ok) (hk : k ≤ 4294967295) :
    Calls Tryz.prog 42 #[.pointer (some ⟨g, 0, none⟩), .agg #[.int .u16 ((132 : Nat) : Int), .int .u8 (t : Int), .int .u8 (f : Int), .int .u32 (k : Int)]] w fun e w' => DoIs w g R pk 132 k e w' := by
  have _h := And.intro hpk (And.intro hC (And.intro hl (And.intro hf (And.intro hM hk))))
  have e : stepV ((132 : Nat) : Int) k pk R.M = (⟨(4294967296 - R.M.a) % 4294967296, R.M.x, R.M.m⟩, 0) := by simp [stepV]
  unfold DoIs
  rw [e]
  refine do_meth g d 132 t f k 86 R.M.x "riddle/machine.negate" R _ _ w hr hd (by omega) hdg (T.2 (132, .func (.methodOf 125 "riddle/machine.negate") #[] #[]) (by simp [deedT])) (fun W => by kernel_rfl) (enters_of Tryz.func86 (by kernel_rfl) rfl) (by rw [byV, show usesK ((132 : Nat) : Int) = false by rfl]; rfl) (fun W K h => ?_)
  refine (deed_negate g R.M.x R W h hM.2.1 hM).mono ?_
  rintro e w' ⟨rfl, r, G⟩
  exact ⟨rfl, _, fun _ => rfl, r.fIs hf, G⟩

set_option maxHeartbeats 400000 in
theorem do_135 (b : Option Addr) (cb : Nat) (pk : List UInt8) (g d t f k : Nat) (R : Rn) (w : World) (hr : RAt w g R) (hd : R.d = .slice (some ⟨d, 0, none⟩) 178 178) (hdg : d ≠ g) (T : DTab w d) (hpk : R.pk = .slice b pk.length cb) (hC : Cells w b pk) (hl : pk.length ≤ 65536) (hf : R.f = 0) (hM : R.M.ok) (hk : k ≤ 4294967295) :
    Calls Tryz.prog 42 #[.pointer (some ⟨g, 0, none⟩), .agg #[.int .u16 ((135 : Nat) : Int), .int .u8 (t : Int), .int .u8 (f : Int), .int .u32 (k : Int)]] w fun e w' => DoIs w g R pk 135 k e w' := by
  have _h := And.intro hpk (And.intro hC (And.intro hl (And.intro hf (And.intro hM hk))))
  have e : stepV ((135 : Nat) : Int) k pk R.M = (⟨R.M.x, R.M.x, R.M.m⟩, 0) := by simp [stepV]
  unfold DoIs
  rw [e]
  refine do_meth g d 135 t f k 88 R.M.x "riddle/machine.copyToA" R _ _ w hr hd (by omega) hdg (T.2 (135, .func (.methodOf 125 "riddle/machine.copyToA") #[] #[]) (by simp [deedT])) (fun W => by kernel_rfl) (enters_of Tryz.func88 (by kernel_rfl) rfl) (by rw [byV, show usesK ((135 : Nat) : Int) = false by rfl]; rfl) (fun W K h => ?_)
  refine (deed_copyToA g R.M.x R W h hM.2.1 hM).mono ?_
  rintro e w' ⟨rfl, r, G⟩
  exact ⟨rfl, _, fun _ => rfl, r.fIs hf, G⟩

set_option maxHeartbeats 400000 in
theorem do_32 (b : Option Addr) (cb : Nat) (pk : List UInt8) (g d t f k : Nat) (R : Rn) (w : World) (hr : RAt w g R) (hd : R.d = .slice (some ⟨d, 0, none⟩) 178 178) (hdg : d ≠ g) (T : DTab w d) (hpk : R.pk = .slice b pk.length cb) (hC : Cells w b pk) (hl : pk.length ≤ 65536) (hf : R.f = 0) (hM : R.M.ok) (hk : k ≤ 4294967295) :
    Calls Tryz.prog 42 #[.pointer (some ⟨g, 0, none⟩), .agg #[.int .u16 ((32 : Nat) : Int), .int .u8 (t : Int), .int .u8 (f : Int), .int .u32 (k : Int)]] w fun e w' => DoIs w g R pk 32 k e w' := by
  have _h := And.intro hpk (And.intro hC (And.intro hl (And.intro hf (And.intro hM hk))))
  have e : stepV ((32 : Nat) : Int) k pk R.M = (⟨(readAtV pk k 4).1, R.M.x, R.M.m⟩, (readAtV pk k 4).2) := by simp [stepV, sizeV]
  unfold DoIs
  rw [e]
  refine do_fn g d 32 t f k 64 k R _ _ w hr hd (by omega) hdg (T.2 (32, .func (.func 64) #[] #[]) (by simp [deedT])) (enters_of Tryz.func64 (by kernel_rfl) rfl) (by rw [byV, show usesK ((32 : Nat) : Int) = true by rfl]; rfl) (fun W K h => ?_)
  refine (deed_wordAt b cb pk g k R W h hk hM hpk (hC.keptNone K) hl hf).mono ?_
  rintro e w' ⟨rfl, r, G⟩
  exact ⟨rfl, _, fun _ => rfl, r, G⟩

set_option maxHeartbeats 400000 in
theorem do_40 (b : Option Addr) (cb : Nat) (pk : List UInt8) (g d t f k : Nat) (R : Rn) (w : World) (hr : RAt w g R) (hd : R.d = .slice (some ⟨d, 0, none⟩) 178 178) (hdg : d ≠ g) (T : DTab w d) (hpk : R.pk = .slice b pk.length cb) (hC : Cells w b pk) (hl : pk.length ≤ 65536) (hf : R.f = 0) (hM : R.M.ok) (hk : k ≤ 4294967295) :
    Calls Tryz.prog 42 #[.pointer (some ⟨g, 0, none⟩), .agg #[.int .u16 ((40 : Nat) : Int), .int .u8 (t : Int), .int .u8 (f : Int), .int .u32 (k : Int)]] w fun e w' => DoIs w g R pk 40 k e w' := by
  have _h := And.intro hpk (And.intro hC (And.intro hl (And.intro hf (And.intro hM hk))))
  have e : stepV ((40 : Nat) : Int) k pk R.M = (⟨(readAtV pk k 2).1, R.M.x, R.M.m⟩, (readAtV pk k 2).2) := by simp [stepV, sizeV]
  unfold DoIs
  rw [e]
  refine do_fn g d 40 t f k 65 k R _ _ w hr hd (by omega) hdg (T.2 (40, .func (.func 65) #[] #[]) (by simp [deedT])) (enters_of Tryz.func65 (by kernel_rfl) rfl) (by rw [byV, show usesK ((40 : Nat) : Int) = true by rfl]; rfl) (fun W K h => ?_)
  refine (deed_halfAt b cb pk g k R W h hk hM hpk (hC.keptNone K) hl hf).mono ?_
  rintro e w' ⟨rfl, r, G⟩
  exact ⟨rfl, _, fun _ => rfl, r, G⟩

set_option maxHeartbeats 400000 in
theorem do_48 (b : Option Addr) (cb : Nat) (pk : List UInt8) (g d t f k : Nat) (R : Rn) (w : World) (hr : RAt w g R) (hd : R.d = .slice (some ⟨d, 0, none⟩) 178 178) (hdg : d ≠ g) (T : DTab w d) (hpk : R.pk = .slice b pk.length cb) (hC : Cells w b pk) (hl : pk.length ≤ 65536) (hf : R.f = 0) (hM : R.M.ok) (hk : k ≤ 4294967295) :
    Calls Tryz.prog 42 #[.pointer (some ⟨g, 0, none⟩), .agg #[.int .u16 ((48 : Nat) : Int), .int .u8 (t : Int), .int .u8 (f : Int), .int .u32 (k : Int)]] w fun e w' => DoIs w g R pk 48 k e w' := by
  have _h := And.intro hpk (And.intro hC (And.intro hl (And.intro hf (And.intro hM hk))))
  have e : stepV ((48 : Nat) : Int) k pk R.M = (⟨(readAtV pk k 1).1, R.M.x, R.M.m⟩, (readAtV pk k 1).2) := by simp [stepV, sizeV]
  unfold DoIs
  rw [e]
  refine do_fn g d 48 t f k 66 k R _ _ w hr hd (by omega) hdg (T.2 (48, .func (.func 66) #[] #[]) (by simp [deedT])) (enters_of Tryz.func66 (by kernel_rfl) rfl) (by rw [byV, show usesK ((48 : Nat) : Int) = true by rfl]; rfl) (fun W K h => ?_)
  refine (deed_byteAt b cb pk g k R W h hk hM hpk (hC.keptNone K) hl hf).mono ?_
  rintro e w' ⟨rfl, r, G⟩
  exact ⟨rfl, _, fun _ => rfl, r, G⟩

set_option maxHeartbeats 400000 in
theorem do_64 (b : Option Addr) (cb : Nat) (pk : List UInt8) (g d t f k : Nat) (R : Rn) (w : World) (hr : RAt w g R) (hd : R.d = .slice (some ⟨d, 0, none⟩) 178 178) (hdg : d ≠ g) (T : DTab w d) (hpk : R.pk = .slice b pk.length cb) (hC : Cells w b pk) (hl : pk.length ≤ 65536) (hf : R.f = 0) (hM : R.M.ok) (hk : k ≤ 4294967295) :
    Calls Tryz.prog 42 #[.pointer (some ⟨g, 0, none⟩), .agg #[.int .u16 ((64 : Nat) : Int), .int .u8 (t : Int), .int .u8 (f : Int), .int .u32 (k : Int)]] w fun e w' => DoIs w g R pk 64 k e w' := by
  have _h := And.intro hpk (And.intro hC (And.intro hl (And.intro hf (And.intro hM hk))))
  have e : stepV ((64 : Nat) : Int) k pk R.M = (⟨(readAtV pk (k + R.M.x) 4).1, R.M.x, R.M.m⟩, (readAtV pk (k + R.M.x) 4).2) := by simp [stepV, sizeV]
  unfold DoIs
  rw [e]
  refine do_fn g d 64 t f k 67 k R _ _ w hr hd (by omega) hdg (T.2 (64, .func (.func 67) #[] #[]) (by simp [deedT])) (enters_of Tryz.func67 (by kernel_rfl) rfl) (by rw [byV, show usesK ((64 : Nat) : Int) = true by rfl]; rfl) (fun W K h => ?_)
  refine (deed_wordFromX b cb pk g k R W h hk hM hpk (hC.keptNone K) hl hf).mono ?_
  rintro e w' ⟨rfl, r, G⟩
  exact ⟨rfl, _, fun _ => rfl, r, G⟩

set_option maxHeartbeats 400000 in
theorem do_72 (b : Option Addr) (cb : Nat) (pk : List UInt8) (g d t f k : Nat) (R : Rn) (w : World) (hr : RAt w g R) (hd : R.d = .slice (some ⟨d, 0, none⟩) 178 178) (hdg : d ≠ g) (T : DTab w d) (hpk : R.pk = .slice b pk.length cb) (hC : Cells w b pk) (hl : pk.length ≤ 65536) (hf : R.f = 0) (hM : R.M.ok) (hk : k ≤ 4294967295) :
    Calls Tryz.prog 42 #[.pointer (some ⟨g, 0, none⟩), .agg #[.int .u16 ((72 : Nat) : Int), .int .u8 (t : Int), .int .u8 (f : Int), .int .u32 (k : Int)]] w fun e w' => DoIs w g R pk 72 k e w' := by
  have _h := And.intro hpk (And.intro hC (And.intro hl (And.intro hf (And.intro hM hk))))
  have e : stepV ((72 : Nat) : Int) k pk R.M = (⟨(readAtV pk (k + R.M.x) 2).1, R.M.x, R.M.m⟩, (readAtV pk (k + R.M.x) 2).2) := by simp [stepV, sizeV]
  unfold DoIs
  rw [e]
  refine do_fn g d 72 t f k 68 k R _ _ w hr hd (by omega) hdg (T.2 (72, .func (.func 68) #[] #[]) (by simp [deedT])) (enters_of Tryz.func68 (by kernel_rfl) rfl) (by rw [byV, show usesK ((72 : Nat) : Int) = true by rfl]; rfl) (fun W K h => ?_)
  refine (deed_halfFromX b cb pk g k R W h hk hM hpk (hC.keptNone K) hl hf).mono ?_
  rintro e w' ⟨rfl, r, G⟩
  exact ⟨rfl, _, fun _ => rfl, r, G⟩

set_option maxHeartbeats 400000 in
theorem do_80 (b : Option Addr) (cb : Nat) (pk : List UInt8) (g d t f k : Nat) (R : Rn) (w : World) (hr : RAt w g R) (hd : R.d = .slice (some ⟨d, 0, none⟩) 178 178) (hdg : d ≠ g) (T : DTab w d) (hpk : R.pk = .slice b pk.length cb) (hC : Cells w b pk) (hl : pk.length ≤ 65536) (hf : R.f = 0) (hM : R.M.ok) (hk : k ≤ 4294967295) :
    Calls Tryz.prog 42 #[.pointer (some ⟨g, 0, none⟩), .agg #[.int .u16 ((80 : Nat) : Int), .int .u8 (t : Int), .int .u8 (f : Int), .int .u32 (k : Int)]] w fun e w' => DoIs w g R pk 80 k e w' := by
  have _h := And.intro hpk (And.intro hC (And.intro hl (And.intro hf (And.intro hM hk))))
  have e : stepV ((80 : Nat) : Int) k pk R.M = (⟨(readAtV pk (k + R.M.x) 1).1, R.M.x, R.M.m⟩, (readAtV pk (k + R.M.x) 1).2) := by simp [stepV, sizeV]
  unfold DoIs
  rw [e]
  refine do_fn g d 80 t f k 69 k R _ _ w hr hd (by omega) hdg (T.2 (80, .func (.func 69) #[] #[]) (by simp [deedT])) (enters_of Tryz.func69 (by kernel_rfl) rfl) (by rw [byV, show usesK ((80 : Nat) : Int) = true by rfl]; rfl) (fun W K h => ?_)
  refine (deed_byteFromX b cb pk g k R W h hk hM hpk (hC.keptNone K) hl hf).mono ?_
  rintro e w' ⟨rfl, r, G⟩
  exact ⟨rfl, _, fun _ => rfl, r, G⟩

set_option maxHeartbeats 400000 in
theorem do_177 (b : Option Addr) (cb : Nat) (pk : List UInt8) (g d t f k : Nat) (R : Rn) (w : World) (hr : RAt w g R) (hd : R.d = .slice (some ⟨d, 0, none⟩) 178 178) (hdg : d ≠ g) (T : DTab w d) (hpk : R.pk = .slice b pk.length cb) (hC : Cells w b pk) (hl : pk.length ≤ 65536) (hf : R.f = 0) (hM : R.M.ok) (hk : k ≤ 4294967295) :
    Calls Tryz.prog 42 #[.pointer (some ⟨g, 0, none⟩), .agg #[.int .u16 ((177 : Nat) : Int), .int .u8 (t : Int), .int .u8 (f : Int), .int .u32 (k : Int)]] w fun e w' => DoIs w g R pk 177 k e w' := by
  have _h := And.intro hpk (And.intro hC (And.intro hl (And.intro hf (And.intro hM hk))))
  have e : stepV ((177 : Nat) : Int) k pk R.M = (⟨R.M.a, 4 * ((readAtV pk k 1).1 % 16), R.M.m⟩, (readAtV pk k 1).2) := by simp [stepV]
  unfold DoIs
  rw [e]
  refine do_fn g d 177 t f k 73 k R _ _ w hr hd (by omega) hdg (T.2 (177, .func (.func 73) #[] #[]) (by simp [deedT])) (enters_of Tryz.func73 (by kernel_rfl) rfl) (by rw [byV, show usesK ((177 : Nat) : Int) = true by rfl]; rfl) (fun W K h => ?_)
  refine (deed_headerAt b cb pk g k R W h hk hM hpk (hC.keptNone K) hl hf).mono ?_
  rintro e w' ⟨rfl, r, G⟩
  exact ⟨rfl, _, fun _ => rfl, r, G⟩

set_option maxHeartbeats 400000 in
theorem do_4 (b : Option Addr) (cb : Nat) (pk : List UInt8) (g d t f k : Nat) (R : Rn) (w : World) (hr : RAt w g R) (hd : R.d = .slice (some ⟨d, 0, none⟩) 178 178) (hdg : d ≠ g) (T : DTab w d) (hpk : R.pk = .slice b pk.length cb) (hC : Cells w b pk) (hl : pk.length ≤ 65536) (hf : R.f = 0) (hM : R.M.ok) (hk : k ≤ 4294967295) :
    Calls Tryz.prog 42 #[.pointer (some ⟨g, 0, none⟩), .agg #[.int .u16 ((4 : Nat) : Int), .int .u8 (t : Int), .int .u8 (f : Int), .int .u32 (k : Int)]] w fun e w' => DoIs w g R pk 4 k e w' := by
  have _h := And.intro hpk (And.intro hC (And.intro hl (And.intro hf (And.intro hM hk))))
  have hb : bits .andNot .u16 (4 : Int) 8 = 4 := by decide
  have hs : byxB 4 = false := by decide
  have e : stepV ((4 : Nat) : Int) k pk R.M = (⟨(R.M.a + k) % 4294967296, R.M.x, R.M.m⟩, 0) := by simp [stepV, operV, sideV, hb, hs]
  unfold DoIs
  rw [e]
  refine do_meth g d 4 t f k 76 k "riddle/machine.add" R _ _ w hr hd (by omega) hdg (T.2 (4, .func (.methodOf 125 "riddle/machine.add") #[] #[]) (by simp [deedT])) (fun W => by kernel_rfl) (enters_of Tryz.func76 (by kernel_rfl) rfl) (by rw [byV, show usesK ((4 : Nat) : Int) = true by rfl]; rfl) (fun W K h => ?_)
  refine (deed_add g k R W h hk hM).mono ?_
  rintro e w' ⟨rfl, r, G⟩
  exact ⟨rfl, _, fun _ => rfl, r.fIs hf, G⟩

set_option maxHeartbeats 400000 in
theorem do_12 (b : Option Addr) (cb : Nat) (pk : List UInt8) (g d t f k : Nat) (R : Rn) (w : World) (hr : RAt w g R) (hd : R.d = .slice (some ⟨d, 0, none⟩) 178 178) (hdg : d ≠ g) (T : DTab w d) (hpk : R.pk = .slice b pk.length cb) (hC : Cells w b pk) (hl : pk.length ≤ 65536) (hf : R.f = 0) (hM : R.M.ok) (hk : k ≤ 4294967295) :
    Calls Tryz.prog 42 #[.pointer (some ⟨g, 0, none⟩), .agg #[.int .u16 ((12 : Nat) : Int), .int .u8 (t : Int), .int .u8 (f : Int), .int .u32 (k : Int)]] w fun e w' => DoIs w g R pk 12 k e w' := by
  have _h := And.intro hpk (And.intro hC (And.intro hl (And.intro hf (And.intro hM hk))))
  have hb : bits .andNot .u16 (12 : Int) 8 = 4 := by decide
  have hs : byxB 12 = true := by decide
  have e : stepV ((12 : Nat) : Int) k pk R.M = (⟨(R.M.a + R.M.x) % 4294967296, R.M.x, R.M.m⟩, 0) := by simp [stepV, operV, sideV, hb, hs]
  unfold DoIs
  rw [e]
  refine do_meth g d 12 t f k 76 R.M.x "riddle/machine.add" R _ _ w hr hd (by omega) hdg (T.2 (12, .func (.methodOf 125 "riddle/machine.add") #[] #[]) (by simp [deedT])) (fun W => by kernel_rfl) (enters_of Tryz.func76 (by kernel_rfl) rfl) (by rw [byV, show usesK ((12 : Nat) : Int) = false by rfl]; rfl) (fun W K h => ?_)
  refine (deed_add g R.M.x R W h hM.2.1 hM).mono ?_
  rintro e w' ⟨rfl, r, G⟩
  exact ⟨rfl, _, fun _ => rfl, r.fIs hf, G⟩

set_option maxHeartbeats 400000 in
theorem do_20 (b : Option Addr) (cb : Nat) (pk : List UInt8) (g d t f k : Nat) (R : Rn) (w : World) (hr : RAt w g R) (hd : R.d = .slice (some ⟨d, 0, none⟩) 178 178) (hdg : d ≠ g) (T : DTab w d) (hpk : R.pk = .slice b pk.length cb) (hC : Cells w b pk) (hl : pk.length ≤ 65536) (hf : R.f = 0) (hM : R.M.ok) (hk : k ≤ 4294967295) :
    Calls Tryz.prog 42 #[.pointer (some ⟨g, 0, none⟩), .agg #[.int .u16 ((20 : Nat) : Int), .int .u8 (t : Int), .int .u8 (f : Int), .int .u32 (k : Int)]] w fun e w' => DoIs w g R pk 20 k e w' := by
  have _h := And.intro hpk (And.intro hC (And.intro hl (And.intro hf (And.intro hM hk))))
  have hb : bits .andNot .u16 (20 : Int) 8 = 20 := by decide
  have hs : byxB 20 = false := by decide
  have e : stepV ((20 : Nat) : Int) k pk R.M = (⟨(R.M.a + 4294967296 - k) % 4294967296, R.M.x, R.M.m⟩, 0) := by simp [stepV, operV, sideV, hb, hs]
  unfold DoIs
  rw [e]
  refine do_meth g d 20 t f k 77 k "riddle/machine.subtract" R _ _ w hr hd (by omega) hdg (T.2 (20, .func (.methodOf 125 "riddle/machine.subtract") #[] #[]) (by simp [deedT])) (fun W => by kernel_rfl) (enters_of Tryz.func77 (by kernel_rfl) rfl) (by rw [byV, show usesK ((20 : Nat) : Int) = true by rfl]; rfl) (fun W K h => ?_)
  refine (deed_subtract g k R W h hk hM).mono ?_
  rintro e w' ⟨rfl, r, G⟩
  exact ⟨rfl, _, fun _ => rfl, r.fIs hf, G⟩

set_option maxHeartbeats 400000 in
theorem do_28 (b : Option Addr) (cb : Nat) (pk : List UInt8) (g d t f k : Nat) (R : Rn) (w : World) (hr : RAt w g R) (hd : R.d = .slice (some ⟨d, 0, none⟩) 178 178) (hdg : d ≠ g) (T : DTab w d) (hpk : R.pk = .slice b pk.length cb) (hC : Cells w b pk) (hl : pk.length ≤ 65536) (hf : R.f = 0) (hM : R.M.ok) (hk : k ≤ 4294967295) :
    Calls Tryz.prog 42 #[.pointer (some ⟨g, 0, none⟩), .agg #[.int .u16 ((28 : Nat) : Int), .int .u8 (t : Int), .int .u8 (f : Int), .int .u32 (k : Int)]] w fun e w' => DoIs w g R pk 28 k e w' := by
  have _h := And.intro hpk (And.intro hC (And.intro hl (And.intro hf (And.intro hM hk))))
  have hb : bits .andNot .u16 (28 : Int) 8 = 20 := by decide
  have hs : byxB 28 = true := by decide
  have e : stepV ((28 : Nat) : Int) k pk R.M = (⟨(R.M.a + 4294967296 - R.M.x) % 4294967296, R.M.x, R.M.m⟩, 0) := by simp [stepV, operV, sideV, hb, hs]
  unfold DoIs
  rw [e]
  refine do_meth g d 28 t f k 77 R.M.x "riddle/machine.subtract" R _ _ w hr hd (by omega) hdg (T.2 (28, .func (.methodOf 125 "riddle/machine.subtract") #[] #[]) (by simp [deedT])) (fun W => by kernel_rfl) (enters_of Tryz.func77 (by kernel_rfl) rfl) (by rw [byV, show usesK ((28 : Nat) : Int) = false by rfl]; rfl) (fun W K h => ?_)
  refine (deed_subtract g R.M.x R W h hM.2.1 hM).mono ?_
  rintro e w' ⟨rfl, r, G⟩
  exact ⟨rfl, _, fun _ => rfl, r.fIs hf, G⟩

set_option maxHeartbeats 400000 in
theorem do_36 (b : Option Addr) (cb : Nat) (pk : List UInt8) (g d t f k : Nat) (R : Rn) (w : World) (hr : RAt w g R) (hd : R.d = .slice (some ⟨d, 0, none⟩) 178 178) (hdg : d ≠ g) (T : DTab w d) (hpk : R.pk = .slice b pk.length cb) (hC : Cells w b pk) (hl : pk.length ≤ 65536) (hf : R.f = 0) (hM : R.M.ok) (hk : k ≤ 4294967295) :
    Calls Tryz.prog 42 #[.pointer (some ⟨g, 0, none⟩), .agg #[.int .u16 ((36 : Nat) : Int), .int .u8 (t : Int), .int .u8 (f : Int), .int .u32 (k : Int)]] w fun e w' => DoIs w g R pk 36 k e w' := by
  have _h := And.intro hpk (And.intro hC (And.intro hl (And.intro hf (And.intro hM hk))))
  have hb : bits .andNot .u16 (36 : Int) 8 = 36 := by decide
  have hs : byxB 36 = false := by decide
  have e : stepV ((36 : Nat) : Int) k pk R.M = (⟨R.M.a * k % 4294967296, R.M.x, R.M.m⟩, 0) := by simp [stepV, operV, sideV, hb, hs]
  unfold DoIs
  rw [e]
  refine do_meth g d 36 t f k 78 k "riddle/machine.multiply" R _ _ w hr hd (by omega) hdg (T.2 (36, .func (.methodOf 125 "riddle/machine.multiply") #[] #[]) (by simp [deedT])) (fun W => by kernel_rfl) (enters_of Tryz.func78 (by kernel_rfl) rfl) (by rw [byV, show usesK ((36 : Nat) : Int) = true by rfl]; rfl) (fun W K h => ?_)
  refine (deed_multiply g k R W h hk hM).mono ?_
  rintro e w' ⟨rfl, r, G⟩
  exact ⟨rfl, _, fun _ => rfl, r.fIs hf, G⟩

set_option maxHeartbeats 400000 in
theorem do_44 (b : Option Addr) (cb : Nat) (pk : List UInt8) (g d t f k : Nat) (R : Rn) (w : World) (hr : RAt w g R) (hd : R.d = .slice (some ⟨d, 0, none⟩) 178 178) (hdg : d ≠ g) (T : DTab w d) (hpk : R.pk = .slice b pk.length cb) (hC : Cells w b pk) (hl : pk.length ≤ 65536) (hf : R.f = 0) (hM : R.M.ok) (hk : k ≤ 4294967295) :
    Calls Tryz.prog 42 #[.pointer (some ⟨g, 0, none⟩), .agg #[.int .u16 ((44 : Nat) : Int), .int .u8 (t : Int), .int .u8 (f : Int), .int .u32 (k : Int)]] w fun e w' => DoIs w g R pk 44 k e w' := by
  have _h := And.intro hpk (And.intro hC (And.intro hl (And.intro hf (And.intro hM hk))))
  have hb : bits .andNot .u16 (44 : Int) 8 = 36 := by decide
  have hs : byxB 44 = true := by decide
  have e : stepV ((44 : Nat) : Int) k pk R.M = (⟨R.M.a * R.M.x % 4294967296, R.M.x, R.M.m⟩, 0) := by simp [stepV, operV, sideV, hb, hs]
  unfold DoIs
  rw [e]
  refine do_meth g d 44 t f k 78 R.M.x "riddle/machine.multiply" R _ _ w hr hd (by omega) hdg (T.2 (44, .func (.methodOf 125 "riddle/machine.multiply") #[] #[]) (by simp [deedT])) (fun W => by kernel_rfl) (enters_of Tryz.func78 (by kernel_rfl) rfl) (by rw [byV, show usesK ((44 : Nat) : Int) = false by rfl]; rfl) (fun W K h => ?_)
  refine (deed_multiply g R.M.x R W h hM.2.1 hM).mono ?_
  rintro e w' ⟨rfl, r, G⟩
  exact ⟨rfl, _, fun _ => rfl, r.fIs hf, G⟩

set_option maxHeartbeats 400000 in
theorem do_52 (b : Option Addr) (cb : Nat) (pk : List UInt8) (g d t f k : Nat) (R : Rn) (w : World) (hr : RAt w g R) (hd : R.d = .slice (some ⟨d, 0, none⟩) 178 178) (hdg : d ≠ g) (T : DTab w d) (hpk : R.pk = .slice b pk.length cb) (hC : Cells w b pk) (hl : pk.length ≤ 65536) (hf : R.f = 0) (hM : R.M.ok) (hk : k ≤ 4294967295) :
    Calls Tryz.prog 42 #[.pointer (some ⟨g, 0, none⟩), .agg #[.int .u16 ((52 : Nat) : Int), .int .u8 (t : Int), .int .u8 (f : Int), .int .u32 (k : Int)]] w fun e w' => DoIs w g R pk 52 k e w' := by
  have _h := And.intro hpk (And.intro hC (And.intro hl (And.intro hf (And.intro hM hk))))
  have hb : bits .andNot .u16 (52 : Int) 8 = 52 := by decide
  have hs : byxB 52 = false := by decide
  by_cases hz : k = 0
  · have e : stepV ((52 : Nat) : Int) k pk R.M = (⟨0, R.M.x, R.M.m⟩, 2) := by simp [stepV, operV, sideV, hb, hs, hz]
    unfold DoIs
    rw [e]
    refine do_fn g d 52 t f k 79 0 R _ _ w hr hd (by omega) hdg (T.2 (52, .func (.func 79) #[] #[]) (by simp [deedT])) (enters_of Tryz.func79 (by kernel_rfl) rfl) (by rw [byV, show usesK ((52 : Nat) : Int) = true by rfl]; exact hz) (fun W K h => ?_)
    refine (deed_divide0 g R W h).mono ?_
    rintro e w' ⟨rfl, r, G⟩
    exact ⟨rfl, _, fun h2 => absurd h2 (show ¬ ((2 : Int) = 0) by decide), r, G⟩
  · have e : stepV ((52 : Nat) : Int) k pk R.M = (⟨R.M.a / k, R.M.x, R.M.m⟩, 0) := by simp [stepV, operV, sideV, hb, hs, hz]
    unfold DoIs
    rw [e]
    refine do_fn g d 52 t f k 79 k R _ _ w hr hd (by omega) hdg (T.2 (52, .func (.func 79) #[] #[]) (by simp [deedT])) (enters_of Tryz.func79 (by kernel_rfl) rfl) (by rw [byV, show usesK ((52 : Nat) : Int) = true by rfl]; rfl) (fun W K h => ?_)
    refine (deed_divide g k R W h hM hz).mono ?_
    rintro e w' ⟨rfl, r, G⟩
    exact ⟨rfl, _, fun _ => rfl, r.fIs hf, G⟩

set_option maxHeartbeats 400000 in
theorem do_60 (b : Option Addr) (cb : Nat) (pk : List UInt8) (g d t f k : Nat) (R : Rn) (w : World) (hr : RAt w g R) (hd : R.d = .slice (some ⟨d, 0, none⟩) 178 178) (hdg : d ≠ g) (T : DTab w d) (hpk : R.pk = .slice b pk.length cb) (hC : Cells w b pk) (hl : pk.length ≤ 65536) (hf : R.f = 0) (hM : R.M.ok) (hk : k ≤ 4294967295) :
    Calls Tryz.prog 42 #[.pointer (some ⟨g, 0, none⟩), .agg #[.int .u16 ((60 : Nat) : Int), .int .u8 (t : Int), .int .u8 (f : Int), .int .u32 (k : Int)]] w fun e w' => DoIs w g R pk 60 k e w' := by
  have _h := And.intro hpk (And.intro hC (And.intro hl (And.intro hf (And.intro hM hk))))
  have hb : bits .andNot .u16 (60 : Int) 8 = 52 := by decide
  have hs : byxB 60 = true := by decide
  by_cases hz : R.M.x = 0
  · have e : stepV ((60 : Nat) : Int) k pk R.M = (⟨0, R.M.x, R.M.m⟩, 2) := by simp [stepV, operV, sideV, hb, hs, hz]
    unfold DoIs
    rw [e]
    refine do_fn g d 60 t f k 79 0 R _ _ w hr hd (by omega) hdg (T.2 (60, .func (.func 79) #[] #[]) (by simp [deedT])) (enters_of Tryz.func79 (by kernel_rfl) rfl) (by rw [byV, show usesK ((60 : Nat) : Int) = false by rfl]; exact hz) (fun W K h => ?_)
    refine (deed_divide0 g R W h).mono ?_
    rintro e w' ⟨rfl, r, G⟩
    exact ⟨rfl, _, fun h2 => absurd h2 (show ¬ ((2 : Int) = 0) by decide), r, G⟩
  · have e : stepV ((60 : Nat) : Int) k pk R.M = (⟨R.M.a / R.M.x, R.M.x, R.M.m⟩, 0) := by simp [stepV, operV, sideV, hb, hs, hz]
    unfold DoIs
    rw [e]
    refine do_fn g d 60 t f k 79 R.M.x R _ _ w hr hd (by omega) hdg (T.2 (60, .func (.func 79) #[] #[]) (by simp [deedT])) (enters_of Tryz.func79 (by kernel_rfl) rfl) (by rw [byV, show usesK ((60 : Nat) : Int) = false by rfl]; rfl) (fun W K h => ?_)
    refine (deed_divide g R.M.x R W h hM hz).mono ?_
    rintro e w' ⟨rfl, r, G⟩
    exact ⟨rfl, _, fun _ => rfl, r.fIs hf, G⟩

set_option maxHeartbeats 400000 in
theorem do_68 (b : Option Addr) (cb : Nat) (pk : List UInt8) (g d t f k : Nat) (R : Rn) (w : World) (hr : RAt w g R) (hd : R.d = .slice (some ⟨d, 0, none⟩) 178 178) (hdg : d ≠ g) (T : DTab w d) (hpk : R.pk = .slice b pk.length cb) (hC : Cells w b pk) (hl : pk.length ≤ 65536) (hf : R.f = 0) (hM : R.M.ok) (hk : k ≤ 4294967295) :
    Calls Tryz.prog 42 #[.pointer (some ⟨g, 0, none⟩), .agg #[.int .u16 ((68 : Nat) : Int), .int .u8 (t : Int), .int .u8 (f : Int), .int .u32 (k : Int)]] w fun e w' => DoIs w g R pk 68 k e w' := by
  have _h := And.intro hpk (And.intro hC (And.intro hl (And.intro hf (And.intro hM hk))))
  have hb : bits .andNot .u16 (68 : Int) 8 = 68 := by decide
  have hs : byxB 68 = false := by decide
  have e : stepV ((68 : Nat) : Int) k pk R.M = (⟨R.M.a ||| k, R.M.x, R.M.m⟩, 0) := by simp [stepV, operV, sideV, hb, hs]
  unfold DoIs
  rw [e]
  refine do_meth g d 68 t f k 81 k "riddle/machine.or" R _ _ w hr hd (by omega) hdg (T.2 (68, .func (.methodOf 125 "riddle/machine.or") #[] #[]) (by simp [deedT])) (fun W => by kernel_rfl) (enters_of Tryz.func81 (by kernel_rfl) rfl) (by rw [byV, show usesK ((68 : Nat) : Int) = true by rfl]; rfl) (fun W K h => ?_)
  refine (deed_or g k R W h hk hM).mono ?_
  rintro e w' ⟨rfl, r, G⟩
  exact ⟨rfl, _, fun _ => rfl, r.fIs hf, G⟩

set_option maxHeartbeats 400000 in
theorem do_76 (b : Option Addr) (cb : Nat) (pk : List UInt8) (g d t f k : Nat) (R : Rn) (w : World) (hr : RAt w g R) (hd : R.d = .slice (some ⟨d, 0, none⟩) 178 178) (hdg : d ≠ g) (T : DTab w d) (hpk : R.pk = .slice b pk.length cb) (hC : Cells w b pk) (hl : pk.length ≤ 65536) (hf : R.f = 0) (hM : R.M.ok) (hk : k ≤ 4294967295) :
    Calls Tryz.prog 42 #[.pointer (some ⟨g, 0, none⟩), .agg #[.int .u16 ((76 : Nat) : Int), .int .u8 (t : Int), .int .u8 (f : Int), .int .u32 (k : Int)]] w fun e w' => DoIs w g R pk 76 k e w' := by
  have _h := And.intro hpk (And.intro hC (And.intro hl (And.intro hf (And.intro hM hk))))
  have hb : bits .andNot .u16 (76 : Int) 8 = 68 := by decide
  have hs : byxB 76 = true := by decide
  have e : stepV ((76 : Nat) : Int) k pk R.M = (⟨R.M.a ||| R.M.x, R.M.x, R.M.m⟩, 0) := by simp [stepV, operV, sideV, hb, hs]
  unfold DoIs
  rw [e]
  refine do_meth g d 76 t f k 81 R.M.x "riddle/machine.or" R _ _ w hr hd (by omega) hdg (T.2 (76, .func (.methodOf 125 "riddle/machine.or") #[] #[]) (by simp [deedT])) (fun W => by kernel_rfl) (enters_of Tryz.func81 (by kernel_rfl) rfl) (by rw [byV, show usesK ((76 : Nat) : Int) = false by rfl]; rfl) (fun W K h => ?_)
  refine (deed_or g R.M.x R W h hM.2.1 hM).mono ?_
  rintro e w' ⟨rfl, r, G⟩
  exact ⟨rfl, _, fun _ => rfl, r.fIs hf, G⟩

set_option maxHeartbeats 400000 in
theorem do_84 (b : Option Addr) (cb : Nat) (pk : List UInt8) (g d t f k : Nat) (R : Rn) (w : World) (hr : RAt w g R) (hd : R.d = .slice (some ⟨d, 0, none⟩) 178 178) (hdg : d ≠ g) (T : DTab w d) (hpk : R.pk = .slice b pk.length cb) (hC : Cells w b pk) (hl : pk.length ≤ 65536) (hf : R.f = 0) (hM : R.M.ok) (hk : k ≤ 4294967295) :
    Calls Tryz.prog 42 #[.pointer (some ⟨g, 0, none⟩), .agg #[.int .u16 ((84 : Nat) : Int), .int .u8 (t : Int), .int .u8 (f : Int), .int .u32 (k : Int)]] w fun e w' => DoIs w g R pk 84 k e w' := by
  have _h := And.intro hpk (And.intro hC (And.intro hl (And.intro hf (And.intro hM hk))))
  have hb : bits .andNot .u16 (84 : Int) 8 = 84 := by decide
  have hs : byxB 84 = false := by decide
  have e : stepV ((84 : Nat) : Int) k pk R.M = (⟨R.M.a &&& k, R.M.x, R.M.m⟩, 0) := by simp [stepV, operV, sideV, hb, hs]
  unfold DoIs
  rw [e]
  refine do_meth g d 84 t f k 82 k "riddle/machine.and" R _ _ w hr hd (by omega) hdg (T.2 (84, .func (.methodOf 125 "riddle/machine.and") #[] #[]) (by simp [deedT])) (fun W => by kernel_rfl) (enters_of Tryz.func82 (by kernel_rfl) rfl) (by rw [byV, show usesK ((84 : Nat) : Int) = true by rfl]; rfl) (fun W K h => ?_)
  refine (deed_and g k R W h hk hM).mono ?_
  rintro e w' ⟨rfl, r, G⟩
  exact ⟨rfl, _, fun _ => rfl, r.fIs hf, G⟩

set_option maxHeartbeats 400000 in
theorem do_92 (b : Option Addr) (cb : Nat) (pk : List UInt8) (g d t f k : Nat) (R : Rn) (w : World) (hr : RAt w g R) (hd : R.d = .slice (some ⟨d, 0, none⟩) 178 178) (hdg : d ≠ g) (T : DTab w d) (hpk : R.pk = .slice b pk.length cb) (hC : Cells w b pk) (hl : pk.length ≤ 65536) (hf : R.f = 0) (hM : R.M.ok) (hk : k ≤ 4294967295) :
    Calls Tryz.prog 42 #[.pointer (some ⟨g, 0, none⟩), .agg #[.int .u16 ((92 : Nat) : Int), .int .u8 (t : Int), .int .u8 (f : Int), .int .u32 (k : Int)]] w fun e w' => DoIs w g R pk 92 k e w' := by
  have _h := And.intro hpk (And.intro hC (And.intro hl (And.intro hf (And.intro hM hk))))
  have hb : bits .andNot .u16 (92 : Int) 8 = 84 := by decide
  have hs : byxB 92 = true := by decide
  have e : stepV ((92 : Nat) : Int) k pk R.M = (⟨R.M.a &&& R.M.x, R.M.x, R.M.m⟩, 0) := by simp [stepV, operV, sideV, hb, hs]
  unfold DoIs
  rw [e]
  refine do_meth g d 92 t f k 82 R.M.x "riddle/machine.and" R _ _ w hr hd (by omega) hdg (T.2 (92, .func (.methodOf 125 "riddle/machine.and") #[] #[]) (by simp [deedT])) (fun W => by kernel_rfl) (enters_of Tryz.func82 (by kernel_rfl) rfl) (by rw [byV, show usesK ((92 : Nat) : Int) = false by rfl]; rfl) (fun W K h => ?_)
  refine (deed_and g R.M.x R W h hM.2.1 hM).mono ?_
  rintro e w' ⟨rfl, r, G⟩
  exact ⟨rfl, _, fun _ => rfl, r.fIs hf, G⟩

set_option maxHeartbeats 400000 in
theorem do_100 (b : Option Addr) (cb : Nat) (pk : List UInt8) (g d t f k : Nat) (R : Rn) (w : World) (hr : RAt w g R) (hd : R.d = .slice (some ⟨d, 0, none⟩) 178 178) (hdg : d ≠ g) (T : DTab w d) (hpk : R.pk = .slice b pk.length cb) (hC : Cells w b pk) (hl : pk.length ≤ 65536) (hf : R.f = 0) (hM : R.M.ok) (hk : k ≤ 4294967295) :
    Calls Tryz.prog 42 #[.pointer (some ⟨g, 0, none⟩), .agg #[.int .u16 ((100 : Nat) : Int), .int .u8 (t : Int), .int .u8 (f : Int), .int .u32 (k : Int)]] w fun e w' => DoIs w g R pk 100 k e w' := by
  have _h := And.intro hpk (And.intro hC (And.intro hl (And.intro hf (And.intro hM hk))))
  have hb : bits .andNot .u16 (100 : Int) 8 = 100 := by decide
  have hs : byxB 100 = false := by decide
  have e : stepV ((100 : Nat) : Int) k pk R.M = (⟨shiftV R.M.a k true, R.M.x, R.M.m⟩, 0) := by simp [stepV, operV, sideV, hb, hs]
  unfold DoIs
  rw [e]
  refine do_meth g d 100 t f k 84 k "riddle/machine.shiftLeft" R _ _ w hr hd (by omega) hdg (T.2 (100, .func (.methodOf 125 "riddle/machine.shiftLeft") #[] #[]) (by simp [deedT])) (fun W => by kernel_rfl) (enters_of Tryz.func84 (by kernel_rfl) rfl) (by rw [byV, show usesK ((100 : Nat) : Int) = true by rfl]; rfl) (fun W K h => ?_)
  refine (deed_shiftLeft g k R W h hk hM).mono ?_
  rintro e w' ⟨rfl, r, G⟩
  exact ⟨rfl, _, fun _ => rfl, r.fIs hf, G⟩

set_option maxHeartbeats 400000 in
theorem do_108 (b : Option Addr) (cb : Nat) (pk : List UInt8) (g d t f k : Nat) (R : Rn) (w : World) (hr : RAt w g R) (hd : R.d = .slice (some ⟨d, 0, none⟩) 178 178) (hdg : d ≠ g) (T : DTab w d) (hpk : R.pk = .slice b pk.length cb) (hC : Cells w b pk) (hl : pk.length ≤ 65536) (hf : R.f = 0) (hM : R.M.ok) (hk : k ≤ 4294967295) :
    Calls Tryz.prog 42 #[.pointer (some ⟨g, 0, none⟩), .agg #[.int .u16 ((108 : Nat) : Int), .int .u8 (t : Int), .int .u8 (f : Int), .int .u32 (k : Int)]] w fun e w' => DoIs w g R pk 108 k e w' := by
  have _h := And.intro hpk (And.intro hC (And.intro hl (And.intro hf (And.intro hM hk))))
  have hb : bits .andNot .u16 (108 : Int) 8 = 100 := by decide
  have hs : byxB 108 = true := by decide
  have e : stepV ((108 : Nat) : Int) k pk R.M = (⟨shiftV R.M.a R.M.x true, R.M.x, R.M.m⟩, 0) := by simp [stepV, operV, sideV, hb, hs]
  unfold DoIs
  rw [e]
  refine do_meth g d 108 t f k 84 R.M.x "riddle/machine.shiftLeft" R _ _ w hr hd (by omega) hdg (T.2 (108, .func (.methodOf 125 "riddle/machine.shiftLeft") #[] #[]) (by simp [deedT])) (fun W => by kernel_rfl) (enters_of Tryz.func84 (by kernel_rfl) rfl) (by rw [byV, show usesK ((108 : Nat) : Int) = false by rfl]; rfl) (fun W K h => ?_)
  refine (deed_shiftLeft g R.M.x R W h hM.2.1 hM).mono ?_
  rintro e w' ⟨rfl, r, G⟩
  exact ⟨rfl, _, fun _ => rfl, r.fIs hf, G⟩

set_option maxHeartbeats 400000 in
theorem do_116 (b : Option Addr) (cb : Nat) (pk : List UInt8) (g d t f k : Nat) (R : Rn) (w : World) (hr : RAt w g R) (hd : R.d = .slice (some ⟨d, 0, none⟩) 178 178) (hdg : d ≠ g) (T : DTab w d) (hpk : R.pk = .slice b pk.length cb) (hC : Cells w b pk) (hl : pk.length ≤ 65536) (hf : R.f = 0) (hM : R.M.ok) (hk : k ≤ 4294967295) :
    Calls Tryz.prog 42 #[.pointer (some ⟨g, 0, none⟩), .agg #[.int .u16 ((116 : Nat) : Int), .int .u8 (t : Int), .int .u8 (f : Int), .int .u32 (k : Int)]] w fun e w' => DoIs w g R pk 116 k e w' := by
  have _h := And.intro hpk (And.intro hC (And.intro hl (And.intro hf (And.intro hM hk))))
  have hb : bits .andNot .u16 (116 : Int) 8 = 116 := by decide
  have hs : byxB 116 = false := by decide
  have e : stepV ((116 : Nat) : Int) k pk R.M = (⟨shiftV R.M.a k false, R.M.x, R.M.m⟩, 0) := by simp [stepV, operV, sideV, hb, hs]
  unfold DoIs
  rw [e]
  refine do_meth g d 116 t f k 85 k "riddle/machine.shiftRight" R _ _ w hr hd (by omega) hdg (T.2 (116, .func (.methodOf 125 "riddle/machine.shiftRight") #[] #[]) (by simp [deedT])) (fun W => by kernel_rfl) (enters_of Tryz.func85 (by kernel_rfl) rfl) (by rw [byV, show usesK ((116 : Nat) : Int) = true by rfl]; rfl) (fun W K h => ?_)
  refine (deed_shiftRight g k R W h hk hM).mono ?_
  rintro e w' ⟨rfl, r, G⟩
  exact ⟨rfl, _, fun _ => rfl, r.fIs hf, G⟩

set_option maxHeartbeats 400000 in
theorem do_124 (b : Option Addr) (cb : Nat) (pk : List UInt8) (g d t f k : Nat) (R : Rn) (w : World) (hr : RAt w g R) (hd : R.d = .slice (some ⟨d, 0, none⟩) 178 178) (hdg : d ≠ g) (T : DTab w d) (hpk : R.pk = .slice b pk.length cb) (hC : Cells w b pk) (hl : pk.length ≤ 65536) (hf : R.f = 0) (hM : R.M.ok) (hk : k ≤ 4294967295) :
    Calls Tryz.prog 42 #[.pointer (some ⟨g, 0, none⟩), .agg #[.int .u16 ((124 : Nat) : Int), .int .u8 (t : Int), .int .u8 (f : Int), .int .u32 (k : Int)]] w fun e w' => DoIs w g R pk 124 k e w' := by
  have _h := And.intro hpk (And.intro hC (And.intro hl (And.intro hf (And.intro hM hk))))
  have hb : bits .andNot .u16 (124 : Int) 8 = 116 := by decide
  have hs : byxB 124 = true := by decide
  have e : stepV ((124 : Nat) : Int) k pk R.M = (⟨shiftV R.M.a R.M.x false, R.M.x, R.M.m⟩, 0) := by simp [stepV, operV, sideV, hb, hs]
  unfold DoIs
  rw [e]
  refine do_meth g d 124 t f k 85 R.M.x "riddle/machine.shiftRight" R _ _ w hr hd (by omega) hdg (T.2 (124, .func (.methodOf 125 "riddle/machine.shiftRight") #[] #[]) (by simp [deedT])) (fun W => by kernel_rfl) (enters_of Tryz.func85 (by kernel_rfl) rfl) (by rw [byV, show usesK ((124 : Nat) : Int) = false by rfl]; rfl) (fun W K h => ?_)
  refine (deed_shiftRight g R.M.x R W h hM.2.1 hM).mono ?_
  rintro e w' ⟨rfl, r, G⟩
  exact ⟨rfl, _, fun _ => rfl, r.fIs hf, G⟩

set_option maxHeartbeats 400000 in
theorem do_148 (b : Option Addr) (cb : Nat) (pk : List UInt8) (g d t f k : Nat) (R : Rn) (w : World) (hr : RAt w g R) (hd : R.d = .slice (some ⟨d, 0, none⟩) 178 178) (hdg : d ≠ g) (T : DTab w d) (hpk : R.pk = .slice b pk.length cb) (hC : Cells w b pk) (hl : pk.length ≤ 65536) (hf : R.f = 0) (hM : R.M.ok) (hk : k ≤ 4294967295) :
    Calls Tryz.prog 42 #[.pointer (some ⟨g, 0, none⟩), .agg #[.int .u16 ((148 : Nat) : Int), .int .u8 (t : Int), .int .u8 (f : Int), .int .u32 (k : Int)]] w fun e w' => DoIs w g R pk 148 k e w' := by
  have _h := And.intro hpk (And.intro hC (And.intro hl (And.intro hf (And.intro hM hk))))
  have hb : bits .andNot .u16 (148 : Int) 8 = 148 := by decide
  have hs : byxB 148 = false := by decide
  by_cases hz : k = 0
  · have e : stepV ((148 : Nat) : Int) k pk R.M = (⟨0, R.M.x, R.M.m⟩, 2) := by simp [stepV, operV, sideV, hb, hs, hz]
    unfold DoIs
    rw [e]
    refine do_fn g d 148 t f k 80 0 R _ _ w hr hd (by omega) hdg (T.2 (148, .func (.func 80) #[] #[]) (by simp [deedT])) (enters_of Tryz.func80 (by kernel_rfl) rfl) (by rw [byV, show usesK ((148 : Nat) : Int) = true by rfl]; exact hz) (fun W K h => ?_)
    refine (deed_remain0 g R W h).mono ?_
    rintro e w' ⟨rfl, r, G⟩
    exact ⟨rfl, _, fun h2 => absurd h2 (show ¬ ((2 : Int) = 0) by decide), r, G⟩
  · have e : stepV ((148 : Nat) : Int) k pk R.M = (⟨R.M.a % k, R.M.x, R.M.m⟩, 0) := by simp [stepV, operV, sideV, hb, hs, hz]
    unfold DoIs
    rw [e]
    refine do_fn g d 148 t f k 80 k R _ _ w hr hd (by omega) hdg (T.2 (148, .func (.func 80) #[] #[]) (by simp [deedT])) (enters_of Tryz.func80 (by kernel_rfl) rfl) (by rw [byV, show usesK ((148 : Nat) : Int) = true by rfl]; rfl) (fun W K h => ?_)
    refine (deed_remain g k R W h hM hz).mono ?_
    rintro e w' ⟨rfl, r, G⟩
    exact ⟨rfl, _, fun _ => rfl, r.fIs hf, G⟩

set_option maxHeartbeats 400000 in
theorem do_156 (b : Option Addr) (cb : Nat) (pk : List UInt8) (g d t f k : Nat) (R : Rn) (w : World) (hr : RAt w g R) (hd : R.d = .slice (some ⟨d, 0, none⟩) 178 178) (hdg : d ≠ g) (T : DTab w d) (hpk : R.pk = .slice b pk.length cb) (hC : Cells w b pk) (hl : pk.length ≤ 65536) (hf : R.f = 0) (hM : R.M.ok) (hk : k ≤ 4294967295) :
    Calls Tryz.prog 42 #[.pointer (some ⟨g, 0, none⟩), .agg #[.int .u16 ((156 : Nat) : Int), .int .u8 (t : Int), .int .u8 (f : Int), .int .u32 (k : Int)]] w fun e w' => DoIs w g R pk 156 k e w' := by
  have _h := And.intro hpk (And.intro hC (And.intro hl (And.intro hf (And.intro hM hk))))
  have hb : bits .andNot .u16 (156 : Int) 8 = 148 := by decide
  have hs : byxB 156 = true := by decide
  by_cases hz : R.M.x = 0
  · have e : stepV ((156 : Nat) : Int) k pk R.M = (⟨0, R.M.x, R.M.m⟩, 2) := by simp [stepV, operV, sideV, hb, hs, hz]
    unfold DoIs
    rw [e]
    refine do_fn g d 156 t f k 80 0 R _ _ w hr hd (by omega) hdg (T.2 (156, .func (.func 80) #[] #[]) (by simp [deedT])) (enters_of Tryz.func80 (by kernel_rfl) rfl) (by rw [byV, show usesK ((156 : Nat) : Int) = false by rfl]; exact hz) (fun W K h => ?_)
    refine (deed_remain0 g R W h).mono ?_
    rintro e w' ⟨rfl, r, G⟩
    exact ⟨rfl, _, fun h2 => absurd h2 (show ¬ ((2 : Int) = 0) by decide), r, G⟩
  · have e : stepV ((156 : Nat) : Int) k pk R.M = (⟨R.M.a % R.M.x, R.M.x, R.M.m⟩, 0) := by simp [stepV, operV, sideV, hb, hs, hz]
    unfold DoIs
    rw [e]
    refine do_fn g d 156 t f k 80 R.M.x R _ _ w hr hd (by omega) hdg (T.2 (156, .func (.func 80) #[] #[]) (by simp [deedT])) (enters_of Tryz.func80 (by kernel_rfl) rfl) (by rw [byV, show usesK ((156 : Nat) : Int) = false by rfl]; rfl) (fun W K h => ?_)
    refine (deed_remain g R.M.x R W h hM hz).mono ?_
    rintro e w' ⟨rfl, r, G⟩
    exact ⟨rfl, _, fun _ => rfl, r.fIs hf, G⟩

set_option maxHeartbeats 400000 in
theorem do_164 (b : Option Addr) (cb : Nat) (pk : List UInt8) (g d t f k : Nat) (R : Rn) (w : World) (hr : RAt w g R) (hd : R.d = .slice (some ⟨d, 0, none⟩) 178 178) (hdg : d ≠ g) (T : DTab w d) (hpk : R.pk = .slice b pk.length cb) (hC : Cells w b pk) (hl : pk.length ≤ 65536) (hf : R.f = 0) (hM : R.M.ok) (hk : k ≤ 4294967295) :
    Calls Tryz.prog 42 #[.pointer (some ⟨g, 0, none⟩), .agg #[.int .u16 ((164 : Nat) : Int), .int .u8 (t : Int), .int .u8 (f : Int), .int .u32 (k : Int)]] w fun e w' => DoIs w g R pk 164 k e w' := by
  have _h := And.intro hpk (And.intro hC (And.intro hl (And.intro hf (And.intro hM hk))))
  have hb : bits .andNot .u16 (164 : Int) 8 = 164 := by decide
  have hs : byxB 164 = false := by decide
  have e : stepV ((164 : Nat) : Int) k pk R.M = (⟨R.M.a ^^^ k, R.M.x, R.M.m⟩, 0) := by simp [stepV, operV, sideV, hb, hs]
  unfold DoIs
  rw [e]
  refine do_meth g d 164 t f k 83 k "riddle/machine.xor" R _ _ w hr hd (by omega) hdg (T.2 (164, .func (.methodOf 125 "riddle/machine.xor") #[] #[]) (by simp [deedT])) (fun W => by kernel_rfl) (enters_of Tryz.func83 (by kernel_rfl) rfl) (by rw [byV, show usesK ((164 : Nat) : Int) = true by rfl]; rfl) (fun W K h => ?_)
  refine (deed_xor g k R W h hk hM).mono ?_
  rintro e w' ⟨rfl, r, G⟩
  exact ⟨rfl, _, fun _ => rfl, r.fIs hf, G⟩

set_option maxHeartbeats 400000 in
theorem do_172 (b : Option Addr) (cb : Nat) (pk : List UInt8) (g d t f k : Nat) (R : Rn) (w : World) (hr : RAt w g R) (hd : R.d = .slice (some ⟨d, 0, none⟩) 178 178) (hdg : d ≠ g) (T : DTab w d) (hpk : R.pk = .slice b pk.length cb) (hC : Cells w b pk) (hl : pk.length ≤ 65536) (hf : R.f = 0) (hM : R.M.ok) (hk : k ≤ 4294967295) :
    Calls Tryz.prog 42 #[.pointer (some ⟨g, 0, none⟩), .agg #[.int .u16 ((172 : Nat) : Int), .int .u8 (t : Int), .int .u8 (f : Int), .int .u32 (k : Int)]] w fun e w' => DoIs w g R pk 172 k e w' := by
  have _h := And.intro hpk (And.intro hC (And.intro hl (And.intro hf (And.intro hM hk))))
  have hb : bits .andNot .u16 (172 : Int) 8 = 164 := by decide
  have hs : byxB 172 = true := by decide
  have e : stepV ((172 : Nat) : Int) k pk R.M = (⟨R.M.a ^^^ R.M.x, R.M.x, R.M.m⟩, 0) := by simp [stepV, operV, sideV, hb, hs]
  unfold DoIs
  rw [e]
  refine do_meth g d 172 t f k 83 R.M.x "riddle/machine.xor" R _ _ w hr hd (by omega) hdg (T.2 (172, .func (.methodOf 125 "riddle/machine.xor") #[] #[]) (by simp [deedT])) (fun W => by kernel_rfl) (enters_of Tryz.func83 (by kernel_rfl) rfl) (by rw [byV, show usesK ((172 : Nat) : Int) = false by rfl]; rfl) (fun W K h => ?_)
  refine (deed_xor g R.M.x R W h hM.2.1 hM).mono ?_
  rintro e w' ⟨rfl, r, G⟩
  exact ⟨rfl, _, fun _ => rfl, r.fIs hf, G⟩

theorem mdo_any (c : Nat) (b : Option Addr) (cb : Nat) (pk : List UInt8) (g d t f k : Nat) (R : Rn) (w : World) (hr : RAt w g R) (hd : R.d = .slice (some ⟨d, 0, none⟩) 178 178) (hdg : d ≠ g) (T : DTab w d) (hpk : R.pk = .slice b pk.length cb) (hC : Cells w b pk) (hl : pk.length ≤ 65536) (hf : R.f = 0) (hM : R.M.ok) (hk : k ≤ 4294967295) (hkn : knownB (c : Int) = true) (h6 : ((c : Int) == 6) = false) (h22 : ((c : Int) == 22) = false) (h5 : ((c : Int) == 5) = false) (hj : jumpB (c : Int) = false) (hq : memB (c : Int) = true → k < 16) :
    Calls Tryz.prog 42 #[.pointer (some ⟨g, 0, none⟩), .agg #[.int .u16 (c : Int), .int .u8 (t : Int), .int .u8 (f : Int), .int .u32 (k : Int)]] w fun e w' => DoIs w g R pk c k e w' := by
  have hin : c ∈ ([0, 1, 2, 3, 4, 7, 12, 20, 28, 32, 36, 40, 44, 48, 52, 60, 64, 68, 72, 76, 80, 84, 92, 96, 97, 100, 108, 116, 124, 128, 129, 132, 135, 148, 156, 164, 172, 177] : List Nat) := by
    have hm := known_cases hkn
    simp only [jumpB, Bool.or_eq_false_iff, beq_eq_false_iff_ne] at h6 h22 h5 hj
    simp only [List.mem_cons, List.not_mem_nil, or_false] at hm ⊢
    omega
  simp only [List.mem_cons, List.not_mem_nil, or_false] at hin
  rcases hin with rfl | rfl | rfl | rfl | rfl | rfl | rfl | rfl | rfl | rfl | rfl | rfl | rfl | rfl | rfl | rfl | rfl | rfl | rfl | rfl | rfl | rfl | rfl | rfl | rfl | rfl | rfl | rfl | rfl | rfl | rfl | rfl | rfl | rfl | rfl | rfl | rfl | rfl
  · exact do_0 b cb pk g d t f k R w hr hd hdg T hpk hC hl hf hM hk
  · exact do_1 b cb pk g d t f k R w hr hd hdg T hpk hC hl hf hM hk
  · exact do_2 b cb pk g d t f k R w hr hd hdg T hpk hC hl hf hM hk (hq rfl)
  · exact do_3 b cb pk g d t f k R w hr hd hdg T hpk hC hl hf hM hk (hq rfl)
  · exact do_4 b cb pk g d t f k R w hr hd hdg T hpk hC hl hf hM hk
  · exact do_7 b cb pk g d t f k R w hr hd hdg T hpk hC hl hf hM hk
  · exact do_12 b cb pk g d t f k R w hr hd hdg T hpk hC hl hf hM hk
  · exact do_20 b cb pk g d t f k R w hr hd hdg T hpk hC hl hf hM hk
  · exact do_28 b cb pk g d t f k R w hr hd hdg T hpk hC hl hf hM hk
  · exact do_32 b cb pk g d t f k R w hr hd hdg T hpk hC hl hf hM hk
  · exact do_36 b cb pk g d t f k R w hr hd hdg T hpk hC hl hf hM hk
  · exact do_40 b cb pk g d t f k R w hr hd hdg T hpk hC hl hf hM hk
  · exact do_44 b cb pk g d t f k R w hr hd hdg T hpk hC hl hf hM hk
  · exact do_48 b cb pk g d t f k R w hr hd hdg T hpk hC hl hf hM hk
  · exact do_52 b cb pk g d t f k R w hr hd hdg T hpk hC hl hf hM hk
  · exact do_60 b cb pk g d t f k R w hr hd hdg T hpk hC hl hf hM hk
  · exact do_64 b cb pk g d t f k R w hr hd hdg T hpk hC hl hf hM hk
  · exact do_68 b cb pk g d t f k R w hr hd hdg T hpk hC hl hf hM hk
  · exact do_72 b cb pk g d t f k R w hr hd hdg T hpk hC hl hf hM hk
  · exact do_76 b cb pk g d t f k R w hr hd hdg T hpk hC hl hf hM hk
  · exact do_80 b cb pk g d t f k R w hr hd hdg T hpk hC hl hf hM hk
  · exact do_84 b cb pk g d t f k R w hr hd hdg T hpk hC hl hf hM hk
  · exact do_92 b cb pk g d t f k R w hr hd hdg T hpk hC hl hf hM hk
  · exact do_96 b cb pk g d t f k R w hr hd hdg T hpk hC hl hf hM hk (hq rfl)
  · exact do_97 b cb pk g d t f k R w hr hd hdg T hpk hC hl hf hM hk (hq rfl)
  · exact do_100 b cb pk g d t f k R w hr hd hdg T hpk hC hl hf hM hk
  · exact do_108 b cb pk g d t f k R w hr hd hdg T hpk hC hl hf hM hk
  · exact do_116 b cb pk g d t f k R w hr hd hdg T hpk hC hl hf hM hk
  · exact do_124 b cb pk g d t f k R w hr hd hdg T hpk hC hl hf hM hk
  · exact do_128 b cb pk g d t f k R w hr hd hdg T hpk hC hl hf hM hk
  · exact do_129 b cb pk g d t f k R w hr hd hdg T hpk hC hl hf hM hk
  · exact do_132 b cb pk g d t f k R w hr hd hdg T hpk hC hl hf hM hk
  · exact do_135 b cb pk g d t f k R w hr hd hdg T hpk hC hl hf hM hk
  · exact do_148 b cb pk g d t f k R w hr hd hdg T hpk hC hl hf hM hk
  · exact do_156 b cb pk g d t f k R w hr hd hdg T hpk hC hl hf hM hk
  · exact do_164 b cb pk g d t f k R w hr hd hdg T hpk hC hl hf hM hk
  · exact do_172 b cb pk g d t f k R w hr hd hdg T hpk hC hl hf hM hk
  · exact do_177 b cb pk g d t f k R w hr hd hdg T hpk hC hl hf hM hk

end Go.Proofs.YtencoknpocipbaaGreat
