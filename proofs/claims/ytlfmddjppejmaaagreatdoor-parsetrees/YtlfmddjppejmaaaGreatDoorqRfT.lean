import Derived.Test.YtlfmddjppejmaaaGreatDoorqRfQ
import Derived.Test.YtlfmddjppejmaaaGreatDoorqLotQ19
import Derived.Test.YtlfmddjppejmaaaGreatDoorqLotQ12
import Derived.Test.YtlfmddjppejmaaaGreatDoorqLotQ24
import Derived.Test.YtlfmddjppejmaaaGreatDoorqLotQ25
import Derived.Laws.CopyOwn
import Derived.Deep.MidRow
set_option maxHeartbeats 64000000
set_option maxRecDepth 100000
namespace Go.Proofs.YtlfmddjppejmaaaGreatDoor
open Go.RowKit
def adN (k o : Nat) : Nd := { ndK k with of := o }
def adX (k o : Nat) (ys : List UInt8) : Nd := { ndK k with of := o, addr := ys }
theorem a1b (k : Nat) (W : World) : (Instr.build 54 #[(0, .int .i64 (k : Int)), (5, .int .i64 2)]).run Tryz.prog W = .ok (.agg (adN k 2).cells.toArray) W := by kernel_rfl
theorem a5p (k : Nat) (ys : List UInt8) (h : ys.length = 4) : splice (adN k 2).cells 7 (ys.map bv) = (adX k 2 (ys ++ List.replicate 12 0)).cells :=
 match ys, h with
 | [_, _, _, _], _ => rfl
def a2V (cs : Array Value) : Nat → List Value → Array Value
 | _, [] => cs
 | o, v :: vs => a2V (cs.setIfInBounds o v) (o + 1) vs
theorem VAt.setCells {g t : Nat} : ∀ (vs : List Value) (o : Nat) (w : World) (cs : Array Value), VAt w g t cs → VAt (w.setCells g o vs) g t (a2V cs o vs)
 | [], _, _, _, h => h
 | v :: vs, o, _, _, h => VAt.setCells vs (o + 1) _ _ (h.set o v)
theorem a2u {g : Nat} : ∀ (vs : List Value) (o : Nat) (w : World), w.grownBy (w.setCells g o vs) (some g)
 | [], _, w => World.grownBy.refl w (some g)
 | v :: vs, o, w => d5 (D3 w g o v) (a2u vs (o + 1) _)
theorem M8 (n : Nat) (ys : List UInt8) (h : ys.length = n + 1) : ∃ a r, ys = a :: r ∧ r.length = n := by
 cases ys with
 | nil => cases h
 | cons a r => exact ⟨a, r, rfl, by simpa using h⟩
theorem a6T (ys : List UInt8) (h : ys.length = 16) : ∃ a b c d e f g i j k l m n o p q, ys = [a, b, c, d, e, f, g, i, j, k, l, m, n, o, p, q] := by
 obtain ⟨a, r0, rfl, h0⟩ := M8 15 ys h
 obtain ⟨b, r1, rfl, h1⟩ := M8 14 r0 h0
 obtain ⟨c, r2, rfl, h2⟩ := M8 13 r1 h1
 obtain ⟨d, r3, rfl, h3⟩ := M8 12 r2 h2
 obtain ⟨e, r4, rfl, h4⟩ := M8 11 r3 h3
 obtain ⟨f, r5, rfl, h5⟩ := M8 10 r4 h4
 obtain ⟨g, r6, rfl, h6⟩ := M8 9 r5 h5
 obtain ⟨i, r7, rfl, h7⟩ := M8 8 r6 h6
 obtain ⟨j, r8, rfl, h8⟩ := M8 7 r7 h7
 obtain ⟨k, r9, rfl, h9⟩ := M8 6 r8 h8
 obtain ⟨l, r10, rfl, h10⟩ := M8 5 r9 h9
 obtain ⟨m, r11, rfl, h11⟩ := M8 4 r10 h10
 obtain ⟨n, r12, rfl, h12⟩ := M8 3 r11 h11
 obtain ⟨o, r13, rfl, h13⟩ := M8 2 r12 h12
 obtain ⟨p, r14, rfl, h14⟩ := M8 1 r13 h13
 obtain ⟨q, r15, rfl, h15⟩ := M8 0 r14 h14
 cases r15 with
 | nil => exact ⟨a, b, c, d, e, f, g, i, j, k, l, m, n, o, p, q, rfl⟩
 | cons _ _ => cases h15
theorem a4Y (k : Nat) (ys : List UInt8) (h : ys.length = 16) : a2V (adN k 3).cells.toArray 7 (ys.map bv) = (adX k 3 ys).cells.toArray := by
 obtain ⟨a1, a2, a3, a4, a5, a6, a7, a8, a9, a10, a11, a12, a13, a14, a15, a16, rfl⟩ := a6T ys h
 kernel_rfl
theorem VAt.there {w : World} {g t : Nat} {cs : Array Value} (h : VAt w g t cs) (o n : Nat) (hn : o + n ≤ cs.size) : w.there g o n := fun j hj => by
 refine ⟨?_, h.free _⟩
 rw [h.cell (o + j), Array.getElem?_eq_getElem (by omega)]
 rfl

section
variable {c : PC} {w w' : World} {i bud : Nat} {vt vp : Value} {s : Rt} {pl : Int}
theorem RT.awayG {S : Nat → Prop} (h : RT c w i vt vp s bud pl) (K : GB w w' S) (hS : ∀ x, S x → ¬ d3 c.g vt vp x ∧ ¬ c.tv.ownBlock = some x ∧ c.w0.heap.size ≤ x) : RT c w' i vt vp s bud pl :=
 have m : RB c w' i vt vp s.nest (erC s) pl (s.ns.map Prod.fst) (s.ns.map plc) := by
  refine ⟨⟨K.os.trans h.mem.grown.os, K.tape.trans h.mem.grown.tape, K.output.trans h.mem.grown.output, Nat.le_trans h.mem.grown.size K.size, fun k hk _ => ?_⟩, K.vat h.mem.blk (fun hs => (hS _ hs).1 (.inl rfl)), h.mem.new, K.owns h.mem.toks (fun x hx hs => (hS x hs).2.1 hx), K.owns h.mem.tree (fun x hx hs => (hS x hs).1 (.inr (.inl hx))), K.owns h.mem.places (fun x hx hs => (hS x hs).1 (.inr (.inr hx)))⟩
  exact (K.block k (Nat.lt_of_lt_of_le hk h.mem.grown.size) (fun hs => by have := (hS k hs).2.2; omega)).trans (h.mem.grown.block k hk (by simp))
 { h with mem := m }
theorem a88 (h : RT c w i vt vp s bud pl) : s.now.text.length ≤ 65536 := by
 cases he : s.er with
 | none => rw [E9 he]; exact h.good.hd.2.1
 | some x => rw [a1p he]; exact Nat.zero_le _
structure AN (w W : World) (R T B : Nat) (tc x : Array Value) : Prop where
 grown : w.grownBy W none
 res : VAt W R 54 nd0.cells.toArray
 tok : VAt W T 42 tc
 nod : VAt W B 54 x
 hR : w.heap.size ≤ R
 hT : w.heap.size ≤ T
 hB : w.heap.size ≤ B
 rb : R < B
 tb : T < B
theorem AN.keep {W W' : World} {R T B : Nat} {tc x : Array Value} (h : AN w W R T B tc x) (G : W.grownBy W' none) : AN w W' R T B tc x :=
 { h with grown := d5 h.grown G, res := h.res.kept G, tok := h.tok.kept G, nod := h.nod.kept G }
theorem AN.off {W W' : World} {R T B V : Nat} {tc x : Array Value} (h : AN w W R T B tc x) (G : W.grownBy W' (some V)) (hV : B < V) : AN w W' R T B tc x :=
 { h with grown := z6 h.grown G (fun y hy => by cases hy; have := h.hB; omega), res := h.res.grown G (by have := h.rb; simp; omega), tok := h.tok.grown G (by have := h.tb; simp; omega), nod := h.nod.grown G (by simp; omega) }
theorem AN.put {W W' : World} {R T B : Nat} {tc x x' : Array Value} (h : AN w W R T B tc x) (G : W.grownBy W' (some B)) (A : VAt W' B 54 x') : AN w W' R T B tc x' :=
 { h with grown := z6 h.grown G (fun y hy => by cases hy; exact h.hB), res := h.res.grown G (by have := h.rb; simp; omega), tok := h.tok.grown G (by have := h.tb; simp; omega), nod := A }
theorem AN.below {W W' : World} {R T B : Nat} {tc x x' : Array Value} (h : AN w W R T B tc x) (G : Below B W W') (A : VAt W' B 54 x') : AN w W' R T B tc x' := by
 have hg : w.grownBy W' none := ⟨G.os.trans h.grown.os, G.tape.trans h.grown.tape, G.output.trans h.grown.output, Nat.le_trans h.grown.size G.size, fun k hk _ => (G.block k (by have := h.hB; omega)).trans (h.grown.block k hk (by simp))⟩
 refine { h with grown := hg, res := ?_, tok := ?_, nod := A }
 ·unfold VAt
  rw [G.block R h.rb]
  exact h.res
 ·unfold VAt
  rw [G.block T h.tb]
  exact h.tok
theorem AN.fin {W W8 : World} {R T B i0 bud0 : Nat} {tc x : Array Value} {s0 s' : Rt} (h0 : RS c w i0 vt vp s0 bud0) (h : AN w W R T B tc x) (R8 : c8 c W vt vp s' bud W8) :
  VAt W8 B 54 x ∧ VAt W8 R 54 nd0.cells.toArray ∧ ∀ y, c8 c w vt vp s' bud (W8.setRow R y) := by
 obtain ⟨i8, v8, u8, H8, G8, F8⟩ := R8
 have fR : ¬ d3 c.g vt vp R := fun hf => by have := h0.mem.lt hf; have := h.hR; omega
 have fB : ¬ d3 c.g vt vp B := fun hf => by have := h0.mem.lt hf; have := h.hB; omega
 refine ⟨G8.vat h.nod fB, G8.vat h.res fR, fun y => ⟨i8, v8, u8, ?_, ?_, fun z hz hf => F8 z (Nat.lt_of_lt_of_le hz h.grown.size) hf⟩⟩
 ·refine H8.awayG (S := fun z => z = R) (GB.of (j7 (World.grownBy.refl W8 (some R)) R y (.inl rfl)) (fun z hz => by cases hz; rfl)) ?_
  rintro z rfl
  refine ⟨fun hf => fR (F8 z h.res.lt hf), fun e => ?_, Nat.le_trans h0.mem.grown.size h.hR⟩
  have := (h0.mem.toks.lt z e).2
  have := h.hR
  omega
 ·refine ((GB.non (S := d3 c.g vt vp) h.grown).trans G8 (fun _ _ k => k)).trans (GB.of (S := fun z => z = R) (j7 (World.grownBy.refl W8 (some R)) R y (.inl rfl)) (fun z hz => by cases hz; rfl)) ?_
  rintro z hz rfl
  have := h.hR
  omega
end

section
variable {c : PC} {w : World} {i bud : Nat} {vt vp : Value} {s : Rt}
theorem a8Y (h : RS c w i vt vp s bud) (k : Nat) (k3 : s.now.kind ≠ 3) (k4 : s.now.kind ≠ 4) :
  Calls Tryz.prog 70 #[.pointer (some ⟨c.g, 0, none⟩), .int .i64 (k : Int)] w fun e w' => ∃ x : Nd, e = .returned (.agg x.cells.toArray) ∧ c8 c w vt vp (s.fail 111) bud w' := by
 have HP : Hid (RS c w i vt vp s bud) := h
 have K1 := World.grownBy_alloc w (.cells nd0.cells.toArray 54) none
 have RA := VAt.alloc w 54 nd0.cells.toArray
 have CN := E6 (h.keep K1)
 have HF : Hid (∀ (x : Int) (W : World), 1 ≤ x → x ≤ 1000 → w.grownBy W none → Calls Tryz.prog 14 #[.pointer (some ⟨c.g, 0, none⟩), .int .i64 x] W fun e w' => e = .returned (.tuple #[]) ∧ c8 c W vt vp (s.fail x) bud w') := fun x W h1 h2 G => M2 (h.keep G) x h1 h2
 have HB := a1b k
 have HF0 := fun k p x n W => (o8 k p x n W).1
 have HF2 := fun k p x n W => (o8 k p x n W).2.2.1
 generalize s.now = t at *
 clear h
 obtain ⟨tk, tp, tx, tn⟩ := t
 unfold tkC at CN
 simp only at *
 have e3 : ((tk : Int) == 3) = false := by simp only [beq_eq_false_iff_ne]; omega
 have e4 : ((tk : Int) == 4) = false := by simp only [beq_eq_false_iff_ne]; omega
 clear k3 k4
 go_enter Tryz.func70, Tryz.ntmps70
 go_upto_region 1 with fail
 rw [show #[.int .i64 0, .int .i64 0, .int .u32 0, .int .u32 0, .int .i64 0, .int .i64 0, .int .i64 0, .int .u8 0, .int .u8 0, .int .u8 0, .int .u8 0, .int .u8 0, .int .u8 0, .int .u8 0, .int .u8 0, .int .u8 0, .int .u8 0, .int .u8 0, .int .u8 0, .int .u8 0, .int .u8 0, .int .u8 0, .int .u8 0, .int .i64 0] = nd0.cells.toArray from rfl]
 generalize w.alloc (.cells nd0.cells.toArray 54) = w1 at *
 go_wp2_with fail
 refine CN.mono ?_
 rintro e w2 ⟨rfl, G2⟩
 have HA3 : Hid (w.grownBy (w2.alloc (.cells #[.int .i64 (tk : Int), .int .i64 (tp : Int), .string ⟨tx.toArray⟩, .int .u32 (tn : Int)] 42)) none ∧ VAt (w2.alloc (.cells #[.int .i64 (tk : Int), .int .i64 (tp : Int), .string ⟨tx.toArray⟩, .int .u32 (tn : Int)] 42)) w.heap.size 54 nd0.cells.toArray ∧ VAt (w2.alloc (.cells #[.int .i64 (tk : Int), .int .i64 (tp : Int), .string ⟨tx.toArray⟩, .int .u32 (tn : Int)] 42)) w2.heap.size 42 #[.int .i64 (tk : Int), .int .i64 (tp : Int), .string ⟨tx.toArray⟩, .int .u32 (tn : Int)] ∧ w.heap.size ≤ w2.heap.size ∧ w.heap.size < (w2.alloc (.cells #[.int .i64 (tk : Int), .int .i64 (tp : Int), .string ⟨tx.toArray⟩, .int .u32 (tn : Int)] 42)).heap.size ∧ w2.heap.size < (w2.alloc (.cells #[.int .i64 (tk : Int), .int .i64 (tp : Int), .string ⟨tx.toArray⟩, .int .u32 (tn : Int)] 42)).heap.size) := by
  have K2 := d5 K1 G2
  have K3 := World.grownBy_alloc w2 (.cells #[.int .i64 (tk : Int), .int .i64 (tp : Int), .string ⟨tx.toArray⟩, .int .u32 (tn : Int)] 42) none
  have V3 := (RA.kept G2).kept K3
  exact ⟨d5 K2 K3, V3, VAt.alloc w2 _ _, K2.size, V3.lt, (VAt.alloc w2 _ _).lt⟩
 clear CN K1 RA G2
 go_upto_region 2 with fail
 generalize w2.alloc (.cells #[.int .i64 (tk : Int), .int .i64 (tp : Int), .string ⟨tx.toArray⟩, .int .u32 (tn : Int)] 42) = w3 at *
 generalize w2.heap.size = T at *
 have HS : Hid ((Tryz.prog.info? 54).map (·.size) = some (adN k 2).cells.toArray.size) := g8 _
 go_upto_region 3 with (first | refine o6 rfl 54 _ rfl _ (by kernel_rfl) (.agg (adN k 2).cells.toArray) HB ?_ | refine wpList_store_row rfl 54 (.tmp 6) (.tmp 12) rfl w3.heap.size (adN k 2).cells.toArray rfl rfl 54 _ (VAt.alloc w3 _ _) HS.out rfl (j3 _) ?_)
 rw [World.setRow_alloc_new]
 have HAN : Hid (AN w (w3.alloc (.cells (adN k 2).cells.toArray 54)) w.heap.size T w3.heap.size #[.int .i64 (tk : Int), .int .i64 (tp : Int), .string ⟨tx.toArray⟩, .int .u32 (tn : Int)] (adN k 2).cells.toArray) := by
  have K4 := World.grownBy_alloc w3 (.cells (adN k 2).cells.toArray 54) none
  have a := HA3.out
  exact ⟨d5 a.1 K4, a.2.1.kept K4, a.2.2.1.kept K4, VAt.alloc w3 _ _, Nat.le_refl _, a.2.2.2.1, Nat.le_of_lt a.2.2.2.2.1, a.2.2.2.2.1, a.2.2.2.2.2⟩
 clear HA3 HS
 generalize w3.alloc (.cells (adN k 2).cells.toArray 54) = w4 at *
 generalize w3.heap.size = B at *
 have HR0 : Hid (w.heap.size = w.heap.size) := rfl
 have p0 := HAN.out.tok.cell 0
 have p2 := HAN.out.tok.cell 2
 obtain ⟨R, hR⟩ : ∃ R, w.heap.size = R := ⟨_, rfl⟩
 rw [hR] at HAN ⊢
 clear hR HR0
 have CX := HF.out 111 w4 (by decide) (by decide) HAN.out.grown
 clear HF HB
 go_wp2_with fail
 refine CX.mono ?_
 rintro e w8 ⟨rfl, R8⟩
 have HFIN : Hid (VAt w8 B 54 (adN k 2).cells.toArray ∧ VAt w8 R 54 nd0.cells.toArray ∧ ∀ y, c8 c w vt vp (s.fail 111) bud (w8.setRow R y)) := HAN.out.fin HP.out R8
 obtain ⟨Y, hY⟩ : ∃ Y, (adN k 2).cells.toArray = Y := ⟨_, rfl⟩
 have HZ : Hid ((Tryz.prog.info? 54).map (·.size) = some Y.size ∧ nd0.cells.toArray.size = Y.size ∧ Y.all (·.oneCell') = true) := by rw [← hY]; exact ⟨g8 _, rfl, j3 _⟩
 have HYE : Hid ((adN k 2).cells.toArray = Y) := hY
 rw [hY] at HFIN
 have VB := HFIN.out.1
 have VR := HFIN.out.2.1
 have HXX := HFIN.out.2.2 Y
 obtain ⟨Z, hZ⟩ : ∃ Z, nd0.cells.toArray = Z := ⟨_, rfl⟩
 rw [hZ] at VR HZ
 have HX : Hid (c8 c w vt vp (s.fail 111) bud (w8.setRow R Y)) := HXX
 have HVR : Hid (VAt (w8.setRow R Y) R 54 Y) := VR.setRow Y
 clear HFIN hY hZ HXX R8 HAN CX p0 p2
 go_wp2_with (first | refine wpList_load_row rfl 54 (.tmp 6) rfl B rfl 54 Y (0, 0) _ VB Tryz.underlying54 rfl HZ.out.1 ?_ | refine wpList_store_row rfl 54 (.tmp 4) (.tmp 39) rfl R Y rfl rfl 54 _ VR HZ.out.1 HZ.out.2.1 HZ.out.2.2 ?_)
 refine bodyPost_ret (N8 rfl _ _ R Y _ rfl HVR.out Tryz.underlying54 rfl HZ.out.1) rfl ?_
 exact ⟨adN k 2, by rw [HYE.out], HX.out⟩
theorem a90 (h : RS c w i vt vp s bud) (k : Nat) (k3 : s.now.kind = 3) (hl : s.now.text.length ≤ 65536) (hp : x1 s.now.text = none) :
  Calls Tryz.prog 70 #[.pointer (some ⟨c.g, 0, none⟩), .int .i64 (k : Int)] w fun e w' => ∃ x : Nd, e = .returned (.agg x.cells.toArray) ∧ c8 c w vt vp (s.fail 112) bud w' := by
 have HP : Hid (RS c w i vt vp s bud) := h
 have K1 := World.grownBy_alloc w (.cells nd0.cells.toArray 54) none
 have RA := VAt.alloc w 54 nd0.cells.toArray
 have CN := E6 (h.keep K1)
 have HF : Hid (∀ (x : Int) (W : World), 1 ≤ x → x ≤ 1000 → w.grownBy W none → Calls Tryz.prog 14 #[.pointer (some ⟨c.g, 0, none⟩), .int .i64 x] W fun e w' => e = .returned (.tuple #[]) ∧ c8 c W vt vp (s.fail x) bud w') := fun x W h1 h2 G => M2 (h.keep G) x h1 h2
 have HB := a1b k
 have HF0 := fun k p x n W => (o8 k p x n W).1
 have HF2 := fun k p x n W => (o8 k p x n W).2.2.1
 generalize s.now = t at *
 clear h
 obtain ⟨tk, tp, tx, tn⟩ := t
 unfold tkC at CN
 simp only at *
 have e3 : ((tk : Int) == 3) = true := by rw [k3]; rfl
 have C4 := fun W => a57 ⟨tx.toArray⟩ W (by rw [← j0, J3]; omega)
 rw [J3] at C4
 unfold X0 X1 at C4
 rw [hp] at C4
 have HC4 : Hid (∀ W, Calls Tryz.prog 77 #[.string ⟨tx.toArray⟩] W fun e w' => e = .returned (.tuple #[.agg ((List.replicate 4 (0 : UInt8)).map bv).toArray, .int .i64 60]) ∧ W.grownBy w' none) := C4
 clear k3 C4 hl
 go_enter Tryz.func70, Tryz.ntmps70
 go_upto_region 1 with fail
 rw [show #[.int .i64 0, .int .i64 0, .int .u32 0, .int .u32 0, .int .i64 0, .int .i64 0, .int .i64 0, .int .u8 0, .int .u8 0, .int .u8 0, .int .u8 0, .int .u8 0, .int .u8 0, .int .u8 0, .int .u8 0, .int .u8 0, .int .u8 0, .int .u8 0, .int .u8 0, .int .u8 0, .int .u8 0, .int .u8 0, .int .u8 0, .int .i64 0] = nd0.cells.toArray from rfl]
 generalize w.alloc (.cells nd0.cells.toArray 54) = w1 at *
 go_wp2_with fail
 refine CN.mono ?_
 rintro e w2 ⟨rfl, G2⟩
 have HA3 : Hid (w.grownBy (w2.alloc (.cells #[.int .i64 (tk : Int), .int .i64 (tp : Int), .string ⟨tx.toArray⟩, .int .u32 (tn : Int)] 42)) none ∧ VAt (w2.alloc (.cells #[.int .i64 (tk : Int), .int .i64 (tp : Int), .string ⟨tx.toArray⟩, .int .u32 (tn : Int)] 42)) w.heap.size 54 nd0.cells.toArray ∧ VAt (w2.alloc (.cells #[.int .i64 (tk : Int), .int .i64 (tp : Int), .string ⟨tx.toArray⟩, .int .u32 (tn : Int)] 42)) w2.heap.size 42 #[.int .i64 (tk : Int), .int .i64 (tp : Int), .string ⟨tx.toArray⟩, .int .u32 (tn : Int)] ∧ w.heap.size ≤ w2.heap.size ∧ w.heap.size < (w2.alloc (.cells #[.int .i64 (tk : Int), .int .i64 (tp : Int), .string ⟨tx.toArray⟩, .int .u32 (tn : Int)] 42)).heap.size ∧ w2.heap.size < (w2.alloc (.cells #[.int .i64 (tk : Int), .int .i64 (tp : Int), .string ⟨tx.toArray⟩, .int .u32 (tn : Int)] 42)).heap.size) := by
  have K2 := d5 K1 G2
  have K3 := World.grownBy_alloc w2 (.cells #[.int .i64 (tk : Int), .int .i64 (tp : Int), .string ⟨tx.toArray⟩, .int .u32 (tn : Int)] 42) none
  have V3 := (RA.kept G2).kept K3
  exact ⟨d5 K2 K3, V3, VAt.alloc w2 _ _, K2.size, V3.lt, (VAt.alloc w2 _ _).lt⟩
 clear CN K1 RA G2
 go_upto_region 2 with fail
 generalize w2.alloc (.cells #[.int .i64 (tk : Int), .int .i64 (tp : Int), .string ⟨tx.toArray⟩, .int .u32 (tn : Int)] 42) = w3 at *
 generalize w2.heap.size = T at *
 have HS : Hid ((Tryz.prog.info? 54).map (·.size) = some (adN k 2).cells.toArray.size) := g8 _
 go_upto_region 3 with (first | refine o6 rfl 54 _ rfl _ (by kernel_rfl) (.agg (adN k 2).cells.toArray) HB ?_ | refine wpList_store_row rfl 54 (.tmp 6) (.tmp 12) rfl w3.heap.size (adN k 2).cells.toArray rfl rfl 54 _ (VAt.alloc w3 _ _) HS.out rfl (j3 _) ?_)
 rw [World.setRow_alloc_new]
 have HAN : Hid (AN w (w3.alloc (.cells (adN k 2).cells.toArray 54)) w.heap.size T w3.heap.size #[.int .i64 (tk : Int), .int .i64 (tp : Int), .string ⟨tx.toArray⟩, .int .u32 (tn : Int)] (adN k 2).cells.toArray) := by
  have K4 := World.grownBy_alloc w3 (.cells (adN k 2).cells.toArray 54) none
  have a := HA3.out
  exact ⟨d5 a.1 K4, a.2.1.kept K4, a.2.2.1.kept K4, VAt.alloc w3 _ _, Nat.le_refl _, a.2.2.2.1, Nat.le_of_lt a.2.2.2.2.1, a.2.2.2.2.1, a.2.2.2.2.2⟩
 clear HA3 HS
 generalize w3.alloc (.cells (adN k 2).cells.toArray 54) = w4 at *
 generalize w3.heap.size = B at *
 have HR0 : Hid (w.heap.size = w.heap.size) := rfl
 have p0 := HAN.out.tok.cell 0
 have p2 := HAN.out.tok.cell 2
 obtain ⟨R, hR⟩ : ∃ R, w.heap.size = R := ⟨_, rfl⟩
 rw [hR] at HAN ⊢
 clear hR HR0
 obtain ⟨ys, hys⟩ : ∃ ys : List UInt8, List.replicate 4 0 = ys := ⟨_, rfl⟩
 rw [hys] at HC4
 have hy4 : ys.length = 4 := by rw [← hys]; rfl
 clear hys hp
 go_upto_region 6 with fail
 have V4 := VAt.alloc w4 102 #[.int .u8 0, .int .u8 0, .int .u8 0, .int .u8 0]
 have HA5 : Hid (AN w (w4.alloc (.cells #[.int .u8 0, .int .u8 0, .int .u8 0, .int .u8 0] 102)) R T B #[.int .i64 (tk : Int), .int .i64 (tp : Int), .string ⟨tx.toArray⟩, .int .u32 (tn : Int)] (adN k 2).cells.toArray ∧ B < w4.heap.size) := ⟨HAN.out.keep (World.grownBy_alloc w4 _ none), HAN.out.nod.lt⟩
 clear HAN p0
 generalize w4.alloc (.cells #[.int .u8 0, .int .u8 0, .int .u8 0, .int .u8 0] 102) = w5 at *
 generalize w4.heap.size = V at *
 have p2 := HA5.out.1.tok.cell 2
 have C4 := HC4.out w5
 go_wp2_with fail
 refine C4.mono ?_
 rintro e w6 ⟨rfl, G6⟩
 have V6 := V4.kept G6
 have HSZ : Hid ((Tryz.prog.info? 102).map (·.size) = some (ys.map bv).toArray.size ∧ (#[.int .u8 0, .int .u8 0, .int .u8 0, .int .u8 0] : Array Value).size = (ys.map bv).toArray.size ∧ (ys.map bv).toArray.all (·.oneCell') = true) := by
  refine ⟨?_, ?_, I1 _⟩
  ·rw [A5, hy4]; exact T2
  ·rw [A5, hy4]; rfl
 have HQ7 : Hid (AN w (w6.setRow V (ys.map bv).toArray) R T B #[.int .i64 (tk : Int), .int .i64 (tp : Int), .string ⟨tx.toArray⟩, .int .u32 (tn : Int)] (adN k 2).cells.toArray ∧ VAt (w6.setRow V (ys.map bv).toArray) V 102 (ys.map bv).toArray) := ⟨(HA5.out.1.keep G6).off (j7 (World.grownBy.refl w6 (some V)) V _ (.inl rfl)) HA5.out.2, V6.setRow _⟩
 clear C4 HC4 HA5 V4 G6 p2
 go_upto_region 7 with (refine wpList_store_row rfl 102 (.tmp 8) (.tmp 20) rfl V (ys.map bv).toArray rfl rfl 102 _ V6 HSZ.out.1 HSZ.out.2.1 HSZ.out.2.2 ?_)
 generalize w6.setRow V (ys.map bv).toArray = w7 at *
 clear V6 HSZ
 have hsz5 : (Tryz.prog.info? 5).map (·.size) = some 1 := by kernel_rfl
 have HR6 : Hid (w7.heap[B]? = some (.cells (adN k 2).cells.toArray 54 (0, 0))) := HQ7.out.1.nod
 have HC6 : Hid (∀ j v, (ys.map bv)[j]? = some v → w7.cell? ((⟨V, 0, none⟩ : Addr).add j) = some v) := fun j v hj => by
  rw [Addr.add_mid, Nat.zero_add, HQ7.out.2.cell j]
  simpa using hj
 have HB6 : Hid (Below B w7 w7.drew) := (Below.refl B w7).grown (f8 w7 1 none) (Nat.le_of_lt HQ7.out.1.nod.lt) (by simp)
 have hl4 : (ys.map bv).length = 4 := by rw [List.length_map]; exact hy4
 obtain ⟨cur, hcur⟩ : ∃ cur, (adN k 2).cells = cur := ⟨_, rfl⟩
 have HCU : Hid ((adN k 2).cells = cur ∧ cur.length = 24) := ⟨hcur, by rw [← hcur]; rfl⟩
 rw [hcur] at HR6
 go_region_law (refine step_copy_splice rfl (.tmp 23) (.tmp 24) 105 105 rfl 5 Tryz.underlying105 hsz5 (some ⟨B, 7, none⟩) (some ⟨V, 0, none⟩) 4 16 4 4 (by first | rfl | simp [Act.eval]) (by first | rfl | simp [Act.eval]) B 7 cur 54 (by exact HR6.out) (ys.map bv) (by rw [hl4]; rfl) (fun _ => ⟨rfl, _, rfl, by exact HC6.out⟩) (by rw [hl4, HCU.out.2]; decide) (Y6 ys) B w7 (by exact HB6.out) (Nat.le_refl _) ?_; intro w8 hg8 hb8)
 have HN8 : Hid (AN w w8 R T B #[.int .i64 (tk : Int), .int .i64 (tp : Int), .string ⟨tx.toArray⟩, .int .u32 (tn : Int)] (adX k 2 (ys ++ List.replicate 12 0)).cells.toArray) := by
  refine HQ7.out.1.below hb8 ?_
  unfold VAt
  rw [hg8.out, ← HCU.out.1, a5p k ys hy4]
 clear hg8 hb8 HQ7 HR6 HC6 HB6 hl4 hsz5 hcur HCU
 generalize w8 = w7 at *
 have CX := HF.out 112 w7 (by decide) (by decide) HN8.out.grown
 clear HF HB
 go_wp2_with fail
 refine CX.mono ?_
 rintro e w8 ⟨rfl, R8⟩
 have HFIN : Hid (VAt w8 B 54 (adX k 2 (ys ++ List.replicate 12 0)).cells.toArray ∧ VAt w8 R 54 nd0.cells.toArray ∧ ∀ y, c8 c w vt vp (s.fail 112) bud (w8.setRow R y)) := HN8.out.fin HP.out R8
 obtain ⟨Y, hY⟩ : ∃ Y, (adX k 2 (ys ++ List.replicate 12 0)).cells.toArray = Y := ⟨_, rfl⟩
 have HZ : Hid ((Tryz.prog.info? 54).map (·.size) = some Y.size ∧ nd0.cells.toArray.size = Y.size ∧ Y.all (·.oneCell') = true) := by rw [← hY]; exact ⟨g8 _, rfl, j3 _⟩
 have HYE : Hid ((adX k 2 (ys ++ List.replicate 12 0)).cells.toArray = Y) := hY
 rw [hY] at HFIN
 have VB := HFIN.out.1
 have VR := HFIN.out.2.1
 have HXX := HFIN.out.2.2 Y
 obtain ⟨Z, hZ⟩ : ∃ Z, nd0.cells.toArray = Z := ⟨_, rfl⟩
 rw [hZ] at VR HZ
 have HX : Hid (c8 c w vt vp (s.fail 112) bud (w8.setRow R Y)) := HXX
 have HVR : Hid (VAt (w8.setRow R Y) R 54 Y) := VR.setRow Y
 clear HFIN hY hZ HXX R8 HN8 CX
 go_wp2_with (first | refine wpList_load_row rfl 54 (.tmp 6) rfl B rfl 54 Y (0, 0) _ VB Tryz.underlying54 rfl HZ.out.1 ?_ | refine wpList_store_row rfl 54 (.tmp 4) (.tmp 44) rfl R Y rfl rfl 54 _ VR HZ.out.1 HZ.out.2.1 HZ.out.2.2 ?_)
 refine bodyPost_ret (N8 rfl _ _ R Y _ rfl HVR.out Tryz.underlying54 rfl HZ.out.1) rfl ?_
 exact ⟨adX k 2 (ys ++ List.replicate 12 0), by rw [HYE.out], HX.out⟩
theorem a8Z (h : RS c w i vt vp s bud) (k : Nat) (ys : List UInt8) (k3 : s.now.kind = 3) (hl : s.now.text.length ≤ 65536) (hp : x1 s.now.text = some ys) :
  Calls Tryz.prog 70 #[.pointer (some ⟨c.g, 0, none⟩), .int .i64 (k : Int)] w fun e w' => e = .returned (.agg (adX k 2 (ys ++ List.replicate 12 0)).cells.toArray) ∧ c8 c w vt vp s.next bud w' := by
 have HP : Hid (RS c w i vt vp s bud) := h
 have K1 := World.grownBy_alloc w (.cells nd0.cells.toArray 54) none
 have RA := VAt.alloc w 54 nd0.cells.toArray
 have CN := E6 (h.keep K1)
 have HF : Hid (∀ (x : Int) (W : World), 1 ≤ x → x ≤ 1000 → w.grownBy W none → Calls Tryz.prog 14 #[.pointer (some ⟨c.g, 0, none⟩), .int .i64 x] W fun e w' => e = .returned (.tuple #[]) ∧ c8 c W vt vp (s.fail x) bud w') := fun x W h1 h2 G => M2 (h.keep G) x h1 h2
 have HB := a1b k
 have HF0 := fun k p x n W => (o8 k p x n W).1
 have HF2 := fun k p x n W => (o8 k p x n W).2.2.1
 have HNX : Hid (∀ W : World, w.grownBy W none → Calls Tryz.prog 27 #[.pointer (some ⟨c.g, 0, none⟩)] W fun e w' => e = .returned (.tuple #[]) ∧ c8 c W vt vp s.next bud w') := fun W G => (q8 (h.keep G) (fun _ => (X6 (s := s) (by omega)).2)).mono fun _ _ ⟨x, y⟩ => ⟨x, y.less (Nat.le_succ _)⟩
 generalize s.now = t at *
 clear h
 obtain ⟨tk, tp, tx, tn⟩ := t
 unfold tkC at CN
 simp only at *
 have e3 : ((tk : Int) == 3) = true := by rw [k3]; rfl
 have C4 := fun W => a57 ⟨tx.toArray⟩ W (by rw [← j0, J3]; omega)
 rw [J3] at C4
 unfold X0 X1 at C4
 rw [hp] at C4
 have HC4 : Hid (∀ W, Calls Tryz.prog 77 #[.string ⟨tx.toArray⟩] W fun e w' => e = .returned (.tuple #[.agg (ys.map bv).toArray, .int .i64 0]) ∧ W.grownBy w' none) := C4
 clear k3 C4 hl
 go_enter Tryz.func70, Tryz.ntmps70
 go_upto_region 1 with fail
 rw [show #[.int .i64 0, .int .i64 0, .int .u32 0, .int .u32 0, .int .i64 0, .int .i64 0, .int .i64 0, .int .u8 0, .int .u8 0, .int .u8 0, .int .u8 0, .int .u8 0, .int .u8 0, .int .u8 0, .int .u8 0, .int .u8 0, .int .u8 0, .int .u8 0, .int .u8 0, .int .u8 0, .int .u8 0, .int .u8 0, .int .u8 0, .int .i64 0] = nd0.cells.toArray from rfl]
 generalize w.alloc (.cells nd0.cells.toArray 54) = w1 at *
 go_wp2_with fail
 refine CN.mono ?_
 rintro e w2 ⟨rfl, G2⟩
 have HA3 : Hid (w.grownBy (w2.alloc (.cells #[.int .i64 (tk : Int), .int .i64 (tp : Int), .string ⟨tx.toArray⟩, .int .u32 (tn : Int)] 42)) none ∧ VAt (w2.alloc (.cells #[.int .i64 (tk : Int), .int .i64 (tp : Int), .string ⟨tx.toArray⟩, .int .u32 (tn : Int)] 42)) w.heap.size 54 nd0.cells.toArray ∧ VAt (w2.alloc (.cells #[.int .i64 (tk : Int), .int .i64 (tp : Int), .string ⟨tx.toArray⟩, .int .u32 (tn : Int)] 42)) w2.heap.size 42 #[.int .i64 (tk : Int), .int .i64 (tp : Int), .string ⟨tx.toArray⟩, .int .u32 (tn : Int)] ∧ w.heap.size ≤ w2.heap.size ∧ w.heap.size < (w2.alloc (.cells #[.int .i64 (tk : Int), .int .i64 (tp : Int), .string ⟨tx.toArray⟩, .int .u32 (tn : Int)] 42)).heap.size ∧ w2.heap.size < (w2.alloc (.cells #[.int .i64 (tk : Int), .int .i64 (tp : Int), .string ⟨tx.toArray⟩, .int .u32 (tn : Int)] 42)).heap.size) := by
  have K2 := d5 K1 G2
  have K3 := World.grownBy_alloc w2 (.cells #[.int .i64 (tk : Int), .int .i64 (tp : Int), .string ⟨tx.toArray⟩, .int .u32 (tn : Int)] 42) none
  have V3 := (RA.kept G2).kept K3
  exact ⟨d5 K2 K3, V3, VAt.alloc w2 _ _, K2.size, V3.lt, (VAt.alloc w2 _ _).lt⟩
 clear CN K1 RA G2
 go_upto_region 2 with fail
 generalize w2.alloc (.cells #[.int .i64 (tk : Int), .int .i64 (tp : Int), .string ⟨tx.toArray⟩, .int .u32 (tn : Int)] 42) = w3 at *
 generalize w2.heap.size = T at *
 have HS : Hid ((Tryz.prog.info? 54).map (·.size) = some (adN k 2).cells.toArray.size) := g8 _
 go_upto_region 3 with (first | refine o6 rfl 54 _ rfl _ (by kernel_rfl) (.agg (adN k 2).cells.toArray) HB ?_ | refine wpList_store_row rfl 54 (.tmp 6) (.tmp 12) rfl w3.heap.size (adN k 2).cells.toArray rfl rfl 54 _ (VAt.alloc w3 _ _) HS.out rfl (j3 _) ?_)
 rw [World.setRow_alloc_new]
 have HAN : Hid (AN w (w3.alloc (.cells (adN k 2).cells.toArray 54)) w.heap.size T w3.heap.size #[.int .i64 (tk : Int), .int .i64 (tp : Int), .string ⟨tx.toArray⟩, .int .u32 (tn : Int)] (adN k 2).cells.toArray) := by
  have K4 := World.grownBy_alloc w3 (.cells (adN k 2).cells.toArray 54) none
  have a := HA3.out
  exact ⟨d5 a.1 K4, a.2.1.kept K4, a.2.2.1.kept K4, VAt.alloc w3 _ _, Nat.le_refl _, a.2.2.2.1, Nat.le_of_lt a.2.2.2.2.1, a.2.2.2.2.1, a.2.2.2.2.2⟩
 clear HA3 HS
 generalize w3.alloc (.cells (adN k 2).cells.toArray 54) = w4 at *
 generalize w3.heap.size = B at *
 have HR0 : Hid (w.heap.size = w.heap.size) := rfl
 have p0 := HAN.out.tok.cell 0
 have p2 := HAN.out.tok.cell 2
 obtain ⟨R, hR⟩ : ∃ R, w.heap.size = R := ⟨_, rfl⟩
 rw [hR] at HAN ⊢
 clear hR HR0
 have hy4 : ys.length = 4 := a2P hp
 go_upto_region 6 with fail
 have V4 := VAt.alloc w4 102 #[.int .u8 0, .int .u8 0, .int .u8 0, .int .u8 0]
 have HA5 : Hid (AN w (w4.alloc (.cells #[.int .u8 0, .int .u8 0, .int .u8 0, .int .u8 0] 102)) R T B #[.int .i64 (tk : Int), .int .i64 (tp : Int), .string ⟨tx.toArray⟩, .int .u32 (tn : Int)] (adN k 2).cells.toArray ∧ B < w4.heap.size) := ⟨HAN.out.keep (World.grownBy_alloc w4 _ none), HAN.out.nod.lt⟩
 clear HAN p0
 generalize w4.alloc (.cells #[.int .u8 0, .int .u8 0, .int .u8 0, .int .u8 0] 102) = w5 at *
 generalize w4.heap.size = V at *
 have p2 := HA5.out.1.tok.cell 2
 have C4 := HC4.out w5
 go_wp2_with fail
 refine C4.mono ?_
 rintro e w6 ⟨rfl, G6⟩
 have V6 := V4.kept G6
 have HSZ : Hid ((Tryz.prog.info? 102).map (·.size) = some (ys.map bv).toArray.size ∧ (#[.int .u8 0, .int .u8 0, .int .u8 0, .int .u8 0] : Array Value).size = (ys.map bv).toArray.size ∧ (ys.map bv).toArray.all (·.oneCell') = true) := by
  refine ⟨?_, ?_, I1 _⟩
  ·rw [A5, hy4]; exact T2
  ·rw [A5, hy4]; rfl
 have HQ7 : Hid (AN w (w6.setRow V (ys.map bv).toArray) R T B #[.int .i64 (tk : Int), .int .i64 (tp : Int), .string ⟨tx.toArray⟩, .int .u32 (tn : Int)] (adN k 2).cells.toArray ∧ VAt (w6.setRow V (ys.map bv).toArray) V 102 (ys.map bv).toArray) := ⟨(HA5.out.1.keep G6).off (j7 (World.grownBy.refl w6 (some V)) V _ (.inl rfl)) HA5.out.2, V6.setRow _⟩
 clear C4 HC4 HA5 V4 G6 p2
 go_upto_region 7 with (refine wpList_store_row rfl 102 (.tmp 8) (.tmp 20) rfl V (ys.map bv).toArray rfl rfl 102 _ V6 HSZ.out.1 HSZ.out.2.1 HSZ.out.2.2 ?_)
 generalize w6.setRow V (ys.map bv).toArray = w7 at *
 clear V6 HSZ
 have hsz5 : (Tryz.prog.info? 5).map (·.size) = some 1 := by kernel_rfl
 have HR6 : Hid (w7.heap[B]? = some (.cells (adN k 2).cells.toArray 54 (0, 0))) := HQ7.out.1.nod
 have HC6 : Hid (∀ j v, (ys.map bv)[j]? = some v → w7.cell? ((⟨V, 0, none⟩ : Addr).add j) = some v) := fun j v hj => by
  rw [Addr.add_mid, Nat.zero_add, HQ7.out.2.cell j]
  simpa using hj
 have HB6 : Hid (Below B w7 w7.drew) := (Below.refl B w7).grown (f8 w7 1 none) (Nat.le_of_lt HQ7.out.1.nod.lt) (by simp)
 have hl4 : (ys.map bv).length = 4 := by rw [List.length_map]; exact hy4
 obtain ⟨cur, hcur⟩ : ∃ cur, (adN k 2).cells = cur := ⟨_, rfl⟩
 have HCU : Hid ((adN k 2).cells = cur ∧ cur.length = 24) := ⟨hcur, by rw [← hcur]; rfl⟩
 rw [hcur] at HR6
 go_region_law (refine step_copy_splice rfl (.tmp 23) (.tmp 24) 105 105 rfl 5 Tryz.underlying105 hsz5 (some ⟨B, 7, none⟩) (some ⟨V, 0, none⟩) 4 16 4 4 (by first | rfl | simp [Act.eval]) (by first | rfl | simp [Act.eval]) B 7 cur 54 (by exact HR6.out) (ys.map bv) (by rw [hl4]; rfl) (fun _ => ⟨rfl, _, rfl, by exact HC6.out⟩) (by rw [hl4, HCU.out.2]; decide) (Y6 ys) B w7 (by exact HB6.out) (Nat.le_refl _) ?_; intro w8 hg8 hb8)
 have HN8 : Hid (AN w w8 R T B #[.int .i64 (tk : Int), .int .i64 (tp : Int), .string ⟨tx.toArray⟩, .int .u32 (tn : Int)] (adX k 2 (ys ++ List.replicate 12 0)).cells.toArray) := by
  refine HQ7.out.1.below hb8 ?_
  unfold VAt
  rw [hg8.out, ← HCU.out.1, a5p k ys hy4]
 clear hg8 hb8 HQ7 HR6 HC6 HB6 hl4 hsz5 hcur HCU
 generalize w8 = w7 at *
 have CX := HNX.out w7 HN8.out.grown
 clear HF HB HNX
 go_wp2_with fail
 refine CX.mono ?_
 rintro e w8 ⟨rfl, R8⟩
 have HFIN : Hid (VAt w8 B 54 (adX k 2 (ys ++ List.replicate 12 0)).cells.toArray ∧ VAt w8 R 54 nd0.cells.toArray ∧ ∀ y, c8 c w vt vp s.next bud (w8.setRow R y)) := HN8.out.fin HP.out R8
 obtain ⟨Y, hY⟩ : ∃ Y, (adX k 2 (ys ++ List.replicate 12 0)).cells.toArray = Y := ⟨_, rfl⟩
 have HZ : Hid ((Tryz.prog.info? 54).map (·.size) = some Y.size ∧ nd0.cells.toArray.size = Y.size ∧ Y.all (·.oneCell') = true) := by rw [← hY]; exact ⟨g8 _, rfl, j3 _⟩
 have HYE : Hid ((adX k 2 (ys ++ List.replicate 12 0)).cells.toArray = Y) := hY
 rw [hY] at HFIN
 have VB := HFIN.out.1
 have VR := HFIN.out.2.1
 have HXX := HFIN.out.2.2 Y
 obtain ⟨Z, hZ⟩ : ∃ Z, nd0.cells.toArray = Z := ⟨_, rfl⟩
 rw [hZ] at VR HZ
 have HX : Hid (c8 c w vt vp s.next bud (w8.setRow R Y)) := HXX
 have HVR : Hid (VAt (w8.setRow R Y) R 54 Y) := VR.setRow Y
 clear HFIN hY hZ HXX R8 HN8 CX
 go_wp2_with (first | refine wpList_load_row rfl 54 (.tmp 6) rfl B rfl 54 Y (0, 0) _ VB Tryz.underlying54 rfl HZ.out.1 ?_ | refine wpList_store_row rfl 54 (.tmp 4) (.tmp 47) rfl R Y rfl rfl 54 _ VR HZ.out.1 HZ.out.2.1 HZ.out.2.2 ?_)
 refine bodyPost_ret (N8 rfl _ _ R Y _ rfl HVR.out Tryz.underlying54 rfl HZ.out.1) rfl ?_
 exact ⟨by rw [HYE.out], HX.out⟩
theorem a92 (h : RS c w i vt vp s bud) (k : Nat) (k4 : s.now.kind = 4) (hl : s.now.text.length ≤ 65536) (hp : x3 s.now.text = none) :
  Calls Tryz.prog 70 #[.pointer (some ⟨c.g, 0, none⟩), .int .i64 (k : Int)] w fun e w' => ∃ x : Nd, e = .returned (.agg x.cells.toArray) ∧ c8 c w vt vp (s.fail 112) bud w' := by
 have HP : Hid (RS c w i vt vp s bud) := h
 have K1 := World.grownBy_alloc w (.cells nd0.cells.toArray 54) none
 have RA := VAt.alloc w 54 nd0.cells.toArray
 have CN := E6 (h.keep K1)
 have HF : Hid (∀ (x : Int) (W : World), 1 ≤ x → x ≤ 1000 → w.grownBy W none → Calls Tryz.prog 14 #[.pointer (some ⟨c.g, 0, none⟩), .int .i64 x] W fun e w' => e = .returned (.tuple #[]) ∧ c8 c W vt vp (s.fail x) bud w') := fun x W h1 h2 G => M2 (h.keep G) x h1 h2
 have HB := a1b k
 have HF0 := fun k p x n W => (o8 k p x n W).1
 have HF2 := fun k p x n W => (o8 k p x n W).2.2.1
 generalize s.now = t at *
 clear h
 obtain ⟨tk, tp, tx, tn⟩ := t
 unfold tkC at CN
 simp only at *
 have e3 : ((tk : Int) == 3) = false := by rw [k4]; rfl
 have e4 : ((tk : Int) == 4) = true := by rw [k4]; rfl
 have C4 := fun W => a58 ⟨tx.toArray⟩ W (by rw [← j0, J3]; omega)
 rw [J3] at C4
 unfold X0 X1 at C4
 rw [hp] at C4
 have HC4 : Hid (∀ W, Calls Tryz.prog 78 #[.string ⟨tx.toArray⟩] W fun e w' => e = .returned (.tuple #[.agg ((List.replicate 16 (0 : UInt8)).map bv).toArray, .int .i64 60]) ∧ W.grownBy w' none) := C4
 clear k4 C4 hl
 go_enter Tryz.func70, Tryz.ntmps70
 go_upto_region 1 with fail
 rw [show #[.int .i64 0, .int .i64 0, .int .u32 0, .int .u32 0, .int .i64 0, .int .i64 0, .int .i64 0, .int .u8 0, .int .u8 0, .int .u8 0, .int .u8 0, .int .u8 0, .int .u8 0, .int .u8 0, .int .u8 0, .int .u8 0, .int .u8 0, .int .u8 0, .int .u8 0, .int .u8 0, .int .u8 0, .int .u8 0, .int .u8 0, .int .i64 0] = nd0.cells.toArray from rfl]
 generalize w.alloc (.cells nd0.cells.toArray 54) = w1 at *
 go_wp2_with fail
 refine CN.mono ?_
 rintro e w2 ⟨rfl, G2⟩
 have HA3 : Hid (w.grownBy (w2.alloc (.cells #[.int .i64 (tk : Int), .int .i64 (tp : Int), .string ⟨tx.toArray⟩, .int .u32 (tn : Int)] 42)) none ∧ VAt (w2.alloc (.cells #[.int .i64 (tk : Int), .int .i64 (tp : Int), .string ⟨tx.toArray⟩, .int .u32 (tn : Int)] 42)) w.heap.size 54 nd0.cells.toArray ∧ VAt (w2.alloc (.cells #[.int .i64 (tk : Int), .int .i64 (tp : Int), .string ⟨tx.toArray⟩, .int .u32 (tn : Int)] 42)) w2.heap.size 42 #[.int .i64 (tk : Int), .int .i64 (tp : Int), .string ⟨tx.toArray⟩, .int .u32 (tn : Int)] ∧ w.heap.size ≤ w2.heap.size ∧ w.heap.size < (w2.alloc (.cells #[.int .i64 (tk : Int), .int .i64 (tp : Int), .string ⟨tx.toArray⟩, .int .u32 (tn : Int)] 42)).heap.size ∧ w2.heap.size < (w2.alloc (.cells #[.int .i64 (tk : Int), .int .i64 (tp : Int), .string ⟨tx.toArray⟩, .int .u32 (tn : Int)] 42)).heap.size) := by
  have K2 := d5 K1 G2
  have K3 := World.grownBy_alloc w2 (.cells #[.int .i64 (tk : Int), .int .i64 (tp : Int), .string ⟨tx.toArray⟩, .int .u32 (tn : Int)] 42) none
  have V3 := (RA.kept G2).kept K3
  exact ⟨d5 K2 K3, V3, VAt.alloc w2 _ _, K2.size, V3.lt, (VAt.alloc w2 _ _).lt⟩
 clear CN K1 RA G2
 go_upto_region 2 with fail
 generalize w2.alloc (.cells #[.int .i64 (tk : Int), .int .i64 (tp : Int), .string ⟨tx.toArray⟩, .int .u32 (tn : Int)] 42) = w3 at *
 generalize w2.heap.size = T at *
 have HS : Hid ((Tryz.prog.info? 54).map (·.size) = some (adN k 2).cells.toArray.size) := g8 _
 go_upto_region 3 with (first | refine o6 rfl 54 _ rfl _ (by kernel_rfl) (.agg (adN k 2).cells.toArray) HB ?_ | refine wpList_store_row rfl 54 (.tmp 6) (.tmp 12) rfl w3.heap.size (adN k 2).cells.toArray rfl rfl 54 _ (VAt.alloc w3 _ _) HS.out rfl (j3 _) ?_)
 rw [World.setRow_alloc_new]
 have HAN : Hid (AN w (w3.alloc (.cells (adN k 2).cells.toArray 54)) w.heap.size T w3.heap.size #[.int .i64 (tk : Int), .int .i64 (tp : Int), .string ⟨tx.toArray⟩, .int .u32 (tn : Int)] (adN k 2).cells.toArray) := by
  have K4 := World.grownBy_alloc w3 (.cells (adN k 2).cells.toArray 54) none
  have a := HA3.out
  exact ⟨d5 a.1 K4, a.2.1.kept K4, a.2.2.1.kept K4, VAt.alloc w3 _ _, Nat.le_refl _, a.2.2.2.1, Nat.le_of_lt a.2.2.2.2.1, a.2.2.2.2.1, a.2.2.2.2.2⟩
 clear HA3 HS
 generalize w3.alloc (.cells (adN k 2).cells.toArray 54) = w4 at *
 generalize w3.heap.size = B at *
 have HR0 : Hid (w.heap.size = w.heap.size) := rfl
 have p0 := HAN.out.tok.cell 0
 have p2 := HAN.out.tok.cell 2
 obtain ⟨R, hR⟩ : ∃ R, w.heap.size = R := ⟨_, rfl⟩
 rw [hR] at HAN ⊢
 clear hR HR0
 obtain ⟨ys, hys⟩ : ∃ ys : List UInt8, List.replicate 16 0 = ys := ⟨_, rfl⟩
 rw [hys] at HC4
 have hy4 : ys.length = 16 := by rw [← hys]; rfl
 clear hys hp
 have c5 : w4.cell? ⟨B, 5, none⟩ = some (.int .i64 2) := HAN.out.nod.cell 5
 have f5 := HAN.out.nod.free 5
 have HA5 : Hid (AN w (w4.setCell ⟨B, 5, none⟩ (.int .i64 3)) R T B #[.int .i64 (tk : Int), .int .i64 (tp : Int), .string ⟨tx.toArray⟩, .int .u32 (tn : Int)] (adN k 3).cells.toArray) := HAN.out.put (D3 w4 B 5 _) (HAN.out.nod.set 5 _)
 clear HAN
 go_upto_region 10 with fail
 generalize w4.setCell ⟨B, 5, none⟩ (.int .i64 3) = w5 at *
 clear c5 f5 p0 p2
 have p2 := HA5.out.tok.cell 2
 have C4 := HC4.out w5
 go_wp2_with fail
 refine C4.mono ?_
 rintro e w6 ⟨rfl, G6⟩
 have HA6 : Hid (AN w w6 R T B #[.int .i64 (tk : Int), .int .i64 (tp : Int), .string ⟨tx.toArray⟩, .int .u32 (tn : Int)] (adN k 3).cells.toArray) := HA5.out.keep G6
 have HSZ : Hid ((Tryz.prog.info? 52).map (·.size) = some (ys.map bv).toArray.size ∧ (ys.map bv).toArray.all (·.oneCell') = true ∧ w6.there B 7 (ys.map bv).toArray.size) := by
  refine ⟨?_, I1 _, ?_⟩
  ·rw [A5, hy4]; exact E7
  ·rw [A5, hy4]; exact VAt.there HA6.out.nod 7 16 (Nat.le_of_ble_eq_true rfl)
 have HN8 : Hid (AN w (w6.setCells B 7 (ys.map bv).toArray.toList) R T B #[.int .i64 (tk : Int), .int .i64 (tp : Int), .string ⟨tx.toArray⟩, .int .u32 (tn : Int)] (adX k 3 ys).cells.toArray) := by
  refine HA6.out.put (a2u _ 7 w6) ?_
  have := VAt.setCells (ys.map bv) 7 w6 _ HA6.out.nod
  rw [a4Y k ys hy4] at this
  exact this
 clear C4 HC4 HA5 HA6 G6 p2
 go_upto_region 13 with (refine wpList_store_mid rfl 52 (.tmp 36) (.tmp 34) rfl B 7 (ys.map bv).toArray rfl rfl HSZ.out.2.2 HSZ.out.1 HSZ.out.2.1 ?_)
 generalize w6.setCells B 7 (ys.map bv).toArray.toList = w7 at *
 clear HSZ hy4
 have CX := HF.out 112 w7 (by decide) (by decide) HN8.out.grown
 clear HF HB
 go_wp2_with fail
 refine CX.mono ?_
 rintro e w8 ⟨rfl, R8⟩
 have HFIN : Hid (VAt w8 B 54 (adX k 3 ys).cells.toArray ∧ VAt w8 R 54 nd0.cells.toArray ∧ ∀ y, c8 c w vt vp (s.fail 112) bud (w8.setRow R y)) := HN8.out.fin HP.out R8
 obtain ⟨Y, hY⟩ : ∃ Y, (adX k 3 ys).cells.toArray = Y := ⟨_, rfl⟩
 have HZ : Hid ((Tryz.prog.info? 54).map (·.size) = some Y.size ∧ nd0.cells.toArray.size = Y.size ∧ Y.all (·.oneCell') = true) := by rw [← hY]; exact ⟨g8 _, rfl, j3 _⟩
 have HYE : Hid ((adX k 3 ys).cells.toArray = Y) := hY
 rw [hY] at HFIN
 have VB := HFIN.out.1
 have VR := HFIN.out.2.1
 have HXX := HFIN.out.2.2 Y
 obtain ⟨Z, hZ⟩ : ∃ Z, nd0.cells.toArray = Z := ⟨_, rfl⟩
 rw [hZ] at VR HZ
 have HX : Hid (c8 c w vt vp (s.fail 112) bud (w8.setRow R Y)) := HXX
 have HVR : Hid (VAt (w8.setRow R Y) R 54 Y) := VR.setRow Y
 clear HFIN hY hZ HXX R8 HN8 CX
 go_wp2_with (first | refine wpList_load_row rfl 54 (.tmp 6) rfl B rfl 54 Y (0, 0) _ VB Tryz.underlying54 rfl HZ.out.1 ?_ | refine wpList_store_row rfl 54 (.tmp 4) (.tmp 44) rfl R Y rfl rfl 54 _ VR HZ.out.1 HZ.out.2.1 HZ.out.2.2 ?_)
 refine bodyPost_ret (N8 rfl _ _ R Y _ rfl HVR.out Tryz.underlying54 rfl HZ.out.1) rfl ?_
 exact ⟨adX k 3 ys, by rw [HYE.out], HX.out⟩
theorem a91 (h : RS c w i vt vp s bud) (k : Nat) (ys : List UInt8) (k4 : s.now.kind = 4) (hl : s.now.text.length ≤ 65536) (hp : x3 s.now.text = some ys) :
  Calls Tryz.prog 70 #[.pointer (some ⟨c.g, 0, none⟩), .int .i64 (k : Int)] w fun e w' => e = .returned (.agg (adX k 3 ys).cells.toArray) ∧ c8 c w vt vp s.next bud w' := by
 have HP : Hid (RS c w i vt vp s bud) := h
 have K1 := World.grownBy_alloc w (.cells nd0.cells.toArray 54) none
 have RA := VAt.alloc w 54 nd0.cells.toArray
 have CN := E6 (h.keep K1)
 have HF : Hid (∀ (x : Int) (W : World), 1 ≤ x → x ≤ 1000 → w.grownBy W none → Calls Tryz.prog 14 #[.pointer (some ⟨c.g, 0, none⟩), .int .i64 x] W fun e w' => e = .returned (.tuple #[]) ∧ c8 c W vt vp (s.fail x) bud w') := fun x W h1 h2 G => M2 (h.keep G) x h1 h2
 have HB := a1b k
 have HF0 := fun k p x n W => (o8 k p x n W).1
 have HF2 := fun k p x n W => (o8 k p x n W).2.2.1
 have HNX : Hid (∀ W : World, w.grownBy W none → Calls Tryz.prog 27 #[.pointer (some ⟨c.g, 0, none⟩)] W fun e w' => e = .returned (.tuple #[]) ∧ c8 c W vt vp s.next bud w') := fun W G => (q8 (h.keep G) (fun _ => (X6 (s := s) (by omega)).2)).mono fun _ _ ⟨x, y⟩ => ⟨x, y.less (Nat.le_succ _)⟩
 generalize s.now = t at *
 clear h
 obtain ⟨tk, tp, tx, tn⟩ := t
 unfold tkC at CN
 simp only at *
 have e3 : ((tk : Int) == 3) = false := by rw [k4]; rfl
 have e4 : ((tk : Int) == 4) = true := by rw [k4]; rfl
 have C4 := fun W => a58 ⟨tx.toArray⟩ W (by rw [← j0, J3]; omega)
 rw [J3] at C4
 unfold X0 X1 at C4
 rw [hp] at C4
 have HC4 : Hid (∀ W, Calls Tryz.prog 78 #[.string ⟨tx.toArray⟩] W fun e w' => e = .returned (.tuple #[.agg (ys.map bv).toArray, .int .i64 0]) ∧ W.grownBy w' none) := C4
 clear k4 C4 hl
 go_enter Tryz.func70, Tryz.ntmps70
 go_upto_region 1 with fail
 rw [show #[.int .i64 0, .int .i64 0, .int .u32 0, .int .u32 0, .int .i64 0, .int .i64 0, .int .i64 0, .int .u8 0, .int .u8 0, .int .u8 0, .int .u8 0, .int .u8 0, .int .u8 0, .int .u8 0, .int .u8 0, .int .u8 0, .int .u8 0, .int .u8 0, .int .u8 0, .int .u8 0, .int .u8 0, .int .u8 0, .int .u8 0, .int .i64 0] = nd0.cells.toArray from rfl]
 generalize w.alloc (.cells nd0.cells.toArray 54) = w1 at *
 go_wp2_with fail
 refine CN.mono ?_
 rintro e w2 ⟨rfl, G2⟩
 have HA3 : Hid (w.grownBy (w2.alloc (.cells #[.int .i64 (tk : Int), .int .i64 (tp : Int), .string ⟨tx.toArray⟩, .int .u32 (tn : Int)] 42)) none ∧ VAt (w2.alloc (.cells #[.int .i64 (tk : Int), .int .i64 (tp : Int), .string ⟨tx.toArray⟩, .int .u32 (tn : Int)] 42)) w.heap.size 54 nd0.cells.toArray ∧ VAt (w2.alloc (.cells #[.int .i64 (tk : Int), .int .i64 (tp : Int), .string ⟨tx.toArray⟩, .int .u32 (tn : Int)] 42)) w2.heap.size 42 #[.int .i64 (tk : Int), .int .i64 (tp : Int), .string ⟨tx.toArray⟩, .int .u32 (tn : Int)] ∧ w.heap.size ≤ w2.heap.size ∧ w.heap.size < (w2.alloc (.cells #[.int .i64 (tk : Int), .int .i64 (tp : Int), .string ⟨tx.toArray⟩, .int .u32 (tn : Int)] 42)).heap.size ∧ w2.heap.size < (w2.alloc (.cells #[.int .i64 (tk : Int), .int .i64 (tp : Int), .string ⟨tx.toArray⟩, .int .u32 (tn : Int)] 42)).heap.size) := by
  have K2 := d5 K1 G2
  have K3 := World.grownBy_alloc w2 (.cells #[.int .i64 (tk : Int), .int .i64 (tp : Int), .string ⟨tx.toArray⟩, .int .u32 (tn : Int)] 42) none
  have V3 := (RA.kept G2).kept K3
  exact ⟨d5 K2 K3, V3, VAt.alloc w2 _ _, K2.size, V3.lt, (VAt.alloc w2 _ _).lt⟩
 clear CN K1 RA G2
 go_upto_region 2 with fail
 generalize w2.alloc (.cells #[.int .i64 (tk : Int), .int .i64 (tp : Int), .string ⟨tx.toArray⟩, .int .u32 (tn : Int)] 42) = w3 at *
 generalize w2.heap.size = T at *
 have HS : Hid ((Tryz.prog.info? 54).map (·.size) = some (adN k 2).cells.toArray.size) := g8 _
 go_upto_region 3 with (first | refine o6 rfl 54 _ rfl _ (by kernel_rfl) (.agg (adN k 2).cells.toArray) HB ?_ | refine wpList_store_row rfl 54 (.tmp 6) (.tmp 12) rfl w3.heap.size (adN k 2).cells.toArray rfl rfl 54 _ (VAt.alloc w3 _ _) HS.out rfl (j3 _) ?_)
 rw [World.setRow_alloc_new]
 have HAN : Hid (AN w (w3.alloc (.cells (adN k 2).cells.toArray 54)) w.heap.size T w3.heap.size #[.int .i64 (tk : Int), .int .i64 (tp : Int), .string ⟨tx.toArray⟩, .int .u32 (tn : Int)] (adN k 2).cells.toArray) := by
  have K4 := World.grownBy_alloc w3 (.cells (adN k 2).cells.toArray 54) none
  have a := HA3.out
  exact ⟨d5 a.1 K4, a.2.1.kept K4, a.2.2.1.kept K4, VAt.alloc w3 _ _, Nat.le_refl _, a.2.2.2.1, Nat.le_of_lt a.2.2.2.2.1, a.2.2.2.2.1, a.2.2.2.2.2⟩
 clear HA3 HS
 generalize w3.alloc (.cells (adN k 2).cells.toArray 54) = w4 at *
 generalize w3.heap.size = B at *
 have HR0 : Hid (w.heap.size = w.heap.size) := rfl
 have p0 := HAN.out.tok.cell 0
 have p2 := HAN.out.tok.cell 2
 obtain ⟨R, hR⟩ : ∃ R, w.heap.size = R := ⟨_, rfl⟩
 rw [hR] at HAN ⊢
 clear hR HR0
 have hy4 : ys.length = 16 := a2R hp
 have c5 : w4.cell? ⟨B, 5, none⟩ = some (.int .i64 2) := HAN.out.nod.cell 5
 have f5 := HAN.out.nod.free 5
 have HA5 : Hid (AN w (w4.setCell ⟨B, 5, none⟩ (.int .i64 3)) R T B #[.int .i64 (tk : Int), .int .i64 (tp : Int), .string ⟨tx.toArray⟩, .int .u32 (tn : Int)] (adN k 3).cells.toArray) := HAN.out.put (D3 w4 B 5 _) (HAN.out.nod.set 5 _)
 clear HAN
 go_upto_region 10 with fail
 generalize w4.setCell ⟨B, 5, none⟩ (.int .i64 3) = w5 at *
 clear c5 f5 p0 p2
 have p2 := HA5.out.tok.cell 2
 have C4 := HC4.out w5
 go_wp2_with fail
 refine C4.mono ?_
 rintro e w6 ⟨rfl, G6⟩
 have HA6 : Hid (AN w w6 R T B #[.int .i64 (tk : Int), .int .i64 (tp : Int), .string ⟨tx.toArray⟩, .int .u32 (tn : Int)] (adN k 3).cells.toArray) := HA5.out.keep G6
 have HSZ : Hid ((Tryz.prog.info? 52).map (·.size) = some (ys.map bv).toArray.size ∧ (ys.map bv).toArray.all (·.oneCell') = true ∧ w6.there B 7 (ys.map bv).toArray.size) := by
  refine ⟨?_, I1 _, ?_⟩
  ·rw [A5, hy4]; exact E7
  ·rw [A5, hy4]; exact VAt.there HA6.out.nod 7 16 (Nat.le_of_ble_eq_true rfl)
 have HN8 : Hid (AN w (w6.setCells B 7 (ys.map bv).toArray.toList) R T B #[.int .i64 (tk : Int), .int .i64 (tp : Int), .string ⟨tx.toArray⟩, .int .u32 (tn : Int)] (adX k 3 ys).cells.toArray) := by
  refine HA6.out.put (a2u _ 7 w6) ?_
  have := VAt.setCells (ys.map bv) 7 w6 _ HA6.out.nod
  rw [a4Y k ys hy4] at this
  exact this
 clear C4 HC4 HA5 HA6 G6 p2
 go_upto_region 13 with (refine wpList_store_mid rfl 52 (.tmp 36) (.tmp 34) rfl B 7 (ys.map bv).toArray rfl rfl HSZ.out.2.2 HSZ.out.1 HSZ.out.2.1 ?_)
 generalize w6.setCells B 7 (ys.map bv).toArray.toList = w7 at *
 clear HSZ hy4
 have CX := HNX.out w7 HN8.out.grown
 clear HF HB HNX
 go_wp2_with fail
 refine CX.mono ?_
 rintro e w8 ⟨rfl, R8⟩
 have HFIN : Hid (VAt w8 B 54 (adX k 3 ys).cells.toArray ∧ VAt w8 R 54 nd0.cells.toArray ∧ ∀ y, c8 c w vt vp s.next bud (w8.setRow R y)) := HN8.out.fin HP.out R8
 obtain ⟨Y, hY⟩ : ∃ Y, (adX k 3 ys).cells.toArray = Y := ⟨_, rfl⟩
 have HZ : Hid ((Tryz.prog.info? 54).map (·.size) = some Y.size ∧ nd0.cells.toArray.size = Y.size ∧ Y.all (·.oneCell') = true) := by rw [← hY]; exact ⟨g8 _, rfl, j3 _⟩
 have HYE : Hid ((adX k 3 ys).cells.toArray = Y) := hY
 rw [hY] at HFIN
 have VB := HFIN.out.1
 have VR := HFIN.out.2.1
 have HXX := HFIN.out.2.2 Y
 obtain ⟨Z, hZ⟩ : ∃ Z, nd0.cells.toArray = Z := ⟨_, rfl⟩
 rw [hZ] at VR HZ
 have HX : Hid (c8 c w vt vp s.next bud (w8.setRow R Y)) := HXX
 have HVR : Hid (VAt (w8.setRow R Y) R 54 Y) := VR.setRow Y
 clear HFIN hY hZ HXX R8 HN8 CX
 go_wp2_with (first | refine wpList_load_row rfl 54 (.tmp 6) rfl B rfl 54 Y (0, 0) _ VB Tryz.underlying54 rfl HZ.out.1 ?_ | refine wpList_store_row rfl 54 (.tmp 4) (.tmp 47) rfl R Y rfl rfl 54 _ VR HZ.out.1 HZ.out.2.1 HZ.out.2.2 ?_)
 refine bodyPost_ret (N8 rfl _ _ R Y _ rfl HVR.out Tryz.underlying54 rfl HZ.out.1) rfl ?_
 exact ⟨by rw [HYE.out], HX.out⟩
theorem a0T (h : RS c w i vt vp s bud) (k : Nat) :
  Calls Tryz.prog 70 #[.pointer (some ⟨c.g, 0, none⟩), .int .i64 (k : Int)] w fun e w' => ∃ x : Nd, e = .returned (.agg x.cells.toArray) ∧ c8 c w vt vp s.address bud w' ∧ ∀ y, j6 k s.now = some y → x = y := by
 have hl : s.now.text.length ≤ 65536 := a88 h
 unfold Rt.address
 by_cases k3 : s.now.kind = 3
 ·cases hp : x1 s.now.text with
  | none =>
   have h0 : ∀ k, j6 k s.now = none := fun k => by unfold j6; rw [if_pos k3, hp]; rfl
   rw [h0, h0, if_neg (by simp), if_pos (.inl k3)]
   exact (a90 h k k3 hl hp).mono fun _ _ ⟨x, a, b⟩ => ⟨x, a, b, fun _ h => by cases h⟩
  | some ys =>
   have h0 : ∀ k, j6 k s.now = some (adX k 2 (ys ++ List.replicate 12 0)) := fun k => by unfold j6; rw [if_pos k3, hp]; rfl
   rw [h0, h0, if_pos (by simp)]
   exact (a8Z h k ys k3 hl hp).mono fun _ _ ⟨a, b⟩ => ⟨_, a, b, fun _ h => by cases h; rfl⟩
 ·by_cases k4 : s.now.kind = 4
  ·cases hp : x3 s.now.text with
   | none =>
    have h0 : ∀ k, j6 k s.now = none := fun k => by unfold j6; rw [if_neg k3, if_pos k4, hp]; rfl
    rw [h0, h0, if_neg (by simp), if_pos (.inr k4)]
    exact (a92 h k k4 hl hp).mono fun _ _ ⟨x, a, b⟩ => ⟨x, a, b, fun _ h => by cases h⟩
   | some ys =>
    have h0 : ∀ k, j6 k s.now = some (adX k 3 ys) := fun k => by unfold j6; rw [if_neg k3, if_pos k4, hp]; rfl
    rw [h0, h0, if_pos (by simp)]
    exact (a91 h k ys k4 hl hp).mono fun _ _ ⟨a, b⟩ => ⟨_, a, b, fun _ h => by cases h; rfl⟩
  ·have h0 : ∀ k, j6 k s.now = none := fun k => by unfold j6; rw [if_neg k3, if_neg k4]
   rw [h0, h0, if_neg (by simp), if_neg (by omega)]
   exact (a8Y h k k3 k4).mono fun _ _ ⟨x, a, b⟩ => ⟨x, a, b, fun _ h => by cases h⟩

end

end Go.Proofs.YtlfmddjppejmaaaGreatDoor
