/-
  Package asm reads: a line, by the rows.
-/
import Derived.Test.YtcapmbeabfhjoaaDoorAsmI
import Derived.Laws.EntriesVeiled
import Derived.Deep.DeepCutAuto
namespace Go.Proofs.YtcapmbeabfhjoaaDoor
open Go.RowKit
set_option maxRecDepth 100000

/-- What the rows tell of a line. -/
def readS (rs : List Rw) (s : List UInt8) : Option Rd := rs.findSome? fun r => rowB r.1.2 (startR s r.1)
theorem readS_T {rs : List Rw} (h : rs.map (fun r => r.1) = rowsT) (s : List UInt8) : readS rs s = readT s := by
  rw [readS, readT, ← h, List.findSome?_map]
  rfl

def ReadPost (w w' : World) (e : Ending) (r : Option Rd) : Prop := ∃ (s : List UInt8) (c t f k : Nat) (b : Bool), e = .returned (.tuple #[.agg #[.int .u16 (c : Int), .int .u8 (t : Int), .int .u8 (f : Int), .int .u32 (k : Int)], .bool b]) ∧ w.grownBy w' none ∧ (b = true → r = some (s, c, t, f, k)) ∧ (b = false → r = none)

theorem findSome_no {α β : Type} {l : List α} {p : α → Option β} {j : Nat} (h : (l.take j).findSome? p = none) (hj : j < l.length) (hp : p l[j] = none) : (l.take (j + 1)).findSome? p = none := by
  rw [List.take_succ_eq_append_getElem hj, List.findSome?_append, h]
  simp [hp]
theorem findSome_hit {α β : Type} {l : List α} {p : α → Option β} {j : Nat} {y : β} (h : (l.take j).findSome? p = none) (hj : j < l.length) (hp : p l[j] = some y) : l.findSome? p = some y := by
  have e : l.findSome? p = (l.take j ++ l[j] :: l.drop (j + 1)).findSome? p := by rw [← List.drop_eq_getElem_cons hj, List.take_append_drop]
  rw [e, List.findSome?_append, h, List.findSome?_cons]
  simp only [hp, Option.none_or]

/-- The instruction's variable that read hands out. -/
def ResAt (w : World) (q : Nat) : Prop := w.heap[q]? = some (.cells #[.int .u16 0, .int .u8 0, .int .u8 0, .int .u32 0] 25 (0, 0))

theorem ResAt.cells {w : World} {q : Nat} (h : ResAt w q) : w.cell? ⟨q, 0, none⟩ = some (.int .u16 0) ∧ w.cell? ⟨q, 1, none⟩ = some (.int .u8 0) ∧ w.cell? ⟨q, 2, none⟩ = some (.int .u8 0) ∧ w.cell? ⟨q, 3, none⟩ = some (.int .u32 0)
    ∧ w.frozen? ⟨q, 0, none⟩ = false ∧ w.frozen? ⟨q, 1, none⟩ = false ∧ w.frozen? ⟨q, 2, none⟩ = false ∧ w.frozen? ⟨q, 3, none⟩ = false := by
  unfold ResAt at h
  simp [World.cell?, World.frozen?, h]
theorem put1 {W : World} {g i : Nat} {e : TypeId} {cur : Array Value} (h : W.heap[g]? = some (.cells cur e (0, 0))) (v : Value) : (W.setCell ⟨g, i, none⟩ v).heap[g]? = some (.cells (cur.setIfInBounds i v) e (0, 0)) := by
  simp only [World.setCell, Array.getElem?_modify, h]
  simp
theorem put4 {W : World} {g : Nat} {e : TypeId} (h : BlkN W e g 4) (v0 v1 v2 v3 : Value) :
    let W4 := (((W.setCell ⟨g, 0, none⟩ v0).setCell ⟨g, 1, none⟩ v1).setCell ⟨g, 2, none⟩ v2).setCell ⟨g, 3, none⟩ v3
    W4.cell? ⟨g, 0, none⟩ = some v0 ∧ W4.cell? ⟨g, 1, none⟩ = some v1 ∧ W4.cell? ⟨g, 2, none⟩ = some v2 ∧ W4.cell? ⟨g, 3, none⟩ = some v3 := by
  obtain ⟨cur, hh, hs⟩ := h
  have k := put1 (i := 3) (put1 (i := 2) (put1 (i := 1) (put1 (i := 0) hh v0) v1) v2) v3
  intro W4
  have hc : ∀ i, W4.cell? ⟨g, i, none⟩ = ((((cur.setIfInBounds 0 v0).setIfInBounds 1 v1).setIfInBounds 2 v2).setIfInBounds 3 v3)[i]? := fun i => cell_of_row W4 g i _ _ _ k
  refine ⟨?_, ?_, ?_, ?_⟩ <;> rw [hc] <;> simp [hs]
theorem resAt_blk {w : World} {q : Nat} (h : ResAt w q) : BlkN w 25 q 4 := ⟨_, h, rfl⟩

set_option maxHeartbeats 8000000 in
theorem read_any (a : Option Addr) (ca : Nat) (rs : List Rw) (fp : Fp) (S : ByteArray) (w : World) (hC : CV w a (rCells rs)) (hok : RowsOk fp rs) (H : Held fp w) (hS : S.size ≤ 1048576) (hl : rs.length ≤ 100) :
    Calls Tryd.prog 35 #[.slice a rs.length ca, .string S] w fun e w' => ReadPost w w' e (readS rs (sl S)) := by
  have HC : Hid (CV w a (rCells rs)) := hC
  have HO : Hid (RowsOk fp rs) := hok
  have HH : Hid (Held fp w) := H
  clear hC hok H
  have G0 : w.grownBy ((w.alloc (.cells #[.int .u16 0, .int .u8 0, .int .u8 0, .int .u32 0] 25)).alloc (.cells #[.string ⟨#[]⟩, .int .u16 0, .int .u8 0, .int .u8 0, .int .u32 0] 75)) none := grown_trans (World.grownBy_alloc _ _ _) (World.grownBy_alloc _ _ _)
  have Q0 : ResAt ((w.alloc (.cells #[.int .u16 0, .int .u8 0, .int .u8 0, .int .u32 0] 25)).alloc (.cells #[.string ⟨#[]⟩, .int .u16 0, .int .u8 0, .int .u8 0, .int .u32 0] 75)) w.heap.size := by
    unfold ResAt
    rw [Below.heap_alloc _ _ _ (by simp)]
    exact heap_alloc_new w _
  have P0 : RdAt ((w.alloc (.cells #[.int .u16 0, .int .u8 0, .int .u8 0, .int .u32 0] 25)).alloc (.cells #[.string ⟨#[]⟩, .int .u16 0, .int .u8 0, .int .u8 0, .int .u32 0] 75)) (w.heap.size + 1) ⟨#[]⟩ 0 0 0 0 := by
    have := heap_alloc_new (w.alloc (.cells #[.int .u16 0, .int .u8 0, .int .u8 0, .int .u32 0] 25)) (.cells #[.string ⟨#[]⟩, .int .u16 0, .int .u8 0, .int .u8 0, .int .u32 0] 75)
    rw [show (w.alloc (.cells #[.int .u16 0, .int .u8 0, .int .u8 0, .int .u32 0] 25)).heap.size = w.heap.size + 1 by simp] at this
    exact this
  go_enter Tryd.func35, Tryd.ntmps35
  go_wp2
  go_loopw [11] (fun i wr => ∃ (j : Nat) (R : ByteArray) (c t f k : Nat), j ≤ rs.length ∧ i = .int .i64 j ∧ Hid ((rs.take j).findSome? (fun r => rowB r.1.2 (startR (sl S) r.1)) = none) ∧ RdAt wr (w.heap.size + 1) R c t f k ∧ ResAt wr w.heap.size ∧ w.grownBy wr none) (fun i _ => rs.length - (intOf i).toNat)
  case atStart => exact ⟨0, _, 0, 0, 0, 0, Nat.zero_le _, rfl, rfl, P0, Q0, G0⟩
  case round =>
    clear P0 Q0 G0
    obtain ⟨j, R, c, t, f, k, hj, rfl, HF, P, Q, G⟩ := hrel
    by_cases hlt : j < rs.length
    · have hlt' : (j : Int) < (rs.length : Int) := by omega
      obtain ⟨b, o, rfl, hc⟩ := HC.out.addr (k := j * 2) (by rw [rCells_len]; omega)
      have hk0 := hc (j * 2) (by rw [rCells_len]; omega)
      have hk1 := hc (j * 2 + 1) (by rw [rCells_len]; omega)
      obtain ⟨e0, e1⟩ := rCells_at rs j hlt
      rw [(List.getElem_eq_iff _).2 e0] at hk0
      rw [(List.getElem_eq_iff _).2 e1] at hk1
      have g0 := G.cell hk0 (by simp)
      have g1 := G.cell hk1 (by simp)
      rw [← Nat.add_assoc] at g1
      clear hc hk0 hk1 e0 e1
      have hd := HO.out rs[j] (List.getElem_mem hlt)
      have HY : Hid (∀ y, rowB rs[j].1.2 (startR (sl S) rs[j].1) = some y → readS rs (sl S) = some y) := fun y hy => findSome_hit HF.out hlt hy
      have HN : Hid (rowB rs[j].1.2 (startR (sl S) rs[j].1) = none → (rs.take (j + 1)).findSome? (fun r => rowB r.1.2 (startR (sl S) r.1)) = none) := fun hy => findSome_no HF.out hlt hy
      clear HF
      generalize rs[j] = row at *
      obtain ⟨⟨rc, rt⟩, v⟩ := row
      obtain ⟨n, lb, hv, he, hcall⟩ := hd
      simp only at hv hcall g0 g1
      subst hv
      have P1 : RdAt (wr.alloc (.cells #[.int .u16 (rc : Int), .func (.func n) #[] lb] 73)) (w.heap.size + 1) R c t f k := by
        have := (World.grownBy_alloc wr (.cells #[.int .u16 (rc : Int), .func (.func n) #[] lb] 73) none).block _ P.lt (by simp)
        unfold RdAt at *
        rw [this, P]
      have Q1 : ResAt (wr.alloc (.cells #[.int .u16 (rc : Int), .func (.func n) #[] lb] 73)) w.heap.size := by
        have := (World.grownBy_alloc wr (.cells #[.int .u16 (rc : Int), .func (.func n) #[] lb] 73) none).block w.heap.size (by have := P.lt; omega) (by simp)
        unfold ResAt at *
        rw [this, Q]
      have G1 := grown_trans G (World.grownBy_alloc wr (.cells #[.int .u16 (rc : Int), .func (.func n) #[] lb] 73) none)
      have L1 := cv_lit wr 73 [.int .u16 (rc : Int), .func (.func n) #[] lb]
      have L2 : (wr.alloc (.cells #[.int .u16 (rc : Int), .func (.func n) #[] lb] 73)).cell? ⟨wr.heap.size, 0, none⟩ = some (.int .u16 (rc : Int)) := L1.2 _ rfl 0 (by simp)
      have L3 : (wr.alloc (.cells #[.int .u16 (rc : Int), .func (.func n) #[] lb] 73)).cell? ⟨wr.heap.size, 1, none⟩ = some (.func (.func n) #[] lb) := L1.2 _ rfl 1 (by simp)
      have HP1 : Hid (RdAt (wr.alloc (.cells #[.int .u16 (rc : Int), .func (.func n) #[] lb] 73)) (w.heap.size + 1) R c t f k) := P1
      have HQ1 : Hid (ResAt (wr.alloc (.cells #[.int .u16 (rc : Int), .func (.func n) #[] lb] 73)) w.heap.size) := Q1
      have HG1 : Hid (w.grownBy (wr.alloc (.cells #[.int .u16 (rc : Int), .func (.func n) #[] lb] 73)) none) := G1
      have HL2 : Hid ((wr.alloc (.cells #[.int .u16 (rc : Int), .func (.func n) #[] lb] 73)).cell? ⟨wr.heap.size, 0, none⟩ = some (.int .u16 (rc : Int))) := L2
      have HL3 : Hid ((wr.alloc (.cells #[.int .u16 (rc : Int), .func (.func n) #[] lb] 73)).cell? ⟨wr.heap.size, 1, none⟩ = some (.func (.func n) #[] lb)) := L3
      have hwp : w.heap.size + 1 < wr.heap.size := P.lt
      clear L1 L2 L3 P1 Q1 G1 P Q G
      go_upto_region 5 with fail
      clear g0 g1
      generalize wr.alloc (.cells #[.int .u16 (rc : Int), .func (.func n) #[] lb] 73) = W1 at *
      generalize wr.heap.size = z at *
      have l2 := HL2.out
      have l3 := HL3.out
      obtain ⟨p0, p1, p2, p3, p4⟩ := HP1.out.cells
      have f0 := HP1.out.free 0
      have f1 := HP1.out.free 1
      have f2 := HP1.out.free 2
      have f3 := HP1.out.free 3
      have f4 := HP1.out.free 4
      clear HL2 HL3
      go_upto_region 6 with fail
      have HP2 : Hid (RdAt (((((W1.setCell ⟨w.heap.size + 1, 0, none⟩ (.string S)).setCell ⟨w.heap.size + 1, 1, none⟩ (.int .u16 (rc : Int))).setCell ⟨w.heap.size + 1, 2, none⟩ (.int .u8 0)).setCell ⟨w.heap.size + 1, 3, none⟩ (.int .u8 0)).setCell ⟨w.heap.size + 1, 4, none⟩ (.int .u32 0)) (w.heap.size + 1) S rc 0 0 0) := ((((HP1.out.set0 S).set1 rc).set2 0).set3 0).set4 0
      have HK2 : Hid (W1.grownBy (((((W1.setCell ⟨w.heap.size + 1, 0, none⟩ (.string S)).setCell ⟨w.heap.size + 1, 1, none⟩ (.int .u16 (rc : Int))).setCell ⟨w.heap.size + 1, 2, none⟩ (.int .u8 0)).setCell ⟨w.heap.size + 1, 3, none⟩ (.int .u8 0)).setCell ⟨w.heap.size + 1, 4, none⟩ (.int .u32 0)) (some (w.heap.size + 1))) := grown_trans (grown_trans (grown_trans (grown_trans (grown_set _ _ _ _) (grown_set _ _ _ _)) (grown_set _ _ _ _)) (grown_set _ _ _ _)) (grown_set _ _ _ _)
      clear f0 f1 f2 f3 f4 p0 p1 p2 p3 p4 l2
      generalize ((((W1.setCell ⟨w.heap.size + 1, 0, none⟩ (.string S)).setCell ⟨w.heap.size + 1, 1, none⟩ (.int .u16 (rc : Int))).setCell ⟨w.heap.size + 1, 2, none⟩ (.int .u8 0)).setCell ⟨w.heap.size + 1, 3, none⟩ (.int .u8 0)).setCell ⟨w.heap.size + 1, 4, none⟩ (.int .u32 0) = W2 at *
      have G2 : w.grownBy W2 none := grown_trans_new HG1.out HK2.out (fun x hx => by obtain rfl := Option.some.inj hx; omega)
      have Q2 : ResAt W2 w.heap.size := by
        have := HK2.out.block w.heap.size (by have := HP1.out.lt; omega) (by simp)
        have q := HQ1.out
        unfold ResAt at *
        rw [this, q]
      have m3 : W2.cell? ⟨z, 1, none⟩ = some (.func (.func n) #[] lb) := HK2.out.cell l3 (by intro e; have := Option.some.inj e; simp at this; omega)
      have cS := hcall W2 (w.heap.size + 1) S rc 0 0 0 (HH.out.none G2) (fun x hx => by have := HH.out.lt hx; omega) HP2.out hS
      clear l3 HP1 HK2 HQ1 HG1 hcall
      go_wp2_with fail
      refine cS.mono ?_
      rintro e w3 ⟨R3, c3, t3, f3, k3, b3, rfl, P3, K3, hS3, hy, hno⟩
      have G3 : w.grownBy w3 none := grown_trans_new G2 K3 (fun x hx => by obtain rfl := Option.some.inj hx; omega)
      have Q3 : ResAt w3 w.heap.size := by
        have := K3.block w.heap.size (by have := HP2.out.lt; omega) (by simp)
        unfold ResAt at *
        rw [this, Q2]
      clear cS m3 Q2 G2 HP2 K3
      cases b3 with
      | true =>
        have HR : Hid (readS rs (sl S) = some (sl R3, c3, t3, f3, k3)) := HY.out _ (hy rfl)
        obtain ⟨p0, p1, p2, p3, p4⟩ := P3.cells
        obtain ⟨q0, q1, q2, q3, z0, z1, z2, z3⟩ := Q3.cells
        have HB := resAt_blk Q3
        clear hy hno HY HN P3
        go_wp2
        obtain ⟨s0, s1, s2, s3⟩ := put4 HB (.int .u16 (c3 : Int)) (.int .u8 (t3 : Int)) (.int .u8 (f3 : Int)) (.int .u32 (k3 : Int))
        have G4 : w.grownBy ((((w3.setCell ⟨w.heap.size, 0, none⟩ (.int .u16 (c3 : Int))).setCell ⟨w.heap.size, 1, none⟩ (.int .u8 (t3 : Int))).setCell ⟨w.heap.size, 2, none⟩ (.int .u8 (f3 : Int))).setCell ⟨w.heap.size, 3, none⟩ (.int .u32 (k3 : Int))) none := grown_trans_new G3 (grown_trans (grown_trans (grown_trans (grown_set _ _ _ _) (grown_set _ _ _ _)) (grown_set _ _ _ _)) (grown_set _ _ _ _)) (fun x hx => by obtain rfl := Option.some.inj hx; exact Nat.le_refl _)
        refine bodyPost_ret (v := .tuple #[.agg #[.int .u16 (c3 : Int), .int .u8 (t3 : Int), .int .u8 (f3 : Int), .int .u32 (k3 : Int)], .bool true]) ?_ rfl ⟨sl R3, c3, t3, f3, k3, true, rfl, G4, fun _ => HR.out, fun h => absurd h (by simp)⟩
        simp [results, Tryd.results35, go_sem, s0, s1, s2, s3]
      | false =>
        have HF2 : Hid ((rs.take (j + 1)).findSome? (fun r => rowB r.1.2 (startR (sl S) r.1)) = none) := HN.out (hno rfl)
        clear hy hno HY HN
        go_wp2
        go_roundw
        case rel => exact ⟨j + 1, R3, c3, t3, f3, k3, by omega, by go_num, HF2, P3, Q3, G3⟩
        case measure => simp [intOf]; omega
    · obtain rfl : j = rs.length := by omega
      have HR : Hid (readS rs (sl S) = none) := by
        show readS rs (sl S) = none
        have := HF.out
        rw [List.take_length] at this
        exact this
      obtain ⟨q0, q1, q2, q3, z0, z1, z2, z3⟩ := Q.cells
      have HB := resAt_blk Q
      clear HF P
      go_wp2
      obtain ⟨s0, s1, s2, s3⟩ := put4 HB (.int .u16 0) (.int .u8 0) (.int .u8 0) (.int .u32 0)
      have G4 : w.grownBy ((((wr.setCell ⟨w.heap.size, 0, none⟩ (.int .u16 0)).setCell ⟨w.heap.size, 1, none⟩ (.int .u8 0)).setCell ⟨w.heap.size, 2, none⟩ (.int .u8 0)).setCell ⟨w.heap.size, 3, none⟩ (.int .u32 0)) none := grown_trans_new G (grown_trans (grown_trans (grown_trans (grown_set _ _ _ _) (grown_set _ _ _ _)) (grown_set _ _ _ _)) (grown_set _ _ _ _)) (fun x hx => by obtain rfl := Option.some.inj hx; exact Nat.le_refl _)
      refine bodyPost_ret (v := .tuple #[.agg #[.int .u16 0, .int .u8 0, .int .u8 0, .int .u32 0], .bool false]) ?_ rfl ⟨[], 0, 0, 0, 0, false, rfl, G4, fun h => absurd h (by simp), fun _ => HR.out⟩
      simp [results, Tryd.results35, go_sem, s0, s1, s2, s3]

end Go.Proofs.YtcapmbeabfhjoaaDoor
