import Derived.Test.YtlfmddjppejmaaaGreatDoorqLotQ37
set_option maxHeartbeats 64000000
set_option maxRecDepth 100000
namespace Go.Proofs.YtlfmddjppejmaaaGreatDoor
open Go.RowKit

section
variable {c : PC} {w : World} {i nest bud : Nat} {vt vp : Value} {ts : List Tk} {ns : List (Nd × Nat)}
theorem a7G (rec : Nat → List Tk → Out) (nest of p : Nat) (ts : List Tk) : s9 nest ts (d8 (rec (nest + 1) ts.tail) fun p1 => d8 (O6 p1.2) fun q => .ok (p1.1 ++ [({ ndK 3 with of := of, size := q.1 }, p)], q.2)) =
  d8 (s9 nest ts (U7 rec (nest + 1) ts.tail)) fun v => .ok (v.1.1 ++ [(a1k of v.1.2, p)], v.2) := by
 rw [← a4R]
 unfold U7
 simp only [a00, q9]
 rfl
theorem a7j {rec : Nat → List Tk → Out} {nest : Nat} {ts : List Tk} (h : U7 rec nest ts ≠ .error exP) : rec nest ts ≠ .error exP := fun e => by
 unfold U7 at h
 rw [e] at h
 exact h rfl
theorem a7F (rec : Nat → List Tk → Out) (HO : U4 c rec) (h : PS c w i vt vp ts nest bud ns) (hk : (hdT ts).kind ≠ 0) (t : Tk) (of : Nat)
  (ans : Out) (hans : s9 nest ts (d8 (rec (nest + 1) ts.tail) fun p1 => d8 (O6 p1.2) fun q => .ok (p1.1 ++ [({ ndK 3 with of := of, size := q.1 }, t.pos)], q.2)) = ans) (hne : ans ≠ .error exP) :
  Calls Tryz.prog 125 #[.pointer (some ⟨c.g, 0, none⟩), .agg (tkC t), .int .i64 (of : Int)] w (l6 c w vt vp nest bud ns ans) := by
 rw [a7G] at hans
 have HP : Hid (PS c w i vt vp ts nest bud ns) := h
 obtain ⟨tk, tp, tx, tn⟩ := t
 unfold tkC
 simp only at *
 have K1 := World.grownBy_alloc w (.cells #[.pointer (some ⟨c.g, 0, none⟩)] 65) none
 have A1 := VAt.alloc w 65 #[.pointer (some ⟨c.g, 0, none⟩)]
 have K2 := World.grownBy_alloc (w.alloc (.cells #[.pointer (some ⟨c.g, 0, none⟩)] 65)) (.cells #[.int .i64 (tk : Int), .int .i64 (tp : Int), str tx, .int .u32 (tn : Int)] 42) none
 have A2 := VAt.alloc (w.alloc (.cells #[.pointer (some ⟨c.g, 0, none⟩)] 65)) 42 #[.int .i64 (tk : Int), .int .i64 (tp : Int), str tx, .int .u32 (tn : Int)]
 rw [show (w.alloc (.cells #[.pointer (some ⟨c.g, 0, none⟩)] 65)).heap.size = w.heap.size + 1 by simp] at A2
 have A1b := A1.kept K2
 have G2 := d5 K1 K2
 have HANS : Hid (d8 (s9 nest ts (U7 rec (nest + 1) ts.tail)) (fun v => .ok (v.1.1 ++ [(a1k of v.1.2, tp)], v.2)) = ans) := hans
 have HNE : Hid (nest ≠ 200 → rec (nest + 1) ts.tail ≠ .error exP) := fun hn => a7j (fun e => by
  rw [s9, if_neg hn, e] at hans
  exact hne hans.symm)
 have HK : Hid ((hdT ts).kind ≠ 0) := hk
 have HOO : Hid (U4 c rec) := HO
 clear h K1 K2 A1 hans hk HO hne
 go_enter Tryz.func125, Tryz.ntmps125
 go_upto_region 1 with fail
 generalize (w.alloc (.cells #[.pointer (some ⟨c.g, 0, none⟩)] 65)).alloc (.cells #[.int .i64 (tk : Int), .int .i64 (tp : Int), str tx, .int .u32 (tn : Int)] 42) = w2 at *
 obtain ⟨bp, hbp⟩ : ∃ b, w.heap.size = b := ⟨_, rfl⟩
 obtain ⟨bn, hbn⟩ : ∃ b, w.heap.size + 1 = b := ⟨_, rfl⟩
 rw [hbn] at A2 ⊢
 rw [hbp] at A1b ⊢
 have HB : Hid (w.heap.size = bp ∧ w.heap.size + 1 = bn) := ⟨hbp, hbn⟩
 clear hbp hbn
 have K3 := World.grownBy_alloc w2 (.cells #[.int .i64 1] 3) none
 have A3 := VAt.alloc w2 3 #[.int .i64 1]
 have B3 := A1b.kept K3
 have N3 := A2.kept K3
 have G3 := d5 G2 K3
 have H3 := HP.out.keep G3
 have HZ : Hid (bn < w2.heap.size ∧ w.heap.size ≤ w2.heap.size) := ⟨A2.lt, G2.size⟩
 clear K3 A2 A1b G2
 go_upto_region 2 with fail
 generalize w2.alloc (.cells #[.int .i64 1] 3) = w3 at *
 generalize w2.heap.size = bz at *
 have p3 : w3.cell? ⟨bp, 0, none⟩ = some (.pointer (some ⟨c.g, 0, none⟩)) := B3.cell 0
 have hl : bp < bz ∧ bn < bz ∧ bz < w3.heap.size ∧ bp ≠ bz ∧ w.heap.size ≤ bp ∧ w.heap.size ≤ bn ∧ w.heap.size ≤ bz := by
  have := HB.out
  have := HZ.out
  have := A3.lt
  omega
 have hgl := HP.out.blk.lt
 have CN := a2G (α := List (Nd × Nat) × Nat) H3 HK.out 128 #[] #[.pointer (some ⟨bp, 0, none⟩), .pointer (some ⟨bz, 0, none⟩)] (fun _ _ => by kernel_rfl) (fun x => x = bz) Prod.fst (fun (v : List (Nd × Nat) × Nat) W => VAt W bp 65 #[.pointer (some ⟨c.g, 0, none⟩)] ∧ VAt W bz 3 #[.int .i64 (v.2 : Int)]) (U7 rec (nest + 1) ts.tail)
  (fun x hx => by rw [hx]; exact hl.2.2.1)
  (fun v W W' hX hG => ⟨hG.vat hX.1 (fun e => by rcases e with e | e <;> omega), hG.vat hX.2 (fun e => by rcases e with e | e <;> omega)⟩)
  (fun W i1 vt1 vp1 hG hF h1 => by
   have hn := h1.nest_le
   refine a7D rec HOO.out bp bz h1 (fun e => ?_) (fun e => ?_) (hG.vat B3 (HP.out.not_foot hl.2.2.2.2.1)) (hG.vat A3 (HP.out.not_foot hl.2.2.2.2.2.2)) hl.2.2.2.1 (Nat.le_trans HP.out.grown.size hl.2.2.2.2.2.2) (HNE.out (by omega))
   ·exact HP.out.not_foot hl.2.2.2.2.1 (hF bp (by omega) e)
   ·exact HP.out.not_foot hl.2.2.2.2.2.2 (hF bz (by omega) e))
 have HN3 : Hid (VAt w3 bn 42 #[.int .i64 (tk : Int), .int .i64 (tp : Int), str tx, .int .u32 (tn : Int)] ∧ w.grownBy w3 none) := ⟨N3, G3⟩
 have HL : Hid (bp < bz ∧ bn < bz ∧ bz < w3.heap.size ∧ bp ≠ bz ∧ w.heap.size ≤ bp ∧ w.heap.size ≤ bn ∧ w.heap.size ≤ bz) := hl
 clear H3 hl hgl A3 B3 N3 G3 HNE HOO HK
 generalize s9 nest ts (U7 rec (nest + 1) ts.tail) = rr at *
 go_wp2_with fail
 refine CN.mono ?_
 clear CN
 cases rr with
 | error er =>
  have HA3 : Hid (ans = .error er) := HANS.out.symm
  rintro e w4 ⟨rfl, G⟩
  go_wp2
  refine ⟨rfl, ?_⟩
  rw [HA3.out]
  exact ⟨rfl, (GB.non (S := d3 c.g vt vp) HN3.out.2).trans G (fun x hx h => h.elim id (fun e => by have := HL.out; omega))⟩
 | ok v =>
  obtain ⟨⟨ms, sz⟩, r4⟩ := v
  have HA3 : Hid (ans = .ok (ms ++ [(a1k of sz, tp)], r4)) := HANS.out.symm
  rintro e w4 ⟨rfl, ⟨B4, Z4⟩, i4, vt4, vp4, H4, G4, F4⟩
  have p4 : w4.cell? ⟨bp, 0, none⟩ = some (.pointer (some ⟨c.g, 0, none⟩)) := B4.cell 0
  have z4 : w4.cell? ⟨bz, 0, none⟩ = some (.int .i64 (sz : Int)) := Z4.cell 0
  have N4 := G4.vat HN3.out.1 (fun h => h.elim (HP.out.not_foot HL.out.2.2.2.2.2.1) (fun e => by have := HL.out; omega))
  have HQ : Hid (GB w w4 (d3 c.g vt vp) ∧ ∀ x, x < w.heap.size → d3 c.g vt4 vp4 x → d3 c.g vt vp x) := ⟨(GB.non (S := d3 c.g vt vp) HN3.out.2).trans G4 (fun x hx h => h.elim id (fun e => by have := HL.out; omega)), fun x hx => F4 x (Nat.lt_of_lt_of_le hx HN3.out.2.size)⟩
  have CP := F0 H4 ⟨tk, tp, tx, tn⟩ (a1k of sz)
  rw [a7E] at CP
  unfold tkC at CP
  simp only at CP
  clear HANS B4 Z4 H4 G4 F4 p3
  go_wp2_with (refine wpList_load_row rfl 42 (.tmp 4) rfl bn rfl 42 _ (0, 0) _ N4 Tryz.underlying42 rfl D2 ?_)
  refine CP.mono ?_
  rintro e w5 ⟨rfl, R5⟩
  clear CP
  go_wp2
  go_end0
  rw [HA3.out]
  refine ⟨rfl, ?_⟩
  rw [← List.append_assoc]
  exact Ret.of HQ.out.1 HQ.out.2 R5

end
end Go.Proofs.YtlfmddjppejmaaaGreatDoor
