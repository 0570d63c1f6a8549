import Derived.Test.YtlfmddjppejmaaaGreatDoorqAb
import Derived.Test.YtlfmddjppejmaaaGreatDoorqPsN
set_option maxHeartbeats 64000000
set_option maxRecDepth 100000
namespace Go.Proofs.YtlfmddjppejmaaaGreatDoor
open Go.RowKit
def a1Q (n : Nat) : Nd := { ndK 1 with n := n }
def Y4 (s : Nat) : Nd := { ndK 10 with side := s }
def a0q (n : Nat) : Nd := { ndK 12 with n := n }
theorem a6t (n : Nat) (W : World) : (Instr.build 54 #[(0, .int .i64 1), (2, .int .u32 (n : Int))]).run Tryz.prog W = .ok (.agg (a1Q n).cells.toArray) W := by kernel_rfl
theorem a6r (W : World) : (Instr.build 54 #[(0, .int .i64 2)]).run Tryz.prog W = .ok (.agg (ndK 2).cells.toArray) W := by kernel_rfl
theorem a6v (W : World) : (Instr.build 54 #[(0, .int .i64 10), (6, .int .i64 1)]).run Tryz.prog W = .ok (.agg (Y4 1).cells.toArray) W := by kernel_rfl
theorem a6w (W : World) : (Instr.build 54 #[(0, .int .i64 10), (6, .int .i64 2)]).run Tryz.prog W = .ok (.agg (Y4 2).cells.toArray) W := by kernel_rfl
theorem a6u (n : Nat) (W : World) : (Instr.build 54 #[(0, .int .i64 12), (2, .int .u32 (n : Int))]).run Tryz.prog W = .ok (.agg (a0q n).cells.toArray) W := by kernel_rfl

section
variable {c : PC} {w : World} {i nest bud : Nat} {vt vp : Value} {ts : List Tk} {ns : List (Nd × Nat)}
theorem PW.step2 {W W2 : World} {i1 bud1 bud2 R V : Nat} {vt1 vp1 : Value} {ts1 ts2 : List Tk} {tR tV : Nat} {y x : Array Value} {ns2 : List (Nd × Nat)} (h : PW c w vt vp W i1 vt1 vp1 ts1 nest bud1 ns R V tR tV y x) (r : Ret c W vt1 vp1 ts2 nest bud2 ns2 W2) : ∃ i2 vt2 vp2, PW c w vt vp W2 i2 vt2 vp2 ts2 nest bud2 ns2 R V tR tV y x := by
 obtain ⟨i2, vt2, vp2, p, g, f⟩ := r
 exact ⟨i2, vt2, vp2, p, h.gb.trans g h.sh, fun x hx k => h.sh x hx (f x (Nat.lt_of_lt_of_le hx h.gb.size) k), fun e => h.fV (f V h.var.lt e), fun e => h.fR (f R h.res.lt e), g.vat h.var h.fV, g.vat h.res h.fR, h.lV, h.lR, h.ne⟩
theorem a8y (rec : Nat → List Tk → Out) (HO : U4 c rec) (bp : Nat) (h : PS c w i vt vp ts nest bud ns) (fp : ¬ d3 c.g vt vp bp) (hp : VAt w bp 65 #[.pointer (some ⟨c.g, 0, none⟩)]) (hex : rec nest ts ≠ .error exP) :
  Calls Tryz.prog 115 #[.pointer (some ⟨bp, 0, none⟩)] w (l6 c w vt vp nest bud ns (d8 (rec nest ts) fun p => d8 (l5 [41] p.2) fun r => .ok (p.1, r))) := by
 have C0 := HO w i vt vp ts nest bud ns h hex
 have p0 : w.cell? ⟨bp, 0, none⟩ = some (.pointer (some ⟨c.g, 0, none⟩)) := hp.cell 0
 have HB : Hid (¬ d3 c.g vt vp bp ∧ VAt w bp 65 #[.pointer (some ⟨c.g, 0, none⟩)]) := ⟨fp, hp⟩
 obtain ⟨ans, hans⟩ : ∃ a, (d8 (rec nest ts) fun p => d8 (l5 [41] p.2) fun r => (.ok (p.1, r) : Out)) = a := ⟨_, rfl⟩
 have HA : Hid ((d8 (rec nest ts) fun p => d8 (l5 [41] p.2) fun r => (.ok (p.1, r) : Out)) = ans) := hans
 rw [hans]
 clear h hp fp hex hans HO
 generalize rec nest ts = rr at *
 go_enter Tryz.func115, Tryz.ntmps115
 go_wp2_with fail
 refine C0.mono ?_
 clear C0
 cases rr with
 | error er =>
  have HA3 : Hid (ans = .error er) := HA.out.symm
  rintro e w1 ⟨rfl, G⟩
  go_wp2
  refine ⟨rfl, ?_⟩
  rw [HA3.out]
  exact ⟨rfl, G⟩
 | ok v =>
  obtain ⟨ms, r1⟩ := v
  rw [q9] at HA
  simp only at HA
  rintro e w1 ⟨rfl, i1, vt1, vp1, H1, G1, F1⟩
  have B1 := G1.vat HB.out.2 HB.out.1
  have p1 : w1.cell? ⟨bp, 0, none⟩ = some (.pointer (some ⟨c.g, 0, none⟩)) := B1.cell 0
  have C1 := a0k H1 [41] (s7 (by decide) (by kernel_rfl))
  generalize l5 [41] r1 = mr at *
  have HQ : Hid (GB w w1 (d3 c.g vt vp) ∧ ∀ x, x < w.heap.size → d3 c.g vt1 vp1 x → d3 c.g vt vp x) := ⟨G1, F1⟩
  clear H1 G1 F1 p0 B1
  go_wp2_with fail
  refine C1.mono ?_
  clear C1
  cases mr with
  | error er =>
   have HA3 : Hid (ans = .error er) := HA.out.symm
   rintro e w2 ⟨rfl, G⟩
   go_wp2
   refine ⟨rfl, ?_⟩
   rw [HA3.out]
   exact ⟨rfl, HQ.out.1.trans G HQ.out.2⟩
  | ok r2 =>
   have HA3 : Hid (ans = .ok (ms, r2)) := HA.out.symm
   rintro e w2 ⟨rfl, R2⟩
   go_wp2
   go_end0
   rw [HA3.out]
   exact ⟨rfl, Ret.less (Ret.of HQ.out.1 HQ.out.2 R2) (Nat.le_succ bud)⟩
theorem a8E (h : PS c w i vt vp ts nest bud ns) (hk : (hdT ts).kind = 1) :
  Calls Tryz.prog 113 #[.pointer (some ⟨c.g, 0, none⟩)] w (l6 c w vt vp nest bud ns (.ok ([(a1Q (hdT ts).num, (hdT ts).pos)], ts.tail))) := by
 have HP : Hid (PS c w i vt vp ts nest bud ns) := h
 have k1 : (((hdT ts).kind : Int) == 1) = true := by rw [hk]; rfl
 have HNT : Hid (j8 ts = .ok ((hdT ts).num, ts.tail)) := by show _ = _; rw [j8, if_pos hk]
 clear hk
 generalize hT : hdT ts = t at *
 have HT : Hid (hdT ts = t) := hT
 clear hT
 obtain ⟨tk, tp, tx, tn⟩ := t
 simp only at *
 have KB := World.grownBy_alloc w (.cells #[.pointer (some ⟨c.g, 0, none⟩)] 65) none
 have BA := VAt.alloc w 65 #[.pointer (some ⟨c.g, 0, none⟩)]
 clear h
 go_enter Tryz.func113, Tryz.ntmps113
 go_upto_region 1 with fail
 have Q1 : PR c w vt vp (w.alloc (.cells #[.pointer (some ⟨c.g, 0, none⟩)] 65)) i vt vp ts nest bud ns w.heap.size 65 #[.pointer (some ⟨c.g, 0, none⟩)] := ⟨HP.out.keep KB, GB.non KB, fun _ _ h => h, HP.out.not_foot (Nat.le_refl _), BA, Nat.le_refl _⟩
 generalize w.alloc (.cells #[.pointer (some ⟨c.g, 0, none⟩)] 65) = w1 at *
 obtain ⟨bp, hbp⟩ : ∃ b, w.heap.size = b := ⟨_, rfl⟩
 have HL : Hid (w.heap.size = bp) := hbp
 rw [hbp] at Q1 ⊢
 clear hbp KB BA
 have p1 : w1.cell? ⟨bp, 0, none⟩ = some (.pointer (some ⟨c.g, 0, none⟩)) := Q1.res.cell 0
 have CN := x9 Q1.ps
 unfold tkC at CN
 rw [HT.out] at CN
 simp only at CN
 go_wp2_with fail
 refine CN.mono ?_
 rintro e w2 ⟨rfl, G2⟩
 have Q2 := Q1.keep G2
 clear CN Q1 G2 p1
 have Q3 := Q2.add 42 #[.int .i64 (tk : Int), .int .i64 (tp : Int), str tx, .int .u32 (tn : Int)]
 clear Q2
 go_upto_region 2 with fail
 generalize w2.alloc (.cells #[.int .i64 (tk : Int), .int .i64 (tp : Int), .string ⟨tx.toArray⟩, .int .u32 (tn : Int)] 42) = w3 at *
 generalize w2.heap.size = bf at *
 have f0 : w3.cell? ⟨bf, 0, none⟩ = some (.int .i64 (tk : Int)) := Q3.var.cell 0
 have f2 : w3.cell? ⟨bf, 2, none⟩ = some (str tx) := Q3.var.cell 2
 have p3 : w3.cell? ⟨bp, 0, none⟩ = some (.pointer (some ⟨c.g, 0, none⟩)) := Q3.res.cell 0
 have HQ3 : Hid (PW c w vt vp w3.drew i vt vp ts nest bud ns bp bf 65 42 #[.pointer (some ⟨c.g, 0, none⟩)] #[.int .i64 (tk : Int), .int .i64 (tp : Int), str tx, .int .u32 (tn : Int)]) := Q3.keep (f8 w3 1 none)
 clear Q3
 go_upto_region 3 with fail
 clear f0 f2 p3
 refine wp_region_held_drew (S := fun W => VAt W bp 65 #[.pointer (some ⟨c.g, 0, none⟩)] ∧ VAt W bf 42 #[.int .i64 (tk : Int), .int .i64 (tp : Int), str tx, .int .u32 (tn : Int)]) (by kernel_rfl) ⟨HQ3.out.res, HQ3.out.var⟩ (fun hHeld => ?_)
 have HC : Hid (Calls Tryz.prog 114 #[.pointer (some ⟨c.g, 0, none⟩)] w3.drew (M6 c w3.drew vt vp nest (bud + 1) ns (fun n : Nat => .int .u32 (n : Int)) (j8 ts))) := a0s HQ3.out.ps
 rw [HNT.out] at HC
 refine wpT (i := 0) (v := .pointer (some ⟨c.g, 0, none⟩)) rfl (Or.inl ⟨by rfl, fun W hW => ?_⟩) hHeld ?_
 ·have pc : W.cell? ⟨bp, 0, none⟩ = some (.pointer (some ⟨c.g, 0, none⟩)) := hW.1.cell 0
  clear hW
  go_simp
 try simp only [Act.put, a0, a1, a3, a4, a5]
 refine wpT (i := 1) (v := .agg #[.int .i64 (tk : Int), .int .i64 (tp : Int), str tx, .int .u32 (tn : Int)]) rfl (E8 (by rfl) _ _ rfl bf rfl 42 #[.int .i64 (tk : Int), .int .i64 (tp : Int), str tx, .int .u32 (tn : Int)] _ (fun W hW => hW.2) Tryz.underlying42 rfl D2) hHeld ?_
 try simp only [Act.put, a0, a1, a2, a3, a4, a5]
 refine wpT (i := 2) (v := .pointer (some ⟨c.g, 0, none⟩)) rfl (Or.inl ⟨by rfl, fun W hW => ?_⟩) hHeld ?_
 ·have pc : W.cell? ⟨bp, 0, none⟩ = some (.pointer (some ⟨c.g, 0, none⟩)) := hW.1.cell 0
  clear hW
  go_simp
 try simp only [Act.put, a0, a1, a2, a3, a4, a5]
 refine wpT (i := 3) (v := .pointer (some ⟨c.g, 0, none⟩)) rfl (Or.inl ⟨by rfl, fun W hW => ?_⟩) hHeld ?_
 ·clear hW
  go_simp
 try simp only [Act.put, a0, a1, a2, a3, a4, a5]
 refine wpT (i := 4) (v := .pointer (some ⟨c.g, 0, none⟩)) rfl (Or.inl ⟨by rfl, fun W hW => ?_⟩) hHeld ?_
 ·clear hW
  go_simp
 try simp only [Act.put, a0, a1, a2, a3, a4, a5]
 refine wpR (rs := [5]) (AllReadyH.cons rfl (fun K hK => ?_) AllReadyH.nil)
 go_simp
 refine HC.out.mono ?_
 clear HC
 rintro e w4 ⟨rfl, R4⟩
 obtain ⟨i4, vt4, vp4, Q4⟩ := HQ3.out.step R4
 go_wp2_with fail
 refine hK.out _ _ ⟨Q4.res, Q4.var⟩ (fun hHeld => ?_)
 clear hK K
 try simp only [Act.put, a0, a1, a2, a3, a4, a5]
 have HB := a6t tn
 refine wpT (i := 6) (v := .agg (a1Q tn).cells.toArray) rfl (Or.inl ⟨by rfl, fun W hW => ?_⟩) hHeld ?_
 ·clear hW
  simp [execOp, Act.eval, HB]
 try simp only [Act.put, a0, a1, a2, a3, a4, a5]
 have CP := F0 Q4.ps ⟨tk, tp, tx, tn⟩ (a1Q tn)
 refine wpR (rs := [7]) (AllReadyH.cons rfl (fun K hK => ?_) AllReadyH.nil)
 unfold tkC at CP
 simp only at CP
 go_simp
 refine CP.mono ?_
 rintro e wz ⟨rfl, RZ⟩
 obtain ⟨iz, vtz, vpz, QZ⟩ := Q4.step2 RZ
 go_wp2_with fail
 refine hK.out _ _ ⟨QZ.res, QZ.var⟩ (fun hHeld => ?_)
 clear hK K
 refine wpAnyH_done (by kernel_rfl) ?_ _
 go_wp2
 go_end0
 exact ⟨rfl, QZ.ret⟩
theorem a8I (h : PS c w i vt vp ts nest bud ns) (rec : Nat → List Tk → Out) (HO : U4 c rec) (hk : (hdT ts).kind ≠ 1) (hk0 : (hdT ts).kind ≠ 0) (hx : (hdT ts).text = [40]) (ans : Out) (hans : s9 nest ts (d8 (rec (nest + 1) ts.tail) fun p => d8 (l5 [41] p.2) fun r => .ok (p.1, r)) = ans) (hne : ans ≠ .error exP) :
  Calls Tryz.prog 113 #[.pointer (some ⟨c.g, 0, none⟩)] w (l6 c w vt vp nest bud ns ans) := by
 have HP : Hid (PS c w i vt vp ts nest bud ns) := h
 have k1 : (((hdT ts).kind : Int) == 1) = false := by rw [beq_eq_false_iff_ne]; omega
 have e0 : ((hdT ts).text == [40]) = true := by rw [hx]; rfl
 have HANS : Hid (s9 nest ts (d8 (rec (nest + 1) ts.tail) fun p => d8 (l5 [41] p.2) fun r => .ok (p.1, r)) = ans) := hans
 have HNE : Hid (nest ≠ 200 → rec (nest + 1) ts.tail ≠ .error exP) := fun hn e => by
  rw [s9, if_neg hn, e] at hans
  exact hne hans.symm
 have HOO : Hid (U4 c rec) := HO
 have HK0 : Hid ((hdT ts).kind ≠ 0) := hk0
 have HTS : Hid (I0 ts) := h.good
 clear hans hne HO hk hk0 hx
 generalize hT : hdT ts = t at *
 have HT : Hid (hdT ts = t) := hT
 clear hT
 obtain ⟨tk, tp, tx, tn⟩ := t
 simp only at *
 have KB := World.grownBy_alloc w (.cells #[.pointer (some ⟨c.g, 0, none⟩)] 65) none
 have BA := VAt.alloc w 65 #[.pointer (some ⟨c.g, 0, none⟩)]
 clear h
 go_enter Tryz.func113, Tryz.ntmps113
 go_upto_region 1 with fail
 have Q1 : PR c w vt vp (w.alloc (.cells #[.pointer (some ⟨c.g, 0, none⟩)] 65)) i vt vp ts nest bud ns w.heap.size 65 #[.pointer (some ⟨c.g, 0, none⟩)] := ⟨HP.out.keep KB, GB.non KB, fun _ _ h => h, HP.out.not_foot (Nat.le_refl _), BA, Nat.le_refl _⟩
 generalize w.alloc (.cells #[.pointer (some ⟨c.g, 0, none⟩)] 65) = w1 at *
 obtain ⟨bp, hbp⟩ : ∃ b, w.heap.size = b := ⟨_, rfl⟩
 have HL : Hid (w.heap.size = bp) := hbp
 rw [hbp] at Q1 ⊢
 clear hbp KB BA
 have p1 : w1.cell? ⟨bp, 0, none⟩ = some (.pointer (some ⟨c.g, 0, none⟩)) := Q1.res.cell 0
 have CN := x9 Q1.ps
 unfold tkC at CN
 rw [HT.out] at CN
 simp only at CN
 go_wp2_with fail
 refine CN.mono ?_
 rintro e w2 ⟨rfl, G2⟩
 have Q2 := Q1.keep G2
 clear CN Q1 G2 p1
 have Q3 := Q2.add 42 #[.int .i64 (tk : Int), .int .i64 (tp : Int), str tx, .int .u32 (tn : Int)]
 clear Q2
 go_upto_region 2 with fail
 generalize w2.alloc (.cells #[.int .i64 (tk : Int), .int .i64 (tp : Int), .string ⟨tx.toArray⟩, .int .u32 (tn : Int)] 42) = w3 at *
 generalize w2.heap.size = bf at *
 have f0 : w3.cell? ⟨bf, 0, none⟩ = some (.int .i64 (tk : Int)) := Q3.var.cell 0
 have f2 : w3.cell? ⟨bf, 2, none⟩ = some (str tx) := Q3.var.cell 2
 have p3 : w3.cell? ⟨bp, 0, none⟩ = some (.pointer (some ⟨c.g, 0, none⟩)) := Q3.res.cell 0
 have hl : w.heap.size ≤ bp ∧ bp < w3.heap.size := ⟨Nat.le_of_eq HL.out, Q3.res.lt⟩
 have hgl := HP.out.blk.lt
 have CN := a2G (α := List (Nd × Nat)) Q3.ps (by rw [HT.out]; exact HK0.out) 115 #[] #[.pointer (some ⟨bp, 0, none⟩)] (fun _ _ => by kernel_rfl) (fun _ => False) id (fun _ _ => True) (d8 (rec (nest + 1) ts.tail) fun p => d8 (l5 [41] p.2) fun r => .ok (p.1, r)) (fun _ h => h.elim) (fun _ _ _ h _ => h)
  (fun W i1 vt1 vp1 hG hF h1 => by
   have hn := h1.nest_le
   exact (a8y rec HOO.out bp h1 (fun e => Q3.fR (hF bp hl.2 e)) (hG.vat Q3.res Q3.fR) (HNE.out (by omega))).mono fun _ _ h => U5.of_run h)
 rw [HANS.out] at CN
 have HQ : Hid (GB w w3 (d3 c.g vt vp)) := Q3.gb
 clear Q3 HANS HNE HOO
 go_wp2_with fail
 refine CN.mono ?_
 clear CN
 intro e w4 hX
 have hB := hX.back
 clear hX
 cases ans with
 | error er =>
  obtain ⟨rfl, G4⟩ := hB
  go_wp2
  exact ⟨rfl, rfl, HQ.out.trans G4 (fun _ _ h => h)⟩
 | ok v =>
  obtain ⟨ms, r4⟩ := v
  obtain ⟨rfl, R4⟩ := hB
  go_wp2
  go_end0
  exact ⟨rfl, Ret.less (Ret.of HQ.out (fun _ _ h => h) R4) (Nat.le_succ bud)⟩
theorem a8D (h : PS c w i vt vp ts nest bud ns) (hk : (hdT ts).kind ≠ 1) (hk0 : (hdT ts).kind ≠ 0) (hx : (hdT ts).text = W5) :
  Calls Tryz.prog 113 #[.pointer (some ⟨c.g, 0, none⟩)] w (l6 c w vt vp nest bud ns (.ok ([((ndK 2), (hdT ts).pos)], ts.tail))) := by
 have HP : Hid (PS c w i vt vp ts nest bud ns) := h
 have k1 : (((hdT ts).kind : Int) == 1) = false := by rw [beq_eq_false_iff_ne]; omega
 have e0 : ((hdT ts).text == [40]) = false := by rw [beq_eq_false_iff_ne]; exact fun e => absurd (hx.symm.trans e) (by decide)
 have e1 : ((hdT ts).text == [108, 101, 110]) = true := by rw [hx]; rfl
 have HK0 : Hid ((hdT ts).kind ≠ 0) := hk0
 clear hk hk0 hx
 generalize hT : hdT ts = t at *
 have HT : Hid (hdT ts = t) := hT
 clear hT
 obtain ⟨tk, tp, tx, tn⟩ := t
 simp only at *
 have KB := World.grownBy_alloc w (.cells #[.pointer (some ⟨c.g, 0, none⟩)] 65) none
 have BA := VAt.alloc w 65 #[.pointer (some ⟨c.g, 0, none⟩)]
 clear h
 go_enter Tryz.func113, Tryz.ntmps113
 go_upto_region 1 with fail
 have Q1 : PR c w vt vp (w.alloc (.cells #[.pointer (some ⟨c.g, 0, none⟩)] 65)) i vt vp ts nest bud ns w.heap.size 65 #[.pointer (some ⟨c.g, 0, none⟩)] := ⟨HP.out.keep KB, GB.non KB, fun _ _ h => h, HP.out.not_foot (Nat.le_refl _), BA, Nat.le_refl _⟩
 generalize w.alloc (.cells #[.pointer (some ⟨c.g, 0, none⟩)] 65) = w1 at *
 obtain ⟨bp, hbp⟩ : ∃ b, w.heap.size = b := ⟨_, rfl⟩
 have HL : Hid (w.heap.size = bp) := hbp
 rw [hbp] at Q1 ⊢
 clear hbp KB BA
 have p1 : w1.cell? ⟨bp, 0, none⟩ = some (.pointer (some ⟨c.g, 0, none⟩)) := Q1.res.cell 0
 have CN := x9 Q1.ps
 unfold tkC at CN
 rw [HT.out] at CN
 simp only at CN
 go_wp2_with fail
 refine CN.mono ?_
 rintro e w2 ⟨rfl, G2⟩
 have Q2 := Q1.keep G2
 clear CN Q1 G2 p1
 have Q3 := Q2.add 42 #[.int .i64 (tk : Int), .int .i64 (tp : Int), str tx, .int .u32 (tn : Int)]
 clear Q2
 go_upto_region 2 with fail
 generalize w2.alloc (.cells #[.int .i64 (tk : Int), .int .i64 (tp : Int), .string ⟨tx.toArray⟩, .int .u32 (tn : Int)] 42) = w3 at *
 generalize w2.heap.size = bf at *
 have f0 : w3.cell? ⟨bf, 0, none⟩ = some (.int .i64 (tk : Int)) := Q3.var.cell 0
 have f2 : w3.cell? ⟨bf, 2, none⟩ = some (str tx) := Q3.var.cell 2
 have p3 : w3.cell? ⟨bp, 0, none⟩ = some (.pointer (some ⟨c.g, 0, none⟩)) := Q3.res.cell 0
 have HQ3 : Hid (PW c w vt vp w3.drew i vt vp ts nest bud ns bp bf 65 42 #[.pointer (some ⟨c.g, 0, none⟩)] #[.int .i64 (tk : Int), .int .i64 (tp : Int), str tx, .int .u32 (tn : Int)]) := Q3.keep (f8 w3 1 none)
 clear Q3
 go_upto_region 9 with fail
 clear f0 f2 p3
 refine wp_region_held_drew (S := fun W => VAt W bp 65 #[.pointer (some ⟨c.g, 0, none⟩)] ∧ VAt W bf 42 #[.int .i64 (tk : Int), .int .i64 (tp : Int), str tx, .int .u32 (tn : Int)]) (by kernel_rfl) ⟨HQ3.out.res, HQ3.out.var⟩ (fun hHeld => ?_)
 have HC : Hid (Calls Tryz.prog 66 #[.pointer (some ⟨c.g, 0, none⟩)] w3.drew fun e w' => e = .returned (.agg #[.int .i64 (tk : Int), .int .i64 (tp : Int), str tx, .int .u32 (tn : Int)]) ∧ Ret c w3.drew vt vp ts.tail nest (bud + 1) ns w') := by
  have := I5 HQ3.out.ps (by rw [HT.out]; exact HK0.out)
  rw [HT.out] at this
  exact this
 refine wpT (i := 0) (v := .pointer (some ⟨c.g, 0, none⟩)) rfl (Or.inl ⟨by rfl, fun W hW => ?_⟩) hHeld ?_
 ·have pc : W.cell? ⟨bp, 0, none⟩ = some (.pointer (some ⟨c.g, 0, none⟩)) := hW.1.cell 0
  clear hW
  go_simp
 try simp only [Act.put, a0, a1, a3, a4, a5]
 refine wpT (i := 1) (v := .pointer (some ⟨c.g, 0, none⟩)) rfl (Or.inl ⟨by rfl, fun W hW => ?_⟩) hHeld ?_
 ·have pc : W.cell? ⟨bp, 0, none⟩ = some (.pointer (some ⟨c.g, 0, none⟩)) := hW.1.cell 0
  clear hW
  go_simp
 try simp only [Act.put, a0, a1, a2, a3, a4, a5]
 refine wpT (i := 2) (v := .pointer (some ⟨c.g, 0, none⟩)) rfl (Or.inl ⟨by rfl, fun W hW => ?_⟩) hHeld ?_
 ·clear hW
  go_simp
 try simp only [Act.put, a0, a1, a2, a3, a4, a5]
 refine wpT (i := 3) (v := .pointer (some ⟨c.g, 0, none⟩)) rfl (Or.inl ⟨by rfl, fun W hW => ?_⟩) hHeld ?_
 ·clear hW
  go_simp
 try simp only [Act.put, a0, a1, a2, a3, a4, a5]
 have HB := a6r
 obtain ⟨X, hX⟩ : ∃ X, (ndK 2) = X := ⟨_, rfl⟩
 rw [hX] at HB
 have HX : Hid ((ndK 2) = X) := hX
 clear hX
 refine wpT (i := 5) (v := .agg X.cells.toArray) rfl (Or.inl ⟨by rfl, fun W hW => ?_⟩) hHeld ?_
 ·clear hW
  simp [execOp, Act.eval, HB]
 try simp only [Act.put, a0, a1, a2, a3, a4, a5]
 refine wpR (rs := [4]) (AllReadyH.cons rfl (fun K hK => ?_) AllReadyH.nil)
 go_simp
 refine HC.out.mono ?_
 clear HC
 rintro e w4 ⟨rfl, R4⟩
 obtain ⟨i4, vt4, vp4, Q4⟩ := HQ3.out.step R4
 go_wp2_with fail
 refine hK.out _ _ ⟨Q4.res, Q4.var⟩ (fun hHeld => ?_)
 clear hK K
 try simp only [Act.put, a0, a1, a2, a3, a4, a5]
 have CP := F0 Q4.ps ⟨tk, tp, tx, tn⟩ X
 refine wpR (rs := [6]) (AllReadyH.cons rfl (fun K hK => ?_) AllReadyH.nil)
 unfold tkC at CP
 simp only at CP
 go_simp
 refine CP.mono ?_
 rintro e wz ⟨rfl, RZ⟩
 obtain ⟨iz, vtz, vpz, QZ⟩ := Q4.step2 RZ
 go_wp2_with fail
 refine hK.out _ _ ⟨QZ.res, QZ.var⟩ (fun hHeld => ?_)
 clear hK K
 refine wpAnyH_done (by kernel_rfl) ?_ _
 go_wp2
 go_end0
 rw [HX.out]
 exact ⟨rfl, QZ.ret⟩
theorem a8C (h : PS c w i vt vp ts nest bud ns) (hk : (hdT ts).kind ≠ 1) (hk0 : (hdT ts).kind ≠ 0) (hx : (hdT ts).text = W4) :
  Calls Tryz.prog 113 #[.pointer (some ⟨c.g, 0, none⟩)] w (l6 c w vt vp nest bud ns (.ok ([((Y4 1), (hdT ts).pos)], ts.tail))) := by
 have HP : Hid (PS c w i vt vp ts nest bud ns) := h
 have k1 : (((hdT ts).kind : Int) == 1) = false := by rw [beq_eq_false_iff_ne]; omega
 have e0 : ((hdT ts).text == [40]) = false := by rw [beq_eq_false_iff_ne]; exact fun e => absurd (hx.symm.trans e) (by decide)
 have e1 : ((hdT ts).text == [108, 101, 110]) = false := by rw [beq_eq_false_iff_ne]; exact fun e => absurd (hx.symm.trans e) (by decide)
 have e2 : ((hdT ts).text == [105, 110, 98, 111, 117, 110, 100]) = true := by rw [hx]; rfl
 have HK0 : Hid ((hdT ts).kind ≠ 0) := hk0
 clear hk hk0 hx
 generalize hT : hdT ts = t at *
 have HT : Hid (hdT ts = t) := hT
 clear hT
 obtain ⟨tk, tp, tx, tn⟩ := t
 simp only at *
 have KB := World.grownBy_alloc w (.cells #[.pointer (some ⟨c.g, 0, none⟩)] 65) none
 have BA := VAt.alloc w 65 #[.pointer (some ⟨c.g, 0, none⟩)]
 clear h
 go_enter Tryz.func113, Tryz.ntmps113
 go_upto_region 1 with fail
 have Q1 : PR c w vt vp (w.alloc (.cells #[.pointer (some ⟨c.g, 0, none⟩)] 65)) i vt vp ts nest bud ns w.heap.size 65 #[.pointer (some ⟨c.g, 0, none⟩)] := ⟨HP.out.keep KB, GB.non KB, fun _ _ h => h, HP.out.not_foot (Nat.le_refl _), BA, Nat.le_refl _⟩
 generalize w.alloc (.cells #[.pointer (some ⟨c.g, 0, none⟩)] 65) = w1 at *
 obtain ⟨bp, hbp⟩ : ∃ b, w.heap.size = b := ⟨_, rfl⟩
 have HL : Hid (w.heap.size = bp) := hbp
 rw [hbp] at Q1 ⊢
 clear hbp KB BA
 have p1 : w1.cell? ⟨bp, 0, none⟩ = some (.pointer (some ⟨c.g, 0, none⟩)) := Q1.res.cell 0
 have CN := x9 Q1.ps
 unfold tkC at CN
 rw [HT.out] at CN
 simp only at CN
 go_wp2_with fail
 refine CN.mono ?_
 rintro e w2 ⟨rfl, G2⟩
 have Q2 := Q1.keep G2
 clear CN Q1 G2 p1
 have Q3 := Q2.add 42 #[.int .i64 (tk : Int), .int .i64 (tp : Int), str tx, .int .u32 (tn : Int)]
 clear Q2
 go_upto_region 2 with fail
 generalize w2.alloc (.cells #[.int .i64 (tk : Int), .int .i64 (tp : Int), .string ⟨tx.toArray⟩, .int .u32 (tn : Int)] 42) = w3 at *
 generalize w2.heap.size = bf at *
 have f0 : w3.cell? ⟨bf, 0, none⟩ = some (.int .i64 (tk : Int)) := Q3.var.cell 0
 have f2 : w3.cell? ⟨bf, 2, none⟩ = some (str tx) := Q3.var.cell 2
 have p3 : w3.cell? ⟨bp, 0, none⟩ = some (.pointer (some ⟨c.g, 0, none⟩)) := Q3.res.cell 0
 have HQ3 : Hid (PW c w vt vp w3.drew i vt vp ts nest bud ns bp bf 65 42 #[.pointer (some ⟨c.g, 0, none⟩)] #[.int .i64 (tk : Int), .int .i64 (tp : Int), str tx, .int .u32 (tn : Int)]) := Q3.keep (f8 w3 1 none)
 clear Q3
 go_upto_region 11 with fail
 clear f0 f2 p3
 refine wp_region_held_drew (S := fun W => VAt W bp 65 #[.pointer (some ⟨c.g, 0, none⟩)] ∧ VAt W bf 42 #[.int .i64 (tk : Int), .int .i64 (tp : Int), str tx, .int .u32 (tn : Int)]) (by kernel_rfl) ⟨HQ3.out.res, HQ3.out.var⟩ (fun hHeld => ?_)
 have HC : Hid (Calls Tryz.prog 66 #[.pointer (some ⟨c.g, 0, none⟩)] w3.drew fun e w' => e = .returned (.agg #[.int .i64 (tk : Int), .int .i64 (tp : Int), str tx, .int .u32 (tn : Int)]) ∧ Ret c w3.drew vt vp ts.tail nest (bud + 1) ns w') := by
  have := I5 HQ3.out.ps (by rw [HT.out]; exact HK0.out)
  rw [HT.out] at this
  exact this
 refine wpT (i := 0) (v := .pointer (some ⟨c.g, 0, none⟩)) rfl (Or.inl ⟨by rfl, fun W hW => ?_⟩) hHeld ?_
 ·have pc : W.cell? ⟨bp, 0, none⟩ = some (.pointer (some ⟨c.g, 0, none⟩)) := hW.1.cell 0
  clear hW
  go_simp
 try simp only [Act.put, a0, a1, a3, a4, a5]
 refine wpT (i := 1) (v := .pointer (some ⟨c.g, 0, none⟩)) rfl (Or.inl ⟨by rfl, fun W hW => ?_⟩) hHeld ?_
 ·have pc : W.cell? ⟨bp, 0, none⟩ = some (.pointer (some ⟨c.g, 0, none⟩)) := hW.1.cell 0
  clear hW
  go_simp
 try simp only [Act.put, a0, a1, a2, a3, a4, a5]
 refine wpT (i := 2) (v := .pointer (some ⟨c.g, 0, none⟩)) rfl (Or.inl ⟨by rfl, fun W hW => ?_⟩) hHeld ?_
 ·clear hW
  go_simp
 try simp only [Act.put, a0, a1, a2, a3, a4, a5]
 refine wpT (i := 3) (v := .pointer (some ⟨c.g, 0, none⟩)) rfl (Or.inl ⟨by rfl, fun W hW => ?_⟩) hHeld ?_
 ·clear hW
  go_simp
 try simp only [Act.put, a0, a1, a2, a3, a4, a5]
 have HB := a6v
 obtain ⟨X, hX⟩ : ∃ X, (Y4 1) = X := ⟨_, rfl⟩
 rw [hX] at HB
 have HX : Hid ((Y4 1) = X) := hX
 clear hX
 refine wpT (i := 5) (v := .agg X.cells.toArray) rfl (Or.inl ⟨by rfl, fun W hW => ?_⟩) hHeld ?_
 ·clear hW
  simp [execOp, Act.eval, HB]
 try simp only [Act.put, a0, a1, a2, a3, a4, a5]
 refine wpR (rs := [4]) (AllReadyH.cons rfl (fun K hK => ?_) AllReadyH.nil)
 go_simp
 refine HC.out.mono ?_
 clear HC
 rintro e w4 ⟨rfl, R4⟩
 obtain ⟨i4, vt4, vp4, Q4⟩ := HQ3.out.step R4
 go_wp2_with fail
 refine hK.out _ _ ⟨Q4.res, Q4.var⟩ (fun hHeld => ?_)
 clear hK K
 try simp only [Act.put, a0, a1, a2, a3, a4, a5]
 have CP := F0 Q4.ps ⟨tk, tp, tx, tn⟩ X
 refine wpR (rs := [6]) (AllReadyH.cons rfl (fun K hK => ?_) AllReadyH.nil)
 unfold tkC at CP
 simp only at CP
 go_simp
 refine CP.mono ?_
 rintro e wz ⟨rfl, RZ⟩
 obtain ⟨iz, vtz, vpz, QZ⟩ := Q4.step2 RZ
 go_wp2_with fail
 refine hK.out _ _ ⟨QZ.res, QZ.var⟩ (fun hHeld => ?_)
 clear hK K
 refine wpAnyH_done (by kernel_rfl) ?_ _
 go_wp2
 go_end0
 rw [HX.out]
 exact ⟨rfl, QZ.ret⟩
theorem a8H (h : PS c w i vt vp ts nest bud ns) (hk : (hdT ts).kind ≠ 1) (hk0 : (hdT ts).kind ≠ 0) (hx : (hdT ts).text = W6) :
  Calls Tryz.prog 113 #[.pointer (some ⟨c.g, 0, none⟩)] w (l6 c w vt vp nest bud ns (.ok ([((Y4 2), (hdT ts).pos)], ts.tail))) := by
 have HP : Hid (PS c w i vt vp ts nest bud ns) := h
 have k1 : (((hdT ts).kind : Int) == 1) = false := by rw [beq_eq_false_iff_ne]; omega
 have e0 : ((hdT ts).text == [40]) = false := by rw [beq_eq_false_iff_ne]; exact fun e => absurd (hx.symm.trans e) (by decide)
 have e1 : ((hdT ts).text == [108, 101, 110]) = false := by rw [beq_eq_false_iff_ne]; exact fun e => absurd (hx.symm.trans e) (by decide)
 have e2 : ((hdT ts).text == [105, 110, 98, 111, 117, 110, 100]) = false := by rw [beq_eq_false_iff_ne]; exact fun e => absurd (hx.symm.trans e) (by decide)
 have e3 : ((hdT ts).text == [111, 117, 116, 98, 111, 117, 110, 100]) = true := by rw [hx]; rfl
 have HK0 : Hid ((hdT ts).kind ≠ 0) := hk0
 clear hk hk0 hx
 generalize hT : hdT ts = t at *
 have HT : Hid (hdT ts = t) := hT
 clear hT
 obtain ⟨tk, tp, tx, tn⟩ := t
 simp only at *
 have KB := World.grownBy_alloc w (.cells #[.pointer (some ⟨c.g, 0, none⟩)] 65) none
 have BA := VAt.alloc w 65 #[.pointer (some ⟨c.g, 0, none⟩)]
 clear h
 go_enter Tryz.func113, Tryz.ntmps113
 go_upto_region 1 with fail
 have Q1 : PR c w vt vp (w.alloc (.cells #[.pointer (some ⟨c.g, 0, none⟩)] 65)) i vt vp ts nest bud ns w.heap.size 65 #[.pointer (some ⟨c.g, 0, none⟩)] := ⟨HP.out.keep KB, GB.non KB, fun _ _ h => h, HP.out.not_foot (Nat.le_refl _), BA, Nat.le_refl _⟩
 generalize w.alloc (.cells #[.pointer (some ⟨c.g, 0, none⟩)] 65) = w1 at *
 obtain ⟨bp, hbp⟩ : ∃ b, w.heap.size = b := ⟨_, rfl⟩
 have HL : Hid (w.heap.size = bp) := hbp
 rw [hbp] at Q1 ⊢
 clear hbp KB BA
 have p1 : w1.cell? ⟨bp, 0, none⟩ = some (.pointer (some ⟨c.g, 0, none⟩)) := Q1.res.cell 0
 have CN := x9 Q1.ps
 unfold tkC at CN
 rw [HT.out] at CN
 simp only at CN
 go_wp2_with fail
 refine CN.mono ?_
 rintro e w2 ⟨rfl, G2⟩
 have Q2 := Q1.keep G2
 clear CN Q1 G2 p1
 have Q3 := Q2.add 42 #[.int .i64 (tk : Int), .int .i64 (tp : Int), str tx, .int .u32 (tn : Int)]
 clear Q2
 go_upto_region 2 with fail
 generalize w2.alloc (.cells #[.int .i64 (tk : Int), .int .i64 (tp : Int), .string ⟨tx.toArray⟩, .int .u32 (tn : Int)] 42) = w3 at *
 generalize w2.heap.size = bf at *
 have f0 : w3.cell? ⟨bf, 0, none⟩ = some (.int .i64 (tk : Int)) := Q3.var.cell 0
 have f2 : w3.cell? ⟨bf, 2, none⟩ = some (str tx) := Q3.var.cell 2
 have p3 : w3.cell? ⟨bp, 0, none⟩ = some (.pointer (some ⟨c.g, 0, none⟩)) := Q3.res.cell 0
 have HQ3 : Hid (PW c w vt vp w3.drew i vt vp ts nest bud ns bp bf 65 42 #[.pointer (some ⟨c.g, 0, none⟩)] #[.int .i64 (tk : Int), .int .i64 (tp : Int), str tx, .int .u32 (tn : Int)]) := Q3.keep (f8 w3 1 none)
 clear Q3
 go_upto_region 13 with fail
 clear f0 f2 p3
 refine wp_region_held_drew (S := fun W => VAt W bp 65 #[.pointer (some ⟨c.g, 0, none⟩)] ∧ VAt W bf 42 #[.int .i64 (tk : Int), .int .i64 (tp : Int), str tx, .int .u32 (tn : Int)]) (by kernel_rfl) ⟨HQ3.out.res, HQ3.out.var⟩ (fun hHeld => ?_)
 have HC : Hid (Calls Tryz.prog 66 #[.pointer (some ⟨c.g, 0, none⟩)] w3.drew fun e w' => e = .returned (.agg #[.int .i64 (tk : Int), .int .i64 (tp : Int), str tx, .int .u32 (tn : Int)]) ∧ Ret c w3.drew vt vp ts.tail nest (bud + 1) ns w') := by
  have := I5 HQ3.out.ps (by rw [HT.out]; exact HK0.out)
  rw [HT.out] at this
  exact this
 refine wpT (i := 0) (v := .pointer (some ⟨c.g, 0, none⟩)) rfl (Or.inl ⟨by rfl, fun W hW => ?_⟩) hHeld ?_
 ·have pc : W.cell? ⟨bp, 0, none⟩ = some (.pointer (some ⟨c.g, 0, none⟩)) := hW.1.cell 0
  clear hW
  go_simp
 try simp only [Act.put, a0, a1, a3, a4, a5]
 refine wpT (i := 1) (v := .pointer (some ⟨c.g, 0, none⟩)) rfl (Or.inl ⟨by rfl, fun W hW => ?_⟩) hHeld ?_
 ·have pc : W.cell? ⟨bp, 0, none⟩ = some (.pointer (some ⟨c.g, 0, none⟩)) := hW.1.cell 0
  clear hW
  go_simp
 try simp only [Act.put, a0, a1, a2, a3, a4, a5]
 refine wpT (i := 2) (v := .pointer (some ⟨c.g, 0, none⟩)) rfl (Or.inl ⟨by rfl, fun W hW => ?_⟩) hHeld ?_
 ·clear hW
  go_simp
 try simp only [Act.put, a0, a1, a2, a3, a4, a5]
 refine wpT (i := 3) (v := .pointer (some ⟨c.g, 0, none⟩)) rfl (Or.inl ⟨by rfl, fun W hW => ?_⟩) hHeld ?_
 ·clear hW
  go_simp
 try simp only [Act.put, a0, a1, a2, a3, a4, a5]
 have HB := a6w
 obtain ⟨X, hX⟩ : ∃ X, (Y4 2) = X := ⟨_, rfl⟩
 rw [hX] at HB
 have HX : Hid ((Y4 2) = X) := hX
 clear hX
 refine wpT (i := 5) (v := .agg X.cells.toArray) rfl (Or.inl ⟨by rfl, fun W hW => ?_⟩) hHeld ?_
 ·clear hW
  simp [execOp, Act.eval, HB]
 try simp only [Act.put, a0, a1, a2, a3, a4, a5]
 refine wpR (rs := [4]) (AllReadyH.cons rfl (fun K hK => ?_) AllReadyH.nil)
 go_simp
 refine HC.out.mono ?_
 clear HC
 rintro e w4 ⟨rfl, R4⟩
 obtain ⟨i4, vt4, vp4, Q4⟩ := HQ3.out.step R4
 go_wp2_with fail
 refine hK.out _ _ ⟨Q4.res, Q4.var⟩ (fun hHeld => ?_)
 clear hK K
 try simp only [Act.put, a0, a1, a2, a3, a4, a5]
 have CP := F0 Q4.ps ⟨tk, tp, tx, tn⟩ X
 refine wpR (rs := [6]) (AllReadyH.cons rfl (fun K hK => ?_) AllReadyH.nil)
 unfold tkC at CP
 simp only at CP
 go_simp
 refine CP.mono ?_
 rintro e wz ⟨rfl, RZ⟩
 obtain ⟨iz, vtz, vpz, QZ⟩ := Q4.step2 RZ
 go_wp2_with fail
 refine hK.out _ _ ⟨QZ.res, QZ.var⟩ (fun hHeld => ?_)
 clear hK K
 refine wpAnyH_done (by kernel_rfl) ?_ _
 go_wp2
 go_end0
 rw [HX.out]
 exact ⟨rfl, QZ.ret⟩
theorem a8K (h : PS c w i vt vp ts nest bud ns) (hk : (hdT ts).kind ≠ 1) (hk0 : (hdT ts).kind ≠ 0) (hx : (hdT ts).text = q7) (ans : Out) (hans : (d8 (j8 ts.tail) fun p => .ok ([(a0q p.1, (hdT ts).pos)], p.2)) = ans) :
  Calls Tryz.prog 113 #[.pointer (some ⟨c.g, 0, none⟩)] w (l6 c w vt vp nest bud ns ans) := by
 have HP : Hid (PS c w i vt vp ts nest bud ns) := h
 have k1 : (((hdT ts).kind : Int) == 1) = false := by rw [beq_eq_false_iff_ne]; omega
 have e0 : ((hdT ts).text == [40]) = false := by rw [beq_eq_false_iff_ne]; exact fun e => absurd (hx.symm.trans e) (by decide)
 have e1 : ((hdT ts).text == [108, 101, 110]) = false := by rw [beq_eq_false_iff_ne]; exact fun e => absurd (hx.symm.trans e) (by decide)
 have e2 : ((hdT ts).text == [105, 110, 98, 111, 117, 110, 100]) = false := by rw [beq_eq_false_iff_ne]; exact fun e => absurd (hx.symm.trans e) (by decide)
 have e3 : ((hdT ts).text == [111, 117, 116, 98, 111, 117, 110, 100]) = false := by rw [beq_eq_false_iff_ne]; exact fun e => absurd (hx.symm.trans e) (by decide)
 have e4 : ((hdT ts).text == [112, 114, 111, 116, 111]) = true := by rw [hx]; rfl
 have HANS : Hid ((d8 (j8 ts.tail) fun p => .ok ([(a0q p.1, (hdT ts).pos)], p.2)) = ans) := hans
 have HMP : Hid (d8 (l5 q7 ts) j8 = j8 ts.tail) := by
  show _ = _
  rw [l5, if_pos (by rw [T6 h.good.hd (T5 (by decide))]; simpa using hx), q9]
 have HK0 : Hid ((hdT ts).kind ≠ 0) := hk0
 clear hk hk0 hx hans
 generalize hT : hdT ts = t at *
 have HT : Hid (hdT ts = t) := hT
 clear hT
 obtain ⟨tk, tp, tx, tn⟩ := t
 simp only at *
 have KB := World.grownBy_alloc w (.cells #[.pointer (some ⟨c.g, 0, none⟩)] 65) none
 have BA := VAt.alloc w 65 #[.pointer (some ⟨c.g, 0, none⟩)]
 clear h
 go_enter Tryz.func113, Tryz.ntmps113
 go_upto_region 1 with fail
 have Q1 : PR c w vt vp (w.alloc (.cells #[.pointer (some ⟨c.g, 0, none⟩)] 65)) i vt vp ts nest bud ns w.heap.size 65 #[.pointer (some ⟨c.g, 0, none⟩)] := ⟨HP.out.keep KB, GB.non KB, fun _ _ h => h, HP.out.not_foot (Nat.le_refl _), BA, Nat.le_refl _⟩
 generalize w.alloc (.cells #[.pointer (some ⟨c.g, 0, none⟩)] 65) = w1 at *
 obtain ⟨bp, hbp⟩ : ∃ b, w.heap.size = b := ⟨_, rfl⟩
 have HL : Hid (w.heap.size = bp) := hbp
 rw [hbp] at Q1 ⊢
 clear hbp KB BA
 have p1 : w1.cell? ⟨bp, 0, none⟩ = some (.pointer (some ⟨c.g, 0, none⟩)) := Q1.res.cell 0
 have CN := x9 Q1.ps
 unfold tkC at CN
 rw [HT.out] at CN
 simp only at CN
 go_wp2_with fail
 refine CN.mono ?_
 rintro e w2 ⟨rfl, G2⟩
 have Q2 := Q1.keep G2
 clear CN Q1 G2 p1
 have Q3 := Q2.add 42 #[.int .i64 (tk : Int), .int .i64 (tp : Int), str tx, .int .u32 (tn : Int)]
 clear Q2
 go_upto_region 2 with fail
 generalize w2.alloc (.cells #[.int .i64 (tk : Int), .int .i64 (tp : Int), .string ⟨tx.toArray⟩, .int .u32 (tn : Int)] 42) = w3 at *
 generalize w2.heap.size = bf at *
 have f0 : w3.cell? ⟨bf, 0, none⟩ = some (.int .i64 (tk : Int)) := Q3.var.cell 0
 have f2 : w3.cell? ⟨bf, 2, none⟩ = some (str tx) := Q3.var.cell 2
 have p3 : w3.cell? ⟨bp, 0, none⟩ = some (.pointer (some ⟨c.g, 0, none⟩)) := Q3.res.cell 0
 have HQ3 : Hid (PW c w vt vp w3.drew i vt vp ts nest bud ns bp bf 65 42 #[.pointer (some ⟨c.g, 0, none⟩)] #[.int .i64 (tk : Int), .int .i64 (tp : Int), str tx, .int .u32 (tn : Int)]) := Q3.keep (f8 w3 1 none)
 clear Q3
 go_upto_region 15 with fail
 clear f0 f2 p3
 refine wp_region_held_drew (S := fun W => VAt W bp 65 #[.pointer (some ⟨c.g, 0, none⟩)] ∧ VAt W bf 42 #[.int .i64 (tk : Int), .int .i64 (tp : Int), str tx, .int .u32 (tn : Int)]) (by kernel_rfl) ⟨HQ3.out.res, HQ3.out.var⟩ (fun hHeld => ?_)
 have HC : Hid (Calls Tryz.prog 117 #[.pointer (some ⟨c.g, 0, none⟩)] w3.drew (M6 c w3.drew vt vp nest (bud + 1) ns (fun n : Nat => .int .u32 (n : Int)) (j8 ts.tail))) := by
  have := a2U HQ3.out.ps
  rw [HMP.out] at this
  exact this
 generalize j8 ts.tail = nr at *
 refine wpT (i := 0) (v := .pointer (some ⟨c.g, 0, none⟩)) rfl (Or.inl ⟨by rfl, fun W hW => ?_⟩) hHeld ?_
 ·have pc : W.cell? ⟨bp, 0, none⟩ = some (.pointer (some ⟨c.g, 0, none⟩)) := hW.1.cell 0
  clear hW
  go_simp
 try simp only [Act.put, a0, a1, a3, a4, a5]
 refine wpT (i := 1) (v := .agg #[.int .i64 (tk : Int), .int .i64 (tp : Int), str tx, .int .u32 (tn : Int)]) rfl (E8 (by rfl) _ _ rfl bf rfl 42 #[.int .i64 (tk : Int), .int .i64 (tp : Int), str tx, .int .u32 (tn : Int)] _ (fun W hW => hW.2) Tryz.underlying42 rfl D2) hHeld ?_
 try simp only [Act.put, a0, a1, a2, a3, a4, a5]
 refine wpT (i := 2) (v := .pointer (some ⟨c.g, 0, none⟩)) rfl (Or.inl ⟨by rfl, fun W hW => ?_⟩) hHeld ?_
 ·have pc : W.cell? ⟨bp, 0, none⟩ = some (.pointer (some ⟨c.g, 0, none⟩)) := hW.1.cell 0
  clear hW
  go_simp
 try simp only [Act.put, a0, a1, a2, a3, a4, a5]
 refine wpR (rs := [3]) (AllReadyH.cons rfl (fun K hK => ?_) AllReadyH.nil)
 go_simp
 refine HC.out.mono ?_
 clear HC
 cases nr with
 | error er =>
  have HA3 : Hid (ans = .error er) := HANS.out.symm
  rintro e w4 ⟨rfl, G⟩
  go_wp2
  refine ⟨rfl, ?_⟩
  rw [HA3.out]
  exact ⟨rfl, HQ3.out.err G⟩
 | ok v =>
  obtain ⟨m, r4⟩ := v
  have HA3 : Hid (ans = .ok ([(a0q m, tp)], r4)) := HANS.out.symm
  rintro e w4 ⟨rfl, R4⟩
  obtain ⟨i4, vt4, vp4, Q4⟩ := HQ3.out.step R4
  go_wp2_with fail
  refine hK.out _ _ ⟨Q4.res, Q4.var⟩ (fun hHeld => ?_)
  clear hK K
  try simp only [Act.put, a0, a1, a2, a3, a4, a5]
  have HB := a6u m
  refine wpT (i := 4) (v := .agg (a0q m).cells.toArray) rfl (Or.inl ⟨by rfl, fun W hW => ?_⟩) hHeld ?_
  ·clear hW
   simp [execOp, Act.eval, HB]
  try simp only [Act.put, a0, a1, a2, a3, a4, a5]
  have CP := F0 Q4.ps ⟨tk, tp, tx, tn⟩ (a0q m)
  refine wpR (rs := [5]) (AllReadyH.cons rfl (fun K hK => ?_) AllReadyH.nil)
  unfold tkC at CP
  simp only at CP
  go_simp
  refine CP.mono ?_
  rintro e wz ⟨rfl, RZ⟩
  obtain ⟨iz, vtz, vpz, QZ⟩ := Q4.step2 RZ
  go_wp2_with fail
  refine hK.out _ _ ⟨QZ.res, QZ.var⟩ (fun hHeld => ?_)
  clear hK K
  refine wpAnyH_done (by kernel_rfl) ?_ _
  go_wp2
  go_end0
  rw [HA3.out]
  exact ⟨rfl, QZ.ret⟩
theorem a8M (h : PS c w i vt vp ts nest bud ns) (hk : (hdT ts).kind ≠ 1) (hx : (hdT ts).text = g9) (ans : Out) (hans : D5 (hdT ts).pos (z7 (p8 ts) (o9 ts)) = ans) :
  Calls Tryz.prog 113 #[.pointer (some ⟨c.g, 0, none⟩)] w (l6 c w vt vp nest bud ns ans) := by
 have HP : Hid (PS c w i vt vp ts nest bud ns) := h
 have k1 : (((hdT ts).kind : Int) == 1) = false := by rw [beq_eq_false_iff_ne]; omega
 have e0 : ((hdT ts).text == [40]) = false := by rw [beq_eq_false_iff_ne]; exact fun e => absurd (hx.symm.trans e) (by decide)
 have e1 : ((hdT ts).text == [108, 101, 110]) = false := by rw [beq_eq_false_iff_ne]; exact fun e => absurd (hx.symm.trans e) (by decide)
 have e2 : ((hdT ts).text == [105, 110, 98, 111, 117, 110, 100]) = false := by rw [beq_eq_false_iff_ne]; exact fun e => absurd (hx.symm.trans e) (by decide)
 have e3 : ((hdT ts).text == [111, 117, 116, 98, 111, 117, 110, 100]) = false := by rw [beq_eq_false_iff_ne]; exact fun e => absurd (hx.symm.trans e) (by decide)
 have e4 : ((hdT ts).text == [112, 114, 111, 116, 111]) = false := by rw [beq_eq_false_iff_ne]; exact fun e => absurd (hx.symm.trans e) (by decide)
 have e5 : ((hdT ts).text == [115, 114, 99]) = true := by rw [hx]; rfl
 have HANS : Hid (D5 (hdT ts).pos (z7 (p8 ts) (o9 ts)) = ans) := hans
 clear hk hx hans
 generalize hT : hdT ts = t at *
 have HT : Hid (hdT ts = t) := hT
 clear hT
 obtain ⟨tk, tp, tx, tn⟩ := t
 simp only at *
 have KB := World.grownBy_alloc w (.cells #[.pointer (some ⟨c.g, 0, none⟩)] 65) none
 have BA := VAt.alloc w 65 #[.pointer (some ⟨c.g, 0, none⟩)]
 clear h
 go_enter Tryz.func113, Tryz.ntmps113
 go_upto_region 1 with fail
 have Q1 : PR c w vt vp (w.alloc (.cells #[.pointer (some ⟨c.g, 0, none⟩)] 65)) i vt vp ts nest bud ns w.heap.size 65 #[.pointer (some ⟨c.g, 0, none⟩)] := ⟨HP.out.keep KB, GB.non KB, fun _ _ h => h, HP.out.not_foot (Nat.le_refl _), BA, Nat.le_refl _⟩
 generalize w.alloc (.cells #[.pointer (some ⟨c.g, 0, none⟩)] 65) = w1 at *
 obtain ⟨bp, hbp⟩ : ∃ b, w.heap.size = b := ⟨_, rfl⟩
 have HL : Hid (w.heap.size = bp) := hbp
 rw [hbp] at Q1 ⊢
 clear hbp KB BA
 have p1 : w1.cell? ⟨bp, 0, none⟩ = some (.pointer (some ⟨c.g, 0, none⟩)) := Q1.res.cell 0
 have CN := x9 Q1.ps
 unfold tkC at CN
 rw [HT.out] at CN
 simp only at CN
 go_wp2_with fail
 refine CN.mono ?_
 rintro e w2 ⟨rfl, G2⟩
 have Q2 := Q1.keep G2
 clear CN Q1 G2 p1
 have Q3 := Q2.add 42 #[.int .i64 (tk : Int), .int .i64 (tp : Int), str tx, .int .u32 (tn : Int)]
 clear Q2
 go_upto_region 2 with fail
 generalize w2.alloc (.cells #[.int .i64 (tk : Int), .int .i64 (tp : Int), .string ⟨tx.toArray⟩, .int .u32 (tn : Int)] 42) = w3 at *
 generalize w2.heap.size = bf at *
 have f0 : w3.cell? ⟨bf, 0, none⟩ = some (.int .i64 (tk : Int)) := Q3.var.cell 0
 have f2 : w3.cell? ⟨bf, 2, none⟩ = some (str tx) := Q3.var.cell 2
 have p3 : w3.cell? ⟨bp, 0, none⟩ = some (.pointer (some ⟨c.g, 0, none⟩)) := Q3.res.cell 0
 have HQ3 : Hid (PW c w vt vp w3.drew i vt vp ts nest bud ns bp bf 65 42 #[.pointer (some ⟨c.g, 0, none⟩)] #[.int .i64 (tk : Int), .int .i64 (tp : Int), str tx, .int .u32 (tn : Int)]) := Q3.keep (f8 w3 1 none)
 clear Q3
 go_upto_region 22 with fail
 clear f0 f2 p3
 refine wp_region_held_drew (S := fun W => VAt W bp 65 #[.pointer (some ⟨c.g, 0, none⟩)] ∧ VAt W bf 42 #[.int .i64 (tk : Int), .int .i64 (tp : Int), str tx, .int .u32 (tn : Int)]) (by kernel_rfl) ⟨HQ3.out.res, HQ3.out.var⟩ (fun hHeld => ?_)
 have HC : Hid (Calls Tryz.prog 118 #[.pointer (some ⟨c.g, 0, none⟩)] w3.drew (M6 c w3.drew vt vp nest (bud + 1) ns (fun x : Nd => .agg x.cells.toArray) (z7 (p8 ts) (o9 ts)))) := a0S HQ3.out.ps
 unfold D5 at HANS
 generalize z7 (p8 ts) (o9 ts) = nr at *
 refine wpT (i := 0) (v := .pointer (some ⟨c.g, 0, none⟩)) rfl (Or.inl ⟨by rfl, fun W hW => ?_⟩) hHeld ?_
 ·have pc : W.cell? ⟨bp, 0, none⟩ = some (.pointer (some ⟨c.g, 0, none⟩)) := hW.1.cell 0
  clear hW
  go_simp
 try simp only [Act.put, a0, a1, a3, a4, a5]
 refine wpT (i := 1) (v := .agg #[.int .i64 (tk : Int), .int .i64 (tp : Int), str tx, .int .u32 (tn : Int)]) rfl (E8 (by rfl) _ _ rfl bf rfl 42 #[.int .i64 (tk : Int), .int .i64 (tp : Int), str tx, .int .u32 (tn : Int)] _ (fun W hW => hW.2) Tryz.underlying42 rfl D2) hHeld ?_
 try simp only [Act.put, a0, a1, a2, a3, a4, a5]
 refine wpT (i := 2) (v := .pointer (some ⟨c.g, 0, none⟩)) rfl (Or.inl ⟨by rfl, fun W hW => ?_⟩) hHeld ?_
 ·have pc : W.cell? ⟨bp, 0, none⟩ = some (.pointer (some ⟨c.g, 0, none⟩)) := hW.1.cell 0
  clear hW
  go_simp
 try simp only [Act.put, a0, a1, a2, a3, a4, a5]
 refine wpR (rs := [3]) (AllReadyH.cons rfl (fun K hK => ?_) AllReadyH.nil)
 go_simp
 refine HC.out.mono ?_
 clear HC
 cases nr with
 | error er =>
  have HA3 : Hid (ans = .error er) := HANS.out.symm
  rintro e w4 ⟨rfl, G⟩
  go_wp2
  refine ⟨rfl, ?_⟩
  rw [HA3.out]
  exact ⟨rfl, HQ3.out.err G⟩
 | ok v =>
  obtain ⟨X, r4⟩ := v
  have HA3 : Hid (ans = .ok ([(X, tp)], r4)) := HANS.out.symm
  rintro e w4 ⟨rfl, R4⟩
  obtain ⟨i4, vt4, vp4, Q4⟩ := HQ3.out.step R4
  go_wp2_with fail
  refine hK.out _ _ ⟨Q4.res, Q4.var⟩ (fun hHeld => ?_)
  clear hK K
  try simp only [Act.put, a0, a1, a2, a3, a4, a5]
  have CP := F0 Q4.ps ⟨tk, tp, tx, tn⟩ X
  refine wpR (rs := [4]) (AllReadyH.cons rfl (fun K hK => ?_) AllReadyH.nil)
  unfold tkC at CP
  simp only at CP
  go_simp
  refine CP.mono ?_
  rintro e wz ⟨rfl, RZ⟩
  obtain ⟨iz, vtz, vpz, QZ⟩ := Q4.step2 RZ
  go_wp2_with fail
  refine hK.out _ _ ⟨QZ.res, QZ.var⟩ (fun hHeld => ?_)
  clear hK K
  refine wpAnyH_done (by kernel_rfl) ?_ _
  go_wp2
  go_end0
  rw [HA3.out]
  exact ⟨rfl, QZ.ret⟩
theorem a8N (h : PS c w i vt vp ts nest bud ns) (hk : (hdT ts).kind ≠ 1) (hx : (hdT ts).text = j5) (ans : Out) (hans : D5 (hdT ts).pos (z7 (p8 ts) (o9 ts)) = ans) :
  Calls Tryz.prog 113 #[.pointer (some ⟨c.g, 0, none⟩)] w (l6 c w vt vp nest bud ns ans) := by
 have HP : Hid (PS c w i vt vp ts nest bud ns) := h
 have k1 : (((hdT ts).kind : Int) == 1) = false := by rw [beq_eq_false_iff_ne]; omega
 have e0 : ((hdT ts).text == [40]) = false := by rw [beq_eq_false_iff_ne]; exact fun e => absurd (hx.symm.trans e) (by decide)
 have e1 : ((hdT ts).text == [108, 101, 110]) = false := by rw [beq_eq_false_iff_ne]; exact fun e => absurd (hx.symm.trans e) (by decide)
 have e2 : ((hdT ts).text == [105, 110, 98, 111, 117, 110, 100]) = false := by rw [beq_eq_false_iff_ne]; exact fun e => absurd (hx.symm.trans e) (by decide)
 have e3 : ((hdT ts).text == [111, 117, 116, 98, 111, 117, 110, 100]) = false := by rw [beq_eq_false_iff_ne]; exact fun e => absurd (hx.symm.trans e) (by decide)
 have e4 : ((hdT ts).text == [112, 114, 111, 116, 111]) = false := by rw [beq_eq_false_iff_ne]; exact fun e => absurd (hx.symm.trans e) (by decide)
 have e5 : ((hdT ts).text == [115, 114, 99]) = false := by rw [beq_eq_false_iff_ne]; exact fun e => absurd (hx.symm.trans e) (by decide)
 have e6 : ((hdT ts).text == [100, 115, 116]) = true := by rw [hx]; rfl
 have HANS : Hid (D5 (hdT ts).pos (z7 (p8 ts) (o9 ts)) = ans) := hans
 clear hk hx hans
 generalize hT : hdT ts = t at *
 have HT : Hid (hdT ts = t) := hT
 clear hT
 obtain ⟨tk, tp, tx, tn⟩ := t
 simp only at *
 have KB := World.grownBy_alloc w (.cells #[.pointer (some ⟨c.g, 0, none⟩)] 65) none
 have BA := VAt.alloc w 65 #[.pointer (some ⟨c.g, 0, none⟩)]
 clear h
 go_enter Tryz.func113, Tryz.ntmps113
 go_upto_region 1 with fail
 have Q1 : PR c w vt vp (w.alloc (.cells #[.pointer (some ⟨c.g, 0, none⟩)] 65)) i vt vp ts nest bud ns w.heap.size 65 #[.pointer (some ⟨c.g, 0, none⟩)] := ⟨HP.out.keep KB, GB.non KB, fun _ _ h => h, HP.out.not_foot (Nat.le_refl _), BA, Nat.le_refl _⟩
 generalize w.alloc (.cells #[.pointer (some ⟨c.g, 0, none⟩)] 65) = w1 at *
 obtain ⟨bp, hbp⟩ : ∃ b, w.heap.size = b := ⟨_, rfl⟩
 have HL : Hid (w.heap.size = bp) := hbp
 rw [hbp] at Q1 ⊢
 clear hbp KB BA
 have p1 : w1.cell? ⟨bp, 0, none⟩ = some (.pointer (some ⟨c.g, 0, none⟩)) := Q1.res.cell 0
 have CN := x9 Q1.ps
 unfold tkC at CN
 rw [HT.out] at CN
 simp only at CN
 go_wp2_with fail
 refine CN.mono ?_
 rintro e w2 ⟨rfl, G2⟩
 have Q2 := Q1.keep G2
 clear CN Q1 G2 p1
 have Q3 := Q2.add 42 #[.int .i64 (tk : Int), .int .i64 (tp : Int), str tx, .int .u32 (tn : Int)]
 clear Q2
 go_upto_region 2 with fail
 generalize w2.alloc (.cells #[.int .i64 (tk : Int), .int .i64 (tp : Int), .string ⟨tx.toArray⟩, .int .u32 (tn : Int)] 42) = w3 at *
 generalize w2.heap.size = bf at *
 have f0 : w3.cell? ⟨bf, 0, none⟩ = some (.int .i64 (tk : Int)) := Q3.var.cell 0
 have f2 : w3.cell? ⟨bf, 2, none⟩ = some (str tx) := Q3.var.cell 2
 have p3 : w3.cell? ⟨bp, 0, none⟩ = some (.pointer (some ⟨c.g, 0, none⟩)) := Q3.res.cell 0
 have HQ3 : Hid (PW c w vt vp w3.drew i vt vp ts nest bud ns bp bf 65 42 #[.pointer (some ⟨c.g, 0, none⟩)] #[.int .i64 (tk : Int), .int .i64 (tp : Int), str tx, .int .u32 (tn : Int)]) := Q3.keep (f8 w3 1 none)
 clear Q3
 go_upto_region 22 with fail
 clear f0 f2 p3
 refine wp_region_held_drew (S := fun W => VAt W bp 65 #[.pointer (some ⟨c.g, 0, none⟩)] ∧ VAt W bf 42 #[.int .i64 (tk : Int), .int .i64 (tp : Int), str tx, .int .u32 (tn : Int)]) (by kernel_rfl) ⟨HQ3.out.res, HQ3.out.var⟩ (fun hHeld => ?_)
 have HC : Hid (Calls Tryz.prog 118 #[.pointer (some ⟨c.g, 0, none⟩)] w3.drew (M6 c w3.drew vt vp nest (bud + 1) ns (fun x : Nd => .agg x.cells.toArray) (z7 (p8 ts) (o9 ts)))) := a0S HQ3.out.ps
 unfold D5 at HANS
 generalize z7 (p8 ts) (o9 ts) = nr at *
 refine wpT (i := 0) (v := .pointer (some ⟨c.g, 0, none⟩)) rfl (Or.inl ⟨by rfl, fun W hW => ?_⟩) hHeld ?_
 ·have pc : W.cell? ⟨bp, 0, none⟩ = some (.pointer (some ⟨c.g, 0, none⟩)) := hW.1.cell 0
  clear hW
  go_simp
 try simp only [Act.put, a0, a1, a3, a4, a5]
 refine wpT (i := 1) (v := .agg #[.int .i64 (tk : Int), .int .i64 (tp : Int), str tx, .int .u32 (tn : Int)]) rfl (E8 (by rfl) _ _ rfl bf rfl 42 #[.int .i64 (tk : Int), .int .i64 (tp : Int), str tx, .int .u32 (tn : Int)] _ (fun W hW => hW.2) Tryz.underlying42 rfl D2) hHeld ?_
 try simp only [Act.put, a0, a1, a2, a3, a4, a5]
 refine wpT (i := 2) (v := .pointer (some ⟨c.g, 0, none⟩)) rfl (Or.inl ⟨by rfl, fun W hW => ?_⟩) hHeld ?_
 ·have pc : W.cell? ⟨bp, 0, none⟩ = some (.pointer (some ⟨c.g, 0, none⟩)) := hW.1.cell 0
  clear hW
  go_simp
 try simp only [Act.put, a0, a1, a2, a3, a4, a5]
 refine wpR (rs := [3]) (AllReadyH.cons rfl (fun K hK => ?_) AllReadyH.nil)
 go_simp
 refine HC.out.mono ?_
 clear HC
 cases nr with
 | error er =>
  have HA3 : Hid (ans = .error er) := HANS.out.symm
  rintro e w4 ⟨rfl, G⟩
  go_wp2
  refine ⟨rfl, ?_⟩
  rw [HA3.out]
  exact ⟨rfl, HQ3.out.err G⟩
 | ok v =>
  obtain ⟨X, r4⟩ := v
  have HA3 : Hid (ans = .ok ([(X, tp)], r4)) := HANS.out.symm
  rintro e w4 ⟨rfl, R4⟩
  obtain ⟨i4, vt4, vp4, Q4⟩ := HQ3.out.step R4
  go_wp2_with fail
  refine hK.out _ _ ⟨Q4.res, Q4.var⟩ (fun hHeld => ?_)
  clear hK K
  try simp only [Act.put, a0, a1, a2, a3, a4, a5]
  have CP := F0 Q4.ps ⟨tk, tp, tx, tn⟩ X
  refine wpR (rs := [4]) (AllReadyH.cons rfl (fun K hK => ?_) AllReadyH.nil)
  unfold tkC at CP
  simp only at CP
  go_simp
  refine CP.mono ?_
  rintro e wz ⟨rfl, RZ⟩
  obtain ⟨iz, vtz, vpz, QZ⟩ := Q4.step2 RZ
  go_wp2_with fail
  refine hK.out _ _ ⟨QZ.res, QZ.var⟩ (fun hHeld => ?_)
  clear hK K
  refine wpAnyH_done (by kernel_rfl) ?_ _
  go_wp2
  go_end0
  rw [HA3.out]
  exact ⟨rfl, QZ.ret⟩
theorem a8O (h : PS c w i vt vp ts nest bud ns) (hk : (hdT ts).kind ≠ 1) (hx : (hdT ts).text = p9) (ans : Out) (hans : D5 (hdT ts).pos (z7 (p8 ts) (o9 ts)) = ans) :
  Calls Tryz.prog 113 #[.pointer (some ⟨c.g, 0, none⟩)] w (l6 c w vt vp nest bud ns ans) := by
 have HP : Hid (PS c w i vt vp ts nest bud ns) := h
 have k1 : (((hdT ts).kind : Int) == 1) = false := by rw [beq_eq_false_iff_ne]; omega
 have e0 : ((hdT ts).text == [40]) = false := by rw [beq_eq_false_iff_ne]; exact fun e => absurd (hx.symm.trans e) (by decide)
 have e1 : ((hdT ts).text == [108, 101, 110]) = false := by rw [beq_eq_false_iff_ne]; exact fun e => absurd (hx.symm.trans e) (by decide)
 have e2 : ((hdT ts).text == [105, 110, 98, 111, 117, 110, 100]) = false := by rw [beq_eq_false_iff_ne]; exact fun e => absurd (hx.symm.trans e) (by decide)
 have e3 : ((hdT ts).text == [111, 117, 116, 98, 111, 117, 110, 100]) = false := by rw [beq_eq_false_iff_ne]; exact fun e => absurd (hx.symm.trans e) (by decide)
 have e4 : ((hdT ts).text == [112, 114, 111, 116, 111]) = false := by rw [beq_eq_false_iff_ne]; exact fun e => absurd (hx.symm.trans e) (by decide)
 have e5 : ((hdT ts).text == [115, 114, 99]) = false := by rw [beq_eq_false_iff_ne]; exact fun e => absurd (hx.symm.trans e) (by decide)
 have e6 : ((hdT ts).text == [100, 115, 116]) = false := by rw [beq_eq_false_iff_ne]; exact fun e => absurd (hx.symm.trans e) (by decide)
 have e7 : ((hdT ts).text == [104, 111, 115, 116]) = true := by rw [hx]; rfl
 have HANS : Hid (D5 (hdT ts).pos (z7 (p8 ts) (o9 ts)) = ans) := hans
 clear hk hx hans
 generalize hT : hdT ts = t at *
 have HT : Hid (hdT ts = t) := hT
 clear hT
 obtain ⟨tk, tp, tx, tn⟩ := t
 simp only at *
 have KB := World.grownBy_alloc w (.cells #[.pointer (some ⟨c.g, 0, none⟩)] 65) none
 have BA := VAt.alloc w 65 #[.pointer (some ⟨c.g, 0, none⟩)]
 clear h
 go_enter Tryz.func113, Tryz.ntmps113
 go_upto_region 1 with fail
 have Q1 : PR c w vt vp (w.alloc (.cells #[.pointer (some ⟨c.g, 0, none⟩)] 65)) i vt vp ts nest bud ns w.heap.size 65 #[.pointer (some ⟨c.g, 0, none⟩)] := ⟨HP.out.keep KB, GB.non KB, fun _ _ h => h, HP.out.not_foot (Nat.le_refl _), BA, Nat.le_refl _⟩
 generalize w.alloc (.cells #[.pointer (some ⟨c.g, 0, none⟩)] 65) = w1 at *
 obtain ⟨bp, hbp⟩ : ∃ b, w.heap.size = b := ⟨_, rfl⟩
 have HL : Hid (w.heap.size = bp) := hbp
 rw [hbp] at Q1 ⊢
 clear hbp KB BA
 have p1 : w1.cell? ⟨bp, 0, none⟩ = some (.pointer (some ⟨c.g, 0, none⟩)) := Q1.res.cell 0
 have CN := x9 Q1.ps
 unfold tkC at CN
 rw [HT.out] at CN
 simp only at CN
 go_wp2_with fail
 refine CN.mono ?_
 rintro e w2 ⟨rfl, G2⟩
 have Q2 := Q1.keep G2
 clear CN Q1 G2 p1
 have Q3 := Q2.add 42 #[.int .i64 (tk : Int), .int .i64 (tp : Int), str tx, .int .u32 (tn : Int)]
 clear Q2
 go_upto_region 2 with fail
 generalize w2.alloc (.cells #[.int .i64 (tk : Int), .int .i64 (tp : Int), .string ⟨tx.toArray⟩, .int .u32 (tn : Int)] 42) = w3 at *
 generalize w2.heap.size = bf at *
 have f0 : w3.cell? ⟨bf, 0, none⟩ = some (.int .i64 (tk : Int)) := Q3.var.cell 0
 have f2 : w3.cell? ⟨bf, 2, none⟩ = some (str tx) := Q3.var.cell 2
 have p3 : w3.cell? ⟨bp, 0, none⟩ = some (.pointer (some ⟨c.g, 0, none⟩)) := Q3.res.cell 0
 have HQ3 : Hid (PW c w vt vp w3.drew i vt vp ts nest bud ns bp bf 65 42 #[.pointer (some ⟨c.g, 0, none⟩)] #[.int .i64 (tk : Int), .int .i64 (tp : Int), str tx, .int .u32 (tn : Int)]) := Q3.keep (f8 w3 1 none)
 clear Q3
 go_upto_region 22 with fail
 clear f0 f2 p3
 refine wp_region_held_drew (S := fun W => VAt W bp 65 #[.pointer (some ⟨c.g, 0, none⟩)] ∧ VAt W bf 42 #[.int .i64 (tk : Int), .int .i64 (tp : Int), str tx, .int .u32 (tn : Int)]) (by kernel_rfl) ⟨HQ3.out.res, HQ3.out.var⟩ (fun hHeld => ?_)
 have HC : Hid (Calls Tryz.prog 118 #[.pointer (some ⟨c.g, 0, none⟩)] w3.drew (M6 c w3.drew vt vp nest (bud + 1) ns (fun x : Nd => .agg x.cells.toArray) (z7 (p8 ts) (o9 ts)))) := a0S HQ3.out.ps
 unfold D5 at HANS
 generalize z7 (p8 ts) (o9 ts) = nr at *
 refine wpT (i := 0) (v := .pointer (some ⟨c.g, 0, none⟩)) rfl (Or.inl ⟨by rfl, fun W hW => ?_⟩) hHeld ?_
 ·have pc : W.cell? ⟨bp, 0, none⟩ = some (.pointer (some ⟨c.g, 0, none⟩)) := hW.1.cell 0
  clear hW
  go_simp
 try simp only [Act.put, a0, a1, a3, a4, a5]
 refine wpT (i := 1) (v := .agg #[.int .i64 (tk : Int), .int .i64 (tp : Int), str tx, .int .u32 (tn : Int)]) rfl (E8 (by rfl) _ _ rfl bf rfl 42 #[.int .i64 (tk : Int), .int .i64 (tp : Int), str tx, .int .u32 (tn : Int)] _ (fun W hW => hW.2) Tryz.underlying42 rfl D2) hHeld ?_
 try simp only [Act.put, a0, a1, a2, a3, a4, a5]
 refine wpT (i := 2) (v := .pointer (some ⟨c.g, 0, none⟩)) rfl (Or.inl ⟨by rfl, fun W hW => ?_⟩) hHeld ?_
 ·have pc : W.cell? ⟨bp, 0, none⟩ = some (.pointer (some ⟨c.g, 0, none⟩)) := hW.1.cell 0
  clear hW
  go_simp
 try simp only [Act.put, a0, a1, a2, a3, a4, a5]
 refine wpR (rs := [3]) (AllReadyH.cons rfl (fun K hK => ?_) AllReadyH.nil)
 go_simp
 refine HC.out.mono ?_
 clear HC
 cases nr with
 | error er =>
  have HA3 : Hid (ans = .error er) := HANS.out.symm
  rintro e w4 ⟨rfl, G⟩
  go_wp2
  refine ⟨rfl, ?_⟩
  rw [HA3.out]
  exact ⟨rfl, HQ3.out.err G⟩
 | ok v =>
  obtain ⟨X, r4⟩ := v
  have HA3 : Hid (ans = .ok ([(X, tp)], r4)) := HANS.out.symm
  rintro e w4 ⟨rfl, R4⟩
  obtain ⟨i4, vt4, vp4, Q4⟩ := HQ3.out.step R4
  go_wp2_with fail
  refine hK.out _ _ ⟨Q4.res, Q4.var⟩ (fun hHeld => ?_)
  clear hK K
  try simp only [Act.put, a0, a1, a2, a3, a4, a5]
  have CP := F0 Q4.ps ⟨tk, tp, tx, tn⟩ X
  refine wpR (rs := [4]) (AllReadyH.cons rfl (fun K hK => ?_) AllReadyH.nil)
  unfold tkC at CP
  simp only at CP
  go_simp
  refine CP.mono ?_
  rintro e wz ⟨rfl, RZ⟩
  obtain ⟨iz, vtz, vpz, QZ⟩ := Q4.step2 RZ
  go_wp2_with fail
  refine hK.out _ _ ⟨QZ.res, QZ.var⟩ (fun hHeld => ?_)
  clear hK K
  refine wpAnyH_done (by kernel_rfl) ?_ _
  go_wp2
  go_end0
  rw [HA3.out]
  exact ⟨rfl, QZ.ret⟩
theorem a8P (h : PS c w i vt vp ts nest bud ns) (hk : (hdT ts).kind ≠ 1) (hx : (hdT ts).text = C9) (ans : Out) (hans : D5 (hdT ts).pos (z7 (p8 ts) (o9 ts)) = ans) :
  Calls Tryz.prog 113 #[.pointer (some ⟨c.g, 0, none⟩)] w (l6 c w vt vp nest bud ns ans) := by
 have HP : Hid (PS c w i vt vp ts nest bud ns) := h
 have k1 : (((hdT ts).kind : Int) == 1) = false := by rw [beq_eq_false_iff_ne]; omega
 have e0 : ((hdT ts).text == [40]) = false := by rw [beq_eq_false_iff_ne]; exact fun e => absurd (hx.symm.trans e) (by decide)
 have e1 : ((hdT ts).text == [108, 101, 110]) = false := by rw [beq_eq_false_iff_ne]; exact fun e => absurd (hx.symm.trans e) (by decide)
 have e2 : ((hdT ts).text == [105, 110, 98, 111, 117, 110, 100]) = false := by rw [beq_eq_false_iff_ne]; exact fun e => absurd (hx.symm.trans e) (by decide)
 have e3 : ((hdT ts).text == [111, 117, 116, 98, 111, 117, 110, 100]) = false := by rw [beq_eq_false_iff_ne]; exact fun e => absurd (hx.symm.trans e) (by decide)
 have e4 : ((hdT ts).text == [112, 114, 111, 116, 111]) = false := by rw [beq_eq_false_iff_ne]; exact fun e => absurd (hx.symm.trans e) (by decide)
 have e5 : ((hdT ts).text == [115, 114, 99]) = false := by rw [beq_eq_false_iff_ne]; exact fun e => absurd (hx.symm.trans e) (by decide)
 have e6 : ((hdT ts).text == [100, 115, 116]) = false := by rw [beq_eq_false_iff_ne]; exact fun e => absurd (hx.symm.trans e) (by decide)
 have e7 : ((hdT ts).text == [104, 111, 115, 116]) = false := by rw [beq_eq_false_iff_ne]; exact fun e => absurd (hx.symm.trans e) (by decide)
 have e8 : ((hdT ts).text == [110, 101, 116]) = true := by rw [hx]; rfl
 have HANS : Hid (D5 (hdT ts).pos (z7 (p8 ts) (o9 ts)) = ans) := hans
 clear hk hx hans
 generalize hT : hdT ts = t at *
 have HT : Hid (hdT ts = t) := hT
 clear hT
 obtain ⟨tk, tp, tx, tn⟩ := t
 simp only at *
 have KB := World.grownBy_alloc w (.cells #[.pointer (some ⟨c.g, 0, none⟩)] 65) none
 have BA := VAt.alloc w 65 #[.pointer (some ⟨c.g, 0, none⟩)]
 clear h
 go_enter Tryz.func113, Tryz.ntmps113
 go_upto_region 1 with fail
 have Q1 : PR c w vt vp (w.alloc (.cells #[.pointer (some ⟨c.g, 0, none⟩)] 65)) i vt vp ts nest bud ns w.heap.size 65 #[.pointer (some ⟨c.g, 0, none⟩)] := ⟨HP.out.keep KB, GB.non KB, fun _ _ h => h, HP.out.not_foot (Nat.le_refl _), BA, Nat.le_refl _⟩
 generalize w.alloc (.cells #[.pointer (some ⟨c.g, 0, none⟩)] 65) = w1 at *
 obtain ⟨bp, hbp⟩ : ∃ b, w.heap.size = b := ⟨_, rfl⟩
 have HL : Hid (w.heap.size = bp) := hbp
 rw [hbp] at Q1 ⊢
 clear hbp KB BA
 have p1 : w1.cell? ⟨bp, 0, none⟩ = some (.pointer (some ⟨c.g, 0, none⟩)) := Q1.res.cell 0
 have CN := x9 Q1.ps
 unfold tkC at CN
 rw [HT.out] at CN
 simp only at CN
 go_wp2_with fail
 refine CN.mono ?_
 rintro e w2 ⟨rfl, G2⟩
 have Q2 := Q1.keep G2
 clear CN Q1 G2 p1
 have Q3 := Q2.add 42 #[.int .i64 (tk : Int), .int .i64 (tp : Int), str tx, .int .u32 (tn : Int)]
 clear Q2
 go_upto_region 2 with fail
 generalize w2.alloc (.cells #[.int .i64 (tk : Int), .int .i64 (tp : Int), .string ⟨tx.toArray⟩, .int .u32 (tn : Int)] 42) = w3 at *
 generalize w2.heap.size = bf at *
 have f0 : w3.cell? ⟨bf, 0, none⟩ = some (.int .i64 (tk : Int)) := Q3.var.cell 0
 have f2 : w3.cell? ⟨bf, 2, none⟩ = some (str tx) := Q3.var.cell 2
 have p3 : w3.cell? ⟨bp, 0, none⟩ = some (.pointer (some ⟨c.g, 0, none⟩)) := Q3.res.cell 0
 have HQ3 : Hid (PW c w vt vp w3.drew i vt vp ts nest bud ns bp bf 65 42 #[.pointer (some ⟨c.g, 0, none⟩)] #[.int .i64 (tk : Int), .int .i64 (tp : Int), str tx, .int .u32 (tn : Int)]) := Q3.keep (f8 w3 1 none)
 clear Q3
 go_upto_region 22 with fail
 clear f0 f2 p3
 refine wp_region_held_drew (S := fun W => VAt W bp 65 #[.pointer (some ⟨c.g, 0, none⟩)] ∧ VAt W bf 42 #[.int .i64 (tk : Int), .int .i64 (tp : Int), str tx, .int .u32 (tn : Int)]) (by kernel_rfl) ⟨HQ3.out.res, HQ3.out.var⟩ (fun hHeld => ?_)
 have HC : Hid (Calls Tryz.prog 118 #[.pointer (some ⟨c.g, 0, none⟩)] w3.drew (M6 c w3.drew vt vp nest (bud + 1) ns (fun x : Nd => .agg x.cells.toArray) (z7 (p8 ts) (o9 ts)))) := a0S HQ3.out.ps
 unfold D5 at HANS
 generalize z7 (p8 ts) (o9 ts) = nr at *
 refine wpT (i := 0) (v := .pointer (some ⟨c.g, 0, none⟩)) rfl (Or.inl ⟨by rfl, fun W hW => ?_⟩) hHeld ?_
 ·have pc : W.cell? ⟨bp, 0, none⟩ = some (.pointer (some ⟨c.g, 0, none⟩)) := hW.1.cell 0
  clear hW
  go_simp
 try simp only [Act.put, a0, a1, a3, a4, a5]
 refine wpT (i := 1) (v := .agg #[.int .i64 (tk : Int), .int .i64 (tp : Int), str tx, .int .u32 (tn : Int)]) rfl (E8 (by rfl) _ _ rfl bf rfl 42 #[.int .i64 (tk : Int), .int .i64 (tp : Int), str tx, .int .u32 (tn : Int)] _ (fun W hW => hW.2) Tryz.underlying42 rfl D2) hHeld ?_
 try simp only [Act.put, a0, a1, a2, a3, a4, a5]
 refine wpT (i := 2) (v := .pointer (some ⟨c.g, 0, none⟩)) rfl (Or.inl ⟨by rfl, fun W hW => ?_⟩) hHeld ?_
 ·have pc : W.cell? ⟨bp, 0, none⟩ = some (.pointer (some ⟨c.g, 0, none⟩)) := hW.1.cell 0
  clear hW
  go_simp
 try simp only [Act.put, a0, a1, a2, a3, a4, a5]
 refine wpR (rs := [3]) (AllReadyH.cons rfl (fun K hK => ?_) AllReadyH.nil)
 go_simp
 refine HC.out.mono ?_
 clear HC
 cases nr with
 | error er =>
  have HA3 : Hid (ans = .error er) := HANS.out.symm
  rintro e w4 ⟨rfl, G⟩
  go_wp2
  refine ⟨rfl, ?_⟩
  rw [HA3.out]
  exact ⟨rfl, HQ3.out.err G⟩
 | ok v =>
  obtain ⟨X, r4⟩ := v
  have HA3 : Hid (ans = .ok ([(X, tp)], r4)) := HANS.out.symm
  rintro e w4 ⟨rfl, R4⟩
  obtain ⟨i4, vt4, vp4, Q4⟩ := HQ3.out.step R4
  go_wp2_with fail
  refine hK.out _ _ ⟨Q4.res, Q4.var⟩ (fun hHeld => ?_)
  clear hK K
  try simp only [Act.put, a0, a1, a2, a3, a4, a5]
  have CP := F0 Q4.ps ⟨tk, tp, tx, tn⟩ X
  refine wpR (rs := [4]) (AllReadyH.cons rfl (fun K hK => ?_) AllReadyH.nil)
  unfold tkC at CP
  simp only at CP
  go_simp
  refine CP.mono ?_
  rintro e wz ⟨rfl, RZ⟩
  obtain ⟨iz, vtz, vpz, QZ⟩ := Q4.step2 RZ
  go_wp2_with fail
  refine hK.out _ _ ⟨QZ.res, QZ.var⟩ (fun hHeld => ?_)
  clear hK K
  refine wpAnyH_done (by kernel_rfl) ?_ _
  go_wp2
  go_end0
  rw [HA3.out]
  exact ⟨rfl, QZ.ret⟩
theorem a8Q (h : PS c w i vt vp ts nest bud ns) (hk : (hdT ts).kind ≠ 1) (hx : (hdT ts).text = j1) (ans : Out) (hans : D5 (hdT ts).pos (z7 (p8 ts) (o9 ts)) = ans) :
  Calls Tryz.prog 113 #[.pointer (some ⟨c.g, 0, none⟩)] w (l6 c w vt vp nest bud ns ans) := by
 have HP : Hid (PS c w i vt vp ts nest bud ns) := h
 have k1 : (((hdT ts).kind : Int) == 1) = false := by rw [beq_eq_false_iff_ne]; omega
 have e0 : ((hdT ts).text == [40]) = false := by rw [beq_eq_false_iff_ne]; exact fun e => absurd (hx.symm.trans e) (by decide)
 have e1 : ((hdT ts).text == [108, 101, 110]) = false := by rw [beq_eq_false_iff_ne]; exact fun e => absurd (hx.symm.trans e) (by decide)
 have e2 : ((hdT ts).text == [105, 110, 98, 111, 117, 110, 100]) = false := by rw [beq_eq_false_iff_ne]; exact fun e => absurd (hx.symm.trans e) (by decide)
 have e3 : ((hdT ts).text == [111, 117, 116, 98, 111, 117, 110, 100]) = false := by rw [beq_eq_false_iff_ne]; exact fun e => absurd (hx.symm.trans e) (by decide)
 have e4 : ((hdT ts).text == [112, 114, 111, 116, 111]) = false := by rw [beq_eq_false_iff_ne]; exact fun e => absurd (hx.symm.trans e) (by decide)
 have e5 : ((hdT ts).text == [115, 114, 99]) = false := by rw [beq_eq_false_iff_ne]; exact fun e => absurd (hx.symm.trans e) (by decide)
 have e6 : ((hdT ts).text == [100, 115, 116]) = false := by rw [beq_eq_false_iff_ne]; exact fun e => absurd (hx.symm.trans e) (by decide)
 have e7 : ((hdT ts).text == [104, 111, 115, 116]) = false := by rw [beq_eq_false_iff_ne]; exact fun e => absurd (hx.symm.trans e) (by decide)
 have e8 : ((hdT ts).text == [110, 101, 116]) = false := by rw [beq_eq_false_iff_ne]; exact fun e => absurd (hx.symm.trans e) (by decide)
 have e9 : ((hdT ts).text == [112, 111, 114, 116]) = true := by rw [hx]; rfl
 have HANS : Hid (D5 (hdT ts).pos (z7 (p8 ts) (o9 ts)) = ans) := hans
 clear hk hx hans
 generalize hT : hdT ts = t at *
 have HT : Hid (hdT ts = t) := hT
 clear hT
 obtain ⟨tk, tp, tx, tn⟩ := t
 simp only at *
 have KB := World.grownBy_alloc w (.cells #[.pointer (some ⟨c.g, 0, none⟩)] 65) none
 have BA := VAt.alloc w 65 #[.pointer (some ⟨c.g, 0, none⟩)]
 clear h
 go_enter Tryz.func113, Tryz.ntmps113
 go_upto_region 1 with fail
 have Q1 : PR c w vt vp (w.alloc (.cells #[.pointer (some ⟨c.g, 0, none⟩)] 65)) i vt vp ts nest bud ns w.heap.size 65 #[.pointer (some ⟨c.g, 0, none⟩)] := ⟨HP.out.keep KB, GB.non KB, fun _ _ h => h, HP.out.not_foot (Nat.le_refl _), BA, Nat.le_refl _⟩
 generalize w.alloc (.cells #[.pointer (some ⟨c.g, 0, none⟩)] 65) = w1 at *
 obtain ⟨bp, hbp⟩ : ∃ b, w.heap.size = b := ⟨_, rfl⟩
 have HL : Hid (w.heap.size = bp) := hbp
 rw [hbp] at Q1 ⊢
 clear hbp KB BA
 have p1 : w1.cell? ⟨bp, 0, none⟩ = some (.pointer (some ⟨c.g, 0, none⟩)) := Q1.res.cell 0
 have CN := x9 Q1.ps
 unfold tkC at CN
 rw [HT.out] at CN
 simp only at CN
 go_wp2_with fail
 refine CN.mono ?_
 rintro e w2 ⟨rfl, G2⟩
 have Q2 := Q1.keep G2
 clear CN Q1 G2 p1
 have Q3 := Q2.add 42 #[.int .i64 (tk : Int), .int .i64 (tp : Int), str tx, .int .u32 (tn : Int)]
 clear Q2
 go_upto_region 2 with fail
 generalize w2.alloc (.cells #[.int .i64 (tk : Int), .int .i64 (tp : Int), .string ⟨tx.toArray⟩, .int .u32 (tn : Int)] 42) = w3 at *
 generalize w2.heap.size = bf at *
 have f0 : w3.cell? ⟨bf, 0, none⟩ = some (.int .i64 (tk : Int)) := Q3.var.cell 0
 have f2 : w3.cell? ⟨bf, 2, none⟩ = some (str tx) := Q3.var.cell 2
 have p3 : w3.cell? ⟨bp, 0, none⟩ = some (.pointer (some ⟨c.g, 0, none⟩)) := Q3.res.cell 0
 have HQ3 : Hid (PW c w vt vp w3.drew i vt vp ts nest bud ns bp bf 65 42 #[.pointer (some ⟨c.g, 0, none⟩)] #[.int .i64 (tk : Int), .int .i64 (tp : Int), str tx, .int .u32 (tn : Int)]) := Q3.keep (f8 w3 1 none)
 clear Q3
 go_upto_region 22 with fail
 clear f0 f2 p3
 refine wp_region_held_drew (S := fun W => VAt W bp 65 #[.pointer (some ⟨c.g, 0, none⟩)] ∧ VAt W bf 42 #[.int .i64 (tk : Int), .int .i64 (tp : Int), str tx, .int .u32 (tn : Int)]) (by kernel_rfl) ⟨HQ3.out.res, HQ3.out.var⟩ (fun hHeld => ?_)
 have HC : Hid (Calls Tryz.prog 118 #[.pointer (some ⟨c.g, 0, none⟩)] w3.drew (M6 c w3.drew vt vp nest (bud + 1) ns (fun x : Nd => .agg x.cells.toArray) (z7 (p8 ts) (o9 ts)))) := a0S HQ3.out.ps
 unfold D5 at HANS
 generalize z7 (p8 ts) (o9 ts) = nr at *
 refine wpT (i := 0) (v := .pointer (some ⟨c.g, 0, none⟩)) rfl (Or.inl ⟨by rfl, fun W hW => ?_⟩) hHeld ?_
 ·have pc : W.cell? ⟨bp, 0, none⟩ = some (.pointer (some ⟨c.g, 0, none⟩)) := hW.1.cell 0
  clear hW
  go_simp
 try simp only [Act.put, a0, a1, a3, a4, a5]
 refine wpT (i := 1) (v := .agg #[.int .i64 (tk : Int), .int .i64 (tp : Int), str tx, .int .u32 (tn : Int)]) rfl (E8 (by rfl) _ _ rfl bf rfl 42 #[.int .i64 (tk : Int), .int .i64 (tp : Int), str tx, .int .u32 (tn : Int)] _ (fun W hW => hW.2) Tryz.underlying42 rfl D2) hHeld ?_
 try simp only [Act.put, a0, a1, a2, a3, a4, a5]
 refine wpT (i := 2) (v := .pointer (some ⟨c.g, 0, none⟩)) rfl (Or.inl ⟨by rfl, fun W hW => ?_⟩) hHeld ?_
 ·have pc : W.cell? ⟨bp, 0, none⟩ = some (.pointer (some ⟨c.g, 0, none⟩)) := hW.1.cell 0
  clear hW
  go_simp
 try simp only [Act.put, a0, a1, a2, a3, a4, a5]
 refine wpR (rs := [3]) (AllReadyH.cons rfl (fun K hK => ?_) AllReadyH.nil)
 go_simp
 refine HC.out.mono ?_
 clear HC
 cases nr with
 | error er =>
  have HA3 : Hid (ans = .error er) := HANS.out.symm
  rintro e w4 ⟨rfl, G⟩
  go_wp2
  refine ⟨rfl, ?_⟩
  rw [HA3.out]
  exact ⟨rfl, HQ3.out.err G⟩
 | ok v =>
  obtain ⟨X, r4⟩ := v
  have HA3 : Hid (ans = .ok ([(X, tp)], r4)) := HANS.out.symm
  rintro e w4 ⟨rfl, R4⟩
  obtain ⟨i4, vt4, vp4, Q4⟩ := HQ3.out.step R4
  go_wp2_with fail
  refine hK.out _ _ ⟨Q4.res, Q4.var⟩ (fun hHeld => ?_)
  clear hK K
  try simp only [Act.put, a0, a1, a2, a3, a4, a5]
  have CP := F0 Q4.ps ⟨tk, tp, tx, tn⟩ X
  refine wpR (rs := [4]) (AllReadyH.cons rfl (fun K hK => ?_) AllReadyH.nil)
  unfold tkC at CP
  simp only at CP
  go_simp
  refine CP.mono ?_
  rintro e wz ⟨rfl, RZ⟩
  obtain ⟨iz, vtz, vpz, QZ⟩ := Q4.step2 RZ
  go_wp2_with fail
  refine hK.out _ _ ⟨QZ.res, QZ.var⟩ (fun hHeld => ?_)
  clear hK K
  refine wpAnyH_done (by kernel_rfl) ?_ _
  go_wp2
  go_end0
  rw [HA3.out]
  exact ⟨rfl, QZ.ret⟩
theorem a8L (h : PS c w i vt vp ts nest bud ns) (hk : (hdT ts).kind ≠ 1) (hx : (hdT ts).text = j4) (ans : Out) (hans : D5 (hdT ts).pos (z7 (p8 ts) (o9 ts)) = ans) :
  Calls Tryz.prog 113 #[.pointer (some ⟨c.g, 0, none⟩)] w (l6 c w vt vp nest bud ns ans) := by
 have HP : Hid (PS c w i vt vp ts nest bud ns) := h
 have k1 : (((hdT ts).kind : Int) == 1) = false := by rw [beq_eq_false_iff_ne]; omega
 have e0 : ((hdT ts).text == [40]) = false := by rw [beq_eq_false_iff_ne]; exact fun e => absurd (hx.symm.trans e) (by decide)
 have e1 : ((hdT ts).text == [108, 101, 110]) = false := by rw [beq_eq_false_iff_ne]; exact fun e => absurd (hx.symm.trans e) (by decide)
 have e2 : ((hdT ts).text == [105, 110, 98, 111, 117, 110, 100]) = false := by rw [beq_eq_false_iff_ne]; exact fun e => absurd (hx.symm.trans e) (by decide)
 have e3 : ((hdT ts).text == [111, 117, 116, 98, 111, 117, 110, 100]) = false := by rw [beq_eq_false_iff_ne]; exact fun e => absurd (hx.symm.trans e) (by decide)
 have e4 : ((hdT ts).text == [112, 114, 111, 116, 111]) = false := by rw [beq_eq_false_iff_ne]; exact fun e => absurd (hx.symm.trans e) (by decide)
 have e5 : ((hdT ts).text == [115, 114, 99]) = false := by rw [beq_eq_false_iff_ne]; exact fun e => absurd (hx.symm.trans e) (by decide)
 have e6 : ((hdT ts).text == [100, 115, 116]) = false := by rw [beq_eq_false_iff_ne]; exact fun e => absurd (hx.symm.trans e) (by decide)
 have e7 : ((hdT ts).text == [104, 111, 115, 116]) = false := by rw [beq_eq_false_iff_ne]; exact fun e => absurd (hx.symm.trans e) (by decide)
 have e8 : ((hdT ts).text == [110, 101, 116]) = false := by rw [beq_eq_false_iff_ne]; exact fun e => absurd (hx.symm.trans e) (by decide)
 have e9 : ((hdT ts).text == [112, 111, 114, 116]) = false := by rw [beq_eq_false_iff_ne]; exact fun e => absurd (hx.symm.trans e) (by decide)
 have e10 : ((hdT ts).text == [112, 111, 114, 116, 114, 97, 110, 103, 101]) = true := by rw [hx]; rfl
 have HANS : Hid (D5 (hdT ts).pos (z7 (p8 ts) (o9 ts)) = ans) := hans
 clear hk hx hans
 generalize hT : hdT ts = t at *
 have HT : Hid (hdT ts = t) := hT
 clear hT
 obtain ⟨tk, tp, tx, tn⟩ := t
 simp only at *
 have KB := World.grownBy_alloc w (.cells #[.pointer (some ⟨c.g, 0, none⟩)] 65) none
 have BA := VAt.alloc w 65 #[.pointer (some ⟨c.g, 0, none⟩)]
 clear h
 go_enter Tryz.func113, Tryz.ntmps113
 go_upto_region 1 with fail
 have Q1 : PR c w vt vp (w.alloc (.cells #[.pointer (some ⟨c.g, 0, none⟩)] 65)) i vt vp ts nest bud ns w.heap.size 65 #[.pointer (some ⟨c.g, 0, none⟩)] := ⟨HP.out.keep KB, GB.non KB, fun _ _ h => h, HP.out.not_foot (Nat.le_refl _), BA, Nat.le_refl _⟩
 generalize w.alloc (.cells #[.pointer (some ⟨c.g, 0, none⟩)] 65) = w1 at *
 obtain ⟨bp, hbp⟩ : ∃ b, w.heap.size = b := ⟨_, rfl⟩
 have HL : Hid (w.heap.size = bp) := hbp
 rw [hbp] at Q1 ⊢
 clear hbp KB BA
 have p1 : w1.cell? ⟨bp, 0, none⟩ = some (.pointer (some ⟨c.g, 0, none⟩)) := Q1.res.cell 0
 have CN := x9 Q1.ps
 unfold tkC at CN
 rw [HT.out] at CN
 simp only at CN
 go_wp2_with fail
 refine CN.mono ?_
 rintro e w2 ⟨rfl, G2⟩
 have Q2 := Q1.keep G2
 clear CN Q1 G2 p1
 have Q3 := Q2.add 42 #[.int .i64 (tk : Int), .int .i64 (tp : Int), str tx, .int .u32 (tn : Int)]
 clear Q2
 go_upto_region 2 with fail
 generalize w2.alloc (.cells #[.int .i64 (tk : Int), .int .i64 (tp : Int), .string ⟨tx.toArray⟩, .int .u32 (tn : Int)] 42) = w3 at *
 generalize w2.heap.size = bf at *
 have f0 : w3.cell? ⟨bf, 0, none⟩ = some (.int .i64 (tk : Int)) := Q3.var.cell 0
 have f2 : w3.cell? ⟨bf, 2, none⟩ = some (str tx) := Q3.var.cell 2
 have p3 : w3.cell? ⟨bp, 0, none⟩ = some (.pointer (some ⟨c.g, 0, none⟩)) := Q3.res.cell 0
 have HQ3 : Hid (PW c w vt vp w3.drew i vt vp ts nest bud ns bp bf 65 42 #[.pointer (some ⟨c.g, 0, none⟩)] #[.int .i64 (tk : Int), .int .i64 (tp : Int), str tx, .int .u32 (tn : Int)]) := Q3.keep (f8 w3 1 none)
 clear Q3
 go_upto_region 22 with fail
 clear f0 f2 p3
 refine wp_region_held_drew (S := fun W => VAt W bp 65 #[.pointer (some ⟨c.g, 0, none⟩)] ∧ VAt W bf 42 #[.int .i64 (tk : Int), .int .i64 (tp : Int), str tx, .int .u32 (tn : Int)]) (by kernel_rfl) ⟨HQ3.out.res, HQ3.out.var⟩ (fun hHeld => ?_)
 have HC : Hid (Calls Tryz.prog 118 #[.pointer (some ⟨c.g, 0, none⟩)] w3.drew (M6 c w3.drew vt vp nest (bud + 1) ns (fun x : Nd => .agg x.cells.toArray) (z7 (p8 ts) (o9 ts)))) := a0S HQ3.out.ps
 unfold D5 at HANS
 generalize z7 (p8 ts) (o9 ts) = nr at *
 refine wpT (i := 0) (v := .pointer (some ⟨c.g, 0, none⟩)) rfl (Or.inl ⟨by rfl, fun W hW => ?_⟩) hHeld ?_
 ·have pc : W.cell? ⟨bp, 0, none⟩ = some (.pointer (some ⟨c.g, 0, none⟩)) := hW.1.cell 0
  clear hW
  go_simp
 try simp only [Act.put, a0, a1, a3, a4, a5]
 refine wpT (i := 1) (v := .agg #[.int .i64 (tk : Int), .int .i64 (tp : Int), str tx, .int .u32 (tn : Int)]) rfl (E8 (by rfl) _ _ rfl bf rfl 42 #[.int .i64 (tk : Int), .int .i64 (tp : Int), str tx, .int .u32 (tn : Int)] _ (fun W hW => hW.2) Tryz.underlying42 rfl D2) hHeld ?_
 try simp only [Act.put, a0, a1, a2, a3, a4, a5]
 refine wpT (i := 2) (v := .pointer (some ⟨c.g, 0, none⟩)) rfl (Or.inl ⟨by rfl, fun W hW => ?_⟩) hHeld ?_
 ·have pc : W.cell? ⟨bp, 0, none⟩ = some (.pointer (some ⟨c.g, 0, none⟩)) := hW.1.cell 0
  clear hW
  go_simp
 try simp only [Act.put, a0, a1, a2, a3, a4, a5]
 refine wpR (rs := [3]) (AllReadyH.cons rfl (fun K hK => ?_) AllReadyH.nil)
 go_simp
 refine HC.out.mono ?_
 clear HC
 cases nr with
 | error er =>
  have HA3 : Hid (ans = .error er) := HANS.out.symm
  rintro e w4 ⟨rfl, G⟩
  go_wp2
  refine ⟨rfl, ?_⟩
  rw [HA3.out]
  exact ⟨rfl, HQ3.out.err G⟩
 | ok v =>
  obtain ⟨X, r4⟩ := v
  have HA3 : Hid (ans = .ok ([(X, tp)], r4)) := HANS.out.symm
  rintro e w4 ⟨rfl, R4⟩
  obtain ⟨i4, vt4, vp4, Q4⟩ := HQ3.out.step R4
  go_wp2_with fail
  refine hK.out _ _ ⟨Q4.res, Q4.var⟩ (fun hHeld => ?_)
  clear hK K
  try simp only [Act.put, a0, a1, a2, a3, a4, a5]
  have CP := F0 Q4.ps ⟨tk, tp, tx, tn⟩ X
  refine wpR (rs := [4]) (AllReadyH.cons rfl (fun K hK => ?_) AllReadyH.nil)
  unfold tkC at CP
  simp only at CP
  go_simp
  refine CP.mono ?_
  rintro e wz ⟨rfl, RZ⟩
  obtain ⟨iz, vtz, vpz, QZ⟩ := Q4.step2 RZ
  go_wp2_with fail
  refine hK.out _ _ ⟨QZ.res, QZ.var⟩ (fun hHeld => ?_)
  clear hK K
  refine wpAnyH_done (by kernel_rfl) ?_ _
  go_wp2
  go_end0
  rw [HA3.out]
  exact ⟨rfl, QZ.ret⟩
theorem a8A (h : PS c w i vt vp ts nest bud ns) (rec : Nat → List Tk → Out) (HO : U4 c rec) (hk : (hdT ts).kind ≠ 1) (hxp : (hdT ts).text ≠ [40]) (hx : (hdT ts).text ∉ W7) (ans : Out) (hans : (if l9 (hdT ts).text = 0 then .error (M4 ts) else N7 rec nest (l9 (hdT ts).text) (hdT ts).pos ts.tail) = ans) (hne : ans ≠ .error exP) :
  Calls Tryz.prog 113 #[.pointer (some ⟨c.g, 0, none⟩)] w (l6 c w vt vp nest bud ns ans) := by
 have HP : Hid (PS c w i vt vp ts nest bud ns) := h
 have k1 : (((hdT ts).kind : Int) == 1) = false := by rw [beq_eq_false_iff_ne]; omega
 have e0 : ((hdT ts).text == [40]) = false := by rw [beq_eq_false_iff_ne]; exact fun e => hxp e
 have e1 : ((hdT ts).text == [108, 101, 110]) = false := by rw [beq_eq_false_iff_ne]; exact fun e => hx (by rw [e]; decide)
 have e2 : ((hdT ts).text == [105, 110, 98, 111, 117, 110, 100]) = false := by rw [beq_eq_false_iff_ne]; exact fun e => hx (by rw [e]; decide)
 have e3 : ((hdT ts).text == [111, 117, 116, 98, 111, 117, 110, 100]) = false := by rw [beq_eq_false_iff_ne]; exact fun e => hx (by rw [e]; decide)
 have e4 : ((hdT ts).text == [112, 114, 111, 116, 111]) = false := by rw [beq_eq_false_iff_ne]; exact fun e => hx (by rw [e]; decide)
 have e5 : ((hdT ts).text == [115, 114, 99]) = false := by rw [beq_eq_false_iff_ne]; exact fun e => hx (by rw [e]; decide)
 have e6 : ((hdT ts).text == [100, 115, 116]) = false := by rw [beq_eq_false_iff_ne]; exact fun e => hx (by rw [e]; decide)
 have e7 : ((hdT ts).text == [104, 111, 115, 116]) = false := by rw [beq_eq_false_iff_ne]; exact fun e => hx (by rw [e]; decide)
 have e8 : ((hdT ts).text == [110, 101, 116]) = false := by rw [beq_eq_false_iff_ne]; exact fun e => hx (by rw [e]; decide)
 have e9 : ((hdT ts).text == [112, 111, 114, 116]) = false := by rw [beq_eq_false_iff_ne]; exact fun e => hx (by rw [e]; decide)
 have e10 : ((hdT ts).text == [112, 111, 114, 116, 114, 97, 110, 103, 101]) = false := by rw [beq_eq_false_iff_ne]; exact fun e => hx (by rw [e]; decide)
 have HN : Hid (∀ W, PS c W i vt vp ts nest bud ns → Calls Tryz.prog 119 #[.pointer (some ⟨c.g, 0, none⟩)] W (l6 c W vt vp nest bud ns ans)) := fun W hW => a7Q rec HO hW ans hans hne
 clear hk hx hxp hans hne HO
 generalize hT : hdT ts = t at *
 have HT : Hid (hdT ts = t) := hT
 clear hT
 obtain ⟨tk, tp, tx, tn⟩ := t
 simp only at *
 have KB := World.grownBy_alloc w (.cells #[.pointer (some ⟨c.g, 0, none⟩)] 65) none
 have BA := VAt.alloc w 65 #[.pointer (some ⟨c.g, 0, none⟩)]
 clear h
 go_enter Tryz.func113, Tryz.ntmps113
 go_upto_region 1 with fail
 have Q1 : PR c w vt vp (w.alloc (.cells #[.pointer (some ⟨c.g, 0, none⟩)] 65)) i vt vp ts nest bud ns w.heap.size 65 #[.pointer (some ⟨c.g, 0, none⟩)] := ⟨HP.out.keep KB, GB.non KB, fun _ _ h => h, HP.out.not_foot (Nat.le_refl _), BA, Nat.le_refl _⟩
 generalize w.alloc (.cells #[.pointer (some ⟨c.g, 0, none⟩)] 65) = w1 at *
 obtain ⟨bp, hbp⟩ : ∃ b, w.heap.size = b := ⟨_, rfl⟩
 have HL : Hid (w.heap.size = bp) := hbp
 rw [hbp] at Q1 ⊢
 clear hbp KB BA
 have p1 : w1.cell? ⟨bp, 0, none⟩ = some (.pointer (some ⟨c.g, 0, none⟩)) := Q1.res.cell 0
 have CN := x9 Q1.ps
 unfold tkC at CN
 rw [HT.out] at CN
 simp only at CN
 go_wp2_with fail
 refine CN.mono ?_
 rintro e w2 ⟨rfl, G2⟩
 have Q2 := Q1.keep G2
 clear CN Q1 G2 p1
 have Q3 := Q2.add 42 #[.int .i64 (tk : Int), .int .i64 (tp : Int), str tx, .int .u32 (tn : Int)]
 clear Q2
 go_upto_region 2 with fail
 generalize w2.alloc (.cells #[.int .i64 (tk : Int), .int .i64 (tp : Int), .string ⟨tx.toArray⟩, .int .u32 (tn : Int)] 42) = w3 at *
 generalize w2.heap.size = bf at *
 have f0 : w3.cell? ⟨bf, 0, none⟩ = some (.int .i64 (tk : Int)) := Q3.var.cell 0
 have f2 : w3.cell? ⟨bf, 2, none⟩ = some (str tx) := Q3.var.cell 2
 have p3 : w3.cell? ⟨bp, 0, none⟩ = some (.pointer (some ⟨c.g, 0, none⟩)) := Q3.res.cell 0
 have CN := HN.out w3 Q3.ps
 have HQ : Hid (GB w w3 (d3 c.g vt vp)) := Q3.gb
 clear Q3 HN
 go_wp2_with fail
 refine CN.mono ?_
 clear CN
 cases ans with
 | error er =>
  rintro e w4 ⟨rfl, G4⟩
  go_wp2
  exact ⟨rfl, rfl, HQ.out.trans G4 (fun _ _ h => h)⟩
 | ok v =>
  obtain ⟨ms, r4⟩ := v
  rintro e w4 ⟨rfl, R4⟩
  go_wp2
  go_end0
  exact ⟨rfl, Ret.of HQ.out (fun _ _ h => h) R4⟩

end
end Go.Proofs.YtlfmddjppejmaaaGreatDoor
