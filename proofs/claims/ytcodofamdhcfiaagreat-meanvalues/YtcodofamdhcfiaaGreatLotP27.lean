import Derived.Test.YtcodofamdhcfiaaGreatAb
import Derived.Test.YtcodofamdhcfiaaGreatLotP25
import Derived.Test.YtcodofamdhcfiaaGreatLotP26
import Derived.Shelf.Abstract
import Derived.Test.YtcodofamdhcfiaaGreatLotP1
import Derived.Deep.RegionWith
import Derived.Deep.DeepCutAuto
import Derived.Deep.WholeRow
import Derived.Test.YtcodofamdhcfiaaGreatLotP23
import Derived.Test.YtcodofamdhcfiaaGreatLotP21
namespace Go.Proofs.YtcodofamdhcfiaaGreat
open Go.RowKit
set_option maxRecDepth 100000
theorem ret_row_cell {P : Program} {fn : Func} {p q : Tmp} {ty te : TypeId} (h : fn.results = #[.cell p ty, .cell q te]) (tmps : Array Value) (w : World) (g e : Nat) (cs : Array Value) (d : TypeDesc) (k : IntKind) (v : Int) (hp : tmps.getD p undef = .pointer (some ⟨g, 0, none⟩)) (hq : tmps.getD q undef = .pointer (some ⟨e, 0, none⟩)) (A : VAt w g ty cs) (B : VAt w e te #[.int k v])
  (hu : P.underlying ty = some d) (hd : (match d with | .struct _ | .array _ _ => true | _ => false) = true) (hi : (P.info? ty).map (·.size) = some cs.size) (hv : P.underlying te = some (.int k)) : (results fn tmps).run P w = .ok (.tuple #[.agg cs, .int k v]) w := by
 have hp' : tmps[p]?.getD undef = .pointer (some ⟨g, 0, none⟩) := by simpa using hp
 have hq' : tmps[q]?.getD undef = .pointer (some ⟨e, 0, none⟩) := by simpa using hq
 have h1 := run_loadVar_row (P := P) w g ty ty cs (0, 0) _ A hu hd hi
 have h2 : (loadVar te ⟨e, 0, none⟩).run P w = .ok (.int k v) w := by
  have hc : w.cell? ⟨e, 0, none⟩ = some (.int k v) := B.cell 0
  have hag : (isAgg te).run P w = .ok false w := run_isAgg_plain hv rfl w
  simp [loadVar, Sem.run_bind, hag, go_sem, hc]
 simp [results, h, hp', hq', asAddr, h1, h2, Sem.run_bind]
def Sides (w : World) (R E g : Nat) : Prop := VAt w R 42 (vwA Vw.zero) ∧ VAt w E 26 #[.int .i64 0] ∧ R ≠ g ∧ E ≠ g
theorem Sides.kept {w w' : World} {R E g : Nat} (h : Sides w R E g) (G : w.grownBy w' (some g)) : Sides w' R E g :=
 ⟨h.1.grown G (by simpa using h.2.2.1.symm), h.2.1.grown G (by simpa using h.2.2.2.symm), h.2.2⟩
def RowS (w : World) (P g : Nat) : Prop := ∀ k, k < 6 → w.cell? ⟨P, k, none⟩ = some (.func (.func (stepN k)) #[.pointer (some ⟨g, 0, none⟩)] #[])
theorem RowS.kept {w w' : World} {P g : Nat} (h : RowS w P g) (hne : P ≠ g) (G : w.grownBy w' (some g)) : RowS w' P g := fun k hk => G.cell (h k hk) (by simpa using hne)
theorem range_view {w : World} {g : Nat} {v : Vw} {l : Lk} {s : Value} (h : WAt w g v l s) : w.rangeAt g 0 (vwA v).toList := by
 intro j u hu
 have := h.c j
 rw [Nat.zero_add, this]
 have hj : j < 9 := by
  have := (List.getElem?_eq_some_iff.1 hu).1
  simpa [vwA] using this
 have hs : j = 0 ∨ j = 1 ∨ j = 2 ∨ j = 3 ∨ j = 4 ∨ j = 5 ∨ j = 6 ∨ j = 7 ∨ j = 8 := by omega
 rcases hs with rfl | rfl | rfl | rfl | rfl | rfl | rfl | rfl | rfl <;> exact hu
theorem exX_err {α : Type} (d : α) (e : Int) : exV d (.error e) = d ∧ exE (.error e : Except Int α) = e := ⟨rfl, rfl⟩
theorem exX_ok {α : Type} (d a : α) : exV d (.ok a) = a ∧ exE (.ok a : Except Int α) = 0 := ⟨rfl, rfl⟩
theorem sides_set {w w0 : World} {R E : Nat} {X : Array Value} {e0 : Int} (hR : VAt w R 42 X) (hE : VAt w E 26 #[.int .i64 e0]) (hne : R ≠ E) (Y : Array Value) (er : Int) (G : w0.grownBy w none) (h1 : w0.heap.size ≤ R) (h2 : w0.heap.size ≤ E) :
  VAt ((w.setRow R Y).setCell ⟨E, 0, none⟩ (.int .i64 er)) R 42 Y ∧ VAt ((w.setRow R Y).setCell ⟨E, 0, none⟩ (.int .i64 er)) E 26 #[.int .i64 er] ∧ w0.grownBy ((w.setRow R Y).setCell ⟨E, 0, none⟩ (.int .i64 er)) none := by
 have E1 := hE.grown (w' := w.setRow R Y) (vgrown_setRow (World.grownBy.refl w (some R)) R Y (.inl rfl)) (by simpa using hne)
 have R1 := hR.setRow Y
 have K : (w.setRow R Y).grownBy ((w.setRow R Y).setCell ⟨E, 0, none⟩ (.int .i64 er)) (some E) := grown_setCell (World.grownBy.refl _ _) _ _ (.inl rfl)
 exact ⟨R1.grown K (by simpa using hne.symm), E1.set 0 _, grown_setCell (vgrown_setRow G R Y (.inr h1)) _ _ (.inr h2)⟩
set_option maxRecDepth 100000 in
set_option maxHeartbeats 4000000 in
theorem look_any (l : Lk) (a : Option Addr) (ca : Nat) (b : List UInt8) (w : World) (ha : Cells w a b) (hn : b.length ≤ 140737488355328) :
  Calls Tryz.prog 37 #[.agg (lkA l), .slice a b.length ca] w fun e w' => e = .returned (.tuple #[.agg (vwA (exV Vw.zero (lookX l b))), .int .i64 (exE (lookX l b))]) ∧ w.grownBy w' none := by
 obtain ⟨LA, RA, EA, G0⟩ := three_blocks w l 24 42 26 (vwA Vw.zero) #[.int .i64 0]
 have HA : Hid (Cells w a b) := ha
 have HU : Hid (Under a b w.heap.size) := ha.under
 have HS : Hid (∀ v : Vw, (Tryz.prog.info? 42).map (·.size) = some (vwA v).size) := fun v => size42
 have HL : Hid ((Tryz.prog.info? 24).map (·.size) = some (lkA l).size) := size24
 have HC : Hid (checkF l ≠ 0 → lookX l b = .error (checkF l)) := fun h => by rw [lookX, if_pos h]
 have HD : Hid (checkF l = 0 → chainX l b 6 0 Vw.zero = lookX l b) := fun h => look_chain b h
 obtain ⟨ans, hans⟩ : ∃ ans, lookX l b = ans := ⟨_, rfl⟩
 rw [hans] at HC HD ⊢
 clear ha hans
 go_enter_defers Tryz.func37, Tryz.ntmps37
 go_upto_region 1 with fail
 rw [show ((w.alloc (.cells (lkA l) 24)).alloc (.cells #[.int .u32 0, .bool false, .bool false, .bool false, .int .u32 0, .int .i64 0, .int .i64 0, .int .i64 0, .int .i64 0] 42)).alloc (.cells #[.int .i64 0] 26) = ((w.alloc (.cells (lkA l) 24)).alloc (.cells (vwA Vw.zero) 42)).alloc (.cells #[.int .i64 0] 26) from rfl]
 generalize ((w.alloc (.cells (lkA l) 24)).alloc (.cells (vwA Vw.zero) 42)).alloc (.cells #[.int .i64 0] 26) = wa at *
 obtain ⟨L, hL⟩ : ∃ L, w.heap.size = L := ⟨_, rfl⟩
 obtain ⟨R, hR, hR2⟩ : ∃ R, w.heap.size + 1 = R ∧ w.heap.size ≤ R := ⟨_, rfl, by omega⟩
 obtain ⟨E, hE, hE2⟩ : ∃ E, w.heap.size + 1 + 1 = E ∧ w.heap.size ≤ E := ⟨_, rfl, by omega⟩
 have HRE : Hid (R ≠ E ∧ w.heap.size ≤ R ∧ w.heap.size ≤ E ∧ L ≠ E) := ⟨by omega, by omega, by omega, by omega⟩
 rw [show w.heap.size + 2 = w.heap.size + 1 + 1 from rfl, hE] at EA
 rw [hE, hR]
 rw [hR] at RA
 rw [hL] at LA ⊢
 clear hR hL hE hR2 hE2
 have CK := chk_any l wa
 go_wp2_with (refine wpList_load_row rfl 24 (.tmp 2) rfl L rfl 24 (lkA l) (0, 0) _ LA Tryz.underlying24 rfl HL.out ?_)
 refine CK.mono ?_
 rintro e w1 ⟨rfl, K1⟩
 have LA1 := LA.kept K1
 have RA1 := RA.kept K1
 have EA1 := EA.kept K1
 have G1 := grown_trans G0 K1
 clear CK LA RA EA G0 K1
 have cE : w1.cell? ⟨E, 0, none⟩ = some (.int .i64 0) := EA1.cell 0
 have fE := EA1.free 0
 by_cases hck : checkF l = 0
 ·rw [hck]
  have HD2 : Hid (chainX l b 6 0 Vw.zero = ans) := HD.out hck
  have HM : Hid (0 ≤ l.mp ∧ l.mp ≤ 2) := by
   show 0 ≤ l.mp ∧ l.mp ≤ 2
   unfold checkF at hck
   split at hck
   ·exact absurd hck (by simp)
   ·omega
  have EA2 := EA1.set 0 (.int .i64 0)
  have K2 : w1.grownBy (w1.setCell ⟨E, 0, none⟩ (.int .i64 0)) (some E) := grown_setCell (World.grownBy.refl _ _) _ _ (.inl rfl)
  have G2 : w.grownBy (w1.setCell ⟨E, 0, none⟩ (.int .i64 0)) none := grown_setCell G1 _ _ (.inr HRE.out.2.2.1)
  have RA2 := RA1.grown K2 (by simpa using HRE.out.1.symm)
  have LA2 := LA1.grown K2 (by simpa using HRE.out.2.2.2.symm)
  clear HC HD hck
  have hmf : ∀ (fn : Fn) (first cap : Array Value) (w : World), (Instr.makeFunc fn first cap).run Tryz.prog w = .ok (.func fn first cap) w := fun _ _ _ _ => rfl
  go_upto_region 5 with fail
  have EA3 : VAt (w1.setCell ⟨E, 0, none⟩ (.int .i64 0)) E 26 #[.int .i64 0] := EA2
  clear EA2 K2 LA1 RA1 EA1 G1 cE fE
  generalize w1.setCell ⟨E, 0, none⟩ (.int .i64 0) = w2 at *
  have OV := over_any l a b.length ca w2
  go_wp2_with (refine wpList_load_row rfl 24 (.tmp 2) rfl L rfl 24 (lkA l) (0, 0) _ LA2 Tryz.underlying24 rfl HL.out ?_)
  refine OV.mono ?_
  rintro e w3 ⟨g, rfl, W3, hg, K3⟩
  have SD : Sides w3 R E g := ⟨RA2.kept K3, EA3.kept K3, by have := RA2.lt; omega, by have := EA3.lt; omega⟩
  have G3 := grown_trans G2 K3
  have HG : Hid (w.heap.size ≤ g) := Nat.le_trans G2.size hg
  clear OV LA2 RA2 EA3 G2 K3 hg
  go_upto_region 7 with fail
  have FA := VAt.alloc w3 1 #[.func (.func 58) #[.pointer (some ⟨g, 0, none⟩)] #[], .func (.func 59) #[.pointer (some ⟨g, 0, none⟩)] #[], .func (.func 60) #[.pointer (some ⟨g, 0, none⟩)] #[], .func (.func 61) #[.pointer (some ⟨g, 0, none⟩)] #[], .func (.func 62) #[.pointer (some ⟨g, 0, none⟩)] #[], .func (.func 63) #[.pointer (some ⟨g, 0, none⟩)] #[]]
  have K4 := World.grownBy_alloc w3 (.cells #[.func (.func 58) #[.pointer (some ⟨g, 0, none⟩)] #[], .func (.func 59) #[.pointer (some ⟨g, 0, none⟩)] #[], .func (.func 60) #[.pointer (some ⟨g, 0, none⟩)] #[], .func (.func 61) #[.pointer (some ⟨g, 0, none⟩)] #[], .func (.func 62) #[.pointer (some ⟨g, 0, none⟩)] #[], .func (.func 63) #[.pointer (some ⟨g, 0, none⟩)] #[]] 1) none
  have RW : RowS (w3.alloc (.cells #[.func (.func 58) #[.pointer (some ⟨g, 0, none⟩)] #[], .func (.func 59) #[.pointer (some ⟨g, 0, none⟩)] #[], .func (.func 60) #[.pointer (some ⟨g, 0, none⟩)] #[], .func (.func 61) #[.pointer (some ⟨g, 0, none⟩)] #[], .func (.func 62) #[.pointer (some ⟨g, 0, none⟩)] #[], .func (.func 63) #[.pointer (some ⟨g, 0, none⟩)] #[]] 1)) w3.heap.size g := fun k hk => by
   have hs : k = 0 ∨ k = 1 ∨ k = 2 ∨ k = 3 ∨ k = 4 ∨ k = 5 := by omega
   rcases hs with rfl | rfl | rfl | rfl | rfl | rfl
   ·exact FA.cell 0
   ·exact FA.cell 1
   ·exact FA.cell 2
   ·exact FA.cell 3
   ·exact FA.cell 4
   ·exact FA.cell 5
  have HPG : Hid (w3.heap.size ≠ g) := by show w3.heap.size ≠ g; have := W3.lt; omega
  have W4 := W3.kept K4
  have SD4 := SD.kept (grown_mono K4)
  have G4 := grown_trans G3 K4
  clear FA K4 W3 SD G3
  generalize w3.alloc (.cells #[.func (.func 58) #[.pointer (some ⟨g, 0, none⟩)] #[], .func (.func 59) #[.pointer (some ⟨g, 0, none⟩)] #[], .func (.func 60) #[.pointer (some ⟨g, 0, none⟩)] #[], .func (.func 61) #[.pointer (some ⟨g, 0, none⟩)] #[], .func (.func 62) #[.pointer (some ⟨g, 0, none⟩)] #[], .func (.func 63) #[.pointer (some ⟨g, 0, none⟩)] #[]] 1) = w4 at *
  generalize w3.heap.size = P at *
  have HFR : Hid (∀ W, w4.grownBy W (some g) → FrA W g a b) := fun W K => by
   refine ⟨HA.out.keptNone (grown_trans_new G4 K (fun x hx => by have := HG.out; simp at hx; omega)), fun x hx hb => ?_⟩
   have := HU.out x hx hb
   have := HG.out
   omega
  clear HA HU
  go_loopw [33] (fun i wr => ∃ (k : Nat) (v : Vw), k ≤ 6 ∧ i = .int .i64 k ∧ InvX b k v ∧ Hid (chainX l b (6 - k) k v = ans) ∧ WAt wr g v l (.slice a b.length ca) ∧ w4.grownBy wr (some g)) (fun i _ => 6 - (intOf i).toNat)
  case atStart => exact ⟨0, Vw.zero, Nat.zero_le _, rfl, ⟨Nat.zero_le _, fun _ => rfl⟩, HD2, W4, World.grownBy.refl _ _⟩
  case round =>
   clear HD2 W4
   obtain ⟨k, v, hk, rfl, hI, HCH, WV, K⟩ := hrel
   have SDr := SD4.kept K
   by_cases hlt : k < 6
   ·have hl6 : (k : Int) < 6 := by omega
    have r1 := (RW.kept HPG.out K) k hlt
    have he := stepN_enters k
    have cS := step_any k g v l a ca b wr hlt WV (HFR.out wr K) hn hI HM.out
    have HN : Hid (∀ u, stepX l b k v = .ok u → InvX b (k + 1) u ∧ chainX l b (6 - (k + 1)) (k + 1) u = ans) := fun u hu => by
     refine ⟨step_inv hlt hI hu, ?_⟩
     have := HCH.out
     rw [show 6 - k = (6 - (k + 1)) + 1 by omega, chain_ok hu] at this
     exact this
    have HB : Hid (∀ er, stepX l b k v = .error er → ans = .error er) := fun er hu => by
     have := HCH.out
     rw [show 6 - k = (6 - (k + 1)) + 1 by omega, chain_err hu] at this
     exact this.symm
    generalize stepN k = fn at *
    rcases except_cases (stepX l b k v) with ⟨er, hx⟩ | ⟨u, hx⟩
    ·rw [hx] at cS
     have hans := HB.out er hx
     subst hans
     clear HN HB HCH hx hI WV
     go_wp2_with (go_at_fn fn; refine cS.mono ?_; rintro e w5 ⟨K5, rfl⟩)
     have S5 := SDr.kept K5
     have G5 : w.grownBy w5 none := grown_trans_new G4 (grown_trans K K5) (fun x hx => by have := HG.out; simp at hx; omega)
     refine leaves_cons (f := 56) (args := #[.pointer (some ⟨R, 0, none⟩), .pointer (some ⟨E, 0, none⟩)]) (by simp) (by simp [go_sem]) ?_
     refine (catch_pan R E er 0 (vwA Vw.zero) _ S5.1 rfl S5.2.1 HRE.out.1).mono ?_
     rintro e u' w'' ⟨rfl, rfl, rfl⟩
     obtain ⟨V6, E6, G6⟩ := sides_set S5.1 S5.2.1 HRE.out.1 (vwA Vw.zero) er G5 HRE.out.2.1 HRE.out.2.2.1
     exact ⟨_, ret_row_cell rfl _ _ R E (vwA Vw.zero) _ .i64 er rfl rfl V6 E6 Tryz.underlying42 rfl (HS.out _) Tryz.underlying26, rfl, G6⟩
    ·rw [hx] at cS
     obtain ⟨hI2, hC2⟩ := HN.out u hx
     have HI2 : Hid (InvX b (k + 1) u ∧ chainX l b (6 - (k + 1)) (k + 1) u = ans) := ⟨hI2, hC2⟩
     clear HN HB HCH hx hI WV hI2 hC2
     go_wp2_with (go_at_fn fn; refine cS.mono ?_; rintro e w5 ⟨K5, rfl, W5⟩)
     go_roundw
     case rel => exact ⟨k + 1, u, by omega, by go_num, HI2.out.1, HI2.out.2, W5, grown_trans K K5⟩
     case measure => simp [intOf]; omega
   ·obtain rfl : k = 6 := by omega
    have hans : ans = .ok v := HCH.out.symm
    subst hans
    have G5 : w.grownBy wr none := grown_trans_new G4 K (fun x hx => by have := HG.out; simp at hx; omega)
    have RV := range_view WV
    have RS := SDr.1
    obtain ⟨V6, E6, G6⟩ := sides_set SDr.1 SDr.2.1 HRE.out.1 (vwA v) 0 G5 HRE.out.2.1 HRE.out.2.2.1
    have E5 := SDr.2.1.grown (w' := wr.setRow R (vwA v)) (vgrown_setRow (World.grownBy.refl wr (some R)) R (vwA v) (.inl rfl)) (by simpa using HRE.out.1)
    have cE : (wr.setRow R (vwA v)).cell? ⟨E, 0, none⟩ = some (.int .i64 0) := E5.cell 0
    have fE := E5.free 0
    rw [show ((6 : Nat) : Int) = 6 from rfl]
    clear HCH E5 hI hlt hk WV K SDr RW HFR
    go_wp2_with (first
     | refine wpList_load_mid rfl 42 (.tmp 42) rfl g 0 rfl (vwA v).toList _ RV Tryz.underlying42 rfl (HS.out _) ?_
     | refine wpList_store_row rfl 42 (.tmp 4) (.tmp 43) rfl R (vwA v) rfl rfl 42 _ RS (HS.out _) rfl (vwA_all _) ?_)
    refine leaves_cons (f := 56) (args := #[.pointer (some ⟨R, 0, none⟩), .pointer (some ⟨E, 0, none⟩)]) (by simp) (by simp [go_sem]) ?_
    refine (catch_idle R E _).mono ?_
    rintro e u' w'' ⟨rfl, rfl, rfl⟩
    exact ⟨_, ret_row_cell rfl _ _ R E (vwA v) _ .i64 0 rfl rfl V6 E6 Tryz.underlying42 rfl (HS.out _) Tryz.underlying26, rfl, G6⟩
 ·have hans := HC.out hck
  subst hans
  obtain ⟨er, her⟩ : ∃ er, checkF l = er := ⟨_, rfl⟩
  rw [her] at hck ⊢
  have HER : Hid (checkF l = er) := her
  have hz : (er != 0) = true := by rw [bne_iff_ne]; exact hck
  have K2 : w1.grownBy (w1.setCell ⟨E, 0, none⟩ (.int .i64 er)) (some E) := grown_setCell (World.grownBy.refl _ _) _ _ (.inl rfl)
  have EA2 : VAt (w1.setCell ⟨E, 0, none⟩ (.int .i64 er)) E 26 #[.int .i64 er] := EA1.set 0 _
  have RA2 := RA1.grown K2 (by simpa using HRE.out.1.symm)
  have G2 : w.grownBy (w1.setCell ⟨E, 0, none⟩ (.int .i64 er)) none := grown_setCell G1 _ _ (.inr HRE.out.2.2.1)
  clear HC HD hck her LA1 K2
  go_upto_region 3 with fail
  clear RA1 EA1 G1 cE fE
  generalize w1.setCell ⟨E, 0, none⟩ (.int .i64 er) = w2 at *
  refine wp_region_noPanic ?_
  refine wp_region_held_drew (S := fun W => VAt W R 42 (vwA Vw.zero) ∧ VAt W E 26 #[.int .i64 er] ∧ w.grownBy W none) (by kernel_rfl) ⟨RA2.kept (grown_drewN w2 1 none), EA2.kept (grown_drewN w2 1 none), grown_trans G2 (grown_drewN w2 1 none)⟩ (fun hHeld => ?_)
  refine wpT (i := 0) (v := .agg #[.int .u32 0, .bool false, .bool false, .bool false, .int .u32 0, .int .i64 0, .int .i64 0, .int .i64 0, .int .i64 0]) rfl (Or.inl ⟨by rfl, fun W hW => ?_⟩) hHeld ?_
  ·clear hW
   go_simp
  try simp only [Act.put, a0, a1, a3, a4, a5]
  refine wpT (i := 1) (v := .int .i64 er) rfl (Or.inl ⟨by rfl, fun W hW => ?_⟩) hHeld ?_
  ·have hc : W.cell? ⟨E, 0, none⟩ = some (.int .i64 er) := hW.2.1.cell 0
   clear hW
   go_simp
  try simp only [Act.put, a0, a1, a2, a3, a4, a5]
  refine wpR (rs := [2]) (AllReadyH.cons rfl (fun K hK => ?_) AllReadyH.nil)
  rw [if_pos (by rfl)]
  refine wp_store_row 42 (.tmp 4) (.tmp 13) rfl R (vwA Vw.zero) rfl rfl 42 _ hHeld.1 (HS.out _) rfl (vwA_all _) ?_
  refine hK.out _ _ ⟨hHeld.1.setRow _, hHeld.2.1.grown (vgrown_setRow (World.grownBy.refl _ (some R)) R (vwA Vw.zero) (.inl rfl)) (by simpa using HRE.out.1), vgrown_setRow hHeld.2.2 R _ (.inr HRE.out.2.1)⟩ (fun hHeld => ?_)
  clear hK K
  try simp only [Act.put, List.getElem_toArray, List.getElem_cons_zero, List.getElem_cons_succ]
  generalize w2.drew.setRow R (vwA Vw.zero) = w3 at *
  refine wpR (rs := [3]) (AllReadyH.cons rfl (fun K hK => ?_) AllReadyH.nil)
  have cE : w3.cell? ⟨E, 0, none⟩ = some (.int .i64 er) := hHeld.2.1.cell 0
  have fE := hHeld.2.1.free 0
  have H4 : VAt (w3.setCell ⟨E, 0, none⟩ (.int .i64 er)) R 42 (vwA Vw.zero) ∧ VAt (w3.setCell ⟨E, 0, none⟩ (.int .i64 er)) E 26 #[.int .i64 er] ∧ w.grownBy (w3.setCell ⟨E, 0, none⟩ (.int .i64 er)) none :=
   ⟨hHeld.1.grown (grown_setCell (World.grownBy.refl w3 (some E)) ⟨E, 0, none⟩ (.int .i64 er) (.inl rfl)) (by simpa using HRE.out.1.symm), hHeld.2.1.set 0 _, grown_setCell hHeld.2.2 _ _ (.inr HRE.out.2.2.1)⟩
  have HH : Hid _ := H4
  clear H4 hHeld
  go_simp
  refine hK.out _ _ HH.out (fun hHeld => ?_)
  clear hK K
  try simp only [Act.put, a0, a1, a2, a3, a4, a5]
  refine wpAnyH_done (by kernel_rfl) ?_ _
  refine NoPanic.normal ?_
  clear hHeld
  go_wp2
  exact ⟨_, ret_row_cell rfl _ _ R E (vwA Vw.zero) _ .i64 er rfl rfl HH.out.1 HH.out.2.1 Tryz.underlying42 rfl (HS.out _) Tryz.underlying26, by rw [HER.out]; rfl, HH.out.2.2⟩
theorem ip_err {v : Vw} {b : List UInt8} {e : Int} (h : ipV v b = .error e) : (e != 0) = true := by
 unfold ipV at h
 repeat' split at h
 all_goals cases h
 all_goals rfl
theorem look_err {l : Lk} {b : List UInt8} {e : Int} (h : lookX l b = .error e) : (e != 0) = true := by
 unfold lookX at h
 split at h
 ·rename_i hc
  cases h
  rw [bne_iff_ne]
  exact hc
 ·cases hp : pieceV l b with
  | error e2 =>
   rw [hp] at h
   cases h
   exact piece_err hp
  | ok v =>
   rw [bind_of hp] at h
   split at h
   ·cases h
   ·cases hq : (if v.multi = true then (protoV l b v.pos).bind fun q => Except.ok { v with proto := q.1, pos := q.2 } else Except.ok v) with
    | error x =>
     rw [hq] at h
     cases h
     split at hq
     ·cases hr : protoV l b v.pos with
      | error y => rw [hr] at hq; cases hq; exact proto_err hr
      | ok q => rw [bind_of hr] at hq; cases hq
     ·cases hq
    | ok u =>
     rw [bind_of hq] at h
     split at h
     ·exact ip_err h
     ·cases h
theorem look_net {l : Lk} {b : List UInt8} {v : Vw} (h : lookX l b = .ok v) : (v.net = 4 → v.pos + 20 ≤ b.length) ∧ (v.net = 6 → v.pos + 40 ≤ b.length) := by
 unfold lookX at h
 split at h
 ·cases h
 ·obtain ⟨u, hu, h⟩ := bind_ok h
  obtain ⟨-, p2, -⟩ := piece_ok hu
  split at h
  ·cases h
   exact ⟨fun e => by omega, fun e => by omega⟩
  ·obtain ⟨u2, hu2, h⟩ := bind_ok h
   have k1 : u2.net = 0 := by
    split at hu2
    ·obtain ⟨q, -, hu2⟩ := bind_ok hu2
     cases hu2
     exact p2
    ·cases hu2
     exact p2
   split at h
   ·unfold ipV at h
    split at h
    ·split at h
     ·cases h
     ·rename_i h40
      split at h
      ·cases h
      ·cases h
       exact ⟨fun e => (by cases e), fun _ => (by show u2.pos + 40 ≤ b.length; omega)⟩
    ·split at h
     ·cases h
     ·rename_i h20
      split at h
      ·cases h
      ·split at h
       ·cases h
       ·split at h
        ·cases h
        ·cases h
         exact ⟨fun _ => (by show u2.pos + 20 ≤ b.length; omega), fun e => (by cases e)⟩
   ·cases h
    exact ⟨fun e => by omega, fun e => by omega⟩
theorem look_sg {l : Lk} {b : List UInt8} {v : Vw} (way : Int) (h : lookX l b = .ok v) : MSgOk ⟨v, way, b⟩ := by
 have k := look_ok h
 have n := look_net h
 exact ⟨k.len, k.next, k.load, k.pos2, n.1, n.2⟩
theorem box_lk (l : Lk) (W : World) : (Instr.box 24 (.agg (lkA l))).run Tryz.prog W = .ok (.pointer (some ⟨W.heap.size, 0, none⟩)) (W.alloc (.cells (lkA l) 24)) := by kernel_rfl
theorem lk_sz (l : Lk) : (Tryz.prog.info? 24).map (·.size) = some (lkA l).size := by kernel_rfl
def KB (w : World) (B : Nat) (l : Lk) : Prop := VAt w B 24 (lkA l)
theorem KB.kept {w w' : World} {B : Nat} {l : Lk} (h : KB w B l) (K : w.grownBy w' none) : KB w' B l := VAt.kept h K
set_option maxHeartbeats 2000000 in
theorem refused_any (ao : Option Addr) (cap : Nat) (t : List Ng) (l : Lk) (way : Int) (w : World) (C : CV w ao (flatG t)) (hm : t.length * 72 ≤ 140737488355328) (hn : ∀ x ∈ t, x.n ≤ 4294967295) :
  Calls Tryz.prog 20 #[.slice ao t.length cap, .agg (lkA l), .int .i64 way] w fun e w' => e = .returned (.int .i64 (refuseM t l way)) ∧ w.grownBy w' none := by
 have HBL := box_lk l
 have L1 : KB (w.alloc (.cells (lkA l) 24)) w.heap.size l := VAt.alloc _ _ _
 have K1 := World.grownBy_alloc w (.cells (lkA l) 24) none
 have CC := check12_any ao cap t _ (C.keptNone K1) hm hn
 have CF := fun W => chk_any l W
 have HLS := lk_sz l
 have HE : Hid (refuseM t l way = if (checkG t).2 ≠ 0 then 140 else if checkF l ≠ 0 then 141 else if way ≠ 0 ∧ way ≠ 1 then 142 else 0) := rfl
 obtain ⟨E, hE⟩ : ∃ E, refuseM t l way = E := ⟨_, rfl⟩
 rw [hE] at HE ⊢
 clear C hm hn hE
 obtain ⟨LA, hLA⟩ : ∃ LA, lkA l = LA := ⟨_, rfl⟩
 have HLA : Hid (lkA l = LA) := hLA
 rw [hLA] at HBL L1 K1 CC CF HLS ⊢
 clear hLA
 simp only [checkR] at CC
 go_enter Tryz.func20, Tryz.ntmps20
 go_upto_region 1 with fail
 generalize w.alloc (.cells LA 24) = w1 at *
 generalize w.heap.size = B at *
 clear HBL
 go_wp2_with fail
 refine CC.mono ?_
 rintro e w2 ⟨rfl, K2⟩
 have HG2 : Hid (w.grownBy w2 none) := grown_trans K1 K2
 have V2 : VAt w2 B 24 LA := by have h := L1.kept K2; unfold KB at h; rw [HLA.out] at h; exact h
 clear CC L1 K1 K2
 by_cases h1 : (checkG t).2 = 0
 case neg =>
  have e1 : ((checkG t).2 != 0) = true := by rw [bne_iff_ne]; exact h1
  have HF : Hid (E = 140) := by show E = _; rw [HE.out, if_pos h1]
  clear h1 HE
  go_wp2
  go_ret
  exact ⟨ret_int HF.out.symm, HG2.out⟩
 case pos =>
  rw [h1]
  have HE2 : Hid (E = if checkF l ≠ 0 then 141 else if way ≠ 0 ∧ way ≠ 1 then 142 else 0) := by show E = _; rw [HE.out, if_neg (by simpa using h1)]
  clear HE h1
  go_wp2_with (refine wpList_load_row rfl 24 (.tmp 4) rfl B rfl 24 LA (0, 0) _ V2 Tryz.underlying24 rfl HLS ?_)
  refine (CF _).mono ?_
  rintro e w3 ⟨rfl, K3⟩
  have HG3 : Hid (w.grownBy w3 none) := grown_trans HG2.out K3
  clear CF K3
  by_cases h2 : checkF l = 0
  case neg =>
   have e1 : (checkF l != 0) = true := by rw [bne_iff_ne]; exact h2
   have HF : Hid (E = 141) := by show E = _; rw [HE2.out, if_pos h2]
   clear h2 HE2
   go_wp2
   go_ret
   exact ⟨ret_int HF.out.symm, HG3.out⟩
  case pos =>
   rw [h2]
   have HE3 : Hid (E = if way ≠ 0 ∧ way ≠ 1 then 142 else 0) := by show E = _; rw [HE2.out, if_neg (by simpa using h2)]
   clear HE2 h2
   by_cases w0 : way = 0
   ·have HF : Hid (E = 0) := by show E = _; rw [HE3.out, if_neg (by omega)]
    have e1 : (way != 0) = false := by rw [w0]; rfl
    clear w0 HE3
    go_wp2
    go_ret
    exact ⟨ret_int HF.out.symm, HG3.out⟩
   ·by_cases w1 : way = 1
    ·have HF : Hid (E = 0) := by show E = _; rw [HE3.out, if_neg (by omega)]
     have e1 : (way != 0) = true := by rw [bne_iff_ne]; exact w0
     have e2 : (way != 1) = false := by rw [w1]; rfl
     clear w0 w1 HE3
     go_wp2
     go_ret
     exact ⟨ret_int HF.out.symm, HG3.out⟩
    ·have HF : Hid (E = 142) := by show E = _; rw [HE3.out, if_pos ⟨w0, w1⟩]
     have e1 : (way != 0) = true := by rw [bne_iff_ne]; exact w0
     have e2 : (way != 1) = true := by rw [bne_iff_ne]; exact w1
     clear w0 w1 HE3
     go_wp2
     go_ret
     exact ⟨ret_int HF.out.symm, HG3.out⟩
theorem vw_sz (v : Vw) : (Tryz.prog.info? 42).map (·.size) = some (vwA v).size := by kernel_rfl
theorem build_view (v : Vw) (way : Int) (b : List UInt8) (a : Option Addr) (ca : Nat) (W : World) : (Instr.build 71 #[(0, .agg (vwA v)), (1, .int .i64 way), (2, .slice a b.length ca)]).run Tryz.prog W = .ok (.agg (viewC ⟨v, way, b⟩ a ca)) W := by kernel_rfl
theorem meant_blocks (w : World) (l : Lk) : ∃ w1, (w.alloc (.cells (lkA l) 24)).alloc (.cells (pmC pm0) 55) = w1 ∧ KB w1 w.heap.size l ∧ QB w1 (w.heap.size + 1) pm0 ∧ w.grownBy w1 none := by
 refine ⟨_, rfl, ?_⟩
 have K0 := World.grownBy_alloc w (.cells (lkA l) 24) none
 have A0 : KB (w.alloc (.cells (lkA l) 24)) w.heap.size l := VAt.alloc _ _ _
 have e0 : (w.alloc (.cells (lkA l) 24)).heap.size = w.heap.size + 1 := by simp
 generalize w.alloc (.cells (lkA l) 24) = w0 at *
 have K1 := World.grownBy_alloc w0 (.cells (pmC pm0) 55) none
 have B1 := QB.alloc w0 pm0
 rw [e0] at B1
 exact ⟨A0.kept K1, B1, grown_trans K0 K1⟩
set_option maxHeartbeats 2000000 in
theorem meant_any (ao : Option Addr) (cap : Nat) (t : List Ng) (p : Pt) (l : Lk) (way : Int) (a : Option Addr) (ca : Nat) (b : List UInt8) (w : World) (C : CV w ao (flatG t)) (hw : walkG [] 0 t = .ok [p]) (ht : t.length ≤ 3000) (hn : ∀ x ∈ t, x.n ≤ 4294967295) (hc : Cells w a b) (hb : b.length ≤ 140737488355328) (hcap : b.length ≤ ca) :
  Calls Tryz.prog 21 #[.slice ao t.length cap, .agg (lkA l), .int .i64 way, .slice a b.length ca] w fun e w' => e = .returned (pmA (meanM t l way b)) ∧ w.grownBy w' none := by
 have HBL := box_lk l
 obtain ⟨w1, hw1, L1, T1, G1⟩ := meant_blocks w l
 have CL := look_any l a ca b w1 (hc.keptNone G1) hb
 have HLS := lk_sz l
 have HVS := vw_sz
 have HPS := mpart_size
 have HC : Hid (∀ W, w.grownBy W none → CV W ao (flatG t) ∧ Cells W a b) := fun W K => ⟨C.keptNone K, hc.keptNone K⟩
 have HSZ : Hid (w.heap.size ≤ w.heap.size + 1) := Nat.le_succ _
 have e2 : (w.alloc (.cells (lkA l) 24)).alloc (.cells #[.int .i64 0, .int .u32 0] 55) = w1 := hw1
 have HG1 : Hid (w.grownBy w1 none) := G1
 have HCR : Hid (∀ (v : Vw) (W : World), lookX l b = .ok v → w.grownBy W none → Calls Tryz.prog 38 #[.slice ao t.length cap, tellA ⟨v, way, b⟩ a ca] W fun e w' => e = .returned (pmA (meanM t l way b)) ∧ W.grownBy w' none) := fun v W hv K => by
  have h := reckoned_any14 ⟨v, way, b⟩ a ca ao cap t p W (C.keptNone K) hw ht hn (hc.keptNone K) (look_sg way hv) hcap
  unfold meanM
  rw [hv]
  exact h
 have HE : Hid (∀ e, lookX l b = .error e → e ≠ 0 → meanM t l way b = ⟨2, 0⟩) := fun e he _ => by unfold meanM; rw [he]
 obtain ⟨E, hE⟩ : ∃ E, meanM t l way b = E := ⟨_, rfl⟩
 rw [hE] at HCR HE ⊢
 clear C hw ht hn hc hb hcap hw1 hE G1
 have HEZ : Hid (∀ e, lookX l b = .error e → e ≠ 0) := fun e he => by have := look_err he; rwa [bne_iff_ne] at this
 obtain ⟨LA, hLA⟩ : ∃ LA, lkA l = LA := ⟨_, rfl⟩
 have V1 : VAt w1 w.heap.size 24 LA := hLA ▸ L1
 rw [hLA] at HBL CL HLS e2 ⊢
 clear hLA L1
 go_enter Tryz.func21, Tryz.ntmps21
 go_upto_region 1 with fail
 try rw [e2]
 clear e2 HBL
 generalize w.heap.size + 1 = T at *
 obtain ⟨B, hB⟩ : ∃ B, w.heap.size = B := ⟨_, rfl⟩
 rw [hB] at V1 ⊢
 clear hB
 go_wp2_with (refine wpList_load_row rfl 24 (.tmp 5) rfl B rfl 24 LA (0, 0) _ V1 Tryz.underlying24 rfl HLS ?_)
 refine CL.mono ?_
 rintro e w2 ⟨rfl, K2⟩
 have T2 := T1.kept K2
 have HG2 : Hid (w.grownBy w2 none) := grown_trans HG1.out K2
 clear CL V1 T1 K2
 cases hl : lookX l b with
 | error e =>
  rw [(exX_err Vw.zero e).1, (exX_err Vw.zero e).2]
  have e1 : (e != 0) = true := by rw [bne_iff_ne]; exact HEZ.out e hl
  have HF : Hid (E = ⟨2, 0⟩) := HE.out e hl (HEZ.out e hl)
  clear hl
  go_upto_region 2 with (refine wpList_store_row rfl 42 (.tmp 9) (.tmp 15) rfl w2.heap.size (vwA Vw.zero) rfl rfl 42 _ (VAt.alloc w2 _ _) (HVS _) rfl (vwA_all _) ?_)
  rw [World.setRow_alloc_new]
  have K3 := World.grownBy_alloc w2 (.cells (vwA Vw.zero) 42) none
  have T3 := (T2.kept K3).vat
  have HG3 : Hid (w.grownBy (w2.alloc (.cells (vwA Vw.zero) 42)) none) := grown_trans HG2.out K3
  clear T2 K3
  generalize w2.alloc (.cells (vwA Vw.zero) 42) = w3 at *
  go_wp2_with (refine wpList_store_row rfl 55 (.tmp 8) (.tmp 19) rfl T (pmC ⟨2, 0⟩) rfl rfl 55 _ T3 (HPS _) rfl (part_all _) ?_)
  refine bodyPost_ret (results_cell_row rfl _ _ T 55 (pmC ⟨2, 0⟩) (0, 0) _ rfl (T3.setRow _) Tryz.underlying55 rfl (HPS _)) rfl ?_
  exact ⟨by rw [HF.out], put_part HG3.out HSZ.out⟩
 | ok u =>
  rw [(exX_ok Vw.zero u).1, (exX_ok Vw.zero u).2]
  have HCU : Hid (∀ W, w.grownBy W none → Calls Tryz.prog 38 #[.slice ao t.length cap, tellA ⟨u, way, b⟩ a ca] W fun e w' => e = .returned (pmA E) ∧ W.grownBy w' none) := fun W K => HCR.out u W hl K
  have HBV := build_view u way b a ca
  clear hl
  go_upto_region 2 with (refine wpList_store_row rfl 42 (.tmp 9) (.tmp 15) rfl w2.heap.size (vwA u) rfl rfl 42 _ (VAt.alloc w2 _ _) (HVS _) rfl (vwA_all _) ?_)
  rw [World.setRow_alloc_new]
  have K3 := World.grownBy_alloc w2 (.cells (vwA u) 42) none
  have T3 := (T2.kept K3).vat
  have A3 := VAt.alloc w2 42 (vwA u)
  have HG3 : Hid (w.grownBy (w2.alloc (.cells (vwA u) 42)) none) := grown_trans HG2.out K3
  clear T2 K3
  generalize w2.alloc (.cells (vwA u) 42) = w3 at *
  generalize w2.heap.size = D at *
  obtain ⟨UA, hUA⟩ : ∃ UA, vwA u = UA := ⟨_, rfl⟩
  obtain ⟨VC, hVC⟩ : ∃ VC, viewC ⟨u, way, b⟩ a ca = VC := ⟨_, rfl⟩
  have HVU := HVS u
  simp only [tellA] at HCU
  rw [hUA] at HBV A3 HVU
  rw [hVC] at HBV HCU
  clear hUA hVC
  go_wp2_with (first | (refine wpList_load_row rfl 42 (.tmp 9) rfl D rfl 42 UA (0, 0) _ A3 Tryz.underlying42 rfl HVU ?_) | (refine wpList_bld rfl 71 _ rfl #[(0, .agg UA), (1, .int .i64 way), (2, .slice a b.length ca)] (by kernel_rfl) (.agg VC) HBV ?_))
  refine (HCU.out _ HG3.out).mono ?_
  rintro e w4 ⟨rfl, K4⟩
  have T4 := T3.kept K4
  have G4 := grown_trans HG3.out K4
  clear T3 A3 K4
  go_wp2_with (refine wpList_store_row rfl 55 (.tmp 8) (.tmp 26) rfl T (pmC E) rfl rfl 55 _ T4 (HPS _) rfl (part_all _) ?_)
  refine bodyPost_ret (results_cell_row rfl _ _ T 55 (pmC E) (0, 0) _ rfl (T4.setRow _) Tryz.underlying55 rfl (HPS _)) rfl ?_
  exact ⟨rfl, put_part G4 HSZ.out⟩
end Go.Proofs.YtcodofamdhcfiaaGreat
