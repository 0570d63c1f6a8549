/-
  Package frame as landed: Look, Packet. The call 'awake' of the statements over package frame answers true, and writes nothing that was there. A view that is looked up and laid into a block of its own, in whatever order.
-/
import Derived.Test.YtnojpepjloceoaaGreatLotP14
import Derived.Test.YtnojpepjloceoaaGreatLotP40
import Derived.Test.YtnojpepjloceoaaGreatLotP5
import Derived.Shelf.Abstract
import Derived.Test.YtnojpepjloceoaaGreatLotP1
import Derived.Deep.RegionWith
import Derived.Deep.DeepCutAuto
import Derived.Deep.WholeRow
namespace Go.Proofs.YtnojpepjloceoaaGreat
open Go.RowKit
set_option maxRecDepth 100000

/-- A result row that lies in a block, and a number in a block of its own. -/
theorem ret_row_cell {P : Program} {fn : Func} {p q : Tmp} {ty te : TypeId} (h : fn.results = #[.cell p ty, .cell q te]) (tmps : Array Value) (w : World) (g e : Nat) (cs : Array Value) (d : TypeDesc) (k : IntKind) (v : Int) (hp : tmps.getD p undef = .pointer (some ⟨g, 0, none⟩)) (hq : tmps.getD q undef = .pointer (some ⟨e, 0, none⟩)) (A : VAt w g ty cs) (B : VAt w e te #[.int k v])
    (hu : P.underlying ty = some d) (hd : (match d with | .struct _ | .array _ _ => true | _ => false) = true) (hi : (P.info? ty).map (·.size) = some cs.size) (hv : P.underlying te = some (.int k)) : (results fn tmps).run P w = .ok (.tuple #[.agg cs, .int k v]) w := by
  have hp' : tmps[p]?.getD undef = .pointer (some ⟨g, 0, none⟩) := by simpa using hp
  have hq' : tmps[q]?.getD undef = .pointer (some ⟨e, 0, none⟩) := by simpa using hq
  have h1 := run_loadVar_row (P := P) w g ty ty cs (0, 0) _ A hu hd hi
  have h2 : (loadVar te ⟨e, 0, none⟩).run P w = .ok (.int k v) w := by
    have hc : w.cell? ⟨e, 0, none⟩ = some (.int k v) := B.cell 0
    have hag : (isAgg te).run P w = .ok false w := run_isAgg_plain hv rfl w
    simp [loadVar, Sem.run_bind, hag, go_sem, hc]
  simp [results, h, hp', hq', asAddr, h1, h2, Sem.run_bind]

/-- What lies beside a reader: the two results' blocks. -/
def Sides (w : World) (R E g : Nat) : Prop := VAt w R 81 (vwA Vw.zero) ∧ VAt w E 29 #[.int .i64 0] ∧ R ≠ g ∧ E ≠ g
theorem Sides.kept {w w' : World} {R E g : Nat} (h : Sides w R E g) (G : w.grownBy w' (some g)) : Sides w' R E g :=
  ⟨h.1.grown G (by simpa using h.2.2.1.symm), h.2.1.grown G (by simpa using h.2.2.2.symm), h.2.2⟩

/-- The row of steps. -/
def RowS (w : World) (P g : Nat) : Prop := ∀ k, k < 6 → w.cell? ⟨P, k, none⟩ = some (.func (.func (stepN k)) #[.pointer (some ⟨g, 0, none⟩)] #[])
theorem RowS.kept {w w' : World} {P g : Nat} (h : RowS w P g) (hne : P ≠ g) (G : w.grownBy w' (some g)) : RowS w' P g := fun k hk => G.cell (h k hk) (by simpa using hne)

theorem range_view {w : World} {g : Nat} {v : Vw} {l : Lk} {s : Value} (h : WAt w g v l s) : w.rangeAt g 0 (vwA v).toList := by
  intro j u hu
  have := h.c j
  rw [Nat.zero_add, this]
  have hj : j < 9 := by
    have := (List.getElem?_eq_some_iff.1 hu).1
    simpa [vwA] using this
  have hs : j = 0 ∨ j = 1 ∨ j = 2 ∨ j = 3 ∨ j = 4 ∨ j = 5 ∨ j = 6 ∨ j = 7 ∨ j = 8 := by omega
  rcases hs with rfl | rfl | rfl | rfl | rfl | rfl | rfl | rfl | rfl <;> exact hu

theorem exX_err {α : Type} (d : α) (e : Int) : exV d (.error e) = d ∧ exE (.error e : Except Int α) = e := ⟨rfl, rfl⟩
theorem exX_ok {α : Type} (d a : α) : exV d (.ok a) = a ∧ exE (.ok a : Except Int α) = 0 := ⟨rfl, rfl⟩

theorem sides_set {w w0 : World} {R E : Nat} {X : Array Value} {e0 : Int} (hR : VAt w R 81 X) (hE : VAt w E 29 #[.int .i64 e0]) (hne : R ≠ E) (Y : Array Value) (er : Int) (G : w0.grownBy w none) (h1 : w0.heap.size ≤ R) (h2 : w0.heap.size ≤ E) :
    VAt ((w.setRow R Y).setCell ⟨E, 0, none⟩ (.int .i64 er)) R 81 Y ∧ VAt ((w.setRow R Y).setCell ⟨E, 0, none⟩ (.int .i64 er)) E 29 #[.int .i64 er] ∧ w0.grownBy ((w.setRow R Y).setCell ⟨E, 0, none⟩ (.int .i64 er)) none := by
  have E1 := hE.grown (w' := w.setRow R Y) (vgrown_setRow (World.grownBy.refl w (some R)) R Y (.inl rfl)) (by simpa using hne)
  have R1 := hR.setRow Y
  have K : (w.setRow R Y).grownBy ((w.setRow R Y).setCell ⟨E, 0, none⟩ (.int .i64 er)) (some E) := grown_setCell (World.grownBy.refl _ _) _ _ (.inl rfl)
  exact ⟨R1.grown K (by simpa using hne.symm), E1.set 0 _, grown_setCell (vgrown_setRow G R Y (.inr h1)) _ _ (.inr h2)⟩

set_option maxRecDepth 100000 in
set_option maxHeartbeats 4000000 in
theorem look_any (l : Lk) (a : Option Addr) (ca : Nat) (b : List UInt8) (w : World) (ha : Cells w a b) (hn : b.length ≤ 140737488355328) :
    Calls Tryz.prog 51 #[.agg (lkA l), .slice a b.length ca] w fun e w' => e = .returned (.tuple #[.agg (vwA (exV Vw.zero (lookX l b))), .int .i64 (exE (lookX l b))]) ∧ w.grownBy w' none := by
  obtain ⟨LA, RA, EA, G0⟩ := three_blocks w l 23 81 29 (vwA Vw.zero) #[.int .i64 0]
  have HA : Hid (Cells w a b) := ha
  have HU : Hid (Under a b w.heap.size) := ha.under
  have HS : Hid (∀ v : Vw, (Tryz.prog.info? 81).map (·.size) = some (vwA v).size) := fun v => size81
  have HL : Hid ((Tryz.prog.info? 23).map (·.size) = some (lkA l).size) := size23
  have HC : Hid (checkF l ≠ 0 → lookX l b = .error (checkF l)) := fun h => by rw [lookX, if_pos h]
  have HD : Hid (checkF l = 0 → chainX l b 6 0 Vw.zero = lookX l b) := fun h => look_chain b h
  obtain ⟨ans, hans⟩ : ∃ ans, lookX l b = ans := ⟨_, rfl⟩
  rw [hans] at HC HD ⊢
  clear ha hans
  go_enter_defers Tryz.func51, Tryz.ntmps51
  go_upto_region 1 with fail
  rw [show ((w.alloc (.cells (lkA l) 23)).alloc (.cells #[.int .u32 0, .bool false, .bool false, .bool false, .int .u32 0, .int .i64 0, .int .i64 0, .int .i64 0, .int .i64 0] 81)).alloc (.cells #[.int .i64 0] 29) = ((w.alloc (.cells (lkA l) 23)).alloc (.cells (vwA Vw.zero) 81)).alloc (.cells #[.int .i64 0] 29) from rfl]
  generalize ((w.alloc (.cells (lkA l) 23)).alloc (.cells (vwA Vw.zero) 81)).alloc (.cells #[.int .i64 0] 29) = wa at *
  obtain ⟨L, hL⟩ : ∃ L, w.heap.size = L := ⟨_, rfl⟩
  obtain ⟨R, hR, hR2⟩ : ∃ R, w.heap.size + 1 = R ∧ w.heap.size ≤ R := ⟨_, rfl, by omega⟩
  obtain ⟨E, hE, hE2⟩ : ∃ E, w.heap.size + 1 + 1 = E ∧ w.heap.size ≤ E := ⟨_, rfl, by omega⟩
  have HRE : Hid (R ≠ E ∧ w.heap.size ≤ R ∧ w.heap.size ≤ E ∧ L ≠ E) := ⟨by omega, by omega, by omega, by omega⟩
  rw [show w.heap.size + 2 = w.heap.size + 1 + 1 from rfl, hE] at EA
  rw [hE, hR]
  rw [hR] at RA
  rw [hL] at LA ⊢
  clear hR hL hE hR2 hE2
  have CK := chk_any l wa
  go_wp2_with (refine wpList_load_row rfl 23 (.tmp 2) rfl L rfl 23 (lkA l) (0, 0) _ LA Tryz.underlying23 rfl HL.out ?_)
  refine CK.mono ?_
  rintro e w1 ⟨rfl, K1⟩
  have LA1 := LA.kept K1
  have RA1 := RA.kept K1
  have EA1 := EA.kept K1
  have G1 := grown_trans G0 K1
  clear CK LA RA EA G0 K1
  have cE : w1.cell? ⟨E, 0, none⟩ = some (.int .i64 0) := EA1.cell 0
  have fE := EA1.free 0
  by_cases hck : checkF l = 0
  · rw [hck]
    have HD2 : Hid (chainX l b 6 0 Vw.zero = ans) := HD.out hck
    have HM : Hid (0 ≤ l.mp ∧ l.mp ≤ 2) := by
      show 0 ≤ l.mp ∧ l.mp ≤ 2
      unfold checkF at hck
      split at hck
      · exact absurd hck (by simp)
      · omega
    have EA2 := EA1.set 0 (.int .i64 0)
    have K2 : w1.grownBy (w1.setCell ⟨E, 0, none⟩ (.int .i64 0)) (some E) := grown_setCell (World.grownBy.refl _ _) _ _ (.inl rfl)
    have G2 : w.grownBy (w1.setCell ⟨E, 0, none⟩ (.int .i64 0)) none := grown_setCell G1 _ _ (.inr HRE.out.2.2.1)
    have RA2 := RA1.grown K2 (by simpa using HRE.out.1.symm)
    have LA2 := LA1.grown K2 (by simpa using HRE.out.2.2.2.symm)
    clear HC HD hck
    have hmf : ∀ (fn : Fn) (first cap : Array Value) (w : World), (Instr.makeFunc fn first cap).run Tryz.prog w = .ok (.func fn first cap) w := fun _ _ _ _ => rfl
    go_upto_region 5 with fail
    have EA3 : VAt (w1.setCell ⟨E, 0, none⟩ (.int .i64 0)) E 29 #[.int .i64 0] := EA2
    clear EA2 K2 LA1 RA1 EA1 G1 cE fE
    generalize w1.setCell ⟨E, 0, none⟩ (.int .i64 0) = w2 at *
    have OV := over_any l a b.length ca w2
    go_wp2_with (refine wpList_load_row rfl 23 (.tmp 2) rfl L rfl 23 (lkA l) (0, 0) _ LA2 Tryz.underlying23 rfl HL.out ?_)
    refine OV.mono ?_
    rintro e w3 ⟨g, rfl, W3, hg, K3⟩
    have SD : Sides w3 R E g := ⟨RA2.kept K3, EA3.kept K3, by have := RA2.lt; omega, by have := EA3.lt; omega⟩
    have G3 := grown_trans G2 K3
    have HG : Hid (w.heap.size ≤ g) := Nat.le_trans G2.size hg
    clear OV LA2 RA2 EA3 G2 K3 hg
    go_upto_region 7 with fail
    have FA := VAt.alloc w3 1 #[.func (.func 60) #[.pointer (some ⟨g, 0, none⟩)] #[], .func (.func 61) #[.pointer (some ⟨g, 0, none⟩)] #[], .func (.func 62) #[.pointer (some ⟨g, 0, none⟩)] #[], .func (.func 63) #[.pointer (some ⟨g, 0, none⟩)] #[], .func (.func 64) #[.pointer (some ⟨g, 0, none⟩)] #[], .func (.func 65) #[.pointer (some ⟨g, 0, none⟩)] #[]]
    have K4 := World.grownBy_alloc w3 (.cells #[.func (.func 60) #[.pointer (some ⟨g, 0, none⟩)] #[], .func (.func 61) #[.pointer (some ⟨g, 0, none⟩)] #[], .func (.func 62) #[.pointer (some ⟨g, 0, none⟩)] #[], .func (.func 63) #[.pointer (some ⟨g, 0, none⟩)] #[], .func (.func 64) #[.pointer (some ⟨g, 0, none⟩)] #[], .func (.func 65) #[.pointer (some ⟨g, 0, none⟩)] #[]] 1) none
    have RW : RowS (w3.alloc (.cells #[.func (.func 60) #[.pointer (some ⟨g, 0, none⟩)] #[], .func (.func 61) #[.pointer (some ⟨g, 0, none⟩)] #[], .func (.func 62) #[.pointer (some ⟨g, 0, none⟩)] #[], .func (.func 63) #[.pointer (some ⟨g, 0, none⟩)] #[], .func (.func 64) #[.pointer (some ⟨g, 0, none⟩)] #[], .func (.func 65) #[.pointer (some ⟨g, 0, none⟩)] #[]] 1)) w3.heap.size g := fun k hk => by
      have hs : k = 0 ∨ k = 1 ∨ k = 2 ∨ k = 3 ∨ k = 4 ∨ k = 5 := by omega
      rcases hs with rfl | rfl | rfl | rfl | rfl | rfl
      · exact FA.cell 0
      · exact FA.cell 1
      · exact FA.cell 2
      · exact FA.cell 3
      · exact FA.cell 4
      · exact FA.cell 5
    have HPG : Hid (w3.heap.size ≠ g) := by show w3.heap.size ≠ g; have := W3.lt; omega
    have W4 := W3.kept K4
    have SD4 := SD.kept (grown_mono K4)
    have G4 := grown_trans G3 K4
    clear FA K4 W3 SD G3
    generalize w3.alloc (.cells #[.func (.func 60) #[.pointer (some ⟨g, 0, none⟩)] #[], .func (.func 61) #[.pointer (some ⟨g, 0, none⟩)] #[], .func (.func 62) #[.pointer (some ⟨g, 0, none⟩)] #[], .func (.func 63) #[.pointer (some ⟨g, 0, none⟩)] #[], .func (.func 64) #[.pointer (some ⟨g, 0, none⟩)] #[], .func (.func 65) #[.pointer (some ⟨g, 0, none⟩)] #[]] 1) = w4 at *
    generalize w3.heap.size = P at *
    have HFR : Hid (∀ W, w4.grownBy W (some g) → FrA W g a b) := fun W K => by
      refine ⟨HA.out.keptNone (grown_trans_new G4 K (fun x hx => by have := HG.out; simp at hx; omega)), fun x hx hb => ?_⟩
      have := HU.out x hx hb
      have := HG.out
      omega
    clear HA HU
    go_loopw [33] (fun i wr => ∃ (k : Nat) (v : Vw), k ≤ 6 ∧ i = .int .i64 k ∧ InvX b k v ∧ Hid (chainX l b (6 - k) k v = ans) ∧ WAt wr g v l (.slice a b.length ca) ∧ w4.grownBy wr (some g)) (fun i _ => 6 - (intOf i).toNat)
    case atStart => exact ⟨0, Vw.zero, Nat.zero_le _, rfl, ⟨Nat.zero_le _, fun _ => rfl⟩, HD2, W4, World.grownBy.refl _ _⟩
    case round =>
      clear HD2 W4
      obtain ⟨k, v, hk, rfl, hI, HCH, WV, K⟩ := hrel
      have SDr := SD4.kept K
      by_cases hlt : k < 6
      · have hl6 : (k : Int) < 6 := by omega
        have r1 := (RW.kept HPG.out K) k hlt
        have he := stepN_enters k
        have cS := step_any k g v l a ca b wr hlt WV (HFR.out wr K) hn hI HM.out
        have HN : Hid (∀ u, stepX l b k v = .ok u → InvX b (k + 1) u ∧ chainX l b (6 - (k + 1)) (k + 1) u = ans) := fun u hu => by
          refine ⟨step_inv hlt hI hu, ?_⟩
          have := HCH.out
          rw [show 6 - k = (6 - (k + 1)) + 1 by omega, chain_ok hu] at this
          exact this
        have HB : Hid (∀ er, stepX l b k v = .error er → ans = .error er) := fun er hu => by
          have := HCH.out
          rw [show 6 - k = (6 - (k + 1)) + 1 by omega, chain_err hu] at this
          exact this.symm
        generalize stepN k = fn at *
        rcases except_cases (stepX l b k v) with ⟨er, hx⟩ | ⟨u, hx⟩
        · rw [hx] at cS
          have hans := HB.out er hx
          subst hans
          clear HN HB HCH hx hI WV
          go_wp2_with (go_at_fn fn; refine cS.mono ?_; rintro e w5 ⟨K5, rfl⟩)
          have S5 := SDr.kept K5
          have G5 : w.grownBy w5 none := grown_trans_new G4 (grown_trans K K5) (fun x hx => by have := HG.out; simp at hx; omega)
          refine leaves_cons (f := 58) (args := #[.pointer (some ⟨R, 0, none⟩), .pointer (some ⟨E, 0, none⟩)]) (by simp) (by simp [go_sem]) ?_
          refine (catch_pan R E er 0 (vwA Vw.zero) _ S5.1 rfl S5.2.1 HRE.out.1).mono ?_
          rintro e u' w'' ⟨rfl, rfl, rfl⟩
          obtain ⟨V6, E6, G6⟩ := sides_set S5.1 S5.2.1 HRE.out.1 (vwA Vw.zero) er G5 HRE.out.2.1 HRE.out.2.2.1
          exact ⟨_, ret_row_cell rfl _ _ R E (vwA Vw.zero) _ .i64 er rfl rfl V6 E6 Tryz.underlying81 rfl (HS.out _) Tryz.underlying29, rfl, G6⟩
        · rw [hx] at cS
          obtain ⟨hI2, hC2⟩ := HN.out u hx
          have HI2 : Hid (InvX b (k + 1) u ∧ chainX l b (6 - (k + 1)) (k + 1) u = ans) := ⟨hI2, hC2⟩
          clear HN HB HCH hx hI WV hI2 hC2
          go_wp2_with (go_at_fn fn; refine cS.mono ?_; rintro e w5 ⟨K5, rfl, W5⟩)
          go_roundw
          case rel => exact ⟨k + 1, u, by omega, by go_num, HI2.out.1, HI2.out.2, W5, grown_trans K K5⟩
          case measure => simp [intOf]; omega
      · obtain rfl : k = 6 := by omega
        have hans : ans = .ok v := HCH.out.symm
        subst hans
        have G5 : w.grownBy wr none := grown_trans_new G4 K (fun x hx => by have := HG.out; simp at hx; omega)
        have RV := range_view WV
        have RS := SDr.1
        obtain ⟨V6, E6, G6⟩ := sides_set SDr.1 SDr.2.1 HRE.out.1 (vwA v) 0 G5 HRE.out.2.1 HRE.out.2.2.1
        have E5 := SDr.2.1.grown (w' := wr.setRow R (vwA v)) (vgrown_setRow (World.grownBy.refl wr (some R)) R (vwA v) (.inl rfl)) (by simpa using HRE.out.1)
        have cE : (wr.setRow R (vwA v)).cell? ⟨E, 0, none⟩ = some (.int .i64 0) := E5.cell 0
        have fE := E5.free 0
        rw [show ((6 : Nat) : Int) = 6 from rfl]
        clear HCH E5 hI hlt hk WV K SDr RW HFR
        go_wp2_with (first
          | refine wpList_load_mid rfl 81 (.tmp 42) rfl g 0 rfl (vwA v).toList _ RV Tryz.underlying81 rfl (HS.out _) ?_
          | refine wpList_store_row rfl 81 (.tmp 4) (.tmp 43) rfl R (vwA v) rfl rfl 81 _ RS (HS.out _) rfl (vwA_all _) ?_)
        refine leaves_cons (f := 58) (args := #[.pointer (some ⟨R, 0, none⟩), .pointer (some ⟨E, 0, none⟩)]) (by simp) (by simp [go_sem]) ?_
        refine (catch_idle R E _).mono ?_
        rintro e u' w'' ⟨rfl, rfl, rfl⟩
        exact ⟨_, ret_row_cell rfl _ _ R E (vwA v) _ .i64 0 rfl rfl V6 E6 Tryz.underlying81 rfl (HS.out _) Tryz.underlying29, rfl, G6⟩
  · have hans := HC.out hck
    subst hans
    obtain ⟨er, her⟩ : ∃ er, checkF l = er := ⟨_, rfl⟩
    rw [her] at hck ⊢
    have HER : Hid (checkF l = er) := her
    have hz : (er != 0) = true := by rw [bne_iff_ne]; exact hck
    have K2 : w1.grownBy (w1.setCell ⟨E, 0, none⟩ (.int .i64 er)) (some E) := grown_setCell (World.grownBy.refl _ _) _ _ (.inl rfl)
    have EA2 : VAt (w1.setCell ⟨E, 0, none⟩ (.int .i64 er)) E 29 #[.int .i64 er] := EA1.set 0 _
    have RA2 := RA1.grown K2 (by simpa using HRE.out.1.symm)
    have G2 : w.grownBy (w1.setCell ⟨E, 0, none⟩ (.int .i64 er)) none := grown_setCell G1 _ _ (.inr HRE.out.2.2.1)
    clear HC HD hck her LA1 K2
    go_upto_region 3 with fail
    clear RA1 EA1 G1 cE fE
    generalize w1.setCell ⟨E, 0, none⟩ (.int .i64 er) = w2 at *
    refine wp_region_noPanic ?_
    refine wp_region_held_drew (S := fun W => VAt W R 81 (vwA Vw.zero) ∧ VAt W E 29 #[.int .i64 er] ∧ w.grownBy W none) (by kernel_rfl) ⟨RA2.kept (grown_drewN w2 1 none), EA2.kept (grown_drewN w2 1 none), grown_trans G2 (grown_drewN w2 1 none)⟩ (fun hHeld => ?_)
    refine wpAnyH_take (i := 0) (v := .agg #[.int .u32 0, .bool false, .bool false, .bool false, .int .u32 0, .int .i64 0, .int .i64 0, .int .i64 0, .int .i64 0]) rfl (by kernel_rfl) (by kernel_rfl) (by kernel_rfl) (fun _ _ _ h => h) (Or.inl ⟨by rfl, fun W hW => ?_⟩) hHeld ?_
    · clear hW
      go_simp
    try simp only [Act.put, List.getElem_toArray, List.getElem_cons_zero, List.setIfInBounds_toArray, List.set_cons_zero, List.set_cons_succ]
    refine wpAnyH_take (i := 1) (v := .int .i64 er) rfl (by kernel_rfl) (by kernel_rfl) (by kernel_rfl) (fun _ _ _ h => h) (Or.inl ⟨by rfl, fun W hW => ?_⟩) hHeld ?_
    · have hc : W.cell? ⟨E, 0, none⟩ = some (.int .i64 er) := hW.2.1.cell 0
      clear hW
      go_simp
    try simp only [Act.put, List.getElem_toArray, List.getElem_cons_zero, List.getElem_cons_succ, List.setIfInBounds_toArray, List.set_cons_zero, List.set_cons_succ]
    refine wpAnyH_ready (rs := [2]) (by kernel_rfl) (by simp) (AllReadyH.cons rfl (fun K hK => ?_) AllReadyH.nil)
    rw [if_pos (by rfl)]
    refine wp_store_row 81 (.tmp 4) (.tmp 13) rfl R (vwA Vw.zero) rfl rfl 81 _ hHeld.1 (HS.out _) rfl (vwA_all _) ?_
    refine hK.out _ _ ⟨hHeld.1.setRow _, hHeld.2.1.grown (vgrown_setRow (World.grownBy.refl _ (some R)) R (vwA Vw.zero) (.inl rfl)) (by simpa using HRE.out.1), vgrown_setRow hHeld.2.2 R _ (.inr HRE.out.2.1)⟩ (fun hHeld => ?_)
    clear hK K
    try simp only [Act.put, List.getElem_toArray, List.getElem_cons_zero, List.getElem_cons_succ]
    generalize w2.drew.setRow R (vwA Vw.zero) = w3 at *
    refine wpAnyH_ready (rs := [3]) (by kernel_rfl) (by simp) (AllReadyH.cons rfl (fun K hK => ?_) AllReadyH.nil)
    have cE : w3.cell? ⟨E, 0, none⟩ = some (.int .i64 er) := hHeld.2.1.cell 0
    have fE := hHeld.2.1.free 0
    have H4 : VAt (w3.setCell ⟨E, 0, none⟩ (.int .i64 er)) R 81 (vwA Vw.zero) ∧ VAt (w3.setCell ⟨E, 0, none⟩ (.int .i64 er)) E 29 #[.int .i64 er] ∧ w.grownBy (w3.setCell ⟨E, 0, none⟩ (.int .i64 er)) none :=
      ⟨hHeld.1.grown (grown_setCell (World.grownBy.refl w3 (some E)) ⟨E, 0, none⟩ (.int .i64 er) (.inl rfl)) (by simpa using HRE.out.1.symm), hHeld.2.1.set 0 _, grown_setCell hHeld.2.2 _ _ (.inr HRE.out.2.2.1)⟩
    have HH : Hid _ := H4
    clear H4 hHeld
    go_simp
    refine hK.out _ _ HH.out (fun hHeld => ?_)
    clear hK K
    try simp only [Act.put, List.getElem_toArray, List.getElem_cons_zero, List.getElem_cons_succ, List.setIfInBounds_toArray, List.set_cons_zero, List.set_cons_succ]
    refine wpAnyH_done (by kernel_rfl) ?_ _
    refine NoPanic.normal ?_
    clear hHeld
    go_wp2
    exact ⟨_, ret_row_cell rfl _ _ R E (vwA Vw.zero) _ .i64 er rfl rfl HH.out.1 HH.out.2.1 Tryz.underlying81 rfl (HS.out _) Tryz.underlying29, by rw [HER.out]; rfl, HH.out.2.2⟩

/-- A packet: the way's byte, and the frame behind it, joined. -/
theorem packet_join (x : UInt8) (a : Option Addr) (ca : Nat) (b : List UInt8) (w : World) (t : Nat) (ha : Cells w a b) (hc0 : a = none → ca = 0) (hl : b.length ≤ 65535) :
    Calls Tryz.prog 12 #[.slice (some ⟨w.heap.size + 1, 0, none⟩) 2 2] ((w.alloc (.cells #[.int .u8 (x.toNat : Int)] 5)).alloc (.cells #[.slice (some ⟨w.heap.size, 0, none⟩) 1 1, .slice a b.length ca] t)) fun e w' => ∃ v, e = .returned v ∧ Owns w' w.heap.size v (x :: b) ∧ w.grownBy w' none := by
  have K1 := World.grownBy_alloc w (.cells #[.int .u8 (x.toNat : Int)] 5) none
  have K2 := World.grownBy_alloc (w.alloc (.cells #[.int .u8 (x.toNat : Int)] 5)) (.cells #[.slice (some ⟨w.heap.size, 0, none⟩) 1 1, .slice a b.length ca] t) none
  have C1 := cv_lit (w.alloc (.cells #[.int .u8 (x.toNat : Int)] 5)) t [.slice (some ⟨w.heap.size, 0, none⟩) 1 1, .slice a b.length ca]
  rw [show (w.alloc (.cells #[.int .u8 (x.toNat : Int)] 5)).heap.size = w.heap.size + 1 by simp] at C1
  have O1 : Owns (w.alloc (.cells #[.int .u8 (x.toNat : Int)] 5)) w.heap.size (.slice (some ⟨w.heap.size, 0, none⟩) 1 1) [x] := owns_lit w _ (Nat.le_refl _) [x] (by unfold maxLen; simp)
  obtain ⟨ao, cap, hv, CX, -⟩ := O1.shape
  cases hv
  have key := wjoin_any (some ⟨w.heap.size + 1, 0, none⟩) 2 [⟨some ⟨w.heap.size, 0, none⟩, 1, [x]⟩, ⟨a, ca, b⟩] _ C1 (by
    intro p hp
    simp only [List.mem_cons, List.not_mem_nil, or_false] at hp
    rcases hp with rfl | rfl
    · exact ⟨CX.keptNone K2, fun e => by cases e⟩
    · exact ⟨ha.keptNone (grown_trans K1 K2), hc0⟩) (by simp) (by simp [joinS]; omega)
  refine key.mono ?_
  rintro e w' ⟨v, rfl, O, K⟩
  have e : joinS [⟨some ⟨w.heap.size, 0, none⟩, 1, [x]⟩, ⟨a, ca, b⟩] = x :: b := by simp [joinS]
  rw [e] at O
  exact ⟨v, rfl, owns_mono O (by simp; omega), grown_trans (grown_trans K1 K2) K⟩

end Go.Proofs.YtnojpepjloceoaaGreat

namespace Go.Proofs.YtnojpepjloceoaaGreat
open Go.RowKit
set_option maxRecDepth 100000

theorem VAt.nine {w : World} {g t : Nat} {v : Vw} (h : VAt w g t (vwA v)) : w.cell? ⟨g, 0, none⟩ = some (.int .u32 (v.proto : Int)) ∧ w.cell? ⟨g, 1, none⟩ = some (.bool v.multi) ∧ w.cell? ⟨g, 2, none⟩ = some (.bool v.beg) ∧ w.cell? ⟨g, 3, none⟩ = some (.bool v.fin) ∧ w.cell? ⟨g, 4, none⟩ = some (.int .u32 (v.seq : Int))
    ∧ w.cell? ⟨g, 5, none⟩ = some (.int .i64 (v.pos : Int)) ∧ w.cell? ⟨g, 6, none⟩ = some (.int .i64 (v.net : Int)) ∧ w.cell? ⟨g, 7, none⟩ = some (.int .i64 (v.next : Int)) ∧ w.cell? ⟨g, 8, none⟩ = some (.int .i64 (v.load : Int)) :=
  ⟨h.cell 0, h.cell 1, h.cell 2, h.cell 3, h.cell 4, h.cell 5, h.cell 6, h.cell 7, h.cell 8⟩

/-- A view that a call handed out, laid into a block of its own. -/
theorem view_new (w : World) (v : Vw) : VAt ((w.alloc (.cells (vwA Vw.zero) 81)).setRow w.heap.size (vwA v)) w.heap.size 81 (vwA v) ∧ w.grownBy ((w.alloc (.cells (vwA Vw.zero) 81)).setRow w.heap.size (vwA v)) none ∧ w.heap.size < ((w.alloc (.cells (vwA Vw.zero) 81)).setRow w.heap.size (vwA v)).heap.size :=
  ⟨(VAt.alloc w 81 (vwA Vw.zero)).setRow _, vgrown_setRow (World.grownBy_alloc _ _ none) _ _ (.inr (Nat.le_refl _)), by rw [setRow_size]; simp⟩

theorem a7_ok : lookX ⟨false, false, 0⟩ [255, 3, 192, 33, 1] = .ok ⟨49185, false, false, false, 0, 4, 0, 0, 0⟩ := by rfl
theorem a7_no : lookX ⟨false, false, 0⟩ [192, 33] = .error 73 := by rfl

theorem a7_look1 (a : Option Addr) (ca : Nat) (w : World) (ha : Cells w a [255, 3, 192, 33, 1]) :
    Calls Tryz.prog 51 #[.agg #[.bool false, .bool false, .int .i64 0], .slice a 5 ca] w fun e w' => e = .returned (.tuple #[.agg (vwA ⟨49185, false, false, false, 0, 4, 0, 0, 0⟩), .int .i64 0]) ∧ w.grownBy w' none := by
  have k := look_any ⟨false, false, 0⟩ a ca [255, 3, 192, 33, 1] w ha (by simp)
  rw [a7_ok] at k
  exact k

theorem a7_look2 (a : Option Addr) (ca : Nat) (w : World) (ha : Cells w a [192, 33]) :
    Calls Tryz.prog 51 #[.agg #[.bool false, .bool false, .int .i64 0], .slice a 2 ca] w fun e w' => e = .returned (.tuple #[.agg (vwA Vw.zero), .int .i64 73]) ∧ w.grownBy w' none := by
  have k := look_any ⟨false, false, 0⟩ a ca [192, 33] w ha (by simp)
  rw [a7_no] at k
  exact k

theorem a7_chk (w : World) : Calls Tryz.prog 10 #[.agg #[.bool false, .bool false, .int .i64 3]] w fun e w' => e = .returned (.int .i64 70) ∧ w.grownBy w' none := chk_any ⟨false, false, 3⟩ w

end Go.Proofs.YtnojpepjloceoaaGreat

namespace Go.Proofs.YtnojpepjloceoaaGreat
open Go.RowKit
set_option maxRecDepth 100000

/-- A view stored whole into its block. -/
theorem storeCells_row {w : World} {g t : Nat} {old X : Array Value} (h : VAt w g t old) (hi : (Tryz.prog.info? t).map (·.size) = some X.size) (ho : old.size = X.size) (h1 : X.all (·.oneCell') = true) :
    (storeCells ⟨g, 0, none⟩ X.toList).run Tryz.prog w = .ok () (w.setRow g X) := by
  have := run_storeVar_row (P := Tryz.prog) w g t t old X h hi ho h1
  cases hq : Tryz.prog.info? t with
  | none => simp [hq] at hi
  | some i =>
    have hs : X.size = i.size := by simp [hq] at hi; omega
    simpa [storeVar, sizeOf, typeInfo, hq, Value.cells, hs] using this

theorem ip_err {v : Vw} {b : List UInt8} {e : Int} (h : ipV v b = .error e) : (e != 0) = true := by
  unfold ipV at h
  repeat' split at h
  all_goals cases h
  all_goals rfl
theorem look_err {l : Lk} {b : List UInt8} {e : Int} (h : lookX l b = .error e) : (e != 0) = true := by
  unfold lookX at h
  split at h
  · rename_i hc
    cases h
    rw [bne_iff_ne]
    exact hc
  · cases hp : pieceV l b with
    | error e2 =>
      rw [hp] at h
      cases h
      exact piece_err hp
    | ok v =>
      rw [bind_of hp] at h
      split at h
      · cases h
      · cases hq : (if v.multi = true then (protoV l b v.pos).bind fun q => Except.ok { v with proto := q.1, pos := q.2 } else Except.ok v) with
        | error x =>
          rw [hq] at h
          cases h
          split at hq
          · cases hr : protoV l b v.pos with
            | error y => rw [hr] at hq; cases hq; exact proto_err hr
            | ok q => rw [bind_of hr] at hq; cases hq
          · cases hq
        | ok u =>
          rw [bind_of hq] at h
          split at h
          · exact ip_err h
          · cases h

end Go.Proofs.YtnojpepjloceoaaGreat
