/-
  Package forge as landed: wrong. The landed reader: ip, ip6, Network. The landed reader: its six steps as a row. The document's own Packet.
-/
import Derived.Test.YtnojpepjloceoaaGreatForgeJ
import Derived.Test.YtnojpepjloceoaaGreatLotP7
import Derived.Shelf.Abstract
import Derived.Test.YtnojpepjloceoaaGreatFrameV
import Derived.Test.YtnojpepjloceoaaGreatLotP1
namespace Go.Proofs.YtnojpepjloceoaaGreat
open Go.RowKit
set_option maxRecDepth 100000

def rowA (B C D E : Nat) : Array Value := #[.func (.func 24) #[] #[.pointer (some ⟨C, 0, none⟩), .pointer (some ⟨B, 0, none⟩)], .func (.func 25) #[] #[.pointer (some ⟨C, 0, none⟩), .pointer (some ⟨B, 0, none⟩)], .func (.func 27) #[] #[.pointer (some ⟨C, 0, none⟩)], .func (.func 28) #[] #[.pointer (some ⟨C, 0, none⟩), .pointer (some ⟨B, 0, none⟩)], .func (.func 29) #[] #[.pointer (some ⟨D, 0, none⟩), .pointer (some ⟨C, 0, none⟩)], .func (.func 30) #[] #[.pointer (some ⟨D, 0, none⟩), .pointer (some ⟨C, 0, none⟩)], .func (.func 32) #[] #[.pointer (some ⟨E, 0, none⟩), .pointer (some ⟨C, 0, none⟩)], .func (.func 34) #[] #[.pointer (some ⟨C, 0, none⟩)], .func (.func 35) #[] #[.pointer (some ⟨C, 0, none⟩)], .func (.func 36) #[] #[.pointer (some ⟨C, 0, none⟩)], .func (.func 37) #[] #[.pointer (some ⟨C, 0, none⟩)], .func (.func 38) #[] #[.pointer (some ⟨C, 0, none⟩), .pointer (some ⟨B, 0, none⟩)]]
theorem rowA_at (B C D E q : Nat) (h : q < 12) : (rowA B C D E)[q]? = some (.func (.func (wqN q)) #[] (wqC B C D E q)) := by
  rcases twelve h with rfl | rfl | rfl | rfl | rfl | rfl | rfl | rfl | rfl | rfl | rfl | rfl <;> rfl

set_option maxRecDepth 100000 in
set_option maxHeartbeats 4000000 in
theorem wrong_any (l : Lk) (s : Sp) (a : Option Addr) (ca : Nat) (w : World) (ok : s.ok) : Calls Tryz.prog 11 #[.agg (lkA l), .agg (spA s a ca)] w fun e w' => e = .returned (.bool (wrongB l s)) ∧ w.grownBy w' none := by
  have I := ls_boxes w l s a ca
  have HSS : Hid ((Tryz.prog.info? 28).map (·.size) = some (spA s a ca).size) := spA_size ok a ca
  have HOK : Hid s.ok := ok
  clear ok
  obtain ⟨r, hr⟩ : ∃ r, wrongB l s = r := ⟨_, rfl⟩
  rw [hr]
  have HR : Hid (wrongB l s = r) := hr
  clear hr
  go_enter Tryz.func11, Tryz.ntmps11
  go_upto_region 1 with fail
  generalize (w.alloc (.cells (lkA l) 23)).alloc (.cells (spA s a ca) 28) = w1 at *
  obtain ⟨B, hB⟩ : ∃ B, w.heap.size = B := ⟨_, rfl⟩
  obtain ⟨C, hC⟩ : ∃ C, w.heap.size + 1 = C := ⟨_, rfl⟩
  rw [hC, hB] at I ⊢
  clear hB hC
  have SK := I.2.1
  go_wp2_with (refine wpList_load_row rfl 28 (.tmp 3) rfl C rfl 28 (spA s a ca) (0, 0) _ SK Tryz.underlying28 rfl HSS.out ?_)
  refine (fsays_any s a ca _ HOK.out).mono ?_
  rintro e w2 ⟨rfl, K2⟩
  have I2 := ls_call K2 I
  clear I SK K2
  go_upto_region 2 with fail
  have D3 := VAt.alloc w2 4 #[.bool (saidB s)]
  have I3 := ls_call (World.grownBy_alloc w2 (.cells #[.bool (saidB s)] 4) none) I2
  generalize w2.alloc (.cells #[.bool (saidB s)] 4) = w3 at *
  generalize w2.heap.size = D at *
  clear I2
  have c5 : w3.cell? ⟨D, 0, none⟩ = some (.bool (saidB s)) := D3.cell 0
  have c6 := (show SAt w3 C s a ca from ⟨I3.2.1, HOK.out⟩).eight.2.2.2.2.2.2.1
  have key : ∀ x : Bool, x = ipB s → QI B C D w3.heap.size l s a ca (w3.alloc (.cells #[.bool x] 4)) ∧ w.grownBy (w3.alloc (.cells #[.bool x] 4)) none := fun x hx => by
    have K := World.grownBy_alloc w3 (.cells #[.bool x] 4) none
    subst hx
    exact ⟨⟨I3.1.kept K, ⟨I3.2.1.kept K, HOK.out⟩, K.cell c5 (by simp), (VAt.alloc w3 4 #[.bool (ipB s)]).cell 0⟩, grown_trans I3.2.2 K⟩
  have KEY : Hid _ := key
  clear key I3 D3
  go_cut [6, 10] from 11 to 21 (fun v _ wx => ∃ E : Nat, v = .pointer (some ⟨E, 0, none⟩) ∧ Hid (QI B C D E l s a ca wx ∧ w.grownBy wx none))
  case first =>
    cases hs : saidB s with
    | false =>
      rw [hs] at c5
      have HK : Hid _ := KEY.out false (by simp [ipB, hs])
      clear KEY
      go_wp2
      go_meet
      exact ⟨_, rfl, HK.out⟩
    | true =>
      rw [hs] at c5
      cases h33 : ((s.proto : Int) == 33) with
      | true =>
        have HK : Hid _ := KEY.out true (by simp [ipB, hs, natbeq, h33])
        clear KEY
        go_wp2
        go_meet
        exact ⟨_, rfl, HK.out⟩
      | false =>
        cases h87 : ((s.proto : Int) == 87) with
        | true =>
          have HK : Hid _ := KEY.out true (by simp [ipB, hs, natbeq, h33, h87])
          clear KEY
          go_wp2
          go_meet
          exact ⟨_, rfl, HK.out⟩
        | false =>
          have HK : Hid _ := KEY.out false (by simp [ipB, hs, natbeq, h33, h87])
          clear KEY
          go_wp2
          go_meet
          exact ⟨_, rfl, HK.out⟩
  case rest =>
  obtain ⟨E, rfl, HQ⟩ := hcut
  clear KEY c5 c6
  have hmf : ∀ (fn : Fn) (first cap : Array Value) (w : World), (Instr.makeFunc fn first cap).run Tryz.prog w = .ok (.func fn first cap) w := fun _ _ _ _ => rfl
  go_upto_region 4 with fail
  have FA := VAt.alloc wc 32 (rowA B C D E)
  have K4 := World.grownBy_alloc wc (.cells (rowA B C D E) 32) none
  have RW : Hid (RowQ (wc.alloc (.cells (rowA B C D E) 32)) wc.heap.size B C D E) := fun q hq => by
    rw [FA.cell q]
    exact rowA_at B C D E q hq
  have HQ4 : Hid (QI B C D E l s a ca (wc.alloc (.cells (rowA B C D E) 32)) ∧ w.grownBy (wc.alloc (.cells (rowA B C D E) 32)) none) := ⟨HQ.out.1.kept K4, grown_trans HQ.out.2 K4⟩
  rw [show wc.alloc (.cells #[.func (.func 24) #[] #[.pointer (some ⟨C, 0, none⟩), .pointer (some ⟨B, 0, none⟩)], .func (.func 25) #[] #[.pointer (some ⟨C, 0, none⟩), .pointer (some ⟨B, 0, none⟩)], .func (.func 27) #[] #[.pointer (some ⟨C, 0, none⟩)], .func (.func 28) #[] #[.pointer (some ⟨C, 0, none⟩), .pointer (some ⟨B, 0, none⟩)], .func (.func 29) #[] #[.pointer (some ⟨D, 0, none⟩), .pointer (some ⟨C, 0, none⟩)], .func (.func 30) #[] #[.pointer (some ⟨D, 0, none⟩), .pointer (some ⟨C, 0, none⟩)], .func (.func 32) #[] #[.pointer (some ⟨E, 0, none⟩), .pointer (some ⟨C, 0, none⟩)], .func (.func 34) #[] #[.pointer (some ⟨C, 0, none⟩)], .func (.func 35) #[] #[.pointer (some ⟨C, 0, none⟩)], .func (.func 36) #[] #[.pointer (some ⟨C, 0, none⟩)], .func (.func 37) #[] #[.pointer (some ⟨C, 0, none⟩)], .func (.func 38) #[] #[.pointer (some ⟨C, 0, none⟩), .pointer (some ⟨B, 0, none⟩)]] 32) = wc.alloc (.cells (rowA B C D E) 32) from rfl]
  clear FA K4 HQ
  generalize wc.alloc (.cells (rowA B C D E) 32) = w4 at *
  generalize wc.heap.size = P at *
  clear wc
  go_loopw [36] (fun i wr => ∃ k : Nat, k ≤ 12 ∧ i = .int .i64 k ∧ Hid (∀ q, q < k → wqB l s q = false) ∧ w4.grownBy wr none) (fun i _ => 12 - (intOf i).toNat)
  case atStart => exact ⟨0, Nat.zero_le _, rfl, fun q hq => absurd hq (by omega), World.grownBy.refl _ _⟩
  case round =>
    obtain ⟨k, hk, rfl, HN, K⟩ := hrel
    by_cases hlt : k < 12
    · have hl6 : (k : Int) < 12 := by omega
      have r1 := (RW.out.kept K) k hlt
      have he := wqN_enters k
      have cS := wq_any k hlt B C D E l s a ca wr (HQ4.out.1.kept K)
      have HH : Hid ((wqB l s k = true → wrongB l s = true) ∧ (wqB l s k = false → ∀ q, q < k + 1 → wqB l s q = false)) := ⟨fun h => wrong_hit hlt h, fun h q hq => by
        by_cases e : q = k
        · rw [e]; exact h
        · exact HN.out q (by omega)⟩
      generalize wqN k = fn at *
      generalize wqC B C D E k = lb at *
      generalize wqB l s k = yes at *
      cases hy : yes with
      | true =>
        subst hy
        have HT : Hid (r = true) := by show r = true; rw [← HR.out]; exact HH.out.1 rfl
        go_wp2_with (go_at_fn fn; refine cS.mono ?_; rintro e w5 ⟨rfl, K5⟩)
        go_ret
        exact ⟨ret_bool HT.out.symm, grown_trans HQ4.out.2 (grown_trans K K5)⟩
      | false =>
        subst hy
        have HH2 : Hid (∀ q, q < k + 1 → wqB l s q = false) := HH.out.2 rfl
        go_wp2_with (go_at_fn fn; refine cS.mono ?_; rintro e w5 ⟨rfl, K5⟩)
        go_roundw
        case rel => exact ⟨k + 1, by omega, by go_num, HH2, grown_trans K K5⟩
        case measure => simp [intOf]; omega
    · obtain rfl : k = 12 := by omega
      have HF : Hid (r = false) := by show r = false; rw [← HR.out]; exact wrong_none HN.out
      rw [show ((12 : Nat) : Int) = 12 from rfl]
      go_wp2
      go_ret
      exact ⟨ret_bool HF.out.symm, grown_trans HQ4.out.2 K⟩

end Go.Proofs.YtnojpepjloceoaaGreat

namespace Go.Proofs.YtnojpepjloceoaaGreat
open Go.RowKit
set_option maxRecDepth 100000

theorem read_ok' (g : Nat) (v : Vw) (l : Lk) (a : Option Addr) (ca : Nat) (b : List UInt8) (k s : Nat) (w : World) (h : WAt w g v l (.slice a b.length ca)) (ha : FrA w g a b) (hn : b.length ≤ 140737488355328) (hs : s = 1 ∨ s = 2 ∨ s = 4) (hk : v.pos + k + s ≤ b.length) :
    Calls Tryz.prog 130 #[.pointer (some ⟨g, 0, none⟩), .int .i64 (k : Int), .int .i64 (s : Int)] w fun e w' => e = .returned (.int .u32 (numAt b (v.pos + k) s : Int)) ∧ WAt w' g v l (.slice a b.length ca) ∧ w.grownBy w' none := by
  refine (read_ok g v l a ca b k s w h ha.1 hn hs hk).mono ?_
  rintro e w' ⟨rfl, n, rfl⟩
  exact ⟨rfl, h.kept (grown_drewN _ n none), grown_drewN _ n none⟩

theorem WAt.setNet {w : World} {g : Nat} {v : Vw} {l : Lk} {s : Value} (h : WAt w g v l s) (n x : Nat) : WAt ((w.setCell ⟨g, 6, none⟩ (.int .i64 (n : Int))).setCell ⟨g, 7, none⟩ (.int .i64 (x : Int))) g { v with net := n, next := x } l s := VAt.set (VAt.set h 6 _) 7 _
theorem WAt.setLoad {w : World} {g : Nat} {v : Vw} {l : Lk} {s : Value} (h : WAt w g v l s) (n : Nat) : WAt (w.setCell ⟨g, 8, none⟩ (.int .i64 (n : Int))) g { v with load := n } l s := VAt.set h 8 _

theorem off_zero (x y : Nat) (hx : x < 256) (hy : y < 256) : (bits BinOp.and IntKind.u32 ((x * 256 + y : Nat) : Int) 8191 == 0) = decide (x % 32 = 0 ∧ y = 0) := by
  have e : bits BinOp.and IntKind.u32 ((x * 256 + y : Nat) : Int) 8191 = (((x * 256 + y) % 8192 : Nat) : Int) := mod_and (x * 256 + y) 13 (by omega) (by decide)
  rw [e]
  by_cases h : x % 32 = 0 ∧ y = 0
  · rw [decide_eq_true h, beq_iff_eq]; omega
  · rw [decide_eq_false h, beq_eq_false_iff_ne]; omega

set_option maxHeartbeats 2000000 in
theorem ip_any (g : Nat) (v : Vw) (l : Lk) (a : Option Addr) (ca : Nat) (b : List UInt8) (w : World) (h : WAt w g v l (.slice a b.length ca)) (ha : FrA w g a b) (hn : b.length ≤ 140737488355328) (hv : v.pos ≤ b.length) (h87 : v.proto ≠ 87) :
    Calls Tryz.prog 105 #[.pointer (some ⟨g, 0, none⟩)] w fun e w' => StepP w g l (.slice a b.length ca) (ipV v b) e w' := by
  have hI : ipV v b = (if b.length < v.pos + 20 then .error 72 else if bg b v.pos / 16 ≠ 4 then .error 76
     else if 4 * (bg b v.pos % 16) < 20 then .error 76 else if b.length < v.pos + 4 * (bg b v.pos % 16) then .error 72
     else .ok { v with net := 4, next := bg b (v.pos + 9), load := if bg b (v.pos + 6) % 32 = 0 ∧ bg b (v.pos + 7) = 0 then v.pos + 4 * (bg b v.pos % 16) else v.load }) := by rw [ipV, if_neg h87]
  rw [hI]
  clear hI h87
  have HW : Hid (WAt w g v l (.slice a b.length ca)) := h
  have HA : Hid (FrA w g a b) := ha
  by_cases h20 : b.length < v.pos + 20
  · rw [if_pos h20]
    have CN := need_no g v l a ca b.length 20 w h hn hv (by omega)
    clear h ha h20 HW HA
    go_enter Tryz.func105, Tryz.ntmps105
    go_wp2_with fail
    refine CN.mono ?_
    rintro e w1 ⟨rfl, n, rfl⟩
    clear CN
    go_wp2
    exact ⟨rfl, grown_drewN _ _ _, rfl⟩
  · rw [if_neg h20]
    have CN := need_ok g v l a ca b.length 20 w h hn (by omega)
    have HH : Hid (∀ W, w.grownBy W none → Calls Tryz.prog 132 #[.pointer (some ⟨g, 0, none⟩)] W fun e w' => e = .returned (.tuple #[.int .i64 ((bg b v.pos / 16 : Nat) : Int), .int .i64 ((bg b v.pos % 16 : Nat) : Int)]) ∧ W.grownBy w' none) := fun W G => by
      refine (halves_ok g v l a ca b W (HW.out.kept G) (HA.out.1.keptNone G) hn (by omega)).mono ?_
      rintro e w' ⟨rfl, n, rfl⟩
      exact ⟨rfl, grown_drewN _ _ _⟩
    have HN : Hid (∀ W, w.grownBy W none → v.pos + 4 * (bg b v.pos % 16) ≤ b.length → Calls Tryz.prog 131 #[.pointer (some ⟨g, 0, none⟩), .int .i64 ((4 * (bg b v.pos % 16) : Nat) : Int)] W fun e w' => e = .returned (.tuple #[]) ∧ W.grownBy w' none) := fun W G hk => by
      refine (need_ok g v l a ca b.length _ W (HW.out.kept G) hn hk).mono ?_
      rintro e w' ⟨rfl, n, rfl⟩
      exact ⟨rfl, grown_drewN _ _ _⟩
    have HM : Hid (∀ W, w.grownBy W none → ¬ v.pos + 4 * (bg b v.pos % 16) ≤ b.length → Calls Tryz.prog 131 #[.pointer (some ⟨g, 0, none⟩), .int .i64 ((4 * (bg b v.pos % 16) : Nat) : Int)] W fun e w' => e = .panicked (PanE 72) ∧ W.grownBy w' none) := fun W G hk => by
      refine (need_no g v l a ca b.length _ W (HW.out.kept G) hn hv hk).mono ?_
      rintro e w' ⟨rfl, n, rfl⟩
      exact ⟨rfl, grown_drewN _ _ _⟩
    have HR9 : Hid (∀ W, w.grownBy W none → Calls Tryz.prog 130 #[.pointer (some ⟨g, 0, none⟩), .int .i64 9, .int .i64 1] W fun e w' => e = .returned (.int .u32 (bg b (v.pos + 9) : Int)) ∧ WAt w' g v l (.slice a b.length ca) ∧ W.grownBy w' none) := fun W G => by
      have := read_ok' g v l a ca b 9 1 W (HW.out.kept G) (HA.out.kept (grown_mono G)) hn (.inl rfl) (by omega)
      rw [numAt_one] at this
      exact this
    have HR6 : Hid (∀ W u, w.grownBy W (some g) → WAt W g u l (.slice a b.length ca) → u.pos = v.pos → Calls Tryz.prog 130 #[.pointer (some ⟨g, 0, none⟩), .int .i64 6, .int .i64 2] W fun e w' => e = .returned (.int .u32 ((bg b (v.pos + 6) * 256 + bg b (v.pos + 7) : Nat) : Int)) ∧ WAt w' g u l (.slice a b.length ca) ∧ W.grownBy w' none) := fun W u G U hu => by
      have := read_ok' g u l a ca b 6 2 W U (HA.out.kept G) hn (.inr (.inl rfl)) (by omega)
      rw [numAt_two, hu] at this
      exact this
    have HO : Hid ((bits BinOp.and IntKind.u32 ((bg b (v.pos + 6) * 256 + bg b (v.pos + 7) : Nat) : Int) 8191 == 0) = decide (bg b (v.pos + 6) % 32 = 0 ∧ bg b (v.pos + 7) = 0)) := off_zero _ _ (bg_lt _ _) (bg_lt _ _)
    have hx := bg_lt b v.pos
    have h9 := bg_lt b (v.pos + 9)
    have hx6 := bg_lt b (v.pos + 6)
    have hx7 := bg_lt b (v.pos + 7)
    obtain ⟨X, hX⟩ : ∃ X : Except Int Vw, (if bg b v.pos / 16 ≠ 4 then .error 76
     else if 4 * (bg b v.pos % 16) < 20 then .error 76 else if b.length < v.pos + 4 * (bg b v.pos % 16) then .error 72
     else .ok { v with net := 4, next := bg b (v.pos + 9), load := if bg b (v.pos + 6) % 32 = 0 ∧ bg b (v.pos + 7) = 0 then v.pos + 4 * (bg b v.pos % 16) else v.load }) = X := ⟨_, rfl⟩
    rw [hX]
    have HX : Hid ((if bg b v.pos / 16 ≠ 4 then .error 76
     else if 4 * (bg b v.pos % 16) < 20 then .error 76 else if b.length < v.pos + 4 * (bg b v.pos % 16) then .error 72
     else .ok { v with net := 4, next := bg b (v.pos + 9), load := if bg b (v.pos + 6) % 32 = 0 ∧ bg b (v.pos + 7) = 0 then v.pos + 4 * (bg b v.pos % 16) else v.load } : Except Int Vw) = X) := hX
    have H20 : Hid (¬ b.length < v.pos + 20) := h20
    have HHX : Hid (bg b v.pos / 16 < 16 ∧ bg b v.pos % 16 < 16) := ⟨by omega, by omega⟩
    clear h ha hX hx h20
    generalize bg b v.pos / 16 = hi at *
    generalize bg b v.pos % 16 = lo at *
    generalize bg b (v.pos + 9) = x9 at *
    generalize bg b (v.pos + 6) = x6 at *
    generalize bg b (v.pos + 7) = x7 at *
    generalize x6 * 256 + x7 = ow at *
    go_enter Tryz.func105, Tryz.ntmps105
    go_wp2_with fail
    refine CN.mono ?_
    rintro e w1 ⟨rfl, n, rfl⟩
    have G1 : w.grownBy (w.drewN n) none := grown_drewN _ _ _
    clear CN
    generalize w.drewN n = w1 at *
    go_wp2_with fail
    refine (HH.out w1 G1).mono ?_
    rintro e w2 ⟨rfl, K2⟩
    have G2 := grown_trans G1 K2
    clear HH G1 K2
    have hhx := HHX.out
    by_cases h4 : hi = 4
    · have d4 : ((hi : Int) != 4) = false := by rw [bne_eq_false_iff_eq]; omega
      by_cases hlo : 4 * lo < 20
      · have dl : 4 * (lo : Int) < 20 := by omega
        have HX2 := HX.out
        rw [if_neg (fun e => e h4), if_pos hlo] at HX2
        subst HX2
        clear HX HN HM HR9 HR6 HO HW HA
        go_wp2
        exact ⟨rfl, grown_mono G2, rfl⟩
      · have dl : ¬ 4 * (lo : Int) < 20 := by omega
        have HX2 := HX.out
        rw [if_neg (fun e => e h4), if_neg hlo] at HX2
        clear HX
        have d4l : IntKind.i64.wrap (4 * (lo : Int)) = ((4 * lo : Nat) : Int) := by rw [IntKind.wrap_i64]; omega
        by_cases hln : b.length < v.pos + 4 * lo
        · rw [if_pos hln] at HX2
          subst HX2
          have CM := HM.out w2 G2 (by omega)
          clear HN HM HR9 HR6 HO HW HA
          go_wp2_with fail
          refine CM.mono ?_
          rintro e w3 ⟨rfl, K3⟩
          clear CM
          go_wp2
          exact ⟨rfl, grown_mono (grown_trans G2 K3), rfl⟩
        · rw [if_neg hln] at HX2
          have CM := HN.out w2 G2 (by omega)
          clear HN HM
          go_wp2_with fail
          refine CM.mono ?_
          rintro e w3 ⟨rfl, K3⟩
          have G3 := grown_trans G2 K3
          clear CM G2 K3
          go_wp2_with fail
          refine (HR9.out w3 G3).mono ?_
          rintro e w4 ⟨rfl, W4, K4⟩
          have G4 := grown_trans G3 K4
          clear HR9 G3 K4
          have m6 : w4.cell? ⟨g, 6, none⟩ = some (.int .i64 (v.net : Int)) := W4.c 6
          have m7 : w4.cell? ⟨g, 7, none⟩ = some (.int .i64 (v.next : Int)) := W4.c 7
          have f6 := VAt.free W4 6
          have f7 := VAt.free W4 7
          have W5 := W4.setNet 4 x9
          have G5 : w.grownBy ((w4.setCell ⟨g, 6, none⟩ (.int .i64 ((4 : Nat) : Int))).setCell ⟨g, 7, none⟩ (.int .i64 (x9 : Int))) (some g) := grown_setCell (grown_setCell (grown_mono G4) _ _ (.inl rfl)) _ _ (.inl rfl)
          have h9w : IntKind.i64.wrap (x9 : Int) = (x9 : Int) := by rw [IntKind.wrap_i64]; omega
          clear W4 G4
          go_upto_region 6 with fail
          rw [show ((4 : Nat) : Int) = 4 from rfl] at W5 G5
          generalize (w4.setCell ⟨g, 6, none⟩ (.int .i64 4)).setCell ⟨g, 7, none⟩ (.int .i64 (x9 : Int)) = w5 at *
          clear m6 m7 f6 f7 w4
          have CR := HR6.out w5 _ G5 W5 rfl
          clear HR6 W5
          go_wp2_with fail
          refine CR.mono ?_
          rintro e w6 ⟨rfl, W6, K6⟩
          have G6 := grown_trans G5 (grown_mono (row := some g) K6)
          clear CR G5 K6
          have m8 : w6.cell? ⟨g, 8, none⟩ = some (.int .i64 (v.load : Int)) := W6.c 8
          have m5 : w6.cell? ⟨g, 5, none⟩ = some (.int .i64 (v.pos : Int)) := W6.c 5
          have f8 := VAt.free W6 8
          have HP : Hid (v.pos ≤ 140737488355328) := Nat.le_trans hv hn
          by_cases hof : x6 % 32 = 0 ∧ x7 = 0
          · have HO2 := HO.out
            rw [decide_eq_true hof] at HO2
            rw [if_pos hof] at HX2
            subst HX2
            have hpp : (v.pos : Int) ≤ 140737488355328 := by have := HP.out; omega
            have W7 := W6.setLoad (v.pos + 4 * lo)
            have hpl : IntKind.i64.wrap ((v.pos : Int) + ((4 * lo : Nat) : Int)) = ((v.pos + 4 * lo : Nat) : Int) := by rw [IntKind.wrap_i64]; omega
            have G7 : w.grownBy (w6.setCell ⟨g, 8, none⟩ (.int .i64 ((v.pos + 4 * lo : Nat) : Int))) (some g) := grown_setCell G6 _ _ (.inl rfl)
            have HE : Hid (StepP w g l (.slice a b.length ca) (.ok { v with net := 4, next := x9, load := v.pos + 4 * lo }) (.returned (.tuple #[])) (w6.setCell ⟨g, 8, none⟩ (.int .i64 ((v.pos + 4 * lo : Nat) : Int)))) := ⟨G7, rfl, W7⟩
            clear W6 W7 G6 G7 HO hof HP
            go_wp2
            go_end0
            exact HE.out
          · have HO2 := HO.out
            rw [decide_eq_false hof] at HO2
            rw [if_neg hof] at HX2
            subst HX2
            have HE : Hid (StepP w g l (.slice a b.length ca) (.ok { v with net := 4, next := x9, load := v.load }) (.returned (.tuple #[])) w6) := ⟨G6, rfl, W6⟩
            clear W6 G6 HO hof HP
            go_wp2
            go_end0
            exact HE.out
    · have d4 : ((hi : Int) != 4) = true := by rw [bne_iff_ne]; omega
      have HX2 := HX.out
      rw [if_pos h4] at HX2
      subst HX2
      clear HX HN HM HR9 HR6 HO HW HA
      go_wp2
      exact ⟨rfl, grown_mono G2, rfl⟩

theorem grown_set3 {w W : World} {g i j k : Nat} {u v x : Value} (K : w.grownBy W (some g)) : w.grownBy (((W.setCell ⟨g, i, none⟩ u).setCell ⟨g, j, none⟩ v).setCell ⟨g, k, none⟩ x) (some g) :=
  grown_setCell (grown_setCell (grown_setCell K _ _ (.inl rfl)) _ _ (.inl rfl)) _ _ (.inl rfl)
theorem ip6_drew {w W : World} {g : Nat} {p : Int} {n : Nat} (h : W.cell? ⟨g, 5, none⟩ = some (.int .i64 p) ∧ w.grownBy W (some g)) : (W.drewN n).cell? ⟨g, 5, none⟩ = some (.int .i64 p) ∧ w.grownBy (W.drewN n) (some g) := ⟨(grown_drewN W n none).cell h.1 (by simp), grown_trans h.2 (grown_drewN W n (some g))⟩
theorem ip6_call {w W : World} {g : Nat} {p : Int} (h : W.cell? ⟨g, 5, none⟩ = some (.int .i64 p)) (K : w.grownBy W none) : W.cell? ⟨g, 5, none⟩ = some (.int .i64 p) ∧ w.grownBy W (some g) := ⟨h, grown_mono K⟩
theorem ip6_store {w W : World} {g : Nat} {p : Int} (h : W.cell? ⟨g, 5, none⟩ = some (.int .i64 p) ∧ w.grownBy W (some g)) (i : Nat) (hi : i ≠ 5) (u : Value) : (W.setCell ⟨g, i, none⟩ u).cell? ⟨g, 5, none⟩ = some (.int .i64 p) ∧ w.grownBy (W.setCell ⟨g, i, none⟩ u) (some g) :=
  ⟨(World.cell?_setCell_other W _ _ u (fun e => hi (congrArg Addr.off e))).trans h.1, grown_setCell h.2 _ _ (.inl rfl)⟩

set_option maxHeartbeats 2000000 in
theorem ip6_any (g : Nat) (v : Vw) (l : Lk) (a : Option Addr) (ca : Nat) (b : List UInt8) (w : World) (h : WAt w g v l (.slice a b.length ca)) (ha : FrA w g a b) (hn : b.length ≤ 140737488355328) (hv : v.pos ≤ b.length) (h87 : v.proto = 87) :
    Calls Tryz.prog 106 #[.pointer (some ⟨g, 0, none⟩)] w fun e w' => StepP w g l (.slice a b.length ca) (ipV v b) e w' := by
  have hI : ipV v b = (if b.length < v.pos + 40 then .error 72 else if bg b v.pos / 16 ≠ 6 then .error 76 else .ok { v with net := 6, next := bg b (v.pos + 6), load := v.pos + 40 }) := by rw [ipV, if_pos h87]
  rw [hI]
  clear hI h87
  have HW : Hid (WAt w g v l (.slice a b.length ca)) := h
  have HA : Hid (FrA w g a b) := ha
  by_cases h20 : b.length < v.pos + 40
  · rw [if_pos h20]
    have CN := need_no g v l a ca b.length 40 w h hn hv (by omega)
    clear h ha h20 HW HA
    go_enter Tryz.func106, Tryz.ntmps106
    go_wp2_with fail
    refine CN.mono ?_
    rintro e w1 ⟨rfl, n, rfl⟩
    clear CN
    go_wp2
    exact ⟨rfl, grown_drewN _ _ _, rfl⟩
  · rw [if_neg h20]
    have CN := need_ok g v l a ca b.length 40 w h hn (by omega)
    have HH : Hid (∀ W, w.grownBy W none → Calls Tryz.prog 132 #[.pointer (some ⟨g, 0, none⟩)] W fun e w' => e = .returned (.tuple #[.int .i64 ((bg b v.pos / 16 : Nat) : Int), .int .i64 ((bg b v.pos % 16 : Nat) : Int)]) ∧ W.grownBy w' none) := fun W G => by
      refine (halves_ok g v l a ca b W (HW.out.kept G) (HA.out.1.keptNone G) hn (by omega)).mono ?_
      rintro e w' ⟨rfl, n, rfl⟩
      exact ⟨rfl, grown_drewN _ _ _⟩
    have HR6 : Hid (∀ W, w.grownBy W none → Calls Tryz.prog 130 #[.pointer (some ⟨g, 0, none⟩), .int .i64 6, .int .i64 1] W fun e w' => e = .returned (.int .u32 (bg b (v.pos + 6) : Int)) ∧ WAt w' g v l (.slice a b.length ca) ∧ W.grownBy w' none) := fun W G => by
      have := read_ok' g v l a ca b 6 1 W (HW.out.kept G) (HA.out.kept (grown_mono G)) hn (.inl rfl) (by omega)
      rw [numAt_one] at this
      exact this
    have h9 := bg_lt b (v.pos + 6)
    obtain ⟨X, hX⟩ : ∃ X : Except Int Vw, (if bg b v.pos / 16 ≠ 6 then .error 76 else .ok { v with net := 6, next := bg b (v.pos + 6), load := v.pos + 40 }) = X := ⟨_, rfl⟩
    rw [hX]
    have HX : Hid ((if bg b v.pos / 16 ≠ 6 then .error 76 else .ok { v with net := 6, next := bg b (v.pos + 6), load := v.pos + 40 } : Except Int Vw) = X) := hX
    have hpp : (v.pos : Int) ≤ 140737488355328 := by omega
    have HP : Hid ((v.pos : Int) ≤ 140737488355328) := hpp
    clear h ha hX h20 hpp
    generalize bg b v.pos / 16 = hi at *
    generalize bg b v.pos % 16 = lo at *
    generalize bg b (v.pos + 6) = x9 at *
    go_enter Tryz.func106, Tryz.ntmps106
    go_wp2_with fail
    refine CN.mono ?_
    rintro e w1 ⟨rfl, n, rfl⟩
    have G1 : w.grownBy (w.drewN n) none := grown_drewN _ _ _
    clear CN
    generalize w.drewN n = w1 at *
    go_wp2_with fail
    refine (HH.out w1 G1).mono ?_
    rintro e w2 ⟨rfl, K2⟩
    have G2 := grown_trans G1 K2
    clear HH G1 K2
    by_cases h4 : hi = 6
    · have d4 : ((hi : Int) != 6) = false := by rw [bne_eq_false_iff_eq]; omega
      have HX2 := HX.out
      rw [if_neg (fun e => e h4)] at HX2
      subst HX2
      clear HX h4
      have W2 := HW.out.kept G2
      have m5 : w2.cell? ⟨g, 5, none⟩ = some (.int .i64 (v.pos : Int)) := W2.c 5
      have HR : Hid (∀ n, Calls Tryz.prog 130 #[.pointer (some ⟨g, 0, none⟩), .int .i64 6, .int .i64 1] (w2.drewN n) fun e w' => e = .returned (.int .u32 (x9 : Int)) ∧ WAt w' g v l (.slice a b.length ca) ∧ w.grownBy w' none) := fun n => by
        refine (HR6.out _ (grown_trans G2 (grown_drewN _ n none))).mono ?_
        rintro e w' ⟨rfl, U, K⟩
        exact ⟨rfl, U, grown_trans G2 (grown_trans (grown_drewN _ n none) K)⟩
      have h9w : IntKind.i64.wrap (x9 : Int) = (x9 : Int) := by rw [IntKind.wrap_i64]; omega
      have hpl : IntKind.i64.wrap ((v.pos : Int) + 40) = ((v.pos + 40 : Nat) : Int) := by have := HP.out; rw [IntKind.wrap_i64]; omega
      clear HR6 W2
      go_upto_region 4 with fail
      have hpp := HP.out
      have S0 : w2.cell? ⟨g, 5, none⟩ = some (.int .i64 (v.pos : Int)) ∧ w.grownBy w2 (some g) := ⟨m5, grown_mono G2⟩
      clear m5
      go_region_held3 (fun W => W.cell? ⟨g, 5, none⟩ = some (.int .i64 (v.pos : Int)) ∧ w.grownBy W (some g)) (first | exact ip6_drew S0 | exact ip6_call z5 K3 | exact ip6_store (by assumption) _ (by decide) _) (first
        | (go_at_call 130; refine (HR.out _).mono ?_; rintro e w3 ⟨rfl, W3, K3⟩; have z5 : w3.cell? ⟨g, 5, none⟩ = some (.int .i64 (v.pos : Int)) := W3.c 5; have z6 : w3.cell? ⟨g, 6, none⟩ = some (.int .i64 (v.net : Int)) := W3.c 6; have z7 : w3.cell? ⟨g, 7, none⟩ = some (.int .i64 (v.next : Int)) := W3.c 7; have z8 : w3.cell? ⟨g, 8, none⟩ = some (.int .i64 (v.load : Int)) := W3.c 8; have f6 := VAt.free W3 6; have f7 := VAt.free W3 7; have f8 := VAt.free W3 8))
      all_goals
        have W4 := W3.setNet 6 x9
        have W5 := W4.setLoad (v.pos + 40)
        have G5 : w.grownBy (((w3.setCell ⟨g, 6, none⟩ (.int .i64 ((6 : Nat) : Int))).setCell ⟨g, 7, none⟩ (.int .i64 (x9 : Int))).setCell ⟨g, 8, none⟩ (.int .i64 ((v.pos + 40 : Nat) : Int))) (some g) := grown_set3 (grown_mono K3)
        have HE : Hid _ := W5
        have HG : Hid _ := G5
        clear W4 W5 G5
        clear W3 K3 HR
        go_wp2
        go_end0
        exact ⟨HG.out, rfl, HE.out⟩
    · have d4 : ((hi : Int) != 6) = true := by rw [bne_iff_ne]; omega
      have HX2 := HX.out
      rw [if_pos h4] at HX2
      subst HX2
      clear HX HR6 HW HA
      go_wp2
      exact ⟨rfl, grown_mono G2, rfl⟩

set_option maxHeartbeats 1000000 in
theorem network_any (g : Nat) (v : Vw) (l : Lk) (a : Option Addr) (ca : Nat) (b : List UInt8) (w : World) (h : WAt w g v l (.slice a b.length ca)) (ha : FrA w g a b) (hn : b.length ≤ 140737488355328) (hv : v.pos ≤ b.length) :
    Calls Tryz.prog 65 #[.pointer (some ⟨g, 0, none⟩)] w fun e w' => StepP w g l (.slice a b.length ca) (netS b v) e w' := by
  have c0 : w.cell? ⟨g, 0, none⟩ = some (.int .u32 (v.proto : Int)) := h.c 0
  have HW : Hid (WAt w g v l (.slice a b.length ca)) := h
  by_cases h33 : v.proto = 33
  · have e : netS b v = ipV v b := by rw [netS, if_pos (.inl h33)]
    rw [e]
    have CI := ip_any g v l a ca b w h ha hn hv (by omega)
    have d : ((v.proto : Int) == 33) = true := by rw [beq_iff_eq]; omega
    obtain ⟨x, hx⟩ : ∃ x, ipV v b = x := ⟨_, rfl⟩
    rw [hx] at CI ⊢
    clear h ha e h33 hx
    cases x with
    | ok u =>
      go_enter Tryz.func65, Tryz.ntmps65
      go_wp2_with fail
      refine CI.mono ?_
      rintro e w1 ⟨K, rfl, W1⟩
      clear CI
      go_wp2
      go_end0
      exact ⟨K, rfl, W1⟩
    | error er =>
      go_enter Tryz.func65, Tryz.ntmps65
      go_wp2_with fail
      refine CI.mono ?_
      rintro e w1 ⟨K, rfl⟩
      clear CI
      go_wp2
      exact ⟨rfl, K, rfl⟩
  · have d : ((v.proto : Int) == 33) = false := by rw [beq_eq_false_iff_ne]; omega
    by_cases h87 : v.proto = 87
    · have e : netS b v = ipV v b := by rw [netS, if_pos (.inr h87)]
      rw [e]
      have CI := ip6_any g v l a ca b w h ha hn hv h87
      have d2 : ((v.proto : Int) == 87) = true := by rw [beq_iff_eq]; omega
      obtain ⟨x, hx⟩ : ∃ x, ipV v b = x := ⟨_, rfl⟩
      rw [hx] at CI ⊢
      clear h ha e h33 h87 hx
      cases x with
      | ok u =>
        go_enter Tryz.func65, Tryz.ntmps65
        go_wp2_with fail
        refine CI.mono ?_
        rintro e w1 ⟨K, rfl, W1⟩
        clear CI
        go_wp2
        go_end0
        exact ⟨K, rfl, W1⟩
      | error er =>
        go_enter Tryz.func65, Tryz.ntmps65
        go_wp2_with fail
        refine CI.mono ?_
        rintro e w1 ⟨K, rfl⟩
        clear CI
        go_wp2
        exact ⟨rfl, K, rfl⟩
    · have d2 : ((v.proto : Int) == 87) = false := by rw [beq_eq_false_iff_ne]; omega
      have e : netS b v = .ok v := by rw [netS, if_neg (by omega)]
      rw [e]
      clear h ha e h33 h87
      go_enter Tryz.func65, Tryz.ntmps65
      go_wp2
      go_end0
      exact ⟨World.grownBy.refl _ _, rfl, HW.out⟩

end Go.Proofs.YtnojpepjloceoaaGreat

namespace Go.Proofs.YtnojpepjloceoaaGreat
open Go.RowKit
set_option maxRecDepth 100000

def stepN (i : Nat) : Nat := match i with
  | 0 => 60
  | 1 => 61
  | 2 => 62
  | 3 => 63
  | 4 => 64
  | _ => 65

theorem stepN_enters (i : Nat) : ∀ args w, (callFunc (stepN i) args).run Tryz.prog w = .ok (.enter (stepN i) args) w := by
  unfold stepN
  split
  · exact enters_of Tryz.func60 (by kernel_rfl) rfl
  · exact enters_of Tryz.func61 (by kernel_rfl) rfl
  · exact enters_of Tryz.func62 (by kernel_rfl) rfl
  · exact enters_of Tryz.func63 (by kernel_rfl) rfl
  · exact enters_of Tryz.func64 (by kernel_rfl) rfl
  · exact enters_of Tryz.func65 (by kernel_rfl) rfl

/-- Where a reader stands ahead of a step. -/
def InvX (b : List UInt8) (i : Nat) (v : Vw) : Prop := v.pos ≤ b.length ∧ (i ≤ 1 → v.pos = 0)

theorem protoS_pos {l : Lk} {b : List UInt8} {v u : Vw} (h : protoS l b v = .ok u) : u.pos ≤ b.length := by
  obtain ⟨q, hq, h⟩ := bind_ok h
  cases h
  exact (proto_grows (c := []) hq).2.2
theorem ip_pos {b : List UInt8} {v u : Vw} (h : ipV v b = .ok u) : u.pos = v.pos := by
  unfold ipV at h
  repeat' split at h
  all_goals cases h
  all_goals rfl

theorem step_inv {l : Lk} {b : List UInt8} {i : Nat} {v u : Vw} (hi : i < 6) (hv : InvX b i v) (h : stepX l b i v = .ok u) : InvX b (i + 1) u := by
  have hs : i = 0 ∨ i = 1 ∨ i = 2 ∨ i = 3 ∨ i = 4 ∨ i = 5 := by omega
  rcases hs with rfl | rfl | rfl | rfl | rfl | rfl
  · have h' : (if 65535 < b.length then .error 71 else .ok v : Except Int Vw) = .ok u := h
    split at h'
    · cases h'
    · cases h'
      exact ⟨hv.1, fun _ => hv.2 (by omega)⟩
  · obtain ⟨p, hp, h⟩ := bind_ok h
    cases h
    refine ⟨?_, fun e => by omega⟩
    have h0 := hv.2 (by omega)
    show v.pos + p ≤ b.length
    unfold plainV at hp
    split at hp
    · rename_i hc
      cases hp
      omega
    · split at hp
      · cases hp; omega
      · split at hp <;> cases hp
  · exact ⟨protoS_pos h, fun e => by omega⟩
  · have h' : headS l b v = .ok u := h
    unfold headS at h'
    split at h'
    · cases h'
      exact ⟨hv.1, fun e => by omega⟩
    · obtain ⟨q, hq, h'⟩ := bind_ok h'
      cases h'
      exact ⟨(head_grows (c := []) hq).2.2.1, fun e => by omega⟩
  · have h' : (if v.beg = true then protoS l b v else .ok v) = .ok u := h
    split at h'
    · exact ⟨protoS_pos h', fun e => by omega⟩
    · cases h'
      exact ⟨hv.1, fun e => by omega⟩
  · have h' : netS b v = .ok u := h
    unfold netS at h'
    split at h'
    · exact ⟨by rw [ip_pos h']; exact hv.1, fun e => by omega⟩
    · cases h'
      exact ⟨hv.1, fun e => by omega⟩

/-- A step of the row, function 65 its last. -/
theorem step_any (i g : Nat) (v : Vw) (l : Lk) (a : Option Addr) (ca : Nat) (b : List UInt8) (w : World) (hi : i < 6) (h : WAt w g v l (.slice a b.length ca)) (ha : FrA w g a b) (hn : b.length ≤ 140737488355328) (hv : InvX b i v) (hl : 0 ≤ l.mp ∧ l.mp ≤ 2) :
    Calls Tryz.prog (stepN i) #[.pointer (some ⟨g, 0, none⟩)] w fun e w' => StepP w g l (.slice a b.length ca) (stepX l b i v) e w' := by
  have hs : i = 0 ∨ i = 1 ∨ i = 2 ∨ i = 3 ∨ i = 4 ∨ i = 5 := by omega
  rcases hs with rfl | rfl | rfl | rfl | rfl | rfl
  · exact length_any g v l a ca b.length w h
  · exact address_any g v l a ca b w h ha hn (by have := hv.2 (by omega); omega)
  · exact protocol_any g v l a ca b w h ha hn hv.1
  · exact header_any g v l a ca b w h ha hn hv.1 hl
  · exact inner_any g v l a ca b w h ha hn hv.1
  · exact network_any g v l a ca b w h ha hn hv.1

end Go.Proofs.YtnojpepjloceoaaGreat

namespace Go.Proofs.YtnojpepjloceoaaGreat
open Go.RowKit
set_option maxRecDepth 100000

/-- P7.3. -/
def packV (way : Int) (b : List UInt8) : List UInt8 := if (way = 0 ∨ way = 1) ∧ b.length ≤ 65535 then UInt8.ofNat way.toNat :: b else []
theorem packV_len (way : Int) (b : List UInt8) : (packV way b).length ≤ 65536 := by
  unfold packV
  split
  · simp; omega
  · simp

end Go.Proofs.YtnojpepjloceoaaGreat
