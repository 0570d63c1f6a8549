/-
  Law MeanMade without Go: all that it asks, answered. riddlelaw14.asked.is. What is read of an argument that is a list of bytes; how much the second form counts. What is read of an argument that is a link. What is read of an argument that is a spec.
-/
import Derived.Test.YtnojpepjloceoaaGreatLotP45
import Derived.Test.YtnojpepjloceoaaGreatLotP44
import Derived.Test.YtnojpepjloceoaaGreatTyH
import Derived.Test.YtnojpepjloceoaaGreatLotP18
import Derived.Test.YtnojpepjloceoaaGreatLotP1
import Derived.Test.YtnojpepjloceoaaGreatRows
import Derived.ProofKit
import Derived.OpenShut
import Derived.ShutString
import Derived.ChangeOld
import Derived.SizedLaws
import Derived.JoinedCond
import Derived.Test.YtnojpepjloceoaaGreatLotP4
import Derived.Deep.Slices
namespace Go.Proofs.YtnojpepjloceoaaGreat
open Go.RowKit
set_option maxRecDepth 100000

theorem is_of {x : Ng} {l : Lk} {way : Int} {b : List UInt8} {v : Vw} {t : Int} (h1 : 10 ≤ x.kind) (h2 : x.kind ≤ 16) (hc : (checkG [x]).2 = 0) (hl : checkF l = 0) (hw : way = 0 ∨ way = 1) (hk : lookX l b = .ok v) (ht : truthM ⟨v, way, b⟩ x = t) : lawJ [x] l way b = t := by
  rw [leaf_law h1 h2 hc hl hw, hk]
  exact ht
theorem pr_check {n : Nat} (h : n ≤ 65535) : (checkG [prN n]).2 = 0 := by
  refine (leaf_iff (x := prN n) (by show (10 : Int) ≤ 12; decide) (by show (12 : Int) ≤ 16; decide)).2 ⟨?_, ?_⟩
  · simp [formG, sameG, useG, mayG, prN, adgs]
  · show (if n ≤ 65535 then (0 : Int) else 124) = 0
    rw [if_pos h]
theorem nx_check {of : Int} {n : Nat} (ho : of = 2 ∨ of = 3) (h : n ≤ 255) : (checkG [nxN of n]).2 = 0 := by
  refine (leaf_iff (x := nxN of n) (by show (10 : Int) ≤ 13; decide) (by show (13 : Int) ≤ 16; decide)).2 ⟨?_, ?_⟩
  · rcases ho with rfl | rfl <;> simp [formG, sameG, useG, mayG, nxN, adgs, inG]
  · show (if n ≤ 255 then (0 : Int) else 124) = 0
    rw [if_pos h]
theorem pt_check {of side : Int} {n m : Nat} (ho : of = 0 ∨ of = 4) (hs : side = 0 ∨ side = 1 ∨ side = 2) (h : n ≤ m ∧ m ≤ 65535) : (checkG [ptN of side n m]).2 = 0 := by
  refine (leaf_iff (x := ptN of side n m) (by show (10 : Int) ≤ 16; decide) (by show (16 : Int) ≤ 16; decide)).2 ⟨?_, ?_⟩
  · rcases ho with rfl | rfl <;> rcases hs with rfl | rfl | rfl <;> simp [formG, sameG, useG, mayG, ptN, adgs, inG]
  · show (if n ≤ m ∧ m ≤ 65535 then (0 : Int) else 124) = 0
    rw [if_pos h]
theorem zero_drop {c : List UInt8} (hc : c.length = 16) (hz : zeroB c 4 = true) : c.drop 4 = zeros 12 := by
  unfold zeroB at hz
  rw [List.all_eq_true] at hz
  refine List.eq_replicate_iff.2 ⟨by rw [List.length_drop]; omega, fun x hx => ?_⟩
  exact eq_of_beq (hz x hx)
theorem hs_check {of side : Int} {ad : List UInt8} (ho : of = 2 ∨ of = 3) (hs : side = 1 ∨ side = 2) (ha : ad.length = 16) (hz : of = 2 → zeroB ad 4 = true) : (checkG [hsN of side ad]).2 = 0 := by
  refine (leaf_iff (x := hsN of side ad) (by show (10 : Int) ≤ 14; decide) (by show (14 : Int) ≤ 16; decide)).2 ⟨?_, rfl⟩
  have e : adgs (hsN of side ad) = ad := adgs16 (x := hsN of side ad) ha
  have es : sameG (hsN of side ad) (useG (hsN of side ad)) = true := by
    have : useG (hsN of side ad) = hsN of side ad := rfl
    rw [this]
    simp [sameG]
  have em : mayG (hsN of side ad) = hostG (hsN of side ad) := rfl
  unfold formG
  rw [es, em]
  unfold hostG
  rw [e]
  rcases ho with rfl | rfl
  · rw [zero_drop ha (hz rfl)]
    rcases hs with rfl | rfl <;> rfl
  · rcases hs with rfl | rfl <;> rfl
theorem xor_two (n : Nat) (h : n ≤ 65535) : n ^^^ 2 ≤ 65535 ∧ n ≠ n ^^^ 2 := by
  refine ⟨?_, fun e => ?_⟩
  · have := Nat.xor_lt_two_pow (x := n) (y := 2) (n := 16) (by omega) (by omega)
    omega
  · have k := congrArg (fun m => n ^^^ m) e
    simp only [← Nat.xor_assoc, Nat.xor_self, Nat.zero_xor] at k
    omega

/-- What the law asks of a frame that was made. -/
structure Made (l : Lk) (s : Sp) (way : Int) (b : List UInt8) : Prop where
  w2 : lawJ [wdN 2] l way b = jdg (netM s == 2)
  w3 : lawJ [wdN 3] l way b = jdg (netM s == 3)
  w13 : lawJ [wdN 13] l way b = jdg s.multi
  p0 : lawJ [prN (prM s)] l way b = jdg true
  p2 : lawJ [prN (prM s ^^^ 2)] l way b = jdg false
  w4 : lawJ [wdN 4] l way b = jdg (tcpM s)
  w5 : lawJ [wdN 5] l way b = jdg (udpM s)
  w8 : lawJ [wdN 8] l way b = jdg (prM s == 49185)
  z16 : netM s = 0 → lawJ [ptN 0 0 0 65535] l way b = jdg false
  z15 : netM s = 0 → lawJ [n0N 2] l way b = jdg false
  h1 : netM s ≠ 0 → lawJ [hsN (netM s) 1 s.src] l way b = jdg true
  h2 : netM s ≠ 0 → lawJ [hsN (netM s) 2 s.dst] l way b = jdg true
  h3 : netM s ≠ 0 → lawJ [hsN (netM s) 2 s.src] l way b = jdg (decide (s.src = s.dst))
  n0 : netM s ≠ 0 → lawJ [n0N (netM s)] l way b = jdg true
  nx : netM s ≠ 0 → lawJ [nxN (netM s) s.next.toNat] l way b = jdg true
  q1 : netM s ≠ 0 → s.ports = true → lawJ [ptN 0 1 s.frm s.frm] l way b = jdg (tcpM s || udpM s)
  q2 : netM s ≠ 0 → s.ports = true → lawJ [ptN 4 2 s.til s.til] l way b = jdg (tcpM s)
  q3 : netM s ≠ 0 → s.ports = true → lawJ [ptN 0 0 s.til s.til] l way b = jdg (tcpM s || udpM s)
  pr : prM s ≤ 65535

theorem made_pure {l : Lk} {s : Sp} {b : List UInt8} (hs : s.src.length = 16) (hd : s.dst.length = 16) (h : makeX l s = .ok b) {way : Int} (hw : way = 0 ∨ way = 1) : Made l s way b := by
  obtain ⟨hl, F, rfl, hlen⟩ := make_ok h
  have hk := look_made F hl hs hd hlen
  have G := look_sg way hk
  obtain ⟨m2, m3, m13, m4, m5, m8⟩ := made_words l s F
  have hp : prM s ≤ 65535 := by
    unfold prM
    cases hsd : saidB s with
    | false => exact (by decide : 61 ≤ 65535)
    | true => exact (F.said hsd).1
  have hpv : (madeV l s).proto = prM s := rfl
  have hx := xor_two (prM s) hp
  have hn : netM s ≠ 0 → netM s = 2 ∨ netM s = 3 := by
    intro h
    rcases net_cases s with ⟨h0, -⟩ | ⟨hn, -⟩ | ⟨hn, -⟩
    · exact absurd h0 h
    · exact .inl hn
    · exact .inr hn
  have hz : netM s = 2 → zeroB s.src 4 = true ∧ zeroB s.dst 4 = true := by
    intro h
    rcases net_cases s with ⟨h0, -⟩ | ⟨-, hi, h33⟩ | ⟨hn, -⟩
    · omega
    · exact F.four hi h33
    · omega
  have hnx := F.next
  have hlow := F.low
  have word : ∀ of : Int, (checkG [wdN of]).2 = 0 → ∀ t, wordM (madeV l s) of = t → lawJ [wdN of] l way (outV l s) = jdg t := by
    intro of hc t ht
    exact is_of (x := wdN of) (by show (10 : Int) ≤ 11; decide) (by show (11 : Int) ≤ 16; decide) hc hl hw hk (congrArg jdg ht)
  refine ⟨word 2 (by kernel_rfl) _ m2, word 3 (by kernel_rfl) _ m3, word 13 (by kernel_rfl) _ m13, ?_, ?_, word 4 (by kernel_rfl) _ m4, word 5 (by kernel_rfl) _ m5, word 8 (by kernel_rfl) _ m8, ?_, ?_, ?_, ?_, ?_, ?_, ?_, ?_, ?_, ?_, hp⟩
  · refine is_of (x := prN (prM s)) (by show (10 : Int) ≤ 12; decide) (by show (12 : Int) ≤ 16; decide) (pr_check hp) hl hw hk ?_
    show jdg (decide ((madeV l s).proto = prM s)) = _
    rw [hpv, decide_eq_true rfl]
  · refine is_of (x := prN (prM s ^^^ 2)) (by show (10 : Int) ≤ 12; decide) (by show (12 : Int) ≤ 16; decide) (pr_check hx.1) hl hw hk ?_
    show jdg (decide ((madeV l s).proto = prM s ^^^ 2)) = _
    rw [hpv, decide_eq_false hx.2]
  · intro h0
    refine is_of (x := ptN 0 0 0 65535) (by decide) (by decide) (by kernel_rfl) hl hw hk ?_
    have t0 : tcpM s = false := by unfold tcpM; rw [h0]; rfl
    have u0 : udpM s = false := by unfold udpM; rw [h0]; rfl
    have b4 : (baseM (madeV l s) 4).2 = false := by
      unfold baseM
      rw [if_neg (by omega), if_pos (.inl rfl), m4, t0]
      rfl
    have b5 : (baseM (madeV l s) 5).2 = false := by
      unfold baseM
      rw [if_neg (by omega), if_pos (.inr (.inl rfl)), m5, u0]
      rfl
    have c0 : (carrierM (madeV l s) 0).2 = false := by
      unfold carrierM
      rw [if_neg (by simp), b4]
      exact b5
    show portsM ⟨madeV l s, way, outV l s⟩ (ptN 0 0 0 65535) = _
    unfold portsM
    exact if_pos c0
  · intro h0
    refine is_of (x := n0N 2) (by decide) (by decide) (n0_check (.inl rfl)) hl hw hk ?_
    rw [n0_truth G (.inl rfl)]
    show jdg (wordM (madeV l s) 2) = _
    rw [m2, h0]
    rfl
  · intro h
    refine is_of (x := hsN (netM s) 1 s.src) (by show (10 : Int) ≤ 14; decide) (by show (14 : Int) ≤ 16; decide) (hs_check (hn h) (.inl rfl) hs fun e => (hz e).1) hl hw hk ?_
    rw [host_truth F hs hd h way 1 (.inl rfl) _ hs, if_pos rfl, decide_eq_true rfl]
  · intro h
    refine is_of (x := hsN (netM s) 2 s.dst) (by show (10 : Int) ≤ 14; decide) (by show (14 : Int) ≤ 16; decide) (hs_check (hn h) (.inr rfl) hd fun e => (hz e).2) hl hw hk ?_
    rw [host_truth F hs hd h way 2 (.inr rfl) _ hd, if_neg (by decide), decide_eq_true rfl]
  · intro h
    refine is_of (x := hsN (netM s) 2 s.src) (by show (10 : Int) ≤ 14; decide) (by show (14 : Int) ≤ 16; decide) (hs_check (hn h) (.inr rfl) hs fun e => (hz e).1) hl hw hk ?_
    rw [host_truth F hs hd h way 2 (.inr rfl) _ hs, if_neg (by decide), host_same F hs hd h]
  · intro h
    refine is_of (x := n0N (netM s)) (by show (10 : Int) ≤ 15; decide) (by show (15 : Int) ≤ 16; decide) (n0_check (hn h)) hl hw hk ?_
    rw [n0_truth G (hn h)]
    show jdg (wordM (madeV l s) (netM s)) = _
    rcases hn h with e | e
    · rw [e] at m2 ⊢
      rw [m2]
      rfl
    · rw [e] at m3 ⊢
      rw [m3]
      rfl
  · intro h
    refine is_of (x := nxN (netM s) s.next.toNat) (by show (10 : Int) ≤ 13; decide) (by show (13 : Int) ≤ 16; decide) (nx_check (hn h) (by omega)) hl hw hk ?_
    show jdg (wordM (madeV l s) (netM s) && decide ((madeV l s).next = s.next.toNat)) = _
    have e1 : (madeV l s).next = s.next.toNat := by
      rcases net_cases s with ⟨h0, -⟩ | ⟨-, hi, -⟩ | ⟨-, hi, -⟩
      · exact absurd h0 h
      · unfold madeV
        simp only [hi, if_true]
      · unfold madeV
        simp only [hi, if_true]
    rw [decide_eq_true e1, Bool.and_true]
    rcases hn h with e | e
    · rw [e] at m2 ⊢
      rw [m2]
      rfl
    · rw [e] at m3 ⊢
      rw [m3]
      rfl
  · intro h hpo
    exact is_of (x := ptN 0 1 s.frm s.frm) (by show (10 : Int) ≤ 16; decide) (by show (16 : Int) ≤ 16; decide) (pt_check (.inl rfl) (.inr (.inl rfl)) ⟨Nat.le_refl _, hlow.1⟩) hl hw hk (port_truth F hs hd h hpo way).1
  · intro h hpo
    exact is_of (x := ptN 4 2 s.til s.til) (by show (10 : Int) ≤ 16; decide) (by show (16 : Int) ≤ 16; decide) (pt_check (.inr rfl) (.inr (.inr rfl)) ⟨Nat.le_refl _, hlow.2⟩) hl hw hk (port_truth F hs hd h hpo way).2.1
  · intro h hpo
    exact is_of (x := ptN 0 0 s.til s.til) (by show (10 : Int) ≤ 16; decide) (by show (16 : Int) ≤ 16; decide) (pt_check (.inl rfl) (.inl rfl) ⟨Nat.le_refl _, hlow.2⟩) hl hw hk (port_truth F hs hd h hpo way).2.2
end Go.Proofs.YtnojpepjloceoaaGreat

namespace Go.Proofs.YtnojpepjloceoaaGreat
open Go.RowKit
set_option maxRecDepth 100000

/-- A frame on its way over a link. -/
def askA (l : Lk) (way : Int) (a : Option Addr) (n ca : Nat) : Array Value := #[.bool l.acfc, .bool l.pfc, .int .i64 l.mp, .int .i64 way, .slice a n ca]
theorem box_ask (l : Lk) (way : Int) (a : Option Addr) (n ca : Nat) (W : World) : (Instr.box 34 (.agg (askA l way a n ca))).run Tryz.prog W = .ok (.pointer (some ⟨W.heap.size, 0, none⟩)) (W.alloc (.cells (askA l way a n ca) 34)) := by kernel_rfl
theorem ask_sz (l : Lk) (way : Int) (a : Option Addr) (n ca : Nat) : (Tryz.prog.info? 34).map (·.size) = some (askA l way a n ca).size := by kernel_rfl

set_option maxRecDepth 20000 in
set_option maxHeartbeats 4000000 in
theorem is_any (x : Ng) (want : Bool) (l : Lk) (way : Int) (a : Option Addr) (ca : Nat) (b : List UInt8) (w : World) (hn : x.n ≤ 4294967295) (hc : Cells w a b) (hb0 : a = none → ca = 0) (hb : b.length ≤ 140737488355328) (hJ : lawJ [x] l way b = jdg want) :
    Calls Tryz.prog 7 #[.agg (askA l way a b.length ca), .agg x.cells.toArray, .bool want] w fun e w' => e = .returned (.bool true) ∧ w.grownBy w' none := by
  have HBX := box_ng x
  have HBA := box_ask l way a b.length ca
  have HSX : Hid ((Tryz.prog.info? 37).map (·.size) = some x.cells.toArray.size) := ng_size x
  have HLS := lk_sz l
  have HLT := fun W => lit_ng1 x W
  have HJU : Hid (∀ (W : World) (g : Nat), CV W (some ⟨g, 0, none⟩) (flatG [x]) → w.grownBy W none → Calls Tryz.prog 8 #[.slice (some ⟨g, 0, none⟩) 1 1, .agg (lkA l), .int .i64 way, .slice a b.length ca] W fun e w' => e = .returned (.int .i64 (jdg want)) ∧ W.grownBy w' none) := fun W g C K => by
    have := ljudge_any (some ⟨g, 0, none⟩) 1 [x] l way a ca b W C (by intro h; cases h) (by show 1 * 72 ≤ 140737488355328; decide) (fun y hy => by rw [List.mem_singleton.1 hy]; exact hn) (hc.keptNone K) hb0 hb
    rw [hJ] at this
    exact this
  clear hn hc hb0 hb hJ
  have V1 := VAt.alloc w 34 (askA l way a b.length ca)
  have V2 := VAt.alloc (w.alloc (.cells (askA l way a b.length ca) 34)) 37 x.cells.toArray
  have K1 := World.grownBy_alloc w (.cells (askA l way a b.length ca) 34) none
  have K2 := World.grownBy_alloc (w.alloc (.cells (askA l way a b.length ca) 34)) (.cells x.cells.toArray 37) none
  have hsz1 : (w.alloc (.cells (askA l way a b.length ca) 34)).heap.size = w.heap.size + 1 := by simp
  have V1' := V1.kept K2
  have K12 := grown_trans K1 K2
  rw [hsz1] at V2
  clear V1 K1 K2 hsz1
  have HR : Hid (((w.alloc (.cells (askA l way a b.length ca) 34)).alloc (.cells x.cells.toArray 37)).rangeAt w.heap.size 0 (lkA l).toList) := fun j v hv => by
    have e := V1'.cell (0 + j)
    rw [e]
    match j, hv with
    | 0, hv => exact hv
    | 1, hv => exact hv
    | 2, hv => exact hv
    | k + 3, hv => exact absurd hv (by simp [lkA])
  generalize b.length = N at *
  generalize x.cells.toArray = XA at *
  go_enter Tryz.func7, Tryz.ntmps7
  go_upto_region 1 with fail
  have HLH : Hid _ := HLT
  clear HLT
  generalize (w.alloc (.cells (askA l way a N ca) 34)).alloc (.cells XA 37) = w1 at *
  generalize w.heap.size + 1 = BX at *
  generalize w.heap.size = BA at *
  clear HBX HBA
  have HV1 : Hid (VAt w1 BA 34 (askA l way a N ca)) := V1'
  clear V1'
  go_wp2_with (first
    | refine wpList_load_row rfl 37 (.tmp 4) rfl BX rfl 37 XA (0, 0) _ V2 Tryz.underlying37 rfl HSX.out ?_
    | (refine wpList_lit (by rfl) 40 1 _ rfl _ (by kernel_rfl) (flatG [x]) 37 HLH.out ?_
       intro g3 w3 C3 K3
       have c3 : w3.cell? ⟨BA, 3, none⟩ = some (.int .i64 way) := (HV1.out.kept K3).cell 3
       have c4 : w3.cell? ⟨BA, 4, none⟩ = some (.slice a N ca) := (HV1.out.kept K3).cell 4
       have HR3 : Hid (w3.rangeAt BA 0 (lkA l).toList) := fun j v hv => K3.cell (HR.out j v hv) (by simp)
       have G3 := grown_trans K12 K3
       clear V2 K3)
    | refine wpList_load_midG (by rfl) 23 (.tmp 10) rfl BA 0 rfl (lkA l).toList _ HR3.out Tryz.underlying23 rfl HLS ?_)
  refine (HJU.out _ _ C3 G3).mono ?_
  rintro e w4 ⟨rfl, K4⟩
  have G4 := grown_trans G3 K4
  clear c3 c4 HR3 C3 G3 HJU K4
  cases want with
  | true =>
    rw [show jdg true = 1 from rfl]
    go_wp2_with fail
    go_ret
    exact ⟨rfl, G4⟩
  | false =>
    rw [show jdg false = 0 from rfl]
    go_wp2_with fail
    go_ret
    exact ⟨rfl, G4⟩
end Go.Proofs.YtnojpepjloceoaaGreat

namespace Go.Proofs.YtnojpepjloceoaaGreat
open Go.ChangeShapes Go.WideShapes Go.ChangeAt Go.RowKit
set_option maxRecDepth 100000

theorem own : ownKnob Tryz.prog.godebug = none := by kernel_rfl
theorem laidOut : laidOutB Tryz.prog = true := by kernel_rfl
theorem bytes5 : Tryz.prog.bytesOf 5 = 1 := by kernel_rfl

theorem open_bytes {H : Type} {enc : TypeId × Value → H} {P : Program} {W : World} {t e : TypeId} {d : DataW H} {ps : List MemPlace} {a : Option Addr} {len cap : Nat}
    (ht : P.underlying t = some (.slice e)) (he : P.underlying e = some (.int .u8)) (hc : P.cellsOf e = 1)
    (h : DataW.Trod enc P W 0 (fun _ => true) true t (.slice a len cap) d ps) :
    ∃ xs : List UInt8, len = xs.length ∧ Cells W a xs ∧ (a = none → cap = 0) ∧ ((d = .nil ∧ xs = []) ∨ ∃ elems spare, d = .slice elems spare ∧ xs.length ≤ elems.length + spare.length) := by
  obtain ⟨fuel, hf⟩ := h
  rcases open_ints ht he hc hf with ⟨hcs, hx⟩ | ⟨x, l, c, zs, hcs, _, hl, hm, hz, hx, hcell, hwz⟩
  · simp [Value.cells] at hcs
    obtain ⟨rfl, rfl, rfl⟩ := hcs
    simp only [Prod.mk.injEq] at hx
    exact ⟨[], rfl, ⟨fun _ => rfl, fun ad had => (by cases had)⟩, fun _ => rfl, .inl ⟨hx.1, rfl⟩⟩
  · simp [Value.cells] at hcs
    obtain ⟨rfl, rfl, rfl⟩ := hcs
    simp only [Prod.mk.injEq] at hx
    have hz' : zs.length = cap := by simpa using hz
    have hlen : ((zs.take len).map fun z => UInt8.ofNat z.toNat).length = len := by simp; omega
    refine ⟨(zs.take len).map fun z => UInt8.ofNat z.toNat, hlen.symm, ⟨fun h => (by cases h), fun ad had i hi => ?_⟩, fun h => (by cases h), .inr ⟨_, _, hx.1, ?_⟩⟩
    · obtain rfl := Option.some.inj had
      rw [hlen] at hi
      have hiz : i < zs.length := by omega
      rw [hcell i hiz]
      have hw := bounds_u8 (hwz (zs[i]) (List.getElem_mem hiz))
      simp only [List.getD_eq_getElem?_getD, List.getElem?_eq_getElem hiz, Option.getD_some, List.getElem_map, List.getElem_take, bv]
      congr 2
      simp
      omega
    · rw [hlen]
      simp [lits]
      omega

theorem bulk_one {H : Type} (d : DataW H) : 1 ≤ Rows.uptoBulk d := by
  unfold Rows.uptoBulk
  split <;> omega

theorem bulk_all {H : Type} (l : List (DataW H)) : l.length ≤ Rows.uptoBulkAll l := by
  induction l with
  | nil => exact Nat.zero_le _
  | cons x r ih =>
    have := bulk_one x
    rw [Rows.uptoBulkAll, List.length_cons]
    omega

/-- A list's places count. -/
theorem bulk_slice {H : Type} (elems spare : List (DataW H)) : elems.length + spare.length + 1 ≤ Rows.uptoBulk (.slice elems spare) := by
  have h1 := bulk_all elems
  have h2 := bulk_all spare
  rw [Rows.uptoBulk]
  omega

/-- A text's letters count. -/
theorem bulk_string {H : Type} (s : ByteArray) : Rows.uptoBulk (DataW.lit (H := H) (.string s.data.toList)) = s.size + 1 := by
  rw [Rows.uptoBulk, Array.length_toList]
  rfl

end Go.Proofs.YtnojpepjloceoaaGreat

namespace Go.Proofs.YtnojpepjloceoaaGreat
open Go.ChangeShapes Go.WideShapes Go.ChangeAt Go.RowKit
set_option maxRecDepth 100000

theorem cellsLink : Tryz.prog.cellsOf 23 = 3 := by kernel_rfl
theorem cellsBool : Tryz.prog.cellsOf 4 = 1 := by kernel_rfl
theorem cellsInt : Tryz.prog.cellsOf 3 = 1 := by kernel_rfl

/-- The link that three cells are. -/
def lkOf : List Value → Lk
  | [.bool a, .bool b, .int _ c] => ⟨a, b, c⟩
  | _ => ⟨false, false, 0⟩

theorem link_cells {H : Type} {enc : TypeId × Value → H} {W : World} {base : Nat} {spare : Nat → Bool} {held : Bool} {fuel : Nat} {cs : List Value} {x : DataW H × List MemPlace} (h : DataW.trod enc Tryz.prog W base spare held fuel 23 cs = some x) : cs = (lkA (lkOf cs)).toList := by
  obtain ⟨ys, n, _, rfl, hl, hlen, hf⟩ := DataW.trod_struct Tryz.underlying23 h
  rw [cellsLink] at hl
  match cs, hl with
  | [c0, c1, c2], _ =>
    match ys, hlen with
    | [y0, y1, y2], _ =>
      have f0 : DataW.trod enc Tryz.prog W base spare held n 4 (([c0, c1, c2].drop 0).take (Tryz.prog.cellsOf 4)) = some y0 := hf 0 _ rfl
      have f1 : DataW.trod enc Tryz.prog W base spare held n 4 (([c0, c1, c2].drop 1).take (Tryz.prog.cellsOf 4)) = some y1 := hf 1 _ rfl
      have f2 : DataW.trod enc Tryz.prog W base spare held n 3 (([c0, c1, c2].drop 2).take (Tryz.prog.cellsOf 3)) = some y2 := hf 2 _ rfl
      rw [cellsBool] at f0 f1
      rw [cellsInt] at f2
      obtain ⟨n0, e0, _⟩ := DataW.trod_bool Tryz.underlying4 f0
      obtain ⟨n1, e1, _⟩ := DataW.trod_bool Tryz.underlying4 f1
      obtain ⟨n2, e2, _, _⟩ := DataW.trod_int Tryz.underlying3 f2
      simp at e0 e1 e2
      subst e0 e1 e2
      rfl

/-- A link that is handed in. -/
theorem open_link {H : Type} {enc : TypeId × Value → H} {W : World} {d : DataW H} {ps : List MemPlace} {v : Value}
    (h : DataW.Trod enc Tryz.prog W 0 (fun _ => true) true 23 v d ps) : ∃ x : Lk, v = .agg (lkA x) := by
  obtain ⟨fuel, hf⟩ := h
  have e := link_cells hf
  refine ⟨lkOf v.cells.toList, ?_⟩
  cases v with
  | agg cs =>
    simp only [Value.cells] at e ⊢
    congr 1
    exact Array.toList_inj.1 e
  | _ => have := congrArg List.length e; simp [Value.cells, lkA] at this

/-- How much room a list of bytes has that is handed in. -/
theorem open_cap {H : Type} {enc : TypeId × Value → H} {P : Program} {W : World} {t e : TypeId} {d : DataW H} {ps : List MemPlace} {a : Option Addr} {len cap : Nat}
    (ht : P.underlying t = some (.slice e)) (he : P.underlying e = some (.int .u8)) (hc : P.cellsOf e = 1)
    (h : DataW.Trod enc P W 0 (fun _ => true) true t (.slice a len cap) d ps) : len ≤ cap := by
  obtain ⟨fuel, hf⟩ := h
  rcases open_ints ht he hc hf with ⟨hcs, hx⟩ | ⟨x, l, c, zs, hcs, _, hl, hm, hz, hx, hcell, hwz⟩
  · simp [Value.cells] at hcs
    obtain ⟨rfl, rfl, rfl⟩ := hcs
    exact Nat.le_refl _
  · simp [Value.cells] at hcs
    obtain ⟨rfl, rfl, rfl⟩ := hcs
    exact hl

end Go.Proofs.YtnojpepjloceoaaGreat

namespace Go.Proofs.YtnojpepjloceoaaGreat
open Go.ChangeShapes Go.WideShapes Go.ChangeAt Go.RowKit
set_option maxRecDepth 100000

theorem cells8 : Tryz.prog.cellsOf 5 = 1 := by kernel_rfl
theorem cells32 : Tryz.prog.cellsOf 24 = 1 := by kernel_rfl
theorem cells16 : Tryz.prog.cellsOf 25 = 16 := by kernel_rfl
theorem cellsSl : Tryz.prog.cellsOf 26 = 1 := by kernel_rfl
theorem cellsSp : Tryz.prog.cellsOf 28 = 44 := by kernel_rfl
theorem bytes8 : Tryz.prog.bytesOf 5 = 1 := by kernel_rfl

/-- The byte that a cell is. -/
def byteC8 : Value → UInt8
  | .int _ a => UInt8.ofNat a.toNat
  | _ => 0

theorem arr16_cells {H : Type} {enc : TypeId × Value → H} {W : World} {base : Nat} {spare : Nat → Bool} {held : Bool} {fuel : Nat} {cs : List Value} {x : DataW H × List MemPlace}
    (h : DataW.trod enc Tryz.prog W base spare held fuel 25 cs = some x) : ∃ ys : List UInt8, ys.length = 16 ∧ cs = ys.map bv := by
  obtain ⟨ys, m, _, rfl, hl, hlen, hf⟩ := DataW.trod_array Tryz.underlying25 h
  rw [cells16] at hl
  refine ⟨cs.map byteC8, by simpa using hl, ?_⟩
  apply List.ext_getElem
  · simp
  · intro i h1 h2
    have hi : i < 16 := by omega
    have f := hf i hi
    rw [cells8, List.getElem?_eq_getElem (by omega), Nat.mul_one, List.drop_eq_getElem_cons h1, List.take_succ_cons, List.take_zero] at f
    obtain ⟨k, e, _, w⟩ := DataW.trod_int Tryz.underlying5 f
    simp only [List.cons.injEq, and_true] at e
    have b := bounds_u8 w
    simp only [List.getElem_map]
    rw [e]
    have z : ((UInt8.ofNat k.toNat).toNat : Int) = k := by simp; omega
    simp only [byteC8, bv, z]

theorem drop_cut (cs : List Value) (o n : Nat) : cs.drop o = (cs.drop o).take n ++ cs.drop (o + n) := by
  rw [← List.drop_drop, List.take_append_drop]

/-- What is said of a list of bytes by its datum. -/
def DatIs {H : Type} (d : DataW H) (xs : List UInt8) : Prop := (d = .nil ∧ xs = []) ∨ ∃ elems spare, d = .slice elems spare ∧ xs.length ≤ elems.length + spare.length

theorem spec_cells {H : Type} {enc : TypeId × Value → H} {W : World} {fuel : Nat} {cs : List Value} {x : DataW H × List MemPlace} (h : DataW.trod enc Tryz.prog W 0 (fun _ => true) true fuel 28 cs = some x) :
    ∃ (s : Sp) (a : Option Addr) (ca : Nat), cs = spL s a ca ∧ s.ok ∧ Cells W a s.data ∧ (a = none → ca = 0) ∧ s.data.length ≤ ca ∧ ∃ parts d, x.1 = .agg parts ∧ parts[13]? = some d ∧ DatIs d s.data := by
  obtain ⟨ys, n, _, rfl, hl, hlen, hf⟩ := DataW.trod_struct Tryz.underlying28 h
  rw [cellsSp] at hl
  have hlen14 : ys.length = 14 := hlen
  have hy : ∀ i, i < 14 → ∃ y, ys[i]? = some y := fun i hi => ⟨ys[i], List.getElem?_eq_getElem (by omega)⟩
  have f0 : DataW.trod enc Tryz.prog W 0 (fun _ => true) true n 4 ((cs.drop 0).take (Tryz.prog.cellsOf 4)) = ys[0]? := hf 0 _ rfl
  have f1 : DataW.trod enc Tryz.prog W 0 (fun _ => true) true n 4 ((cs.drop 1).take (Tryz.prog.cellsOf 4)) = ys[1]? := hf 1 _ rfl
  have f2 : DataW.trod enc Tryz.prog W 0 (fun _ => true) true n 4 ((cs.drop 2).take (Tryz.prog.cellsOf 4)) = ys[2]? := hf 2 _ rfl
  have f3 : DataW.trod enc Tryz.prog W 0 (fun _ => true) true n 4 ((cs.drop 3).take (Tryz.prog.cellsOf 4)) = ys[3]? := hf 3 _ rfl
  have f4 : DataW.trod enc Tryz.prog W 0 (fun _ => true) true n 4 ((cs.drop 4).take (Tryz.prog.cellsOf 4)) = ys[4]? := hf 4 _ rfl
  have f5 : DataW.trod enc Tryz.prog W 0 (fun _ => true) true n 24 ((cs.drop 5).take (Tryz.prog.cellsOf 24)) = ys[5]? := hf 5 _ rfl
  have f6 : DataW.trod enc Tryz.prog W 0 (fun _ => true) true n 24 ((cs.drop 6).take (Tryz.prog.cellsOf 24)) = ys[6]? := hf 6 _ rfl
  have f7 : DataW.trod enc Tryz.prog W 0 (fun _ => true) true n 3 ((cs.drop 7).take (Tryz.prog.cellsOf 3)) = ys[7]? := hf 7 _ rfl
  have f8 : DataW.trod enc Tryz.prog W 0 (fun _ => true) true n 25 ((cs.drop 8).take (Tryz.prog.cellsOf 25)) = ys[8]? := hf 8 _ rfl
  have f9 : DataW.trod enc Tryz.prog W 0 (fun _ => true) true n 25 ((cs.drop 24).take (Tryz.prog.cellsOf 25)) = ys[9]? := hf 9 _ rfl
  have f10 : DataW.trod enc Tryz.prog W 0 (fun _ => true) true n 4 ((cs.drop 40).take (Tryz.prog.cellsOf 4)) = ys[10]? := hf 10 _ rfl
  have f11 : DataW.trod enc Tryz.prog W 0 (fun _ => true) true n 24 ((cs.drop 41).take (Tryz.prog.cellsOf 24)) = ys[11]? := hf 11 _ rfl
  have f12 : DataW.trod enc Tryz.prog W 0 (fun _ => true) true n 24 ((cs.drop 42).take (Tryz.prog.cellsOf 24)) = ys[12]? := hf 12 _ rfl
  have f13 : DataW.trod enc Tryz.prog W 0 (fun _ => true) true n 26 ((cs.drop 43).take (Tryz.prog.cellsOf 26)) = ys[13]? := hf 13 _ rfl
  rw [cellsBool] at f0 f1 f2 f3 f4 f10
  rw [cells32] at f5 f6 f11 f12
  rw [cellsInt] at f7
  rw [cells16] at f8 f9
  rw [cellsSl] at f13
  obtain ⟨y0, h0⟩ := hy 0 (by omega)
  obtain ⟨y1, h1⟩ := hy 1 (by omega)
  obtain ⟨y2, h2⟩ := hy 2 (by omega)
  obtain ⟨y3, h3⟩ := hy 3 (by omega)
  obtain ⟨y4, h4⟩ := hy 4 (by omega)
  obtain ⟨y5, h5⟩ := hy 5 (by omega)
  obtain ⟨y6, h6⟩ := hy 6 (by omega)
  obtain ⟨y7, h7⟩ := hy 7 (by omega)
  obtain ⟨y8, h8⟩ := hy 8 (by omega)
  obtain ⟨y9, h9⟩ := hy 9 (by omega)
  obtain ⟨y10, h10⟩ := hy 10 (by omega)
  obtain ⟨y11, h11⟩ := hy 11 (by omega)
  obtain ⟨y12, h12⟩ := hy 12 (by omega)
  obtain ⟨y13, h13⟩ := hy 13 (by omega)
  obtain ⟨n0, e0, _⟩ := DataW.trod_bool Tryz.underlying4 (f0.trans h0)
  obtain ⟨n1, e1, _⟩ := DataW.trod_bool Tryz.underlying4 (f1.trans h1)
  obtain ⟨n2, e2, _⟩ := DataW.trod_bool Tryz.underlying4 (f2.trans h2)
  obtain ⟨n3, e3, _⟩ := DataW.trod_bool Tryz.underlying4 (f3.trans h3)
  obtain ⟨n4, e4, _⟩ := DataW.trod_bool Tryz.underlying4 (f4.trans h4)
  obtain ⟨n5, e5, _, w5⟩ := DataW.trod_int Tryz.underlying24 (f5.trans h5)
  obtain ⟨n6, e6, _, w6⟩ := DataW.trod_int Tryz.underlying24 (f6.trans h6)
  obtain ⟨n7, e7, _, _⟩ := DataW.trod_int Tryz.underlying3 (f7.trans h7)
  obtain ⟨n8, l8, e8⟩ := arr16_cells (f8.trans h8)
  obtain ⟨n9, l9, e9⟩ := arr16_cells (f9.trans h9)
  obtain ⟨n10, e10, _⟩ := DataW.trod_bool Tryz.underlying4 (f10.trans h10)
  obtain ⟨n11, e11, _, w11⟩ := DataW.trod_int Tryz.underlying24 (f11.trans h11)
  obtain ⟨n12, e12, _, w12⟩ := DataW.trod_int Tryz.underlying24 (f12.trans h12)
  have b5 := bounds_u32 w5
  have b6 := bounds_u32 w6
  have b11 := bounds_u32 w11
  have b12 := bounds_u32 w12
  obtain ⟨m5, rfl⟩ := Int.eq_ofNat_of_zero_le b5.1
  obtain ⟨m6, rfl⟩ := Int.eq_ofNat_of_zero_le b6.1
  obtain ⟨m11, rfl⟩ := Int.eq_ofNat_of_zero_le b11.1
  obtain ⟨m12, rfl⟩ := Int.eq_ofNat_of_zero_le b12.1
  have hsl : ∃ (a : Option Addr) (ca : Nat) (xs : List UInt8), (cs.drop 43).take 1 = [.slice a xs.length ca] ∧ Cells W a xs ∧ (a = none → ca = 0) ∧ xs.length ≤ ca ∧ DatIs y13.1 xs := by
    have hh := f13.trans h13
    rcases Go.Deep.open_slice Tryz.underlying26 hh with ⟨hcs, hx⟩ | ⟨x, len, cap, m, k, D, Pl, hcs, _, hl', hm, hmm, hx, hcell⟩
    · exact ⟨none, 0, [], hcs, ⟨fun _ => rfl, fun ad had => (by cases had)⟩, fun _ => rfl, Nat.le_refl _, .inl ⟨by rw [hx], rfl⟩⟩
    · have ht : DataW.Trod enc Tryz.prog W 0 (fun _ => true) true 26 (.slice (some x) len cap) y13.1 y13.2 := ⟨n, by rw [hcs] at hh; exact hh⟩
      obtain ⟨xs, rfl, hc, h0, hd⟩ := open_bytes Tryz.underlying26 Tryz.underlying5 (by kernel_rfl) ht
      exact ⟨some x, cap, xs, hcs, hc, h0, hl', hd⟩
  obtain ⟨a, ca, xs, e13, hC, hc0, hcap, hdat⟩ := hsl
  refine ⟨⟨n0, n1, n2, n3, n4, m5, m6, n7, n8, n9, n10, m11, m12, xs⟩, a, ca, ?_, ⟨l8, l9, (show m5 ≤ 4294967295 by omega), (show m6 ≤ 4294967295 by omega), (show m11 ≤ 4294967295 by omega), (show m12 ≤ 4294967295 by omega)⟩, hC, hc0, hcap, _, y13.1, rfl, by rw [List.getElem?_map, h13]; rfl, hdat⟩
  have q0 := drop_cut cs 0 1
  have q1 := drop_cut cs 1 1
  have q2 := drop_cut cs 2 1
  have q3 := drop_cut cs 3 1
  have q4 := drop_cut cs 4 1
  have q5 := drop_cut cs 5 1
  have q6 := drop_cut cs 6 1
  have q7 := drop_cut cs 7 1
  have q8 := drop_cut cs 8 16
  have q9 := drop_cut cs 24 16
  have q10 := drop_cut cs 40 1
  have q11 := drop_cut cs 41 1
  have q12 := drop_cut cs 42 1
  have q13 := drop_cut cs 43 1
  have q14 : cs.drop (43 + 1) = [] := List.drop_eq_nil_of_le (by omega)
  rw [q14, e13] at q13
  rw [q13, e12] at q12
  rw [q12, e11] at q11
  rw [q11, e10] at q10
  rw [q10, e9] at q9
  rw [q9, e8] at q8
  rw [q8, e7] at q7
  rw [q7, e6] at q6
  rw [q6, e5] at q5
  rw [q5, e4] at q4
  rw [q4, e3] at q3
  rw [q3, e2] at q2
  rw [q2, e1] at q1
  rw [q1, e0, List.drop_zero] at q0
  rw [q0]
  rfl

/-- A spec that is handed in. -/
theorem open_spec {H : Type} {enc : TypeId × Value → H} {W : World} {d : DataW H} {ps : List MemPlace} {v : Value}
    (h : DataW.Trod enc Tryz.prog W 0 (fun _ => true) true 28 v d ps) :
    ∃ (s : Sp) (a : Option Addr) (ca : Nat), v = .agg (spA s a ca) ∧ s.ok ∧ Cells W a s.data ∧ (a = none → ca = 0) ∧ s.data.length ≤ ca ∧ ∃ parts e, d = .agg parts ∧ parts[13]? = some e ∧ DatIs e s.data := by
  obtain ⟨fuel, hf⟩ := h
  obtain ⟨s, a, ca, e, hok, hC, h0, hcap, parts, dd, hp, hp2, hd⟩ := spec_cells hf
  refine ⟨s, a, ca, ?_, hok, hC, h0, hcap, parts, dd, hp, hp2, hd⟩
  have hlen := spL_len hok a ca
  cases v with
  | agg cs =>
    simp only [Value.cells] at e
    rw [spA, ← e]
  | _ => rw [← e] at hlen; simp [Value.cells] at hlen

/-- How long the data are that a spec has which is handed in. -/
theorem sized_spec {H : Type} {ts : List TypeId} {ds : List (DataW H)} (h : (DataW.weightsEach Tryz.prog ts ds).all (· ≤ reachBytes) = true) {j : Nat} {parts : List (DataW H)} {e : DataW H} {xs : List UInt8} (ht : ts[j]? = some 28) (hd : ds[j]? = some (.agg parts)) (hp : parts[13]? = some e) (hx : DatIs e xs) : xs.length ≤ 140737488351232 := by
  rcases hx with ⟨_, rfl⟩ | ⟨elems, spare, rfl, hle⟩
  · simp
  · have hm : (elems.length + spare.length) * Tryz.prog.bytesOf 5 ∈ DataW.weightsEach Tryz.prog [4, 4, 4, 4, 4, 24, 24, 3, 25, 25, 4, 24, 24, 26] parts :=
      DataW.weights_mem_each (t := 26) rfl hp _ (by simp [DataW.weights, Tryz.underlying26])
    have := List.all_eq_true.1 h _ (DataW.weights_mem_each ht hd _ (by simp only [DataW.weights, Tryz.underlying28]; exact hm))
    rw [bytes8] at this
    simp only [decide_eq_true_eq] at this
    unfold reachBytes at this
    omega

end Go.Proofs.YtnojpepjloceoaaGreat
