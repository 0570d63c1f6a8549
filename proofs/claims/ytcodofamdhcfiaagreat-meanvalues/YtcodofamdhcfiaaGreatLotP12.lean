import Derived.Test.YtcodofamdhcfiaaGreatAb
import Derived.Test.YtcodofamdhcfiaaGreatMnC
import Derived.Test.YtcodofamdhcfiaaGreatTyF
namespace Go.Proofs.YtcodofamdhcfiaaGreat
open Go.RowKit
set_option maxRecDepth 100000
abbrev tellA (s : Sg) (a : Option Addr) (ca : Nat) : Value := .iface 71 (.agg (viewC s a ca))
def RD (w : World) (g : Nat) (s : Sg) (a : Option Addr) (ca : Nat) (v : Value) : Prop := VAt w g 105 #[tellA s a ca, v]
section
variable {w w' : World} {g : Nat} {s : Sg} {a : Option Addr} {ca : Nat} {v : Value}
theorem RD.kept (h : RD w g s a ca v) (K : w.grownBy w' none) : RD w' g s a ca v := VAt.kept h K
theorem RD.tell (h : RD w g s a ca v) : w.cell? ⟨g, 0, none⟩ = some (tellA s a ca) := VAt.cell h 0
theorem RD.left (h : RD w g s a ca v) : w.cell? ⟨g, 1, none⟩ = some v := VAt.cell h 1
end
set_option maxHeartbeats 1000000 in
theorem carrier_any (s : Sg) (a : Option Addr) (ca : Nat) (g : Nat) (v : Value) (k : Int) (w : World) (R : RD w g s a ca v) : Calls Tryz.prog 161 #[.pointer (some ⟨g, 0, none⟩), .int .i64 k] w fun e w' => e = .returned (.tuple #[.int .i64 ((carrierM s.v k).1 : Int), .bool (carrierM s.v k).2]) ∧ w.grownBy w' none := by
 have CB := fun k W => vbase_any s a ca k W
 have c0 := R.tell
 by_cases hk : k = 0
 ·subst hk
  cases hb : (baseM s.v 4).2 with
  | true =>
   have e2 : carrierM s.v 0 = ((baseM s.v 4).1, true) := by rw [carrierM, if_neg (by simp), if_pos hb, ← hb]
   rw [e2]
   clear e2 R
   go_enter Tryz.func161, Tryz.ntmps161
   go_wp2_with fail
   refine (CB _ _).mono ?_
   rintro e w1 ⟨rfl, K1⟩
   rw [hb]
   go_wp2
   go_ret2
   exact ⟨rfl, K1⟩
  | false =>
   have e2 : carrierM s.v 0 = baseM s.v 5 := by rw [carrierM, if_neg (by simp), if_neg (by rw [hb]; simp)]
   rw [e2]
   clear e2
   go_enter Tryz.func161, Tryz.ntmps161
   go_wp2_with fail
   refine (CB _ _).mono ?_
   rintro e w1 ⟨rfl, K1⟩
   rw [hb]
   have c1 := (R.kept K1).tell
   clear c0 R
   go_wp2_with fail
   refine (CB _ _).mono ?_
   rintro e w2 ⟨rfl, K2⟩
   go_wp2
   go_ret2
   exact ⟨rfl, grown_trans K1 K2⟩
 ·have e1 : (k != 0) = true := by rw [bne_iff_ne]; exact hk
  have e2 : carrierM s.v k = baseM s.v k := by rw [carrierM, if_pos hk]
  rw [e2]
  clear hk e2 R
  go_enter Tryz.func161, Tryz.ntmps161
  go_wp2_with fail
  refine (CB _ _).mono ?_
  rintro e w1 ⟨rfl, K1⟩
  go_wp2
  go_ret2
  exact ⟨rfl, K1⟩
def PB (w : World) (P g : Nat) : Prop := VAt w P 137 #[.pointer (some ⟨g, 0, none⟩)]
theorem PB.kept {w w' : World} {P g : Nat} (h : PB w P g) (K : w.grownBy w' none) : PB w' P g := VAt.kept h K
theorem PB.ptr {w : World} {P g : Nat} (h : PB w P g) : w.cell? ⟨P, 0, none⟩ = some (.pointer (some ⟨g, 0, none⟩)) := VAt.cell h 0
set_option maxHeartbeats 2000000 in
theorem port1_any (s : Sg) (a : Option Addr) (ca : Nat) (g P N : Nat) (v : Value) (x : Ng) (p : Nat) (w : World) (R : RD w g s a ca v) (A : PB w P g) (B : NB w N x) (hc : Cells w a s.b) (hb : s.b.length ≤ 65535) (hp : p ≤ 131071) :
  Calls Tryz.prog 162 #[.int .i64 (p : Int), .pointer (some ⟨P, 0, none⟩), .pointer (some ⟨N, 0, none⟩)] w fun e w' => e = .returned (.int .i64 (portM s x p)) ∧ w.grownBy w' none := by
 have CN := vnumber_any s a ca p 2 (by omega) hb w hc
 have c0 := R.tell
 have c1 := A.ptr
 have q : IntKind.u64.wrap (p : Int) = (p : Int) := by rw [IntKind.wrap_u64]; omega
 cases hn : numM s.b p 2 with
 | none =>
  rw [hn] at CN
  have e0 : portM s x p = 2 := by unfold portM; rw [hn]
  rw [e0]
  clear e0 hn R A B hc hb hp
  go_enter Tryz.func162, Tryz.ntmps162
  go_wp2_with fail
  refine CN.mono ?_
  rintro e w1 ⟨rfl, K1⟩
  simp only [numR]
  go_wp2
  go_ret
  exact ⟨rfl, K1⟩
 | some k =>
  rw [hn] at CN
  have e0 : portM s x p = jdg (decide (x.n ≤ k ∧ k ≤ x.m)) := by unfold portM; rw [hn]
  rw [e0]
  have HB : Hid (NB w N x) := B
  by_cases h1 : x.n ≤ k
  ·have e1 : decide (x.n ≤ k ∧ k ≤ x.m) = decide (k ≤ x.m) := by simp [h1]
   rw [e1]
   clear e0 e1 hn R A B hc hb hp
   go_enter Tryz.func162, Tryz.ntmps162
   go_wp2_with fail
   refine CN.mono ?_
   rintro e w1 ⟨rfl, K1⟩
   simp only [numR]
   have c2 := (HB.out.kept K1).n
   have c3 := (HB.out.kept K1).m
   clear c0 c1 CN HB
   go_wp2_with fail
   refine (judged_any _ _).mono ?_
   rintro e w2 ⟨rfl, rfl⟩
   go_wp2
   go_ret
   exact ⟨rfl, K1⟩
  ·have e1 : decide (x.n ≤ k ∧ k ≤ x.m) = false := by simp [h1]
   rw [e1]
   have h2 : decide (x.n ≤ k) = false := by simp [h1]
   clear e0 e1 hn R A B hc hb hp h1
   go_enter Tryz.func162, Tryz.ntmps162
   go_wp2_with fail
   refine CN.mono ?_
   rintro e w1 ⟨rfl, K1⟩
   simp only [numR]
   have c2 := (HB.out.kept K1).n
   have c3 := (HB.out.kept K1).m
   clear c0 c1 CN HB
   go_wp2_with fail
   refine (judged_any _ _).mono ?_
   rintro e w2 ⟨rfl, rfl⟩
   go_wp2
   go_ret
   exact ⟨rfl, K1⟩
structure PQ (w : World) (P N g : Nat) (s : Sg) (a : Option Addr) (ca : Nat) (v : Value) (x : Ng) : Prop where
 rd : RD w g s a ca v
 ptr : PB w P g
 node : NB w N x
 fr : Cells w a s.b
theorem PQ.kept {w w' : World} {P N g : Nat} {s : Sg} {a : Option Addr} {ca : Nat} {v : Value} {x : Ng} (h : PQ w P N g s a ca v x) (K : w.grownBy w' none) : PQ w' P N g s a ca v x :=
 ⟨h.rd.kept K, h.ptr.kept K, h.node.kept K, h.fr.keptNone K⟩
theorem box_ptr (g : Nat) (W : World) : (Instr.box 137 (.pointer (some ⟨g, 0, none⟩))).run Tryz.prog W = .ok (.pointer (some ⟨W.heap.size, 0, none⟩)) (W.alloc (.cells #[.pointer (some ⟨g, 0, none⟩)] 137)) := by kernel_rfl
set_option maxHeartbeats 2000000 in
theorem ports_any (s : Sg) (a : Option Addr) (ca : Nat) (g : Nat) (v : Value) (x : Ng) (w : World) (R : RD w g s a ca v) (hc : Cells w a s.b) (hb : s.b.length ≤ 65535) (hp : (carrierM s.v x.of).1 ≤ 65535) :
  Calls Tryz.prog 151 #[.pointer (some ⟨g, 0, none⟩), .agg x.cells.toArray] w fun e w' => e = .returned (.int .i64 (portsM s x)) ∧ w.grownBy w' none := by
 have HBX := box_ng x
 have HBP := box_ptr g
 have K0 := World.grownBy_alloc w (.cells #[.pointer (some ⟨g, 0, none⟩)] 137) none
 have K1 := World.grownBy_alloc (w.alloc (.cells #[.pointer (some ⟨g, 0, none⟩)] 137)) (.cells x.cells.toArray 52) none
 have A1 : PB (w.alloc (.cells #[.pointer (some ⟨g, 0, none⟩)] 137)) w.heap.size g := VAt.alloc _ _ _
 have B1 := NB.alloc (w.alloc (.cells #[.pointer (some ⟨g, 0, none⟩)] 137)) x
 rw [show (w.alloc (.cells #[.pointer (some ⟨g, 0, none⟩)] 137)).heap.size = w.heap.size + 1 by simp] at B1
 have Q0 : PQ ((w.alloc (.cells #[.pointer (some ⟨g, 0, none⟩)] 137)).alloc (.cells x.cells.toArray 52)) w.heap.size (w.heap.size + 1) g s a ca v x := ⟨(R.kept K0).kept K1, A1.kept K1, B1, (hc.keptNone K0).keptNone K1⟩
 have G0 := grown_trans K0 K1
 clear K0 K1 A1 B1 R hc
 have CC : ∀ (W : World) (Q : PQ W w.heap.size (w.heap.size + 1) g s a ca v x), Calls Tryz.prog 161 #[.pointer (some ⟨g, 0, none⟩), .int .i64 x.of] W fun e w' => e = .returned (.tuple #[.int .i64 ((carrierM s.v x.of).1 : Int), .bool (carrierM s.v x.of).2]) ∧ W.grownBy w' none := fun W Q => carrier_any s a ca g v x.of W Q.rd
 have CP : ∀ (W : World) (p : Nat) (hp : p ≤ 131071) (Q : PQ W w.heap.size (w.heap.size + 1) g s a ca v x), Calls Tryz.prog 162 #[.int .i64 (p : Int), .pointer (some ⟨w.heap.size, 0, none⟩), .pointer (some ⟨w.heap.size + 1, 0, none⟩)] W fun e w' => e = .returned (.int .i64 (portM s x p)) ∧ W.grownBy w' none := fun W p hp Q => port1_any s a ca g w.heap.size (w.heap.size + 1) v x p W Q.rd Q.ptr Q.node Q.fr hb hp
 have HE : Hid (portsM s x = if (carrierM s.v x.of).2 = false then 0 else sidedM x.side (portM s x (carrierM s.v x.of).1) (portM s x ((carrierM s.v x.of).1 + 2))) := rfl
 obtain ⟨E, hE⟩ : ∃ E, portsM s x = E := ⟨_, rfl⟩
 rw [hE] at HE ⊢
 clear hE
 obtain ⟨X, hX⟩ : ∃ X, x.cells.toArray = X := ⟨_, rfl⟩
 rw [hX] at HBX G0 Q0 ⊢
 go_enter Tryz.func151, Tryz.ntmps151
 go_upto_region 1 with fail
 generalize (w.alloc (.cells #[.pointer (some ⟨g, 0, none⟩)] 137)).alloc (.cells X 52) = w1 at *
 generalize w.heap.size + 1 = N at *
 generalize w.heap.size = P at *
 clear HBX HBP
 have c0 := Q0.ptr.ptr
 have c1 := Q0.node.of
 obtain ⟨cp, hcp⟩ : ∃ cp, (carrierM s.v x.of).1 = cp := ⟨_, rfl⟩
 obtain ⟨cb, hcb⟩ : ∃ cb, (carrierM s.v x.of).2 = cb := ⟨_, rfl⟩
 rw [hcp, hcb] at HE CC
 rw [hcp] at hp
 clear hcp hcb
 go_wp2_with fail
 refine (CC _ Q0).mono ?_
 rintro e w2 ⟨rfl, K2⟩
 have Q2 := Q0.kept K2
 have G2 := grown_trans G0 K2
 clear c0 c1 Q0 G0 K2 CC
 cases cb with
 | false =>
  have HF : Hid (E = 0) := HE.out
  clear HE
  go_wp2
  go_ret
  exact ⟨ret_int HF.out.symm, G2⟩
 | true =>
  have HF : Hid (E = sidedM x.side (portM s x cp) (portM s x (cp + 2))) := HE.out
  have q : IntKind.i64.wrap ((cp : Int) + 2) = ((cp + 2 : Nat) : Int) := by rw [IntKind.wrap_i64]; omega
  have HP : Hid (cp ≤ 65535) := hp
  clear HE hp
  go_upto_region 5 with fail
  have HQ : Hid (PQ w2 P N g s a ca v x) := Q2
  have HG2 : Hid (w.grownBy w2 none) := G2
  clear Q2 G2
  refine wp_region_held_drew (S := fun W => PQ W P N g s a ca v x ∧ w2.grownBy W none) (by kernel_rfl) (⟨HQ.out.kept (grown_drewN w2 1 none), grown_drewN w2 1 none⟩) (fun hHeld => ?_)
  refine wpT (i := 0) (v := .pointer (some ⟨N, 6, none⟩)) rfl (Or.inl ⟨by rfl, fun W hW => ?_⟩) hHeld ?_
  ·clear hW
   go_simp
  try simp only [Act.put, a0, a1, a3, a4, a5]
  refine wpT (i := 1) (v := .int .i64 x.side) rfl (Or.inl ⟨by rfl, fun W hW => ?_⟩) hHeld ?_
  ·have c6 := hW.1.node.side
   clear hW
   go_simp
  try simp only [Act.put, a0, a1, a2, a3, a4, a5]
  refine wpT (i := 2) (v := .func (.func 162) #[] #[.pointer (some ⟨P, 0, none⟩), .pointer (some ⟨N, 0, none⟩)]) rfl (Or.inl ⟨by rfl, fun W hW => ?_⟩) hHeld ?_
  ·clear hW
   go_simp
  try simp only [Act.put, a0, a1, a2, a3, a4, a5]
  refine wpT (i := 3) (v := .int .i64 (cp : Int)) rfl (Or.inl ⟨by rfl, fun W hW => ?_⟩) hHeld ?_
  ·clear hW
   go_simp
  try simp only [Act.put, a0, a1, a2, a3, a4, a5]
  refine wpT (i := 5) (v := .func (.func 162) #[] #[.pointer (some ⟨P, 0, none⟩), .pointer (some ⟨N, 0, none⟩)]) rfl (Or.inl ⟨by rfl, fun W hW => ?_⟩) hHeld ?_
  ·clear hW
   go_simp
  try simp only [Act.put, a0, a1, a2, a3, a4, a5]
  refine wpT (i := 6) (v := .int .i64 (cp : Int)) rfl (Or.inl ⟨by rfl, fun W hW => ?_⟩) hHeld ?_
  ·clear hW
   go_simp
  try simp only [Act.put, a0, a1, a2, a3, a4, a5]
  refine wpT (i := 7) (v := .int .i64 ((cp + 2 : Nat) : Int)) rfl (Or.inl ⟨by rfl, fun W hW => ?_⟩) hHeld ?_
  ·clear hW
   go_simp
  try simp only [Act.put, a0, a1, a2, a3, a4, a5]
  refine wpR (rs := [4]) (AllReadyH.cons rfl (fun K hK => ?_) AllReadyH.nil)
  go_simp
  refine (CP _ cp (by have := HP.out; omega) hHeld.1).mono ?_
  rintro e w3 ⟨rfl, K3⟩
  go_wp2_with fail
  refine hK.out _ _ (⟨hHeld.1.kept K3, grown_trans hHeld.2 K3⟩) (fun hHeld => ?_)
  clear hK K
  try simp only [Act.put, a0, a1, a2, a3, a4, a5]
  refine wpR (rs := [8]) (AllReadyH.cons rfl (fun K hK => ?_) AllReadyH.nil)
  go_simp
  refine (CP _ (cp + 2) (by have := HP.out; omega) hHeld.1).mono ?_
  rintro e w4 ⟨rfl, K4⟩
  go_wp2_with fail
  refine hK.out _ _ (⟨hHeld.1.kept K4, grown_trans hHeld.2 K4⟩) (fun hHeld => ?_)
  clear hK K
  try simp only [Act.put, a0, a1, a2, a3, a4, a5]
  refine wpR (rs := [9]) (AllReadyH.cons rfl (fun K hK => ?_) AllReadyH.nil)
  go_simp
  refine (sided_any _ _ _ _).mono ?_
  rintro e w5 ⟨rfl, K5⟩
  go_wp2_with fail
  refine hK.out _ _ (K5 ▸ hHeld) (fun hHeld => ?_)
  clear hK K
  try simp only [Act.put, a0, a1, a2, a3, a4, a5]
  refine wpT (i := 10) (v := .int .i64 (sidedM x.side (portM s x cp) (portM s x (cp + 2)))) rfl (Or.inl ⟨by rfl, fun W hW => ?_⟩) hHeld ?_
  ·clear hW
   go_simp
  try simp only [Act.put, a0, a1, a2, a3, a4, a5]
  refine wpAnyH_done (by kernel_rfl) ?_ _

  have G := grown_trans HG2.out hHeld.2
  clear hHeld
  go_wp2
  go_ret
  exact ⟨ret_int HF.out.symm, G⟩
theorem Cells.part {w : World} {a : Option Addr} {xs : List UInt8} (h : Cells w a xs) {p n : Nat} (hp : p + n ≤ xs.length) (hn : 0 < n) : ∃ b o, a = some ⟨b, o, none⟩ ∧ Cells w (some ⟨b, o + p, none⟩) ((xs.drop p).take n) := by
 obtain ⟨b, o, rfl, h1⟩ := h.addr (k := p) (by omega)
 refine ⟨b, o, rfl, (fun e => by cases e), fun ad had j hj => ?_⟩
 cases had
 have hj2 : j < n := by rw [List.length_take] at hj; omega
 have := h1 (p + j) (by omega)
 rw [Addr.add_lit, show o + p + j = o + (p + j) by omega, this]
 simp
 rfl
theorem Cells.take {w : World} {b o : Nat} {xs : List UInt8} (h : Cells w (some ⟨b, o, none⟩) xs) (n : Nat) : Cells w (some ⟨b, o, none⟩) (xs.take n) := by
 refine ⟨(fun e => by cases e), fun ad had j hj => ?_⟩
 cases had
 have hj2 : j < xs.length := by rw [List.length_take] at hj; omega
 rw [h.2 _ rfl j hj2]
 simp
theorem bits_xor8 (x y : UInt8) : bits .xor .u8 (x.toNat : Int) (y.toNat : Int) = ((x.toNat ^^^ y.toNat : Nat) : Int) := by
 have hx := x.toNat_lt
 have hy := y.toNat_lt
 have : x.toNat ^^^ y.toNat < 256 := Nat.xor_lt_two_pow (n := 8) hx hy
 exact u8_xor_nat x.toNat y.toNat (by omega) (by omega)
theorem mask_yes {xs ys : List UInt8} {n q r : Nat} (hl : xs.length = ys.length) (hq : n / 8 = q) (hr : n % 8 = r) : (maskV n xs = maskV n ys) ↔ (xs.take q = ys.take q ∧ (r = 0 ∨ ((xs.getD q 0).toNat ^^^ (ys.getD q 0).toNat) / 2 ^ (8 - r) = 0)) := by
 rw [mask_alike xs ys n hl, hq, hr, xor_shift]
set_option maxHeartbeats 2000000 in
theorem valike_any (s : Sg) (a : Option Addr) (ca : Nat) (p : Nat) (db dof : Nat) (cd : Nat) (ad : List UInt8) (n : Nat) (hb : s.b.length ≤ 65535) (hcap : s.b.length ≤ ca) (w : World) (hc : Cells w a s.b) (hd : Cells w (some ⟨db, dof, none⟩) ad) (hcd : ad.length ≤ cd) (h0 : 0 < ad.length) (hp : p + ad.length ≤ s.b.length) (hn : n ≤ 8 * ad.length) :
  Calls Tryz.prog 181 #[.agg (viewC s a ca), .int .i64 (p : Int), .slice (some ⟨db, dof, none⟩) ad.length cd, .int .i64 (n : Int)] w fun e w' => e = .returned (.bool (alikeM s.b p ad (n : Int))) ∧ w.grownBy w' none := by
 obtain ⟨b, o, ha, C1⟩ := hc.part hp h0
 obtain ⟨q, hq⟩ : ∃ q, n / 8 = q := ⟨_, rfl⟩
 obtain ⟨r, hr⟩ : ∃ r, n % 8 = r := ⟨_, rfl⟩
 obtain ⟨L, hL⟩ : ∃ L, ad.length = L := ⟨_, rfl⟩
 rw [hL] at hcd h0 hp hn C1 ⊢
 obtain ⟨own, hown⟩ : ∃ own, (s.b.drop p).take L = own := ⟨_, rfl⟩
 have hol : own.length = L := by rw [← hown, List.length_take, List.length_drop]; omega
 have HA : Hid (alikeM s.b p ad (n : Int) = decide (own.take q = ad.take q ∧ (r = 0 ∨ ((own.getD q 0).toNat ^^^ (ad.getD q 0).toNat) / 2 ^ (8 - r) = 0))) := by
  show _ = _
  unfold alikeM
  rw [hL, hown, Int.toNat_natCast]
  exact decide_eq_decide.2 (mask_yes (by omega) hq hr)
 rw [hown] at C1
 obtain ⟨E, hE⟩ : ∃ E, alikeM s.b p ad (n : Int) = E := ⟨_, rfl⟩
 rw [hE] at HA ⊢
 have HQ : Hid (q ≤ L ∧ r < 8 ∧ (r ≠ 0 → q < L)) := ⟨by omega, by omega, by omega⟩
 have HBX := box_view s a ca
 have h1 := VB.alloc w s a ca
 have h3 := World.grownBy_alloc w (.cells (viewC s a ca) 71) none
 obtain ⟨X, hX⟩ : ∃ X, viewC s a ca = X := ⟨_, rfl⟩
 rw [hX] at HBX ⊢
 go_enter Tryz.func181, Tryz.ntmps181
 go_upto_region 1 with fail
 rw [← hX] at *
 generalize w.alloc (.cells (viewC s a ca) 71) = w1 at *
 generalize w.heap.size = B at *
 clear HBX hX X
 have c := h1.frame
 rw [ha] at c
 go_upto_region 3 with fail
 have hq1 : (n : Int) / 8 = (q : Int) := by omega
 have hr1 : (n : Int) % 8 = (r : Int) := by omega
 obtain ⟨cp, hcp⟩ : ∃ cp, ca - p = cp := ⟨_, rfl⟩
 have hqc : q ≤ cp := by have := HQ.out.1; omega
 have hqd : q ≤ cd := by have := HQ.out.1; omega
 have hLc : Hid (L ≤ cp) := by show L ≤ cp; omega
 rw [hq1, hr1, hcp, show p + L - p = L by omega]
 have D1 : Hid (Cells w1 (some ⟨b, o + p, none⟩) own) := C1.keptNone h3
 have D2 : Hid (Cells w1 (some ⟨db, dof, none⟩) ad) := hd.keptNone h3
 have HO : Hid (own.length = L ∧ ad.length = L) := ⟨hol, hL⟩
 have HG : Hid (w.grownBy w1 none) := h3
 clear hq1 hr1 hcp hb hcap hc hd hcd h0 hp hn ha C1 hq hr hL hown hol hE h1 h3 c
 have CE : ∀ W, w1.grownBy W none → Calls Tryz.prog 138 #[.slice (some ⟨b, o + p, none⟩) q cp, .slice (some ⟨db, dof, none⟩) q cd] W fun e w' => e = .returned (.bool (decide (own.take q = ad.take q))) ∧ W = w' := fun W K => by
  have h := equal_any (some ⟨b, o + p, none⟩) (some ⟨db, dof, none⟩) cp cd (own.take q) (ad.take q) W ((D1.out.keptNone K).take q) ((D2.out.keptNone K).take q)
  rw [List.length_take, List.length_take, HO.out.1, HO.out.2, Nat.min_eq_left HQ.out.1] at h
  exact h
 have hqL : q ≤ L := HQ.out.1
 generalize o + p = O at *
 refine wp_region_held_drew (S := fun W => w1.grownBy W none) (by kernel_rfl) (grown_drewN w1 1 none) (fun hHeld => ?_)
 refine wpT (i := 0) (v := .slice (some ⟨b, O, none⟩) L cp) rfl (Or.inl ⟨by rfl, fun W hW => ?_⟩) hHeld ?_
 ·clear hW
  go_simp
 try simp only [Act.put, a0, a1, a3, a4, a5]
 refine wpT (i := 1) (v := .int .i64 (q : Int)) rfl (Or.inl ⟨by rfl, fun W hW => ?_⟩) hHeld ?_
 ·clear hW
  go_simp
 try simp only [Act.put, a0, a1, a2, a3, a4, a5]
 refine wpT (i := 2) (v := .slice (some ⟨b, O, none⟩) q cp) rfl (Or.inl ⟨by rfl, fun W hW => ?_⟩) hHeld ?_
 ·clear hW
  go_simp
 try simp only [Act.put, a0, a1, a2, a3, a4, a5]
 refine wpT (i := 3) (v := .slice (some ⟨db, dof, none⟩) L cd) rfl (Or.inl ⟨by rfl, fun W hW => ?_⟩) hHeld ?_
 ·clear hW
  go_simp
 try simp only [Act.put, a0, a1, a2, a3, a4, a5]
 refine wpT (i := 4) (v := .int .i64 (q : Int)) rfl (Or.inl ⟨by rfl, fun W hW => ?_⟩) hHeld ?_
 ·clear hW
  go_simp
 try simp only [Act.put, a0, a1, a2, a3, a4, a5]
 refine wpT (i := 5) (v := .slice (some ⟨db, dof, none⟩) q cd) rfl (Or.inl ⟨by rfl, fun W hW => ?_⟩) hHeld ?_
 ·clear hW
  go_simp
 try simp only [Act.put, a0, a1, a2, a3, a4, a5]
 refine wpR (rs := [6]) (AllReadyH.cons rfl (fun K hK => ?_) AllReadyH.nil)
 go_simp
 refine (CE _ hHeld).mono ?_
 rintro e w2 ⟨rfl, K2⟩
 go_wp2_with fail
 refine hK.out _ _ (K2 ▸ hHeld) (fun hHeld => ?_)
 clear hK K
 try simp only [Act.put, a0, a1, a2, a3, a4, a5]
 refine wpT (i := 7) (v := .bool (!decide (own.take q = ad.take q))) rfl (Or.inl ⟨by rfl, fun W hW => ?_⟩) hHeld ?_
 ·clear hW
  go_simp
 try simp only [Act.put, a0, a1, a2, a3, a4, a5]
 refine wpAnyH_done (by kernel_rfl) ?_ _

 have HK : Hid (w1.grownBy w2 none) := hHeld
 clear hHeld CE
 by_cases heq : own.take q = ad.take q
 case neg =>
  have HF : Hid (E = false) := by
   show E = false
   rw [HA.out, decide_eq_false]
   exact fun h => heq h.1
  rw [decide_eq_false heq]
  clear heq HA
  go_wp2
  go_ret
  exact ⟨ret_bool HF.out.symm, grown_trans HG.out HK.out⟩
 case pos =>
  rw [decide_eq_true heq]
  by_cases hr0 : r = 0
  ·have HF : Hid (E = true) := by
    show E = true
    rw [HA.out, decide_eq_true]
    exact ⟨heq, .inl hr0⟩
   subst hr0
   clear heq HA
   go_upto_region 5 with fail
   refine wp_region_held_drew (S := fun W => w1.grownBy W none) (by kernel_rfl) (grown_trans HK.out (grown_drewN w2 1 none)) (fun hHeld => ?_)
   refine wpT (i := 0) (v := .int .i64 0) rfl (Or.inl ⟨by rfl, fun W hW => ?_⟩) hHeld ?_
   ·clear hW
    go_simp
   try simp only [Act.put, a0, a1, a3, a4, a5]
   refine wpT (i := 1) (v := .bool true) rfl (Or.inl ⟨by rfl, fun W hW => ?_⟩) hHeld ?_
   ·clear hW
    go_simp
   try simp only [Act.put, a0, a1, a2, a3, a4, a5]
   refine wpT (i := 2) (v := .bool true) rfl (Or.inl ⟨by rfl, fun W hW => ?_⟩) hHeld ?_
   ·clear hW
    go_simp
   try simp only [Act.put, a0, a1, a2, a3, a4, a5]
   refine wpT (i := 3) (v := undef) rfl (Or.inr ⟨by rfl, rfl⟩) hHeld ?_
   try simp only [Act.put, a0, a1, a2, a3, a4, a5]
   refine wpT (i := 4) (v := undef) rfl (Or.inr ⟨by rfl, rfl⟩) hHeld ?_
   try simp only [Act.put, a0, a1, a2, a3, a4, a5]
   refine wpT (i := 5) (v := undef) rfl (Or.inr ⟨by rfl, rfl⟩) hHeld ?_
   try simp only [Act.put, a0, a1, a2, a3, a4, a5]
   refine wpT (i := 6) (v := undef) rfl (Or.inr ⟨by rfl, rfl⟩) hHeld ?_
   try simp only [Act.put, a0, a1, a2, a3, a4, a5]
   refine wpT (i := 7) (v := undef) rfl (Or.inr ⟨by rfl, rfl⟩) hHeld ?_
   try simp only [Act.put, a0, a1, a2, a3, a4, a5]
   refine wpT (i := 8) (v := undef) rfl (Or.inr ⟨by rfl, rfl⟩) hHeld ?_
   try simp only [Act.put, a0, a1, a2, a3, a4, a5]
   refine wpT (i := 9) (v := undef) rfl (Or.inr ⟨by rfl, rfl⟩) hHeld ?_
   try simp only [Act.put, a0, a1, a2, a3, a4, a5]
   refine wpT (i := 10) (v := undef) rfl (Or.inr ⟨by rfl, rfl⟩) hHeld ?_
   try simp only [Act.put, a0, a1, a2, a3, a4, a5]
   refine wpT (i := 11) (v := undef) rfl (Or.inr ⟨by rfl, rfl⟩) hHeld ?_
   try simp only [Act.put, a0, a1, a2, a3, a4, a5]
   refine wpT (i := 12) (v := undef) rfl (Or.inr ⟨by rfl, rfl⟩) hHeld ?_
   try simp only [Act.put, a0, a1, a2, a3, a4, a5]
   refine wpT (i := 13) (v := undef) rfl (Or.inr ⟨by rfl, rfl⟩) hHeld ?_
   try simp only [Act.put, a0, a1, a2, a3, a4, a5]
   refine wpT (i := 14) (v := undef) rfl (Or.inr ⟨by rfl, rfl⟩) hHeld ?_
   try simp only [Act.put, a0, a1, a2, a3, a4, a5]
   refine wpT (i := 15) (v := undef) rfl (Or.inr ⟨by rfl, rfl⟩) hHeld ?_
   try simp only [Act.put, a0, a1, a2, a3, a4, a5]
   refine wpT (i := 16) (v := .bool true) rfl (Or.inl ⟨by rfl, fun W hW => ?_⟩) hHeld ?_
   ·clear hW
    go_simp
   try simp only [Act.put, a0, a1, a2, a3, a4, a5]
   refine wpT (i := 17) (v := .bool true) rfl (Or.inl ⟨by rfl, fun W hW => ?_⟩) hHeld ?_
   ·clear hW
    go_simp
   try simp only [Act.put, a0, a1, a2, a3, a4, a5]
   refine wpAnyH_done (by kernel_rfl) ?_ _

   have G := grown_trans HG.out hHeld
   clear hHeld
   go_wp2
   go_ret
   exact ⟨ret_bool HF.out.symm, G⟩
  ·have hqlt : q < L := HQ.out.2.2 hr0
   obtain ⟨x, hx⟩ : ∃ x, own.getD q 0 = x := ⟨_, rfl⟩
   obtain ⟨y, hy⟩ : ∃ y, ad.getD q 0 = y := ⟨_, rfl⟩
   have HF : Hid (E = decide ((x.toNat ^^^ y.toNat) / 2 ^ (8 - r) = 0)) := by
    show E = _
    rw [HA.out, hx, hy]
    apply decide_eq_decide.2
    constructor
    ·rintro ⟨-, h | h⟩
     ·exact absurd h hr0
     ·exact h
    ·exact fun h => ⟨heq, .inr h⟩
   have HX : Hid ((∀ W, w1.grownBy W none → W.cell? ⟨b, O + q, none⟩ = some (.int .u8 (x.toNat : Int))) ∧ (∀ W, w1.grownBy W none → W.cell? ⟨db, dof + q, none⟩ = some (.int .u8 (y.toNat : Int)))) := by
    have l1 := HO.out.1
    have l2 := HO.out.2
    refine ⟨fun W K => ?_, fun W K => ?_⟩
    ·have := (D1.out.keptNone K).2 _ rfl q (by omega)
     rw [Addr.add_lit] at this
     rw [this, ← hx, List.getD_eq_getElem?_getD, List.getElem?_eq_getElem (by omega)]
     rfl
    ·have := (D2.out.keptNone K).2 _ rfl q (by omega)
     rw [Addr.add_lit] at this
     rw [this, ← hy, List.getD_eq_getElem?_getD, List.getElem?_eq_getElem (by omega)]
     rfl
   have hxy := bits_xor8 x y
   obtain ⟨Z, hZ⟩ : ∃ Z, (x.toNat ^^^ y.toNat) / 2 ^ (8 - r) = Z := ⟨_, rfl⟩
   rw [hZ] at HF
   have HZ : Hid (((x.toNat ^^^ y.toNat : Nat) : Int) / 2 ^ (8 - r) = (Z : Int)) := by
    show _ = _
    rw [← hZ]
    simp
   have HZ2 : Hid (((Z : Int) == 0) = decide (Z = 0)) := by
    show _ = _
    rw [Bool.eq_iff_iff]
    simp
   clear hZ
   have hr8 : IntKind.i64.wrap (8 - (r : Int)) = ((8 - r : Nat) : Int) := by rw [IntKind.wrap_i64]; have := HQ.out.2.1; omega
   have hrn : ((r : Int) == 0) = false := by rw [beq_eq_false_iff_ne]; omega
   clear heq HA hr0 hx hy
   go_upto_region 5 with fail
   refine wp_region_held_drew (S := fun W => w1.grownBy W none) (by kernel_rfl) (grown_trans HK.out (grown_drewN w2 1 none)) (fun hHeld => ?_)
   refine wpT (i := 0) (v := .int .i64 (r : Int)) rfl (Or.inl ⟨by rfl, fun W hW => ?_⟩) hHeld ?_
   ·clear hW
    go_simp
   try simp only [Act.put, a0, a1, a3, a4, a5]
   refine wpT (i := 1) (v := .bool false) rfl (Or.inl ⟨by rfl, fun W hW => ?_⟩) hHeld ?_
   ·clear hW
    go_simp
   try simp only [Act.put, a0, a1, a2, a3, a4, a5]
   refine wpT (i := 2) (v := .bool false) rfl (Or.inl ⟨by rfl, fun W hW => ?_⟩) hHeld ?_
   ·clear hW
    go_simp
   try simp only [Act.put, a0, a1, a2, a3, a4, a5]
   refine wpT (i := 3) (v := .slice (some ⟨b, O, none⟩) L cp) rfl (Or.inl ⟨by rfl, fun W hW => ?_⟩) hHeld ?_
   ·clear hW
    go_simp
   try simp only [Act.put, a0, a1, a2, a3, a4, a5]
   refine wpT (i := 4) (v := .int .i64 (q : Int)) rfl (Or.inl ⟨by rfl, fun W hW => ?_⟩) hHeld ?_
   ·clear hW
    go_simp
   try simp only [Act.put, a0, a1, a2, a3, a4, a5]
   refine wpT (i := 5) (v := .pointer (some ⟨b, O + q, none⟩)) rfl (Or.inl ⟨by rfl, fun W hW => ?_⟩) hHeld ?_
   ·clear hW
    go_simp
   try simp only [Act.put, a0, a1, a2, a3, a4, a5]
   refine wpT (i := 6) (v := .int .u8 (x.toNat : Int)) rfl (Or.inl ⟨by rfl, fun W hW => ?_⟩) hHeld ?_
   ·have c6 := HX.out.1 W hW
    clear hW
    go_simp
   try simp only [Act.put, a0, a1, a2, a3, a4, a5]
   refine wpT (i := 7) (v := .slice (some ⟨db, dof, none⟩) L cd) rfl (Or.inl ⟨by rfl, fun W hW => ?_⟩) hHeld ?_
   ·clear hW
    go_simp
   try simp only [Act.put, a0, a1, a2, a3, a4, a5]
   refine wpT (i := 8) (v := .int .i64 (q : Int)) rfl (Or.inl ⟨by rfl, fun W hW => ?_⟩) hHeld ?_
   ·clear hW
    go_simp
   try simp only [Act.put, a0, a1, a2, a3, a4, a5]
   refine wpT (i := 9) (v := .pointer (some ⟨db, dof + q, none⟩)) rfl (Or.inl ⟨by rfl, fun W hW => ?_⟩) hHeld ?_
   ·clear hW
    go_simp
   try simp only [Act.put, a0, a1, a2, a3, a4, a5]
   refine wpT (i := 10) (v := .int .u8 (y.toNat : Int)) rfl (Or.inl ⟨by rfl, fun W hW => ?_⟩) hHeld ?_
   ·have c7 := HX.out.2 W hW
    clear hW
    go_simp
   try simp only [Act.put, a0, a1, a2, a3, a4, a5]
   refine wpT (i := 11) (v := .int .u8 ((x.toNat ^^^ y.toNat : Nat) : Int)) rfl (Or.inl ⟨by rfl, fun W hW => ?_⟩) hHeld ?_
   ·clear hW
    go_simp
   try simp only [Act.put, a0, a1, a2, a3, a4, a5]
   refine wpT (i := 12) (v := .int .i64 (r : Int)) rfl (Or.inl ⟨by rfl, fun W hW => ?_⟩) hHeld ?_
   ·clear hW
    go_simp
   try simp only [Act.put, a0, a1, a2, a3, a4, a5]
   refine wpT (i := 13) (v := .int .i64 ((8 - r : Nat) : Int)) rfl (Or.inl ⟨by rfl, fun W hW => ?_⟩) hHeld ?_
   ·clear hW
    go_simp
   try simp only [Act.put, a0, a1, a2, a3, a4, a5]
   refine wpT (i := 14) (v := .int .u8 (Z : Int)) rfl (Or.inl ⟨by rfl, fun W hW => ?_⟩) hHeld ?_
   ·have c8 := HZ.out
    clear hW
    go_simp
   try simp only [Act.put, a0, a1, a2, a3, a4, a5]
   refine wpT (i := 15) (v := .bool (decide (Z = 0))) rfl (Or.inl ⟨by rfl, fun W hW => ?_⟩) hHeld ?_
   ·have c9 := HZ2.out
    clear hW
    go_simp
   try simp only [Act.put, a0, a1, a2, a3, a4, a5]
   refine wpT (i := 16) (v := .bool (decide (Z = 0))) rfl (Or.inl ⟨by rfl, fun W hW => ?_⟩) hHeld ?_
   ·clear hW
    go_simp
   try simp only [Act.put, a0, a1, a2, a3, a4, a5]
   refine wpT (i := 17) (v := .bool (decide (Z = 0))) rfl (Or.inl ⟨by rfl, fun W hW => ?_⟩) hHeld ?_
   ·clear hW
    go_simp
   try simp only [Act.put, a0, a1, a2, a3, a4, a5]
   refine wpAnyH_done (by kernel_rfl) ?_ _

   have G := grown_trans HG.out hHeld
   clear hHeld
   go_wp2
   go_ret
   exact ⟨ret_bool HF.out.symm, G⟩

end Go.Proofs.YtcodofamdhcfiaaGreat
