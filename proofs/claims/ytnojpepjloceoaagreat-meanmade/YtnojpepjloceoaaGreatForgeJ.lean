/-
  Package forge as landed: what may be wrong, and wrong.
-/
import Derived.Test.YtnojpepjloceoaaGreatForgeI
import Derived.Test.YtnojpepjloceoaaGreatLotP7
import Derived.Laws.EntriesVeiled
import Derived.BigQuiet
import Derived.Shelf.Abstract
namespace Go.Proofs.YtnojpepjloceoaaGreat
open Go.RowKit
set_option maxRecDepth 100000

/-- A whole row loaded, guarded or not. -/
theorem wpList_load_row_g {P : Program} {ops : Array Oper} {rest : List Oper} {o : Oper} {a : Act} {w : World} {Q : Exit → Act → World → Prop} (hw : Region.wanted o (yielded ops a.tmps) = true) (ty : TypeId) (x : Operand) (ho : o.op = .load ty x)
    (g : Nat) (hx : a.eval x = .pointer (some ⟨g, 0, none⟩)) (t : TypeId) (cs : Array Value) (d : TypeDesc) (hv : VAt w g t cs) (hu : P.underlying ty = some d) (hd : (match d with | .struct _ | .array _ _ => true | _ => false) = true) (hi : (P.info? ty).map (·.size) = some cs.size)
    (h : wpList P ops Q rest (a.put o.dst (.agg cs)) w) : wpList P ops Q (o :: rest) a w :=
  BigFrame.wpList_want hw fun _ hK => by
    unfold Oper.wp execOp
    simp only [ho, hx, Instr.loadAt, Instr.sureAddr, Sem.run_bind, Sem.run_pure, Result.andThen_ok, run_loadVar_row w g t ty cs (0, 0) d hv hu hd hi]
    exact hK _ _ h

/-! What may be wrong, one by one, as the program asks. -/
def topS (l : Lk) : Nat := if l.mp = 1 then 4095 else 16777215
def wq1 (l : Lk) (s : Sp) : Bool := !s.wide && !l.acfc
def wq2 (l : Lk) (s : Sp) : Bool := s.multi && ((l.mp == 0) || decide ((topS l : Int) < (s.seq : Int)))
def wq3 (s : Sp) : Bool := !s.multi && ((s.beg || s.fin) || ((s.seq : Int) != 0))
def wq4 (l : Lk) (s : Sp) : Bool := (!s.multi && ((s.proto : Int) == 61)) && (l.mp != 0)
def wq5 (s : Sp) : Bool := !saidB s && ((((s.proto : Int) != 0) || (s.next != 0)) || s.ports)
def wq6 (s : Sp) : Bool := saidB s && !isProtB s.proto
def wq7 (s : Sp) : Bool := !ipB s && (((s.next != 0) || s.ports) || !(zeroB s.src 0 && zeroB s.dst 0))
def wq8 (s : Sp) : Bool := decide (s.next < 0) || decide ((255 : Int) < s.next)
def wq9 (s : Sp) : Bool := ((s.proto : Int) == 33) && !(zeroB s.src 4 && zeroB s.dst 4)
def wq10 (s : Sp) : Bool := !s.ports && (((s.frm : Int) != 0) || ((s.til : Int) != 0))
def wq11 (s : Sp) : Bool := decide ((65535 : Int) < (s.frm : Int)) || decide ((65535 : Int) < (s.til : Int))
def wq12 (l : Lk) (s : Sp) : Bool := ((!s.wide && !s.multi) && ((s.proto : Int) == 255)) && (((fieldV l s.plain s.proto).length : Int) == 1)

/-- What a question reads: the link, the spec, and two answers in their blocks. -/
structure QI (B C D E : Nat) (l : Lk) (s : Sp) (a : Option Addr) (ca : Nat) (W : World) : Prop where
  lk : VAt W B 23 (lkA l)
  sp : SAt W C s a ca
  sd : W.cell? ⟨D, 0, none⟩ = some (.bool (saidB s))
  ip : W.cell? ⟨E, 0, none⟩ = some (.bool (ipB s))
theorem QI.kept {B C D E : Nat} {l : Lk} {s : Sp} {a : Option Addr} {ca : Nat} {W W' : World} (h : QI B C D E l s a ca W) (K : W.grownBy W' none) : QI B C D E l s a ca W' :=
  ⟨h.lk.kept K, h.sp.kept K, K.cell h.sd (by simp), K.cell h.ip (by simp)⟩

set_option maxRecDepth 100000 in
set_option maxHeartbeats 1000000 in
theorem wq1_any (B C D E : Nat) (l : Lk) (s : Sp) (a : Option Addr) (ca : Nat) (W : World) (h : QI B C D E l s a ca W) :
    Calls Tryz.prog 24 #[.pointer (some ⟨C, 0, none⟩), .pointer (some ⟨B, 0, none⟩)] W fun e w' => e = .returned (.bool (wq1 l s)) ∧ W.grownBy w' none := by
  have c_wide := h.sp.eight.2.1
  have c_acfc := (show W.cell? ⟨B, 0, none⟩ = some (.bool l.acfc) from h.lk.cell 0)
  clear h
  cases h0 : s.wide <;> cases h1 : l.acfc
  all_goals
    rw [h0] at c_wide
    rw [h1] at c_acfc
    go_enter Tryz.func24, Tryz.ntmps24
    go_wp2
    go_ret
    exact ⟨ret_bool (by simp [wq1, h0, h1]), World.grownBy.refl _ _⟩

set_option maxRecDepth 100000 in
set_option maxHeartbeats 1000000 in
theorem wq3_any (B C D E : Nat) (l : Lk) (s : Sp) (a : Option Addr) (ca : Nat) (W : World) (h : QI B C D E l s a ca W) :
    Calls Tryz.prog 27 #[.pointer (some ⟨C, 0, none⟩)] W fun e w' => e = .returned (.bool (wq3 s)) ∧ W.grownBy w' none := by
  have c_multi := h.sp.eight.2.2.1
  have c_beg := h.sp.eight.2.2.2.1
  have c_fin := h.sp.eight.2.2.2.2.1
  have c_seq := h.sp.eight.2.2.2.2.2.1
  clear h
  cases h0 : s.multi <;> cases h1 : s.beg <;> cases h2 : s.fin <;> cases h3 : ((s.seq : Int) != 0)
  all_goals
    rw [h0] at c_multi
    rw [h1] at c_beg
    rw [h2] at c_fin
    go_enter Tryz.func27, Tryz.ntmps27
    go_wp2
    go_ret
    exact ⟨ret_bool (by simp [wq3, h0, h1, h2, h3]), World.grownBy.refl _ _⟩

set_option maxRecDepth 100000 in
set_option maxHeartbeats 1000000 in
theorem wq4_any (B C D E : Nat) (l : Lk) (s : Sp) (a : Option Addr) (ca : Nat) (W : World) (h : QI B C D E l s a ca W) :
    Calls Tryz.prog 28 #[.pointer (some ⟨C, 0, none⟩), .pointer (some ⟨B, 0, none⟩)] W fun e w' => e = .returned (.bool (wq4 l s)) ∧ W.grownBy w' none := by
  have c_multi := h.sp.eight.2.2.1
  have c_proto := h.sp.eight.2.2.2.2.2.2.1
  have c_mp := (show W.cell? ⟨B, 2, none⟩ = some (.int .i64 l.mp) from h.lk.cell 2)
  clear h
  cases h0 : s.multi <;> cases h1 : ((s.proto : Int) == 61) <;> cases h2 : (l.mp != 0)
  all_goals
    rw [h0] at c_multi
    go_enter Tryz.func28, Tryz.ntmps28
    go_wp2
    go_ret
    exact ⟨ret_bool (by simp [wq4, h0, h1, h2]), World.grownBy.refl _ _⟩

set_option maxRecDepth 100000 in
set_option maxHeartbeats 1000000 in
theorem wq5_any (B C D E : Nat) (l : Lk) (s : Sp) (a : Option Addr) (ca : Nat) (W : World) (h : QI B C D E l s a ca W) :
    Calls Tryz.prog 29 #[.pointer (some ⟨D, 0, none⟩), .pointer (some ⟨C, 0, none⟩)] W fun e w' => e = .returned (.bool (wq5 s)) ∧ W.grownBy w' none := by
  have c_sd := h.sd
  have c_proto := h.sp.eight.2.2.2.2.2.2.1
  have c_next := h.sp.eight.2.2.2.2.2.2.2
  have c_ports := h.sp.four.1
  clear h
  cases h0 : saidB s <;> cases h1 : ((s.proto : Int) != 0) <;> cases h2 : (s.next != 0) <;> cases h3 : s.ports
  all_goals
    rw [h0] at c_sd
    rw [h3] at c_ports
    go_enter Tryz.func29, Tryz.ntmps29
    go_wp2
    go_ret
    exact ⟨ret_bool (by simp [wq5, h0, h1, h2, h3]), World.grownBy.refl _ _⟩

set_option maxRecDepth 100000 in
set_option maxHeartbeats 1000000 in
theorem wq8_any (B C D E : Nat) (l : Lk) (s : Sp) (a : Option Addr) (ca : Nat) (W : World) (h : QI B C D E l s a ca W) :
    Calls Tryz.prog 34 #[.pointer (some ⟨C, 0, none⟩)] W fun e w' => e = .returned (.bool (wq8 s)) ∧ W.grownBy w' none := by
  have c_next := h.sp.eight.2.2.2.2.2.2.2
  clear h
  cases h0 : decide (s.next < 0) <;> cases h1 : decide ((255 : Int) < s.next)
  all_goals
    go_enter Tryz.func34, Tryz.ntmps34
    go_wp2
    go_ret
    exact ⟨ret_bool (by simp [wq8, h0, h1]), World.grownBy.refl _ _⟩

set_option maxRecDepth 100000 in
set_option maxHeartbeats 1000000 in
theorem wq10_any (B C D E : Nat) (l : Lk) (s : Sp) (a : Option Addr) (ca : Nat) (W : World) (h : QI B C D E l s a ca W) :
    Calls Tryz.prog 36 #[.pointer (some ⟨C, 0, none⟩)] W fun e w' => e = .returned (.bool (wq10 s)) ∧ W.grownBy w' none := by
  have c_ports := h.sp.four.1
  have c_frm := h.sp.four.2.1
  have c_til := h.sp.four.2.2.1
  clear h
  cases h0 : s.ports <;> cases h1 : ((s.frm : Int) != 0) <;> cases h2 : ((s.til : Int) != 0)
  all_goals
    rw [h0] at c_ports
    go_enter Tryz.func36, Tryz.ntmps36
    go_wp2
    go_ret
    exact ⟨ret_bool (by simp [wq10, h0, h1, h2]), World.grownBy.refl _ _⟩

set_option maxRecDepth 100000 in
set_option maxHeartbeats 1000000 in
theorem wq11_any (B C D E : Nat) (l : Lk) (s : Sp) (a : Option Addr) (ca : Nat) (W : World) (h : QI B C D E l s a ca W) :
    Calls Tryz.prog 37 #[.pointer (some ⟨C, 0, none⟩)] W fun e w' => e = .returned (.bool (wq11 s)) ∧ W.grownBy w' none := by
  have c_frm := h.sp.four.2.1
  have c_til := h.sp.four.2.2.1
  clear h
  cases h0 : decide ((65535 : Int) < (s.frm : Int)) <;> cases h1 : decide ((65535 : Int) < (s.til : Int))
  all_goals
    go_enter Tryz.func37, Tryz.ntmps37
    go_wp2
    go_ret
    exact ⟨ret_bool (by simp [wq11, h0, h1]), World.grownBy.refl _ _⟩

set_option maxRecDepth 100000 in
set_option maxHeartbeats 1000000 in
theorem wq6_any (B C D E : Nat) (l : Lk) (s : Sp) (a : Option Addr) (ca : Nat) (W : World) (h : QI B C D E l s a ca W) :
    Calls Tryz.prog 30 #[.pointer (some ⟨D, 0, none⟩), .pointer (some ⟨C, 0, none⟩)] W fun e w' => e = .returned (.bool (wq6 s)) ∧ W.grownBy w' none := by
  have c_sd := h.sd
  have c_proto := h.sp.eight.2.2.2.2.2.2.1
  have HP := isProt_any s.proto W h.sp.2.proto
  clear h
  cases h0 : saidB s with
  | false =>
    rw [h0] at c_sd
    clear HP
    go_enter Tryz.func30, Tryz.ntmps30
    go_wp2
    go_ret
    exact ⟨ret_bool (by simp [wq6, h0]), World.grownBy.refl _ _⟩
  | true =>
    rw [h0] at c_sd
    go_enter Tryz.func30, Tryz.ntmps30
    go_wp2_with fail
    refine HP.mono ?_
    rintro e w1 ⟨rfl, rfl⟩
    clear HP
    go_wp2
    go_ret
    exact ⟨ret_bool (by simp [wq6, h0]), World.grownBy.refl _ _⟩

set_option maxRecDepth 100000 in
set_option maxHeartbeats 1000000 in
theorem wq7_any (B C D E : Nat) (l : Lk) (s : Sp) (a : Option Addr) (ca : Nat) (W : World) (h : QI B C D E l s a ca W) :
    Calls Tryz.prog 32 #[.pointer (some ⟨E, 0, none⟩), .pointer (some ⟨C, 0, none⟩)] W fun e w' => e = .returned (.bool (wq7 s)) ∧ W.grownBy w' none := by
  have c_ip := h.ip
  have c_next := h.sp.eight.2.2.2.2.2.2.2
  have c_ports := h.sp.four.1
  have RS := h.sp.srcR
  have RD := h.sp.dstR
  have HS1 : Hid ((Tryz.prog.info? 25).map (·.size) = some (s.src.map bv).length) := by
    show _ = _
    rw [List.length_map, h.sp.2.src]; exact size25
  have HS2 : Hid ((Tryz.prog.info? 25).map (·.size) = some (s.dst.map bv).length) := by
    show _ = _
    rw [List.length_map, h.sp.2.dst]; exact size25
  have HB := bld32 s.src s.dst h.sp.2.src h.sp.2.dst W
  have HC := isSet0 s.src s.dst h.sp.2.src h.sp.2.dst W.heap.size (W.alloc (.cells ((s.src ++ s.dst).map bv).toArray 25)) (VAt.alloc _ _ _)
  have G1 := World.grownBy_alloc W (.cells ((s.src ++ s.dst).map bv).toArray 25) none
  obtain ⟨X, hX⟩ : ∃ X, ((s.src ++ s.dst).map bv).toArray = X := ⟨_, rfl⟩
  rw [hX] at HB HC G1
  clear h hX
  cases h0 : ipB s <;> cases h1 : (s.next != 0) <;> cases h2 : s.ports
  · rw [h0] at c_ip
    rw [h2] at c_ports
    go_enter Tryz.func32, Tryz.ntmps32
    go_wp2_with (first | (refine wpList_load_midg rfl 25 (.tmp 14) rfl C 8 rfl (s.src.map bv) _ RS Tryz.underlying25 rfl HS1.out ?_) | (refine wpList_load_midg rfl 25 (.tmp 16) rfl C 24 rfl (s.dst.map bv) _ RD Tryz.underlying25 rfl HS2.out ?_) | (refine wpList_build rfl 75 2 _ rfl #[(0, .agg (s.src.map bv).toArray), (1, .agg (s.dst.map bv).toArray)] (by kernel_rfl) HB ?_))
    refine HC.mono ?_
    rintro e w1 ⟨rfl, K1⟩
    have G2 := grown_trans G1 K1
    clear HB HC RS RD G1 K1
    go_wp2
    go_ret
    exact ⟨ret_bool (by simp [wq7, h0, h1, h2]), G2⟩
  · rw [h0] at c_ip
    rw [h2] at c_ports
    clear HB HC RS RD G1
    go_enter Tryz.func32, Tryz.ntmps32
    go_wp2
    go_ret
    exact ⟨ret_bool (by simp [wq7, h0, h1, h2]), World.grownBy.refl _ _⟩
  · rw [h0] at c_ip
    rw [h2] at c_ports
    clear HB HC RS RD G1
    go_enter Tryz.func32, Tryz.ntmps32
    go_wp2
    go_ret
    exact ⟨ret_bool (by simp [wq7, h0, h1, h2]), World.grownBy.refl _ _⟩
  · rw [h0] at c_ip
    rw [h2] at c_ports
    clear HB HC RS RD G1
    go_enter Tryz.func32, Tryz.ntmps32
    go_wp2
    go_ret
    exact ⟨ret_bool (by simp [wq7, h0, h1, h2]), World.grownBy.refl _ _⟩
  · rw [h0] at c_ip
    rw [h2] at c_ports
    clear HB HC RS RD G1
    go_enter Tryz.func32, Tryz.ntmps32
    go_wp2
    go_ret
    exact ⟨ret_bool (by simp [wq7, h0, h1, h2]), World.grownBy.refl _ _⟩
  · rw [h0] at c_ip
    rw [h2] at c_ports
    clear HB HC RS RD G1
    go_enter Tryz.func32, Tryz.ntmps32
    go_wp2
    go_ret
    exact ⟨ret_bool (by simp [wq7, h0, h1, h2]), World.grownBy.refl _ _⟩
  · rw [h0] at c_ip
    rw [h2] at c_ports
    clear HB HC RS RD G1
    go_enter Tryz.func32, Tryz.ntmps32
    go_wp2
    go_ret
    exact ⟨ret_bool (by simp [wq7, h0, h1, h2]), World.grownBy.refl _ _⟩
  · rw [h0] at c_ip
    rw [h2] at c_ports
    clear HB HC RS RD G1
    go_enter Tryz.func32, Tryz.ntmps32
    go_wp2
    go_ret
    exact ⟨ret_bool (by simp [wq7, h0, h1, h2]), World.grownBy.refl _ _⟩

set_option maxRecDepth 100000 in
set_option maxHeartbeats 1000000 in
theorem wq9_any (B C D E : Nat) (l : Lk) (s : Sp) (a : Option Addr) (ca : Nat) (W : World) (h : QI B C D E l s a ca W) :
    Calls Tryz.prog 35 #[.pointer (some ⟨C, 0, none⟩)] W fun e w' => e = .returned (.bool (wq9 s)) ∧ W.grownBy w' none := by
  have c_proto := h.sp.eight.2.2.2.2.2.2.1
  have RS := h.sp.srcR
  have RD := h.sp.dstR
  have HS1 : Hid ((Tryz.prog.info? 25).map (·.size) = some (s.src.map bv).length) := by
    show _ = _
    rw [List.length_map, h.sp.2.src]; exact size25
  have HS2 : Hid ((Tryz.prog.info? 25).map (·.size) = some (s.dst.map bv).length) := by
    show _ = _
    rw [List.length_map, h.sp.2.dst]; exact size25
  have HB := bld32 s.src s.dst h.sp.2.src h.sp.2.dst W
  have HC := isSet4 s.src s.dst h.sp.2.src h.sp.2.dst W.heap.size (W.alloc (.cells ((s.src ++ s.dst).map bv).toArray 25)) (VAt.alloc _ _ _)
  have G1 := World.grownBy_alloc W (.cells ((s.src ++ s.dst).map bv).toArray 25) none
  obtain ⟨X, hX⟩ : ∃ X, ((s.src ++ s.dst).map bv).toArray = X := ⟨_, rfl⟩
  rw [hX] at HB HC G1
  clear h hX
  cases h0 : ((s.proto : Int) == 33)
  · clear HB HC RS RD G1
    go_enter Tryz.func35, Tryz.ntmps35
    go_wp2
    go_ret
    exact ⟨ret_bool (by simp [wq9, h0]), World.grownBy.refl _ _⟩
  · go_enter Tryz.func35, Tryz.ntmps35
    go_wp2_with (first | (refine wpList_load_midg rfl 25 (.tmp 6) rfl C 8 rfl (s.src.map bv) _ RS Tryz.underlying25 rfl HS1.out ?_) | (refine wpList_load_midg rfl 25 (.tmp 8) rfl C 24 rfl (s.dst.map bv) _ RD Tryz.underlying25 rfl HS2.out ?_) | (refine wpList_build rfl 75 2 _ rfl #[(0, .agg (s.src.map bv).toArray), (1, .agg (s.dst.map bv).toArray)] (by kernel_rfl) HB ?_))
    refine HC.mono ?_
    rintro e w1 ⟨rfl, K1⟩
    have G2 := grown_trans G1 K1
    clear HB HC RS RD G1 K1
    go_wp2
    go_ret
    exact ⟨ret_bool (by simp [wq9, h0]), G2⟩

theorem cell3_call {w W W' : World} {x y z : Addr} {u v q : Value} (K : W.grownBy W' none) (h : W.cell? x = some u ∧ W.cell? y = some v ∧ W.cell? z = some q ∧ w.grownBy W none) : W'.cell? x = some u ∧ W'.cell? y = some v ∧ W'.cell? z = some q ∧ w.grownBy W' none :=
  ⟨K.cell h.1 (by simp), K.cell h.2.1 (by simp), K.cell h.2.2.1 (by simp), grown_trans h.2.2.2 K⟩

set_option maxRecDepth 100000 in
set_option maxHeartbeats 2000000 in
theorem wq2_any (B C D E : Nat) (l : Lk) (s : Sp) (a : Option Addr) (ca : Nat) (W : World) (h : QI B C D E l s a ca W) :
    Calls Tryz.prog 25 #[.pointer (some ⟨C, 0, none⟩), .pointer (some ⟨B, 0, none⟩)] W fun e w' => e = .returned (.bool (wq2 l s)) ∧ W.grownBy w' none := by
  have c_multi := h.sp.eight.2.2.1
  have c_seq := h.sp.eight.2.2.2.2.2.1
  have c_mp := (show W.cell? ⟨B, 2, none⟩ = some (.int .i64 l.mp) from h.lk.cell 2)
  have HL : Hid (∀ V : World, Calls Tryz.prog 26 #[.int .i64 l.mp] V fun e w' => ∃ x0 x1 x2 x3 : Int, e = .returned (.agg #[.int .i64 x0, .int .u32 x1, .int .u32 x2, .int .u32 x3, .int .u32 (topS l : Int)]) ∧ V.grownBy w' none) := by
    intro V
    refine (layout_any l.mp V).mono ?_
    rintro e w' ⟨rfl, K⟩
    by_cases hm : l.mp = 1
    · exact ⟨2, 32768, 16384, 12288, by rw [layA, if_pos hm, topS, if_pos hm]; rfl, K⟩
    · exact ⟨4, 2147483648, 1073741824, 1056964608, by rw [layA, if_neg hm, topS, if_neg hm]; rfl, K⟩
  clear h
  cases h0 : s.multi with
  | false =>
    rw [h0] at c_multi
    clear HL
    go_enter Tryz.func25, Tryz.ntmps25
    go_upto_region 1 with fail
    go_quiet (fail)
    go_wp2
    go_ret
    exact ⟨ret_bool (by simp [wq2, h0]), grown_drewN W _ none⟩
  | true =>
    rw [h0] at c_multi
    cases h1 : (l.mp == 0) with
    | true =>
      clear HL
      go_enter Tryz.func25, Tryz.ntmps25
      go_upto_region 1 with fail
      go_quiet (fail)
      go_wp2
      go_ret
      exact ⟨ret_bool (by simp [wq2, h0, h1]), grown_drewN W _ none⟩
    | false =>
      obtain ⟨T, hT⟩ : ∃ T, topS l = T := ⟨_, rfl⟩
      rw [hT] at HL
      have HF : Hid (wq2 l s = decide ((T : Int) < (s.seq : Int))) := by
        show _ = _
        rw [wq2, h0, h1, hT]
        simp
      rw [HF.out]
      have hfld : ∀ (V : World) (x0 x1 x2 x3 x4 : Int), (Instr.field 58 (.agg #[.int .i64 x0, .int .u32 x1, .int .u32 x2, .int .u32 x3, .int .u32 x4]) 4).run Tryz.prog V = .ok (.int .u32 x4) V := fun _ _ _ _ _ _ => by kernel_rfl
      clear hT
      go_enter Tryz.func25, Tryz.ntmps25
      go_upto_region 1 with fail
      have B0 := cell3_call (grown_drewN W 1 none) ⟨c_multi, c_mp, c_seq, World.grownBy.refl W none⟩
      go_region_held3 (fun V => V.cell? ⟨C, 2, none⟩ = some (.bool true) ∧ V.cell? ⟨B, 2, none⟩ = some (.int .i64 l.mp) ∧ V.cell? ⟨C, 5, none⟩ = some (.int .u32 (s.seq : Int)) ∧ W.grownBy V none) (first | (with_reducible assumption) | exact cell3_call KK (by assumption) | exact B0) (first | (go_at_call 26; refine (HL.out _).mono ?_; rintro e w1 ⟨x0, x1, x2, x3, rfl, KK⟩))
      rename_i hH
      have G := hH.2.2.2
      clear hH B0
      go_wp2
      go_ret
      exact ⟨ret_bool (by simp), G⟩

set_option maxRecDepth 100000 in
set_option maxHeartbeats 2000000 in
theorem wq12_any (B C D E : Nat) (l : Lk) (s : Sp) (a : Option Addr) (ca : Nat) (W : World) (h : QI B C D E l s a ca W) :
    Calls Tryz.prog 38 #[.pointer (some ⟨C, 0, none⟩), .pointer (some ⟨B, 0, none⟩)] W fun e w' => e = .returned (.bool (wq12 l s)) ∧ W.grownBy w' none := by
  have c_wide := h.sp.eight.2.1
  have c_multi := h.sp.eight.2.2.1
  have c_proto := h.sp.eight.2.2.2.2.2.2.1
  have LK := h.lk
  have SK := h.sp.1
  have HLS : Hid ((Tryz.prog.info? 23).map (·.size) = some (lkA l).size) := size23
  have HSS : Hid ((Tryz.prog.info? 28).map (·.size) = some (spA s a ca).size) := spA_size h.sp.2 a ca
  have HF := lfield_any l s a ca s.proto W h.sp.2 h.sp.2.proto
  clear h
  cases h0 : s.wide <;> cases h1 : s.multi <;> cases h2 : ((s.proto : Int) == 255)
  rotate_left
  · rw [h0] at c_wide
    rw [h1] at c_multi
    obtain ⟨m, hm⟩ : ∃ m, (fieldV l s.plain s.proto).length = m := ⟨_, rfl⟩
    have HQ : Hid (wq12 l s = ((m : Int) == 1)) := by
      show _ = _
      rw [wq12, h0, h1, h2, hm]
      simp
    rw [HQ.out]
    have HM : Hid ((fieldV l s.plain s.proto).length = m) := hm
    clear hm
    go_enter Tryz.func38, Tryz.ntmps38
    go_wp2_with (first | (refine wpList_load_row_g rfl 23 (.tmp 1) rfl B rfl 23 (lkA l) _ LK Tryz.underlying23 rfl HLS.out ?_) | (refine wpList_load_row_g rfl 28 (.tmp 0) rfl C rfl 28 (spA s a ca) _ SK Tryz.underlying28 rfl HSS.out ?_))
    refine HF.mono ?_
    rintro e w1 ⟨u, rfl, O1, K1⟩
    obtain ⟨a1, k1, rfl, -, -⟩ := O1.cells
    rw [HM.out]
    clear HF LK SK O1
    go_wp2
    go_ret
    exact ⟨rfl, K1⟩
  all_goals
    rw [h0] at c_wide
    rw [h1] at c_multi
    clear HF LK SK
    go_enter Tryz.func38, Tryz.ntmps38
    go_wp2
    go_ret
    exact ⟨ret_bool (by simp [wq12, h0, h1, h2]), World.grownBy.refl _ _⟩

/-! The row of questions. -/
def wqN : Nat → Nat
  | 0 => 24
  | 1 => 25
  | 2 => 27
  | 3 => 28
  | 4 => 29
  | 5 => 30
  | 6 => 32
  | 7 => 34
  | 8 => 35
  | 9 => 36
  | 10 => 37
  | _ => 38
def wqC (B C D E : Nat) : Nat → Array Value
  | 0 => #[.pointer (some ⟨C, 0, none⟩), .pointer (some ⟨B, 0, none⟩)]
  | 1 => #[.pointer (some ⟨C, 0, none⟩), .pointer (some ⟨B, 0, none⟩)]
  | 2 => #[.pointer (some ⟨C, 0, none⟩)]
  | 3 => #[.pointer (some ⟨C, 0, none⟩), .pointer (some ⟨B, 0, none⟩)]
  | 4 => #[.pointer (some ⟨D, 0, none⟩), .pointer (some ⟨C, 0, none⟩)]
  | 5 => #[.pointer (some ⟨D, 0, none⟩), .pointer (some ⟨C, 0, none⟩)]
  | 6 => #[.pointer (some ⟨E, 0, none⟩), .pointer (some ⟨C, 0, none⟩)]
  | 7 => #[.pointer (some ⟨C, 0, none⟩)]
  | 8 => #[.pointer (some ⟨C, 0, none⟩)]
  | 9 => #[.pointer (some ⟨C, 0, none⟩)]
  | 10 => #[.pointer (some ⟨C, 0, none⟩)]
  | _ => #[.pointer (some ⟨C, 0, none⟩), .pointer (some ⟨B, 0, none⟩)]
def wqB (l : Lk) (s : Sp) : Nat → Bool
  | 0 => wq1 l s
  | 1 => wq2 l s
  | 2 => wq3 s
  | 3 => wq4 l s
  | 4 => wq5 s
  | 5 => wq6 s
  | 6 => wq7 s
  | 7 => wq8 s
  | 8 => wq9 s
  | 9 => wq10 s
  | 10 => wq11 s
  | _ => wq12 l s
theorem twelve {q : Nat} (h : q < 12) : q = 0 ∨ q = 1 ∨ q = 2 ∨ q = 3 ∨ q = 4 ∨ q = 5 ∨ q = 6 ∨ q = 7 ∨ q = 8 ∨ q = 9 ∨ q = 10 ∨ q = 11 := by omega
theorem wqN_enters (q : Nat) : ∀ args w, (callFunc (wqN q) args).run Tryz.prog w = .ok (.enter (wqN q) args) w := by
  unfold wqN
  split
  · exact enters_of Tryz.func24 (by kernel_rfl) rfl
  · exact enters_of Tryz.func25 (by kernel_rfl) rfl
  · exact enters_of Tryz.func27 (by kernel_rfl) rfl
  · exact enters_of Tryz.func28 (by kernel_rfl) rfl
  · exact enters_of Tryz.func29 (by kernel_rfl) rfl
  · exact enters_of Tryz.func30 (by kernel_rfl) rfl
  · exact enters_of Tryz.func32 (by kernel_rfl) rfl
  · exact enters_of Tryz.func34 (by kernel_rfl) rfl
  · exact enters_of Tryz.func35 (by kernel_rfl) rfl
  · exact enters_of Tryz.func36 (by kernel_rfl) rfl
  · exact enters_of Tryz.func37 (by kernel_rfl) rfl
  · exact enters_of Tryz.func38 (by kernel_rfl) rfl
theorem wq_any (q : Nat) (hq : q < 12) (B C D E : Nat) (l : Lk) (s : Sp) (a : Option Addr) (ca : Nat) (W : World) (h : QI B C D E l s a ca W) :
    Calls Tryz.prog (wqN q) (wqC B C D E q) W fun e w' => e = .returned (.bool (wqB l s q)) ∧ W.grownBy w' none := by
  rcases twelve hq with rfl | rfl | rfl | rfl | rfl | rfl | rfl | rfl | rfl | rfl | rfl | rfl
  · exact wq1_any B C D E l s a ca W h
  · exact wq2_any B C D E l s a ca W h
  · exact wq3_any B C D E l s a ca W h
  · exact wq4_any B C D E l s a ca W h
  · exact wq5_any B C D E l s a ca W h
  · exact wq6_any B C D E l s a ca W h
  · exact wq7_any B C D E l s a ca W h
  · exact wq8_any B C D E l s a ca W h
  · exact wq9_any B C D E l s a ca W h
  · exact wq10_any B C D E l s a ca W h
  · exact wq11_any B C D E l s a ca W h
  · exact wq12_any B C D E l s a ca W h

/-- Whether one of them says yes, from the q-th on. -/
def wrongB (l : Lk) (s : Sp) : Bool := (List.range 12).any (wqB l s)
theorem wrong_hit {l : Lk} {s : Sp} {q : Nat} (hq : q < 12) (h : wqB l s q = true) : wrongB l s = true := by
  rw [wrongB, List.any_eq_true]
  exact ⟨q, List.mem_range.2 hq, h⟩
theorem wrong_none {l : Lk} {s : Sp} (h : ∀ q, q < 12 → wqB l s q = false) : wrongB l s = false := by
  rw [wrongB, List.any_eq_false]
  intro q hq
  rw [h q (List.mem_range.1 hq)]
  simp

/-- The twelve are what the document bars. -/
theorem wrong_fits (l : Lk) (s : Sp) (hl : checkF l = 0) : wrongB l s = !fitsB l s := by
  have hmp : l.mp = 0 ∨ l.mp = 1 ∨ l.mp = 2 := by
    unfold checkF at hl
    split at hl
    · exact absurd hl (by simp)
    · omega
  have h1 : wq1 l s = cond1 l s := rfl
  have h2 : wq2 l s = cond2 l s := by
    unfold wq2 cond2 topS spV
    rcases hmp with h | h | h
    · simp [h]
    · simp only [h]
      congr 2
      rw [decide_eq_decide]
      simp
      omega
    · simp only [h]
      congr 2
      rw [decide_eq_decide]
      simp
      omega
  have h3 : (wq3 s || wq4 l s) = cond3 l s := by
    unfold wq3 wq4 cond3
    cases s.multi <;> cases s.beg <;> cases s.fin <;> simp
  have h4 : wq5 s = cond4 s := by
    unfold wq5 cond4
    rw [Bool.or_assoc]
  have h5 : wq6 s = cond5 s := by
    unfold wq6 cond5 isProtB
    cases saidB s
    · rfl
    · simp only [Bool.true_and]
      by_cases a1 : s.proto ≤ 65535
      · have b1 : ¬ (65535 : Int) < (s.proto : Int) := by omega
        have e1 : s.proto % 2 = 0 ∨ s.proto % 2 = 1 := by omega
        have e2 : s.proto / 256 % 2 = 0 ∨ s.proto / 256 % 2 = 1 := by omega
        have c1 : ((s.proto : Int) % 2) = ((s.proto % 2 : Nat) : Int) := by omega
        have c2 : ((s.proto : Int) / 256 % 2) = ((s.proto / 256 % 2 : Nat) : Int) := by omega
        rw [c1, c2]
        rcases e1 with e1 | e1 <;> rcases e2 with e2 | e2 <;> simp [a1, b1, e1, e2]
      · have b1 : (65535 : Int) < (s.proto : Int) := by omega
        simp [a1, b1]
  have h6 : wq7 s = cond6 s := by
    unfold wq7 cond6
    cases ipB s <;> cases (s.next != 0) <;> cases s.ports <;> cases zeroB s.src 0 <;> cases zeroB s.dst 0 <;> rfl
  have h7 : wq8 s = cond7 s := rfl
  have h9 : wq10 s = cond9 s := rfl
  have h10 : wq11 s = cond10 s := rfl
  have h11 : wq12 l s = cond11 l s := by
    unfold wq12 cond11 fieldV be2
    by_cases hp : (s.proto : Int) = 255
    · have hp' : s.proto = 255 := by omega
      rw [hp']
      cases s.wide <;> cases s.multi <;> cases s.plain <;> cases l.pfc <;> simp
    · have hp' : ((s.proto : Int) == 255) = false := by rw [beq_eq_false_iff_ne]; exact hp
      rw [hp']
      simp
  have h8 : (cond4 s || wq9 s) = (cond4 s || cond8 s) := by
    unfold cond4 wq9 cond8 ipB
    cases hs : saidB s
    · by_cases hp : s.proto = 33
      · have hp' : ((s.proto : Int) != 0) = true := by rw [bne_iff_ne]; omega
        simp [hp']
      · have hp' : ((s.proto : Int) == 33) = false := by rw [beq_eq_false_iff_ne]; omega
        simp [hp']
    · by_cases hp : s.proto = 33
      · simp [hp]
      · have hp' : ((s.proto : Int) == 33) = false := by rw [beq_eq_false_iff_ne]; omega
        simp [hp']
  have hw : wrongB l s = (wq1 l s || (wq2 l s || (wq3 s || (wq4 l s || (wq5 s || (wq6 s || (wq7 s || (wq8 s || (wq9 s || (wq10 s || (wq11 s || wq12 l s))))))))))) := by
    show (wq1 l s || (wq2 l s || (wq3 s || (wq4 l s || (wq5 s || (wq6 s || (wq7 s || (wq8 s || (wq9 s || (wq10 s || (wq11 s || (wq12 l s || false)))))))))))) = _
    rw [Bool.or_false]
  rw [hw, fitsB, Bool.not_not, ← h3, h1, h2, h4, h5, h6, h7, h9, h10, h11]
  generalize cond1 l s = x1
  generalize cond2 l s = x2
  generalize wq3 s = x3
  generalize wq4 l s = x3'
  generalize cond5 s = x5
  generalize cond6 s = x6
  generalize cond7 s = x7
  generalize cond9 s = x9
  generalize cond10 s = x10
  generalize cond11 l s = x11
  revert h8
  generalize cond4 s = x4
  generalize wq9 s = y8
  generalize cond8 s = x8
  intro h8
  cases x1 <;> cases x2 <;> cases x3 <;> cases x3' <;> cases x4 <;> simp_all

/-- The row of questions in its block. -/
def RowQ (w : World) (P B C D E : Nat) : Prop := ∀ q, q < 12 → w.cell? ⟨P, q, none⟩ = some (.func (.func (wqN q)) #[] (wqC B C D E q))
theorem RowQ.kept {w w' : World} {P B C D E : Nat} (h : RowQ w P B C D E) (G : w.grownBy w' none) : RowQ w' P B C D E := fun q hq => G.cell (h q hq) (by simp)

def rowL (B C D E : Nat) : List Value := (List.range 12).map fun q => .func (.func (wqN q)) #[] (wqC B C D E q)

end Go.Proofs.YtnojpepjloceoaaGreat
