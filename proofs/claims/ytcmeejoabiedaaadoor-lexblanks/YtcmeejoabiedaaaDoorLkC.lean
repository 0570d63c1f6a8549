/-
  Package lex as landed: six, quad, name.
-/
import Derived.Test.YtcmeejoabiedaaaDoorLkB
namespace Go.Proofs.YtcmeejoabiedaaaDoor
open Go.RowKit
set_option maxRecDepth 100000

def sixV (s : List UInt8) : List UInt8 := if 2 ≤ (s.takeWhile sixB).count 58 then s.takeWhile sixB else []
def quadV (s : List UInt8) : List UInt8 := if (s.takeWhile quadB).contains 46 = true then s.takeWhile quadB else []

set_option maxHeartbeats 1000000 in
theorem six_any (s : ByteArray) (hs : s.size ≤ 140737488355328) (w : World) :
    Calls Tryd.prog 10 #[.string s] w fun e w' => e = .returned (str (sixV (sl s))) ∧ w.grownBy w' none := by
  have hmf : ∀ (fn : Fn) (first cap : Array Value) (w : World), (Instr.makeFunc fn first cap).run Tryd.prog w = .ok (.func fn first cap) w := fun _ _ _ _ => rfl
  have A1 : VAt (w.alloc (.cells #[.int .i64 0] 3)) w.heap.size 3 #[.int .i64 0] := VAt.alloc w 3 #[.int .i64 0]
  have G1 : w.grownBy (w.alloc (.cells #[.int .i64 0] 3)) none := World.grownBy_alloc w _ none
  have C := runsix_any s w.heap.size hs _ A1
  have HG : Hid (w.grownBy _ none) := G1
  clear A1 G1
  have hsix : sixV (sl s) = if 2 ≤ ((sl s).takeWhile sixB).count 58 then (sl s).takeWhile sixB else [] := rfl
  rw [hsix]
  clear hsix
  generalize ((sl s).takeWhile sixB).count 58 = N at *
  generalize (sl s).takeWhile sixB = ans at *
  by_cases hN : 2 ≤ N
  · rw [if_pos hN]
    have hN' : ¬ (N : Int) < 2 := by omega
    clear hN
    go_enter Tryd.func10, Tryd.ntmps10
    go_wp2_with fail
    refine C.mono ?_
    rintro e w2 ⟨rfl, A2, K2⟩
    have c2 : w2.cell? ⟨w.heap.size, 0, none⟩ = some (.int .i64 (N : Int)) := A2.cell 0
    have HG2 : Hid (w.grownBy w2 none) := grown_trans_new HG.out K2 (fun x hx => by injection hx with hx; omega)
    clear C A2 K2 HG
    go_wp2
    go_ret
    exact ⟨rfl, HG2.out⟩
  · rw [if_neg hN]
    have hN' : (N : Int) < 2 := by omega
    clear hN
    go_enter Tryd.func10, Tryd.ntmps10
    go_wp2_with fail
    refine C.mono ?_
    rintro e w2 ⟨rfl, A2, K2⟩
    have c2 : w2.cell? ⟨w.heap.size, 0, none⟩ = some (.int .i64 (N : Int)) := A2.cell 0
    have HG2 : Hid (w.grownBy w2 none) := grown_trans_new HG.out K2 (fun x hx => by injection hx with hx; omega)
    clear C A2 K2 HG
    go_wp2
    go_ret
    exact ⟨rfl, HG2.out⟩

set_option maxHeartbeats 1000000 in
theorem quad_any (s : ByteArray) (hs : s.size ≤ 140737488355328) (w : World) :
    Calls Tryd.prog 11 #[.string s] w fun e w' => e = .returned (str (quadV (sl s))) ∧ w.grownBy w' none := by
  have hmf : ∀ (fn : Fn) (first cap : Array Value) (w : World), (Instr.makeFunc fn first cap).run Tryd.prog w = .ok (.func fn first cap) w := fun _ _ _ _ => rfl
  have A1 : VAt (w.alloc (.cells #[.bool false] 4)) w.heap.size 4 #[.bool false] := VAt.alloc w 4 #[.bool false]
  have G1 : w.grownBy (w.alloc (.cells #[.bool false] 4)) none := World.grownBy_alloc w _ none
  have C := runquad_any s w.heap.size hs _ A1
  have HG : Hid (w.grownBy _ none) := G1
  clear A1 G1
  have hquad : quadV (sl s) = if ((sl s).takeWhile quadB).contains 46 = true then (sl s).takeWhile quadB else [] := rfl
  rw [hquad]
  clear hquad
  generalize ((sl s).takeWhile quadB).contains 46 = N at *
  generalize (sl s).takeWhile quadB = ans at *
  cases N with
  | true =>
    rw [if_pos rfl]
    go_enter Tryd.func11, Tryd.ntmps11
    go_wp2_with fail
    refine C.mono ?_
    rintro e w2 ⟨rfl, A2, K2⟩
    have c2 : w2.cell? ⟨w.heap.size, 0, none⟩ = some (.bool true) := A2.cell 0
    have HG2 : Hid (w.grownBy w2 none) := grown_trans_new HG.out K2 (fun x hx => by injection hx with hx; omega)
    clear C A2 K2 HG
    go_wp2
    go_ret
    exact ⟨rfl, HG2.out⟩
  | false =>
    rw [if_neg (by simp)]
    go_enter Tryd.func11, Tryd.ntmps11
    go_wp2_with fail
    refine C.mono ?_
    rintro e w2 ⟨rfl, A2, K2⟩
    have c2 : w2.cell? ⟨w.heap.size, 0, none⟩ = some (.bool false) := A2.cell 0
    have HG2 : Hid (w.grownBy w2 none) := grown_trans_new HG.out K2 (fun x hx => by injection hx with hx; omega)
    clear C A2 K2 HG
    go_wp2
    go_ret
    exact ⟨rfl, HG2.out⟩

set_option maxHeartbeats 1000000 in
theorem name_any (s : ByteArray) (hs : s.size ≤ 140737488355328) (w : World) :
    Calls Tryd.prog 13 #[.string s] w fun e w' => e = .returned (str ((sl s).takeWhile wordB)) ∧ w = w' := by
  have C := runword_any s hs w
  go_enter Tryd.func13, Tryd.ntmps13
  go_wp2_with fail
  refine C.mono ?_
  rintro e w2 ⟨rfl, rfl⟩
  clear C
  go_wp2
  go_ret
  exact ⟨rfl, rfl⟩

end Go.Proofs.YtcmeejoabiedaaaDoor
