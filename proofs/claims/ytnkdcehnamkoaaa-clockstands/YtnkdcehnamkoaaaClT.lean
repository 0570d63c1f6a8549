/-
  riddlelaw22.told, awake.
-/
import Derived.Test.YtnkdcehnamkoaaaClC
import Derived.Test.YtnkdcehnamkoaaaClR
namespace Go.Proofs.Ytnkdcehnamkoaaa
open Go.RowKit
set_option maxRecDepth 100000

/-- What told leaves. -/
def Told22 (w : World) (gc gr : Nat) (e : Ending) (w' : World) : Prop :=
  e = .returned (.bool true) ∧ ∃ c : Ck, c.ok ∧ QBk w' gc 44 c.lcells ∧ QBk w' gr 27 c.cells ∧ GW w w' (fun x => x = gc ∨ x = gr)

set_option maxHeartbeats 2000000 in
theorem told22_any (w : World) (gc gr : Nat) (c : Ck) (act : Int) (h1 : QBk w gc 44 c.lcells) (h2 : QBk w gr 27 c.cells) (ok : c.ok) :
    Calls Try.prog 8 #[.pointer (some ⟨gc, 0, none⟩), .pointer (some ⟨gr, 0, none⟩), .int .i64 act] w (Told22 w gc gr) := by
  have hne : gc ≠ gr := QBk.tys h1 h2 (by decide)
  have H : Hid (QBk w gr 27 c.cells ∧ c.ok ∧ gc ≠ gr) := ⟨h2, ok, hne⟩
  by_cases a0 : act = 0
  · subst a0
    have CS := cstart_any w gc c h1
    clear h1 h2 ok hne
    go_enter Try.func8, Try.ntmps8
    go_wp2_with fail
    refine CS.mono ?_
    rintro e w1 ⟨rfl, Q1, G1⟩
    clear CS
    have R1 : QBk w1 gr 27 c.cells := G1.qbk H.out.1 (fun e => H.out.2.2 e.symm)
    have CR := rstart_any w1 gr c R1
    have HQ : Hid (QBk w1 gc 44 c.start.lcells ∧ GW w w1 (fun x => x = gc)) := ⟨Q1, G1⟩
    clear Q1 G1 R1
    go_wp2_with fail
    refine CR.mono ?_
    rintro e w2 ⟨rfl, Q2, G2⟩
    clear CR
    have Q1 : QBk w2 gc 44 c.start.lcells := G2.qbk HQ.out.1 H.out.2.2
    have HR : Hid (∀ w3, w2.grownBy w3 none → Told22 w gc gr (.returned (.bool true)) w3) := fun w3 K => ⟨rfl, c.start, H.out.2.1.start, Q1.keptNone K, Q2.keptNone K, ((HQ.out.2.mono (fun _ _ h => .inl h)).trans G2 (fun _ _ h => .inr h)).trans (GW.non (S := fun x => x = gc ∨ x = gr) K) (fun _ _ h => h)⟩
    have CN := cnow_any w2 gc c.start Q1
    have HD : Hid (QBk w2 gr 27 c.start.cells) := Q2
    clear Q1 Q2 G2 HQ H
    generalize c.start = c2 at *
    go_wp2_with fail
    refine CN.mono ?_
    rintro e w3 ⟨rfl, K⟩
    have Q3 := HD.out.keptNone K
    have d2 := Q3.cell 2
    have d3 := Q3.cell 3
    have d4 := Q3.cell 4
    simp only [Ck.cells, List.getElem?_toArray, List.getElem?_cons_succ, List.getElem?_cons_zero] at d2 d3 d4
    have HF : Hid (Told22 w gc gr (.returned (.bool true)) w3) := HR.out w3 K
    clear CN K Q3 HD HR
    go_wp2
    go_ret
    try simp
    exact HF.out
  by_cases a1 : act = 1
  · subst a1
    have CS := cstop_any w gc c h1
    clear a0 h1 h2 ok hne
    go_enter Try.func8, Try.ntmps8
    go_wp2_with fail
    refine CS.mono ?_
    rintro e w1 ⟨rfl, Q1, G1⟩
    clear CS
    have R1 : QBk w1 gr 27 c.cells := G1.qbk H.out.1 (fun e => H.out.2.2 e.symm)
    have CR := rstop_any w1 gr c R1
    have HQ : Hid (QBk w1 gc 44 c.stop.lcells ∧ GW w w1 (fun x => x = gc)) := ⟨Q1, G1⟩
    clear Q1 G1 R1
    go_wp2_with fail
    refine CR.mono ?_
    rintro e w2 ⟨rfl, Q2, G2⟩
    clear CR
    have Q1 : QBk w2 gc 44 c.stop.lcells := G2.qbk HQ.out.1 H.out.2.2
    have HR : Hid (∀ w3, w2.grownBy w3 none → Told22 w gc gr (.returned (.bool true)) w3) := fun w3 K => ⟨rfl, c.stop, H.out.2.1.stop, Q1.keptNone K, Q2.keptNone K, ((HQ.out.2.mono (fun _ _ h => .inl h)).trans G2 (fun _ _ h => .inr h)).trans (GW.non (S := fun x => x = gc ∨ x = gr) K) (fun _ _ h => h)⟩
    have CN := cnow_any w2 gc c.stop Q1
    have HD : Hid (QBk w2 gr 27 c.stop.cells) := Q2
    clear Q1 Q2 G2 HQ H
    generalize c.stop = c2 at *
    go_wp2_with fail
    refine CN.mono ?_
    rintro e w3 ⟨rfl, K⟩
    have Q3 := HD.out.keptNone K
    have d2 := Q3.cell 2
    have d3 := Q3.cell 3
    have d4 := Q3.cell 4
    simp only [Ck.cells, List.getElem?_toArray, List.getElem?_cons_succ, List.getElem?_cons_zero] at d2 d3 d4
    have HF : Hid (Told22 w gc gr (.returned (.bool true)) w3) := HR.out w3 K
    clear CN K Q3 HD HR
    go_wp2
    go_ret
    try simp
    exact HF.out
  by_cases a2 : act = 2
  · subst a2
    have CS := ctouch_any w gc c h1
    clear a0 a1 h1 h2 ok hne
    go_enter Try.func8, Try.ntmps8
    go_wp2_with fail
    refine CS.mono ?_
    rintro e w1 ⟨rfl, Q1, G1⟩
    clear CS
    have R1 : QBk w1 gr 27 c.cells := G1.qbk H.out.1 (fun e => H.out.2.2 e.symm)
    have CR := rtouch_any w1 gr c R1
    have HQ : Hid (QBk w1 gc 44 c.touch.lcells ∧ GW w w1 (fun x => x = gc)) := ⟨Q1, G1⟩
    clear Q1 G1 R1
    go_wp2_with fail
    refine CR.mono ?_
    rintro e w2 ⟨rfl, Q2, G2⟩
    clear CR
    have Q1 : QBk w2 gc 44 c.touch.lcells := G2.qbk HQ.out.1 H.out.2.2
    have HR : Hid (∀ w3, w2.grownBy w3 none → Told22 w gc gr (.returned (.bool true)) w3) := fun w3 K => ⟨rfl, c.touch, H.out.2.1.touch, Q1.keptNone K, Q2.keptNone K, ((HQ.out.2.mono (fun _ _ h => .inl h)).trans G2 (fun _ _ h => .inr h)).trans (GW.non (S := fun x => x = gc ∨ x = gr) K) (fun _ _ h => h)⟩
    have CN := cnow_any w2 gc c.touch Q1
    have HD : Hid (QBk w2 gr 27 c.touch.cells) := Q2
    clear Q1 Q2 G2 HQ H
    generalize c.touch = c2 at *
    go_wp2_with fail
    refine CN.mono ?_
    rintro e w3 ⟨rfl, K⟩
    have Q3 := HD.out.keptNone K
    have d2 := Q3.cell 2
    have d3 := Q3.cell 3
    have d4 := Q3.cell 4
    simp only [Ck.cells, List.getElem?_toArray, List.getElem?_cons_succ, List.getElem?_cons_zero] at d2 d3 d4
    have HF : Hid (Told22 w gc gr (.returned (.bool true)) w3) := HR.out w3 K
    clear CN K Q3 HD HR
    go_wp2
    go_ret
    try simp
    exact HF.out
  have b0 : (act == 0) = false := by simpa using a0
  have b1 : (act == 1) = false := by simpa using a1
  have b2 : (act == 2) = false := by simpa using a2
  clear a0 a1 a2
  have CS := ctick_any w gc c h1 ok
  clear h1 h2 ok hne
  go_enter Try.func8, Try.ntmps8
  go_wp2_with fail
  refine CS.mono ?_
  rintro e w1 ⟨rfl, Q1, G1⟩
  clear CS
  have R1 : QBk w1 gr 27 c.cells := G1.qbk H.out.1 (fun e => H.out.2.2 e.symm)
  have CR := rtick_any w1 gr c R1 H.out.2.1
  have HQ : Hid (QBk w1 gc 44 c.tickC.lcells ∧ GW w w1 (fun x => x = gc)) := ⟨Q1, G1⟩
  clear Q1 G1 R1
  go_wp2_with fail
  refine CR.mono ?_
  rintro e w2 ⟨rfl, Q2, G2⟩
  clear CR
  have Q1 : QBk w2 gc 44 c.tickC.lcells := G2.qbk HQ.out.1 H.out.2.2
  have HR : Hid (∀ w3, w2.grownBy w3 none → Told22 w gc gr (.returned (.bool true)) w3) := fun w3 K => ⟨rfl, c.tickC, H.out.2.1.tick, Q1.keptNone K, Q2.keptNone K, ((HQ.out.2.mono (fun _ _ h => .inl h)).trans G2 (fun _ _ h => .inr h)).trans (GW.non (S := fun x => x = gc ∨ x = gr) K) (fun _ _ h => h)⟩
  have CN := cnow_any w2 gc c.tickC Q1
  have HD : Hid (QBk w2 gr 27 c.tickC.cells) := Q2
  clear Q1 Q2 G2 HQ H
  generalize c.tickC = c2 at *
  generalize c.tickH = v2 at *
  go_wp2_with fail
  refine CN.mono ?_
  rintro e w3 ⟨rfl, K⟩
  have Q3 := HD.out.keptNone K
  have d2 := Q3.cell 2
  have d3 := Q3.cell 3
  have d4 := Q3.cell 4
  simp only [Ck.cells, List.getElem?_toArray, List.getElem?_cons_succ, List.getElem?_cons_zero] at d2 d3 d4
  have HF : Hid (Told22 w gc gr (.returned (.bool true)) w3) := HR.out w3 K
  clear CN K Q3 HD HR
  go_wp2
  go_ret
  try simp
  exact HF.out

end Go.Proofs.Ytnkdcehnamkoaaa
