/-
  The text of an instruction: the document's table.
-/
import Derived.Test.YtcapmbeabfhjoaaDoorDec
import Derived.Test.YtcapmbeabfhjoaaDoorCodes
import Derived.Test.YtcapmbeabfhjoaaDoorIMem
namespace Go.Proofs.YtcapmbeabfhjoaaDoor
open Go.RowKit
set_option maxRecDepth 100000

/-- Of each known code: what stands ahead of K, and what behind it (or the whole text, where there is no K). -/
def forms : List (Int × List UInt8 × List UInt8) :=
  [(0, [108, 100, 32, 35], []),
   (32, [108, 100, 32, 91], [93]),
   (40, [108, 100, 104, 32, 91], [93]),
   (48, [108, 100, 98, 32, 91], [93]),
   (64, [108, 100, 32, 91, 120, 43], [93]),
   (72, [108, 100, 104, 32, 91, 120, 43], [93]),
   (80, [108, 100, 98, 32, 91, 120, 43], [93]),
   (96, [108, 100, 32, 77, 91], [93]),
   (128, [108, 100, 32, 108, 101, 110], []),
   (1, [108, 100, 120, 32, 35], []),
   (97, [108, 100, 120, 32, 77, 91], [93]),
   (129, [108, 100, 120, 32, 108, 101, 110], []),
   (177, [108, 100, 120, 98, 32, 52, 42, 40, 91], [93, 38, 49, 53, 41]),
   (2, [115, 116, 32, 77, 91], [93]),
   (3, [115, 116, 120, 32, 77, 91], [93]),
   (5, [106, 97, 32], []),
   (6, [114, 101, 116, 32, 35], []),
   (22, [114, 101, 116, 32, 97], []),
   (132, [110, 101, 103], []),
   (7, [116, 97, 120], []),
   (135, [116, 120, 97], []),
   (4, [97, 100, 100, 32, 35], []),
   (12, [97, 100, 100, 32, 120], []),
   (20, [115, 117, 98, 32, 35], []),
   (28, [115, 117, 98, 32, 120], []),
   (36, [109, 117, 108, 32, 35], []),
   (44, [109, 117, 108, 32, 120], []),
   (52, [100, 105, 118, 32, 35], []),
   (60, [100, 105, 118, 32, 120], []),
   (68, [111, 114, 32, 35], []),
   (76, [111, 114, 32, 120], []),
   (84, [97, 110, 100, 32, 35], []),
   (92, [97, 110, 100, 32, 120], []),
   (100, [108, 115, 104, 32, 35], []),
   (108, [108, 115, 104, 32, 120], []),
   (116, [114, 115, 104, 32, 35], []),
   (124, [114, 115, 104, 32, 120], []),
   (148, [109, 111, 100, 32, 35], []),
   (156, [109, 111, 100, 32, 120], []),
   (164, [120, 111, 114, 32, 35], []),
   (172, [120, 111, 114, 32, 120], []),
   (21, [106, 101, 113, 32, 35], []),
   (29, [106, 101, 113, 32, 120], []),
   (37, [106, 103, 116, 32, 35], []),
   (45, [106, 103, 116, 32, 120], []),
   (53, [106, 103, 101, 32, 35], []),
   (61, [106, 103, 101, 32, 120], []),
   (69, [106, 115, 101, 116, 32, 35], []),
   (77, [106, 115, 101, 116, 32, 120], [])]

def pre (c : Int) : List UInt8 := ((forms.find? fun f => f.1 == c).map fun f => f.2.1).getD []
def post (c : Int) : List UInt8 := ((forms.find? fun f => f.1 == c).map fun f => f.2.2).getD []

/-- The word of an operation or a jump, its bit 8 struck. -/
def opD (d : Int) : List UInt8 :=
  if d == 4 then [97, 100, 100] else if d == 20 then [115, 117, 98] else if d == 36 then [109, 117, 108] else if d == 52 then [100, 105, 118] else if d == 68 then [111, 114] else if d == 84 then [97, 110, 100] else if d == 100 then [108, 115, 104] else if d == 116 then [114, 115, 104] else if d == 148 then [109, 111, 100] else if d == 164 then [120, 111, 114] else if d == 21 then [106, 101, 113] else if d == 37 then [106, 103, 116] else if d == 53 then [106, 103, 101] else if d == 69 then [106, 115, 101, 116] else []

/-- The form up to K and what closes it. -/
def formV (c : Int) (k : Nat) : List UInt8 := pre c ++ if usesK c = true then dec k ++ post c else []
def goalsV (t f : Nat) : List UInt8 := [32] ++ dec t ++ [32] ++ dec f

def rawB (c : Int) (t f k : Nat) : Bool := !knownB c || ((!usesK c && k != 0) || (!usesJ c && (t != 0 || f != 0)))
def rawV (c t f k : Nat) : List UInt8 := [114, 97, 119, 32] ++ dec c ++ [32] ++ dec t ++ [32] ++ dec f ++ [32] ++ dec k

/-- P3.1: the text of an instruction. -/
def lineN (c t f k : Nat) : List UInt8 := if rawB c t f k = true then rawV c t f k else formV c k ++ if usesJ c = true then goalsV t f else []
def lineV (x : In) : List UInt8 := lineN x.code.toNat x.jt.toNat x.jf.toNat x.k.toNat

theorem form_k {c : Int} {k : Nat} {p q : List UInt8} (hp : pre c = p) (hq : post c = q) (hu : usesK c = true) : p ++ dec k ++ q = formV c k := by
  subst hp hq; simp [formV, hu]
theorem form_k0 {c : Int} {k : Nat} {p : List UInt8} (hp : pre c = p) (hq : post c = []) (hu : usesK c = true) : p ++ dec k = formV c k := by
  subst hp; simp [formV, hu, hq]
theorem form_0 {c : Int} {k : Nat} {p : List UInt8} (hp : pre c = p) (hu : usesK c = false) : p = formV c k := by
  subst hp; simp [formV, hu]

theorem ret_str {a b : List UInt8} (h : a = b) : Ending.returned (str a) = .returned (str b) := by rw [h]

theorem ret_f3 {c : Int} {k : Nat} {p q : List UInt8} (hp : pre c = p) (hq : post c = q) (hu : usesK c = true) : Ending.returned (.string ((⟨p.toArray⟩ : ByteArray) ++ (⟨(dec k).toArray⟩ : ByteArray) ++ (⟨q.toArray⟩ : ByteArray))) = .returned (str (formV c k)) := by
  rw [cat, cat, form_k hp hq hu]
theorem ret_f2 {c : Int} {k : Nat} {p : List UInt8} (hp : pre c = p) (hq : post c = []) (hu : usesK c = true) : Ending.returned (.string ((⟨p.toArray⟩ : ByteArray) ++ (⟨(dec k).toArray⟩ : ByteArray))) = .returned (str (formV c k)) := by
  rw [cat, form_k0 hp hq hu]
theorem ret_f0 {c : Int} {k : Nat} {p : List UInt8} (hp : pre c = p) (hu : usesK c = false) : Ending.returned (.string (⟨p.toArray⟩ : ByteArray)) = .returned (str (formV c k)) := by
  rw [← form_0 (k := k) hp hu]

set_option maxHeartbeats 400000 in
theorem num_any (n : Nat) (w : World) (hn : n ≤ 4294967295) :
    Calls Tryd.prog 26 #[.int .u32 n] w fun e w' => e = .returned (str (dec n)) ∧ w.grownBy w' none := by
  go_enter Tryd.func26, Tryd.ntmps26
  go_wp2_with fail
  refine (decimal_any n _ (by omega)).mono ?_
  rintro e w' ⟨rfl, G⟩
  go_wp2
  go_ret
  exact ⟨rfl, G⟩

set_option maxHeartbeats 1000000 in
theorem operation_any (c : Int) (w : World) :
    Calls Tryd.prog 30 #[.int .u16 c] w fun e w' => e = .returned (str (opD (bits .andNot .u16 c 8))) ∧ w = w' := by
  generalize hd : bits .andNot .u16 c 8 = d
  go_enter Tryd.func30, Tryd.ntmps30
  go_wp2
  all_goals
    go_ret
    first
      | (have e := eq_of_beq ‹(d == _) = true›; subst e; exact ⟨rfl, rfl⟩)
      | exact ⟨ret_str (by simp [opD, *]), rfl⟩

set_option maxRecDepth 100000 in
set_option maxHeartbeats 4000000 in
theorem plain_any (c : Int) (t f k : Nat) (w : World) (hk : k ≤ 4294967295) (hc : plainB c = true) :
    Calls Tryd.prog 29 #[.agg #[.int .u16 c, .int .u8 t, .int .u8 f, .int .u32 k]] w fun e w' => e = .returned (str (formV c k)) ∧ w.grownBy w' none := by
  have hl := dec_len k
  go_enter Tryd.func29, Tryd.ntmps29
  go_wp2_with fail
  refine (num_any k _ hk).mono ?_
  rintro e w' ⟨rfl, G⟩
  have G1 : w.grownBy w' none := grown_trans (World.grownBy_alloc _ _ _) G
  have g0 : w'.cell? ⟨w.heap.size, 0, none⟩ = some (.int .u16 c) := G.cell (by simp) (by simp)
  clear G
  go_wp2
  all_goals
    go_ret
    refine ⟨?_, G1⟩
    first
      | (have e := eq_of_beq ‹(c == _) = true›; subst e; first | exact ret_f2 (by decide +kernel) (by decide +kernel) (by decide +kernel) | exact ret_f3 (by decide +kernel) (by decide +kernel) (by decide +kernel) | exact ret_f0 (by decide +kernel) (by decide +kernel))
      | (have e : c = 135 := by simpa [plainB, *] using hc
         subst e; exact ret_f0 (by decide +kernel) (by decide +kernel))

end Go.Proofs.YtcapmbeabfhjoaaDoor
