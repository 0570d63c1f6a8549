/-
  What chapter 11 says of a source's tree: no Go text here. The document's own Split, group, groups, gap.
-/
import Derived.Test.YtbdmpjnlgdahmaaGreatDoorLotP4
import Derived.Test.YtbdmpjnlgdahmaaGreatDoorAddrV
import Derived.Test.YtbdmpjnlgdahmaaGreatDoorLotP3
namespace Go.Proofs.YtbdmpjnlgdahmaaGreatDoor
open Go.RowKit
set_option maxRecDepth 100000

structure Nd where
  kind : Nat
  op : Nat
  n : Nat
  m : Nat
  size : Nat
  of : Nat
  side : Nat
  addr : List UInt8
  bits : Nat

def nd0 : Nd := ⟨0, 0, 0, 0, 0, 0, 0, List.replicate 16 0, 0⟩
def ndK (k : Nat) : Nd := { nd0 with kind := k }

abbrev Er := Nat × Int
/-- Nodes with their places, and the tokens that are left. -/
abbrev Out := Except Er (List (Nd × Nat) × List Tk)

def thenE {α β : Type} (x : Except Er α) (f : α → Except Er β) : Except Er β := match x with
  | .error e => .error e
  | .ok y => f y
theorem thenE_ok {α β : Type} (y : α) (f : α → Except Er β) : thenE (.ok y) f = f y := rfl
theorem thenE_er {α β : Type} (e : Er) (f : α → Except Er β) : thenE (.error e : Except Er α) f = .error e := rfl

def hdT (ts : List Tk) : Tk := ts.headD ⟨0, 0, [], 0⟩
def isB (ts : List Tk) (x : List UInt8) : Bool := ((hdT ts).kind == 5 || (hdT ts).kind == 2) && (hdT ts).text == x
def failV {α : Type} (ts : List Tk) (e : Int) : Except Er α := .error ((hdT ts).pos, if (hdT ts).kind = 0 then 110 else e)
def mustV (x : List UInt8) (ts : List Tk) : Except Er (List Tk) := if isB ts x = true then .ok ts.tail else failV ts 111
def numT (ts : List Tk) : Except Er (Nat × List Tk) := if (hdT ts).kind = 1 then .ok ((hdT ts).num, ts.tail) else failV ts 111
def opnV {α : Type} (nest : Nat) (ts : List Tk) (x : Except Er α) : Except Er α := if nest = 200 then .error ((hdT ts).pos, 113) else x

def wNot : List UInt8 := [110, 111, 116]
def wAnd : List UInt8 := [97, 110, 100]
def wOr : List UInt8 := [111, 114]
def wSrc : List UInt8 := [115, 114, 99]
def wDst : List UInt8 := [100, 115, 116]
def wHost : List UInt8 := [104, 111, 115, 116]
def wNet : List UInt8 := [110, 101, 116]
def wPort : List UInt8 := [112, 111, 114, 116]
def wPortrange : List UInt8 := [112, 111, 114, 116, 114, 97, 110, 103, 101]
def wProto : List UInt8 := [112, 114, 111, 116, 111]
def wLen : List UInt8 := [108, 101, 110]
def wInbound : List UInt8 := [105, 110, 98, 111, 117, 110, 100]
def wOutbound : List UInt8 := [111, 117, 116, 98, 111, 117, 110, 100]

/-- The operation of a comparison's sign; none: it is no such sign. -/
def relV (x : List UInt8) : Option Nat :=
  if x = [61] ∨ x = [61, 61] then some 1 else if x = [33, 61] then some 2 else if x = [60] then some 3 else if x = [60, 61] then some 4 else if x = [62] then some 5 else if x = [62, 61] then some 6 else none
/-- The node of a sign or word in a row of the grammar. -/
def binV (k : Nat) (x : List UInt8) : Option Nd :=
  if k = 1 then (if x = wOr ∨ x = [124, 124] then some (ndK 8) else none)
  else if k = 2 then (if x = wAnd ∨ x = [38, 38] then some (ndK 7) else none)
  else if k = 4 then (relV x).map fun o => { ndK 6 with op := o }
  else if k = 5 then (if x = [124] then some { ndK 4 with op := 7 } else none)
  else if k = 6 then (if x = [94] then some { ndK 4 with op := 8 } else none)
  else if k = 7 then (if x = [38] then some { ndK 4 with op := 6 } else none)
  else if k = 8 then (if x = [60, 60] then some { ndK 4 with op := 9 } else if x = [62, 62] then some { ndK 4 with op := 10 } else none)
  else if k = 9 then (if x = [43] then some { ndK 4 with op := 1 } else if x = [45] then some { ndK 4 with op := 2 } else none)
  else if k = 10 then (if x = [42] then some { ndK 4 with op := 3 } else if x = [47] then some { ndK 4 with op := 4 } else if x = [37] then some { ndK 4 with op := 5 } else none)
  else none
/-- What a name speaks of; 0: it is none. -/
def nameN (x : List UInt8) : Nat :=
  if x = [112, 112, 112] then 1 else if x = [105, 112] then 2 else if x = [105, 112, 54] then 3 else if x = [116, 99, 112] then 4 else if x = [117, 100, 112] then 5
  else if x = [105, 99, 109, 112] then 6 else if x = [105, 99, 109, 112, 54] then 7 else if x = [108, 99, 112] then 8 else if x = [112, 97, 112] then 9 else if x = [99, 104, 97, 112] then 10
  else if x = [105, 112, 99, 112] then 11 else if x = [105, 112, 54, 99, 112] then 12 else if x = [109, 112] then 13 else 0

def addrT (kind : Nat) (ts : List Tk) : Except Er (Nd × List Tk) :=
  if (hdT ts).kind = 3 then (match parse4V (hdT ts).text with
    | some a => .ok ({ ndK kind with of := 2, addr := a ++ List.replicate 12 0 }, ts.tail)
    | none => failV ts 112)
  else if (hdT ts).kind = 4 then (match parse6V (hdT ts).text with
    | some a => .ok ({ ndK kind with of := 3, addr := a }, ts.tail)
    | none => failV ts 112)
  else failV ts 111
def sideN (ts : List Tk) : Nat := if isB ts wSrc = true then 1 else if isB ts wDst = true then 2 else 0
def sideR (ts : List Tk) : List Tk := if sideN ts = 0 then ts else ts.tail
/-- Behind a side. -/
def sidedB (of at' side : Nat) (ts : List Tk) : Out :=
  if isB ts wPort = true then thenE (numT ts.tail) fun p => .ok ([({ ndK 16 with of := of, side := side, n := p.1, m := p.1 }, at')], p.2)
  else if isB ts wPortrange = true then thenE (numT ts.tail) fun p => thenE (mustV [45] p.2) fun r => thenE (numT r) fun q => .ok ([({ ndK 16 with of := of, side := side, n := p.1, m := q.1 }, at')], q.2)
  else if of = 0 ∧ isB ts wHost = true then thenE (addrT 14 ts.tail) fun p => .ok ([({ p.1 with side := side }, at')], p.2)
  else if of = 0 ∧ isB ts wNet = true then thenE (addrT 15 ts.tail) fun p => thenE (mustV [47] p.2) fun r => thenE (numT r) fun q => .ok ([({ p.1 with bits := q.1, side := side }, at')], q.2)
  else failV ts 111
def sidedV (of at' : Nat) (ts : List Tk) : Out := sidedB of at' (sideN ts) (sideR ts)
/-- What begins with a word that is no name. -/
def wordF (ts : List Tk) : Out :=
  if (hdT ts).text = wLen then .ok ([(ndK 2, (hdT ts).pos)], ts.tail)
  else if (hdT ts).text = wInbound then .ok ([({ ndK 10 with side := 1 }, (hdT ts).pos)], ts.tail)
  else if (hdT ts).text = wOutbound then .ok ([({ ndK 10 with side := 2 }, (hdT ts).pos)], ts.tail)
  else if (hdT ts).text = wProto then thenE (numT ts.tail) fun p => .ok ([({ ndK 12 with n := p.1 }, (hdT ts).pos)], p.2)
  else if (hdT ts).text ∈ [wSrc, wDst, wHost, wNet, wPort, wPortrange] then sidedV 0 (hdT ts).pos ts
  else failV ts 111
/-- A load's size, and its end. -/
def sizeF (ts : List Tk) : Except Er (Nat × List Tk) :=
  if isB ts [58] = true then thenE (numT ts.tail) fun p => thenE (mustV [93] p.2) fun r => .ok (p.1, r)
  else thenE (mustV [93] ts) fun r => .ok (1, r)
/-- What begins with a name that is gone by. -/
def nameF (rec : Nat → List Tk → Out) (nest of at' : Nat) (ts : List Tk) : Out :=
  if isB ts [91] = true ∧ of ≠ 13 then opnV nest ts (thenE (rec (nest + 1) ts.tail) fun p => thenE (sizeF p.2) fun q => .ok (p.1 ++ [({ ndK 3 with of := of, size := q.1 }, at')], q.2))
  else if of = 1 then failV ts 111
  else if (of = 2 ∨ of = 3) ∧ isB ts wProto = true then thenE (numT ts.tail) fun p => .ok ([({ ndK 13 with of := of, n := p.1 }, at')], p.2)
  else if (of = 4 ∨ of = 5) ∧ (isB ts wSrc = true ∨ isB ts wDst = true ∨ isB ts wPort = true ∨ isB ts wPortrange = true) then sidedV of at' ts
  else .ok ([({ ndK 11 with of := of }, at')], ts)
/-- A part. -/
def partF (rec : Nat → List Tk → Out) (nest : Nat) (ts : List Tk) : Out :=
  if (hdT ts).kind = 1 then .ok ([({ ndK 1 with n := (hdT ts).num }, (hdT ts).pos)], ts.tail)
  else if isB ts [40] = true then opnV nest ts (thenE (rec (nest + 1) ts.tail) fun p => thenE (mustV [41] p.2) fun r => .ok (p.1, r))
  else if (hdT ts).kind ≠ 2 then failV ts 111
  else if nameN (hdT ts).text ≠ 0 then nameF rec nest (nameN (hdT ts).text) (hdT ts).pos ts.tail
  else wordF ts
/-- The node of a row's sign, if one is reached. -/
def opT (k : Nat) (ts : List Tk) : Option Nd := if (hdT ts).kind = 5 ∨ (hdT ts).kind = 2 then binV k (hdT ts).text else none
/-- Behind the first part of a row: the others. -/
def loopG (rec : List Tk → Out) (k : Nat) : Nat → List (Nd × Nat) → List Tk → Out
  | 0, ns, ts => .ok (ns, ts)
  | f + 1, ns, ts => match opT k ts with
    | none => .ok (ns, ts)
    | some nd => thenE (rec ts.tail) fun p => if k = 4 then .ok (ns ++ p.1 ++ [(nd, (hdT ts).pos)], p.2) else loopG rec k f (ns ++ p.1 ++ [(nd, (hdT ts).pos)]) p.2
/-- A row of the grammar, 1 to 12, over what reads the rows below it. -/
def stepR (rec : Nat → Nat → List Tk → Out) (k nest : Nat) (ts : List Tk) : Out :=
  if k = 3 ∧ (isB ts wNot = true ∨ isB ts [33] = true) then opnV nest ts (thenE (rec 3 (nest + 1) ts.tail) fun p => .ok (p.1 ++ [(ndK 9, (hdT ts).pos)], p.2))
  else if k = 11 ∧ isB ts [45] = true then opnV nest ts (thenE (rec 11 (nest + 1) ts.tail) fun p => .ok (p.1 ++ [(ndK 5, (hdT ts).pos)], p.2))
  else if k = 3 ∨ k = 11 then rec (k + 1) nest ts
  else if k = 12 then partF (rec 1) nest ts
  else thenE (rec (k + 1) nest ts) fun p => loopG (rec (k + 1) nest) k p.2.length p.1 p.2
def rowF : Nat → Nat → Nat → List Tk → Out
  | 0 => fun _ _ _ => .error (0, 0)
  | f + 1 => stepR (rowF f)
theorem row_succ (f k nest : Nat) (ts : List Tk) : rowF (f + 1) k nest ts = stepR (rowF f) k nest ts := rfl
def needF (k : Nat) (ts : List Tk) : Nat := 13 * ts.length + (13 - k)
/-- P11.1, of tokens. -/
def parseT (ts : List Tk) : Except Er (List (Nd × Nat)) := thenE (rowF (needF 1 ts) 1 0 ts) fun p => if (hdT p.2).kind = 0 then .ok p.1 else failV p.2 111
/-- P11.1. -/
def parseV (s : List UInt8) : Except Er (List (Nd × Nat)) := thenE (lexV s) parseT

end Go.Proofs.YtbdmpjnlgdahmaaGreatDoor

namespace Go.Proofs.YtbdmpjnlgdahmaaGreatDoor
open Go.RowKit
set_option maxRecDepth 100000

set_option maxHeartbeats 2000000 in
theorem refsplit_any (s : ByteArray) (b : UInt8) (w : World) (hs : s.size ≤ 1048576) :
    Calls Tryz.prog 127 #[.string s, .int .u8 (b.toNat : Int)] w fun e w' => ∃ v, e = .returned v ∧ SOwns w' w.heap.size v (splitV b (sl s)) ∧ w.grownBy w' none := by
  obtain ⟨i0, hi, hz0, hz1, hz2⟩ := info_parts info9
  go_enter Tryz.func127, Tryz.ntmps127
  go_wp2
  go_loopw [5, 6, 7] (fun o f i wr => ∃ (j g : Nat) (ls : List (List UInt8)), g ≤ j ∧ j ≤ s.size ∧ ls.length ≤ j ∧ i = .int .i64 j ∧ f = .int .i64 g ∧ ls ++ splitG b (((sl s).drop g).take (j - g)) ((sl s).drop j) = splitV b (sl s) ∧ SOwns wr w.heap.size o ls ∧ w.grownBy wr none) (fun _ _ i _ => s.size - (intOf i).toNat)
  case atStart => exact ⟨0, 0, [], Nat.le_refl _, Nat.zero_le _, Nat.le_refl _, rfl, rfl, rfl, World.ownsRow_nil _ _ _ _, World.grownBy.refl _ _⟩
  case round =>
    obtain ⟨j, g, ls, hgj, hj, hll, rfl, rfl, hls, O, G⟩ := hrel
    have HN : Hid (ls ++ splitG b (((sl s).drop g).take (j - g)) ((sl s).drop j) = splitV b (sl s)) := hls
    clear hls
    by_cases hlt : j < s.size
    · have hji : (j : Int) < (s.size : Int) := by omega
      have HS : Hid ((sl s).drop j = s[j] :: (sl s).drop (j + 1)) := sl_drop s j hlt
      have hb := s[j].toNat_lt
      by_cases hd : s[j] = b
      · have hd1 : ((s[j].toNat : Int) == (b.toNat : Int)) = true := by rw [hd]; simp
        have HE : Hid ((ls ++ [sl (s.extract g j)]) ++ splitG b (((sl s).drop (j + 1)).take (j + 1 - (j + 1))) ((sl s).drop (j + 1)) = splitV b (sl s)) := by
          show (ls ++ [sl (s.extract g j)]) ++ splitG b (((sl s).drop (j + 1)).take (j + 1 - (j + 1))) ((sl s).drop (j + 1)) = splitV b (sl s)
          rw [← HN.out, HS.out, hd, splitG, if_pos rfl, sl_extract, Nat.sub_self]
          simp
        clear hd
        have hgi : (g : Int) ≤ (j : Int) := by omega
        have hjs : (j : Int) ≤ (s.size : Int) := by omega
        have HT : Hid (Value.string (s.extract g j) = str (sl (s.extract g j))) := str_sl _
        go_wp2_with (at_builtin; refine wpList_append_cv rfl (.tmp 19) (.tmp 24) 43 rfl 9 i0 (.string ⟨#[]⟩) 1 16 Tryz.underlying43 hi hz0 hz1 hz2 rfl (by decide) w.heap.size u5 ls.length (ls.map str) rfl ?q1 (some ⟨wr.heap.size, 0, none⟩) 1 1 [.string (s.extract g j)] rfl rfl (by simp) ?q2 (by simp [Value.oneCell']) ?q3 ?q4 ?q5 ?q6)
        case q1 => exact O.alloc _
        case q2 => exact cv_lit wr _ _
        case q3 => unfold maxLen; omega
        case q4 => omega
        case q5 => have := G.size; simp; omega
        case q6 =>
          intro y2 w2 O2 K2
          have G2 : w.grownBy w2 none := grown_trans_new (grown_trans G (World.grownBy_alloc _ _ _)) K2 (fun z hz => (O.lt z hz).1)
          have O3 : SOwns w2 w.heap.size y2 (ls ++ [sl (s.extract g j)]) := by
            unfold SOwns
            rw [List.length_append, List.map_append]
            rw [HT.out] at O2
            exact O2
          clear O2 K2 O G
          go_wp2
          go_roundw
          case rel => exact ⟨j + 1, j + 1, ls ++ [sl (s.extract g j)], Nat.le_refl _, by omega, by simp; omega, by go_num, by go_num, HE.out, O3, G2⟩
          case measure => simp [intOf]; omega
      · have hd1 : ((s[j].toNat : Int) == (b.toNat : Int)) = false := by
          rw [beq_eq_false_iff_ne]
          intro h
          exact hd (UInt8.toNat_inj.1 (by omega))
        have HE : Hid (ls ++ splitG b (((sl s).drop g).take (j + 1 - g)) ((sl s).drop (j + 1)) = splitV b (sl s)) := by
          show ls ++ splitG b (((sl s).drop g).take (j + 1 - g)) ((sl s).drop (j + 1)) = splitV b (sl s)
          have e : ((sl s).drop g).take (j + 1 - g) = ((sl s).drop g).take (j - g) ++ [s[j]] := by
            exact take_grow s g j hgj hlt
          rw [← HN.out, HS.out, splitG, if_neg hd, e]
        clear hd
        go_wp2
        go_roundw
        case rel => exact ⟨j + 1, g, ls, by omega, by omega, by omega, by go_num, rfl, HE.out, O, G⟩
        case measure => simp [intOf]; omega
    · obtain rfl : j = s.size := by omega
      have e0 : (sl s).drop s.size = [] := List.drop_eq_nil_of_le (by rw [sl_len]; omega)
      have hgi2 : (g : Int) ≤ (s.size : Int) := by omega
      have HE : Hid (splitV b (sl s) = ls ++ [sl (s.extract g s.size)]) := by
        show splitV b (sl s) = ls ++ [sl (s.extract g s.size)]
        rw [← HN.out, e0, splitG, sl_extract]
      have HT : Hid (Value.string (s.extract g s.size) = str (sl (s.extract g s.size))) := str_sl _
      clear e0
      go_wp2_with (at_builtin; refine wpList_append_cv rfl (.tmp 28) (.tmp 32) 43 rfl 9 i0 (.string ⟨#[]⟩) 1 16 Tryz.underlying43 hi hz0 hz1 hz2 rfl (by decide) w.heap.size u5 ls.length (ls.map str) rfl ?r1 (some ⟨wr.heap.size, 0, none⟩) 1 1 [.string (s.extract g s.size)] rfl rfl (by simp) ?r2 (by simp [Value.oneCell']) ?r3 ?r4 ?r5 ?r6)
      case r1 => exact O.alloc _
      case r2 => exact cv_lit wr _ _
      case r3 => unfold maxLen; omega
      case r4 => omega
      case r5 => have := G.size; simp; omega
      case r6 =>
        intro y2 w2 O2 K2
        have G2 : w.grownBy w2 none := grown_trans_new (grown_trans G (World.grownBy_alloc _ _ _)) K2 (fun z hz => (O.lt z hz).1)
        have O3 : SOwns w2 w.heap.size y2 (ls ++ [sl (s.extract g s.size)]) := by
          unfold SOwns
          rw [List.length_append, List.map_append]
          rw [HT.out] at O2
          exact O2
        clear O2 K2 O G
        go_wp2
        go_ret
        exact ⟨_, rfl, by rw [HE.out]; exact O3, G2⟩

theorem hexFrom_lt (s : List UInt8) (v n : Nat) (h : hexFrom v s = some n) : n < (v + 1) * 16 ^ s.length := by
  induction s generalizing v with
  | nil => simp [hexFrom] at h; subst h; simp
  | cons c r ih =>
    rw [hexFrom] at h
    split at h
    · have h1 := ih _ h
      have h2 := digV_lt c.toNat
      have h3 : (16 * v + digV c.toNat + 1) * 16 ^ r.length ≤ (16 * (v + 1)) * 16 ^ r.length := Nat.mul_le_mul_right _ (by omega)
      rw [List.length_cons, Nat.pow_succ, Nat.mul_comm (16 ^ r.length) 16, ← Nat.mul_assoc, Nat.mul_comm (v + 1) 16]
      omega
    · cases h
theorem group_lt {s : List UInt8} {n : Nat} (h : groupV s = some n) : n < 65536 := by
  unfold groupV at h
  split at h
  · cases h
  · have h1 := hexFrom_lt s 0 n h
    have h2 : 16 ^ s.length ≤ 16 ^ 4 := Nat.pow_le_pow_right (by decide) (by omega)
    omega

set_option maxHeartbeats 1000000 in
theorem refgroup_any (s : ByteArray) (w : World) :
    Calls Tryz.prog 137 #[.string s] w fun e w' => e = .returned (.tuple #[.int .i64 (((groupV (sl s)).getD 0 : Nat) : Int), .bool (groupV (sl s)).isSome]) ∧ w = w' := by
  have hl := sl_len s
  by_cases h0 : s.size < 1
  · have e : groupV (sl s) = none := by rw [groupV, if_pos (by omega)]
    rw [e]
    have h0' : (s.size : Int) < 1 := by omega
    clear hl
    go_enter Tryz.func137, Tryz.ntmps137
    go_wp2
    all_goals (go_ret2; exact ⟨rfl, rfl⟩)
  · by_cases h4 : 4 < s.size
    · have e : groupV (sl s) = none := by rw [groupV, if_pos (by omega)]
      rw [e]
      have h0' : ¬ (s.size : Int) < 1 := by omega
      have h4' : (4 : Int) < (s.size : Int) := by omega
      clear hl
      go_enter Tryz.func137, Tryz.ntmps137
      go_wp2
      all_goals (go_ret2; exact ⟨rfl, rfl⟩)
    · have e : groupV (sl s) = hexFrom 0 (sl s) := by rw [groupV, if_neg (by omega)]
      rw [e]
      have h0' : ¬ (s.size : Int) < 1 := by omega
      have h4' : ¬ (4 : Int) < (s.size : Int) := by omega
      obtain ⟨ans, hans⟩ : ∃ ans, hexFrom 0 (sl s) = ans := ⟨_, rfl⟩
      rw [hans]
      have HA : Hid (hexFrom 0 (sl s) = ans) := hans
      clear e hans hl
      go_enter Tryz.func137, Tryz.ntmps137
      go_wp2
      clear h0' h4'
      go_loop [4, 5] (fun x i => ∃ k v : Nat, k ≤ s.size ∧ Hid (v < 16 ^ k) ∧ i = .int .i64 k ∧ x = .int .i64 v ∧ hexFrom v ((sl s).drop k) = ans) (fun _ i => s.size - (intOf i).toNat)
      case atStart => exact ⟨0, 0, Nat.zero_le _, (by decide : 0 < 16 ^ 0), rfl, rfl, HA.out⟩
      case round =>
        obtain ⟨k, v, hk, HV0, rfl, rfl, hi⟩ := hrel
        have HI : Hid (hexFrom v ((sl s).drop k) = ans) := hi
        clear hi
        have hv4 : v < 65536 := by
          have h1 : 16 ^ k ≤ 65536 := Nat.pow_le_pow_right (n := 16) (j := 4) (by decide) (by omega)
          exact Nat.lt_of_lt_of_le HV0.out h1
        by_cases hlt : k < s.size
        · have hki : (k : Int) < (s.size : Int) := by omega
          have HS : Hid ((sl s).drop k = s[k] :: (sl s).drop (k + 1)) := sl_drop s k hlt
          have hb := s[k].toNat_lt
          have hdl := digV_lt s[k].toNat
          cases hd : digOk s[k].toNat with
          | true =>
            have HN : Hid (hexFrom (16 * v + digV s[k].toNat) ((sl s).drop (k + 1)) = ans) := by
              show _ = ans
              rw [← HI.out, HS.out, hexFrom, if_pos hd]
            have HV : Hid (16 * v + digV s[k].toNat < 16 ^ (k + 1)) := by
              show 16 * v + digV s[k].toNat < 16 ^ (k + 1)
              have := HV0.out
              rw [Nat.pow_succ]; omega
            clear HV0
            go_wp2_with (go_at_call 83; refine (refdigit_any _ _ (by omega)).mono ?_; rintro e w' ⟨rfl, rfl⟩; rw [hd, if_pos rfl])
            go_round
            case rel => exact ⟨k + 1, 16 * v + digV s[k].toNat, by omega, HV, by go_num, by go_num, HN.out⟩
            case measure => simp [intOf]; omega
          | false =>
            have hans : ans = none := by rw [← HI.out, HS.out, hexFrom, if_neg (by rw [hd]; simp)]
            have HAN : Hid (ans = none) := hans
            clear HV0 hans
            go_wp2_with (go_at_call 83; refine (refdigit_any _ _ (by omega)).mono ?_; rintro e w' ⟨rfl, rfl⟩; rw [hd, if_neg (by simp)])
            go_ret2
            exact ⟨by rw [HAN.out]; rfl, rfl⟩
        · obtain rfl : k = s.size := by omega
          have hans : ans = some v := by
            rw [← HI.out, List.drop_eq_nil_of_le (by rw [sl_len]; omega)]; rfl
          have HAN : Hid (ans = some v) := hans
          clear HV0 hans
          go_wp2
          go_ret2
          exact ⟨by rw [HAN.out]; rfl, rfl⟩

/-- Where the first '::' is, from a place on. -/
theorem gapV_two (a : UInt8) (r : List UInt8) : gapV (a :: r) = if a = 58 ∧ r.head? = some 58 then some 0 else (gapV r).map fun k => k + 1 := rfl
def gapI : Option Nat → Int
  | none => -1
  | some k => k

set_option maxHeartbeats 1000000 in
theorem refgap_any (s : ByteArray) (w : World) (hs : s.size ≤ 1099511627776) :
    Calls Tryz.prog 128 #[.string s] w fun e w' => e = .returned (.int .i64 (gapI (gapV (sl s)))) ∧ w = w' := by
  obtain ⟨ans, hans⟩ : ∃ ans, gapV (sl s) = ans := ⟨_, rfl⟩
  rw [hans]
  have HA : Hid (gapV (sl s) = ans) := hans
  clear hans
  go_enter Tryz.func128, Tryz.ntmps128
  go_wp2
  go_loop [3] (fun i => ∃ k : Nat, k ≤ s.size ∧ i = .int .i64 k ∧ Hid (((gapV ((sl s).drop k)).map fun m => m + k) = ans)) (fun i => s.size - (intOf i).toNat)
  case atStart =>
    refine ⟨0, Nat.zero_le _, rfl, ?_⟩
    show ((gapV ((sl s).drop 0)).map fun m => m + 0) = ans
    rw [← HA.out, List.drop_zero]
    cases gapV (sl s) <;> rfl
  case round =>
    obtain ⟨k, hk, rfl, HI⟩ := hrel
    by_cases hlt : k + 1 < s.size
    · have hki : (k : Int) + 1 < (s.size : Int) := by omega
      have hk0 : (k : Int) < (s.size : Int) := by omega
      have HS : Hid ((sl s).drop k = s[k] :: (sl s).drop (k + 1)) := sl_drop s k (by omega)
      have HS2 : Hid ((sl s).drop (k + 1) = s[k + 1] :: (sl s).drop (k + 2)) := sl_drop s (k + 1) hlt
      have b0 := s[k].toNat_lt
      have b1 := s[k + 1].toNat_lt
      have e58 : ∀ c : UInt8, ((c.toNat : Int) == 58) = true ↔ c = 58 := fun c => by
        rw [beq_iff_eq]
        constructor
        · intro h; exact UInt8.toNat_inj.1 (by simp; omega)
        · intro h; rw [h]; rfl
      have HG : Hid (ans = if s[k] = 58 ∧ s[k + 1] = 58 then some k else ((gapV ((sl s).drop (k + 1))).map fun m => m + (k + 1))) := by
        show ans = _
        rw [← HI.out, HS.out, gapV_two, HS2.out]
        simp only [List.head?_cons, Option.some.injEq]
        split
        · simp
        · cases gapV (s[k + 1] :: (sl s).drop (k + 2)) with
          | none => rfl
          | some m => simp only [Option.map_some]; congr 1; omega
      clear HI HS HS2
      by_cases h1 : s[k] = 58
      · have h1b : ((s[k].toNat : Int) == 58) = true := (e58 _).2 h1
        by_cases h2 : s[k + 1] = 58
        · have h2b : ((s[k + 1].toNat : Int) == 58) = true := (e58 _).2 h2
          have HAN : Hid (ans = some k) := by
            show ans = some k
            rw [HG.out, if_pos ⟨h1, h2⟩]
          clear h1 h2 HG e58
          go_wp2
          go_ret
          exact ⟨by rw [HAN.out]; rfl, rfl⟩
        · have h2b : ((s[k + 1].toNat : Int) == 58) = false := by
            cases h : ((s[k + 1].toNat : Int) == 58) with
            | false => rfl
            | true => exact absurd ((e58 _).1 h) h2
          have HAN : Hid (((gapV ((sl s).drop (k + 1))).map fun m => m + (k + 1)) = ans) := by
            show _ = ans
            rw [HG.out, if_neg (fun e => h2 e.2)]
          clear h1 h2 HG e58
          go_wp2
          go_round
          case rel => exact ⟨k + 1, by omega, by go_num, HAN⟩
          case measure => simp [intOf]; omega
      · have h1b : ((s[k].toNat : Int) == 58) = false := by
          cases h : ((s[k].toNat : Int) == 58) with
          | false => rfl
          | true => exact absurd ((e58 _).1 h) h1
        have HAN : Hid (((gapV ((sl s).drop (k + 1))).map fun m => m + (k + 1)) = ans) := by
          show _ = ans
          rw [HG.out, if_neg (fun e => h1 e.1)]
        clear h1 HG e58
        go_wp2
        go_round
        case rel => exact ⟨k + 1, by omega, by go_num, HAN⟩
        case measure => simp [intOf]; omega
    · have hki : ¬ (k : Int) + 1 < (s.size : Int) := by omega
      have HAN : Hid (ans = none) := by
        show ans = none
        rw [← HI.out]
        cases hd : (sl s).drop k with
        | nil => rfl
        | cons c r =>
          have : (c :: r).length = s.size - k := by rw [← hd, List.length_drop, sl_len]
          have hr : r = [] := List.eq_nil_of_length_eq_zero (by simp at this; omega)
          rw [hr, gapV_two, if_neg (by simp)]
          rfl
      go_wp2
      go_ret
      exact ⟨by rw [HAN.out]; rfl, rfl⟩

theorem info3 : (Tryz.prog.info? 3).map (fun i => (i.zero, i.size, i.bytes)) = some (some (.int .i64 0), 1, 8) := by kernel_rfl

/-- A row of numbers. -/
def gv (n : Nat) : Value := .int .i64 (n : Int)
abbrev GOwns (w : World) (base : Nat) (v : Value) (ns : List Nat) : Prop := w.ownsRow base 3 1 v ns.length (ns.map gv)

theorem CV.strs {w : World} {ao : Option Addr} {ls : List (List UInt8)} (h : CV w ao (ls.map str)) {k : Nat} (hk : k < ls.length) :
    ∃ b off, ao = some ⟨b, off, none⟩ ∧ ∀ i (hi : i < ls.length), w.cell? ⟨b, off + i, none⟩ = some (str ls[i]) := by
  obtain ⟨b, off, hao, hc⟩ := h.addr (k := k) (by simpa using hk)
  exact ⟨b, off, hao, fun i hi => by rw [hc i (by simpa using hi)]; simp⟩

theorem CV.nums {w : World} {ao : Option Addr} {ns : List Nat} (h : CV w ao (ns.map gv)) {k : Nat} (hk : k < ns.length) :
    ∃ b off, ao = some ⟨b, off, none⟩ ∧ ∀ i (hi : i < ns.length), w.cell? ⟨b, off + i, none⟩ = some (.int .i64 (ns[i] : Int)) := by
  obtain ⟨b, off, hao, hc⟩ := h.addr (k := k) (by simpa using hk)
  exact ⟨b, off, hao, fun i hi => by rw [hc i (by simpa using hi)]; simp [gv]⟩

end Go.Proofs.YtbdmpjnlgdahmaaGreatDoor
