import Derived.Test.YtcodofamdhcfiaaGreatLotP3
import Derived.Test.YtcodofamdhcfiaaGreatLotP2
import Derived.Test.YtcodofamdhcfiaaGreatLotP1
import Derived.Laws.StructEq
import Derived.Deep.MidRow
namespace Go.Proofs.YtcodofamdhcfiaaGreat
open Go.RowKit
set_option maxRecDepth 100000
def adr (x : Nd) (i : Nat) : Value := .int .u8 ((x.addr.getD i 0).toNat : Int)
def Nd.cells (x : Nd) : List Value := [.int .i64 (x.kind : Int), .int .i64 (x.op : Int), .int .u32 (x.n : Int), .int .u32 (x.m : Int), .int .i64 (x.size : Int), .int .i64 (x.of : Int), .int .i64 (x.side : Int),
 adr x 0, adr x 1, adr x 2, adr x 3, adr x 4, adr x 5, adr x 6, adr x 7, adr x 8, adr x 9, adr x 10, adr x 11, adr x 12, adr x 13, adr x 14, adr x 15, .int .i64 (x.bits : Int)]
theorem Nd.cells_len (x : Nd) : x.cells.length = 24 := rfl
theorem Nd.cells_one (x : Nd) : ∀ u ∈ x.cells, u.oneCell' = true := by
 intro u hu
 simp only [Nd.cells, adr, List.mem_cons, List.not_mem_nil, or_false] at hu
 rcases hu with rfl | rfl | rfl | rfl | rfl | rfl | rfl | rfl | rfl | rfl | rfl | rfl | rfl | rfl | rfl | rfl | rfl | rfl | rfl | rfl | rfl | rfl | rfl | rfl <;> rfl
theorem size52 : (Tryz.prog.info? 52).map (·.size) = some 24 := by kernel_rfl
theorem info52 : (Tryz.prog.info? 52).map (fun i => (i.zero, i.size, i.bytes)) = some (some (.agg nd0.cells.toArray), 24, 72) := by kernel_rfl
theorem eqFields_refl {P : Program} (d : Nat) (xs : Array Value) (w : World) : ∀ fs : List Field, (∀ f ∈ fs, ∃ a, (part f.type xs f.offset).run P w = .ok a w ∧ (Op.equalIn d f.type a a).run P w = .ok true w) → (Op.eqFields d xs xs fs).run P w = .ok true w
 | [], _ => by simp [Op.eqFields]
 | f :: fs, h => by
  obtain ⟨a, h1, h2⟩ := h f (List.mem_cons_self ..)
  have ih := eqFields_refl d xs w fs (fun g hg => h g (List.mem_cons_of_mem _ hg))
  unfold Op.eqFields
  split
  ·simp only [Sem.run_bind, h1, h2, Result.andThen_ok, Bool.not_true, Bool.false_eq_true, if_false]
   exact ih
  ·exact ih
theorem eq_arr {P : Program} {t e : TypeId} {n : Nat} {i : TypeInfo} (d : Nat) (hu : P.underlying t = some (.array n e)) (hi : P.info? e = some i) (he : P.underlying e = some (.int .u8)) (hk : P.plainKey e = true) (hc : P.cellsOf e = 1) (xs : List UInt8) (hx : xs.length = n) (w : World) :
  (Op.equalIn (d + 2) t (.agg (xs.map bv).toArray) (.agg (xs.map bv).toArray)).run P w = .ok true w := by
 rw [run_equalIn_array w (d + 1) _ _ hu hi, hc, List.range_eq_range', items_bytes d e he hk xs xs w rfl n 0 (by omega)]
 simp
structure Lk where
 acfc : Bool
 pfc : Bool
 mp : Int
structure Vw where
 proto : Nat
 multi : Bool
 beg : Bool
 fin : Bool
 seq : Nat
 pos : Nat
 net : Nat
 next : Nat
 load : Nat
def Vw.zero : Vw := ⟨0, false, false, false, 0, 0, 0, 0, 0⟩
def bg (b : List UInt8) (i : Nat) : Nat := (b.getD i 0).toNat
theorem bg_lt (b : List UInt8) (i : Nat) : bg b i < 256 := UInt8.toNat_lt _
theorem bg_app (b c : List UInt8) (i : Nat) (h : i < b.length) : bg (b ++ c) i = bg b i := by
 unfold bg
 rw [List.getD_eq_getElem?_getD, List.getD_eq_getElem?_getD, List.getElem?_append_left h]
def plainV (l : Lk) (b : List UInt8) : Except Int Nat :=
 if 2 ≤ b.length ∧ bg b 0 = 255 ∧ bg b 1 = 3 then .ok 2 else if l.acfc = true then .ok 0 else if b.length < 2 then .error 72 else .error 73
def protoV (l : Lk) (b : List UInt8) (p : Nat) : Except Int (Nat × Nat) :=
 if b.length ≤ p then .error 72
 else if bg b p % 2 = 1 then (if l.pfc = true then .ok (bg b p, p + 1) else .error 74)
 else if b.length ≤ p + 1 then .error 72
 else if bg b (p + 1) % 2 = 0 then .error 74 else .ok (256 * bg b p + bg b (p + 1), p + 2)
def szV (l : Lk) : Nat := if l.mp = 2 then 4 else 2
def spV (l : Lk) : Nat := if l.mp = 2 then 16777216 else 4096
def tpV (l : Lk) : Nat := if l.mp = 2 then 1073741824 else 16384
def headV (l : Lk) (b : List UInt8) (p : Nat) : Except Int (Bool × Bool × Nat × Nat) :=
 if b.length < p + szV l then .error 72
 else if numAt b p (szV l) % tpV l ≠ numAt b p (szV l) % spV l then .error 75
 else .ok (decide (numAt b p (szV l) / (2 * tpV l) = 1), decide (numAt b p (szV l) / tpV l % 2 = 1), numAt b p (szV l) % spV l, p + szV l)
def pieceV (l : Lk) (b : List UInt8) : Except Int Vw :=
 if 65535 < b.length then .error 71
 else (plainV l b).bind fun p => (protoV l b p).bind fun q =>
  if l.mp = 0 ∨ q.1 ≠ 61 then .ok ⟨q.1, false, false, false, 0, q.2, 0, 0, 0⟩
  else (headV l b q.2).bind fun h => .ok ⟨q.1, true, h.1, h.2.1, h.2.2.1, h.2.2.2, 0, 0, 0⟩
def ipV (v : Vw) (b : List UInt8) : Except Int Vw :=
 if v.proto = 87 then
  (if b.length < v.pos + 40 then .error 72 else if bg b v.pos / 16 ≠ 6 then .error 76 else .ok { v with net := 6, next := bg b (v.pos + 6), load := v.pos + 40 })
 else
  (if b.length < v.pos + 20 then .error 72 else if bg b v.pos / 16 ≠ 4 then .error 76
   else if 4 * (bg b v.pos % 16) < 20 then .error 76 else if b.length < v.pos + 4 * (bg b v.pos % 16) then .error 72
   else .ok { v with net := 4, next := bg b (v.pos + 9), load := if bg b (v.pos + 6) % 32 = 0 ∧ bg b (v.pos + 7) = 0 then v.pos + 4 * (bg b v.pos % 16) else v.load })
def checkF (l : Lk) : Int := if l.mp < 0 ∨ 2 < l.mp then 70 else 0
def lookX (l : Lk) (b : List UInt8) : Except Int Vw :=
 if checkF l ≠ 0 then .error (checkF l)
 else (pieceV l b).bind fun v => if v.multi = true ∧ v.beg = false then .ok v
  else (if v.multi = true then (protoV l b v.pos).bind fun q => .ok { v with proto := q.1, pos := q.2 } else .ok v).bind fun v =>
   if v.proto = 33 ∨ v.proto = 87 then ipV v b else .ok v
theorem numAt_app (b c : List UInt8) (p k : Nat) (h : p + k ≤ b.length) : numAt (b ++ c) p k = numAt b p k := by
 induction k with
 | zero => rfl
 | succ k ih =>
  have e : ∀ xs : List UInt8, numAt xs p (k + 1) = numAt xs p k * 256 + (xs.getD (p + k) 0).toNat := fun xs => rfl
  have e2 := bg_app b c (p + k) (by omega)
  unfold bg at e2
  rw [e, e, ih (by omega), e2]
theorem proto_grows {l : Lk} {b c : List UInt8} {p : Nat} {q : Nat × Nat} (h : protoV l b p = .ok q) : protoV l (b ++ c) p = .ok q ∧ p < q.2 ∧ q.2 ≤ b.length := by
 unfold protoV at h ⊢
 have hl : (b ++ c).length = b.length + c.length := List.length_append
 split at h
 ·cases h
 ·rename_i h1
  rw [if_neg (by omega), bg_app b c p (by omega)]
  split at h
  ·rename_i h2
   rw [if_pos h2]
   split at h
   ·rename_i h3
    rw [if_pos h3]
    cases h
    exact ⟨rfl, by simp, by simp; omega⟩
   ·cases h
  ·rename_i h2
   rw [if_neg h2]
   split at h
   ·cases h
   ·rename_i h3
    rw [if_neg (by omega), bg_app b c (p + 1) (by omega)]
    split at h
    ·cases h
    ·rename_i h4
     rw [if_neg h4]
     cases h
     exact ⟨rfl, by simp, by simp; omega⟩
theorem head_grows {l : Lk} {b c : List UInt8} {p : Nat} {q : Bool × Bool × Nat × Nat} (h : headV l b p = .ok q) : headV l (b ++ c) p = .ok q ∧ p < q.2.2.2 ∧ q.2.2.2 ≤ b.length ∧ q.2.2.1 < spV l := by
 have hs : 2 ≤ szV l := by unfold szV; split <;> omega
 have hp : 0 < spV l := by unfold spV; split <;> omega
 unfold headV at h ⊢
 have hl : (b ++ c).length = b.length + c.length := List.length_append
 split at h
 ·cases h
 ·rename_i h1
  rw [if_neg (by omega), numAt_app b c p (szV l) (by omega)]
  split at h
  ·cases h
  ·rename_i h2
   rw [if_neg h2]
   cases h
   exact ⟨rfl, by simp; omega, by simp; omega, Nat.mod_lt _ hp⟩
theorem bind_ok {α β : Type} {x : Except Int α} {f : α → Except Int β} {r : β} (h : x.bind f = .ok r) : ∃ a, x = .ok a ∧ f a = .ok r := by
 cases x with
 | error e => cases h
 | ok a => exact ⟨a, rfl, h⟩
theorem bind_of {α β : Type} {x : Except Int α} {f : α → Except Int β} {a : α} (h : x = .ok a) : x.bind f = f a := by rw [h]; rfl
theorem plain_le {l : Lk} {b : List UInt8} {p : Nat} (h : plainV l b = .ok p) : p = 0 ∨ p = 2 := by
 unfold plainV at h
 split at h
 ·cases h; exact .inr rfl
 ·split at h
  ·cases h; exact .inl rfl
  ·split at h <;> cases h
theorem piece_ok {l : Lk} {b : List UInt8} {v : Vw} (h : pieceV l b = .ok v) : b.length ≤ 65535 ∧ v.net = 0 ∧ v.next = 0 ∧ v.load = 0 ∧ 1 ≤ v.pos ∧ v.pos ≤ b.length ∧ v.proto < 65536 ∧ v.proto % 2 = 1
  ∧ (v.multi = false → v.beg = false ∧ v.fin = false ∧ v.seq = 0) ∧ (v.multi = true → l.mp ≠ 0 ∧ v.seq < spV l) := by
 unfold pieceV at h
 split at h
 ·cases h
 ·rename_i hlen
  obtain ⟨p, hp, h⟩ := bind_ok h
  obtain ⟨q, hq, h⟩ := bind_ok h
  obtain ⟨-, q1, q2⟩ := proto_grows (c := []) hq
  have hpr : q.1 < 65536 ∧ q.1 % 2 = 1 := by
   unfold protoV at hq
   have b1 := bg_lt b p
   have b2 := bg_lt b (p + 1)
   split at hq
   ·cases hq
   ·split at hq
    ·split at hq
     ·cases hq; exact ⟨by simp; omega, by simpa⟩
     ·cases hq
    ·split at hq
     ·cases hq
     ·split at hq
      ·cases hq
      ·cases hq; exact ⟨by simp; omega, by simp; omega⟩
  split at h
  ·cases h
   exact ⟨by omega, rfl, rfl, rfl, by simp; omega, q2, hpr.1, hpr.2, fun _ => ⟨rfl, rfl, rfl⟩, fun e => (by cases e)⟩
  ·rename_i hm
   obtain ⟨w, hw, h⟩ := bind_ok h
   obtain ⟨-, w1, w2, w3⟩ := head_grows (c := []) hw
   cases h
   exact ⟨by omega, rfl, rfl, rfl, by simp; omega, w2, hpr.1, hpr.2, fun e => (by cases e), fun _ => ⟨fun e => hm (.inl e), w3⟩⟩
structure LookOk (l : Lk) (b : List UInt8) (v : Vw) : Prop where
 len : b.length ≤ 65535
 pos1 : 1 ≤ v.pos
 pos2 : v.pos ≤ b.length
 load : v.load ≤ b.length
 far : v.load ≠ 0 → v.pos + 20 ≤ v.load
 pr : v.proto < 65536 ∧ v.proto % 2 = 1
 net : v.net = if (v.proto = 33 ∧ (v.multi = false ∨ v.beg = true)) then 4 else if (v.proto = 87 ∧ (v.multi = false ∨ v.beg = true)) then 6 else 0
 none : v.net = 0 → v.next = 0 ∧ v.load = 0
 next : v.next ≤ 255
 one : v.multi = false → v.beg = false ∧ v.fin = false ∧ v.seq = 0
 two : v.multi = true → l.mp ≠ 0 ∧ v.seq < spV l
 mp : 0 ≤ l.mp ∧ l.mp ≤ 2
theorem proto_odd {l : Lk} {b : List UInt8} {p : Nat} {q : Nat × Nat} (hq : protoV l b p = .ok q) : q.1 < 65536 ∧ q.1 % 2 = 1 := by
 unfold protoV at hq
 have b1 := bg_lt b p
 have b2 := bg_lt b (p + 1)
 split at hq
 ·cases hq
 ·split at hq
  ·split at hq
   ·cases hq; exact ⟨by simp; omega, by simpa⟩
   ·cases hq
  ·split at hq
   ·cases hq
   ·split at hq
    ·cases hq
    ·cases hq; exact ⟨by simp; omega, by simp; omega⟩
theorem look_ok {l : Lk} {b : List UInt8} {v : Vw} (h : lookX l b = .ok v) : LookOk l b v := by
 unfold lookX at h
 split at h
 ·cases h
 ·rename_i h0
  have hmp : 0 ≤ l.mp ∧ l.mp ≤ 2 := by
   unfold checkF at h0
   split at h0
   ·exact absurd (by simp) h0
   ·omega
  obtain ⟨u, hu, h⟩ := bind_ok h
  obtain ⟨p1, p2, p3, p4, p5, p6, p7, p8, p9, p10⟩ := piece_ok hu
  split at h
  ·rename_i hm
   cases h
   refine ⟨p1, p5, p6, by omega, fun e => absurd p4 e, ⟨p7, p8⟩, ?_, fun _ => ⟨p3, p4⟩, by omega, p9, p10, hmp⟩
   rw [p2, if_neg (by rw [hm.1, hm.2]; simp), if_neg (by rw [hm.1, hm.2]; simp)]
  ·rename_i hm
   obtain ⟨u2, hu2, h⟩ := bind_ok h
   have key : u2.net = 0 ∧ u2.next = 0 ∧ u2.load = 0 ∧ 1 ≤ u2.pos ∧ u2.pos ≤ b.length ∧ u2.proto < 65536 ∧ u2.proto % 2 = 1 ∧ u2.multi = u.multi ∧ u2.beg = u.beg ∧ u2.fin = u.fin ∧ u2.seq = u.seq := by
    split at hu2
    ·obtain ⟨q, hq, hu2⟩ := bind_ok hu2
     obtain ⟨-, q1, q2⟩ := proto_grows (c := []) hq
     have hpr := proto_odd hq
     cases hu2
     exact ⟨p2, p3, p4, by simp; omega, q2, hpr.1, hpr.2, rfl, rfl, rfl, rfl⟩
    ·cases hu2
     exact ⟨p2, p3, p4, p5, p6, p7, p8, rfl, rfl, rfl, rfl⟩
   obtain ⟨k1, k2, k3, k4, k5, k6, k7, k8, k9, k10, k11⟩ := key
   have hmb : u2.multi = false ∨ u2.beg = true := by
    rw [k8, k9]
    cases hmm : u.multi with
    | false => exact .inl rfl
    | true =>
     cases hbb : u.beg with
     | true => exact .inr rfl
     | false => exact absurd ⟨hmm, hbb⟩ hm
   have o1 : u2.multi = false → u2.beg = false ∧ u2.fin = false ∧ u2.seq = 0 := by rw [k8, k9, k10, k11]; exact p9
   have o2 : u2.multi = true → l.mp ≠ 0 ∧ u2.seq < spV l := by rw [k8, k11]; exact p10
   split at h
   ·rename_i hi
    unfold ipV at h
    split at h
    ·rename_i h87
     split at h
     ·cases h
     ·rename_i h40
      split at h
      ·cases h
      ·cases h
       refine ⟨p1, k4, k5, (by show u2.pos + 40 ≤ b.length; omega), fun _ => (by show u2.pos + 20 ≤ u2.pos + 40; omega), ⟨k6, k7⟩, ?_, fun e => (by cases e), ?_, o1, o2, hmp⟩
       ·show 6 = if (u2.proto = 33 ∧ (u2.multi = false ∨ u2.beg = true)) then 4 else if (u2.proto = 87 ∧ (u2.multi = false ∨ u2.beg = true)) then 6 else 0
        rw [if_neg (fun e => by omega), if_pos ⟨h87, hmb⟩]
       ·have := bg_lt b (u2.pos + 6)
        show bg b (u2.pos + 6) ≤ 255
        omega
    ·rename_i h87
     have h33 : u2.proto = 33 := by omega
     split at h
     ·cases h
     ·rename_i h20
      split at h
      ·cases h
      ·split at h
       ·cases h
       ·rename_i hsz
        split at h
        ·cases h
        ·rename_i hln
         cases h
         have hnx := bg_lt b (u2.pos + 9)
         refine ⟨p1, k4, k5, ?_, ?_, ⟨k6, k7⟩, ?_, fun e => (by cases e), ?_, o1, o2, hmp⟩
         ·show (if bg b (u2.pos + 6) % 32 = 0 ∧ bg b (u2.pos + 7) = 0 then u2.pos + 4 * (bg b u2.pos % 16) else u2.load) ≤ b.length
          split <;> omega
         ·show (if bg b (u2.pos + 6) % 32 = 0 ∧ bg b (u2.pos + 7) = 0 then u2.pos + 4 * (bg b u2.pos % 16) else u2.load) ≠ 0 → u2.pos + 20 ≤ (if bg b (u2.pos + 6) % 32 = 0 ∧ bg b (u2.pos + 7) = 0 then u2.pos + 4 * (bg b u2.pos % 16) else u2.load)
          split
          ·intro _; omega
          ·intro e; exact absurd k3 e
         ·show 4 = if (u2.proto = 33 ∧ (u2.multi = false ∨ u2.beg = true)) then 4 else if (u2.proto = 87 ∧ (u2.multi = false ∨ u2.beg = true)) then 6 else 0
          rw [if_pos ⟨h33, hmb⟩]
         ·show bg b (u2.pos + 9) ≤ 255
          omega
   ·rename_i hi
    cases h
    refine ⟨p1, k4, k5, by omega, fun e => absurd k3 e, ⟨k6, k7⟩, ?_, fun _ => ⟨k2, k3⟩, by omega, o1, o2, hmp⟩
    rw [k1, if_neg (fun e => hi (.inl e.1)), if_neg (fun e => hi (.inr e.1))]
set_option maxHeartbeats 400000 in
theorem in_any (n : Nat) (p s : Int) (w : World) (hn : n ≤ 140737488355328) (hs : s = 1 ∨ s = 2 ∨ s = 4) :
  Calls Tryz.prog 125 #[.int .i64 n, .int .i64 p, .int .i64 s] w fun e w' => e = .returned (.bool (okB n p s)) ∧ w = w' := by
 rcases hs with rfl | rfl | rfl
 all_goals
  go_enter Tryz.func125, Tryz.ntmps125
  go_wp2
  all_goals
   go_ret
   first
    | exact ⟨ret_bool (okB_of (by omega)), rfl⟩
    | exact ⟨ret_bool (okB_no (by omega)), rfl⟩
set_option maxHeartbeats 400000 in
theorem refget_any (a : Option Addr) (ca : Nat) (xs : List UInt8) (p s : Int) (w : World) (ha : Cells w a xs) (hn : xs.length ≤ 140737488355328) :
  Calls Tryz.prog 68 #[.slice a xs.length ca, .int .i64 p, .int .i64 s] w fun e w' => e = .returned (.tuple #[.int .u32 (getV xs p s), .bool (okB xs.length p s)]) ∧ w = w' := by
 by_cases h : s = 1 ∨ s = 2 ∨ s = 4
 case neg =>
  have hok : okB xs.length p s = false := (okB_no (by omega)).symm
  have h1 : (s != 1) = true := by rw [bne_iff_ne]; omega
  have h2 : (s != 2) = true := by rw [bne_iff_ne]; omega
  have h3 : (s != 4) = true := by rw [bne_iff_ne]; omega
  have hg : getV xs p s = 0 := by simp [getV, hok]
  rw [hok, hg]
  clear hok hg
  go_enter Tryz.func68, Tryz.ntmps68
  go_wp2
  go_ret2
  exact ⟨rfl, rfl⟩
 case pos =>
  obtain ⟨S, rfl⟩ : ∃ S : Nat, s = S := ⟨s.toNat, by omega⟩
  have hS : (S : Int) = 1 ∨ (S : Int) = 2 ∨ (S : Int) = 4 := h
  have key := three_tests hS
  have HS : Hid ((S : Int) = 1 ∨ (S : Int) = 2 ∨ (S : Int) = 4) := hS
  clear hS h
  cases hok : okB xs.length p S with
  | false =>
   have hg : getV xs p S = 0 := by simp [getV, hok]
   rw [hg]
   clear hg
   rcases key with h1 | ⟨h1, h2⟩ | ⟨h1, h2, h3⟩
   all_goals
    go_enter Tryz.func68, Tryz.ntmps68
    go_wp2_with (go_at_call 125; refine (in_any xs.length p _ _ hn HS.out).mono ?_; rintro e w' ⟨rfl, rfl⟩)
    go_ret2
    exact ⟨rfl, rfl⟩
  | true =>
   have hy := okB_yes hok
   obtain ⟨P, rfl⟩ := Int.eq_ofNat_of_zero_le hy.2.1
   have hP : P + S ≤ xs.length := by omega
   have hS4 : S ≤ 4 := by omega
   clear hy
   have hg : getV xs P S = numAt xs P S := by simp [getV, hok]
   rw [hg]
   clear hg
   rcases key with h1 | ⟨h1, h2⟩ | ⟨h1, h2, h3⟩
   all_goals
    go_enter Tryz.func68, Tryz.ntmps68
    go_wp2_with (go_at_call 125; refine (in_any xs.length P _ _ hn HS.out).mono ?_; rintro e w' ⟨rfl, rfl⟩)
    go_loop [8, 9] (fun v i => ∃ k : Nat, k ≤ S ∧ i = .int .i64 k ∧ v = .int .u32 (numAt xs P k)) (fun _ i => S - (intOf i).toNat)
    case atStart => exact ⟨0, Nat.zero_le _, rfl, rfl⟩
    case round =>
     obtain ⟨k, hk, rfl, rfl⟩ := hrel
     by_cases hlt : k < S
     ·obtain ⟨b, o, rfl, h1⟩ := ha.addr (k := P + k) (by omega)
      have c1 := h1 (P + k) (by omega)
      clear ha h1
      go_wp2
      go_round
      case rel => exact ⟨k + 1, by omega, by go_num, numAt_step xs P k (by omega) (by omega)⟩
      case measure => simp [intOf]; omega
     ·obtain rfl : k = S := by omega
      go_wp2
      go_ret2
      exact ⟨rfl, rfl⟩

end Go.Proofs.YtcodofamdhcfiaaGreat
